import Derived.Test.YtceflkeaenepcaaGreatDoorN5
namespace Go.Proofs.YtceflkeaenepcaaGreatDoor
open Go.RowKit
set_option maxRecDepth 4000 in
set_option maxHeartbeats 4000000 in
theorem sr_p0 (kd lo hi n kd2 lo2 hi2 n2 : Int) (ao bo : Option Addr) (tl tl2 ca cb : Nat) (nm nm2 ot ot2 : ByteArray) (wt wt2 : Nat) (w : World) (e0 : (kd == kd2) = false) : Calls Tryz.prog 16 #[.agg #[.int .i64 kd, .int .i64 lo, .int .i64 hi, .int .i64 n, .slice ao tl ca, .string nm, .string ot, .float .f64 wt], .agg #[.int .i64 kd2, .int .i64 lo2, .int .i64 hi2, .int .i64 n2, .slice bo tl2 cb, .string nm2, .string ot2, .float .f64 wt2]] w (BoolB w false) := by
  go_enter Tryz.func16, Tryz.ntmps16
  go_wp2
  go_big_quiet (fail)
  go_wp2
  go_ret
  exact ⟨rfl, (((Below.refl _ _).alloc (Nat.le_refl _) _).alloc (by simp) _).trans ((drewB ⟨_, rfl⟩).mono (by simp; omega))⟩
set_option maxRecDepth 4000 in
set_option maxHeartbeats 4000000 in
theorem sr_p1 (kd lo hi n kd2 lo2 hi2 n2 : Int) (ao bo : Option Addr) (tl tl2 ca cb : Nat) (nm nm2 ot ot2 : ByteArray) (wt wt2 : Nat) (w : World) (e0 : (kd == kd2) = true) (e1 : (lo == lo2) = false) : Calls Tryz.prog 16 #[.agg #[.int .i64 kd, .int .i64 lo, .int .i64 hi, .int .i64 n, .slice ao tl ca, .string nm, .string ot, .float .f64 wt], .agg #[.int .i64 kd2, .int .i64 lo2, .int .i64 hi2, .int .i64 n2, .slice bo tl2 cb, .string nm2, .string ot2, .float .f64 wt2]] w (BoolB w false) := by
  go_enter Tryz.func16, Tryz.ntmps16
  go_wp2
  go_big_quiet (fail)
  go_wp2
  go_ret
  exact ⟨rfl, (((Below.refl _ _).alloc (Nat.le_refl _) _).alloc (by simp) _).trans ((drewB ⟨_, rfl⟩).mono (by simp; omega))⟩
set_option maxRecDepth 4000 in
set_option maxHeartbeats 4000000 in
theorem sr_p2 (kd lo hi n kd2 lo2 hi2 n2 : Int) (ao bo : Option Addr) (tl tl2 ca cb : Nat) (nm nm2 ot ot2 : ByteArray) (wt wt2 : Nat) (w : World) (e0 : (kd == kd2) = true) (e1 : (lo == lo2) = true) (e2 : (hi == hi2) = false) : Calls Tryz.prog 16 #[.agg #[.int .i64 kd, .int .i64 lo, .int .i64 hi, .int .i64 n, .slice ao tl ca, .string nm, .string ot, .float .f64 wt], .agg #[.int .i64 kd2, .int .i64 lo2, .int .i64 hi2, .int .i64 n2, .slice bo tl2 cb, .string nm2, .string ot2, .float .f64 wt2]] w (BoolB w false) := by
  go_enter Tryz.func16, Tryz.ntmps16
  go_wp2
  go_big_quiet (fail)
  go_wp2
  go_ret
  exact ⟨rfl, (((Below.refl _ _).alloc (Nat.le_refl _) _).alloc (by simp) _).trans ((drewB ⟨_, rfl⟩).mono (by simp; omega))⟩
set_option maxRecDepth 4000 in
set_option maxHeartbeats 4000000 in
theorem sr_p3 (kd lo hi n kd2 lo2 hi2 n2 : Int) (ao bo : Option Addr) (tl tl2 ca cb : Nat) (nm nm2 ot ot2 : ByteArray) (wt wt2 : Nat) (w : World) (e0 : (kd == kd2) = true) (e1 : (lo == lo2) = true) (e2 : (hi == hi2) = true) (e3 : (n == n2) = false) : Calls Tryz.prog 16 #[.agg #[.int .i64 kd, .int .i64 lo, .int .i64 hi, .int .i64 n, .slice ao tl ca, .string nm, .string ot, .float .f64 wt], .agg #[.int .i64 kd2, .int .i64 lo2, .int .i64 hi2, .int .i64 n2, .slice bo tl2 cb, .string nm2, .string ot2, .float .f64 wt2]] w (BoolB w false) := by
  go_enter Tryz.func16, Tryz.ntmps16
  go_wp2
  go_big_quiet (fail)
  go_wp2
  go_ret
  exact ⟨rfl, (((Below.refl _ _).alloc (Nat.le_refl _) _).alloc (by simp) _).trans ((drewB ⟨_, rfl⟩).mono (by simp; omega))⟩
set_option maxRecDepth 4000 in
set_option maxHeartbeats 4000000 in
theorem sr_p4 (kd lo hi n kd2 lo2 hi2 n2 : Int) (ao bo : Option Addr) (tl tl2 ca cb : Nat) (nm nm2 ot ot2 : ByteArray) (wt wt2 : Nat) (w : World) (KA : Hid (∀ o1 o2 n, Calls Tryz.prog 28 #[.slice ao tl ca, .slice bo tl2 cb] (((w.alloc o1).alloc o2).drewN n) (Draws (((w.alloc o1).alloc o2).drewN n) false))) (e0 : (kd == kd2) = true) (e1 : (lo == lo2) = true) (e2 : (hi == hi2) = true) (e3 : (n == n2) = true) : Calls Tryz.prog 16 #[.agg #[.int .i64 kd, .int .i64 lo, .int .i64 hi, .int .i64 n, .slice ao tl ca, .string nm, .string ot, .float .f64 wt], .agg #[.int .i64 kd2, .int .i64 lo2, .int .i64 hi2, .int .i64 n2, .slice bo tl2 cb, .string nm2, .string ot2, .float .f64 wt2]] w (BoolB w false) := by
  go_enter Tryz.func16, Tryz.ntmps16
  go_wp2
  go_big_quiet (first | exact Calls.quiet_of ((unhide KA) _ _ _))
  go_wp2
  go_ret
  exact ⟨rfl, (((Below.refl _ _).alloc (Nat.le_refl _) _).alloc (by simp) _).trans ((drewB ⟨_, rfl⟩).mono (by simp; omega))⟩
set_option maxRecDepth 4000 in
set_option maxHeartbeats 4000000 in
theorem sr_p5 (kd lo hi n kd2 lo2 hi2 n2 : Int) (ao bo : Option Addr) (tl tl2 ca cb : Nat) (nm nm2 ot ot2 : ByteArray) (wt wt2 : Nat) (w : World) (KA : Hid (∀ o1 o2 n, Calls Tryz.prog 28 #[.slice ao tl ca, .slice bo tl2 cb] (((w.alloc o1).alloc o2).drewN n) (Draws (((w.alloc o1).alloc o2).drewN n) true))) (e0 : (kd == kd2) = true) (e1 : (lo == lo2) = true) (e2 : (hi == hi2) = true) (e3 : (n == n2) = true) (e5 : (nm.toList == nm2.toList) = false) : Calls Tryz.prog 16 #[.agg #[.int .i64 kd, .int .i64 lo, .int .i64 hi, .int .i64 n, .slice ao tl ca, .string nm, .string ot, .float .f64 wt], .agg #[.int .i64 kd2, .int .i64 lo2, .int .i64 hi2, .int .i64 n2, .slice bo tl2 cb, .string nm2, .string ot2, .float .f64 wt2]] w (BoolB w false) := by
  go_enter Tryz.func16, Tryz.ntmps16
  go_wp2
  go_big_quiet (first | exact Calls.quiet_of ((unhide KA) _ _ _))
  go_wp2
  go_ret
  exact ⟨rfl, (((Below.refl _ _).alloc (Nat.le_refl _) _).alloc (by simp) _).trans ((drewB ⟨_, rfl⟩).mono (by simp; omega))⟩
set_option maxRecDepth 4000 in
set_option maxHeartbeats 4000000 in
theorem sr_p6 (kd lo hi n kd2 lo2 hi2 n2 : Int) (ao bo : Option Addr) (tl tl2 ca cb : Nat) (nm nm2 ot ot2 : ByteArray) (wt wt2 : Nat) (w : World) (KA : Hid (∀ o1 o2 n, Calls Tryz.prog 28 #[.slice ao tl ca, .slice bo tl2 cb] (((w.alloc o1).alloc o2).drewN n) (Draws (((w.alloc o1).alloc o2).drewN n) true))) (e0 : (kd == kd2) = true) (e1 : (lo == lo2) = true) (e2 : (hi == hi2) = true) (e3 : (n == n2) = true) (e5 : (nm.toList == nm2.toList) = true) (e6 : (ot.toList == ot2.toList) = false) : Calls Tryz.prog 16 #[.agg #[.int .i64 kd, .int .i64 lo, .int .i64 hi, .int .i64 n, .slice ao tl ca, .string nm, .string ot, .float .f64 wt], .agg #[.int .i64 kd2, .int .i64 lo2, .int .i64 hi2, .int .i64 n2, .slice bo tl2 cb, .string nm2, .string ot2, .float .f64 wt2]] w (BoolB w false) := by
  go_enter Tryz.func16, Tryz.ntmps16
  go_wp2
  go_big_quiet (first | exact Calls.quiet_of ((unhide KA) _ _ _))
  go_wp2
  go_ret
  exact ⟨rfl, (((Below.refl _ _).alloc (Nat.le_refl _) _).alloc (by simp) _).trans ((drewB ⟨_, rfl⟩).mono (by simp; omega))⟩
set_option maxRecDepth 4000 in
set_option maxHeartbeats 4000000 in
theorem sr_p7 (kd lo hi n kd2 lo2 hi2 n2 : Int) (ao bo : Option Addr) (tl tl2 ca cb : Nat) (nm nm2 ot ot2 : ByteArray) (wt wt2 : Nat) (w : World) (KA : Hid (∀ o1 o2 n, Calls Tryz.prog 28 #[.slice ao tl ca, .slice bo tl2 cb] (((w.alloc o1).alloc o2).drewN n) (Draws (((w.alloc o1).alloc o2).drewN n) true))) (e0 : (kd == kd2) = true) (e1 : (lo == lo2) = true) (e2 : (hi == hi2) = true) (e3 : (n == n2) = true) (e5 : (nm.toList == nm2.toList) = true) (e6 : (ot.toList == ot2.toList) = true) (e7 : ((wt : Int) == (wt2 : Int)) = false) : Calls Tryz.prog 16 #[.agg #[.int .i64 kd, .int .i64 lo, .int .i64 hi, .int .i64 n, .slice ao tl ca, .string nm, .string ot, .float .f64 wt], .agg #[.int .i64 kd2, .int .i64 lo2, .int .i64 hi2, .int .i64 n2, .slice bo tl2 cb, .string nm2, .string ot2, .float .f64 wt2]] w (BoolB w false) := by
  have HB := hide (fun b w => bits_any b w)
  go_enter Tryz.func16, Tryz.ntmps16
  go_wp2
  go_big_quiet (first | exact Calls.quiet_of ((unhide KA) _ _ _) | exact Calls.quiet_of_same ((unhide HB) _ _))
  go_wp2
  go_ret
  exact ⟨rfl, (((Below.refl _ _).alloc (Nat.le_refl _) _).alloc (by simp) _).trans ((drewB ⟨_, rfl⟩).mono (by simp; omega))⟩
set_option maxRecDepth 4000 in
set_option maxHeartbeats 4000000 in
theorem sr_p8 (kd lo hi n kd2 lo2 hi2 n2 : Int) (ao bo : Option Addr) (tl tl2 ca cb : Nat) (nm nm2 ot ot2 : ByteArray) (wt wt2 : Nat) (w : World) (KA : Hid (∀ o1 o2 n, Calls Tryz.prog 28 #[.slice ao tl ca, .slice bo tl2 cb] (((w.alloc o1).alloc o2).drewN n) (Draws (((w.alloc o1).alloc o2).drewN n) true))) (e0 : (kd == kd2) = true) (e1 : (lo == lo2) = true) (e2 : (hi == hi2) = true) (e3 : (n == n2) = true) (e5 : (nm.toList == nm2.toList) = true) (e6 : (ot.toList == ot2.toList) = true) (e7 : ((wt : Int) == (wt2 : Int)) = true) : Calls Tryz.prog 16 #[.agg #[.int .i64 kd, .int .i64 lo, .int .i64 hi, .int .i64 n, .slice ao tl ca, .string nm, .string ot, .float .f64 wt], .agg #[.int .i64 kd2, .int .i64 lo2, .int .i64 hi2, .int .i64 n2, .slice bo tl2 cb, .string nm2, .string ot2, .float .f64 wt2]] w (BoolB w true) := by
  have HB := hide (fun b w => bits_any b w)
  go_enter Tryz.func16, Tryz.ntmps16
  go_wp2
  go_big_quiet (first | exact Calls.quiet_of ((unhide KA) _ _ _) | exact Calls.quiet_of_same ((unhide HB) _ _))
  go_wp2
  go_ret
  exact ⟨rfl, (((Below.refl _ _).alloc (Nat.le_refl _) _).alloc (by simp) _).trans ((drewB ⟨_, rfl⟩).mono (by simp; omega))⟩
theorem sr_p (r s : Rec) (va vb : Value) (w : World) (ha : Sk .i32 w va r.to) (hb : Sk .i32 w vb s.to) : Calls Tryz.prog 16 #[recV r va, recV s vb] w (BoolB w (eqR r s)) := by
  have KA : Hid (∀ o1 o2 n, Calls Tryz.prog 28 #[va, vb] (((w.alloc o1).alloc o2).drewN n) (Draws (((w.alloc o1).alloc o2).drewN n) (decide (r.to = s.to)))) := fun o1 o2 n => by
    have hbw : Below w.heap.size w ((w.alloc o1).alloc o2) := ((Below.refl _ _).alloc (Nat.le_refl _) _).alloc (by simp) _
    exact equalR15 va vb r.to s.to _ (sk_drew (ha.below hbw) n) (sk_drew (hb.below hbw) n)
  obtain ⟨ao, ca, rfl, _, _⟩ := ha.shape
  obtain ⟨bo, cb, rfl, _, _⟩ := hb.shape
  unfold recV eqR
  clear ha hb
  cases e0 : (r.kind == s.kind) with
  | false =>
    exact sr_p0 _ _ _ _ _ _ _ _ _ _ _ _ _ _ _ _ _ _ _ _ w e0
  | true =>
    cases e1 : (r.lo == s.lo) with
    | false =>
      exact sr_p1 _ _ _ _ _ _ _ _ _ _ _ _ _ _ _ _ _ _ _ _ w e0 e1
    | true =>
      cases e2 : (r.hi == s.hi) with
      | false =>
        exact sr_p2 _ _ _ _ _ _ _ _ _ _ _ _ _ _ _ _ _ _ _ _ w e0 e1 e2
      | true =>
        cases e3 : (r.n == s.n) with
        | false =>
          exact sr_p3 _ _ _ _ _ _ _ _ _ _ _ _ _ _ _ _ _ _ _ _ w e0 e1 e2 e3
        | true =>
          cases e4 : (decide (r.to = s.to)) with
          | false =>
            rw [e4] at KA
            exact sr_p4 _ _ _ _ _ _ _ _ _ _ _ _ _ _ _ _ _ _ _ _ w KA e0 e1 e2 e3
          | true =>
            cases e5 : (r.name.toList == s.name.toList) with
            | false =>
              rw [e4] at KA
              exact sr_p5 _ _ _ _ _ _ _ _ _ _ _ _ _ _ _ _ _ _ _ _ w KA e0 e1 e2 e3 e5
            | true =>
              cases e6 : (r.other.toList == s.other.toList) with
              | false =>
                rw [e4] at KA
                exact sr_p6 _ _ _ _ _ _ _ _ _ _ _ _ _ _ _ _ _ _ _ _ w KA e0 e1 e2 e3 e5 e6
              | true =>
                cases e7 : ((r.wt : Int) == (s.wt : Int)) with
                | false =>
                  rw [e4] at KA
                  exact sr_p7 _ _ _ _ _ _ _ _ _ _ _ _ _ _ _ _ _ _ _ _ w KA e0 e1 e2 e3 e5 e6 e7
                | true =>
                  rw [e4] at KA
                  exact sr_p8 _ _ _ _ _ _ _ _ _ _ _ _ _ _ _ _ _ _ _ _ w KA e0 e1 e2 e3 e5 e6 e7
end Go.Proofs.YtceflkeaenepcaaGreatDoor
