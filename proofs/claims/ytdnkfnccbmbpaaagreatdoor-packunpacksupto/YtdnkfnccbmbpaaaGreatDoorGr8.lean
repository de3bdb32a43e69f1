import Derived.Test.YtdnkfnccbmbpaaaGreatDoorGq8
/- Numbers read, and the closures that take what was read. -/
namespace Go.Proofs.YtdnkfnccbmbpaaaGreatDoor
open Go.RowKit
open Wi

/-- Three numbers, the world as it was. -/
def TriB (w : World) (r : Int × Int × Int) (e : Ending) (w' : World) : Prop := e = .returned (.tuple #[.int .i64 r.1, .int .i64 r.2.1, .int .i64 r.2.2]) ∧ w' = w
def Pk.r0 (zs : List Int) (at_ : Int) : Int × Int × Int := if (Ref.rd zs at_).2.2 ≠ 0 then (0, at_, (Ref.rd zs at_).2.2) else ((Ref.rd zs at_).1, (Ref.rd zs at_).2.1, 0)
set_option maxHeartbeats 1000000 in
theorem pru_any (v : Value) (zs : List Int) (at_ : Int) (w : World) (hs : Sl w v zs) : Calls Tryz.prog 61 #[v, .int .i64 at_] w (TriB w (Pk.r0 zs at_)) := by
  have K := hide (readUint_any v zs at_ w hs)
  obtain ⟨ao, cap, rfl, hc1, hc2⟩ := hs.shape
  by_cases he : (Ref.rd zs at_).2.2 = 0
  · have hr : Pk.r0 zs at_ = ((Ref.rd zs at_).1, (Ref.rd zs at_).2.1, 0) := by unfold Pk.r0; rw [if_neg (by simpa using he)]
    rw [hr]
    have hq : ((Ref.rd zs at_).2.2 != 0) = false := by simp [he]
    clear hs hr he hc1 hc2
    generalize Ref.rd zs at_ = q at *
    generalize zs.length = m at *
    go_enter Tryz.func61, Tryz.ntmps61
    go_wp2_with fail
    refine (unhide K).mono ?_
    rintro e w1 ⟨rfl, rfl⟩
    clear K
    go_wp2
    go_ret3
    exact ⟨rfl, rfl⟩
  · have hr : Pk.r0 zs at_ = (0, at_, (Ref.rd zs at_).2.2) := by unfold Pk.r0; rw [if_pos (by simpa using he)]
    rw [hr]
    have hq : ((Ref.rd zs at_).2.2 != 0) = true := by simpa using he
    clear hs hr he hc1 hc2
    generalize Ref.rd zs at_ = q at *
    generalize zs.length = m at *
    go_enter Tryz.func61, Tryz.ntmps61
    go_wp2_with fail
    refine (unhide K).mono ?_
    rintro e w1 ⟨rfl, rfl⟩
    clear K
    go_wp2
    go_ret3
    exact ⟨rfl, rfl⟩
set_option maxHeartbeats 1000000 in
theorem upto_any (v : Value) (zs : List Int) (at_ most : Int) (w : World) (hs : Sl w v zs) : Calls Tryz.prog 78 #[v, .int .i64 at_, .int .i64 most] w (TriB w (Pk.ru zs at_ most)) := by
  have K := hide (pru_any v zs at_ w hs)
  obtain ⟨ao, cap, rfl, hc1, hc2⟩ := hs.shape
  clear hs
  unfold Pk.r0 at K
  unfold Pk.ru
  generalize Ref.rd zs at_ = q at *
  clear hc1 hc2
  generalize zs.length = m at *
  by_cases he : q.2.2 = 0
  · rw [if_neg (by simpa using he)] at K ⊢
    by_cases hm : most < q.1
    · rw [if_pos hm]
      clear he
      go_enter Tryz.func78, Tryz.ntmps78
      go_wp2_with fail
      refine (unhide K).mono ?_
      rintro e w1 ⟨rfl, rfl⟩
      clear K
      go_wp2
      go_ret3
      exact ⟨rfl, rfl⟩
    · rw [if_neg hm]
      have hd : decide (most < q.1) = false := decide_eq_false hm
      clear he
      go_enter Tryz.func78, Tryz.ntmps78
      go_wp2_with fail
      refine (unhide K).mono ?_
      rintro e w1 ⟨rfl, rfl⟩
      clear K
      go_wp2
      go_ret3
      exact ⟨rfl, rfl⟩
  · rw [if_pos (by simpa using he)] at K ⊢
    have hq : (q.2.2 == 0) = false := by simpa using he
    clear he
    go_enter Tryz.func78, Tryz.ntmps78
    go_wp2_with fail
    refine (unhide K).mono ?_
    rintro e w1 ⟨rfl, rfl⟩
    clear K
    go_wp2
    go_ret3
    exact ⟨rfl, rfl⟩
theorem grown_trans {a b c : World} {p : Nat} (h : a.grownBy b (some p)) (k : b.grownBy c (some p)) : a.grownBy c (some p) :=
  ⟨k.os.trans h.os, k.tape.trans h.tape, k.output.trans h.output, Nat.le_trans h.size k.size, fun g hg hne => (k.block g (Nat.lt_of_lt_of_le hg h.size) hne).trans (h.block g hg hne)⟩
theorem grown_refl (w : World) (p : Option Nat) : w.grownBy w p := ⟨rfl, rfl, rfl, Nat.le_refl _, fun _ _ _ => rfl⟩
theorem grown_set (w : World) (p j : Nat) (v : Value) : w.grownBy (w.setCell ⟨p, j, none⟩ v) (some p) := by
  have h := below_set (Below.refl 0 w) (g := p) (j := j) (Nat.zero_le _) v
  exact ⟨h.os, h.tape, h.output, h.size, fun k _ hne => set_other v (fun e => hne (by rw [e]))⟩
theorem grown_below {w w' : World} (p : Option Nat) (h : Below w.heap.size w w') : w.grownBy w' p := ⟨h.os, h.tape, h.output, h.size, fun k hk _ => h.block k hk⟩
theorem grown_drew {w w' : World} {p : Option Nat} (h : w.drew.grownBy w' p) : w.grownBy w' p := ⟨h.os, h.tape, h.output, h.size, fun k hk hne => h.block k hk hne⟩
/-- The record under way in its block; its list in memory of the call's own, nil if it is empty. -/
def Ro (w : World) (B p : Nat) (r : Rec) (vt : Value) : Prop := w.heap[p]? = some (.cells (rarr r vt) 46 (0, 0)) ∧ Ok .i32 21 w B vt r.to ∧ (r.to = [] → vt = .slice none 0 0)
theorem Ro.lt {w : World} {B p : Nat} {r : Rec} {vt : Value} (h : Ro w B p r vt) : p < w.heap.size := lt_of_cell? (cell_of (j := 0) h.1 (by show 0 < 8; omega))
theorem Ro.row {w : World} {B p : Nat} {r : Rec} {vt : Value} (h : Ro w B p r vt) : vt.ownBlock ≠ some p := fun e => by
  obtain ⟨cur, hc⟩ := own_tag h.2.1.2.2 e
  rw [h.1] at hc; simp at hc
theorem Ro.below {w w' : World} {B p : Nat} {r : Rec} {vt : Value} (h : Ro w B p r vt) (hb : Below w.heap.size w w') : Ro w' B p r vt := ⟨by rw [hb.block p h.lt]; exact h.1, h.2.1.below hb, h.2.2⟩
theorem Ro.set {w : World} {B p j : Nat} {r r' : Rec} {vt v : Value} (h : Ro w B p r vt) (he : (rarr r vt).setIfInBounds j v = rarr r' vt) (ht : r'.to = r.to) : Ro (w.setCell ⟨p, j, none⟩ v) B p r' vt := by
  refine ⟨by rw [set_block h.1, he], ?_, by rw [ht]; exact h.2.2⟩
  rw [ht]
  refine h.2.1.keep fun g hg => set_other v (fun e => ?_)
  subst e
  exact h.row hg
def TakeB (w : World) (B p : Nat) (r : Rec) (e : Ending) (w' : World) : Prop := e = .returned (.tuple #[]) ∧ w.grownBy w' (some p) ∧ ∃ vt, Ro w' B p r vt
set_option maxHeartbeats 400000 in
theorem span2_take (p b B : Nat) (n : Int) (r : Rec) (vt : Value) (w : World) (hb : w.cell? ⟨b, 0, none⟩ = some (.pointer (some ⟨p, 0, none⟩))) (hr : Ro w B p r vt) : Calls Tryz.prog 73 #[.int .i64 n, .pointer (some ⟨b, 0, none⟩)] w (TakeB w B p { r with lo := n }) := by
  have x1 : w.cell? ⟨p, 1, none⟩ = some (.int .i64 r.lo) := cell_of (j := 1) hr.1 (by show 1 < 8; omega)
  have f1 := frozen_of (j := 1) hr.1
  have HF : TakeB w B p { r with lo := n } (.returned (.tuple #[])) (w.setCell ⟨p, 1, none⟩ (.int .i64 n)) := ⟨rfl, grown_set _ _ _ _, vt, hr.set rfl rfl⟩
  clear hr
  generalize ({ r with lo := n } : Rec) = r' at *
  generalize r.lo = z at *
  go_enter Tryz.func73, Tryz.ntmps73
  go_wp2
  go_end0
  exact HF
set_option maxHeartbeats 400000 in
theorem plain2_take (p b B : Nat) (n : Int) (r : Rec) (vt : Value) (w : World) (hb : w.cell? ⟨b, 0, none⟩ = some (.pointer (some ⟨p, 0, none⟩))) (hr : Ro w B p r vt) : Calls Tryz.prog 80 #[.int .i64 n, .pointer (some ⟨b, 0, none⟩)] w (TakeB w B p { r with n := n }) := by
  have x1 : w.cell? ⟨p, 3, none⟩ = some (.int .i64 r.n) := cell_of (j := 3) hr.1 (by show 3 < 8; omega)
  have f1 := frozen_of (j := 3) hr.1
  have HF : TakeB w B p { r with n := n } (.returned (.tuple #[])) (w.setCell ⟨p, 3, none⟩ (.int .i64 n)) := ⟨rfl, grown_set _ _ _ _, vt, hr.set rfl rfl⟩
  clear hr
  generalize ({ r with n := n } : Rec) = r' at *
  generalize r.n = z at *
  go_enter Tryz.func80, Tryz.ntmps80
  go_wp2
  go_end0
  exact HF
set_option maxHeartbeats 400000 in
theorem name2_take (p b B : Nat) (n : ByteArray) (r : Rec) (vt : Value) (w : World) (hb : w.cell? ⟨b, 0, none⟩ = some (.pointer (some ⟨p, 0, none⟩))) (hr : Ro w B p r vt) : Calls Tryz.prog 87 #[.string n, .pointer (some ⟨b, 0, none⟩)] w (TakeB w B p { r with name := n }) := by
  have x1 : w.cell? ⟨p, 5, none⟩ = some (.string r.name) := cell_of (j := 5) hr.1 (by show 5 < 8; omega)
  have f1 := frozen_of (j := 5) hr.1
  have HF : TakeB w B p { r with name := n } (.returned (.tuple #[])) (w.setCell ⟨p, 5, none⟩ (.string n)) := ⟨rfl, grown_set _ _ _ _, vt, hr.set rfl rfl⟩
  clear hr
  generalize ({ r with name := n } : Rec) = r' at *
  generalize r.name = z at *
  go_enter Tryz.func87, Tryz.ntmps87
  go_wp2
  go_end0
  exact HF
set_option maxHeartbeats 400000 in
theorem other2_take (p b B : Nat) (n : ByteArray) (r : Rec) (vt : Value) (w : World) (hb : w.cell? ⟨b, 0, none⟩ = some (.pointer (some ⟨p, 0, none⟩))) (hr : Ro w B p r vt) : Calls Tryz.prog 93 #[.string n, .pointer (some ⟨b, 0, none⟩)] w (TakeB w B p { r with other := n }) := by
  have x1 : w.cell? ⟨p, 6, none⟩ = some (.string r.other) := cell_of (j := 6) hr.1 (by show 6 < 8; omega)
  have f1 := frozen_of (j := 6) hr.1
  have HF : TakeB w B p { r with other := n } (.returned (.tuple #[])) (w.setCell ⟨p, 6, none⟩ (.string n)) := ⟨rfl, grown_set _ _ _ _, vt, hr.set rfl rfl⟩
  clear hr
  generalize ({ r with other := n } : Rec) = r' at *
  generalize r.other = z at *
  go_enter Tryz.func93, Tryz.ntmps93
  go_wp2
  go_end0
  exact HF
theorem ok_one (w : World) (g B : Nat) (hg : g = w.heap.size) (hB : B ≤ g) (c : Int) (hc : -2147483648 ≤ c ∧ c ≤ 2147483647) : Ok .i32 21 (w.alloc (.cells #[.int .i32 c] 21)) B (.slice (some ⟨g, 0, none⟩) 1 1) [c] := by
  subst hg
  refine ⟨fun z hz => by simp at hz; subst hz; exact i32_fit hc, by simp, by simp, .inr ⟨w.heap.size, 1, #[.int .i32 c], rfl, hB, ?_, Nat.le_refl _, by unfold maxLen; simp, by simp, by simp⟩⟩
  show (w.heap.push _)[w.heap.size]? = _
  simp
set_option maxHeartbeats 400000 in
theorem target2_take (p b B : Nat) (n : Int) (r : Rec) (vt : Value) (w : World) (hb : w.cell? ⟨b, 0, none⟩ = some (.pointer (some ⟨p, 0, none⟩))) (hr : Ro w B p r vt) (hB : B ≤ w.heap.size) (h0 : 0 ≤ n) (h1 : n ≤ 1114111) : Calls Tryz.prog 82 #[.int .i64 n, .pointer (some ⟨b, 0, none⟩)] w (TakeB w B p (Rec.mk r.kind r.lo r.hi r.n [n] r.name r.other r.wt)) := by
  have y1 : w.cell? ⟨p, 4, none⟩ = some vt := cell_of (j := 4) hr.1 (by show 4 < 8; omega)
  have g1 := frozen_of (j := 4) hr.1
  have hlt := hr.lt
  have HF : TakeB w B p (Rec.mk r.kind r.lo r.hi r.n [n] r.name r.other r.wt) (.returned (.tuple #[])) ((w.setCell ⟨p, 4, none⟩ (.slice (some ⟨w.heap.size, 0, none⟩) 1 1)).alloc (.cells #[.int .i32 n] 21)) := by
    have hb0 : Below (w.setCell ⟨p, 4, none⟩ (.slice (some ⟨w.heap.size, 0, none⟩) 1 1)).heap.size (w.setCell ⟨p, 4, none⟩ (.slice (some ⟨w.heap.size, 0, none⟩) 1 1)) ((w.setCell ⟨p, 4, none⟩ (.slice (some ⟨w.heap.size, 0, none⟩) 1 1)).alloc (.cells #[.int .i32 n] 21)) := (Below.refl _ _).alloc (Nat.le_refl _) _
    refine ⟨rfl, grown_trans (grown_set _ _ _ _) (grown_below _ hb0), .slice (some ⟨w.heap.size, 0, none⟩) 1 1, ?_, ok_one _ _ B (set_size _ _ _ _).symm hB n (by omega), fun e => by simp at e⟩
    rw [hb0.block p (by rw [set_size]; exact hlt), set_block hr.1]
    rfl
  clear hr
  generalize Rec.mk r.kind r.lo r.hi r.n [n] r.name r.other r.wt = r' at *
  go_enter Tryz.func82, Tryz.ntmps82
  go_wp2
  go_end0
  exact HF
end Go.Proofs.YtdnkfnccbmbpaaaGreatDoor
/- Closures that take, in regions that draw their order. -/
namespace Go.Proofs.YtdnkfnccbmbpaaaGreatDoor
open Go.RowKit
open Wi

theorem grown_drews {w w' : World} {p : Option Nat} (h : w.grownBy w' p) : w.grownBy w'.drew p := ⟨h.os, h.tape, h.output, h.size, fun k hk hne => h.block k hk hne⟩
theorem Ro.drew {w : World} {B p : Nat} {r : Rec} {vt : Value} (h : Ro w B p r vt) : Ro w.drew B p r vt := h.below ⟨rfl, rfl, rfl, Nat.le_refl _, fun _ _ => rfl⟩
set_option maxHeartbeats 1000000 in
theorem span4_take (p b B : Nat) (n : Int) (r : Rec) (vt : Value) (w : World) (hbp : b ≠ p) (hb : w.cell? ⟨b, 0, none⟩ = some (.pointer (some ⟨p, 0, none⟩))) (hr : Ro w B p r vt) (h0 : 0 ≤ n) (h1 : n ≤ 1114111) (h2 : 0 ≤ r.lo) (h3 : r.lo ≤ 1114111) : Calls Tryz.prog 75 #[.int .i64 n, .pointer (some ⟨b, 0, none⟩)] w (TakeB w B p { r with hi := r.lo + n }) := by
  have x1 : w.cell? ⟨p, 1, none⟩ = some (.int .i64 r.lo) := cell_of (j := 1) hr.1 (by show 1 < 8; omega)
  have x2 : w.cell? ⟨p, 2, none⟩ = some (.int .i64 r.hi) := cell_of (j := 2) hr.1 (by show 2 < 8; omega)
  have f2 := frozen_of (j := 2) hr.1
  have HF : TakeB w B p { r with hi := r.lo + n } (.returned (.tuple #[])) (w.setCell ⟨p, 2, none⟩ (.int .i64 (r.lo + n))).drew := ⟨rfl, grown_drews (grown_set _ _ _ _), vt, (hr.set (r' := { r with hi := r.lo + n }) rfl rfl).drew⟩
  have k1 : ∀ v, (w.setCell ⟨p, 2, none⟩ v).drew.cell? ⟨b, 0, none⟩ = some (.pointer (some ⟨p, 0, none⟩)) := fun v => (cell_kept (w := w) (set_other v hbp)).trans hb
  have k2 : ∀ v, (w.setCell ⟨p, 2, none⟩ v).drew.cell? ⟨p, 1, none⟩ = some (.int .i64 r.lo) := fun v => cell_of (j := 1) (w := w.setCell ⟨p, 2, none⟩ v) (set_block hr.1 v) (by simp [rarr])
  have hw : IntKind.i64.wrap (r.lo + n) = r.lo + n := by rw [IntKind.wrap_i64]; omega
  clear hr
  generalize ({ r with hi := r.lo + n } : Rec) = r' at *
  generalize r.lo = z at *
  generalize r.hi = y at *
  go_enter Tryz.func75, Tryz.ntmps75
  go_wp2
  go_region_held3 (fun w' => w'.cell? ⟨b, 0, none⟩ = some (.pointer (some ⟨p, 0, none⟩)) ∧ w'.cell? ⟨p, 1, none⟩ = some (.int .i64 z)) (first | exact ⟨k1 _, k2 _⟩ | go_keep) (fail)
  go_wp2
  go_end0
  exact HF
set_option maxHeartbeats 1000000 in
theorem alone2_take (p b B : Nat) (n : Int) (r : Rec) (vt : Value) (w : World) (hbp : b ≠ p) (hb : w.cell? ⟨b, 0, none⟩ = some (.pointer (some ⟨p, 0, none⟩))) (hr : Ro w B p r vt) : Calls Tryz.prog 84 #[.int .i64 n, .pointer (some ⟨b, 0, none⟩)] w (TakeB w B p { r with lo := n, hi := n }) := by
  have x1 : w.cell? ⟨p, 1, none⟩ = some (.int .i64 r.lo) := cell_of (j := 1) hr.1 (by show 1 < 8; omega)
  have x2 : w.cell? ⟨p, 2, none⟩ = some (.int .i64 r.hi) := cell_of (j := 2) hr.1 (by show 2 < 8; omega)
  have f1 := frozen_of (j := 1) hr.1
  have f2 := frozen_of (j := 2) hr.1
  have HF : TakeB w B p { r with lo := n, hi := n } (.returned (.tuple #[])) ((w.setCell ⟨p, 1, none⟩ (.int .i64 n)).setCell ⟨p, 2, none⟩ (.int .i64 n)).drew := ⟨rfl, grown_drews (grown_trans (grown_set _ _ _ _) (grown_set _ _ _ _)), vt, ((hr.set (r' := { r with lo := n }) rfl rfl).set (r' := { r with lo := n, hi := n }) rfl rfl).drew⟩
  have k1 : ∀ v, (w.setCell ⟨p, 1, none⟩ v).drew.cell? ⟨b, 0, none⟩ = some (.pointer (some ⟨p, 0, none⟩)) := fun v => (cell_kept (w := w) (set_other v hbp)).trans hb
  have k2 : ∀ v u, ((w.setCell ⟨p, 1, none⟩ v).setCell ⟨p, 2, none⟩ u).drew.cell? ⟨b, 0, none⟩ = some (.pointer (some ⟨p, 0, none⟩)) := fun v u => (cell_kept (w := w.setCell ⟨p, 1, none⟩ v) (set_other u hbp)).trans (k1 v)
  have k3 : ∀ v, (w.setCell ⟨p, 1, none⟩ v).cell? ⟨p, 2, none⟩ = some (.int .i64 r.hi) := fun v => cell_of (j := 2) (set_block hr.1 v) (by simp [rarr])
  have k4 : ∀ v, (w.setCell ⟨p, 1, none⟩ v).frozen? ⟨p, 2, none⟩ = false := fun v => frozen_of (set_block hr.1 v)
  clear hr
  generalize ({ r with lo := n, hi := n } : Rec) = r' at *
  generalize r.lo = z at *
  generalize r.hi = y at *
  go_enter Tryz.func84, Tryz.ntmps84
  go_wp2
  go_region_held3 (fun w' => w'.cell? ⟨b, 0, none⟩ = some (.pointer (some ⟨p, 0, none⟩))) (first | exact k2 _ _ | exact k1 _ | go_keep) (fail)
  go_wp2
  go_end0
  exact HF
end Go.Proofs.YtdnkfnccbmbpaaaGreatDoor
/- The closures that read a part: numbers, texts, weights. -/
namespace Go.Proofs.YtdnkfnccbmbpaaaGreatDoor
open Go.RowKit
open Wi

/-- What a closure that reads a part answers, and what becomes of the record. -/
def ReadB (w : World) (B p : Nat) (x : Rec × Int × Int) (e : Ending) (w' : World) : Prop := e = .returned (.tuple #[.int .i64 x.2.1, .int .i64 x.2.2]) ∧ w.grownBy w' (some p) ∧ (x.2.2 = 0 → ∃ vt, Ro w' B p x.1 vt)
theorem ru_ok (zs : List Int) (at_ most : Int) (h : (Pk.ru zs at_ most).2.2 = 0) : 0 ≤ (Pk.ru zs at_ most).1 ∧ (Pk.ru zs at_ most).1 ≤ most ∧ 0 ≤ at_ ∧ at_ < (Pk.ru zs at_ most).2.1 ∧ (Pk.ru zs at_ most).2.1 ≤ zs.length := by
  unfold Pk.ru at h ⊢
  by_cases h1 : (Ref.rd zs at_).2.2 = 0
  · have hok := rd_ok zs at_ h1
    rw [if_neg (by simpa using h1)] at h ⊢
    by_cases h2 : most < (Ref.rd zs at_).1
    · rw [if_pos h2] at h; simp at h
    · rw [if_neg h2]
      simp only
      omega
  · rw [if_pos (by simpa using h1)] at h
    exact absurd h h1
theorem ru_at (zs : List Int) (at_ most : Int) (h : (Pk.ru zs at_ most).2.2 ≠ 0) : (Pk.ru zs at_ most).2.1 = at_ := by
  unfold Pk.ru at h ⊢
  by_cases h1 : (Ref.rd zs at_).2.2 = 0
  · rw [if_neg (by simpa using h1)] at h ⊢
    by_cases h2 : most < (Ref.rd zs at_).1
    · rw [if_pos h2]
    · rw [if_neg h2] at h; simp at h
  · rw [if_pos (by simpa using h1)]
set_option maxHeartbeats 1000000 in
theorem num_read (t bt b2 B p : Nat) (v : Value) (zs : List Int) (at_ : Int) (r : Rec) (g : Int → Rec) (w : World) (hs : Sl w v zs) (eg : ∀ args w, (callFunc t args).run Tryz.prog w = .ok (.enter t args) w) (hb : w.cell? ⟨bt, 0, none⟩ = some (.func (.func t) #[] #[.pointer (some ⟨b2, 0, none⟩)]))
    (KT : ∀ n, 0 ≤ n → n ≤ 1114111 → Calls Tryz.prog t #[.int .i64 n, .pointer (some ⟨b2, 0, none⟩)] w (TakeB w B p (g n))) : Calls Tryz.prog 104 #[v, .int .i64 at_, .pointer (some ⟨bt, 0, none⟩)] w (ReadB w B p (Pk.rn zs at_ r g)) := by
  have K := hide (upto_any v zs at_ 1114111 w hs)
  have hok := ru_ok zs at_ 1114111
  have hat := ru_at zs at_ 1114111
  unfold Pk.rn
  obtain ⟨ao, cap, rfl, hc1, hc2⟩ := hs.shape
  clear hs hc1 hc2
  generalize Pk.ru zs at_ 1114111 = q at *
  generalize zs.length = m at *
  by_cases he : q.2.2 = 0
  · rw [if_neg (by simpa using he)]
    have hq : (q.2.2 == 0) = true := by simpa using he
    have h2 := hok he
    have KT2 := hide (KT q.1 h2.1 h2.2.1)
    have HE := hide he
    clear KT hok hat he h2
    generalize g q.1 = r' at *
    go_enter Tryz.func104, Tryz.ntmps104
    go_wp2_with fail
    refine (unhide K).mono ?_
    rintro e w1 ⟨rfl, rfl⟩
    clear K
    go_wp2_with fail
    refine (unhide KT2).mono ?_
    rintro e2 w2 ⟨rfl, hg2, hro⟩
    have HF : ReadB w1 B p (r', q.2.1, 0) (.returned (.tuple #[.int .i64 q.2.1, .int .i64 q.2.2])) w2 := ⟨by rw [unhide HE], hg2, fun _ => hro⟩
    clear KT2 hg2 hro
    go_wp2
    go_ret2
    exact HF
  · rw [if_pos (by simpa using he)]
    have hq : (q.2.2 == 0) = false := by simpa using he
    have h2 := hat he
    have HF : ReadB w B p (r, at_, q.2.2) (.returned (.tuple #[.int .i64 q.2.1, .int .i64 q.2.2])) w := ⟨by rw [h2], grown_refl _ _, fun h => absurd h he⟩
    clear KT hok hat he h2
    go_enter Tryz.func104, Tryz.ntmps104
    go_wp2_with fail
    refine (unhide K).mono ?_
    rintro e w1 ⟨rfl, rfl⟩
    clear K
    go_wp2
    go_ret2
    exact HF
set_option maxHeartbeats 1000000 in
theorem text_read (t bt b2 B p : Nat) (v : Value) (zs : List Int) (at_ : Int) (r : Rec) (g : ByteArray → Rec) (w : World) (hs : Sl w v zs) (eg : ∀ args w, (callFunc t args).run Tryz.prog w = .ok (.enter t args) w) (hb : w.cell? ⟨bt, 0, none⟩ = some (.func (.func t) #[] #[.pointer (some ⟨b2, 0, none⟩)]))
    (KT : ∀ s, Calls Tryz.prog t #[.string s, .pointer (some ⟨b2, 0, none⟩)] w (TakeB w B p (g s))) : Calls Tryz.prog 107 #[v, .int .i64 at_, .pointer (some ⟨bt, 0, none⟩)] w (ReadB w B p (Pk.rs zs at_ r g)) := by
  have K := hide (readText_any v zs at_ 4 w hs)
  unfold Pk.rs
  obtain ⟨ao, cap, rfl, hc1, hc2⟩ := hs.shape
  clear hs hc1 hc2
  generalize Ref.rt zs at_ 4 = q at *
  generalize zs.length = m at *
  by_cases he : q.2.2 = 0
  · rw [if_neg (by simpa using he)]
    have hq : (q.2.2 != 0) = false := by simp [he]
    have KT2 := hide (KT (strOfNums q.1))
    clear KT he
    unfold RtPost at K
    generalize g (strOfNums q.1) = r' at *
    generalize strOfNums q.1 = s at *
    go_enter Tryz.func107, Tryz.ntmps107
    go_wp2_with fail
    refine (unhide K).mono ?_
    rintro e w1 ⟨rfl, rfl⟩
    clear K
    go_wp2_with fail
    refine (unhide KT2).mono ?_
    rintro e2 w2 ⟨rfl, hg2, hro⟩
    have HF : ReadB w1 B p (r', q.2.1, 0) (.returned (.tuple #[.int .i64 q.2.1, .int .i64 0])) w2 := ⟨rfl, hg2, fun _ => hro⟩
    clear KT2 hg2 hro
    go_wp2
    go_ret2
    exact HF
  · rw [if_pos (by simpa using he)]
    have hq : (q.2.2 != 0) = true := by simpa using he
    have HF : ReadB w B p (r, at_, q.2.2) (.returned (.tuple #[.int .i64 at_, .int .i64 q.2.2])) w := ⟨rfl, grown_refl _ _, fun h => absurd h he⟩
    clear KT he
    unfold RtPost at K
    generalize strOfNums q.1 = s at *
    go_enter Tryz.func107, Tryz.ntmps107
    go_wp2_with fail
    refine (unhide K).mono ?_
    rintro e w1 ⟨rfl, rfl⟩
    clear K
    go_wp2
    go_ret2
    exact HF
set_option maxHeartbeats 1000000 in
theorem weight_read (b B p : Nat) (v : Value) (zs : List Int) (at_ : Int) (r : Rec) (vt : Value) (w : World) (hs : Sl w v zs) (hb : w.cell? ⟨b, 0, none⟩ = some (.pointer (some ⟨p, 0, none⟩))) (hr : Ro w B p r vt) : Calls Tryz.prog 90 #[v, .int .i64 at_, .pointer (some ⟨b, 0, none⟩)] w (ReadB w B p (Pk.fr zs at_ r 8)) := by
  have K := hide (readFloat_any v zs at_ w hs)
  have e8 : Pk.fr zs at_ r 8 = if (Ref.rf zs at_).2.2 ≠ 0 then (r, at_, (Ref.rf zs at_).2.2) else ({ r with wt := (Ref.rf zs at_).1.toNat }, (Ref.rf zs at_).2.1, 0) := rfl
  rw [e8]
  obtain ⟨ao, cap, rfl, hc1, hc2⟩ := hs.shape
  clear hs hc1 hc2 e8
  generalize Ref.rf zs at_ = q at *
  generalize zs.length = m at *
  have hfl : ∀ W a m, (store a (.float .f64 q.1.toNat) m).run Tryz.prog W = stored Tryz.prog W a (.float .f64 q.1.toNat) m := fun W a m => run_store Tryz.prog W a _ m rfl
  by_cases he : q.2.2 = 0
  · rw [if_neg (by simpa using he)]
    have hq : (q.2.2 != 0) = false := by simp [he]
    have x7 : w.cell? ⟨p, 7, none⟩ = some (.float .f64 r.wt) := cell_of (j := 7) hr.1 (by show 7 < 8; omega)
    have f7 := frozen_of (j := 7) hr.1
    have HF : ReadB w B p ({ r with wt := q.1.toNat }, q.2.1, 0) (.returned (.tuple #[.int .i64 q.2.1, .int .i64 0])) (w.setCell ⟨p, 7, none⟩ (.float .f64 q.1.toNat)) := ⟨rfl, grown_set _ _ _ _, fun _ => ⟨vt, hr.set (r' := { r with wt := q.1.toNat }) rfl rfl⟩⟩
    clear he hr
    go_enter Tryz.func90, Tryz.ntmps90
    go_wp2_with fail
    refine (unhide K).mono ?_
    rintro e w1 ⟨rfl, rfl⟩
    clear K
    go_wp2
    go_ret2
    exact HF
  · rw [if_pos (by simpa using he)]
    have hq : (q.2.2 != 0) = true := by simpa using he
    have HF : ReadB w B p (r, at_, q.2.2) (.returned (.tuple #[.int .i64 at_, .int .i64 q.2.2])) w := ⟨rfl, grown_refl _ _, fun h => absurd h he⟩
    clear he hr
    go_enter Tryz.func90, Tryz.ntmps90
    go_wp2_with fail
    refine (unhide K).mono ?_
    rintro e w1 ⟨rfl, rfl⟩
    clear K
    go_wp2
    go_ret2
    exact HF
end Go.Proofs.YtdnkfnccbmbpaaaGreatDoor
