import Derived.Test.YtdnkfnccbmbpaaaGreatDoorGa8
import Derived.Test.YtdnkfnccbmbpaaaGreatDoorGb8
import Derived.Deep.RegionHeld3
import Derived.Shelf.Abstract
import Derived.Lib.Walk
import Derived.Test.YtdnkfnccbmbpaaaGreatDoorGc8
/- Runs of numbers, of what a record speaks; Find. -/
namespace Go.Proofs.YtdnkfnccbmbpaaaGreatDoor
open Go.RowKit

def isPt (c : Int) : Bool := decide (0 ≤ c ∧ c ≤ 1114111)
theorem isPoint_any (c : Int) (w : World) (hc : I64 c) : Calls Tryz.prog 115 #[.int .i64 c] w fun e w' => e = .returned (.bool (isPt c)) ∧ w' = w := by
  obtain ⟨c0, c1⟩ := hc
  unfold isPt
  by_cases h0 : 0 ≤ c
  · by_cases h1 : c ≤ 1114111
    · rw [decide_eq_true ⟨h0, h1⟩]
      go_enter Tryz.func115, Tryz.ntmps115
      go_wp2
      go_ret
      exact ⟨rfl, rfl⟩
    · rw [decide_eq_false (by omega)]
      go_enter Tryz.func115, Tryz.ntmps115
      go_wp2
      go_ret
      exact ⟨rfl, rfl⟩
  · rw [decide_eq_false (by omega)]
    go_enter Tryz.func115, Tryz.ntmps115
    go_wp2
    go_ret
    exact ⟨rfl, rfl⟩
def runV (lo hi s : Int) : Value := .agg #[.int .i64 lo, .int .i64 hi, .int .i64 s]
def hasB (lo hi s c : Int) : Bool := decide (0 ≤ c ∧ c ≤ 1114111 ∧ lo ≤ c ∧ c ≤ hi ∧ 0 < s ∧ (c - lo) % s = 0)
theorem wrap_diff {c lo : Int} (h0 : 0 ≤ c) (h1 : c ≤ 1114111) (h2 : lo ≤ c) (h3 : -9223372036854775808 ≤ lo) : IntKind.u64.wrap (IntKind.i64.wrap (c - lo)) = c - lo := by
  by_cases hn : c - lo ≤ 9223372036854775807
  · rw [IntWalk.i64_in _ ⟨by omega, by omega⟩, IntWalk.u64_in _ ⟨by omega, by omega⟩]
  · have e : IntKind.i64.wrap (c - lo) = c - lo - 18446744073709551616 := by
      unfold IntKind.wrap
      have hb : (2 : Int) ^ IntKind.i64.bits = 18446744073709551616 := by decide
      have hb2 : (2 : Int) ^ (IntKind.i64.bits - 1) = 9223372036854775808 := by decide
      simp only [hb, hb2, IntKind.signed]
      simp
      omega
    rw [e]
    unfold IntKind.wrap
    have hb : (2 : Int) ^ IntKind.u64.bits = 18446744073709551616 := by decide
    rw [hb]
    simp [IntKind.signed]
    omega
set_option maxRecDepth 8000 in
set_option maxHeartbeats 4000000 in
theorem has_any (lo hi s c : Int) (w : World) (hl : I64 lo) (hh : I64 hi) (hs : I64 s) (hc : I64 c) : Calls Tryz.prog 102 #[runV lo hi s, .int .i64 c] w (BoolB w (hasB lo hi s c)) := by
  have hb : Below w.heap.size w (w.alloc (.cells #[.int .i64 lo, .int .i64 hi, .int .i64 s] 112)) := (Below.refl _ _).alloc (Nat.le_refl _) _
  have K := hide (isPoint_any c (w.alloc (.cells #[.int .i64 lo, .int .i64 hi, .int .i64 s] 112)) hc)
  obtain ⟨l0, l1⟩ := hl
  obtain ⟨g0, g1⟩ := hh
  obtain ⟨s0, s1⟩ := hs
  obtain ⟨c0, c1⟩ := hc
  unfold runV
  by_cases p1 : 0 ≤ c ∧ c ≤ 1114111
  · have e1 : isPt c = true := decide_eq_true p1
    rw [e1] at K
    by_cases p2 : lo ≤ c
    · by_cases p3 : c ≤ hi
      · by_cases p4 : 0 < s
        · have d := wrap_diff p1.1 p1.2 p2 l0
          have ds : IntKind.u64.wrap s = s := IntWalk.u64_in _ ⟨by omega, by omega⟩
          have dm : (c - lo).tmod s = (c - lo) % s := Int.tmod_eq_emod_of_nonneg (by omega)
          have dn : (s == 0) = false := beq_eq_false_iff_ne.2 (by omega)
          have e : hasB lo hi s c = ((c - lo) % s == 0) := by
            unfold hasB
            by_cases q : (c - lo) % s = 0
            · rw [decide_eq_true ⟨p1.1, p1.2, p2, p3, p4, q⟩, q]; rfl
            · rw [decide_eq_false (fun h => q h.2.2.2.2.2), beq_eq_false_iff_ne.2 q]
          rw [e]
          obtain ⟨p5, p6⟩ := p1
          go_enter Tryz.func102, Tryz.ntmps102
          go_wp2_with fail
          refine (unhide K).mono ?_
          rintro e w1 ⟨rfl, hw1⟩
          subst w1
          clear K
          go_wp2
          go_ret
          refine ⟨?_, hb⟩
          show Ending.returned (.bool ((IntKind.u64.wrap (wrap64 (c - lo))).tmod s == 0)) = _
          rw [← IntWalk.i64_left, d, dm]
        · have e : hasB lo hi s c = false := decide_eq_false (by omega)
          rw [e]
          go_enter Tryz.func102, Tryz.ntmps102
          go_wp2_with fail
          refine (unhide K).mono ?_
          rintro e w1 ⟨rfl, hw1⟩
          subst w1
          clear K
          go_wp2
          go_ret
          exact ⟨rfl, hb⟩
      · have e : hasB lo hi s c = false := decide_eq_false (by omega)
        rw [e]
        go_enter Tryz.func102, Tryz.ntmps102
        go_wp2_with fail
        refine (unhide K).mono ?_
        rintro e w1 ⟨rfl, hw1⟩
        subst w1
        clear K
        go_wp2
        go_ret
        exact ⟨rfl, hb⟩
    · have e : hasB lo hi s c = false := decide_eq_false (by omega)
      rw [e]
      go_enter Tryz.func102, Tryz.ntmps102
      go_wp2_with fail
      refine (unhide K).mono ?_
      rintro e w1 ⟨rfl, hw1⟩
      subst w1
      clear K
      go_wp2
      go_ret
      exact ⟨rfl, hb⟩
  · have e1 : isPt c = false := decide_eq_false p1
    rw [e1] at K
    have e : hasB lo hi s c = false := decide_eq_false (by omega)
    rw [e]
    clear p1
    go_enter Tryz.func102, Tryz.ntmps102
    go_wp2_with fail
    refine (unhide K).mono ?_
    rintro e w1 ⟨rfl, hw1⟩
    subst w1
    clear K
    go_wp2
    go_ret
    exact ⟨rfl, hb⟩
set_option maxRecDepth 8000 in
set_option maxHeartbeats 2000000 in
theorem sharedSpoken_any (k : Int) (r : Rec) (vt : Value) (w : World) : Calls Tryz.prog 138 #[shV k, recV r vt] w (fun e w' => e = .returned (runV r.lo r.hi 1) ∧ Below w.heap.size w w') := by
  unfold shV recV runV
  generalize r.kind = kd
  generalize r.n = n
  generalize r.lo = lo
  generalize r.hi = hi
  generalize r.name = nm
  generalize r.other = ot
  generalize r.wt = wt
  go_enter Tryz.func138, Tryz.ntmps138
  go_wp2
  go_returns
  exact ⟨rfl, (((Below.refl _ _).alloc (Nat.le_refl _) _).alloc (by simp) _).alloc (by simp; omega) _⟩
set_option maxRecDepth 8000 in
set_option maxHeartbeats 2000000 in
theorem shiftedSpoken_any (k : Int) (r : Rec) (vt : Value) (w : World) : Calls Tryz.prog 156 #[shV k, recV r vt] w (fun e w' => e = .returned (runV r.lo r.hi r.n) ∧ Below w.heap.size w w') := by
  unfold shV recV runV
  generalize r.kind = kd
  generalize r.n = n
  generalize r.lo = lo
  generalize r.hi = hi
  generalize r.name = nm
  generalize r.other = ot
  generalize r.wt = wt
  go_enter Tryz.func156, Tryz.ntmps156
  go_wp2
  go_returns
  exact ⟨rfl, (((Below.refl _ _).alloc (Nat.le_refl _) _).alloc (by simp) _).alloc (by simp; omega) _⟩
/-- The step of a record's run, as the program has it. -/
def stepP (r : Rec) : Int := if r.kind = 4 then r.n else 1
theorem hasB_speaks (r : Rec) (c : Int) (h : r.kind ≠ 15) : hasB r.lo r.hi (stepP r) c = Cn.speaks r c := by
  unfold hasB stepP Cn.speaks Cn.step
  refine decide_eq_decide.2 ?_
  by_cases h4 : r.kind = 4
  · rw [if_pos h4, if_pos h4]
    by_cases hp : 0 < r.n
    · rw [show max r.n 0 = r.n by omega]
      exact ⟨fun ⟨a, b, c, d, e, f⟩ => ⟨h, e, a, b, c, d, f⟩, fun ⟨_, e, a, b, c, d, f⟩ => ⟨a, b, c, d, e, f⟩⟩
    · exact ⟨fun ⟨_, _, _, _, e, _⟩ => absurd e hp, fun ⟨_, e, _⟩ => by omega⟩
  · rw [if_neg h4, if_neg h4]
    exact ⟨fun ⟨a, b, c, d, e, f⟩ => ⟨h, e, a, b, c, d, f⟩, fun ⟨_, e, a, b, c, d, f⟩ => ⟨a, b, c, d, e, f⟩⟩
end Go.Proofs.YtdnkfnccbmbpaaaGreatDoor
/- What Find asks of a record. -/
namespace Go.Proofs.YtdnkfnccbmbpaaaGreatDoor
open Go.RowKit

/-- The method of a kind's shape that says what a record speaks of. -/
def spokenF (k : Int) : Nat := if k = 4 then 156 else 138
theorem spoken_any (k : Int) (r : Rec) (vt : Value) (w : World) (hk : r.kind = k) : Calls Tryz.prog (spokenF k) #[shV k, recV r vt] w (fun e w' => e = .returned (runV r.lo r.hi (stepP r)) ∧ Below w.heap.size w w') := by
  unfold spokenF stepP
  by_cases h4 : k = 4
  · rw [if_pos h4, if_pos (hk.trans h4)]
    exact shiftedSpoken_any k r vt w
  · rw [if_neg h4, if_neg (fun e => h4 (hk.symm.trans e))]
    exact sharedSpoken_any k r vt w
end Go.Proofs.YtdnkfnccbmbpaaaGreatDoor
/- slices.IndexFunc over records; Find. -/
namespace Go.Proofs.YtdnkfnccbmbpaaaGreatDoor
open Go.RowKit

/-- The place of the first record at which p holds, or -1. -/
def fbR (p : Rec → Bool) : Nat → List Rec → Int
  | _, [] => -1
  | i, r :: l => if p r then (i : Int) else fbR p (i + 1) l
theorem fbR_hit {p : Rec → Bool} {rs : List Rec} {k : Nat} {x : Int} (hk : k < rs.length) (h : x = fbR p k (rs.drop k)) (hp : p (rs.getD k Cn.none) = true) : x = (k : Int) := by
  rw [h, List.drop_eq_getElem_cons hk, fbR, if_pos]
  simpa [List.getD, hk] using hp
theorem fbR_next {p : Rec → Bool} {rs : List Rec} {k : Nat} {x : Int} (hk : k < rs.length) (h : x = fbR p k (rs.drop k)) (hp : p (rs.getD k Cn.none) = false) : x = fbR p (k + 1) (rs.drop (k + 1)) := by
  rw [h, List.drop_eq_getElem_cons hk, fbR, if_neg]
  have : p rs[k] = false := by simpa [List.getD, hk] using hp
  simp [this]
theorem fbR_end {p : Rec → Bool} {rs : List Rec} {x : Int} (h : x = fbR p rs.length (rs.drop rs.length)) : x = -1 := by
  rw [h, List.drop_length, fbR]
/-- What a function that is asked of each record answers. -/
def AsksR (g : Nat) (cap : Array Value) (p : Rec → Bool) (w : World) (rs : List Rec) : Prop := ∀ (k : Nat) (vt : Value) (W : World), k < rs.length → Below w.heap.size w W → Sk .i32 W vt (rs.getD k Cn.none).to → Calls Tryz.prog g (#[recV (rs.getD k Cn.none) vt] ++ cap) W (BoolB W (p (rs.getD k Cn.none)))
def RIn (w : World) (v : Value) (rs : List Rec) (W : World) : Prop := Rcs W v rs ∧ Below w.heap.size w W
theorem RIn.on {w W W' : World} {v : Value} {rs : List Rec} (h : RIn w v rs W) (hb : Below W.heap.size W W') : RIn w v rs W' := ⟨h.1.below hb, h.2.trans (hb.mono h.2.size)⟩
theorem fbR_find (f c : Int) : ∀ (l : List Rec) (i : Nat), fbR (fun r => decide (Cn.fam r.kind = f) && Cn.speaks r c) i l = Cn.findA f c i l
  | [], i => rfl
  | r :: l, i => by
    rw [fbR, Cn.findA, fbR_find f c l]
    by_cases h : Cn.fam r.kind = f ∧ Cn.speaks r c = true
    · rw [if_pos h, if_pos (by simp [h.1, h.2])]
    · rw [if_neg h, if_neg (by simpa using h)]
theorem findA_out {f c : Int} (hf : f < 0 ∨ 10 < f) : ∀ (l : List Rec) (i : Nat), Cn.findA f c i l = -1
  | [], i => rfl
  | r :: l, i => by
    have := Cn.fam_small r.kind
    rw [Cn.findA, if_neg (fun a => by omega), findA_out hf l]
theorem find_out {l : List Rec} {f c : Int} (hf : f ≤ 0 ∨ 10 ≤ f) : Cn.find l f c = -1 := by
  unfold Cn.find
  split
  · rfl
  · exact findA_out (by omega) l 0
end Go.Proofs.YtdnkfnccbmbpaaaGreatDoor
/- The contracts of scalar's Valid, Sound (out of ScE). -/
namespace Go.Proofs.YtdnkfnccbmbpaaaGreatDoor
open Go.RowKit

set_option maxHeartbeats 400000 in
theorem validRune_any (c : Int) (w : World) (h : -2147483648 ≤ c ∧ c ≤ 2147483647) :
    Calls Tryz.prog 152 #[.int .i32 c] w fun e w' => e = .returned (.bool (Cn.scalar c)) ∧ w' = w := by
  by_cases h1 : 0 ≤ c
  · by_cases h2 : c < 55296
    · have hk : Cn.scalar c = true := decide_eq_true (by omega)
      rw [hk]
      go_enter Tryz.func152, Tryz.ntmps152
      go_wp2
      go_ret
      exact ⟨rfl, rfl⟩
    · by_cases h3 : 57343 < c
      · by_cases h4 : c ≤ 1114111
        · have hk : Cn.scalar c = true := decide_eq_true (by omega)
          rw [hk]
          go_enter Tryz.func152, Tryz.ntmps152
          go_wp2
          go_ret
          exact ⟨rfl, rfl⟩
        · have hk : Cn.scalar c = false := decide_eq_false (by omega)
          rw [hk]
          go_enter Tryz.func152, Tryz.ntmps152
          go_wp2
          go_ret
          exact ⟨rfl, rfl⟩
      · have hk : Cn.scalar c = false := decide_eq_false (by omega)
        rw [hk]
        go_enter Tryz.func152, Tryz.ntmps152
        go_wp2
        go_ret
        exact ⟨rfl, rfl⟩
  · have hk : Cn.scalar c = false := decide_eq_false (by omega)
    rw [hk]
    go_enter Tryz.func152, Tryz.ntmps152
    go_wp2
    go_ret
    exact ⟨rfl, rfl⟩

theorem valid_any (c : Int) (w : World) (h : -2147483648 ≤ c ∧ c ≤ 2147483647) :
    Calls Tryz.prog 150 #[.int .i32 c] w fun e w' => e = .returned (.bool (Cn.scalar c)) ∧ w' = w := by
  have H := hide (validRune_any c w h)
  generalize Cn.scalar c = b at *
  go_enter Tryz.func150, Tryz.ntmps150
  go_wp2_with fail
  refine (unhide H).mono ?_
  rintro e w ⟨rfl, rfl⟩
  clear H
  go_wp2
  go_ret
  exact ⟨rfl, rfl⟩

theorem unsound1_any (c : Int) (w : World) (h : -2147483648 ≤ c ∧ c ≤ 2147483647) :
    Calls Tryz.prog 149 #[.int .i32 c] w fun e w' => e = .returned (.bool (!Cn.scalar c)) ∧ w' = w := by
  have H := hide (valid_any c w h)
  generalize Cn.scalar c = b at *
  go_enter Tryz.func149, Tryz.ntmps149
  go_wp2_with fail
  refine (unhide H).mono ?_
  rintro e w ⟨rfl, rfl⟩
  clear H
  go_wp2
  go_ret
  exact ⟨rfl, rfl⟩

theorem drop_next {xs : List Int} {k : Nat} (hk : k < xs.length) : xs.drop k = xs.getD k 0 :: xs.drop (k + 1) := by
  rw [List.drop_eq_getElem_cons hk]
  simp [List.getD, hk]
/-- The place of the first at which p holds, or -1. -/
def fb (p : Int → Bool) : Nat → List Int → Int
  | _, [] => -1
  | i, c :: r => if p c then (i : Int) else fb p (i + 1) r

theorem fb_hit {p : Int → Bool} {xs : List Int} {k : Nat} {r : Int} (hk : k < xs.length) (h : r = fb p k (xs.drop k)) (hp : p (xs.getD k 0) = true) : r = (k : Int) := by
  rw [h, drop_next hk, fb, if_pos hp]
theorem fb_next {p : Int → Bool} {xs : List Int} {k : Nat} {r : Int} (hk : k < xs.length) (h : r = fb p k (xs.drop k)) (hp : p (xs.getD k 0) = false) : r = fb p (k + 1) (xs.drop (k + 1)) := by
  rw [h, drop_next hk, fb, hp]; rfl
theorem fb_end {p : Int → Bool} {xs : List Int} {k : Nat} {r : Int} (hk : xs.length ≤ k) (h : r = fb p k (xs.drop k)) : r = -1 := by
  rw [h, List.drop_eq_nil_of_le hk, fb]
theorem fb_all (p : Int → Bool) (i : Nat) (xs : List Int) : decide (fb p i xs < 0) = xs.all (fun c => !p c) := by
  induction xs generalizing i with
  | nil => rfl
  | cons c r ih =>
    simp only [fb, List.all_cons]
    by_cases hp : p c = true
    · simp [hp]
    · simpa [hp] using ih (i + 1)

set_option maxHeartbeats 1000000 in
theorem indexFunc_any (p : Int → Bool) (g : Nat) (hp : ∀ x w, (-2147483648 ≤ x ∧ x ≤ 2147483647) → Calls Tryz.prog g #[.int .i32 x] w fun e w' => e = .returned (.bool (p x)) ∧ w' = w) (eg : ∀ args w, (callFunc g args).run Tryz.prog w = .ok (.enter g args) w)
    (v : Value) (xs : List Int) (w : World) (hv : Sk .i32 w v xs) :
    Calls Tryz.prog 148 #[v, .func (.func g) #[] #[]] w fun e w' => e = .returned (.int .i64 (fb p 0 xs)) ∧ w' = w := by
  have hlx := hv.len
  have hr0 : fb p 0 xs = fb p 0 (xs.drop 0) := by rw [List.drop_zero]
  rcases Nat.eq_zero_or_pos xs.length with h0 | h0
  · have hq := fb_end (by omega) hr0
    obtain ⟨ao, cap, rfl, _, _⟩ := hv.shape
    rw [hq, h0]
    clear hr0 hv
    go_enter Tryz.func148, Tryz.ntmps148
    go_wp2
    refine wp_loop_rounds 1 ?_
    rw [rounds_succ]
    go_wp2
    go_ret
    exact ⟨rfl, rfl⟩
  · have hfit := hide hv.1
    obtain ⟨b, off, cap, rfl, hc1, hc2, hc⟩ := hv.place h0
    have HC := hide hc
    have HR0 := hide hr0
    have HP := hide hp
    clear hv hc hr0 hp
    generalize hq : fb p 0 xs = r at *
    clear hq
    go_enter Tryz.func148, Tryz.ntmps148
    go_wp2
    go_loop [5, 8] (fun _ i => ∃ k : Nat, i = .int .i64 k ∧ k ≤ xs.length ∧ r = fb p k (xs.drop k)) (fun _ i => xs.length - (intOf i).toNat)
    case atStart => exact ⟨0, rfl, by omega, unhide HR0⟩
    case round =>
      obtain ⟨k, rfl, hk, hr⟩ := hrel
      by_cases hlt : k < xs.length
      · have hcell := unhide HC k hlt
        have hrg := (unhide hfit).i32at k
        have HV := hide ((unhide HP) (xs.getD k 0) w hrg)
        cases hok : p (xs.getD k 0) with
        | true =>
          have hb := fb_hit hlt hr hok
          rw [hok] at HV
          subst hb
          clear hr hok HR0
          generalize xs.getD k 0 = c at *
          go_wp2_with (go_at_fn g; refine (unhide HV).mono ?_; rintro e w ⟨rfl, rfl⟩)
          go_ret
          exact ⟨rfl, rfl⟩
        | false =>
          have HR := hide (fb_next hlt hr hok)
          rw [hok] at HV
          clear hr hok HR0
          generalize xs.getD k 0 = c at *
          go_wp2_with (go_at_fn g; refine (unhide HV).mono ?_; rintro e w ⟨rfl, rfl⟩)
          go_round
          case rel => exact ⟨k + 1, by go_num, by omega, unhide HR⟩
          case measure => simp [intOf]; omega
      · have hb := fb_end (by omega) hr
        subst hb
        clear hr HR0
        go_wp2
        go_ret
        exact ⟨rfl, rfl⟩

theorem enters_un : ∀ args w, (callFunc 149 args).run Tryz.prog w = .ok (.enter 149 args) w := enters_of Tryz.func149 (by kernel_rfl) rfl

theorem firstUnsound_any (v : Value) (xs : List Int) (w : World) (hv : Sk .i32 w v xs) :
    Calls Tryz.prog 145 #[v] w fun e w' => e = .returned (.int .i64 (fb (fun c => !Cn.scalar c) 0 xs)) ∧ w' = w := by
  have H := hide (indexFunc_any (fun c => !Cn.scalar c) 149 unsound1_any enters_un v xs w hv)
  clear hv
  generalize fb (fun c => !Cn.scalar c) 0 xs = r at *
  go_enter Tryz.func145, Tryz.ntmps145
  go_wp2_with fail
  refine (unhide H).mono ?_
  rintro e w ⟨rfl, rfl⟩
  clear H
  go_wp2
  go_ret
  exact ⟨rfl, rfl⟩
theorem sound_any (v : Value) (xs : List Int) (w : World) (hv : Sk .i32 w v xs) :
    Calls Tryz.prog 142 #[v] w fun e w' => e = .returned (.bool (xs.all Cn.scalar)) ∧ w' = w := by
  have H := hide (firstUnsound_any v xs w hv)
  have e : xs.all Cn.scalar = decide (fb (fun c => !Cn.scalar c) 0 xs < 0) := by rw [fb_all]; simp
  rw [e]
  clear hv e
  generalize fb (fun c => !Cn.scalar c) 0 xs = r at *
  go_enter Tryz.func142, Tryz.ntmps142
  go_wp2_with fail
  refine (unhide H).mono ?_
  rintro e w ⟨rfl, rfl⟩
  clear H
  go_wp2
  go_ret
  exact ⟨rfl, rfl⟩
end Go.Proofs.YtdnkfnccbmbpaaaGreatDoor
/- Weights: NaN, weigh's Order against nought. -/
namespace Go.Proofs.YtdnkfnccbmbpaaaGreatDoor
open Go.RowKit

def nanB (u : Nat) : Bool := decide (9218868437227405312 < u % 9223372036854775808)
theorem order_self (d : Ieee.Datum) : d.order d = if d.isNaN then none else some .eq := by
  cases d with
  | number s m i =>
    simp [Ieee.Datum.order, Ieee.Datum.isNaN, Std.ReflCmp.compare_self]
  | infinity s => simp [Ieee.Datum.order, Ieee.Datum.isNaN, Std.ReflCmp.compare_self]
  | nan s t => simp [Ieee.Datum.order, Ieee.Datum.isNaN]
theorem read_nan (u : Nat) : (FloatKind.f64.format.read u).isNaN = nanB u := by
  have e1 : FloatKind.f64.format.signWeight = 9223372036854775808 := by decide
  have e2 : FloatKind.f64.format.binade = 4503599627370496 := by decide
  have e3 : FloatKind.f64.format.infRung = 9218868437227405312 := by decide
  unfold Ieee.Format.read nanB
  simp only [e1, e2, e3]
  split
  · rw [decide_eq_false (by omega)]; rfl
  · split
    · rw [decide_eq_false (by omega)]; rfl
    · split
      · rw [decide_eq_false (by omega)]; rfl
      · rw [decide_eq_true (by omega)]; rfl
theorem neq_self (u : Nat) : (FloatKind.f64.format.order u u != some .eq) = nanB u := by
  unfold Ieee.Format.order
  rw [order_self, ← read_nan]
  cases (FloatKind.f64.format.read u).isNaN <;> rfl
theorem isNaN_any (u : Nat) (w : World) : Calls Tryz.prog 143 #[.float .f64 u] w fun e w' => e = .returned (.bool (nanB u)) ∧ w' = w := by
  have e := neq_self u
  go_enter Tryz.func143, Tryz.ntmps143
  go_wp2
  go_ret
  exact ⟨rfl, rfl⟩
/-- A number's rank, of what is no NaN. -/
def rankN (u : Nat) : Int := if nanB u then 18446744073709551615 else if u < 9223372036854775808 then (u : Int) + 9223372036854775808 else 18446744073709551615 - u
theorem or_sign {u : Nat} (h : u < 9223372036854775808) : bits .or .u64 (u : Int) 9223372036854775808 = (u : Int) + 9223372036854775808 := by
  unfold bits
  simp only []
  have e : (BitVec.ofInt IntKind.u64.bits (u : Int) ||| BitVec.ofInt IntKind.u64.bits 9223372036854775808).toNat = u + 9223372036854775808 := by
    rw [BitVec.toNat_or, BitVec.toNat_ofInt, BitVec.toNat_ofInt]
    have e1 : ((u : Int) % ((2 ^ IntKind.u64.bits : Nat) : Int)).toNat = u := by
      rw [show ((2 ^ IntKind.u64.bits : Nat) : Int) = 18446744073709551616 by decide]
      omega
    have e2 : ((9223372036854775808 : Int) % ((2 ^ IntKind.u64.bits : Nat) : Int)).toNat = 9223372036854775808 := by decide
    rw [e1, e2, Nat.or_comm]
    have := Nat.two_pow_add_eq_or_of_lt (i := 63) (b := u) (by omega) 1
    rw [show (2 : Nat) ^ 63 * 1 = 9223372036854775808 by decide] at this
    omega
  rw [e, IntWalk.u64_in _ ⟨by omega, by omega⟩]
  omega
theorem xor_all {u : Nat} (h : u < 18446744073709551616) : bits .xor .u64 IntKind.u64.max (u : Int) = 18446744073709551615 - (u : Int) := by
  unfold bits
  simp only []
  have e : (BitVec.ofInt IntKind.u64.bits IntKind.u64.max ^^^ BitVec.ofInt IntKind.u64.bits (u : Int)).toNat = 18446744073709551615 - u := by
    rw [show BitVec.ofInt IntKind.u64.bits IntKind.u64.max = BitVec.allOnes IntKind.u64.bits by decide, BitVec.allOnes_xor, BitVec.toNat_not, BitVec.toNat_ofInt]
    have e1 : ((u : Int) % ((2 ^ IntKind.u64.bits : Nat) : Int)).toNat = u := by
      rw [show ((2 ^ IntKind.u64.bits : Nat) : Int) = 18446744073709551616 by decide]
      omega
    rw [e1]
    rfl
  rw [e, IntWalk.u64_in _ ⟨by omega, by omega⟩]
  omega
set_option maxRecDepth 8000 in
set_option maxHeartbeats 1000000 in
theorem rank_any (u : Nat) (w : World) (hu : u < 18446744073709551616) : Calls Tryz.prog 147 #[.float .f64 u] w fun e w' => e = .returned (.int .u64 (rankN u)) ∧ w' = w := by
  have K1 := hide (bits_any u w)
  have K2 := hide (isNaN_any u w)
  unfold rankN
  cases hn : nanB u with
  | true =>
    rw [hn] at K2
    rw [if_pos rfl]
    go_enter Tryz.func147, Tryz.ntmps147
    go_wp2_with fail
    refine (unhide K1).mono ?_
    rintro e w ⟨rfl, rfl⟩
    clear K1
    go_wp2_with fail
    refine (unhide K2).mono ?_
    rintro e w ⟨rfl, rfl⟩
    clear K2
    go_wp2
    go_ret
    exact ⟨rfl, rfl⟩
  | false =>
    rw [hn] at K2
    rw [if_neg (by decide)]
    by_cases hs : u < 9223372036854775808
    · rw [if_pos hs]
      have hs1 : ¬ (9223372036854775808 : Int) ≤ (u : Int) := by omega
      have ho := or_sign hs
      have hz : (0 : Int) ≤ (u : Int) := by omega
      have hs2 : (u : Int) < 9223372036854775808 := by omega
      clear hn hu hs hs1
      generalize (u : Int) = x at *
      generalize hy : x + 9223372036854775808 = y at *
      generalize hq : bits .or .u64 x 9223372036854775808 = q at *
      go_enter Tryz.func147, Tryz.ntmps147
      go_wp2_with fail
      refine (unhide K1).mono ?_
      rintro e w ⟨rfl, rfl⟩
      clear K1
      go_wp2_with fail
      refine (unhide K2).mono ?_
      rintro e w ⟨rfl, rfl⟩
      clear K2
      go_wp2
      go_ret
      exact ⟨rfl, rfl⟩
    · rw [if_neg hs]
      have hs1 : (9223372036854775808 : Int) ≤ (u : Int) := by omega
      have hx := xor_all hu
      go_enter Tryz.func147, Tryz.ntmps147
      go_wp2_with fail
      refine (unhide K1).mono ?_
      rintro e w ⟨rfl, rfl⟩
      clear K1
      go_wp2_with fail
      refine (unhide K2).mono ?_
      rintro e w ⟨rfl, rfl⟩
      clear K2
      go_wp2
      go_ret
      refine ⟨?_, rfl⟩
      rw [← hx]
      rfl
end Go.Proofs.YtdnkfnccbmbpaaaGreatDoor
