import Derived.Test.YtceflkeaenepcaaGreatDoorN23
import Derived.Shelf.Abstract
import Derived.Lib.Walk
import Derived.Test.YtceflkeaenepcaaGreatDoorN4
import Derived.Test.YtceflkeaenepcaaGreatDoorN3
namespace Go.Proofs.YtceflkeaenepcaaGreatDoor
open Go.RowKit
def fbR (p : Rec → Bool) : Nat → List Rec → Int
  | _, [] => -1
  | i, r :: l => if p r then (i : Int) else fbR p (i + 1) l
theorem fbR_hit {p : Rec → Bool} {rs : List Rec} {k : Nat} {x : Int} (hk : k < rs.length) (h : x = fbR p k (rs.drop k)) (hp : p (rs.getD k Cn.none) = true) : x = (k : Int) := by
  rw [h, List.drop_eq_getElem_cons hk, fbR, if_pos]
  simpa [List.getD, hk] using hp
theorem fbR_next {p : Rec → Bool} {rs : List Rec} {k : Nat} {x : Int} (hk : k < rs.length) (h : x = fbR p k (rs.drop k)) (hp : p (rs.getD k Cn.none) = false) : x = fbR p (k + 1) (rs.drop (k + 1)) := by
  rw [h, List.drop_eq_getElem_cons hk, fbR, if_neg]
  have : p rs[k] = false := by simpa [List.getD, hk] using hp
  simp [this]
theorem fbR_end {p : Rec → Bool} {rs : List Rec} {x : Int} (h : x = fbR p rs.length (rs.drop rs.length)) : x = -1 := by
  rw [h, List.drop_length, fbR]
theorem enters_find1 : ∀ args w, (callFunc 21 args).run Tryz.prog w = .ok (.enter 21 args) w := enters_of Tryz.func21 (by kernel_rfl) rfl
def AsksR (g : Nat) (cap : Array Value) (p : Rec → Bool) (w : World) (rs : List Rec) : Prop := ∀ (k : Nat) (vt : Value) (W : World), k < rs.length → Below w.heap.size w W → Sk .i32 W vt (rs.getD k Cn.none).to → Calls Tryz.prog g (#[recV (rs.getD k Cn.none) vt] ++ cap) W (BoolB W (p (rs.getD k Cn.none)))
def RIn (w : World) (v : Value) (rs : List Rec) (W : World) : Prop := Rcs W v rs ∧ Below w.heap.size w W
theorem RIn.on {w W W' : World} {v : Value} {rs : List Rec} (h : RIn w v rs W) (hb : Below W.heap.size W W') : RIn w v rs W' := ⟨h.1.below hb, h.2.trans (hb.mono h.2.size)⟩
set_option maxRecDepth 8000 in
set_option maxHeartbeats 4000000 in
theorem indexFunc2_any (B C : Nat) (p : Rec → Bool) (v : Value) (rs : List Rec) (w : World) (hv : Rcs w v rs) (hp : AsksR 21 #[.pointer (some ⟨B, 0, none⟩), .pointer (some ⟨C, 0, none⟩)] p w rs) :
    Calls Tryz.prog 20 #[v, .func (.func 21) #[] #[.pointer (some ⟨B, 0, none⟩), .pointer (some ⟨C, 0, none⟩)]] w (IntB w (fbR p 0 rs)) := by
  have eg := enters_find1
  have HI0 : Hid (RIn w v rs w) := ⟨hv, Below.refl _ _⟩
  have HP := hide hp
  have HR0 : Hid (fbR p 0 rs = fbR p 0 (rs.drop 0)) := by rw [List.drop_zero]; rfl
  have hlen := hv.1
  obtain ⟨ao, cap, rfl, h1, h2⟩ := hv.shape
  clear hv hp
  generalize hq : fbR p 0 rs = x at *
  clear hq
  go_enter Tryz.func20, Tryz.ntmps20
  go_wp2
  go_loopw [5, 8] (fun _ i wr => ∃ k : Nat, i = .int .i64 k ∧ k ≤ rs.length ∧ x = fbR p k (rs.drop k) ∧ RIn w (.slice ao rs.length cap) rs wr) (fun _ i _ => rs.length - (intOf i).toNat)
  case atStart => exact ⟨0, rfl, by omega, unhide HR0, unhide HI0⟩
  case round =>
    obtain ⟨k, rfl, hk, hr, hin⟩ := hrel
    clear HR0 HI0
    by_cases hlt : k < rs.length
    · obtain ⟨b, off, cap', he, hc1, hc2, hc⟩ := hin.1.place (by omega)
      obtain ⟨rfl, rfl⟩ : ao = some ⟨b, off, none⟩ ∧ cap = cap' := by simpa using he
      obtain ⟨x0, x1, x2, x3, ⟨vt, x4, sk⟩, x5, x6, x7⟩ := hc k hlt
      have HV := hide ((unhide HP) k vt wr hlt hin.2 sk)
      have HH : Hid (p (rs.getD k Cn.none) = true → x = (k : Int)) := fun h => fbR_hit hlt hr h
      have HN : Hid (p (rs.getD k Cn.none) = false → x = fbR p (k + 1) (rs.drop (k + 1))) := fun h => fbR_next hlt hr h
      have HIN := hide hin
      obtain ⟨to, tc, rfl, _, _⟩ := sk.shape
      clear hr hin hc he sk HP
      unfold recV at HV
      generalize p (rs.getD k Cn.none) = y at HV HH HN
      generalize (rs.getD k Cn.none).kind = kd at *
      generalize (rs.getD k Cn.none).lo = lo at *
      generalize (rs.getD k Cn.none).hi = hi at *
      generalize (rs.getD k Cn.none).n = n at *
      generalize (rs.getD k Cn.none).name = nm at *
      generalize (rs.getD k Cn.none).other = ot at *
      generalize (rs.getD k Cn.none).wt = wt at *
      generalize (rs.getD k Cn.none).to.length = tl at *
      cases y with
      | true =>
        obtain rfl := (unhide HH) rfl
        clear HH HN
        go_wp2_with (go_at_fn 21; refine (unhide HV).mono ?_; rintro e w1 ⟨rfl, hb1⟩)
        have HF := hide ((unhide HIN).on hb1).2
        clear HV HIN
        go_ret
        exact ⟨rfl, unhide HF⟩
      | false =>
        have HN2 := hide ((unhide HN) rfl)
        clear HH HN
        go_wp2_with (go_at_fn 21; refine (unhide HV).mono ?_; rintro e w1 ⟨rfl, hb1⟩)
        have HF := hide ((unhide HIN).on hb1)
        clear HV HIN
        go_round
        case rel => exact ⟨k + 1, by go_num, by omega, unhide HN2, unhide HF⟩
        case measure => simp [intOf]; omega
    · obtain rfl : k = rs.length := by omega
      obtain rfl := fbR_end hr
      have HF := hide hin.2
      clear hr hin HP
      go_wp2
      go_ret
      exact ⟨rfl, unhide HF⟩
theorem fbR_find (f c : Int) : ∀ (l : List Rec) (i : Nat), fbR (fun r => decide (Cn.fam r.kind = f) && Cn.speaks r c) i l = Cn.findA f c i l
  | [], i => rfl
  | r :: l, i => by
    rw [fbR, Cn.findA, fbR_find f c l]
    by_cases h : Cn.fam r.kind = f ∧ Cn.speaks r c = true
    · rw [if_pos h, if_pos (by simp [h.1, h.2])]
    · rw [if_neg h, if_neg (by simpa using h)]
theorem findA_out {f c : Int} (hf : f < 0 ∨ 10 < f) : ∀ (l : List Rec) (i : Nat), Cn.findA f c i l = -1
  | [], i => rfl
  | r :: l, i => by
    have := Cn.fam_small r.kind
    rw [Cn.findA, if_neg (fun a => by omega), findA_out hf l]
theorem find_out {l : List Rec} {f c : Int} (hf : f ≤ 0 ∨ 10 ≤ f) : Cn.find l f c = -1 := by
  unfold Cn.find
  split
  · rfl
  · exact findA_out (by omega) l 0
def FindT : Prop := ∀ (v : Value) (rs : List Rec) (f c : Int) (w : World), Glob w → Rcs w v rs → I64 f → (-2147483648 ≤ c ∧ c ≤ 2147483647) → Calls Tryz.prog 11 #[v, .int .i64 f, .int .i32 c] w (IntB w (Cn.find rs f c))
set_option maxRecDepth 8000 in
set_option maxHeartbeats 4000000 in
theorem find_any : FindT := by
  intro v rs f c w hg hv hf hc
  obtain ⟨f0, f1⟩ := hf
  by_cases hlo : f ≤ 0
  · rw [find_out (.inl hlo)]
    clear hg hv
    go_enter Tryz.func11, Tryz.ntmps11
    go_wp2
    go_ret
    exact ⟨rfl, ((Below.refl _ _).alloc (Nat.le_refl _) _).alloc (by simp) _⟩
  · by_cases hhi : 10 ≤ f
    · rw [find_out (.inr hhi)]
      clear hg hv
      go_enter Tryz.func11, Tryz.ntmps11
      go_wp2
      go_ret
      exact ⟨rfl, ((Below.refl _ _).alloc (Nat.le_refl _) _).alloc (by simp) _⟩
    · have hb0 : Below w.heap.size w ((w.alloc (.cells #[.int .i64 f] 3)).alloc (.cells #[.int .i32 c] 21)) := ((Below.refl _ _).alloc (Nat.le_refl _) _).alloc (by simp) _
      have hcB : ((w.alloc (.cells #[.int .i64 f] 3)).alloc (.cells #[.int .i32 c] 21)).cell? ⟨w.heap.size, 0, none⟩ = some (.int .i64 f) := by
        refine cell_of (j := 0) (cur := #[.int .i64 f]) (e := 3) ?_ (by simp)
        show ((w.heap.push _).push _)[w.heap.size]? = _
        rw [Array.getElem?_push_lt (by simp)]
        simp
      have hcC : ((w.alloc (.cells #[.int .i64 f] 3)).alloc (.cells #[.int .i32 c] 21)).cell? ⟨w.heap.size + 1, 0, none⟩ = some (.int .i32 c) := by
        refine cell_of (j := 0) (cur := #[.int .i32 c]) (e := 21) ?_ (by simp)
        show ((w.heap.push _).push _)[w.heap.size + 1]? = _
        rw [Array.getElem?_push]
        simp
      have hv1 := hv.below hb0
      have hg1 := hg.on hb0
      have e : Cn.find rs f c = fbR (fun r => decide (Cn.fam r.kind = f) && Cn.speaks r c) 0 rs := by
        unfold Cn.find
        rw [if_neg (by omega), fbR_find]
      rw [e]
      have K : Hid (Calls Tryz.prog 20 #[v, .func (.func 21) #[] #[.pointer (some ⟨w.heap.size, 0, none⟩), .pointer (some ⟨w.heap.size + 1, 0, none⟩)]] ((w.alloc (.cells #[.int .i64 f] 3)).alloc (.cells #[.int .i32 c] 21)) (IntB ((w.alloc (.cells #[.int .i64 f] 3)).alloc (.cells #[.int .i32 c] 21)) (fbR (fun r => decide (Cn.fam r.kind = f) && Cn.speaks r c) 0 rs))) :=
        indexFunc2_any _ _ _ v rs _ hv1 (fun k vt W hk hW _ => find1_any _ vt f c _ _ W (hv.fit hk) (hg1.on hW) (by rw [hW.cell (lt_of_cell? hcB)]; exact hcB) (by rw [hW.cell (lt_of_cell? hcC)]; exact hcC) (by omega) hc)
      obtain ⟨ao, cap, rfl, h1, h2⟩ := hv.shape
      clear hv hg hv1 hg1 hcB hcC e
      generalize fbR (fun r => decide (Cn.fam r.kind = f) && Cn.speaks r c) 0 rs = x at *
      go_enter Tryz.func11, Tryz.ntmps11
      go_wp2_with fail
      refine (unhide K).mono ?_
      rintro e w1 ⟨rfl, hb1⟩
      have HF : IntB w x (.returned (.int .i64 x)) w1 := ⟨rfl, bthen hb0 hb1⟩
      clear K hb0 hb1
      go_wp2
      go_ret
      exact HF
end Go.Proofs.YtceflkeaenepcaaGreatDoor
namespace Go.Proofs.YtceflkeaenepcaaGreatDoor
open Go.RowKit
set_option maxHeartbeats 400000 in
theorem validRune_any (c : Int) (w : World) (h : -2147483648 ≤ c ∧ c ≤ 2147483647) :
    Calls Tryz.prog 201 #[.int .i32 c] w fun e w' => e = .returned (.bool (Cn.scalar c)) ∧ w' = w := by
  by_cases h1 : 0 ≤ c
  · by_cases h2 : c < 55296
    · have hk : Cn.scalar c = true := decide_eq_true (by omega)
      rw [hk]
      go_enter Tryz.func201, Tryz.ntmps201
      go_wp2
      go_ret
      exact ⟨rfl, rfl⟩
    · by_cases h3 : 57343 < c
      · by_cases h4 : c ≤ 1114111
        · have hk : Cn.scalar c = true := decide_eq_true (by omega)
          rw [hk]
          go_enter Tryz.func201, Tryz.ntmps201
          go_wp2
          go_ret
          exact ⟨rfl, rfl⟩
        · have hk : Cn.scalar c = false := decide_eq_false (by omega)
          rw [hk]
          go_enter Tryz.func201, Tryz.ntmps201
          go_wp2
          go_ret
          exact ⟨rfl, rfl⟩
      · have hk : Cn.scalar c = false := decide_eq_false (by omega)
        rw [hk]
        go_enter Tryz.func201, Tryz.ntmps201
        go_wp2
        go_ret
        exact ⟨rfl, rfl⟩
  · have hk : Cn.scalar c = false := decide_eq_false (by omega)
    rw [hk]
    go_enter Tryz.func201, Tryz.ntmps201
    go_wp2
    go_ret
    exact ⟨rfl, rfl⟩
theorem valid_any (c : Int) (w : World) (h : -2147483648 ≤ c ∧ c ≤ 2147483647) :
    Calls Tryz.prog 180 #[.int .i32 c] w fun e w' => e = .returned (.bool (Cn.scalar c)) ∧ w' = w := by
  have H := hide (validRune_any c w h)
  generalize Cn.scalar c = b at *
  go_enter Tryz.func180, Tryz.ntmps180
  go_wp2_with fail
  refine (unhide H).mono ?_
  rintro e w ⟨rfl, rfl⟩
  clear H
  go_wp2
  go_ret
  exact ⟨rfl, rfl⟩
theorem unsound1_any (c : Int) (w : World) (h : -2147483648 ≤ c ∧ c ≤ 2147483647) :
    Calls Tryz.prog 179 #[.int .i32 c] w fun e w' => e = .returned (.bool (!Cn.scalar c)) ∧ w' = w := by
  have H := hide (valid_any c w h)
  generalize Cn.scalar c = b at *
  go_enter Tryz.func179, Tryz.ntmps179
  go_wp2_with fail
  refine (unhide H).mono ?_
  rintro e w ⟨rfl, rfl⟩
  clear H
  go_wp2
  go_ret
  exact ⟨rfl, rfl⟩
theorem drop_next {xs : List Int} {k : Nat} (hk : k < xs.length) : xs.drop k = xs.getD k 0 :: xs.drop (k + 1) := by
  rw [List.drop_eq_getElem_cons hk]
  simp [List.getD, hk]
def fb (p : Int → Bool) : Nat → List Int → Int
  | _, [] => -1
  | i, c :: r => if p c then (i : Int) else fb p (i + 1) r
theorem fb_hit {p : Int → Bool} {xs : List Int} {k : Nat} {r : Int} (hk : k < xs.length) (h : r = fb p k (xs.drop k)) (hp : p (xs.getD k 0) = true) : r = (k : Int) := by
  rw [h, drop_next hk, fb, if_pos hp]
theorem fb_next {p : Int → Bool} {xs : List Int} {k : Nat} {r : Int} (hk : k < xs.length) (h : r = fb p k (xs.drop k)) (hp : p (xs.getD k 0) = false) : r = fb p (k + 1) (xs.drop (k + 1)) := by
  rw [h, drop_next hk, fb, hp]; rfl
theorem fb_end {p : Int → Bool} {xs : List Int} {k : Nat} {r : Int} (hk : xs.length ≤ k) (h : r = fb p k (xs.drop k)) : r = -1 := by
  rw [h, List.drop_eq_nil_of_le hk, fb]
theorem fb_all (p : Int → Bool) (i : Nat) (xs : List Int) : decide (fb p i xs < 0) = xs.all (fun c => !p c) := by
  induction xs generalizing i with
  | nil => rfl
  | cons c r ih =>
    simp only [fb, List.all_cons]
    by_cases hp : p c = true
    · simp [hp]
    · simpa [hp] using ih (i + 1)
set_option maxHeartbeats 1000000 in
theorem indexFunc_any (p : Int → Bool) (g : Nat) (hp : ∀ x w, (-2147483648 ≤ x ∧ x ≤ 2147483647) → Calls Tryz.prog g #[.int .i32 x] w fun e w' => e = .returned (.bool (p x)) ∧ w' = w) (eg : ∀ args w, (callFunc g args).run Tryz.prog w = .ok (.enter g args) w)
    (v : Value) (xs : List Int) (w : World) (hv : Sk .i32 w v xs) :
    Calls Tryz.prog 178 #[v, .func (.func g) #[] #[]] w fun e w' => e = .returned (.int .i64 (fb p 0 xs)) ∧ w' = w := by
  have hlx := hv.len
  have hr0 : fb p 0 xs = fb p 0 (xs.drop 0) := by rw [List.drop_zero]
  rcases Nat.eq_zero_or_pos xs.length with h0 | h0
  · have hq := fb_end (by omega) hr0
    obtain ⟨ao, cap, rfl, _, _⟩ := hv.shape
    rw [hq, h0]
    clear hr0 hv
    go_enter Tryz.func178, Tryz.ntmps178
    go_wp2
    refine wp_loop_rounds 1 ?_
    rw [rounds_succ]
    go_wp2
    go_ret
    exact ⟨rfl, rfl⟩
  · have hfit := hide hv.1
    obtain ⟨b, off, cap, rfl, hc1, hc2, hc⟩ := hv.place h0
    have HC := hide hc
    have HR0 := hide hr0
    have HP := hide hp
    clear hv hc hr0 hp
    generalize hq : fb p 0 xs = r at *
    clear hq
    go_enter Tryz.func178, Tryz.ntmps178
    go_wp2
    go_loop [5, 8] (fun _ i => ∃ k : Nat, i = .int .i64 k ∧ k ≤ xs.length ∧ r = fb p k (xs.drop k)) (fun _ i => xs.length - (intOf i).toNat)
    case atStart => exact ⟨0, rfl, by omega, unhide HR0⟩
    case round =>
      obtain ⟨k, rfl, hk, hr⟩ := hrel
      by_cases hlt : k < xs.length
      · have hcell := unhide HC k hlt
        have hrg := (unhide hfit).i32at k
        have HV := hide ((unhide HP) (xs.getD k 0) w hrg)
        cases hok : p (xs.getD k 0) with
        | true =>
          have hb := fb_hit hlt hr hok
          rw [hok] at HV
          subst hb
          clear hr hok HR0
          generalize xs.getD k 0 = c at *
          go_wp2_with (go_at_fn g; refine (unhide HV).mono ?_; rintro e w ⟨rfl, rfl⟩)
          go_ret
          exact ⟨rfl, rfl⟩
        | false =>
          have HR := hide (fb_next hlt hr hok)
          rw [hok] at HV
          clear hr hok HR0
          generalize xs.getD k 0 = c at *
          go_wp2_with (go_at_fn g; refine (unhide HV).mono ?_; rintro e w ⟨rfl, rfl⟩)
          go_round
          case rel => exact ⟨k + 1, by go_num, by omega, unhide HR⟩
          case measure => simp [intOf]; omega
      · have hb := fb_end (by omega) hr
        subst hb
        clear hr HR0
        go_wp2
        go_ret
        exact ⟨rfl, rfl⟩
theorem enters_un : ∀ args w, (callFunc 179 args).run Tryz.prog w = .ok (.enter 179 args) w := enters_of Tryz.func179 (by kernel_rfl) rfl
theorem firstUnsound_any (v : Value) (xs : List Int) (w : World) (hv : Sk .i32 w v xs) :
    Calls Tryz.prog 154 #[v] w fun e w' => e = .returned (.int .i64 (fb (fun c => !Cn.scalar c) 0 xs)) ∧ w' = w := by
  have H := hide (indexFunc_any (fun c => !Cn.scalar c) 179 unsound1_any enters_un v xs w hv)
  clear hv
  generalize fb (fun c => !Cn.scalar c) 0 xs = r at *
  go_enter Tryz.func154, Tryz.ntmps154
  go_wp2_with fail
  refine (unhide H).mono ?_
  rintro e w ⟨rfl, rfl⟩
  clear H
  go_wp2
  go_ret
  exact ⟨rfl, rfl⟩
theorem sound_any (v : Value) (xs : List Int) (w : World) (hv : Sk .i32 w v xs) :
    Calls Tryz.prog 138 #[v] w fun e w' => e = .returned (.bool (xs.all Cn.scalar)) ∧ w' = w := by
  have H := hide (firstUnsound_any v xs w hv)
  have e : xs.all Cn.scalar = decide (fb (fun c => !Cn.scalar c) 0 xs < 0) := by rw [fb_all]; simp
  rw [e]
  clear hv e
  generalize fb (fun c => !Cn.scalar c) 0 xs = r at *
  go_enter Tryz.func138, Tryz.ntmps138
  go_wp2_with fail
  refine (unhide H).mono ?_
  rintro e w ⟨rfl, rfl⟩
  clear H
  go_wp2
  go_ret
  exact ⟨rfl, rfl⟩
end Go.Proofs.YtceflkeaenepcaaGreatDoor
namespace Go.Proofs.YtceflkeaenepcaaGreatDoor
open Go.RowKit
def nanB (u : Nat) : Bool := decide (9218868437227405312 < u % 9223372036854775808)
theorem order_self (d : Ieee.Datum) : d.order d = if d.isNaN then none else some .eq := by
  cases d with
  | number s m i =>
    simp [Ieee.Datum.order, Ieee.Datum.isNaN, Std.ReflCmp.compare_self]
  | infinity s => simp [Ieee.Datum.order, Ieee.Datum.isNaN, Std.ReflCmp.compare_self]
  | nan s t => simp [Ieee.Datum.order, Ieee.Datum.isNaN]
theorem read_nan (u : Nat) : (FloatKind.f64.format.read u).isNaN = nanB u := by
  have e1 : FloatKind.f64.format.signWeight = 9223372036854775808 := by decide
  have e2 : FloatKind.f64.format.binade = 4503599627370496 := by decide
  have e3 : FloatKind.f64.format.infRung = 9218868437227405312 := by decide
  unfold Ieee.Format.read nanB
  simp only [e1, e2, e3]
  split
  · rw [decide_eq_false (by omega)]; rfl
  · split
    · rw [decide_eq_false (by omega)]; rfl
    · split
      · rw [decide_eq_false (by omega)]; rfl
      · rw [decide_eq_true (by omega)]; rfl
theorem neq_self (u : Nat) : (FloatKind.f64.format.order u u != some .eq) = nanB u := by
  unfold Ieee.Format.order
  rw [order_self, ← read_nan]
  cases (FloatKind.f64.format.read u).isNaN <;> rfl
theorem isNaN_any (u : Nat) (w : World) : Calls Tryz.prog 139 #[.float .f64 u] w fun e w' => e = .returned (.bool (nanB u)) ∧ w' = w := by
  have e := neq_self u
  go_enter Tryz.func139, Tryz.ntmps139
  go_wp2
  go_ret
  exact ⟨rfl, rfl⟩
def rankN (u : Nat) : Int := if nanB u then 18446744073709551615 else if u < 9223372036854775808 then (u : Int) + 9223372036854775808 else 18446744073709551615 - u
theorem or_sign {u : Nat} (h : u < 9223372036854775808) : bits .or .u64 (u : Int) 9223372036854775808 = (u : Int) + 9223372036854775808 := by
  unfold bits
  simp only []
  have e : (BitVec.ofInt IntKind.u64.bits (u : Int) ||| BitVec.ofInt IntKind.u64.bits 9223372036854775808).toNat = u + 9223372036854775808 := by
    rw [BitVec.toNat_or, BitVec.toNat_ofInt, BitVec.toNat_ofInt]
    have e1 : ((u : Int) % ((2 ^ IntKind.u64.bits : Nat) : Int)).toNat = u := by
      rw [show ((2 ^ IntKind.u64.bits : Nat) : Int) = 18446744073709551616 by decide]
      omega
    have e2 : ((9223372036854775808 : Int) % ((2 ^ IntKind.u64.bits : Nat) : Int)).toNat = 9223372036854775808 := by decide
    rw [e1, e2, Nat.or_comm]
    have := Nat.two_pow_add_eq_or_of_lt (i := 63) (b := u) (by omega) 1
    rw [show (2 : Nat) ^ 63 * 1 = 9223372036854775808 by decide] at this
    omega
  rw [e, IntWalk.u64_in _ ⟨by omega, by omega⟩]
  omega
theorem xor_all {u : Nat} (h : u < 18446744073709551616) : bits .xor .u64 IntKind.u64.max (u : Int) = 18446744073709551615 - (u : Int) := by
  unfold bits
  simp only []
  have e : (BitVec.ofInt IntKind.u64.bits IntKind.u64.max ^^^ BitVec.ofInt IntKind.u64.bits (u : Int)).toNat = 18446744073709551615 - u := by
    rw [show BitVec.ofInt IntKind.u64.bits IntKind.u64.max = BitVec.allOnes IntKind.u64.bits by decide, BitVec.allOnes_xor, BitVec.toNat_not, BitVec.toNat_ofInt]
    have e1 : ((u : Int) % ((2 ^ IntKind.u64.bits : Nat) : Int)).toNat = u := by
      rw [show ((2 ^ IntKind.u64.bits : Nat) : Int) = 18446744073709551616 by decide]
      omega
    rw [e1]
    rfl
  rw [e, IntWalk.u64_in _ ⟨by omega, by omega⟩]
  omega
set_option maxRecDepth 8000 in
set_option maxHeartbeats 1000000 in
theorem rank_any (u : Nat) (w : World) (hu : u < 18446744073709551616) : Calls Tryz.prog 156 #[.float .f64 u] w fun e w' => e = .returned (.int .u64 (rankN u)) ∧ w' = w := by
  have K1 := hide (bits_any u w)
  have K2 := hide (isNaN_any u w)
  unfold rankN
  cases hn : nanB u with
  | true =>
    rw [hn] at K2
    rw [if_pos rfl]
    go_enter Tryz.func156, Tryz.ntmps156
    go_wp2_with fail
    refine (unhide K1).mono ?_
    rintro e w ⟨rfl, rfl⟩
    clear K1
    go_wp2_with fail
    refine (unhide K2).mono ?_
    rintro e w ⟨rfl, rfl⟩
    clear K2
    go_wp2
    go_ret
    exact ⟨rfl, rfl⟩
  | false =>
    rw [hn] at K2
    rw [if_neg (by decide)]
    by_cases hs : u < 9223372036854775808
    · rw [if_pos hs]
      have hs1 : ¬ (9223372036854775808 : Int) ≤ (u : Int) := by omega
      have ho := or_sign hs
      have hz : (0 : Int) ≤ (u : Int) := by omega
      have hs2 : (u : Int) < 9223372036854775808 := by omega
      clear hn hu hs hs1
      generalize (u : Int) = x at *
      generalize hy : x + 9223372036854775808 = y at *
      generalize hq : bits .or .u64 x 9223372036854775808 = q at *
      go_enter Tryz.func156, Tryz.ntmps156
      go_wp2_with fail
      refine (unhide K1).mono ?_
      rintro e w ⟨rfl, rfl⟩
      clear K1
      go_wp2_with fail
      refine (unhide K2).mono ?_
      rintro e w ⟨rfl, rfl⟩
      clear K2
      go_wp2
      go_ret
      exact ⟨rfl, rfl⟩
    · rw [if_neg hs]
      have hs1 : (9223372036854775808 : Int) ≤ (u : Int) := by omega
      have hx := xor_all hu
      go_enter Tryz.func156, Tryz.ntmps156
      go_wp2_with fail
      refine (unhide K1).mono ?_
      rintro e w ⟨rfl, rfl⟩
      clear K1
      go_wp2_with fail
      refine (unhide K2).mono ?_
      rintro e w ⟨rfl, rfl⟩
      clear K2
      go_wp2
      go_ret
      refine ⟨?_, rfl⟩
      rw [← hx]
      rfl
end Go.Proofs.YtceflkeaenepcaaGreatDoor
