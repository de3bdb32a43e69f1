import Derived.Test.YtdnkfnccbmbpaaaGreatDoorMRbb8
import Derived.Deep.QuietTactic
import Derived.Test.YtdnkfnccbmbpaaaGreatDoorGt8
import Derived.Test.YtdnkfnccbmbpaaaGreatDoorMPu8
/- The document's reader: numbers, names, weights (8.2). -/
namespace Go.Proofs.YtdnkfnccbmbpaaaGreatDoor
open Go.RowKit
open Wi

/-- The reader's block. -/
def RdAt (W : World) (p : Nat) (bv : Value) (a e : Int) : Prop := W.heap[p]? = some (.cells #[bv, .int .i64 a, .int .i64 e] 76 (0, 0))
theorem rd_grown (W : World) (n p j : Nat) (v : Value) : W.grownBy ((W.drewN n).setCell ⟨p, j, none⟩ v) (some p) := by
  refine ⟨rfl, rfl, rfl, ?_, fun k hk hne => ?_⟩
  · show _ ≤ (W.heap.modify p _).size
    rw [Array.size_modify]
    exact Nat.le_refl _
  · show (W.heap.modify p _)[k]? = _
    rw [Array.getElem?_modify, if_neg (fun e => hne (by rw [e]))]
theorem rd_same (W : World) (n : Nat) (row : Option Nat) : W.grownBy (W.drewN n) row := ⟨rfl, rfl, rfl, Nat.le_refl _, fun _ _ _ => rfl⟩
def RdN (W : World) (p : Nat) (bv : Value) (r : Int × Int × Int) (x : Ending) (W' : World) : Prop := x = .returned (.int .i64 r.1) ∧ RdAt W' p bv r.2.1 r.2.2 ∧ W.grownBy W' (some p)
theorem RdAt.cells {W : World} {p : Nat} {bv : Value} {a e : Int} (h : RdAt W p bv a e) : W.cell? ⟨p, 0, none⟩ = some bv ∧ W.cell? ⟨p, 1, none⟩ = some (.int .i64 a) ∧ W.cell? ⟨p, 2, none⟩ = some (.int .i64 e) :=
  ⟨cell_of (j := 0) h (by simp), cell_of (j := 1) h (by simp), cell_of (j := 2) h (by simp)⟩
theorem RdAt.setA {W : World} {p : Nat} {bv : Value} {a e : Int} (h : RdAt W p bv a e) (n : Nat) (a' : Int) : RdAt ((W.drewN n).setCell ⟨p, 1, none⟩ (.int .i64 a')) p bv a' e := set_block (w := W.drewN n) h _
theorem RdAt.setE {W : World} {p : Nat} {bv : Value} {a e : Int} (h : RdAt W p bv a e) (n : Nat) (e' : Int) : RdAt ((W.drewN n).setCell ⟨p, 2, none⟩ (.int .i64 e')) p bv a e' := set_block (w := W.drewN n) h _
theorem ru_cases (zs : List Int) (a most : Int) : (¬ (Ref.rd zs a).2.2 = 0 ∧ Pk.ru zs a most = (0, a, (Ref.rd zs a).2.2)) ∨ ((Ref.rd zs a).2.2 = 0 ∧ most < (Ref.rd zs a).1 ∧ Pk.ru zs a most = (0, a, 61)) ∨ ((Ref.rd zs a).2.2 = 0 ∧ ¬ most < (Ref.rd zs a).1 ∧ Pk.ru zs a most = ((Ref.rd zs a).1, (Ref.rd zs a).2.1, 0)) := by
  unfold Pk.ru
  by_cases h1 : (Ref.rd zs a).2.2 = 0
  · by_cases h2 : most < (Ref.rd zs a).1
    · exact .inr (.inl ⟨h1, h2, by rw [if_neg (fun e => e h1), if_pos h2]⟩)
    · exact .inr (.inr ⟨h1, h2, by rw [if_neg (fun e => e h1), if_neg h2]⟩)
  · exact .inl ⟨h1, by rw [if_pos h1]⟩
set_option maxRecDepth 8000 in
set_option maxHeartbeats 2000000 in
theorem rdUint_any (p : Nat) (bv : Value) (zs : List Int) (a e most : Int) (W : World) (h : RdAt W p bv a e) (hs : Sl W bv zs) : Calls Tryz.prog 63 #[.pointer (some ⟨p, 0, none⟩), .int .i64 most] W (RdN W p bv (if e = 0 then Pk.ru zs a most else (0, a, e))) := by
  obtain ⟨x0, x1, x2⟩ := h.cells
  have fz1 := frozen_of (j := 1) h
  have fz2 := frozen_of (j := 2) h
  by_cases he : e = 0
  · subst he
    rw [if_pos rfl]
    have K : Hid (∀ n, Calls Tryz.prog 37 #[bv, .int .i64 a] (W.drewN n) (RdPost (W.drewN n) (Ref.rd zs a))) := fun n => refReadUint_any bv zs a _ (hs.below (drewB ⟨n, rfl⟩))
    unfold RdPost at K
    obtain ⟨bo, bc, rfl, _, _⟩ := hs.shape
    have HSA := hide (fun n a' => h.setA n a')
    have HSE := hide (fun n e' => h.setE n e')
    have HC := ru_cases zs a most
    clear h hs
    generalize Ref.rd zs a = r at *
    generalize Pk.ru zs a most = q at *
    obtain ⟨r1, r2, r3⟩ := r
    simp only at HC
    replace HC := hide HC
    go_enter Tryz.func63, Tryz.ntmps63
    go_wp2
    go_quiet (first | (go_at_call 37; exact Calls.quiet_of_same ((unhide K) _)))
    all_goals
      rcases unhide HC with ⟨h3, rfl⟩ | ⟨h3, hm, rfl⟩ | ⟨h3, hm, rfl⟩
      · have d1 : (r3 == 0) = false := beq_eq_false_iff_ne.2 h3
        have d2 : (r3 != 0) = true := by simp [h3]
        clear HC K h3
        go_wp2
        go_ret
        exact ⟨rfl, (unhide HSE) _ _, rd_grown _ _ _ _ _⟩
      · subst h3
        clear HC K
        go_wp2
        go_ret
        exact ⟨rfl, (unhide HSE) _ _, rd_grown _ _ _ _ _⟩
      · subst h3
        have d3 : decide (most < r1) = false := decide_eq_false (by omega)
        clear HC K
        go_wp2
        go_ret
        exact ⟨rfl, (unhide HSA) _ _, rd_grown _ _ _ _ _⟩
  · rw [if_neg he]
    have d : (e != 0) = true := by simp [he]
    have HF : RdN W p bv (0, a, e) (.returned (.int .i64 0)) W := ⟨rfl, h, rd_same W 0 _⟩
    clear h hs he
    go_enter Tryz.func63, Tryz.ntmps63
    go_wp2
    go_ret
    exact HF
/-- A name read: it, the place, the error. -/
def rtx (zs : List Int) (a e : Int) : ByteArray × Int × Int := if e = 0 then (if (Ref.rt zs a 4).2.2 = 0 then (strOfNums (Ref.rt zs a 4).1, (Ref.rt zs a 4).2.1, 0) else (⟨#[]⟩, a, (Ref.rt zs a 4).2.2)) else (⟨#[]⟩, a, e)
def RdT (W : World) (p : Nat) (bv : Value) (r : ByteArray × Int × Int) (x : Ending) (W' : World) : Prop := x = .returned (.string r.1) ∧ RdAt W' p bv r.2.1 r.2.2 ∧ W.grownBy W' (some p)
set_option maxRecDepth 8000 in
set_option maxHeartbeats 2000000 in
theorem rdText_any (p : Nat) (bv : Value) (zs : List Int) (a e : Int) (W : World) (h : RdAt W p bv a e) (hs : Sl W bv zs) : Calls Tryz.prog 64 #[.pointer (some ⟨p, 0, none⟩)] W (RdT W p bv (rtx zs a e)) := by
  obtain ⟨x0, x1, x2⟩ := h.cells
  have fz1 := frozen_of (j := 1) h
  have fz2 := frozen_of (j := 2) h
  unfold rtx
  by_cases he : e = 0
  · subst he
    rw [if_pos rfl]
    have K : Hid (∀ n, Calls Tryz.prog 96 #[bv, .int .i64 a, .int .i64 4] (W.drewN n) (RtPost (W.drewN n) (Ref.rt zs a 4))) := fun n => refReadText_any bv zs a 4 _ (hs.below (drewB ⟨n, rfl⟩))
    unfold RtPost at K
    obtain ⟨bo, bc, rfl, _, _⟩ := hs.shape
    have HSA := hide (fun n a' => h.setA n a')
    have HSE := hide (fun n e' => h.setE n e')
    clear h hs
    generalize Ref.rt zs a 4 = r at *
    obtain ⟨r1, r2, r3⟩ := r
    simp only at K ⊢
    generalize strOfNums r1 = sr at *
    by_cases h3 : r3 = 0
    · rw [if_pos h3]
      subst h3
      go_enter Tryz.func64, Tryz.ntmps64
      go_wp2
      go_quiet (first | (go_at_call 96; exact Calls.quiet_of_same ((unhide K) _)))
      all_goals
        clear K
        go_wp2
        go_ret
        exact ⟨rfl, (unhide HSA) _ _, rd_grown _ _ _ _ _⟩
    · rw [if_neg h3]
      have d2 : (r3 != 0) = true := by simp [h3]
      clear h3
      go_enter Tryz.func64, Tryz.ntmps64
      go_wp2
      go_quiet (first | (go_at_call 96; exact Calls.quiet_of_same ((unhide K) _)))
      all_goals
        clear K
        go_wp2
        go_ret
        exact ⟨rfl, (unhide HSE) _ _, rd_grown _ _ _ _ _⟩
  · rw [if_neg he]
    have d : (e != 0) = true := by simp [he]
    have HF : RdT W p bv (⟨#[]⟩, a, e) (.returned (.string ⟨#[]⟩)) W := ⟨rfl, h, rd_same W 0 _⟩
    clear h hs he
    go_enter Tryz.func64, Tryz.ntmps64
    go_wp2
    go_ret
    exact HF
/-- A weight read: its bits, the place, the error. -/
def rfx (zs : List Int) (a e : Int) : Nat × Int × Int := if e = 0 then (if (Ref.rf zs a).2.2 = 0 then ((Ref.rf zs a).1.toNat, (Ref.rf zs a).2.1, 0) else (0, a, (Ref.rf zs a).2.2)) else (0, a, e)
def RdF (W : World) (p : Nat) (bv : Value) (r : Nat × Int × Int) (x : Ending) (W' : World) : Prop := x = .returned (.float .f64 r.1) ∧ RdAt W' p bv r.2.1 r.2.2 ∧ W.grownBy W' (some p)
set_option maxRecDepth 8000 in
set_option maxHeartbeats 2000000 in
theorem rdFloat_any (p : Nat) (bv : Value) (zs : List Int) (a e : Int) (W : World) (h : RdAt W p bv a e) (hs : Sl W bv zs) : Calls Tryz.prog 65 #[.pointer (some ⟨p, 0, none⟩)] W (RdF W p bv (rfx zs a e)) := by
  obtain ⟨x0, x1, x2⟩ := h.cells
  have fz1 := frozen_of (j := 1) h
  have fz2 := frozen_of (j := 2) h
  unfold rfx
  by_cases he : e = 0
  · subst he
    rw [if_pos rfl]
    have K : Hid (∀ n, Calls Tryz.prog 97 #[bv, .int .i64 a] (W.drewN n) (RuPost (W.drewN n) (Ref.rf zs a))) := fun n => refReadFloat_any bv zs a _ (hs.below (drewB ⟨n, rfl⟩))
    unfold RuPost at K
    obtain ⟨bo, bc, rfl, _, _⟩ := hs.shape
    have HSA := hide (fun n a' => h.setA n a')
    have HSE := hide (fun n e' => h.setE n e')
    clear h hs
    generalize Ref.rf zs a = r at *
    obtain ⟨r1, r2, r3⟩ := r
    simp only at K ⊢
    by_cases h3 : r3 = 0
    · rw [if_pos h3]
      have KF : Hid (∀ W, Calls Tryz.prog 98 #[.int .u64 r1] W fun e w' => e = .returned (.float .f64 r1.toNat) ∧ w' = W) := fun W => apiFloat_any r1 W
      generalize r1.toNat = u at *
      subst h3
      go_enter Tryz.func65, Tryz.ntmps65
      go_wp2
      go_quiet (first | (go_at_call 97; exact Calls.quiet_of_same ((unhide K) _)))
      all_goals
        clear K
        go_wp2_with fail
        refine ((unhide KF) _).mono ?_
        rintro e2 w2 ⟨rfl, rfl⟩
        clear KF
        go_wp2
        go_ret
        exact ⟨rfl, (unhide HSA) _ _, rd_grown _ _ _ _ _⟩
    · rw [if_neg h3]
      have d2 : (r3 != 0) = true := by simp [h3]
      clear h3
      go_enter Tryz.func65, Tryz.ntmps65
      go_wp2
      go_quiet (first | (go_at_call 97; exact Calls.quiet_of_same ((unhide K) _)))
      all_goals
        clear K
        go_wp2
        go_ret
        exact ⟨rfl, (unhide HSE) _ _, rd_grown _ _ _ _ _⟩
  · rw [if_neg he]
    have d : (e != 0) = true := by simp [he]
    have HF : RdF W p bv (0, a, e) (.returned (.float .f64 0)) W := ⟨rfl, h, rd_same W 0 _⟩
    clear h hs he
    go_enter Tryz.func65, Tryz.ntmps65
    go_wp2
    go_ret
    exact HF
end Go.Proofs.YtdnkfnccbmbpaaaGreatDoor
/- The document's reader of a record, plain (8.2): what it reads, also behind a fault, against the parts read. -/
namespace Go.Proofs.YtdnkfnccbmbpaaaGreatDoor
open Go.RowKit
open Wi
namespace Pk

/-- A number read, where nothing is wrong yet. -/
def uR (zs : List Int) (a e most : Int) : Int × Int × Int := if e = 0 then Pk.ru zs a most else (0, a, e)
/-- So many numbers more, until something is wrong. -/
def lx (zs : List Int) : Nat → List Int → Int → Int → List Int × Int × Int
  | 0, acc, a, e => (acc, a, e)
  | k + 1, acc, a, e => if e = 0 then lx zs k (acc ++ [(ru zs a 1114111).1]) (ru zs a 1114111).2.1 (ru zs a 1114111).2.2 else (acc, a, e)
/-- A letter's part. -/
def ls (zs : List Int) (c : Int) (x : Rec) (a e : Int) : Rec × Int × Int :=
  if c = 83 then (⟨x.kind, (uR zs a e 1114111).1, (uR zs a e 1114111).1 + (uR zs (uR zs a e 1114111).2.1 (uR zs a e 1114111).2.2 1114111).1, x.n, x.to, x.name, x.other, x.wt⟩, (uR zs (uR zs a e 1114111).2.1 (uR zs a e 1114111).2.2 1114111).2)
  else if c = 76 then (⟨x.kind, (uR zs a e 1114111).1, (uR zs a e 1114111).1, x.n, x.to, x.name, x.other, x.wt⟩, (uR zs a e 1114111).2)
  else if c = 78 then (⟨x.kind, x.lo, x.hi, (uR zs a e 1114111).1, x.to, x.name, x.other, x.wt⟩, (uR zs a e 1114111).2)
  else if c = 84 then (⟨x.kind, x.lo, x.hi, x.n, [(uR zs a e 1114111).1], x.name, x.other, x.wt⟩, (uR zs a e 1114111).2)
  else if c = 120 then (⟨x.kind, x.lo, x.hi, x.n, (lx zs (uR zs a e 24).1.toNat x.to (uR zs a e 24).2.1 (uR zs a e 24).2.2).1, x.name, x.other, x.wt⟩, (lx zs (uR zs a e 24).1.toNat x.to (uR zs a e 24).2.1 (uR zs a e 24).2.2).2)
  else if c = 110 then (⟨x.kind, x.lo, x.hi, x.n, x.to, (rtx zs a e).1, x.other, x.wt⟩, (rtx zs a e).2)
  else if c = 111 then (⟨x.kind, x.lo, x.hi, x.n, x.to, x.name, (rtx zs a e).1, x.wt⟩, (rtx zs a e).2)
  else (⟨x.kind, x.lo, x.hi, x.n, x.to, x.name, x.other, (rfx zs a e).1⟩, (rfx zs a e).2)
def lss (zs : List Int) : List Int → Rec → Int → Int → Rec × Int × Int
  | [], x, a, e => (x, a, e)
  | c :: cs, x, a, e => lss zs cs (ls zs c x a e).1 (ls zs c x a e).2.1 (ls zs c x a e).2.2
/-- The parts of a letter. -/
def lc (c : Int) : List Nat := if c = 83 then [0, 1] else if c = 76 then [2] else if c = 78 then [3] else if c = 84 then [4] else if c = 120 then [7] else if c = 110 then [5] else if c = 111 then [6] else [8]
theorem lc_form (k : Int) (h : 1 ≤ k ∧ k ≤ 15) : (nums (fstr k)).flatMap lc = Pk.form k := by
  have hk15 : k = 1 ∨ k = 2 ∨ k = 3 ∨ k = 4 ∨ k = 5 ∨ k = 6 ∨ k = 7 ∨ k = 8 ∨ k = 9 ∨ k = 10 ∨ k = 11 ∨ k = 12 ∨ k = 13 ∨ k = 14 ∨ k = 15 := by omega
  rcases hk15 with rfl | rfl | rfl | rfl | rfl | rfl | rfl | rfl | rfl | rfl | rfl | rfl | rfl | rfl | rfl
  all_goals rfl
theorem uR_far (zs : List Int) (a e most : Int) (h : e ≠ 0) : uR zs a e most = (0, a, e) := if_neg h
theorem uR_on (zs : List Int) (a most : Int) : uR zs a 0 most = ru zs a most := if_pos rfl
theorem uR_range (zs : List Int) (a e most : Int) (hm : 0 ≤ most) : 0 ≤ (uR zs a e most).1 ∧ (uR zs a e most).1 ≤ most := by
  unfold uR
  by_cases he : e = 0
  · rw [if_pos he]
    rcases ru_cases zs a most with ⟨_, h⟩ | ⟨_, _, h⟩ | ⟨h0, _, h⟩
    · rw [h]; exact ⟨by omega, hm⟩
    · rw [h]; exact ⟨by omega, hm⟩
    · have := ru_ok zs a most (by rw [h])
      exact ⟨this.1, this.2.1⟩
  · rw [if_neg he]; exact ⟨by show (0 : Int) ≤ 0; omega, hm⟩
theorem ru_bad {zs : List Int} {a most : Int} (h : (ru zs a most).2.2 ≠ 0) : ru zs a most = (0, a, (ru zs a most).2.2) := by
  rcases ru_cases zs a most with ⟨_, h1⟩ | ⟨_, _, h1⟩ | ⟨_, _, h1⟩
  · rw [h1]
  · rw [h1]
  · rw [h1] at h; exact absurd rfl h
theorem lx_far (zs : List Int) (k : Nat) (acc : List Int) (a e : Int) (h : e ≠ 0) : lx zs k acc a e = (acc, a, e) := by
  cases k with
  | zero => rfl
  | succ k => unfold lx; rw [if_neg h]
/-- The list's numbers. -/
theorem lx_rl (zs : List Int) : ∀ (k : Nat) (acc : List Int) (a : Int), (lx zs k acc a 0).2 = (rl zs k a acc).2 ∧ ((rl zs k a acc).2.2 = 0 → (lx zs k acc a 0).1 = (rl zs k a acc).1)
  | 0, acc, a => ⟨rfl, fun _ => rfl⟩
  | k + 1, acc, a => by
    have e1 : lx zs (k + 1) acc a 0 = lx zs k (acc ++ [(ru zs a 1114111).1]) (ru zs a 1114111).2.1 (ru zs a 1114111).2.2 := if_pos rfl
    rw [e1]
    by_cases h : (ru zs a 1114111).2.2 = 0
    · rw [rl_step zs k a acc h, h]
      exact lx_rl zs k _ _
    · rw [rl_err zs k a acc h, lx_far _ _ _ _ _ h]
      refine ⟨?_, fun h2 => absurd h2 h⟩
      rw [ru_bad h]
/-- Behind a fault nothing moves. -/
theorem ls_far (zs : List Int) (c : Int) (x : Rec) (a e : Int) (h : e ≠ 0) : (ls zs c x a e).2 = (a, e) := by
  have f1 : ∀ most, uR zs a e most = (0, a, e) := fun most => uR_far zs a e most h
  have f2 : rtx zs a e = (⟨#[]⟩, a, e) := if_neg h
  have f3 : rfx zs a e = (0, a, e) := if_neg h
  have f4 : ∀ k acc, lx zs k acc a e = (acc, a, e) := fun k acc => lx_far zs k acc a e h
  unfold ls
  split
  · simp only [f1]
  split
  · simp only [f1]
  split
  · simp only [f1]
  split
  · simp only [f1]
  split
  · simp only [f1, f4]
  split
  · simp only [f2]
  split
  · simp only [f2]
  · simp only [f3]
theorem lss_far (zs : List Int) : ∀ (cs : List Int) (x : Rec) (a e : Int), e ≠ 0 → (lss zs cs x a e).2 = (a, e)
  | [], _, _, _, _ => rfl
  | c :: cs, x, a, e, h => by
    have h1 := ls_far zs c x a e h
    show (lss zs cs (ls zs c x a e).1 (ls zs c x a e).2.1 (ls zs c x a e).2.2).2 = (a, e)
    rw [h1]
    exact lss_far zs cs _ a e h
theorem frs_append (zs : List Int) : ∀ (c d : List Nat) (a : Int) (x : Rec), frs zs (c ++ d) a x = if (frs zs c a x).2.2 ≠ 0 then frs zs c a x else frs zs d (frs zs c a x).2.1 (frs zs c a x).1
  | [], d, a, x => by rw [if_neg (by simp [frs])]; rfl
  | f :: c, d, a, x => by
    show (if (fr zs a x f).2.2 ≠ 0 then fr zs a x f else frs zs (c ++ d) (fr zs a x f).2.1 (fr zs a x f).1) = _
    have e : frs zs (f :: c) a x = if (fr zs a x f).2.2 ≠ 0 then fr zs a x f else frs zs c (fr zs a x f).2.1 (fr zs a x f).1 := rfl
    rw [e]
    by_cases h : (fr zs a x f).2.2 ≠ 0
    · rw [if_pos h, if_pos h, if_pos h]
    · rw [if_neg h, if_neg h, frs_append zs c d]
theorem frs_one (zs : List Int) (f : Nat) (a : Int) (x : Rec) : frs zs [f] a x = fr zs a x f := by
  show (if (fr zs a x f).2.2 ≠ 0 then fr zs a x f else ((fr zs a x f).1, (fr zs a x f).2.1, 0)) = _
  by_cases h : (fr zs a x f).2.2 = 0
  · rw [if_neg (fun e => e h)]
    rw [← h]
  · rw [if_pos h]
/-- Two told alike, as far as it matters. -/
def Like (p q : Rec × Int × Int) : Prop := p.2 = q.2 ∧ (q.2.2 = 0 → p.1 = q.1)
theorem rn_like (zs : List Int) (a : Int) (x : Rec) (g : Int → Rec) : Like (g (uR zs a 0 1114111).1, (uR zs a 0 1114111).2) (rn zs a x g) := by
  rw [uR_on]
  unfold rn
  by_cases h : (ru zs a 1114111).2.2 = 0
  · rw [if_neg (fun e => e h)]
    refine ⟨?_, fun _ => rfl⟩
    show (ru zs a 1114111).2 = ((ru zs a 1114111).2.1, 0)
    rw [← h]
  · rw [if_pos h]
    refine ⟨?_, fun h2 => absurd h2 h⟩
    show (ru zs a 1114111).2 = (a, (ru zs a 1114111).2.2)
    rw [ru_bad h]
theorem rs_like (zs : List Int) (a : Int) (x : Rec) (g : ByteArray → Rec) : Like (g (rtx zs a 0).1, (rtx zs a 0).2) (rs zs a x g) := by
  unfold rs rtx
  rw [if_pos rfl]
  by_cases h : (Ref.rt zs a 4).2.2 = 0
  · rw [if_pos h, if_neg (fun e => e h)]
    exact ⟨rfl, fun _ => rfl⟩
  · rw [if_neg h, if_pos h]
    exact ⟨rfl, fun h2 => absurd h2 h⟩
theorem ls_like (zs : List Int) (c : Int) (x : Rec) (a : Int) : Like (ls zs c x a 0) (frs zs (lc c) a x) := by
  unfold ls lc
  by_cases c1 : c = 83
  · rw [if_pos c1, if_pos c1]
    have h1 := rn_like zs a x fun n => { x with lo := n }
    have e0 : frs zs [0, 1] a x = if (fr zs a x 0).2.2 ≠ 0 then fr zs a x 0 else frs zs [1] (fr zs a x 0).2.1 (fr zs a x 0).1 := rfl
    rw [e0]
    have e1 : fr zs a x 0 = rn zs a x fun n => { x with lo := n } := rfl
    rw [e1]
    generalize (rn zs a x fun n => { x with lo := n }) = R at *
    obtain ⟨R1, R2, R3⟩ := R
    have e3 : (uR zs a 0 1114111).2 = (R2, R3) := h1.1
    have e4 : R3 = 0 → (⟨x.kind, (uR zs a 0 1114111).1, x.hi, x.n, x.to, x.name, x.other, x.wt⟩ : Rec) = R1 := h1.2
    generalize uR zs a 0 1114111 = U at *
    obtain ⟨U1, U2, U3⟩ := U
    simp only [Prod.mk.injEq] at e3 e4
    obtain ⟨rfl, rfl⟩ := e3
    by_cases h : U3 = 0
    · subst h
      obtain rfl := e4 rfl
      rw [if_neg (fun e => e rfl), frs_one]
      exact rn_like zs U2 ⟨x.kind, U1, x.hi, x.n, x.to, x.name, x.other, x.wt⟩ fun n => ⟨x.kind, U1, U1 + n, x.n, x.to, x.name, x.other, x.wt⟩
    · rw [if_pos h]
      simp only [uR_far _ U2 _ _ h]
      exact ⟨rfl, fun h2 => absurd h2 h⟩
  rw [if_neg c1, if_neg c1]
  by_cases c2 : c = 76
  · rw [if_pos c2, if_pos c2, frs_one]
    exact rn_like zs a x fun n => { x with lo := n, hi := n }
  rw [if_neg c2, if_neg c2]
  by_cases c3 : c = 78
  · rw [if_pos c3, if_pos c3, frs_one]
    exact rn_like zs a x fun n => { x with n := n }
  rw [if_neg c3, if_neg c3]
  by_cases c4 : c = 84
  · rw [if_pos c4, if_pos c4, frs_one]
    exact rn_like zs a x fun n => ⟨x.kind, x.lo, x.hi, x.n, [n], x.name, x.other, x.wt⟩
  rw [if_neg c4, if_neg c4]
  by_cases c5 : c = 120
  · rw [if_pos c5, if_pos c5, frs_one, fr7, uR_on]
    by_cases h : (ru zs a 24).2.2 = 0
    · rw [if_neg (fun e => e h), h]
      obtain ⟨g1, g2⟩ := lx_rl zs (ru zs a 24).1.toNat x.to (ru zs a 24).2.1
      refine ⟨g1, fun h2 => ?_⟩
      show _ = reTo x _
      rw [← g2 h2]
      rfl
    · rw [if_pos h, lx_far _ _ _ _ _ h]
      refine ⟨?_, fun h2 => absurd h2 h⟩
      show (ru zs a 24).2 = (a, (ru zs a 24).2.2)
      rw [ru_bad h]
  rw [if_neg c5, if_neg c5]
  by_cases c6 : c = 110
  · rw [if_pos c6, if_pos c6, frs_one]
    exact rs_like zs a x fun s => { x with name := s }
  rw [if_neg c6, if_neg c6]
  by_cases c7 : c = 111
  · rw [if_pos c7, if_pos c7, frs_one]
    exact rs_like zs a x fun s => { x with other := s }
  rw [if_neg c7, if_neg c7, frs_one, fr8 zs a x 0]
  unfold rfx
  rw [if_pos rfl]
  by_cases h : (Ref.rf zs a).2.2 = 0
  · rw [if_pos h, if_neg (fun e => e h)]
    exact ⟨rfl, fun _ => rfl⟩
  · rw [if_neg h, if_pos h]
    exact ⟨rfl, fun h2 => absurd h2 h⟩
theorem lss_like (zs : List Int) : ∀ (cs : List Int) (x : Rec) (a : Int), Like (lss zs cs x a 0) (frs zs (cs.flatMap lc) a x)
  | [], x, a => ⟨rfl, fun _ => rfl⟩
  | c :: cs, x, a => by
    have h1 := ls_like zs c x a
    show Like (lss zs cs (ls zs c x a 0).1 (ls zs c x a 0).2.1 (ls zs c x a 0).2.2) (frs zs (lc c ++ cs.flatMap lc) a x)
    rw [frs_append]
    by_cases h : (frs zs (lc c) a x).2.2 = 0
    · rw [if_neg (fun e => e h), h1.2 h, h1.1, h]
      exact lss_like zs cs _ _
    · rw [if_pos h]
      have h2 : (ls zs c x a 0).2.2 ≠ 0 := by rw [h1.1]; exact h
      refine ⟨?_, fun h3 => absurd h3 h⟩
      rw [lss_far _ _ _ _ _ h2]
      rw [← h1.1]
theorem lss_snoc (zs : List Int) : ∀ (cs : List Int) (c : Int) (x : Rec) (a e : Int), lss zs (cs ++ [c]) x a e = ls zs c (lss zs cs x a e).1 (lss zs cs x a e).2.1 (lss zs cs x a e).2.2
  | [], _, _, _, _ => rfl
  | _ :: cs, c, _, _, _ => lss_snoc zs cs c _ _ _
/-- What the document's reader of a record comes to. -/
def drec (zs : List Int) (a : Int) : Rec × Int × Int :=
  if a = zs.length then (Cn.none, a, 10)
  else if Cn.fam (zs.getD a.toNat 0) = 0 then ({ Cn.none with kind := zs.getD a.toNat 0 }, a, 60)
  else lss zs (nums (fstr (zs.getD a.toNat 0))) { Cn.none with kind := zs.getD a.toNat 0 } (a + 1) 0
theorem drec_like (zs : List Int) (a : Int) : Like (drec zs a) (rr zs a) := by
  unfold drec rr
  by_cases h1 : a = zs.length
  · rw [if_pos h1, if_pos h1]; exact ⟨rfl, fun _ => rfl⟩
  rw [if_neg h1, if_neg h1]
  by_cases h2 : Cn.fam (zs.getD a.toNat 0) = 0
  · rw [if_pos h2, if_pos h2]; exact ⟨rfl, fun h => absurd h (by show ¬ (60 : Int) = 0; omega)⟩
  rw [if_neg h2, if_neg h2]
  have h3 := lss_like zs (nums (fstr (zs.getD a.toNat 0))) { Cn.none with kind := zs.getD a.toNat 0 } (a + 1)
  rw [lc_form _ (Cn.fam_kinds h2)] at h3
  split
  · rename_i h
    exact ⟨h3.1, fun h4 => absurd h4 h⟩
  · exact h3
end Pk
end Go.Proofs.YtdnkfnccbmbpaaaGreatDoor
/- The document's reader of a record: its memory. -/
namespace Go.Proofs.YtdnkfnccbmbpaaaGreatDoor
open Go.RowKit
open Wi

/-- While a record is read: the reader, the answer's block as it was made, the record so far. -/
structure Dst (W0 W : World) (p g0 g1 : Nat) (bv : Value) (x : Rec) (vt : Value) (a e : Int) : Prop where
  gr : W0.grownBy W (some p)
  pl : p < W0.heap.size
  e0 : g0 = W0.heap.size
  e1 : g1 = W0.heap.size + 1
  rd : RdAt W p bv a e
  res : W.heap[g0]? = some (.cells #[.int .i64 0, .int .i64 0, .int .i64 0, .int .i64 0, .slice none 0 0, .string ⟨#[]⟩, .string ⟨#[]⟩, .float .f64 0] 46 (0, 0))
  sz : W0.heap.size + 2 ≤ W.heap.size
  ro : Ro W (W0.heap.size + 2) g1 x vt
section
variable {W0 W W' : World} {p g0 g1 : Nat} {bv vt : Value} {x x' : Rec} {a e : Int}
theorem Dst.vlt (h : Dst W0 W p g0 g1 bv x vt a e) {g : Nat} (hg : vt.ownBlock = some g) : W0.heap.size + 2 ≤ g ∧ g < W.heap.size := h.ro.2.1.2.2.lt g hg
theorem Dst.read (h : Dst W0 W p g0 g1 bv x vt a e) (hg : W.grownBy W' (some p)) {a' e' : Int} (hr : RdAt W' p bv a' e') : Dst W0 W' p g0 g1 bv x vt a' e' := by
  have e0 := h.e0
  have e1 := h.e1
  have pl := h.pl
  have sz := h.sz
  have k : ∀ b, b < W.heap.size → b ≠ p → W'.heap[b]? = W.heap[b]? := fun b hb hne => hg.block b hb (fun e => hne (by simpa using e))
  refine ⟨grown_trans h.gr hg, pl, e0, e1, hr, ?_, Nat.le_trans sz hg.size, ?_, ?_, h.ro.2.2⟩
  · rw [k g0 (by omega) (by omega)]; exact h.res
  · rw [k g1 (by omega) (by omega)]; exact h.ro.1
  · exact h.ro.2.1.keep fun g hg' => k g (h.vlt hg').2 (by have := (h.vlt hg').1; omega)
theorem Dst.drew (h : Dst W0 W p g0 g1 bv x vt a e) (n : Nat) : Dst W0 (W.drewN n) p g0 g1 bv x vt a e := h.read (rd_same W n _) h.rd
theorem Dst.at (h : Dst W0 W p g0 g1 bv x vt a e) (j : Nat) (v : Value) {a' e' : Int} (hr : RdAt (W.setCell ⟨p, j, none⟩ v) p bv a' e') : Dst W0 (W.setCell ⟨p, j, none⟩ v) p g0 g1 bv x vt a' e' := h.read (grown_set _ _ _ _) hr
theorem Dst.setA (h : Dst W0 W p g0 g1 bv x vt a e) (a' : Int) : Dst W0 (W.setCell ⟨p, 1, none⟩ (.int .i64 a')) p g0 g1 bv x vt a' e := h.at 1 _ (set_block h.rd _)
theorem Dst.setE (h : Dst W0 W p g0 g1 bv x vt a e) (e' : Int) : Dst W0 (W.setCell ⟨p, 2, none⟩ (.int .i64 e')) p g0 g1 bv x vt a e' := h.at 2 _ (set_block h.rd _)
theorem grown_new {W0 W : World} {p g : Nat} (h : W0.grownBy W (some p)) (hg : W0.heap.size ≤ g) (j : Nat) (v : Value) : W0.grownBy (W.setCell ⟨g, j, none⟩ v) (some p) := by
  refine ⟨h.os, h.tape, h.output, ?_, fun k hk hne => ?_⟩
  · rw [set_size]; exact h.size
  · rw [set_other v (by omega)]; exact h.block k hk hne
theorem Dst.put (h : Dst W0 W p g0 g1 bv x vt a e) (j : Nat) (v : Value) (he : (rarr x vt).setIfInBounds j v = rarr x' vt) (ht : x'.to = x.to) : Dst W0 (W.setCell ⟨g1, j, none⟩ v) p g0 g1 bv x' vt a e := by
  have e0 := h.e0
  have e1 := h.e1
  have pl := h.pl
  have sz := h.sz
  refine ⟨grown_new h.gr (by omega) _ _, pl, e0, e1, ?_, ?_, by rw [set_size]; exact sz, h.ro.set he ht⟩
  · show (W.setCell _ _).heap[p]? = _
    rw [set_other v (by omega)]; exact h.rd
  · rw [set_other v (by omega)]; exact h.res
theorem Dst.cells (h : Dst W0 W p g0 g1 bv x vt a e) : W.cell? ⟨g1, 0, none⟩ = some (.int .i64 x.kind) ∧ W.cell? ⟨g1, 1, none⟩ = some (.int .i64 x.lo) ∧ W.cell? ⟨g1, 2, none⟩ = some (.int .i64 x.hi) ∧ W.cell? ⟨g1, 3, none⟩ = some (.int .i64 x.n) ∧ W.cell? ⟨g1, 4, none⟩ = some vt ∧ W.cell? ⟨g1, 5, none⟩ = some (.string x.name) ∧ W.cell? ⟨g1, 6, none⟩ = some (.string x.other) ∧ W.cell? ⟨g1, 7, none⟩ = some (.float .f64 x.wt) := cells8 h.ro.1
theorem Dst.soft (h : Dst W0 W p g0 g1 bv x vt a e) (j : Nat) : W.frozen? ⟨g1, j, none⟩ = false := frozen_of h.ro.1
/-- A list of one number. -/
theorem Dst.one (h : Dst W0 W p g0 g1 bv x vt a e) (c : Int) (hc : -2147483648 ≤ c ∧ c ≤ 2147483647) : Dst W0 ((W.alloc (.cells #[.int .i32 c] 21)).setCell ⟨g1, 4, none⟩ (.slice (some ⟨W.heap.size, 0, none⟩) 1 1)) p g0 g1 bv ⟨x.kind, x.lo, x.hi, x.n, [c], x.name, x.other, x.wt⟩ (.slice (some ⟨W.heap.size, 0, none⟩) 1 1) a e := by
  have e0 := h.e0
  have e1 := h.e1
  have pl := h.pl
  have sz := h.sz
  have k : ∀ b, b < W.heap.size → (W.alloc (.cells #[.int .i32 c] 21)).heap[b]? = W.heap[b]? := fun b hb => ((Below.refl W.heap.size W).alloc (Nat.le_refl _) _).block b hb
  have hr1 : (W.alloc (.cells #[.int .i32 c] 21)).heap[g1]? = some (.cells (rarr x vt) 46 (0, 0)) := by rw [k g1 (by omega)]; exact h.ro.1
  have hga : W0.grownBy (W.alloc (.cells #[.int .i32 c] 21)) (some p) := ⟨h.gr.os, h.gr.tape, h.gr.output, by have := h.gr.size; rw [World.size_alloc]; omega, fun b hb hne => by rw [k b (by omega)]; exact h.gr.block b hb hne⟩
  refine ⟨grown_new hga (by omega) _ _, pl, e0, e1, ?_, ?_, by rw [set_size, World.size_alloc]; omega, ?_, ?_, fun e => by cases e⟩
  · show (World.setCell _ _ _).heap[p]? = _
    rw [set_other _ (by omega), k p (by omega)]; exact h.rd
  · rw [set_other _ (by omega), k g0 (by omega)]; exact h.res
  · rw [set_block hr1]; rfl
  · refine Ok.keep (w := W.alloc (.cells #[.int .i32 c] 21)) ⟨fun z hz => ?_, by simp, ⟨rfl, .inr ⟨W.heap.size, 1, #[.int .i32 c], rfl, by omega, ?_, Nat.le_refl _, by unfold maxLen; omega, rfl, rfl⟩⟩⟩ (fun g hg => set_other _ (fun e => ?_))
    · simp only [List.mem_cons, List.mem_nil_iff, or_false] at hz
      subst hz
      exact i32_fit hc
    · show (W.heap.push _)[W.heap.size]? = _
      simp
    · simp [Value.ownBlock] at hg
      omega
/-- A number more in its list. -/
theorem Dst.more (h : Dst W0 W p g0 g1 bv x vt a e) (hl : x.to.length ≤ 1000) {c : Int} (hc : -2147483648 ≤ c ∧ c ≤ 2147483647) : ∀ gg cap8 w8, w8.ownsRow (W0.heap.size + 2) 21 1 (.slice (some ⟨gg, 0, none⟩) (x.to.length + 1) cap8) (x.to.length + 1) (x.to.map (Value.int .i32) ++ [.int .i32 c]) → (W.alloc (.cells #[.int .i32 c] 21)).grownBy w8 vt.ownBlock → (vt.ownBlock = some gg ∨ gg = W.heap.size + 1) →
    Dst W0 (w8.setCell ⟨g1, 4, none⟩ (.slice (some ⟨gg, 0, none⟩) (x.to.length + 1) cap8)) p g0 g1 bv ⟨x.kind, x.lo, x.hi, x.n, x.to ++ [c], x.name, x.other, x.wt⟩ (.slice (some ⟨gg, 0, none⟩) (x.to.length + 1) cap8) a e ∧ w8.cell? ⟨g1, 4, none⟩ = some vt ∧ w8.frozen? ⟨g1, 4, none⟩ = false := by
  intro gg cap8 w8 hrow hgr hat
  have e0 := h.e0
  have e1 := h.e1
  have pl := h.pl
  have sz := h.sz
  have k1 : ∀ b, b < W.heap.size → vt.ownBlock ≠ some b → w8.heap[b]? = W.heap[b]? := fun b h1 h2 => by
    rw [hgr.block b (by show b < (W.alloc _).heap.size; rw [World.size_alloc]; omega) (fun e => h2 e.symm)]
    exact ((Below.refl W.heap.size W).alloc (Nat.le_refl _) _).block b h1
  have kv : ∀ b, b ≤ W0.heap.size + 1 → vt.ownBlock ≠ some b := fun b hb e => by have := (h.vlt e).1; omega
  have hs8 : W.heap.size + 1 ≤ w8.heap.size := by have := hgr.size; rw [World.size_alloc] at this; exact this
  have hblk : w8.heap[g1]? = some (.cells (rarr x vt) 46 (0, 0)) := by rw [k1 g1 (by omega) (kv g1 (by omega))]; exact h.ro.1
  have hgp : gg ≠ g1 := fun e => by
    subst e
    rcases hat with h | h
    · exact kv _ (by omega) h
    · omega
  have hga : W0.grownBy w8 (some p) := ⟨hgr.os.trans h.gr.os, hgr.tape.trans h.gr.tape, hgr.output.trans h.gr.output, by have := h.gr.size; omega, fun b hb hne => by rw [k1 b (by omega) (kv b (by omega))]; exact h.gr.block b hb hne⟩
  refine ⟨⟨grown_new hga (by omega) _ _, pl, e0, e1, ?_, ?_, by rw [set_size]; omega, ?_, ?_, fun e => by simp at e⟩, cell_of (j := 4) hblk (by show 4 < 8; omega), frozen_of hblk⟩
  · show (World.setCell _ _ _).heap[p]? = _
    rw [set_other _ (by omega), k1 p (by omega) (kv p (by omega))]; exact h.rd
  · rw [set_other _ (by omega), k1 g0 (by omega) (kv g0 (by omega))]; exact h.res
  · rw [set_block hblk]; rfl
  · have hok : Ok .i32 21 w8 (W0.heap.size + 2) (.slice (some ⟨gg, 0, none⟩) (x.to.length + 1) cap8) (x.to ++ [c]) := Ok.of (h.ro.2.1.1.snoc (i32_fit hc)) (by simp; omega) hrow (by simp) (by simp)
    refine hok.keep fun g hg' => set_other _ (fun e => ?_)
    simp [Value.ownBlock] at hg'
    omega
/-- What record tells. -/
def DrB (W0 : World) (p : Nat) (bv : Value) (q : Rec × Int × Int) (e : Ending) (W' : World) : Prop := ∃ vt, e = .returned (.agg (rarr q.1 vt)) ∧ RdAt W' p bv q.2.1 q.2.2 ∧ W0.grownBy W' (some p) ∧ Ok .i32 21 W' W0.heap.size vt q.1.to
/-- The answer laid into its block. -/
theorem Dst.fin (h : Dst W0 W p g0 g1 bv x vt a e) : (World.setCell (World.setCell (World.setCell (World.setCell (World.setCell (World.setCell (World.setCell (World.setCell W ⟨g0, 0, none⟩ (.int .i64 x.kind)) ⟨g0, 1, none⟩ (.int .i64 x.lo)) ⟨g0, 2, none⟩ (.int .i64 x.hi)) ⟨g0, 3, none⟩ (.int .i64 x.n)) ⟨g0, 4, none⟩ vt) ⟨g0, 5, none⟩ (.string x.name)) ⟨g0, 6, none⟩ (.string x.other)) ⟨g0, 7, none⟩ (.float .f64 x.wt)).heap[g0]? = some (.cells (rarr x vt) 46 (0, 0)) ∧
    DrB W0 p bv (x, a, e) (.returned (.agg (rarr x vt))) (World.setCell (World.setCell (World.setCell (World.setCell (World.setCell (World.setCell (World.setCell (World.setCell W ⟨g0, 0, none⟩ (.int .i64 x.kind)) ⟨g0, 1, none⟩ (.int .i64 x.lo)) ⟨g0, 2, none⟩ (.int .i64 x.hi)) ⟨g0, 3, none⟩ (.int .i64 x.n)) ⟨g0, 4, none⟩ vt) ⟨g0, 5, none⟩ (.string x.name)) ⟨g0, 6, none⟩ (.string x.other)) ⟨g0, 7, none⟩ (.float .f64 x.wt)) := by
  have e0 := h.e0
  have e1 := h.e1
  have pl := h.pl
  have sz := h.sz
  refine ⟨set8_blk _ _ _ _ _ _ _ _ h.res, vt, rfl, ?_, ?_, ?_⟩
  · show (World.setCell _ _ _).heap[p]? = _
    rw [set8_far _ _ _ _ _ _ _ _ (by omega)]; exact h.rd
  · have hg := Nat.le_of_eq e0.symm
    exact grown_new (grown_new (grown_new (grown_new (grown_new (grown_new (grown_new (grown_new h.gr hg _ _) hg _ _) hg _ _) hg _ _) hg _ _) hg _ _) hg _ _) hg _ _
  · exact (h.ro.2.1.lower (by omega)).keep fun g hg => set8_far _ _ _ _ _ _ _ _ (fun e => by have := (h.vlt hg).1; omega)
end
/-- The bytes stay while only one block is written that is not theirs. -/
theorem sl_grown {w W : World} {p : Nat} {v : Value} {zs : List Int} (hs : Sl w v zs) (hv : ∀ o g cap, v = .slice (some o) g cap → o.block ≠ p) (hg : w.grownBy W (some p)) : Sl W v zs := by
  obtain ⟨h1, h2, h3⟩ := hs
  refine ⟨h1, h2, ?_⟩
  rcases h3 with h3 | ⟨b', off', cap', hve, h5, h6, h7⟩
  · exact .inl h3
  · refine .inr ⟨b', off', cap', hve, h5, h6, fun i hi => ?_⟩
    have := hv _ _ _ hve
    rw [cell_kept (w := w) (hg.block b' (lt_of_cell? (h7 i hi)) (fun e => this (by simpa using e)))]
    exact h7 i hi
/-- The reader's calls, while a record is read. -/
theorem dst_uint {W0 : World} {p g0 g1 : Nat} {bv : Value} {zs : List Int} (hs : Sl W0 bv zs) (hv : ∀ o g cap, bv = .slice (some o) g cap → o.block ≠ p) (W : World) (x : Rec) (vt : Value) (a e most : Int) (h : Dst W0 W p g0 g1 bv x vt a e) : Calls Tryz.prog 63 #[.pointer (some ⟨p, 0, none⟩), .int .i64 most] W (fun r W' => r = .returned (.int .i64 (Pk.uR zs a e most).1) ∧ Dst W0 W' p g0 g1 bv x vt (Pk.uR zs a e most).2.1 (Pk.uR zs a e most).2.2) := by
  refine (rdUint_any p bv zs a e most W h.rd (sl_grown hs hv h.gr)).mono ?_
  rintro r W' ⟨rfl, h1, h2⟩
  exact ⟨rfl, h.read h2 h1⟩
theorem dst_text {W0 : World} {p g0 g1 : Nat} {bv : Value} {zs : List Int} (hs : Sl W0 bv zs) (hv : ∀ o g cap, bv = .slice (some o) g cap → o.block ≠ p) (W : World) (x : Rec) (vt : Value) (a e : Int) (h : Dst W0 W p g0 g1 bv x vt a e) : Calls Tryz.prog 64 #[.pointer (some ⟨p, 0, none⟩)] W (fun r W' => r = .returned (.string (rtx zs a e).1) ∧ Dst W0 W' p g0 g1 bv x vt (rtx zs a e).2.1 (rtx zs a e).2.2) := by
  refine (rdText_any p bv zs a e W h.rd (sl_grown hs hv h.gr)).mono ?_
  rintro r W' ⟨rfl, h1, h2⟩
  exact ⟨rfl, h.read h2 h1⟩
theorem dst_float {W0 : World} {p g0 g1 : Nat} {bv : Value} {zs : List Int} (hs : Sl W0 bv zs) (hv : ∀ o g cap, bv = .slice (some o) g cap → o.block ≠ p) (W : World) (x : Rec) (vt : Value) (a e : Int) (h : Dst W0 W p g0 g1 bv x vt a e) : Calls Tryz.prog 65 #[.pointer (some ⟨p, 0, none⟩)] W (fun r W' => r = .returned (.float .f64 (rfx zs a e).1) ∧ Dst W0 W' p g0 g1 bv x vt (rfx zs a e).2.1 (rfx zs a e).2.2) := by
  refine (rdFloat_any p bv zs a e W h.rd (sl_grown hs hv h.gr)).mono ?_
  rintro r W' ⟨rfl, h1, h2⟩
  exact ⟨rfl, h.read h2 h1⟩
/-- The two blocks that record makes first. -/
theorem dst_new {W0 : World} {p : Nat} {bv : Value} {a e : Int} (h : RdAt W0 p bv a e) : ∃ W1 W2, W0.alloc (.cells #[.int .i64 0, .int .i64 0, .int .i64 0, .int .i64 0, .slice none 0 0, .string ⟨#[]⟩, .string ⟨#[]⟩, .float .f64 0] 46) = W1 ∧ W1.alloc (.cells #[.int .i64 0, .int .i64 0, .int .i64 0, .int .i64 0, .slice none 0 0, .string ⟨#[]⟩, .string ⟨#[]⟩, .float .f64 0] 46) = W2 ∧ Dst W0 W2 p W0.heap.size W1.heap.size bv Cn.none (.slice none 0 0) a e := by
  refine ⟨_, _, rfl, rfl, ?_⟩
  have pl : p < W0.heap.size := lt_of_cell? h.cells.1
  have hb : Below W0.heap.size W0 ((W0.alloc (.cells #[.int .i64 0, .int .i64 0, .int .i64 0, .int .i64 0, .slice none 0 0, .string ⟨#[]⟩, .string ⟨#[]⟩, .float .f64 0] 46)).alloc (.cells #[.int .i64 0, .int .i64 0, .int .i64 0, .int .i64 0, .slice none 0 0, .string ⟨#[]⟩, .string ⟨#[]⟩, .float .f64 0] 46)) := ((Below.refl _ _).alloc (Nat.le_refl _) _).alloc (by simp) _
  refine ⟨⟨rfl, rfl, rfl, by rw [World.size_alloc, World.size_alloc]; omega, fun k hk _ => hb.block k hk⟩, pl, rfl, World.size_alloc _ _, ?_, ?_, by rw [World.size_alloc, World.size_alloc]; omega, ?_, Ok.nil _ _ _ _, fun _ => rfl⟩
  · show (World.alloc _ _).heap[p]? = _
    rw [hb.block p pl]; exact h
  · show ((W0.heap.push _).push _)[W0.heap.size]? = _
    rw [Array.getElem?_push, Array.getElem?_push]; simp
  · show ((W0.heap.push _).push _)[(W0.heap.push _).size]? = _
    rw [Array.getElem?_push, if_pos (by simp)]
    rfl
end Go.Proofs.YtdnkfnccbmbpaaaGreatDoor
/- The document's reader of a record: where none is left, or its kind is none (8.2). -/
namespace Go.Proofs.YtdnkfnccbmbpaaaGreatDoor
open Go.RowKit
open Wi

set_option maxRecDepth 8000 in
set_option maxHeartbeats 4000000 in
theorem docRecord_end (p : Nat) (bv : Value) (zs : List Int) (W0 : World) (h : RdAt W0 p bv zs.length 0) (hs : Sl W0 bv zs) : Calls Tryz.prog 38 #[.pointer (some ⟨p, 0, none⟩)] W0 (DrB W0 p bv (Cn.none, (zs.length : Int), 10)) := by
  obtain ⟨W1, W2, hW1, hW2, hD⟩ := dst_new h
  have hlen := hs.len
  obtain ⟨bo, bc, rfl, _, _⟩ := hs.shape
  have x0 := hD.rd.cells.1
  have x1 := hD.rd.cells.2.1
  have HD : Hid (∀ n, Dst W0 (W2.drewN n) p W0.heap.size W1.heap.size (.slice bo zs.length bc) Cn.none (.slice none 0 0) zs.length 0) := fun n => hD.drew n
  have hm : zs.length ≤ 9223372036854775807 := by omega
  clear h hs hD
  generalize zs.length = m at *
  generalize Cn.none = x at *
  obtain ⟨kd, lo, hi, nn, tt, nm, ot, wt⟩ := x
  go_enter Tryz.func38, Tryz.ntmps38
  go_wp2
  go_quiet (fail)
  all_goals
    have hD := (unhide HD) nq
    clear HD hW1 hW2 x0 x1
    generalize W2.drewN nq = W3 at *
    have x2 := hD.rd.cells.2.2
    have fz2 := frozen_of (j := 2) hD.rd
    replace hD := hD.setE 10
    obtain ⟨W4, hW4⟩ : ∃ W4, W3.setCell ⟨p, 2, none⟩ (.int .i64 10) = W4 := ⟨_, rfl⟩
    rw [hW4] at hD
    obtain ⟨c0, c1, c2, c3, c4, c5, c6, c7⟩ := hD.cells
    obtain ⟨y0, y1, y2, y3, y4, y5, y6, y7⟩ := cells8 hD.res
    have f0 := fun j => frozen_of (j := j) hD.res
    have hfl2 : ∀ W a m, (store a (.float .f64 wt) m).run Tryz.prog W = stored Tryz.prog W a (.float .f64 wt) m := fun W a m => run_store Tryz.prog W a _ m rfl
    have hgg : W1.heap.size ≠ W0.heap.size := by have := hD.e1; omega
    have HN := hide hD.fin
    clear hD 
    go_wp2
    obtain ⟨hnew, hfin⟩ := unhide HN
    clear HN y0 y1 y2 y3 y4 y5 y6 y7 c0 c1 c2 c3 c4 c5 c6 c7 f0 hgg
    generalize (World.setCell (World.setCell (World.setCell (World.setCell (World.setCell (World.setCell (World.setCell (World.setCell W4 ⟨W0.heap.size, 0, none⟩ (.int .i64 kd)) ⟨W0.heap.size, 1, none⟩ (.int .i64 lo)) ⟨W0.heap.size, 2, none⟩ (.int .i64 hi)) ⟨W0.heap.size, 3, none⟩ (.int .i64 nn)) ⟨W0.heap.size, 4, none⟩ (.slice none 0 0)) ⟨W0.heap.size, 5, none⟩ (.string nm)) ⟨W0.heap.size, 6, none⟩ (.string ot)) ⟨W0.heap.size, 7, none⟩ (.float .f64 wt)) = w9 at *
    obtain ⟨z0, z1, z2, z3, z4, z5, z6, z7⟩ := cells8 hnew
    refine bodyPost_ret (v := .agg (rarr ⟨kd, lo, hi, nn, tt, nm, ot, wt⟩ (.slice none 0 0))) (by simp [results, Tryz.results38, go_sem, z0, z1, z2, z3, z4, z5, z6, z7, rarr]) rfl hfin
set_option maxRecDepth 8000 in
set_option maxHeartbeats 4000000 in
theorem docRecord_kind (p : Nat) (bv : Value) (zs : List Int) (n : Nat) (W0 : World) (h : RdAt W0 p bv n 0) (hs : Sl W0 bv zs) (hv : ∀ o g cap, bv = .slice (some o) g cap → o.block ≠ p) (hn : n < zs.length) (hf : Cn.fam (zs.getD n 0) = 0) : Calls Tryz.prog 38 #[.pointer (some ⟨p, 0, none⟩)] W0 (DrB W0 p bv (⟨zs.getD n 0, 0, 0, 0, [], ⟨#[]⟩, ⟨#[]⟩, 0⟩, (n : Int), 60)) := by
  have hlen := hs.len
  obtain ⟨b, off, cap, rfl, hc1, hc2, hc⟩ := hs.place (by omega)
  obtain ⟨W1, W2, hW1, hW2, hD⟩ := dst_new h
  have hby := hs.1.at n
  rw [← List.getD_eq_getElem?_getD] at hby
  have x0 := hD.rd.cells.1
  have x1 := hD.rd.cells.2.1
  have HBY : Hid (∀ W, W0.grownBy W (some p) → W.cell? ⟨b, off + n, none⟩ = some (.int .u8 (zs.getD n 0))) := fun W hg => by
    have hb : b ≠ p := hv _ _ _ rfl
    rw [cell_kept (w := W0) (hg.block b (lt_of_cell? (hc n hn)) (fun e => hb (by simpa using e)))]
    exact hc n hn
  have HD : Hid (∀ n', Dst W0 (W2.drewN n') p W0.heap.size W1.heap.size (.slice (some ⟨b, off, none⟩) zs.length cap) Cn.none (.slice none 0 0) (n : Int) 0) := fun n' => hD.drew n'
  have KF : Hid (∀ W, Calls Tryz.prog 51 #[.int .i64 (zs.getD n 0)] W fun e w' => e = .returned (.int .i64 (Cn.fam (zs.getD n 0))) ∧ w' = W) := fun W => refFamily_any _ W ⟨by omega, by omega⟩
  have hwc : IntKind.i64.wrap (zs.getD n 0) = zs.getD n 0 := by rw [IntKind.wrap_i64]; omega
  have hq : ((n : Int) == (zs.length : Int)) = false := by rw [beq_eq_false_iff_ne]; omega
  have hq2 : (n : Int) < (zs.length : Int) := by omega
  rw [hf] at KF
  clear h hs hc hf hv hD hn
  generalize zs.getD n 0 = c at *
  generalize zs.length = m at *
  go_enter Tryz.func38, Tryz.ntmps38
  go_wp2
  go_quiet (fail)
  all_goals
    have hD := (unhide HD) nq
    clear HD hW1 hW2 x0 x1
    generalize W2.drewN nq = W3 at *
    go_wp2
    have x0 := (hD.drew 1).rd.cells.1
    have x1 := (hD.drew 1).rd.cells.2.1
    have xb := (unhide HBY) _ (hD.drew 1).gr
    have c0 := hD.cells.1
    have fz := hD.soft 0
    have hD5 : Dst W0 ((W3.setCell ⟨W1.heap.size, 0, none⟩ (.int .i64 c)).drew) p W0.heap.size W1.heap.size (.slice (some ⟨b, off, none⟩) m cap) ⟨c, 0, 0, 0, [], ⟨#[]⟩, ⟨#[]⟩, 0⟩ (.slice none 0 0) (n : Int) 0 := (hD.put (x' := ⟨c, 0, 0, 0, [], ⟨#[]⟩, ⟨#[]⟩, 0⟩) 0 (.int .i64 c) rfl rfl).drew 1
    have HS5 : Hid (((W3.setCell ⟨W1.heap.size, 0, none⟩ (.int .i64 c)).drew).cell? ⟨p, 0, none⟩ = some (.slice (some ⟨b, off, none⟩) m cap) ∧ ((W3.setCell ⟨W1.heap.size, 0, none⟩ (.int .i64 c)).drew).cell? ⟨p, 1, none⟩ = some (.int .i64 (n : Int)) ∧ ((W3.setCell ⟨W1.heap.size, 0, none⟩ (.int .i64 c)).drew).cell? ⟨b, off + n, none⟩ = some (.int .u8 c)) := ⟨hD5.rd.cells.1, hD5.rd.cells.2.1, (unhide HBY) _ hD5.gr⟩
    have HD5 := hide hD5
    clear hD5 hD
    refine wp_region_held_drew (S := fun w' => w'.cell? ⟨p, 0, none⟩ = some (.slice (some ⟨b, off, none⟩) m cap) ∧ w'.cell? ⟨p, 1, none⟩ = some (.int .i64 (n : Int)) ∧ w'.cell? ⟨b, off + n, none⟩ = some (.int .u8 c)) (by kernel_rfl) ⟨x0, x1, xb⟩ (fun hHeld => ?_)
    refine wpAnyH_take (i := 0) (oi := { dst := some 22, op := Op.move (Operand.tmp 0), type := 74, pos := "ref.go:170", after := #[], guard := none }) (v := .pointer (some ⟨p, 0, none⟩)) rfl (by kernel_rfl) (by kernel_rfl) (by kernel_rfl) (fun _ _ _ h => h) (Or.inl ⟨by rfl, ?_⟩) hHeld ?_
    · intro w hSw
      go_simp
    try simp only [Act.put, List.setIfInBounds_toArray, List.set_cons_zero, List.set_cons_succ]
    refine wpAnyH_take (i := 1) (oi := { dst := some 23, op := Op.nilCheck (Operand.tmp 22), type := 0, pos := "ref.go:170", after := #[{ on := 0, ground := Ground.data }], guard := none }) (v := .pointer (some ⟨p, 0, none⟩)) rfl (by kernel_rfl) (by kernel_rfl) (by kernel_rfl) (fun _ _ _ h => h) (Or.inl ⟨by rfl, ?_⟩) hHeld ?_
    · intro w hSw
      go_simp
    try simp only [Act.put, List.setIfInBounds_toArray, List.set_cons_zero, List.set_cons_succ]
    refine wpAnyH_take (i := 2) (oi := { dst := some 24, op := Op.fieldAddr 76 (Operand.tmp 23) 0, type := 0, pos := "ref.go:170", after := #[{ on := 1, ground := Ground.data }], guard := none }) (v := .pointer (some ⟨p, 0, none⟩)) rfl (by kernel_rfl) (by kernel_rfl) (by kernel_rfl) (fun _ _ _ h => h) (Or.inl ⟨by rfl, ?_⟩) hHeld ?_
    · intro w hSw
      go_simp
    try simp only [Act.put, List.setIfInBounds_toArray, List.set_cons_zero, List.set_cons_succ]
    refine wpAnyH_take (i := 3) (oi := { dst := some 25, op := Op.load 24 (Operand.tmp 24), type := 24, pos := "ref.go:170", after := #[{ on := 2, ground := Ground.data }], guard := none }) (v := .slice (some ⟨b, off, none⟩) m cap) rfl (by kernel_rfl) (by kernel_rfl) (by kernel_rfl) (fun _ _ _ h => h) (Or.inl ⟨by rfl, ?_⟩) hHeld ?_
    · intro w hSw
      obtain ⟨s0, s1, s2⟩ := hSw; go_simp
    try simp only [Act.put, List.setIfInBounds_toArray, List.set_cons_zero, List.set_cons_succ]
    refine wpAnyH_take (i := 4) (oi := { dst := some 26, op := Op.move (Operand.tmp 0), type := 74, pos := "ref.go:170", after := #[], guard := none }) (v := .pointer (some ⟨p, 0, none⟩)) rfl (by kernel_rfl) (by kernel_rfl) (by kernel_rfl) (fun _ _ _ h => h) (Or.inl ⟨by rfl, ?_⟩) hHeld ?_
    · intro w hSw
      go_simp
    try simp only [Act.put, List.setIfInBounds_toArray, List.set_cons_zero, List.set_cons_succ]
    refine wpAnyH_take (i := 5) (oi := { dst := some 27, op := Op.nilCheck (Operand.tmp 26), type := 0, pos := "ref.go:170", after := #[{ on := 4, ground := Ground.data }], guard := none }) (v := .pointer (some ⟨p, 0, none⟩)) rfl (by kernel_rfl) (by kernel_rfl) (by kernel_rfl) (fun _ _ _ h => h) (Or.inl ⟨by rfl, ?_⟩) hHeld ?_
    · intro w hSw
      go_simp
    try simp only [Act.put, List.setIfInBounds_toArray, List.set_cons_zero, List.set_cons_succ]
    refine wpAnyH_take (i := 6) (oi := { dst := some 28, op := Op.fieldAddr 76 (Operand.tmp 27) 1, type := 0, pos := "ref.go:170", after := #[{ on := 5, ground := Ground.data }], guard := none }) (v := .pointer (some ⟨p, 1, none⟩)) rfl (by kernel_rfl) (by kernel_rfl) (by kernel_rfl) (fun _ _ _ h => h) (Or.inl ⟨by rfl, ?_⟩) hHeld ?_
    · intro w hSw
      go_simp
    try simp only [Act.put, List.setIfInBounds_toArray, List.set_cons_zero, List.set_cons_succ]
    refine wpAnyH_take (i := 7) (oi := { dst := some 29, op := Op.load 3 (Operand.tmp 28), type := 3, pos := "ref.go:170", after := #[{ on := 6, ground := Ground.data }], guard := none }) (v := .int .i64 (n : Int)) rfl (by kernel_rfl) (by kernel_rfl) (by kernel_rfl) (fun _ _ _ h => h) (Or.inl ⟨by rfl, ?_⟩) hHeld ?_
    · intro w hSw
      obtain ⟨s0, s1, s2⟩ := hSw; go_simp
    try simp only [Act.put, List.setIfInBounds_toArray, List.set_cons_zero, List.set_cons_succ]
    refine wpAnyH_take (i := 8) (oi := { dst := some 30, op := Op.indexAddr 24 (Operand.tmp 25) (Operand.tmp 29), type := 0, pos := "ref.go:170", after := #[{ on := 3, ground := Ground.data }, { on := 7, ground := Ground.data }], guard := none }) (v := .pointer (some ⟨b, off + n, none⟩)) rfl (by kernel_rfl) (by kernel_rfl) (by kernel_rfl) (fun _ _ _ h => h) (Or.inl ⟨by rfl, ?_⟩) hHeld ?_
    · intro w hSw
      go_simp
    try simp only [Act.put, List.setIfInBounds_toArray, List.set_cons_zero, List.set_cons_succ]
    refine wpAnyH_take (i := 9) (oi := { dst := some 31, op := Op.load 5 (Operand.tmp 30), type := 5, pos := "ref.go:170", after := #[{ on := 8, ground := Ground.data }], guard := none }) (v := .int .u8 c) rfl (by kernel_rfl) (by kernel_rfl) (by kernel_rfl) (fun _ _ _ h => h) (Or.inl ⟨by rfl, ?_⟩) hHeld ?_
    · intro w hSw
      obtain ⟨s0, s1, s2⟩ := hSw; go_simp
    try simp only [Act.put, List.setIfInBounds_toArray, List.set_cons_zero, List.set_cons_succ]
    refine wpAnyH_take (i := 10) (oi := { dst := some 32, op := Op.convert 5 3 (Operand.tmp 31), type := 3, pos := "ref.go:170", after := #[{ on := 9, ground := Ground.data }], guard := none }) (v := .int .i64 c) rfl (by kernel_rfl) (by kernel_rfl) (by kernel_rfl) (fun _ _ _ h => h) (Or.inl ⟨by rfl, ?_⟩) hHeld ?_
    · intro w hSw
      go_simp
    try simp only [Act.put, List.setIfInBounds_toArray, List.set_cons_zero, List.set_cons_succ]
    refine wpAnyH_take (i := 11) (oi := { dst := some 33, op := Op.fieldAddr 46 (Operand.tmp 3) 0, type := 0, pos := "ref.go:170", after := #[{ on := 0, ground := Ground.phase }, { on := 1, ground := Ground.phase }, { on := 2, ground := Ground.phase }, { on := 3, ground := Ground.phase }, { on := 4, ground := Ground.phase }, { on := 5, ground := Ground.phase }, { on := 6, ground := Ground.phase }, { on := 7, ground := Ground.phase }, { on := 8, ground := Ground.phase }, { on := 9, ground := Ground.phase }, { on := 10, ground := Ground.phase }], guard := none }) (v := .pointer (some ⟨W1.heap.size, 0, none⟩)) rfl (by kernel_rfl) (by kernel_rfl) (by kernel_rfl) (fun _ _ _ h => h) (Or.inl ⟨by rfl, ?_⟩) hHeld ?_
    · intro w hSw
      go_simp
    try simp only [Act.put, List.setIfInBounds_toArray, List.set_cons_zero, List.set_cons_succ]
    refine wpAnyH_ready (rs := [12]) (by kernel_rfl) (by simp) ?_
    refine AllReadyH.cons (o := { dst := none, op := Op.store 3 (Operand.tmp 33) (Operand.tmp 32), type := 0, pos := "ref.go:170", after := #[{ on := 11, ground := Ground.data }, { on := 10, ground := Ground.data }, { on := 0, ground := Ground.phase }, { on := 1, ground := Ground.phase }, { on := 2, ground := Ground.phase }, { on := 3, ground := Ground.phase }, { on := 4, ground := Ground.phase }, { on := 5, ground := Ground.phase }, { on := 6, ground := Ground.phase }, { on := 7, ground := Ground.phase }, { on := 8, ground := Ground.phase }, { on := 9, ground := Ground.phase }, { on := 10, ground := Ground.phase }], guard := none }) rfl (fun K hK => ?_) AllReadyH.nil
    go_simp
    refine hK.out _ _ ?_ (fun hHeld => ?_)
    · exact unhide HS5
    clear hK K
    refine wpAnyH_done (by kernel_rfl) ?_ _
    have hD := unhide HD5
    clear HD5 HS5 hHeld x0 x1 xb c0 fz
    generalize (W3.setCell ⟨W1.heap.size, 0, none⟩ (.int .i64 c)).drew = W5 at *
    have c0 := hD.cells.1
    go_wp2_with fail
    refine ((unhide KF) _).mono ?_
    rintro e5 w5 ⟨rfl, rfl⟩
    clear KF c0
    have x2 := hD.rd.cells.2.2
    have fz2 := frozen_of (j := 2) hD.rd
    replace hD := hD.setE 60
    obtain ⟨W6, hW6⟩ : ∃ W6, w5.setCell ⟨p, 2, none⟩ (.int .i64 60) = W6 := ⟨_, rfl⟩
    rw [hW6] at hD
    generalize hx : (⟨c, 0, 0, 0, [], ⟨#[]⟩, ⟨#[]⟩, 0⟩ : Rec) = x at *
    clear hx
    obtain ⟨kd, lo, hi, nn, tt, nm, ot, wt⟩ := x
    obtain ⟨c0, c1, c2, c3, c4, c5, c6, c7⟩ := hD.cells
    obtain ⟨y0, y1, y2, y3, y4, y5, y6, y7⟩ := cells8 hD.res
    have f0 := fun j => frozen_of (j := j) hD.res
    have hfl2 : ∀ W a m, (store a (.float .f64 wt) m).run Tryz.prog W = stored Tryz.prog W a (.float .f64 wt) m := fun W a m => run_store Tryz.prog W a _ m rfl
    have hgg : W1.heap.size ≠ W0.heap.size := by have := hD.e1; omega
    have HN := hide hD.fin
    clear hD 
    go_wp2
    obtain ⟨hnew, hfin⟩ := unhide HN
    clear HN y0 y1 y2 y3 y4 y5 y6 y7 c0 c1 c2 c3 c4 c5 c6 c7 f0 hgg
    generalize (World.setCell (World.setCell (World.setCell (World.setCell (World.setCell (World.setCell (World.setCell (World.setCell W6 ⟨W0.heap.size, 0, none⟩ (.int .i64 kd)) ⟨W0.heap.size, 1, none⟩ (.int .i64 lo)) ⟨W0.heap.size, 2, none⟩ (.int .i64 hi)) ⟨W0.heap.size, 3, none⟩ (.int .i64 nn)) ⟨W0.heap.size, 4, none⟩ (.slice none 0 0)) ⟨W0.heap.size, 5, none⟩ (.string nm)) ⟨W0.heap.size, 6, none⟩ (.string ot)) ⟨W0.heap.size, 7, none⟩ (.float .f64 wt)) = w9 at *
    obtain ⟨z0, z1, z2, z3, z4, z5, z6, z7⟩ := cells8 hnew
    refine bodyPost_ret (v := .agg (rarr ⟨kd, lo, hi, nn, tt, nm, ot, wt⟩ (.slice none 0 0))) (by simp [results, Tryz.results38, go_sem, z0, z1, z2, z3, z4, z5, z6, z7, rarr]) rfl hfin
end Go.Proofs.YtdnkfnccbmbpaaaGreatDoor
