/- What scan's calls make of digits, of a sign ahead, of two full stops, of newlines: the same as the document's plain functions. -/
import Derived.Test.YtkdkmnohnhhojaaDoorScD5
import Derived.Test.YtkdkmnohnhhojaaDoorScb
import Derived.Lib.IndexMore
import Derived.Lib.SplitLaws
import Derived.Lib.Strings
namespace Go.Proofs.YtkdkmnohnhhojaaDoor.Scn

theorem hexA_dig (l : List Int) : ∀ n, digA 16 n l = hexA n l := by
  induction l with
  | nil => intro n; rfl
  | cons c r ih =>
    intro n
    rw [digA, hexA]
    have h : (16 ≤ dig c ↔ hexd c < 0) ∧ (¬ hexd c < 0 → n * 16 + dig c = 16 * n + hexd c) := by
      unfold dig hexd
      split
      · exact ⟨by omega, fun _ => by omega⟩
      · split
        · exact ⟨by omega, fun _ => by omega⟩
        · exact ⟨by omega, fun h => absurd (by omega) h⟩
    by_cases hc : hexd c < 0
    · rw [if_pos (h.1.2 hc), if_pos hc]
    · rw [if_neg (fun e => hc (h.1.1 e)), if_neg hc, ih, h.2 hc]
theorem decA_dig (l : List Int) : ∀ n, digA 10 n l = decA n l := by
  induction l with
  | nil => intro n; rfl
  | cons c r ih =>
    intro n
    rw [digA, decA]
    have h : (10 ≤ dig c ↔ (c < 48 ∨ 57 < c)) ∧ (¬ (c < 48 ∨ 57 < c) → n * 10 + dig c = 10 * n + (c - 48)) := by
      unfold dig
      split
      · exact ⟨by omega, fun _ => by omega⟩
      · split
        · exact ⟨by omega, fun h => absurd (by omega) h⟩
        · exact ⟨by omega, fun h => absurd (by omega) h⟩
    by_cases hc : c < 48 ∨ 57 < c
    · rw [if_pos (h.1.2 hc), if_pos hc]
    · rw [if_neg (fun e => hc (h.1.1 e)), if_neg hc, ih, h.2 hc]
theorem code_dig (l : List Int) : code l = cap (digB 16 6 l) := by
  unfold code digB
  split
  · rfl
  · rw [hexA_dig]
theorem digB_ge {b : Nat} {m : Nat} {l : List Int} {n : Int} (h : digB b m l = some n) : 0 ≤ n := by
  have key : ∀ (l : List Int) (k n : Int), 0 ≤ k → digA b k l = some n → 0 ≤ n := by
    intro l
    induction l with
    | nil => intro k n h0 h; simp [digA] at h; omega
    | cons c r ih =>
      intro k n h0 h
      rw [digA] at h
      split at h
      · cases h
      · refine ih _ _ ?_ h
        have := dig_bound c
        have : 0 ≤ k * (b : Int) := Int.mul_nonneg h0 (by omega)
        omega
  unfold digB at h
  split at h
  · cases h
  · exact key _ _ _ (Int.le_refl _) h
theorem digB_top {l : List Int} {n : Int} (h : digB 10 9 l = some n) : n < 1000000000 := by
  unfold digB at h
  split at h
  · cases h
  · rename_i hc
    rw [decA_dig] at h
    have h1 := decA_lt 0 (Int.le_refl 0) (by simp) h
    have h2 : 10 ^ (0 + l.length) ≤ 10 ^ 9 := Nat.pow_le_pow_right (by omega) (by omega)
    omega
def wholeN : Option Int → Int × Bool
  | some n => (-n, decide (n ≠ 0))
  | none => (0, false)
/-- What the program tells of a whole number. -/
def wholeP (l : List Int) : Int × Bool := if 0 < l.length ∧ l.getD 0 0 = 45 then wholeN (digB 10 9 (l.drop 1)) else told (digB 10 9 l)
theorem digs_dig {l : List Int} (h : ¬ (l.length = 1 ∧ l.getD 0 0 = 48)) : digs l = digB 10 9 l := by
  unfold digs digB
  by_cases hc : l.length < 1 ∨ 9 < l.length ∨ l.getD 0 0 = 48
  · rw [if_pos hc]
    rw [if_pos (by omega)]
  · rw [if_neg hc, if_neg (by omega), decA_dig]
theorem one_of {l : List Int} (h : l.length = 1) : l = [l.getD 0 0] := by
  match l, h with
  | [x], _ => rfl
theorem whole_dig (l : List Int) : told (whole l) = wholeP l := by
  unfold whole wholeP
  by_cases h48 : l = [48]
  · subst h48; decide
  · rw [if_neg h48]
    have hn : ¬ (l.length = 1 ∧ l.getD 0 0 = 48) := fun ⟨a, b⟩ => h48 (by rw [one_of a, b])
    by_cases hm : 0 < l.length ∧ l.getD 0 0 = 45
    · rw [if_pos hm, if_pos hm]
      by_cases hr : (l.drop 1).length = 1 ∧ (l.drop 1).getD 0 0 = 48
      · rw [one_of hr.1, hr.2]; decide
      · rw [← digs_dig hr]
        cases hd : digs (l.drop 1) with
        | none => rfl
        | some n =>
          have := (digs_back hd).2
          show (-n, true) = (-n, decide (n ≠ 0))
          rw [decide_eq_true (by omega)]
    · rw [if_neg hm, if_neg hm, digs_dig hn]
theorem span_none {l : List Int} (h : ∀ k, k + 1 < l.length → ¬ (l.getD k 0 = 46 ∧ l.getD (k + 1) 0 = 46)) : span l = (code l).map fun a => (a, a) := by
  have key : ∀ f k, spanA l f k = (code l).map fun a => (a, a) := by
    intro f
    induction f with
    | zero => intro k; rfl
    | succ f ih =>
      intro k
      rw [spanA]
      split
      · rename_i hk
        rw [if_neg (h k hk), ih]
      · rfl
  exact key _ _
theorem span_at {l : List Int} {i : Nat} (hi : i + 1 < l.length) (h1 : l.getD i 0 = 46 ∧ l.getD (i + 1) 0 = 46) (h : ∀ k, k < i → ¬ (l.getD k 0 = 46 ∧ l.getD (k + 1) 0 = 46)) : span l = both (code (l.take i)) (code (l.drop (i + 2))) := by
  have key : ∀ f k, k ≤ i → i < k + f → spanA l f k = both (code (l.take i)) (code (l.drop (i + 2))) := by
    intro f
    induction f with
    | zero => intro k a b; omega
    | succ f ih =>
      intro k a b
      rw [spanA, if_pos (by omega)]
      by_cases hk : k = i
      · subst hk; rw [if_pos h1]
      · rw [if_neg (h k (by omega)), ih (k + 1) (by omega) (by omega)]
  exact key _ _ (by omega) (by omega)

/-- The lines, the last empty one too. -/
def linesF : List Int → List Int → List (List Int)
  | cur, [] => [cur]
  | cur, c :: r => if c = 10 then cur :: linesF [] r else linesF (cur ++ [c]) r
def cutLast (ls : List (List Int)) : List (List Int) := if ls.getLastD [] = [] then ls.dropLast else ls
theorem linesF_ne (cur l : List Int) : linesF cur l ≠ [] := by
  induction l generalizing cur with
  | nil => simp [linesF]
  | cons c r ih => rw [linesF]; split <;> simp [ih]
theorem lines_cut (l : List Int) : ∀ cur, linesA cur l = cutLast (linesF cur l) := by
  induction l with
  | nil => intro cur; simp only [linesA, linesF, cutLast, List.getLastD]; split <;> simp_all
  | cons c r ih =>
    intro cur
    rw [linesA, linesF]
    split
    · rw [ih []]
      have hne := linesF_ne [] r
      unfold cutLast
      have e : (cur :: linesF [] r).getLastD [] = (linesF [] r).getLastD [] := by
        cases h : linesF [] r with
        | nil => exact absurd h hne
        | cons a t => simp [List.getLastD]
      rw [e]
      split
      · rw [List.dropLast_cons_of_ne_nil hne]
      · rfl
    · exact ih _
end Go.Proofs.YtkdkmnohnhhojaaDoor.Scn
namespace Go.Proofs.YtkdkmnohnhhojaaDoor
open Go.RowKit
def n8 (l : List UInt8) : List Int := l.map fun b => (b.toNat : Int)
theorem nums_n8 (s : ByteArray) : nums s = n8 s.data.toList := rfl
theorem nums_of (l : List UInt8) : nums ⟨l.toArray⟩ = n8 l := by rw [nums_n8]
theorem n8_at (l : List UInt8) (k : Nat) : (n8 l).getD k 0 = (((l.getD k 0).toNat : Nat) : Int) := by
  unfold n8
  simp only [List.getD, List.getElem?_map]
  cases l[k]? <;> rfl
theorem u8_eq {b c : UInt8} : ((b.toNat : Int) = (c.toNat : Int)) ↔ b = c := by
  constructor
  · intro h; exact UInt8.toNat_inj.1 (by omega)
  · rintro rfl; rfl
theorem occ_two (l : List UInt8) (k : Nat) : Lib.occAt l [46, 46] k = true ↔ (k + 1 < l.length ∧ (n8 l).getD k 0 = 46 ∧ (n8 l).getD (k + 1) 0 = 46) := by
  rw [n8_at, n8_at]
  rw [show (46 : Int) = ((46 : UInt8).toNat : Int) from rfl, u8_eq, u8_eq]
  rcases Nat.lt_or_ge (k + 1) l.length with h | h
  · rw [Lib.occAt, List.drop_eq_getElem_cons (by omega : k < l.length), List.drop_eq_getElem_cons h]
    simp [List.isPrefixOf, List.getD, h, (by omega : k < l.length)]
    constructor
    · rintro ⟨a, b⟩; exact ⟨a.symm, b.symm⟩
    · rintro ⟨a, b⟩; exact ⟨a.symm, b.symm⟩
  · constructor
    · intro ho
      rcases Lib.occAt_room ho with hr | hr
      · simp at hr; omega
      · cases hr
    · intro ⟨a, _⟩; omega
/-- What Cut makes of a text at two full stops. -/
theorem span_cut (l : List UInt8) : (∃ i, Lib.cut l [46, 46] = (l.take i, l.drop (i + 2), true) ∧ i + 2 ≤ l.length ∧ Scn.span (n8 l) = Scn.both (Scn.code (n8 (l.take i))) (Scn.code (n8 (l.drop (i + 2))))) ∨
    (Lib.cut l [46, 46] = (l, [], false) ∧ Scn.span (n8 l) = (Scn.code (n8 l)).map fun a => (a, a)) := by
  have hl : (n8 l).length = l.length := by simp [n8]
  rcases Lib.index_spec l [46, 46] with ⟨hm, hn⟩ | ⟨i, hi, hil, ho, hno⟩
  · refine .inr ⟨?_, Scn.span_none fun k hk hc => ?_⟩
    · unfold Lib.cut; rw [hm]; rfl
    · have := hn k (by omega)
      rw [(occ_two l k).2 ⟨by omega, hc.1, hc.2⟩] at this
      cases this
  · obtain ⟨h1, h2, h3⟩ := (occ_two l i).1 ho
    refine .inl ⟨i, ?_, by omega, ?_⟩
    · unfold Lib.cut; rw [hi, if_pos (by omega)]; rfl
    · rw [Scn.span_at (by omega) ⟨h2, h3⟩ fun k hk hc => ?_]
      · rw [show n8 (l.take i) = (n8 l).take i from List.map_take, show n8 (l.drop (i + 2)) = (n8 l).drop (i + 2) from List.map_drop]
      · have := hno k hk
        rw [(occ_two l k).2 ⟨by omega, hc.1, hc.2⟩] at this
        cases this
theorem splitK_ne (b : UInt8) (r : List UInt8) (k : Nat) (h : b ≠ 10) : Lib.splitK [10] 0 k (b :: r) = (b :: (Lib.splitK [10] 0 k r).headD []) :: (Lib.splitK [10] 0 k r).tail := by
  cases k with
  | zero => rfl
  | succ k =>
    have hp : ([10] : List UInt8).isPrefixOf (b :: r) = false := by simp [List.isPrefixOf]; exact fun e => h e.symm
    have hi : Lib.index (b :: r) [10] = if Lib.index r [10] == -1 then -1 else Lib.index r [10] + 1 := by rw [Lib.index, if_neg (by rw [hp]; exact Bool.false_ne_true)]
    by_cases hr : Lib.index r [10] = -1
    · have e1 : Lib.index (b :: r) [10] = -1 := by rw [hi, if_pos (beq_iff_eq.2 hr)]
      rw [Lib.splitK, Lib.splitK, if_pos (beq_iff_eq.2 e1), if_pos (beq_iff_eq.2 hr)]; rfl
    · have hg := Lib.index_ge r [10]
      have e1 : Lib.index (b :: r) [10] = Lib.index r [10] + 1 := by rw [hi, if_neg (fun e => hr (beq_iff_eq.1 e))]
      rw [Lib.splitK, Lib.splitK, if_neg (fun e => by have := beq_iff_eq.1 e; omega), if_neg (fun e => hr (beq_iff_eq.1 e)), e1]
      obtain ⟨i, hi2⟩ : ∃ i : Nat, Lib.index r [10] = i := ⟨(Lib.index r [10]).toNat, by omega⟩
      rw [hi2, show (((i : Int) + 1).toNat) = i + 1 by omega, show ((i : Int).toNat) = i by omega]
      rfl
theorem splitK_eq (r : List UInt8) (k : Nat) : Lib.splitK [10] 0 (k + 1) (10 :: r) = [] :: Lib.splitK [10] 0 k r := by
  have e1 : Lib.index (10 :: r) [10] = 0 := by rw [Lib.index, if_pos (by simp [List.isPrefixOf])]
  rw [Lib.splitK, e1]; rfl
theorem split_lines (l : List UInt8) : ∀ cur, Scn.linesF cur (n8 l) = (cur ++ n8 ((Lib.splitK [10] 0 (l.count 10) l).headD [])) :: ((Lib.splitK [10] 0 (l.count 10) l).tail).map n8 := by
  induction l with
  | nil => intro cur; simp [n8, Scn.linesF, Lib.splitK]
  | cons b r ih =>
    intro cur
    have e : n8 (b :: r) = (b.toNat : Int) :: n8 r := rfl
    rw [e, Scn.linesF]
    by_cases hb : b = 10
    · subst hb
      rw [if_pos (show (((10 : UInt8).toNat : Nat) : Int) = 10 from rfl), List.count_cons_self, splitK_eq, ih []]
      cases h : Lib.splitK [10] 0 (r.count 10) r with
      | nil => exact absurd h (by cases r.count 10 <;> (rw [Lib.splitK]; first | exact List.cons_ne_nil _ _ | (split <;> exact List.cons_ne_nil _ _)))
      | cons x t => simp [n8]
    · have hn : ¬ (b.toNat : Int) = 10 := fun e => hb (u8_eq.1 (show (b.toNat : Int) = ((10 : UInt8).toNat : Int) from e))
      rw [if_neg hn, List.count_cons_of_ne hb, splitK_ne b r _ hb, ih]
      simp [n8]
/-- What Split makes of a text at its newlines. -/
theorem split_nums (s : ByteArray) : (Lib.splitB ⟨#[10]⟩ 0 (Lib.countB s ⟨#[10]⟩) s).map nums = Scn.linesF [] (nums s) := by
  have h1 : (Lib.splitB ⟨#[10]⟩ 0 (Lib.countB s ⟨#[10]⟩) s).map nums = ((Lib.splitB ⟨#[10]⟩ 0 (Lib.countB s ⟨#[10]⟩) s).map (·.data.toList)).map n8 := by
    rw [List.map_map]; rfl
  have h2 : Lib.countB s ⟨#[10]⟩ = s.data.toList.count 10 := by
    show Lib.count s.data.toList [10] = _
    rw [Lib.count_one]
  rw [h1, Lib.splitB_data, h2, nums_n8, split_lines]
  show (Lib.splitK [10] 0 _ _).map n8 = _
  cases h : Lib.splitK [10] 0 (s.data.toList.count 10) s.data.toList with
  | nil => exact absurd h (by cases s.data.toList.count 10 <;> (rw [Lib.splitK]; first | exact List.cons_ne_nil _ _ | (split <;> exact List.cons_ne_nil _ _)))
  | cons x t => rfl
end Go.Proofs.YtkdkmnohnhhojaaDoor
