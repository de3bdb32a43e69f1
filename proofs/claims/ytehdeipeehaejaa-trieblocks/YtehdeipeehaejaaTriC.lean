/- Blocks and the index: what holds of them. -/
import Derived.Test.YtehdeipeehaejaaTriB
namespace Go.Proofs.Ytehdeipeehaejaa.Tri

theorem push_len (bs : List (List Int)) (p : List Int) : (push bs p).length = if bs.idxOf p = bs.length then bs.length + 1 else bs.length := by
  unfold push
  by_cases h : p ∈ bs
  · rw [if_pos h, if_neg]
    have := List.idxOf_lt_length_iff.2 h
    omega
  · rw [if_neg h, if_pos]
    · simp
    · have h1 : ¬ bs.idxOf p < bs.length := fun h2 => h (List.idxOf_lt_length_iff.1 h2)
      have h2 : bs.idxOf p ≤ bs.length := List.idxOf_le_length
      omega
theorem push_at (bs : List (List Int)) (p : List Int) : (push bs p).getD (bs.idxOf p) [] = p ∧ bs.idxOf p < (push bs p).length := by
  unfold push
  by_cases h : p ∈ bs
  · rw [if_pos h]
    have h1 := List.idxOf_lt_length_iff.2 h
    refine ⟨?_, h1⟩
    have h2 : bs[bs.idxOf p] = p := List.getElem_idxOf h1
    rw [List.getD, List.getElem?_eq_getElem h1, h2]; rfl
  · rw [if_neg h]
    have h1 : ¬ bs.idxOf p < bs.length := fun h2 => h (List.idxOf_lt_length_iff.1 h2)
    have h2 : bs.idxOf p ≤ bs.length := List.idxOf_le_length
    have h3 : bs.idxOf p = bs.length := by omega
    rw [h3]
    exact ⟨by simp [List.getD], by simp⟩

theorem idxA_at (bs ps : List (List Int)) (i : Nat) (hi : i < ps.length) : (idxA bs ps).getD i 0 = (blkA bs (ps.take i)).idxOf (ps.getD i []) := by
  induction ps generalizing bs i with
  | nil => simp at hi
  | cons p ps ih =>
    cases i with
    | zero => simp [idxA, blkA]
    | succ i =>
      have := ih (push bs p) i (by simpa using hi)
      simpa [idxA, blkA] using this
theorem blkA_next (bs ps : List (List Int)) (i : Nat) (hi : i < ps.length) : blkA bs (ps.take (i + 1)) = push (blkA bs (ps.take i)) (ps.getD i []) := by
  have h : ps.take (i + 1) = ps.take i ++ [ps.getD i []] := by
    rw [List.take_add_one]; simp [List.getD, hi]
  rw [h, blkA_app]; rfl

/-- How many blocks the first i pieces have. -/
def nx (f : Int → Int) (i : Nat) : Nat := (blkA [] ((pcs f).take i)).length
theorem nx_zero (f : Int → Int) : nx f 0 = 0 := rfl
theorem nx_end (f : Int → Int) : nx f 17408 = (bls f).length := by
  unfold nx bls
  rw [List.take_of_length_le (by rw [pcs_len]; omega)]
theorem idx_le (f : Int → Int) (i : Nat) (hi : i < 17408) : (idx f).getD i 0 ≤ nx f i := by
  rw [idx, idxA_at _ _ _ (by rw [pcs_len]; exact hi)]
  exact List.idxOf_le_length
theorem nx_step (f : Int → Int) (i : Nat) (hi : i < 17408) : nx f (i + 1) = if (idx f).getD i 0 = nx f i then nx f i + 1 else nx f i := by
  unfold nx
  rw [blkA_next _ _ _ (by rw [pcs_len]; exact hi), push_len, idx, idxA_at _ _ _ (by rw [pcs_len]; exact hi)]
theorem nx_le (f : Int → Int) (i : Nat) (hi : i ≤ 17408) : nx f i ≤ 17408 := by
  have := (blkA_len [] ((pcs f).take i)).2
  rw [List.length_take] at this
  simp only [List.length_nil] at this
  unfold nx; omega

theorem push_nodup {bs : List (List Int)} {p : List Int} (h : bs.Nodup) : (push bs p).Nodup := by
  unfold push
  split
  · exact h
  · rename_i hn
    rw [List.nodup_append]
    refine ⟨h, by simp, ?_⟩
    intro a ha b hb
    simp at hb
    subst hb
    intro e; subst e; exact hn ha
theorem blkA_nodup {bs ps : List (List Int)} (h : bs.Nodup) : (blkA bs ps).Nodup := by
  induction ps generalizing bs with
  | nil => exact h
  | cons p ps ih => exact ih (push_nodup h)
theorem bls_nodup (f : Int → Int) : (bls f).Nodup := by
  rw [bls]; exact blkA_nodup List.nodup_nil
theorem nodup_apart {l : List (List Int)} (h : l.Nodup) {i j : Nat} (hij : i < j) (hj : j < l.length) : l.getD i [] ≠ l.getD j [] := by
  rw [List.getD, List.getD, List.getElem?_eq_getElem (show i < l.length by omega), List.getElem?_eq_getElem hj]
  simp only [Option.getD_some]
  exact (List.pairwise_iff_getElem.1 h) i j (by omega) hj hij
theorem bls_apart (f : Int → Int) (i j : Nat) (hij : i < j) (hj : j < (bls f).length) : (bls f).getD i [] ≠ (bls f).getD j [] := nodup_apart (bls_nodup f) hij hj
theorem getD_in {l : List (List Int)} {i : Nat} (hi : i < l.length) : l.getD i [] ∈ l := by
  rw [List.getD, List.getElem?_eq_getElem hi]; exact List.getElem_mem hi

theorem push_front (bs : List (List Int)) (p : List Int) (i : Nat) (hi : i < bs.length) : (push bs p).getD i [] = bs.getD i [] ∧ i < (push bs p).length := by
  unfold push
  split
  · exact ⟨rfl, hi⟩
  · exact ⟨by simp [List.getD, List.getElem?_append_left hi], by simp; omega⟩
theorem blkA_front (bs ps : List (List Int)) (i : Nat) (hi : i < bs.length) : (blkA bs ps).getD i [] = bs.getD i [] ∧ i < (blkA bs ps).length := by
  induction ps generalizing bs with
  | nil => exact ⟨rfl, hi⟩
  | cons p ps ih =>
    have h1 := push_front bs p i hi
    have h2 := ih (push bs p) h1.2
    exact ⟨by simp only [blkA]; rw [h2.1, h1.1], h2.2⟩

/-- The block of a piece is the one whose number the index tells. -/
theorem bls_idx (f : Int → Int) (p : Nat) (hp : p < 17408) : (bls f).getD ((idx f).getD p 0) [] = blk f p ∧ (idx f).getD p 0 < (bls f).length := by
  have hl := pcs_len f
  have e : pcs f = (pcs f).take (p + 1) ++ (pcs f).drop (p + 1) := (List.take_append_drop _ _).symm
  have hb : bls f = blkA (push (blkA [] ((pcs f).take p)) ((pcs f).getD p [])) ((pcs f).drop (p + 1)) := by
    unfold bls
    conv => lhs; rw [e]
    rw [blkA_app, blkA_next _ _ _ (by omega)]
  have hi : (idx f).getD p 0 = (blkA [] ((pcs f).take p)).idxOf ((pcs f).getD p []) := by rw [idx, idxA_at _ _ _ (by omega)]
  have ha := push_at (blkA [] ((pcs f).take p)) ((pcs f).getD p [])
  have hf := blkA_front _ ((pcs f).drop (p + 1)) _ ha.2
  rw [hb, hi]
  refine ⟨?_, hf.2⟩
  rw [hf.1, ha.1]
  simp [pcs, List.getD, hp]

theorem blk_len (f : Int → Int) (p : Nat) : (blk f p).length = 64 := by simp [blk]
theorem blk_at (f : Int → Int) (p i : Nat) (hi : i < 64) : (blk f p).getD i 0 = f ((64 * p + i : Nat) : Int) := by simp [blk, List.getD, hi]
theorem push_sub {bs : List (List Int)} {p x : List Int} (h : x ∈ push bs p) : x ∈ bs ∨ x = p := by
  unfold push at h
  split at h
  · exact .inl h
  · rcases List.mem_append.1 h with h | h
    · exact .inl h
    · simp at h; exact .inr h
theorem blkA_sub {bs ps : List (List Int)} {x : List Int} (h : x ∈ blkA bs ps) : x ∈ bs ∨ x ∈ ps := by
  induction ps generalizing bs with
  | nil => exact .inl h
  | cons p ps ih =>
    rcases ih h with h1 | h1
    · rcases push_sub h1 with h2 | h2
      · exact .inl h2
      · exact .inr (by simp [h2])
    · exact .inr (List.mem_cons_of_mem _ h1)
theorem bls_mem {f : Int → Int} {x : List Int} (hm : x ∈ bls f) : x ∈ pcs f := by
  rw [bls] at hm
  rcases blkA_sub hm with h | h
  · cases h
  · exact h
theorem bls_of (f : Int → Int) (i : Nat) (hi : i < (bls f).length) : ∃ p, p < 17408 ∧ (bls f).getD i [] = blk f p := by
  have hm := getD_in hi
  have h := bls_mem hm
  rw [pcs, List.mem_map] at h
  obtain ⟨p, hp, e⟩ := h
  exact ⟨p, List.mem_range.1 hp, e.symm⟩
theorem bls_64 (f : Int → Int) (i : Nat) (hi : i < (bls f).length) : ((bls f).getD i []).length = 64 := by
  obtain ⟨p, _, e⟩ := bls_of f i hi
  rw [e, blk_len]
end Go.Proofs.Ytehdeipeehaejaa.Tri
