/- Pieces, blocks and the index, as plain functions. -/
import Derived.Test.YtehdeipeehaejaaTri
namespace Go.Proofs.Ytehdeipeehaejaa.Tri

def blk (f : Int → Int) (p : Nat) : List Int := (List.range 64).map fun i => f ((64 * p + i : Nat) : Int)
def pcs (f : Int → Int) : List (List Int) := (List.range 17408).map (blk f)
def push (bs : List (List Int)) (b : List Int) : List (List Int) := if b ∈ bs then bs else bs ++ [b]
def idxA : List (List Int) → List (List Int) → List Nat
  | _, [] => []
  | bs, b :: r => bs.idxOf b :: idxA (push bs b) r
def blkA : List (List Int) → List (List Int) → List (List Int)
  | bs, [] => bs
  | bs, b :: r => blkA (push bs b) r
def idx (f : Int → Int) : List Nat := idxA [] (pcs f)
def bls (f : Int → Int) : List (List Int) := blkA [] (pcs f)

theorem pcs_congr {f g : Int → Int} (h : ∀ c, f c = g c) : pcs f = pcs g := by
  have : f = g := funext h
  rw [this]
theorem idx_congr {f g : Int → Int} (h : ∀ c, f c = g c) : idx f = idx g := by rw [idx, idx, pcs_congr h]
theorem bls_congr {f g : Int → Int} (h : ∀ c, f c = g c) : bls f = bls g := by rw [bls, bls, pcs_congr h]

theorem blkA_app (bs a b : List (List Int)) : blkA bs (a ++ b) = blkA (blkA bs a) b := by
  induction a generalizing bs with
  | nil => rfl
  | cons x a ih => simp only [List.cons_append, blkA, ih]
theorem push_mem (bs : List (List Int)) (b : List Int) : b ∈ push bs b := by
  unfold push; split
  · assumption
  · simp
theorem push_same {bs : List (List Int)} {b : List Int} (h : b ∈ bs) : push bs b = bs := by unfold push; rw [if_pos h]
theorem blkA_same {bs : List (List Int)} {b : List Int} (h : b ∈ bs) (n : Nat) : blkA bs (List.replicate n b) = bs := by
  induction n with
  | zero => rfl
  | succ n ih => simp only [List.replicate_succ, blkA, push_same h, ih]
theorem blkA_rep (bs : List (List Int)) (b : List Int) (n : Nat) (hn : 0 < n) : blkA bs (List.replicate n b) = push bs b := by
  cases n with
  | zero => omega
  | succ n => simp only [List.replicate_succ, blkA]; exact blkA_same (push_mem bs b) n

theorem pcs_len (f : Int → Int) : (pcs f).length = 17408 := by simp [pcs]
theorem idxA_len (bs ps : List (List Int)) : (idxA bs ps).length = ps.length := by
  induction ps generalizing bs with
  | nil => rfl
  | cons p ps ih => simp [idxA, ih]
theorem idx_len (f : Int → Int) : (idx f).length = 17408 := by rw [idx, idxA_len, pcs_len]
theorem blkA_len (bs ps : List (List Int)) : bs.length ≤ (blkA bs ps).length ∧ (blkA bs ps).length ≤ bs.length + ps.length := by
  induction ps generalizing bs with
  | nil => simp [blkA]
  | cons p ps ih =>
    have := ih (push bs p)
    have h2 : bs.length ≤ (push bs p).length ∧ (push bs p).length ≤ bs.length + 1 := by unfold push; split <;> simp
    simp only [blkA, List.length_cons]; omega
theorem bls_len (f : Int → Int) : (bls f).length ≤ 17408 := by
  have := blkA_len [] (pcs f)
  rw [pcs_len] at this
  simpa [bls] using this.2

/-- From n on the pieces are all of one value. -/
theorem pcs_tail {f : Int → Int} {n : Nat} {v : Int} (hn : n ≤ 17408) (h : ∀ c : Int, ((64 * n : Nat) : Int) ≤ c → f c = v) : pcs f = ((List.range n).map (blk f)) ++ List.replicate (17408 - n) (List.replicate 64 v) := by
  have e : List.range 17408 = List.range n ++ List.range' n (17408 - n) := by
    have h1 : List.range' 0 n ++ List.range' (0 + n) (17408 - n) = List.range' 0 (n + (17408 - n)) := List.range'_append_1
    rw [Nat.zero_add, show n + (17408 - n) = 17408 by omega] at h1
    rw [List.range_eq_range', List.range_eq_range', ← h1]
  rw [pcs, e, List.map_append]
  generalize 17408 - n = m
  refine congrArg (fun t => List.map (blk f) (List.range n) ++ t) ?_
  apply List.ext_getElem
  · simp
  · intro i h1 h2
    simp only [List.getElem_map, List.getElem_range', List.getElem_replicate]
    apply List.ext_getElem
    · simp [blk]
    · intro j h3 h4
      simp only [blk, List.getElem_map, List.getElem_range, List.getElem_replicate]
      apply h
      simp [blk] at h3
      omega

/-- The little trie of the document's. -/
theorem told_blocks : (bls (get 0 [(0, 64, 5), (100, 200, 7)])).length = 5 := by
  have h : ∀ c : Int, ((64 * 4 : Nat) : Int) ≤ c → get 0 [(0, 64, 5), (100, 200, 7)] c = 0 := by
    intro c hc
    rw [get_mk, if_neg (by omega), get_mk, if_neg (by omega)]; rfl
  rw [bls, pcs_tail (by omega) h, blkA_app, blkA_rep _ _ _ (by omega)]
  decide +kernel
end Go.Proofs.Ytehdeipeehaejaa.Tri
