/- Reading as a machine reads: how many bytes are still wanted. -/
import Derived.Test.YtchjnplceelgoaaUtfD
namespace Go.Proofs.Ytchjnplceelgoaa.Utf

theorem conts_shift (n : Nat) (lo hi c : Int) (p k : Nat) (r : List Int) : conts n lo hi c (p + k) r = match conts n lo hi c k r with | .error m => .error (p + m) | .ok (m, d) => .ok (p + m, d) := by
  induction n generalizing lo hi c k r with
  | zero => rfl
  | succ n ih =>
    cases r with
    | nil => rfl
    | cons b r =>
      simp only [conts]
      split
      · rfl
      · rw [Nat.add_assoc]; exact ih _ _ _ _ _

/-- What is told, once the number that is being read is read. -/
def fin (xs zs : List Int) : Except Nat (Nat × Int) → List Int × Int × Int
  | .error m => ([], (m : Int), 30)
  | .ok (m, c) => glue (xs ++ [c]) (dec m (zs.drop m))

/-- A first byte. -/
def begun (xs zs : List Int) (k : Nat) : Option (Nat × Int × Int × Int) → List Int × Int × Int
  | none => ([], (k : Int), 30)
  | some (n, lo, hi, c) => fin xs zs (conts n lo hi c (k + 1) (zs.drop (k + 1)))

theorem glue_err (xs : List Int) (p : Int) : glue xs ([], p, 30) = ([], p, 30) := by simp [glue]

theorem dropD {zs : List Int} {k : Nat} (hk : k < zs.length) : zs.drop k = zs.getD k 0 :: zs.drop (k + 1) := by
  rw [List.drop_eq_getElem_cons hk]
  simp [List.getD, hk]

theorem begin_step {xs zs : List Int} {k : Nat} {r : List Int × Int × Int} (hk : k < zs.length) (hr : r = glue xs (dec k (zs.drop k))) : r = begun xs zs k (lead (zs.getD k 0)) := by
  have hd := dropD hk
  have hne : zs.drop k ≠ [] := by rw [hd]; simp
  cases hl : lead (zs.getD k 0) with
  | none =>
    have h1 : one (zs.drop k) = .error 0 := by rw [hd]; simp only [one, hl]
    rw [hr, dec_err hne h1, begun, glue_err]; simp
  | some q =>
    obtain ⟨n, lo, hi, c⟩ := q
    have h1 : one (zs.drop k) = conts n lo hi c 1 (zs.drop (k + 1)) := by rw [hd]; simp only [one, hl]
    rw [begun, conts_shift n lo hi c k 1]
    cases hc : conts n lo hi c 1 (zs.drop (k + 1)) with
    | error m =>
      rw [hc] at h1
      rw [hr, dec_err hne h1, glue_err]; simp [fin]
    | ok q =>
      obtain ⟨m, d⟩ := q
      rw [hc] at h1
      rw [hr, dec_ok h1, glue_glue, List.drop_drop]; simp [fin]

theorem begin_end {xs zs : List Int} {k : Nat} {r : List Int × Int × Int} (hk : k = zs.length) (hr : r = glue xs (dec k (zs.drop k))) : r = (xs, 0, 0) := by
  subst hk
  rw [hr, List.drop_length, dec_nil]; simp [glue]

theorem more_step {xs zs : List Int} {n k : Nat} {lo hi c : Int} {r : List Int × Int × Int} (hk : k < zs.length) (h1 : lo ≤ zs.getD k 0) (h2 : zs.getD k 0 ≤ hi) (hr : r = fin xs zs (conts (n + 1) lo hi c k (zs.drop k))) :
    r = fin xs zs (conts n 128 191 (c * 64 + zs.getD k 0 % 64) (k + 1) (zs.drop (k + 1))) := by
  rw [hr, dropD hk, conts, if_neg (by omega)]

theorem more_bad {xs zs : List Int} {n k : Nat} {lo hi c : Int} {r : List Int × Int × Int} (hk : k < zs.length) (h : zs.getD k 0 < lo ∨ hi < zs.getD k 0) (hr : r = fin xs zs (conts (n + 1) lo hi c k (zs.drop k))) : r = ([], (k : Int), 30) := by
  rw [hr, dropD hk, conts, if_pos h, fin]

theorem more_end {xs zs : List Int} {n k : Nat} {lo hi c : Int} {r : List Int × Int × Int} (hk : k = zs.length) (hr : r = fin xs zs (conts (n + 1) lo hi c k (zs.drop k))) : r = ([], (k : Int), 30) := by
  subst hk
  rw [hr, List.drop_length, conts, fin]

theorem more_done {xs zs : List Int} {k : Nat} {lo hi c : Int} {r : List Int × Int × Int} (hr : r = fin xs zs (conts 0 lo hi c k (zs.drop k))) : r = glue (xs ++ [c]) (dec k (zs.drop k)) := by
  rw [hr, conts, fin]
end Go.Proofs.Ytchjnplceelgoaa.Utf
