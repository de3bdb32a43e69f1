/- What scan reads and writes, as plain functions. -/
namespace Go.Proofs.YtkdkmnohnhhojaaDoor.Scn

def hexd (c : Int) : Int := if 48 ≤ c ∧ c ≤ 57 then c - 48 else if 65 ≤ c ∧ c ≤ 70 then c - 55 else -1
def hexA : Int → List Int → Option Int
  | n, [] => some n
  | n, c :: r => if hexd c < 0 then none else hexA (16 * n + hexd c) r
def cap : Option Int → Option Int
  | some n => if 1114111 < n then none else some n
  | none => none
/-- A code point, or none. -/
def code (l : List Int) : Option Int :=
  if l.length < 1 ∨ 6 < l.length ∨ (1 < l.length ∧ l.getD 0 0 = 48) then none else cap (hexA 0 l)
def told (o : Option Int) : Int × Bool := match o with | some n => (n, true) | none => (0, false)

def decA : Int → List Int → Option Int
  | n, [] => some n
  | n, c :: r => if c < 48 ∨ 57 < c then none else decA (10 * n + (c - 48)) r
def digs (l : List Int) : Option Int := if l.length < 1 ∨ 9 < l.length ∨ l.getD 0 0 = 48 then none else decA 0 l
/-- A whole number, or none. -/
def whole (l : List Int) : Option Int :=
  if l = [48] then some 0
  else if 0 < l.length ∧ l.getD 0 0 = 45 then (digs (l.drop 1)).map fun n => -n
  else digs l
abbrev small (c : Int) : Prop := 97 ≤ c ∧ c ≤ 122
def name (l : List Int) : Bool := decide (l.length = 4 ∧ 65 ≤ l.getD 0 0 ∧ l.getD 0 0 ≤ 90 ∧ small (l.getD 1 0) ∧ small (l.getD 2 0) ∧ small (l.getD 3 0))

/-- Two code points, or one twice, or none: the first two full stops part the text. -/
def both : Option Int → Option Int → Option (Int × Int)
  | some a, some b => if a < b then some (a, b) else none
  | _, _ => none
def spanA (l : List Int) : Nat → Nat → Option (Int × Int)
  | 0, _ => (code l).map fun a => (a, a)
  | fuel + 1, k => if k + 1 < l.length then (if l.getD k 0 = 46 ∧ l.getD (k + 1) 0 = 46 then both (code (l.take k)) (code (l.drop (k + 2))) else spanA l fuel (k + 1)) else (code l).map fun a => (a, a)
def span (l : List Int) : Option (Int × Int) := spanA l l.length 0
theorem hexd_bound (c : Int) : -1 ≤ hexd c ∧ hexd c ≤ 15 := by unfold hexd; split <;> (try split) <;> omega
theorem hexA_step {n : Int} {l : List Int} {k : Nat} (hk : k < l.length) : hexA n (l.drop k) = if hexd (l.getD k 0) < 0 then none else hexA (16 * n + hexd (l.getD k 0)) (l.drop (k + 1)) := by
  rw [List.drop_eq_getElem_cons hk, hexA]
  simp [List.getD, hk]
theorem decA_step {n : Int} {l : List Int} {k : Nat} (hk : k < l.length) : decA n (l.drop k) = if l.getD k 0 < 48 ∨ 57 < l.getD k 0 then none else decA (10 * n + (l.getD k 0 - 48)) (l.drop (k + 1)) := by
  rw [List.drop_eq_getElem_cons hk, decA]
  simp [List.getD, hk]
end Go.Proofs.YtkdkmnohnhhojaaDoor.Scn
