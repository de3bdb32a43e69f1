import Derived.Test.YtceflkeaenepcaaGreatDoorN0
import Derived.Test.YtceflkeaenepcaaGreatDoorN3
namespace Go.Proofs.YtceflkeaenepcaaGreatDoor.Cn
def walk (l : List Rec) : Nat → List Int → Int → List Int → List Int × Int
  | 0, way, c, out => if opn l c = [] then (if 32 ≤ out.length then ([], 2) else (out ++ [c], 0)) else if c ∈ way then ([], 72) else ([], 73)
  | f + 1, way, c, out =>
    if opn l c = [] then (if 32 ≤ out.length then ([], 2) else (out ++ [c], 0)) else if c ∈ way then ([], 72)
    else (opn l c).foldl (fun s d => if s.2 = 0 then walk l f (way ++ [c]) d s.1 else s) (out, 0)
def full (l : List Rec) (c : Int) : List Int × Int := walk l 16 [] c []
def nameL (b : ByteArray) : Bool := match b.data.toList.map (·.toNat) with
  | [a, b, c, d] => decide (65 ≤ a ∧ a ≤ 90 ∧ 97 ≤ b ∧ b ≤ 122 ∧ 97 ≤ c ∧ c ≤ 122 ∧ 97 ≤ d ∧ d ≤ 122)
  | _ => false
def weight (u : Nat) : Bool := decide (u ≤ 9218868437227405312)
def scalar (c : Int) : Bool := decide (0 ≤ c ∧ c ≤ 1114111 ∧ ¬ (55296 ≤ c ∧ c ≤ 57343))
def list (x : List Int) (least most : Nat) : Bool := decide (least ≤ x.length ∧ x.length ≤ most) && x.all scalar
def bare (r : Rec) (n to name other w : Bool) : Bool :=
  (n || decide (r.n = 0)) && (to || decide (r.to.length = 0)) && (name || decide (r.name.size = 0)) && (other || decide (r.other.size = 0)) && (w || decide (r.wt = 0))
def right (r : Rec) : Int :=
  if fam r.kind = 0 then 60
  else if r.kind = 15 then (if r.lo = 0 ∧ r.hi = 0 ∧ bare r false false true true true = true ∧ nameL r.name = true ∧ nameL r.other = true ∧ r.name ≠ r.other ∧ weight r.wt = true then 0 else 61)
  else if (decide (0 ≤ r.lo ∧ r.lo ≤ r.hi ∧ r.hi ≤ 1114111) && (
    if r.kind = 1 ∨ r.kind = 2 ∨ r.kind = 11 then bare r false false false false false
    else if r.kind = 3 then bare r false true false false false && list r.to 1 24
    else if r.kind = 4 then bare r true true false false false && decide (1 ≤ r.n ∧ r.n ≤ 64) && list r.to 1 1 && decide (r.to.getD 0 0 + r.hi - r.lo ≤ 1114111 ∧ (r.to.getD 0 0 + r.hi - r.lo < 55296 ∨ 57343 < r.to.getD 0 0))
    else if r.kind = 5 then decide (r.lo = r.hi) && scalar r.lo && bare r false true false false false && list r.to 0 24
    else if r.kind = 13 then decide (r.lo = r.hi) && scalar r.lo && bare r false true false false false && list r.to 1 24
    else if r.kind = 6 then bare r true false false false false && decide (1 ≤ r.n ∧ r.n ≤ 254)
    else if r.kind = 7 then decide (r.lo = r.hi) && scalar r.lo && bare r false true false false false && list r.to 2 2
    else if r.kind = 8 then decide (r.lo = r.hi) && scalar r.lo && bare r false true false false false && list r.to 1 2
    else if r.kind = 9 then bare r true false false false false && decide (0 ≤ r.n ∧ r.n ≤ 10)
    else if r.kind = 10 then bare r true false false false false && decide (0 ≤ r.n ∧ r.n ≤ 5)
    else if r.kind = 12 then bare r false false true false false && nameL r.name
    else bare r false false false false true && weight r.wt)) = true then 0 else 61
def clashA (b : Rec) (s hi : Int) : Nat → Int → Bool
  | 0, _ => false
  | k + 1, c => if c ≤ hi then (speaks b c || clashA b s hi k (c + s)) else false
def clash (a b : Rec) : Bool :=
  if fam a.kind ≠ fam b.kind then false
  else if a.kind = 15 then decide ((a.name = b.name ∧ a.other = b.other) ∨ (a.name = b.other ∧ a.other = b.name))
  else clashA b (step a) (min a.hi b.hi) 64 (if a.lo < max a.lo b.lo then a.lo + (max a.lo b.lo - a.lo + step a - 1) / step a * step a else a.lo)
def rightA : Nat → List Rec → Option (Nat × Int)
  | _, [] => Option.none
  | i, r :: l => if right r = 0 then rightA (i + 1) l else some (i, right r)
def twiceA (l : List Rec) : Nat → List Rec → Option Nat
  | _, [] => Option.none
  | i, r :: m => if (l.take i).any (fun k => clash k r) then some i else twiceA l (i + 1) m
def check6 (l : List Rec) : Nat × Int :=
  if 4096 < l.length then (0, 3) else match rightA 0 l with
    | some x => x
    | Option.none => match twiceA l 0 l with
      | some i => (i, 62)
      | Option.none => (0, 0)
def covers (r : Rec) (lo hi : Int) : Bool := decide (r.lo ≤ hi ∧ lo ≤ r.hi)
def jl (c : Int) : Bool := decide (4352 ≤ c ∧ c ≤ 4370)
def jv (c : Int) : Bool := decide (4449 ≤ c ∧ c ≤ 4469)
def jt (c : Int) : Bool := decide (4520 ≤ c ∧ c ≤ 4546)
def fallsA (l : List Rec) : List Int → Bool
  | a :: b :: r => (decide (cls l b ≠ 0 ∧ cls l b < cls l a)) || fallsA l (b :: r)
  | _ => false
def pair (l : List Rec) (i : Nat) (r : Rec) : Bool :=
  !(decide (cls l r.lo ≠ 0) || decide (cls l (r.to.getD 0 0) ≠ 0) || decide (opn l (r.to.getD 1 0) ≠ []) || (decide (opn l (r.to.getD 0 0) ≠ []) && (prim l (r.to.getD 0 0)).isNone) || decide (r.to.getD 1 0 < 128) || decide (r.to.getD 0 0 = 46)) &&
  !((l.take i).any fun k => decide (k.kind = 7 ∧ k.to.getD 0 0 = r.to.getD 0 0 ∧ k.to.getD 1 0 = r.to.getD 1 0))
def record (l : List Rec) (i : Nat) (r : Rec) : Int :=
  if fam r.kind ≠ 2 ∧ fam r.kind ≠ 3 then 0
  else if covers r 0 127 then 70
  else if covers r 4352 4370 || covers r 4449 4469 || covers r 4520 4546 || covers r 44032 55203 then 71
  else if r.kind = 7 ∧ ((jl (r.to.getD 0 0) && jv (r.to.getD 1 0)) || (syl (r.to.getD 0 0) && decide ((r.to.getD 0 0 - 44032) % 28 = 0) && jt (r.to.getD 1 0))) = true then 71
  else if fam r.kind = 2 then 0
  else if (full l r.lo).2 ≠ 0 then (full l r.lo).2
  else if fallsA l (full l r.lo).1 then 75
  else if r.kind = 7 ∧ pair l i r = false then 74
  else 0
def recordA (l : List Rec) : Nat → List Rec → Option (Nat × Int)
  | _, [] => Option.none
  | i, r :: m => if record l i r = 0 then recordA l (i + 1) m else some (i, record l i r)
def plain (l : List Rec) (c : Int) : Bool := match hit l 1 c with | some r => decide (r.kind = 1) | Option.none => false
def baseOf (c : Int) : Bool := decide (c = 45 ∨ c = 46 ∨ (48 ≤ c ∧ c ≤ 57) ∨ 97 ≤ c)
def baseA (l : List Rec) : Nat → Int → Bool
  | 0, _ => true
  | k + 1, c => (!(baseOf c) || plain l c) && baseA l k (c + 1)
def check (l : List Rec) : Nat × Int :=
  if (check6 l).2 ≠ 0 then check6 l else match recordA l 0 l with
    | some x => x
    | Option.none => if baseA l 78 45 then (0, 0) else (l.length, 70)
def base : List Rec := [⟨1, 97, 122, 0, [], ⟨#[]⟩, ⟨#[]⟩, 0⟩, ⟨1, 48, 57, 0, [], ⟨#[]⟩, ⟨#[]⟩, 0⟩, ⟨1, 45, 46, 0, [], ⟨#[]⟩, ⟨#[]⟩, 0⟩, ⟨7, 192, 192, 0, [65, 768], ⟨#[]⟩, ⟨#[]⟩, 0⟩, ⟨6, 768, 768, 230, [], ⟨#[]⟩, ⟨#[]⟩, 0⟩]
set_option maxRecDepth 100000 in
theorem base_check : check base = (0, 0) := by decide +kernel
set_option maxRecDepth 100000 in
theorem base_full : full base 192 = ([65, 768], 0) := by decide +kernel
set_option maxRecDepth 100000 in
theorem base_tail : check (base.drop 1) = (4, 70) := by decide +kernel
theorem base_prim : prim [] 44033 = some (44032, 4520) := by decide +kernel
theorem base_cls : cls base 768 = 230 := by decide +kernel
theorem base_opn : (opn base 44032).length = 2 := by decide +kernel
end Go.Proofs.YtceflkeaenepcaaGreatDoor.Cn
namespace Go.Proofs.YtceflkeaenepcaaGreatDoor
open Go.RowKit
def Rune (c : Int) : Prop := -2147483648 ≤ c ∧ c ≤ 2147483647
def FullB (w : World) (r : List Int × Int) (e : Ending) (w' : World) : Prop := ∃ v, e = .returned (.tuple #[v, .int .i64 r.2]) ∧ Ok .i32 21 w' w.heap.size v r.1 ∧ Below w.heap.size w w'
def CheckB (w : World) (r : Nat × Int) (e : Ending) (w' : World) : Prop := e = .returned (.tuple #[.int .i64 (r.1 : Int), .int .i64 r.2]) ∧ Below w.heap.size w w'
def Tells (w : World) (b : Bool) (e : Ending) (w' : World) : Prop := e = .returned (.bool b) ∧ Below w.heap.size w w'
theorem Rcs.nil (w : World) : Rcs w (.slice none 0 0) [] := ⟨by simp, fun _ h => (by cases h), .inl ⟨rfl, none, 0, rfl, by omega⟩⟩
theorem Rcs.tail {w : World} {b off len cap : Nat} {rs : List Rec} (h : Rcs w (.slice (some ⟨b, off, none⟩) len cap) rs) (hl : 0 < len) (hlr : rs.length = len) : Rcs w (.slice (some ⟨b, off + 8, none⟩) (len - 1) (cap - 1)) (rs.drop 1) := by
  obtain ⟨h1, h2, h3⟩ := h
  refine ⟨by simp; omega, fun r hr => h2 r (List.mem_of_mem_drop hr), ?_⟩
  rcases h3 with ⟨rfl, ao', cap', hv, hm⟩ | ⟨b', off', cap', hv, hl', hm, hc⟩
  · simp at hlr; omega
  · simp only [Value.slice.injEq, Option.some.injEq, Addr.mk.injEq, and_true] at hv
    obtain ⟨⟨rfl, rfl⟩, _, rfl⟩ := hv
    refine .inr ⟨b, off + 8, cap - 1, by simp [hlr], by simp; omega, by omega, fun i hi => ?_⟩
    have := hc (i + 1) (by simp at hi; omega)
    rw [show (rs.drop 1).getD i Cn.none = rs.getD (i + 1) Cn.none by simp [List.getD], show off + 8 + i * 8 = off + (i + 1) * 8 by omega]
    exact this
theorem rune_of {w : World} {v : Value} {zs : List Int} (h : Sk .i32 w v zs) {i : Nat} (hi : i < zs.length) : Rune (zs.getD i 0) := by
  have := h.1 (zs.getD i 0) (by simp [List.getD, hi])
  unfold Rune
  simpa [IntKind.min, IntKind.max, IntKind.signed, IntKind.bits] using this
end Go.Proofs.YtceflkeaenepcaaGreatDoor
namespace Go.Proofs.YtceflkeaenepcaaGreatDoor.Cn
theorem walk_leaf {l : List Rec} {c : Int} (h : opn l c = []) (f : Nat) (way out : List Int) : walk l f way c out = if 32 ≤ out.length then ([], 2) else (out ++ [c], 0) := by
  cases f <;> rw [walk, if_pos h]
theorem walk_loop {l : List Rec} {c : Int} (h : opn l c ≠ []) (f : Nat) {way : List Int} (hw : c ∈ way) (out : List Int) : walk l f way c out = ([], 72) := by
  cases f <;> rw [walk, if_neg h, if_pos hw]
theorem walk_deep {l : List Rec} {c : Int} (h : opn l c ≠ []) {way : List Int} (hw : ¬ c ∈ way) (out : List Int) : walk l 0 way c out = ([], 73) := by
  rw [walk, if_neg h, if_neg hw]
def stepW (l : List Rec) (f : Nat) (way : List Int) (s : List Int × Int) (d : Int) : List Int × Int := if s.2 = 0 then walk l f way d s.1 else s
theorem walk_go {l : List Rec} {c : Int} (h : opn l c ≠ []) (f : Nat) {way : List Int} (hw : ¬ c ∈ way) (out : List Int) : walk l (f + 1) way c out = (opn l c).foldl (stepW l f (way ++ [c])) (out, 0) := by
  rw [walk, if_neg h, if_neg hw]; rfl
theorem fold_stuck (l : List Rec) (f : Nat) (way : List Int) : ∀ (xs : List Int) (s : List Int × Int), s.2 ≠ 0 → xs.foldl (stepW l f way) s = s
  | [], _, _ => rfl
  | x :: xs, s, h => by
    rw [List.foldl_cons, stepW, if_neg h]
    exact fold_stuck l f way xs s h
theorem fold_step {l : List Rec} {f : Nat} {way xs out : List Int} {k : Nat} (hk : k < xs.length) : (xs.drop k).foldl (stepW l f way) (out, 0) = (xs.drop (k + 1)).foldl (stepW l f way) (walk l f way (xs.getD k 0) out) := by
  rw [List.drop_eq_getElem_cons hk, List.foldl_cons]
  simp [stepW, List.getD, hk]
theorem walk_len (l : List Rec) : ∀ (f : Nat) (way : List Int) (c : Int) (out : List Int), out.length ≤ 32 → (walk l f way c out).1.length ≤ 32 := by
  intro f
  induction f with
  | zero =>
    intro way c out h
    rw [walk]
    split
    · split
      · simp
      · simp; omega
    · split <;> simp
  | succ f ih =>
    intro way c out h
    rw [walk]
    split
    · split
      · simp
      · simp; omega
    · split
      · simp
      · have key : ∀ (xs : List Int) (s : List Int × Int), s.1.length ≤ 32 → (xs.foldl (stepW l f (way ++ [c])) s).1.length ≤ 32 := by
          intro xs
          induction xs with
          | nil => intro s hs; exact hs
          | cons x xs ihx =>
            intro s hs
            rw [List.foldl_cons]
            refine ihx _ ?_
            unfold stepW
            split
            · exact ih _ _ _ hs
            · exact hs
        exact key _ _ h
theorem full_len (l : List Rec) (c : Int) : (full l c).1.length ≤ 32 := walk_len l 16 [] c [] (by simp)
theorem walk_err (l : List Rec) : ∀ (f : Nat) (way : List Int) (c : Int) (out : List Int), (walk l f way c out).2 ≠ 0 → (walk l f way c out).1 = [] := by
  intro f
  induction f with
  | zero =>
    intro way c out
    rw [walk]
    split
    · split
      · intro _; rfl
      · intro h; exact absurd rfl h
    · split <;> (intro _; rfl)
  | succ f ih =>
    intro way c out
    rw [walk]
    split
    · split
      · intro _; rfl
      · intro h; exact absurd rfl h
    · split
      · intro _; rfl
      · have key : ∀ (xs : List Int) (s : List Int × Int), (s.2 ≠ 0 → s.1 = []) → (xs.foldl (stepW l f (way ++ [c])) s).2 ≠ 0 → (xs.foldl (stepW l f (way ++ [c])) s).1 = [] := by
          intro xs
          induction xs with
          | nil => intro s hs h; exact hs h
          | cons x xs ihx =>
            intro s hs
            rw [List.foldl_cons]
            refine ihx _ ?_
            unfold stepW
            split
            · exact ih _ _ _
            · exact hs
        exact key _ _ (fun h => absurd rfl h)
end Go.Proofs.YtceflkeaenepcaaGreatDoor.Cn
namespace Go.Proofs.YtceflkeaenepcaaGreatDoor.Cn
theorem if_zero {p : Prop} [Decidable p] (h : (if p then (0 : Int) else 61) = 0) : p := by
  by_cases hp : p
  · exact hp
  · rw [if_neg hp] at h
    exact absurd h (by decide)
theorem right_kind {r : Rec} (h : right r = 0) : fam r.kind ≠ 0 := fun e => by
  unfold right at h
  rw [if_pos e] at h
  exact absurd h (by decide)
theorem right_span {r : Rec} (h : right r = 0) (hk : r.kind ≠ 15) : 0 ≤ r.lo ∧ r.lo ≤ r.hi ∧ r.hi ≤ 1114111 := by
  have hf := right_kind h
  unfold right at h
  rw [if_neg hf, if_neg hk] at h
  have hc := if_zero h
  rw [Bool.and_eq_true] at hc
  exact of_decide_eq_true hc.1
theorem right_step {r : Rec} (h : right r = 0) : 1 ≤ step r ∧ step r ≤ 64 := by
  unfold step
  by_cases h4 : r.kind = 4
  · rw [if_pos h4]
    have hf := right_kind h
    unfold right at h
    rw [if_neg hf, if_neg (by omega)] at h
    have hc := if_zero h
    rw [Bool.and_eq_true, if_neg (by omega), if_neg (by omega), if_pos h4] at hc
    have h2 := hc.2
    simp only [Bool.and_eq_true] at h2
    have := of_decide_eq_true h2.1.1.2
    omega
  · rw [if_neg h4]
    omega
theorem list_parts {x : List Int} {a b : Nat} (h : list x a b = true) : (a ≤ x.length ∧ x.length ≤ b) ∧ ∀ c ∈ x, scalar c = true := by
  unfold list at h
  rw [Bool.and_eq_true] at h
  exact ⟨of_decide_eq_true h.1, List.all_eq_true.1 h.2⟩
theorem right_decomp {r : Rec} (h : right r = 0) (h7 : r.kind = 7) : r.lo = r.hi ∧ scalar r.lo = true ∧ list r.to 2 2 = true := by
  have hf := right_kind h
  unfold right at h
  rw [if_neg hf, if_neg (by omega)] at h
  have hc := if_zero h
  rw [Bool.and_eq_true, if_neg (by omega), if_neg (by omega), if_neg (by omega), if_neg (by omega), if_neg (by omega), if_neg (by omega), if_pos h7] at hc
  have h2 := hc.2
  simp only [Bool.and_eq_true] at h2
  exact ⟨of_decide_eq_true h2.1.1.1, h2.1.1.2, h2.2⟩
theorem right_opens {r : Rec} (h : right r = 0) (h8 : r.kind = 8) : r.lo = r.hi ∧ scalar r.lo = true ∧ list r.to 1 2 = true := by
  have hf := right_kind h
  unfold right at h
  rw [if_neg hf, if_neg (by omega)] at h
  have hc := if_zero h
  rw [Bool.and_eq_true, if_neg (by omega), if_neg (by omega), if_neg (by omega), if_neg (by omega), if_neg (by omega), if_neg (by omega), if_neg (by omega), if_pos h8] at hc
  have h2 := hc.2
  simp only [Bool.and_eq_true] at h2
  exact ⟨of_decide_eq_true h2.1.1.1, h2.1.1.2, h2.2⟩
theorem rightA_all : ∀ (l : List Rec) (i : Nat), rightA i l = Option.none → ∀ r ∈ l, right r = 0
  | [], _, _ => fun r hr => by cases hr
  | x :: l, i, h => fun r hr => by
    rw [rightA] at h
    split at h
    · next hx =>
      rcases List.mem_cons.1 hr with rfl | hr
      · exact hx
      · exact rightA_all l (i + 1) h r hr
    · cases h
theorem rightA_err : ∀ (l : List Rec) (i : Nat) (x : Nat × Int), rightA i l = some x → x.2 ≠ 0
  | [], _, _, h => by rw [rightA] at h; cases h
  | y :: l, i, x, h => by
    rw [rightA] at h
    split at h
    · exact rightA_err l (i + 1) x h
    · next hx => cases h; exact hx
theorem check6_all {l : List Rec} (h : (check6 l).2 = 0) : l.length ≤ 4096 ∧ ∀ r ∈ l, right r = 0 := by
  unfold check6 at h
  split at h
  · exact absurd h (by decide)
  · next hl =>
    refine ⟨by omega, ?_⟩
    split at h
    · next x hx => exact absurd h (rightA_err _ _ _ hx)
    · next hx => exact rightA_all _ _ hx
end Go.Proofs.YtceflkeaenepcaaGreatDoor.Cn
namespace Go.Proofs.YtceflkeaenepcaaGreatDoor.Cn
def inRun (lo hi s x : Int) : Prop := lo ≤ x ∧ x ≤ hi ∧ s ∣ x - lo
theorem run_meet {lo1 hi1 s1 lo2 hi2 s2 c0 : Int} {N : Nat} (h1 : 0 < s1) (h2 : 0 < s2) (hN : s2 ≤ N) (ha : lo1 ≤ c0) (hb : lo2 ≤ c0) (hd : s1 ∣ c0 - lo1) (hmin : ∀ x, lo1 ≤ x → lo2 ≤ x → s1 ∣ x - lo1 → c0 ≤ x) :
    (∃ x, inRun lo1 hi1 s1 x ∧ inRun lo2 hi2 s2 x) ↔ ∃ k : Nat, k < N ∧ c0 + k * s1 ≤ hi1 ∧ c0 + k * s1 ≤ hi2 ∧ s2 ∣ c0 + k * s1 - lo2 := by
  constructor
  · rintro ⟨x, ⟨a1, a2, a3⟩, b1, b2, b3⟩
    have hcx := hmin x a1 b1 a3
    obtain ⟨j, hj⟩ : s1 ∣ x - c0 := by
      have := Int.dvd_sub a3 hd
      rwa [show x - lo1 - (c0 - lo1) = x - c0 by omega] at this
    have hj0 : 0 ≤ j := by
      rcases Int.lt_or_le j 0 with h | h
      · have := Int.mul_neg_of_pos_of_neg h1 h
        omega
      · exact h
    have hk0 := Int.emod_nonneg j (show s2 ≠ 0 by omega)
    have hk1 := Int.emod_lt_of_pos j h2
    have hkj : j % s2 ≤ j := by
      have := Int.emod_add_mul_ediv j s2
      have := Int.mul_nonneg (show 0 ≤ s2 by omega) (Int.ediv_nonneg hj0 (show 0 ≤ s2 by omega))
      omega
    have hle : j % s2 * s1 ≤ x - c0 := by
      rw [hj, Int.mul_comm s1 j]
      exact Int.mul_le_mul_of_nonneg_right hkj (by omega)
    refine ⟨(j % s2).toNat, by omega, ?_, ?_, ?_⟩
    · rw [Int.toNat_of_nonneg hk0]; omega
    · rw [Int.toNat_of_nonneg hk0]; omega
    · rw [Int.toNat_of_nonneg hk0]
      have e : c0 + j % s2 * s1 - lo2 = (x - lo2) - (j - j % s2) * s1 := by
        rw [Int.sub_mul, Int.mul_comm j s1, ← hj]
        omega
      rw [e]
      refine Int.dvd_sub b3 (Int.dvd_mul_of_dvd_left ?_)
      exact Int.dvd_self_sub_emod
  · rintro ⟨k, _, k1, k2, k3⟩
    have hnn : 0 ≤ (k : Int) * s1 := Int.mul_nonneg (by omega) (by omega)
    refine ⟨c0 + k * s1, ⟨by omega, k1, ?_⟩, by omega, k2, k3⟩
    rw [show c0 + (k : Int) * s1 - lo1 = (c0 - lo1) + k * s1 by omega]
    exact Int.dvd_add hd (Int.dvd_mul_left _ _)
theorem speaks_iff {r : Rec} (h : right r = 0) (hk : r.kind ≠ 15) (c : Int) : speaks r c = true ↔ inRun r.lo r.hi (step r) c := by
  have hs := right_step h
  have hp := right_span h hk
  unfold speaks inRun
  rw [decide_eq_true_iff]
  constructor
  · rintro ⟨_, _, _, _, h5, h6, h7⟩
    exact ⟨h5, h6, Int.dvd_of_emod_eq_zero h7⟩
  · rintro ⟨h5, h6, h7⟩
    exact ⟨hk, by omega, by omega, by omega, h5, h6, Int.emod_eq_zero_of_dvd h7⟩
theorem clashA_iff (b : Rec) {s hi : Int} (hs : 0 ≤ s) : ∀ (n : Nat) (c : Int), clashA b s hi n c = true ↔ ∃ k : Nat, k < n ∧ c + k * s ≤ hi ∧ speaks b (c + k * s) = true
  | 0, c => by simp [clashA]
  | n + 1, c => by
    rw [clashA]
    split
    · next hc =>
      rw [Bool.or_eq_true, clashA_iff b hs n]
      constructor
      · rintro (h | ⟨k, h1, h2, h3⟩)
        · exact ⟨0, by omega, by simpa using hc, by simpa using h⟩
        · refine ⟨k + 1, by omega, ?_, ?_⟩
          · rw [show c + ((k + 1 : Nat) : Int) * s = c + s + k * s by push_cast; rw [Int.add_mul]; omega]; exact h2
          · rw [show c + ((k + 1 : Nat) : Int) * s = c + s + k * s by push_cast; rw [Int.add_mul]; omega]; exact h3
      · rintro ⟨k, h1, h2, h3⟩
        cases k with
        | zero => left; simpa using h3
        | succ k =>
          right
          rw [show c + ((k + 1 : Nat) : Int) * s = c + s + k * s by push_cast; rw [Int.add_mul]; omega] at h2 h3
          exact ⟨k, by omega, h2, h3⟩
    · next hc =>
      constructor
      · intro h; cases h
      · rintro ⟨k, _, h2, _⟩
        have := Int.mul_nonneg (show (0 : Int) ≤ k by omega) hs
        omega
theorem first_run {lo1 lo2 s : Int} (h : 0 < s) {c0 : Int} (hc : c0 = if lo1 < lo2 then lo1 + (lo2 - lo1 + s - 1) / s * s else lo1) :
    lo1 ≤ c0 ∧ lo2 ≤ c0 ∧ s ∣ c0 - lo1 ∧ ∀ x, lo1 ≤ x → lo2 ≤ x → s ∣ x - lo1 → c0 ≤ x := by
  by_cases hl : lo1 < lo2
  · rw [if_pos hl] at hc
    have e := Int.emod_add_mul_ediv (lo2 - lo1 + s - 1) s
    have e0 := Int.emod_nonneg (lo2 - lo1 + s - 1) (show s ≠ 0 by omega)
    have e1 := Int.emod_lt_of_pos (lo2 - lo1 + s - 1) h
    rw [Int.mul_comm] at e
    have hq : s ∣ (lo2 - lo1 + s - 1) / s * s := Int.dvd_mul_left _ _
    generalize (lo2 - lo1 + s - 1) / s * s = q at *
    subst hc
    refine ⟨by omega, by omega, by rw [show lo1 + q - lo1 = q by omega]; exact hq, fun x a b d => ?_⟩
    obtain ⟨j, hj⟩ := Int.dvd_sub hq d
    rcases Int.lt_or_le 0 j with h' | h'
    · have : s * 1 ≤ s * j := Int.mul_le_mul_of_nonneg_left (by omega) (by omega)
      omega
    · have := Int.mul_nonpos_of_nonneg_of_nonpos (show 0 ≤ s by omega) h'
      omega
  · rw [if_neg hl] at hc
    subst hc
    exact ⟨by omega, by omega, by simp, fun x a _ _ => a⟩
theorem clash_iff {a b : Rec} (ha : right a = 0) (hb : right b = 0) (hf : fam a.kind = fam b.kind) (hk : a.kind ≠ 15) (hk' : b.kind ≠ 15) : clash a b = true ↔ ∃ c, speaks a c = true ∧ speaks b c = true := by
  have hsa := right_step ha
  have hsb := right_step hb
  unfold clash
  rw [if_neg (by simp [hf]), if_neg hk, clashA_iff b (by omega)]
  obtain ⟨f1, f2, f3, f4⟩ := first_run (lo1 := a.lo) (lo2 := max a.lo b.lo) (show 0 < step a by omega) rfl
  generalize (if a.lo < max a.lo b.lo then a.lo + (max a.lo b.lo - a.lo + step a - 1) / step a * step a else a.lo) = c0 at *
  have := run_meet (hi1 := a.hi) (hi2 := b.hi) (N := 64) (lo1 := a.lo) (lo2 := b.lo) (s1 := step a) (s2 := step b) (c0 := c0) (by omega) (by omega) (by omega) f1 (by omega) f3 (fun x p q d => f4 x p (by omega) d)
  constructor
  · rintro ⟨k, h1, h2, h3⟩
    rw [speaks_iff hb hk'] at h3
    obtain ⟨x, hx, hy⟩ := this.2 ⟨k, h1, by omega, by omega, h3.2.2⟩
    exact ⟨x, (speaks_iff ha hk x).2 hx, (speaks_iff hb hk' x).2 hy⟩
  · rintro ⟨x, hx, hy⟩
    obtain ⟨k, h1, h2, h3, h4⟩ := this.1 ⟨x, (speaks_iff ha hk x).1 hx, (speaks_iff hb hk' x).1 hy⟩
    refine ⟨k, h1, by omega, (speaks_iff hb hk' _).2 ⟨?_, h3, h4⟩⟩
    have := Int.mul_nonneg (show (0 : Int) ≤ k by omega) (show 0 ≤ step a by omega)
    omega
theorem fam_ten {k : Int} (h : fam k = 10) : k = 15 := by
  unfold fam at h
  split at h
  · omega
  · split at h
    · omega
    · split at h
      · omega
      · split at h <;> omega
theorem fam_mix : fam 15 = 10 := by decide
theorem clash_symm {a b : Rec} (ha : right a = 0) (hb : right b = 0) : clash a b = clash b a := by
  by_cases hf : fam a.kind = fam b.kind
  · by_cases hk : a.kind = 15
    · have hk' : b.kind = 15 := fam_ten (by rw [← hf, hk]; decide)
      unfold clash
      rw [if_neg (by simp [hf]), if_pos hk, if_neg (by simp [hf]), if_pos hk']
      refine decide_eq_decide.2 ⟨?_, ?_⟩
      · rintro (⟨h1, h2⟩ | ⟨h1, h2⟩)
        · exact .inl ⟨h1.symm, h2.symm⟩
        · exact .inr ⟨h2.symm, h1.symm⟩
      · rintro (⟨h1, h2⟩ | ⟨h1, h2⟩)
        · exact .inl ⟨h1.symm, h2.symm⟩
        · exact .inr ⟨h2.symm, h1.symm⟩
    · have hk' : b.kind ≠ 15 := fun e => hk (fam_ten (by rw [hf, e]; decide))
      have h1 := clash_iff ha hb hf hk hk'
      have h2 := clash_iff hb ha hf.symm hk' hk
      rw [Bool.eq_iff_iff, h1, h2]
      constructor <;> exact fun ⟨c, p, q⟩ => ⟨c, q, p⟩
  · unfold clash
    rw [if_pos hf, if_pos (fun e => hf e.symm)]
end Go.Proofs.YtceflkeaenepcaaGreatDoor.Cn
