
namespace Go.Proofs.YtceflkeaenepcaaGreatDoor.Scn
def hexd (c : Int) : Int := if 48 ≤ c ∧ c ≤ 57 then c - 48 else if 65 ≤ c ∧ c ≤ 70 then c - 55 else -1
def hexA : Int → List Int → Option Int
  | n, [] => some n
  | n, c :: r => if hexd c < 0 then none else hexA (16 * n + hexd c) r
def cap : Option Int → Option Int
  | some n => if 1114111 < n then none else some n
  | none => none
def code (l : List Int) : Option Int :=
  if l.length < 1 ∨ 6 < l.length ∨ (1 < l.length ∧ l.getD 0 0 = 48) then none else cap (hexA 0 l)
def told (o : Option Int) : Int × Bool := match o with | some n => (n, true) | none => (0, false)
def decA : Int → List Int → Option Int
  | n, [] => some n
  | n, c :: r => if c < 48 ∨ 57 < c then none else decA (10 * n + (c - 48)) r
def digs (l : List Int) : Option Int := if l.length < 1 ∨ 9 < l.length ∨ l.getD 0 0 = 48 then none else decA 0 l
def whole (l : List Int) : Option Int :=
  if l = [48] then some 0
  else if 0 < l.length ∧ l.getD 0 0 = 45 then (digs (l.drop 1)).map fun n => -n
  else digs l
abbrev small (c : Int) : Prop := 97 ≤ c ∧ c ≤ 122
def name (l : List Int) : Bool := decide (l.length = 4 ∧ 65 ≤ l.getD 0 0 ∧ l.getD 0 0 ≤ 90 ∧ small (l.getD 1 0) ∧ small (l.getD 2 0) ∧ small (l.getD 3 0))
def both : Option Int → Option Int → Option (Int × Int)
  | some a, some b => if a < b then some (a, b) else none
  | _, _ => none
def spanA (l : List Int) : Nat → Nat → Option (Int × Int)
  | 0, _ => (code l).map fun a => (a, a)
  | fuel + 1, k => if k + 1 < l.length then (if l.getD k 0 = 46 ∧ l.getD (k + 1) 0 = 46 then both (code (l.take k)) (code (l.drop (k + 2))) else spanA l fuel (k + 1)) else (code l).map fun a => (a, a)
def span (l : List Int) : Option (Int × Int) := spanA l l.length 0
theorem hexd_bound (c : Int) : -1 ≤ hexd c ∧ hexd c ≤ 15 := by unfold hexd; split <;> (try split) <;> omega
theorem hexA_step {n : Int} {l : List Int} {k : Nat} (hk : k < l.length) : hexA n (l.drop k) = if hexd (l.getD k 0) < 0 then none else hexA (16 * n + hexd (l.getD k 0)) (l.drop (k + 1)) := by
  rw [List.drop_eq_getElem_cons hk, hexA]
  simp [List.getD, hk]
theorem decA_step {n : Int} {l : List Int} {k : Nat} (hk : k < l.length) : decA n (l.drop k) = if l.getD k 0 < 48 ∨ 57 < l.getD k 0 then none else decA (10 * n + (l.getD k 0 - 48)) (l.drop (k + 1)) := by
  rw [List.drop_eq_getElem_cons hk, decA]
  simp [List.getD, hk]
end Go.Proofs.YtceflkeaenepcaaGreatDoor.Scn
namespace Go.Proofs.YtceflkeaenepcaaGreatDoor.Scn
def hexc (d : Int) : Int := if d < 10 then 48 + d else 55 + d
def hexW : Nat → Int → List Int → List Int
  | 0, _, a => a
  | f + 1, n, a => if 0 < n ∨ a = [] then hexW f (n / 16) (hexc (n % 16) :: a) else a
def pcode (c : Int) : List Int := if c < 0 ∨ 1114111 < c then [] else hexW 8 c []
def decW : Nat → Int → List Int → List Int
  | 0, _, a => a
  | f + 1, n, a => if 0 < n then decW f (n / 10) ((48 + n % 10) :: a) else a
def pwhole (n : Int) : List Int := if n = 0 then [48] else if n < 0 then 45 :: decW 20 (-n) [] else decW 20 n []
def pspan (a b : Int) : List Int := if a = b then pcode a else if a < 0 ∨ b < a ∨ 1114111 < b then [] else pcode a ++ [46, 46] ++ pcode b
theorem hexW_length (f : Nat) (n : Int) (a : List Int) : (hexW f n a).length ≤ f + a.length := by
  induction f generalizing n a with
  | zero => simp [hexW]
  | succ f ih =>
    rw [hexW]
    split
    · have := ih (n / 16) (hexc (n % 16) :: a)
      rw [List.length_cons] at this
      omega
    · omega
theorem pcode_length (c : Int) : (pcode c).length ≤ 8 := by
  unfold pcode
  split
  · simp
  · exact hexW_length 8 c []
theorem decW_length (f : Nat) (n : Int) (a : List Int) : (decW f n a).length ≤ f + a.length := by
  induction f generalizing n a with
  | zero => simp [decW]
  | succ f ih =>
    rw [decW]
    split
    · have := ih (n / 10) ((48 + n % 10) :: a)
      rw [List.length_cons] at this
      omega
    · omega
theorem pwhole_length (n : Int) : (pwhole n).length ≤ 21 := by
  unfold pwhole
  split
  · simp
  · split
    · have := decW_length 20 (-n) []
      rw [List.length_cons]
      simp at this
      omega
    · have := decW_length 20 n []
      simp at this
      omega
theorem pspan_length (a b : Int) : (pspan a b).length ≤ 18 := by
  have := pcode_length a
  have := pcode_length b
  unfold pspan
  split
  · omega
  · split
    · simp
    · simp only [List.length_append, List.length_cons, List.length_nil]; omega
end Go.Proofs.YtceflkeaenepcaaGreatDoor.Scn
namespace Go.Proofs.YtceflkeaenepcaaGreatDoor.Scn
def linesA : List Int → List Int → List (List Int)
  | cur, [] => if cur = [] then [] else [cur]
  | cur, c :: r => if c = 10 then cur :: linesA [] r else linesA (cur ++ [c]) r
def lines (l : List Int) : List (List Int) := linesA [] l
def cut (l : List Int) (a b : Nat) : List Int := (l.drop a).take (b - a)
theorem cut_same (l : List Int) (a : Nat) : cut l a a = [] := by simp [cut]
theorem cut_snoc {l : List Int} {a k : Nat} (h1 : a ≤ k) (h2 : k < l.length) : cut l a (k + 1) = cut l a k ++ [l.getD k 0] := by
  unfold cut
  rw [show k + 1 - a = (k - a) + 1 by omega, List.take_add_one]
  congr 1
  rw [List.getElem?_drop, show a + (k - a) = k by omega]
  simp [List.getD, h2]
theorem cut_length {l : List Int} {a b : Nat} (h1 : a ≤ b) (h2 : b ≤ l.length) : (cut l a b).length = b - a := by
  simp [cut]; omega
theorem linesA_step {l : List Int} {cur : List Int} {k : Nat} (hk : k < l.length) : linesA cur (l.drop k) = if l.getD k 0 = 10 then cur :: linesA [] (l.drop (k + 1)) else linesA (cur ++ [l.getD k 0]) (l.drop (k + 1)) := by
  rw [List.drop_eq_getElem_cons hk, linesA]
  simp [List.getD, hk]
def isBlank (c : Int) : Bool := c == 32 || c == 9 || c == 13
def endA : List Int → Nat
  | [] => 0
  | c :: r => if c = 35 then 0 else endA r + 1
def wordsA : Nat → List Int → List Int → List (List Int × Nat)
  | k, cur, [] => if cur = [] then [] else [(cur, k - cur.length)]
  | k, cur, c :: r => if isBlank c then (if cur = [] then wordsA (k + 1) [] r else (cur, k - cur.length) :: wordsA (k + 1) [] r) else wordsA (k + 1) (cur ++ [c]) r
def words (l : List Int) : List (List Int × Nat) := wordsA 0 [] (l.take (endA l))
theorem wordsA_step {l : List Int} {cur : List Int} {k j : Nat} (hk : k < l.length) : wordsA j cur (l.drop k) = if isBlank (l.getD k 0) then (if cur = [] then wordsA (j + 1) [] (l.drop (k + 1)) else (cur, j - cur.length) :: wordsA (j + 1) [] (l.drop (k + 1))) else wordsA (j + 1) (cur ++ [l.getD k 0]) (l.drop (k + 1)) := by
  rw [List.drop_eq_getElem_cons hk, wordsA]
  simp [List.getD, hk]
theorem endA_step {l : List Int} {k : Nat} (hk : k < l.length) : endA (l.drop k) = if l.getD k 0 = 35 then 0 else endA (l.drop (k + 1)) + 1 := by
  rw [List.drop_eq_getElem_cons hk, endA]
  simp [List.getD, hk]
theorem endA_le (l : List Int) : endA l ≤ l.length := by
  induction l with
  | nil => simp [endA]
  | cons c r ih => rw [endA]; split <;> simp; omega
theorem take_at {l : List Int} {e k : Nat} (h : k < e) : (l.take e).getD k 0 = l.getD k 0 := by
  simp [List.getD, List.getElem?_take_of_lt h]
theorem cut_take {l : List Int} {a k e : Nat} (h : k ≤ e) : cut (l.take e) a k = cut l a k := by
  unfold cut
  rw [List.drop_take, List.take_take, Nat.min_eq_left (by omega)]
theorem wordsA_blank {l : List Int} {k : Nat} (hk : k < l.length) (h : isBlank (l.getD k 0) = true) : wordsA k [] (l.drop k) = wordsA (k + 1) [] (l.drop (k + 1)) := by
  rw [wordsA_step hk, if_pos h, if_pos rfl]
theorem wordsA_go {l : List Int} {a k : Nat} (ha : a ≤ k) (hk : k < l.length) (h : isBlank (l.getD k 0) = false) : wordsA k (cut l a k) (l.drop k) = wordsA (k + 1) (cut l a (k + 1)) (l.drop (k + 1)) := by
  rw [wordsA_step hk, if_neg (by rw [h]; exact Bool.false_ne_true), cut_snoc ha hk]
theorem wordsA_done {l : List Int} {a k : Nat} (ha : a < k) (hk : k ≤ l.length) (h : k < l.length → isBlank (l.getD k 0) = true) : wordsA k (cut l a k) (l.drop k) = (cut l a k, a) :: wordsA k [] (l.drop k) := by
  have hl := cut_length (l := l) (a := a) (b := k) (by omega) hk
  have hne : ¬ cut l a k = [] := fun e => by rw [e] at hl; simp at hl; omega
  rcases Nat.lt_or_ge k l.length with h1 | h1
  · rw [wordsA_blank h1 (h h1), wordsA_step h1, if_pos (h h1), if_neg hne, hl, show k - (k - a) = a by omega]
  · rw [List.drop_eq_nil_of_le h1, wordsA, wordsA, if_neg hne, if_pos rfl, hl, show k - (k - a) = a by omega]
end Go.Proofs.YtceflkeaenepcaaGreatDoor.Scn
namespace Go.Proofs.YtceflkeaenepcaaGreatDoor.Scn
theorem hexA_snoc (l : List Int) (c n : Int) : hexA n (l ++ [c]) = (hexA n l).bind fun m => if hexd c < 0 then none else some (16 * m + hexd c) := by
  induction l generalizing n with
  | nil => simp [hexA]
  | cons x l ih =>
    rw [List.cons_append, hexA, hexA]
    split
    · rfl
    · exact ih _
theorem hexc_hexd {c : Int} (h : ¬ hexd c < 0) : hexc (hexd c) = c := by
  unfold hexd at *
  unfold hexc
  split <;> rename_i h1
  · rw [if_pos (by omega)]; omega
  · rw [if_neg h1] at h
    split <;> rename_i h2
    · rw [if_neg (by omega)]; omega
    · rw [if_neg h2] at h; omega
theorem hexd_hexc {d : Int} (h1 : 0 ≤ d) (h2 : d < 16) : hexd (hexc d) = d := by
  unfold hexc hexd
  by_cases h : d < 10
  · rw [if_pos h, if_pos (by omega)]; omega
  · rw [if_neg h, if_neg (by omega), if_pos (by omega)]; omega
theorem hexc_ge {d : Int} (h1 : 0 ≤ d) (h2 : d < 16) : 48 ≤ hexc d := by unfold hexc; split <;> omega
theorem hexA_ge {l : List Int} : ∀ {n m : Int}, 0 ≤ n → hexA n l = some m → n ≤ m := by
  induction l with
  | nil => intro n m _ h; simp [hexA] at h; omega
  | cons c l ih =>
    intro n m h0 h
    rw [hexA] at h
    split at h
    · cases h
    · have := ih (by have := hexd_bound c; omega) h
      have := hexd_bound c
      omega
theorem hexA_pos {l : List Int} {n : Int} (hne : l ≠ []) (h48 : l.getD 0 0 ≠ 48) (h : hexA 0 l = some n) : 0 < n := by
  cases l with
  | nil => exact absurd rfl hne
  | cons c l =>
    have hc : c ≠ 48 := by simpa using h48
    rw [hexA] at h
    split at h
    · cases h
    · rename_i hd
      have h1 : 1 ≤ hexd c := by
        unfold hexd at *
        split at hd <;> rename_i h1
        · rw [if_pos h1]; omega
        · split at hd <;> rename_i h2
          · rw [if_neg h1, if_pos h2]; omega
          · omega
      have := hexA_ge (by omega) h
      omega
theorem snoc_of_ne {l : List Int} (h : l ≠ []) : ∃ l' c, l = l' ++ [c] := ⟨l.dropLast, l.getLast h, (List.dropLast_concat_getLast h).symm⟩
theorem hexW_read (k : Nat) : ∀ (l : List Int) (n : Int) (a : List Int) (f : Nat), l.length = k → hexA 0 l = some n → (l = [] ∨ l.getD 0 0 ≠ 48) → a ≠ [] → k ≤ f → hexW f n a = l ++ a := by
  induction k with
  | zero =>
    intro l n a f hl hx _ ha _
    obtain rfl := List.eq_nil_of_length_eq_zero hl
    simp [hexA] at hx
    subst hx
    cases f with
    | zero => rfl
    | succ f => rw [hexW, if_neg (fun h => h.elim (fun h => by omega) ha)]; rfl
  | succ k ih =>
    intro l n a f hl hx h48 ha hf
    have hne : l ≠ [] := fun e => by rw [e] at hl; simp at hl
    have hpos := hexA_pos hne (h48.resolve_left hne) hx
    obtain ⟨l', c, rfl⟩ := snoc_of_ne hne
    rw [hexA_snoc] at hx
    cases hm : hexA 0 l' with
    | none => rw [hm] at hx; cases hx
    | some m =>
      rw [hm, Option.bind_some] at hx
      split at hx
      · cases hx
      · rename_i hd
        have hb := hexd_bound c
        simp only [Option.some.injEq] at hx
        obtain ⟨g, rfl⟩ : ∃ g, f = g + 1 := ⟨f - 1, by omega⟩
        have e1 : n / 16 = m := by omega
        have e2 : n % 16 = hexd c := by omega
        rw [hexW, if_pos (.inl hpos), e1, e2, hexc_hexd hd, ih l' m (c :: a) g (by simpa using hl) hm ?_ (by simp) (by omega)]
        · simp
        · cases l' with
          | nil => exact .inl rfl
          | cons x l' => exact .inr (by simpa using h48)
theorem code_back {l : List Int} {c : Int} (h : code l = some c) : pcode c = l ∧ 0 ≤ c ∧ c ≤ 1114111 := by
  unfold code at h
  split at h
  · cases h
  · rename_i hn
    cases hx : hexA 0 l with
    | none => rw [hx] at h; cases h
    | some n =>
      rw [hx, cap] at h
      split at h
      · cases h
      · rename_i hcap
        simp only [Option.some.injEq] at h
        subst h
        have h0 := hexA_ge (Int.le_refl 0) hx
        have hne : l ≠ [] := fun e => by rw [e] at hn; simp at hn
        refine ⟨?_, h0, by omega⟩
        unfold pcode
        rw [if_neg (by omega), hexW, if_pos (.inr rfl)]
        obtain ⟨l', c, rfl⟩ := snoc_of_ne hne
        rw [hexA_snoc] at hx
        cases hm : hexA 0 l' with
        | none => rw [hm] at hx; cases hx
        | some m =>
          rw [hm, Option.bind_some] at hx
          split at hx
          · cases hx
          · rename_i hd
            have hb := hexd_bound c
            simp only [Option.some.injEq] at hx
            have e1 : n / 16 = m := by omega
            have e2 : n % 16 = hexd c := by omega
            rw [e1, e2, hexc_hexd hd]
            refine hexW_read l'.length l' m [c] 7 rfl hm ?_ (by simp) (by simp at hn; omega)
            cases l' with
            | nil => exact .inl rfl
            | cons x l' => refine .inr fun e => hn (.inr (.inr ⟨by simp, by simpa using e⟩))
theorem hexW_made (f : Nat) : ∀ (n : Int) (a : List Int), 0 ≤ n → n < ((16 ^ f : Nat) : Int) → a ≠ [] → ∃ ds, hexW f n a = ds ++ a ∧ hexA 0 ds = some n ∧ ds.length ≤ f ∧ (ds = [] ∨ ds.getD 0 0 ≠ 48) ∧ ∀ x ∈ ds, 48 ≤ x := by
  induction f with
  | zero =>
    intro n a h0 h1 _
    obtain rfl : n = 0 := by simp at h1; omega
    exact ⟨[], rfl, rfl, by simp, .inl rfl, by simp⟩
  | succ f ih =>
    intro n a h0 h1 ha
    rw [hexW]
    by_cases hn : 0 < n
    · rw [if_pos (.inl hn)]
      have hpw : 16 ^ (f + 1) = 16 ^ f * 16 := Nat.pow_succ _ _
      obtain ⟨ds, e1, e2, e3, e4, e5⟩ := ih (n / 16) (hexc (n % 16) :: a) (by omega) (by rw [hpw] at h1; omega) (by simp)
      have hd := hexd_hexc (d := n % 16) (by omega) (by omega)
      have hg := hexc_ge (d := n % 16) (by omega) (by omega)
      refine ⟨ds ++ [hexc (n % 16)], by rw [e1]; simp, ?_, by simp; omega, ?_, ?_⟩
      · rw [hexA_snoc, e2, Option.bind_some, hd, if_neg (by omega)]
        congr 1; omega
      · cases ds with
        | cons x ds => exact .inr (by simpa using e4)
        | nil =>
          simp [hexA] at e2
          refine .inr ?_
          show hexc (n % 16) ≠ 48
          unfold hexc
          split <;> omega
      · intro x hx
        rcases List.mem_append.1 hx with h | h
        · exact e5 x h
        · simp at h; omega
    · obtain rfl : n = 0 := by omega
      rw [if_neg (fun h => h.elim (fun h => by omega) ha)]
      exact ⟨[], rfl, rfl, by simp, .inl rfl, by simp⟩
theorem pcode_back {c : Int} (h0 : 0 ≤ c) (h1 : c ≤ 1114111) : code (pcode c) = some c ∧ ∀ x ∈ pcode c, 48 ≤ x := by
  have e : pcode c = hexW 7 (c / 16) [hexc (c % 16)] := by unfold pcode; rw [if_neg (by omega), hexW, if_pos (.inr rfl)]
  have hr : hexW 7 (c / 16) [hexc (c % 16)] = hexW 5 (c / 16) [hexc (c % 16)] := by
    obtain ⟨ds, e1, e2, e3, e4, e5⟩ := hexW_made 5 (c / 16) [hexc (c % 16)] (by omega) (by simp; omega) (by simp)
    rw [e1]
    exact hexW_read ds.length ds _ _ 7 rfl e2 e4 (by simp) (by omega)
  obtain ⟨ds, e1, e2, e3, e4, e5⟩ := hexW_made 5 (c / 16) [hexc (c % 16)] (by omega) (by simp; omega) (by simp)
  have hd := hexd_hexc (d := c % 16) (by omega) (by omega)
  have hg := hexc_ge (d := c % 16) (by omega) (by omega)
  rw [e, hr, e1]
  refine ⟨?_, ?_⟩
  · unfold code
    rw [if_neg, hexA_snoc, e2, Option.bind_some, hd, if_neg (by omega), cap, if_neg (by omega)]
    · congr 1; omega
    · simp only [List.length_append, List.length_cons, List.length_nil]
      rintro (h | h | ⟨h, h'⟩)
      · omega
      · omega
      · cases ds with
        | nil => simp at h
        | cons x ds => exact (e4.resolve_left (by simp)) (by simpa using h')
  · intro x hx
    rcases List.mem_append.1 hx with h | h
    · exact e5 x h
    · simp at h; omega
theorem spanA_back {l : List Int} {a b : Int} : ∀ (f k : Nat), spanA l f k = some (a, b) → pspan a b = l := by
  have hone : (code l).map (fun a => (a, a)) = some (a, b) → pspan a b = l := by
    intro h
    cases hc : code l with
    | none => rw [hc] at h; cases h
    | some x =>
      rw [hc, Option.map_some] at h
      simp only [Option.some.injEq, Prod.mk.injEq] at h
      obtain ⟨rfl, rfl⟩ := h
      unfold pspan
      rw [if_pos rfl]
      exact (code_back hc).1
  intro f
  induction f with
  | zero => intro k h; exact hone h
  | succ f ih =>
    intro k h
    rw [spanA] at h
    split at h
    · rename_i hk
      split at h
      · rename_i hdot
        cases hx : code (l.take k) with
        | none => rw [hx] at h; cases h
        | some x =>
          cases hy : code (l.drop (k + 2)) with
          | none => rw [hx, hy] at h; cases h
          | some y =>
            rw [hx, hy, both] at h
            split at h
            · rename_i hlt
              simp only [Option.some.injEq, Prod.mk.injEq] at h
              obtain ⟨rfl, rfl⟩ := h
              obtain ⟨p1, p2, p3⟩ := code_back hx
              obtain ⟨q1, q2, q3⟩ := code_back hy
              unfold pspan
              rw [if_neg (by omega), if_neg (by omega), p1, q1]
              conv => rhs; rw [← List.take_append_drop k l, List.drop_eq_getElem_cons (by omega), List.drop_eq_getElem_cons hk]
              have d1 : l[k]'(by omega) = 46 := by have := hdot.1; simpa [List.getD, show k < l.length by omega] using this
              have d2 : l[k + 1]'hk = 46 := by have := hdot.2; simpa [List.getD, hk] using this
              rw [d1, d2]
              simp
            · cases h
      · exact ih _ h
    · exact hone h
theorem span_back {l : List Int} {a b : Int} (h : span l = some (a, b)) : pspan a b = l := spanA_back _ _ h
theorem spanA_bound {l : List Int} {a b : Int} : ∀ (f k : Nat), spanA l f k = some (a, b) → (0 ≤ a ∧ a ≤ 1114111) ∧ (0 ≤ b ∧ b ≤ 1114111) := by
  have hone : (code l).map (fun a => (a, a)) = some (a, b) → (0 ≤ a ∧ a ≤ 1114111) ∧ (0 ≤ b ∧ b ≤ 1114111) := by
    intro h
    cases hc : code l with
    | none => rw [hc] at h; cases h
    | some x =>
      rw [hc, Option.map_some] at h
      simp only [Option.some.injEq, Prod.mk.injEq] at h
      obtain ⟨rfl, rfl⟩ := h
      exact ⟨(code_back hc).2, (code_back hc).2⟩
  intro f
  induction f with
  | zero => intro k h; exact hone h
  | succ f ih =>
    intro k h
    rw [spanA] at h
    split at h
    · split at h
      · cases hx : code (l.take k) with
        | none => rw [hx] at h; cases h
        | some x =>
          cases hy : code (l.drop (k + 2)) with
          | none => rw [hx, hy] at h; cases h
          | some y =>
            rw [hx, hy, both] at h
            split at h
            · simp only [Option.some.injEq, Prod.mk.injEq] at h
              obtain ⟨rfl, rfl⟩ := h
              exact ⟨(code_back hx).2, (code_back hy).2⟩
            · cases h
      · exact ih _ h
    · exact hone h
theorem span_bound {l : List Int} {a b : Int} (h : span l = some (a, b)) : (0 ≤ a ∧ a ≤ 1114111) ∧ (0 ≤ b ∧ b ≤ 1114111) := spanA_bound _ _ h
theorem decA_lt {l : List Int} : ∀ {n m : Int} (k : Nat), 0 ≤ n → n < ((10 ^ k : Nat) : Int) → decA n l = some m → m < ((10 ^ (k + l.length) : Nat) : Int) := by
  induction l with
  | nil => intro n m k _ h1 h; simp [decA] at h; subst h; simpa using h1
  | cons c l ih =>
    intro n m k h0 h1 h
    rw [decA] at h
    split at h
    · cases h
    · have hpw : 10 ^ (k + 1) = 10 ^ k * 10 := Nat.pow_succ _ _
      have := ih (k + 1) (by omega) (by rw [hpw]; omega) h
      rw [show k + (c :: l).length = k + 1 + l.length by simp; omega]
      exact this
theorem at_mem {l : List Int} {k : Nat} (h : k < l.length) : l.getD k 0 ∈ l := by
  simp only [List.getD, List.getElem?_eq_getElem h, Option.getD_some]; exact List.getElem_mem h
theorem spanA_none {l : List Int} (h : ∀ x ∈ l, 48 ≤ x) : ∀ (f k : Nat), spanA l f k = (code l).map fun a => (a, a) := by
  intro f
  induction f with
  | zero => intro k; rfl
  | succ f ih =>
    intro k
    rw [spanA]
    split
    · rename_i hk
      rw [if_neg (fun e => by have := h _ (at_mem (show k < l.length by omega)); omega)]
      exact ih _
    · rfl
theorem spanA_some {A B : List Int} (h : ∀ x ∈ A, 48 ≤ x) : ∀ (j f k : Nat), k + j = A.length → j < f → spanA (A ++ [46, 46] ++ B) f k = both (code A) (code B) := by
  intro j
  induction j with
  | zero =>
    intro f k hk hf
    obtain ⟨g, rfl⟩ : ∃ g, f = g + 1 := ⟨f - 1, by omega⟩
    obtain rfl : k = A.length := by omega
    rw [spanA, if_pos (by simp), if_pos]
    · congr 1
      · rw [List.append_assoc, List.take_left]
      · congr 1
        rw [List.drop_append_of_le_length (by simp), List.drop_eq_nil_of_le (by simp)]; rfl
    · rw [List.append_assoc]
      constructor <;> simp [List.getD]
  | succ j ih =>
    intro f k hk hf
    obtain ⟨g, rfl⟩ : ∃ g, f = g + 1 := ⟨f - 1, by omega⟩
    have hlt : k < A.length := by omega
    rw [spanA, if_pos (by simp; omega), if_neg, ih g (k + 1) (by omega) (by omega)]
    intro e
    have e1 : (A ++ [46, 46] ++ B).getD k 0 = A.getD k 0 := by rw [List.append_assoc]; simp [List.getD, List.getElem?_append_left hlt]
    have := h _ (at_mem hlt)
    omega
theorem pspan_back {a b : Int} (h0 : 0 ≤ a) (h1 : a ≤ b) (h2 : b ≤ 1114111) : span (pspan a b) = some (a, b) := by
  obtain ⟨p1, p2⟩ := pcode_back (c := a) h0 (by omega)
  obtain ⟨q1, q2⟩ := pcode_back (c := b) (by omega) h2
  unfold pspan span
  by_cases e : a = b
  · subst e
    rw [if_pos rfl, spanA_none p2, p1]; rfl
  · rw [if_neg e, if_neg (by omega), spanA_some p2 (pcode a).length _ 0 (by omega) (by simp), p1, q1, both, if_pos (by omega)]
theorem decA_snoc (l : List Int) (c n : Int) : decA n (l ++ [c]) = (decA n l).bind fun m => if c < 48 ∨ 57 < c then none else some (10 * m + (c - 48)) := by
  induction l generalizing n with
  | nil => simp [decA]
  | cons x l ih =>
    rw [List.cons_append, decA, decA]
    split
    · rfl
    · exact ih _
theorem decA_ge {l : List Int} : ∀ {n m : Int}, 0 ≤ n → decA n l = some m → n ≤ m := by
  induction l with
  | nil => intro n m _ h; simp [decA] at h; omega
  | cons c l ih =>
    intro n m h0 h
    rw [decA] at h
    split at h
    · cases h
    · have := ih (by omega) h
      omega
theorem decA_pos {l : List Int} {n : Int} (hne : l ≠ []) (h48 : l.getD 0 0 ≠ 48) (h : decA 0 l = some n) : 0 < n := by
  cases l with
  | nil => exact absurd rfl hne
  | cons c l =>
    have hc : c ≠ 48 := by simpa using h48
    rw [decA] at h
    split at h
    · cases h
    · have := decA_ge (by omega) h
      omega
theorem decW_read (k : Nat) : ∀ (l : List Int) (n : Int) (a : List Int) (f : Nat), l.length = k → decA 0 l = some n → (l = [] ∨ l.getD 0 0 ≠ 48) → k ≤ f → decW f n a = l ++ a := by
  induction k with
  | zero =>
    intro l n a f hl hx _ _
    obtain rfl := List.eq_nil_of_length_eq_zero hl
    simp [decA] at hx
    subst hx
    cases f with
    | zero => rfl
    | succ f => rw [decW, if_neg (by omega)]; rfl
  | succ k ih =>
    intro l n a f hl hx h48 hf
    have hne : l ≠ [] := fun e => by rw [e] at hl; simp at hl
    have hpos := decA_pos hne (h48.resolve_left hne) hx
    obtain ⟨l', c, rfl⟩ := snoc_of_ne hne
    rw [decA_snoc] at hx
    cases hm : decA 0 l' with
    | none => rw [hm] at hx; cases hx
    | some m =>
      rw [hm, Option.bind_some] at hx
      split at hx
      · cases hx
      · rename_i hd
        simp only [Option.some.injEq] at hx
        obtain ⟨g, rfl⟩ : ∃ g, f = g + 1 := ⟨f - 1, by omega⟩
        have e1 : n / 10 = m := by omega
        have e2 : 48 + n % 10 = c := by omega
        rw [decW, if_pos hpos, e1, e2, ih l' m (c :: a) g (by simpa using hl) hm ?_ (by omega)]
        · simp
        · cases l' with
          | nil => exact .inl rfl
          | cons x l' => exact .inr (by simpa using h48)
theorem decW_made (f : Nat) : ∀ (n : Int) (a : List Int), 0 ≤ n → n < ((10 ^ f : Nat) : Int) → ∃ ds, decW f n a = ds ++ a ∧ decA 0 ds = some n ∧ ds.length ≤ f ∧ (ds = [] ∨ ds.getD 0 0 ≠ 48) ∧ ∀ x ∈ ds, 48 ≤ x := by
  induction f with
  | zero =>
    intro n a h0 h1
    obtain rfl : n = 0 := by simp at h1; omega
    exact ⟨[], rfl, rfl, by simp, .inl rfl, by simp⟩
  | succ f ih =>
    intro n a h0 h1
    rw [decW]
    by_cases hn : 0 < n
    · rw [if_pos hn]
      have hpw : 10 ^ (f + 1) = 10 ^ f * 10 := Nat.pow_succ _ _
      obtain ⟨ds, e1, e2, e3, e4, e5⟩ := ih (n / 10) ((48 + n % 10) :: a) (by omega) (by rw [hpw] at h1; omega)
      refine ⟨ds ++ [48 + n % 10], by rw [e1]; simp, ?_, by simp; omega, ?_, ?_⟩
      · rw [decA_snoc, e2, Option.bind_some, if_neg (by omega)]
        congr 1; omega
      · cases ds with
        | cons x ds => exact .inr (by simpa using e4)
        | nil =>
          simp [decA] at e2
          refine .inr ?_
          show 48 + n % 10 ≠ 48
          omega
      · intro x hx
        rcases List.mem_append.1 hx with h | h
        · exact e5 x h
        · simp at h; omega
    · obtain rfl : n = 0 := by omega
      rw [if_neg (by omega)]
      exact ⟨[], rfl, rfl, by simp, .inl rfl, by simp⟩
theorem digs_back {l : List Int} {n : Int} (h : digs l = some n) : decW 20 n [] = l ∧ 0 < n := by
  unfold digs at h
  split at h
  · cases h
  · rename_i hn
    have hne : l ≠ [] := fun e => by rw [e] at hn; simp at hn
    have h48 : l.getD 0 0 ≠ 48 := fun e => hn (.inr (.inr e))
    refine ⟨?_, decA_pos hne h48 h⟩
    have := decW_read l.length l n [] 20 rfl h (.inr h48) (by omega)
    simpa using this
theorem whole_back {l : List Int} {n : Int} (h : whole l = some n) : pwhole n = l := by
  unfold whole at h
  split at h
  · rename_i e
    simp only [Option.some.injEq] at h
    subst h
    rw [e]; rfl
  · split at h
    · rename_i h45
      cases hd : digs (l.drop 1) with
      | none => rw [hd] at h; cases h
      | some m =>
        rw [hd, Option.map_some] at h
        simp only [Option.some.injEq] at h
        subst h
        obtain ⟨e1, e2⟩ := digs_back hd
        unfold pwhole
        rw [if_neg (by omega), if_pos (by omega), Int.neg_neg, e1]
        cases l with
        | nil => simp at h45
        | cons x l =>
          have : x = 45 := by simpa using h45.2
          rw [this]; rfl
    · obtain ⟨e1, e2⟩ := digs_back h
      unfold pwhole
      rw [if_neg (by omega), if_neg (by omega), e1]
theorem digs_bound {l : List Int} {n : Int} (h : digs l = some n) : 0 ≤ n ∧ n < 1000000000 := by
  unfold digs at h
  split at h
  · cases h
  · rename_i hn
    refine ⟨decA_ge (Int.le_refl 0) h, ?_⟩
    have h1 := decA_lt 0 (Int.le_refl 0) (by simp) h
    have h2 : 10 ^ (0 + l.length) ≤ 10 ^ 9 := Nat.pow_le_pow_right (by omega) (by omega)
    omega
theorem whole_bound {l : List Int} {n : Int} (h : whole l = some n) : -1000000000 < n ∧ n < 1000000000 := by
  unfold whole at h
  split at h
  · simp only [Option.some.injEq] at h
    omega
  · split at h
    · cases hd : digs (l.drop 1) with
      | none => rw [hd] at h; cases h
      | some m =>
        rw [hd, Option.map_some] at h
        simp only [Option.some.injEq] at h
        have := digs_bound hd
        omega
    · have := digs_bound h
      omega
theorem digs_made {n : Int} (h0 : 0 < n) (h1 : n < 1000000000) : digs (decW 20 n []) = some n ∧ (decW 20 n []).getD 0 0 ≠ 45 ∧ (decW 20 n []).getD 0 0 ≠ 48 := by
  obtain ⟨ds, e1, e2, e3, e4, e5⟩ := decW_made 9 n [] (by omega) (by simp; omega)
  have hr := decW_read ds.length ds n [] 20 rfl e2 e4 (by omega)
  rw [List.append_nil] at hr
  rw [hr]
  have hne : ds ≠ [] := fun e => by rw [e] at e2; simp [decA] at e2; omega
  have hl : 0 < ds.length := List.length_pos_iff.2 hne
  have h48 := e4.resolve_left hne
  refine ⟨?_, ?_, h48⟩
  · unfold digs
    rw [if_neg (by omega)]
    exact e2
  · have := e5 _ (at_mem hl); omega
theorem pwhole_back {n : Int} (h0 : -1000000000 < n) (h1 : n < 1000000000) : whole (pwhole n) = some n := by
  unfold pwhole
  by_cases hn : n = 0
  · subst hn; rfl
  · rw [if_neg hn]
    by_cases hm : n < 0
    · obtain ⟨e1, _, e2⟩ := digs_made (n := -n) (by omega) (by omega)
      rw [if_pos hm]
      unfold whole
      rw [if_neg (by simp), if_pos ⟨by simp, rfl⟩]
      show (digs (decW 20 (-n) [])).map _ = _
      rw [e1, Option.map_some, Int.neg_neg]
    · obtain ⟨e1, e3, e2⟩ := digs_made (n := n) (by omega) h1
      rw [if_neg hm]
      unfold whole
      rw [if_neg (fun e => by rw [e] at e2; exact e2 rfl), if_neg (fun e => e3 e.2), e1]
end Go.Proofs.YtceflkeaenepcaaGreatDoor.Scn
