/- Names: orders of lists by an order of their items; labels; plain. -/
import Derived.Test.YtcnmmghkjblemaaDoorProg
namespace Go.Proofs.YtcnmmghkjblemaaDoor
namespace Na

/-- An order told by -1, 0 and 1. -/
structure Ord {α : Type} (c : α → α → Int) : Prop where
  rng : ∀ a b, c a b = -1 ∨ c a b = 0 ∨ c a b = 1
  neg : ∀ a b, c b a = - c a b
  eqv : ∀ a b d, c a b = 0 → c a d = c b d
  lt : ∀ a b d, c a b = -1 → c b d = -1 → c a d = -1
section
variable {α : Type} {c : α → α → Int}
theorem Ord.refl (h : Ord c) (a : α) : c a a = 0 := by have := h.neg a a; omega
theorem Ord.eqv2 (h : Ord c) (a b d : α) (e : c a b = 0) : c d a = c d b := by
  rw [h.neg a d, h.neg b d, h.eqv a b d e]
theorem Ord.le_le (h : Ord c) (a b d : α) (h1 : c a b ≤ 0) (h2 : c b d ≤ 0) : c a d ≤ 0 := by
  have e := h.rng a b
  have f := h.rng b d
  rcases e with e | e | e
  · rcases f with f | f | f
    · rw [h.lt a b d e f]; decide
    · rw [← h.eqv2 b d a f, e]; decide
    · omega
  · rw [h.eqv a b d e]; exact h2
  · omega
theorem Ord.lt_le (h : Ord c) (a b d : α) (h1 : c a b < 0) (h2 : c b d ≤ 0) : c a d < 0 := by
  have e := h.rng a b
  have f := h.rng b d
  have e1 : c a b = -1 := by omega
  rcases f with f | f | f
  · rw [h.lt a b d e1 f]; decide
  · rw [← h.eqv2 b d a f, e1]; decide
  · omega
theorem Ord.le_lt (h : Ord c) (a b d : α) (h1 : c a b ≤ 0) (h2 : c b d < 0) : c a d < 0 := by
  have e := h.rng a b
  have f := h.rng b d
  have f1 : c b d = -1 := by omega
  rcases e with e | e | e
  · rw [h.lt a b d e f1]; decide
  · rw [h.eqv a b d e, f1]; decide
  · omega
/-- Lists, item by item; a list ahead of a longer one that it begins. -/
def lex (c : α → α → Int) : List α → List α → Int
  | [], [] => 0
  | [], _ :: _ => -1
  | _ :: _, [] => 1
  | x :: a, y :: b => if c x y = 0 then lex c a b else c x y
/-- Does it begin so? -/
def pre (c : α → α → Int) : List α → List α → Bool
  | _, [] => true
  | [], _ :: _ => false
  | x :: a, y :: b => decide (c x y = 0) && pre c a b
theorem lex_ord (h : Ord c) : Ord (lex c) := by
  refine ⟨?_, ?_, ?_, ?_⟩
  · intro a
    induction a with
    | nil => intro b; cases b <;> simp [lex]
    | cons x a ih =>
      intro b
      cases b with
      | nil => simp [lex]
      | cons y b =>
        unfold lex
        split
        · exact ih b
        · exact h.rng x y
  · intro a
    induction a with
    | nil => intro b; cases b <;> simp [lex]
    | cons x a ih =>
      intro b
      cases b with
      | nil => simp [lex]
      | cons y b =>
        unfold lex
        have := h.neg x y
        by_cases e : c x y = 0
        · rw [if_pos e, if_pos (by omega)]; exact ih b
        · rw [if_neg e, if_neg (by omega)]; exact this
  · intro a
    induction a with
    | nil => intro b d e; cases b with
      | nil => rfl
      | cons y b => simp [lex] at e
    | cons x a ih =>
      intro b d e
      cases b with
      | nil => simp [lex] at e
      | cons y b =>
        unfold lex at e
        by_cases e1 : c x y = 0
        · rw [if_pos e1] at e
          cases d with
          | nil => rfl
          | cons z d =>
            unfold lex
            rw [h.eqv x y z e1, ih b d e]
        · rw [if_neg e1] at e; exact absurd e e1
  · intro a
    induction a with
    | nil =>
      intro b d e f
      cases d with
      | nil =>
        cases b with
        | nil => simp [lex] at e
        | cons y b => simp [lex] at f
      | cons z d => rfl
    | cons x a ih =>
      intro b d e f
      cases b with
      | nil => simp [lex] at e
      | cons y b =>
        cases d with
        | nil => simp [lex] at f
        | cons z d =>
          unfold lex at e f ⊢
          by_cases e1 : c x y = 0
          · rw [if_pos e1] at e
            by_cases f1 : c y z = 0
            · rw [if_pos f1] at f
              rw [h.eqv x y z e1, if_pos f1]
              exact ih b d e f
            · rw [if_neg f1] at f
              rw [h.eqv x y z e1, if_neg f1]
              exact f
          · rw [if_neg e1] at e
            by_cases f1 : c y z = 0
            · rw [← h.eqv2 y z x f1, if_neg e1]
              exact e
            · rw [if_neg f1] at f
              have := h.lt x y z e f
              rw [this]
              rfl
theorem pre_refl (h : Ord c) (a : List α) : pre c a a = true := by
  induction a with
  | nil => rfl
  | cons x a ih => unfold pre; rw [h.refl x, ih]; rfl
theorem pre_eq (h : Ord c) : ∀ a b : List α, lex c a b = 0 → pre c a b = true
  | [], [], _ => rfl
  | [], _ :: _, e => by simp [lex] at e
  | _ :: _, [], e => by simp [lex] at e
  | x :: a, y :: b, e => by
    unfold lex at e
    unfold pre
    by_cases e1 : c x y = 0
    · rw [if_pos e1] at e
      rw [decide_eq_true e1, pre_eq h a b e]; rfl
    · rw [if_neg e1] at e; exact absurd e e1
/-- What begins so lies together. -/
theorem pre_mid (h : Ord c) : ∀ d a b e : List α, lex c a b ≤ 0 → lex c b e ≤ 0 → pre c a d = true → pre c e d = true → pre c b d = true
  | [], _, b, _, _, _, _, _ => by cases b <;> rfl
  | z :: d, [], _, _, _, _, p, _ => by simp [pre] at p
  | z :: d, _ :: _, _, [], _, _, _, p => by simp [pre] at p
  | z :: d, x :: a, [], _ :: _, l, _, _, _ => by simp [lex] at l
  | z :: d, x :: a, y :: b, u :: e, l1, l2, p1, p2 => by
    unfold pre at p1 p2 ⊢
    simp only [Bool.and_eq_true, decide_eq_true_eq] at p1 p2 ⊢
    obtain ⟨q1, r1⟩ := p1
    obtain ⟨q2, r2⟩ := p2
    have hxy : c x y ≤ 0 := by
      unfold lex at l1
      by_cases e1 : c x y = 0
      · omega
      · rw [if_neg e1] at l1; exact l1
    have hyu : c y u ≤ 0 := by
      unfold lex at l2
      by_cases e1 : c y u = 0
      · omega
      · rw [if_neg e1] at l2; exact l2
    have hyz : c y z = 0 := by
      have h1 : c y z ≤ 0 := by rw [← h.eqv2 u z y q2]; exact hyu
      have h2 : c z y ≤ 0 := by rw [← h.eqv x z y q1]; exact hxy
      have := h.neg y z
      omega
    have hxy0 : c x y = 0 := by
      rw [h.eqv x z y q1]
      have := h.neg y z
      omega
    have hyu0 : c y u = 0 := by rw [h.eqv2 u z y q2]; exact hyz
    unfold lex at l1 l2
    rw [if_pos hxy0] at l1
    rw [if_pos hyu0] at l2
    exact ⟨hyz, pre_mid h d a b e l1 l2 r1 r2⟩
theorem lex_more (h : Ord c) (a : List α) (x : α) (b : List α) : lex c a (a ++ x :: b) = -1 := by
  induction a with
  | nil => rfl
  | cons y a ih => rw [List.cons_append]; unfold lex; rw [if_pos (h.refl y)]; exact ih
theorem pre_more (h : Ord c) (a b : List α) : pre c (a ++ b) a = true := by
  induction a with
  | nil => cases b <;> rfl
  | cons y a ih => rw [List.cons_append]; unfold pre; rw [h.refl y, ih]; rfl
theorem pre_nil (a : List α) : pre c a [] = true := by cases a <;> rfl
end
/-- A to Z as a to z. -/
def sm (x : Int) : Int := if 65 ≤ x ∧ x ≤ 90 then x + 32 else x
def byt (x y : Int) : Int := if sm x < sm y then -1 else if sm y < sm x then 1 else 0
theorem byt_ord : Ord byt := by
  refine ⟨fun a b => ?_, fun a b => ?_, fun a b d => ?_, fun a b d => ?_⟩ <;> unfold byt <;> (repeat' split) <;> omega
def lbl : List Int → List Int → Int := lex byt
theorem lbl_ord : Ord lbl := lex_ord byt_ord
def cmpL : List (List Int) → List (List Int) → Int := lex lbl
theorem cmpL_ord : Ord cmpL := lex_ord lbl_ord
/-- What stands between the full stops. -/
def spl : List Int → List (List Int)
  | [] => [[]]
  | x :: l => if x = 46 then [] :: spl l else match spl l with
    | [] => [[x]]
    | a :: r => (x :: a) :: r
def lab (s : List Int) : List (List Int) := if s = [] then [] else spl s
def joi : List (List Int) → List Int
  | [] => []
  | [a] => a
  | a :: b :: r => a ++ 46 :: joi (b :: r)
theorem spl_ne (s : List Int) : spl s ≠ [] := by
  cases s with
  | nil => simp [spl]
  | cons x l => unfold spl; split <;> (try simp) <;> (split <;> simp)
theorem spl_cons {x : Int} {l : List Int} (hx : x ≠ 46) : ∃ a r, spl l = a :: r ∧ spl (x :: l) = (x :: a) :: r := by
  cases e : spl l with
  | nil => exact absurd e (spl_ne l)
  | cons a r => exact ⟨a, r, rfl, by unfold spl; rw [if_neg hx, e]⟩
theorem joi_cons {a : List Int} {r : List (List Int)} (h : r ≠ []) : joi (a :: r) = a ++ 46 :: joi r := by
  cases r with
  | nil => exact absurd rfl h
  | cons b r => rfl
theorem joi_spl (s : List Int) : joi (spl s) = s := by
  induction s with
  | nil => rfl
  | cons x l ih =>
    by_cases hx : x = 46
    · subst hx
      unfold spl
      rw [if_pos rfl, joi_cons (spl_ne l), ih]; rfl
    · obtain ⟨a, r, e1, e2⟩ := spl_cons (l := l) hx
      rw [e2]
      rw [e1] at ih
      cases r with
      | nil => simp only [joi] at ih ⊢; rw [ih]
      | cons b r => simp only [joi] at ih ⊢; rw [List.cons_append, ih]
theorem joi_lab (s : List Int) : joi (lab s) = s := by
  unfold lab
  split
  · rename_i h; rw [h]; rfl
  · exact joi_spl s
theorem spl_free (s : List Int) : ∀ a ∈ spl s, ∀ x ∈ a, x ≠ 46 := by
  induction s with
  | nil => simp [spl]
  | cons x l ih =>
    by_cases hx : x = 46
    · subst hx
      unfold spl
      rw [if_pos rfl]
      intro a ha
      rcases List.mem_cons.1 ha with rfl | ha
      · intro y hy; cases hy
      · exact ih a ha
    · obtain ⟨a, r, e1, e2⟩ := spl_cons (l := l) hx
      rw [e2]
      intro b hb
      rcases List.mem_cons.1 hb with rfl | hb
      · intro y hy
        rcases List.mem_cons.1 hy with rfl | hy
        · exact hx
        · exact ih a (by rw [e1]; exact List.mem_cons_self) y hy
      · exact ih b (by rw [e1]; exact List.mem_cons_of_mem _ hb)
theorem spl_one {a : List Int} (h : ∀ x ∈ a, x ≠ 46) : spl a = [a] := by
  induction a with
  | nil => rfl
  | cons x l ih =>
    have := ih (fun y hy => h y (List.mem_cons_of_mem _ hy))
    unfold spl
    rw [if_neg (h x List.mem_cons_self), this]
theorem spl_dot (s : List Int) : spl (46 :: s) = [] :: spl s := by rw [spl]; rfl
theorem spl_app {a s : List Int} (h : ∀ x ∈ a, x ≠ 46) : spl (a ++ 46 :: s) = a :: spl s := by
  induction a with
  | nil => exact spl_dot s
  | cons x l ih =>
    have := ih (fun y hy => h y (List.mem_cons_of_mem _ hy))
    rw [List.cons_append]
    obtain ⟨a, r, e1, e2⟩ := spl_cons (l := l ++ 46 :: s) (h x List.mem_cons_self)
    rw [e2]
    rw [e1] at this
    obtain ⟨rfl, rfl⟩ := List.cons.inj this
    rfl
theorem spl_joi : ∀ {l : List (List Int)}, l ≠ [] → (∀ a ∈ l, ∀ x ∈ a, x ≠ 46) → spl (joi l) = l
  | [], h, _ => absurd rfl h
  | [a], _, h => spl_one (h a List.mem_cons_self)
  | a :: b :: r, _, h => by
    show spl (a ++ 46 :: joi (b :: r)) = _
    rw [spl_app (h a List.mem_cons_self), spl_joi (l := b :: r) (by simp) (fun c hc => h c (List.mem_cons_of_mem _ hc))]
/-- 20.4. -/
def par (s : List Int) : List Int := joi (lab s).tail
theorem lab_par {s : List Int} (h : par s ≠ [] ∨ (lab s).length ≠ 2) : lab (par s) = (lab s).tail := by
  by_cases hs : s = []
  · subst hs; rfl
  have e : lab s = spl s := by unfold lab; rw [if_neg hs]
  have hf : ∀ a ∈ (lab s).tail, ∀ x ∈ a, x ≠ 46 := fun a ha => spl_free s a (by rw [← e]; exact List.mem_of_mem_tail ha)
  cases ht : (lab s).tail with
  | nil => unfold par; rw [ht]; rfl
  | cons a r =>
    have hj : spl (par s) = a :: r := by unfold par; rw [ht]; exact spl_joi (by simp) (by rw [← ht]; exact hf)
    by_cases hp : par s = []
    · exfalso
      rw [hp] at hj
      simp only [spl, List.cons.injEq] at hj
      obtain ⟨rfl, rfl⟩ := hj
      have hl : (lab s).tail.length = 1 := by rw [ht]; rfl
      rw [List.length_tail] at hl
      have : (lab s).length = 2 := by omega
      rcases h with h | h
      · exact h hp
      · exact h this
    · unfold lab; rw [if_neg hp]; exact hj
/-- 20.3. -/
def cmp (s t : List Int) : Int := cmpL (lab s).reverse (lab t).reverse
def bel (s t : List Int) : Bool := pre lbl (lab s).reverse (lab t).reverse
theorem lab_ne {s : List Int} (h : s ≠ []) : ∃ a l, lab s = a :: l := by
  unfold lab; rw [if_neg h]
  cases e : spl s with
  | nil => exact absurd e (spl_ne s)
  | cons a l => exact ⟨a, l, rfl⟩
theorem par_up {s : List Int} (hs : s ≠ []) (h : par s ≠ [] ∨ (lab s).length ≠ 2) : cmp (par s) s = -1 ∧ bel s (par s) = true := by
  obtain ⟨a, l, e⟩ := lab_ne hs
  have := lab_par h
  unfold cmp bel
  rw [this, e, List.tail_cons, List.reverse_cons]
  exact ⟨lex_more lbl_ord l.reverse a [], pre_more lbl_ord l.reverse [a]⟩
end Na
end Go.Proofs.YtcnmmghkjblemaaDoor
