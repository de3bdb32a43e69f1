import Derived.Test.YtceflkeaenepcaaGreatDoorN4
namespace Go.Proofs.YtceflkeaenepcaaGreatDoor.Cn
theorem getD_at {l : List Rec} {k : Nat} (h : k < l.length) : l.getD k none = l[k] := by simp [List.getD, h]
theorem twiceA_none {l : List Rec} : ∀ (n i : Nat), l.length - i = n → i ≤ l.length → (twiceA l i (l.drop i) = Option.none ↔ ∀ j, i ≤ j → (hj : j < l.length) → ∀ k, (hk : k < j) → clash l[k] l[j] = false)
  | 0, i, hn, hi => by
    rw [List.drop_eq_nil_of_le (by omega), twiceA]
    exact ⟨fun _ j a b => by omega, fun _ => rfl⟩
  | n + 1, i, hn, hi => by
    have hl : i < l.length := by omega
    rw [List.drop_eq_getElem_cons hl, twiceA]
    have ih := twiceA_none (l := l) n (i + 1) (by omega) hl
    have hany : ((l.take i).any fun k => clash k l[i]) = true ↔ ∃ k, ∃ hk : k < i, clash l[k] l[i] = true := by
      rw [List.any_eq_true]
      constructor
      · rintro ⟨x, hx, hc⟩
        obtain ⟨k, hk, rfl⟩ := List.mem_take_iff_getElem.1 hx
        exact ⟨k, by omega, hc⟩
      · rintro ⟨k, hk, hc⟩
        exact ⟨l[k], List.mem_take_iff_getElem.2 ⟨k, by omega, rfl⟩, hc⟩
    split
    · next h =>
      obtain ⟨k, hk, hc⟩ := hany.1 h
      exact ⟨fun h => (nomatch h), fun h => by rw [h i (Nat.le_refl _) hl k hk] at hc; cases hc⟩
    · next h =>
      rw [ih]
      constructor
      · intro h2 j hij hj k hk
        rcases Nat.eq_or_lt_of_le hij with rfl | hij
        · exact Bool.eq_false_iff.2 fun hc => h (hany.2 ⟨k, hk, hc⟩)
        · exact h2 j hij hj k hk
      · exact fun h2 j hij hj k hk => h2 j (by omega) hj k hk
theorem rightA_none : ∀ (l : List Rec) (i : Nat), rightA i l = Option.none ↔ ∀ r ∈ l, right r = 0
  | [], _ => ⟨fun _ r hr => absurd hr (by simp), fun _ => rfl⟩
  | x :: l, i => by
    rw [rightA, List.forall_mem_cons]
    split
    · next h => rw [rightA_none l]; exact ⟨fun a => ⟨h, a⟩, fun a => a.2⟩
    · next h => exact ⟨fun a => (nomatch a), fun a => absurd a.1 h⟩
theorem check6_iff {l : List Rec} : (check6 l).2 = 0 ↔ l.length ≤ 4096 ∧ (∀ r ∈ l, right r = 0) ∧ l.Pairwise fun a b => clash a b = false := by
  have ht := twiceA_none (l := l) l.length 0 (by omega) (by omega)
  rw [List.drop_zero] at ht
  have hr := rightA_none l 0
  rw [List.pairwise_iff_getElem]
  unfold check6
  split
  · next h => exact ⟨fun a => absurd a (by decide), fun a => by omega⟩
  · next h =>
    split
    · next x hx =>
      refine ⟨fun a => absurd a (rightA_err _ _ _ hx), fun a => ?_⟩
      rw [hr.2 a.2.1] at hx
      cases hx
    · next hx =>
      split
      · next i hi =>
        refine ⟨fun a => absurd a (show ¬ (62 : Int) = 0 by decide), fun a => ?_⟩
        rw [ht.2 fun j _ hj k hk => a.2.2 k j (by omega) hj hk] at hi
        cases hi
      · next hi => exact ⟨fun _ => ⟨by omega, hr.1 hx, fun k j hk hj h => ht.1 hi j (by omega) hj k h⟩, fun _ => rfl⟩
theorem check6_zero {l : List Rec} (h : (check6 l).2 = 0) : check6 l = (0, 0) := by
  unfold check6 at h ⊢
  split
  · next h' => rw [if_pos h'] at h; exact absurd h (by decide)
  · next h' =>
    rw [if_neg h'] at h
    split
    · next x hx => simp only [hx] at h; exact absurd h (rightA_err _ _ _ hx)
    · next hx =>
      simp only [hx] at h
      split
      · next i hi => simp only [hi] at h; exact absurd h (show ¬ (62 : Int) = 0 by decide)
      · rfl
theorem findA_hit (f c : Int) : ∀ (l : List Rec) (i : Nat), 0 ≤ findA f c i l → ∃ k, ∃ hk : k < l.length, findA f c i l = (i + k : Nat) ∧ fam l[k].kind = f ∧ speaks l[k] c = true
  | [], i, h => by rw [findA] at h; omega
  | r :: l, i, h => by
    rw [findA] at h ⊢
    split
    · next hr => exact ⟨0, by simp, by simp, hr.1, hr.2⟩
    · next hr =>
      rw [if_neg hr] at h
      obtain ⟨k, hk, h1, h2, h3⟩ := findA_hit f c l (i + 1) h
      exact ⟨k + 1, by simp; omega, by rw [h1]; congr 1; omega, h2, h3⟩
theorem findA_some (f c : Int) : ∀ (l : List Rec) (i : Nat), (∃ r ∈ l, fam r.kind = f ∧ speaks r c = true) → 0 ≤ findA f c i l
  | [], i, ⟨r, hr, _⟩ => by cases hr
  | x :: l, i, ⟨r, hr, h1, h2⟩ => by
    rw [findA]
    split
    · omega
    · next hx =>
      rcases List.mem_cons.1 hr with rfl | hr
      · exact absurd ⟨h1, h2⟩ hx
      · exact findA_some f c l (i + 1) ⟨r, hr, h1, h2⟩
theorem hit_some {l : List Rec} {f c : Int} {r : Rec} (h : hit l f c = some r) : r ∈ l ∧ fam r.kind = f ∧ speaks r c = true := by
  unfold hit at h
  split at h
  · cases h
  · next hf =>
    cases h
    unfold find at hf ⊢
    split at hf
    · omega
    · next hg =>
      rw [if_neg hg]
      obtain ⟨k, hk, h1, h2, h3⟩ := findA_hit f c l 0 (by omega)
      rw [h1, show ((0 + k : Nat) : Int).toNat = k by omega, getD_at hk]
      exact ⟨List.getElem_mem hk, h2, h3⟩
theorem once {l : List Rec} (h : (check6 l).2 = 0) {f c : Int} {a b : Rec} (ha : a ∈ l) (hb : b ∈ l) (fa : fam a.kind = f) (fb : fam b.kind = f) (sa : speaks a c = true) (sb : speaks b c = true) : a = b := by
  obtain ⟨_, hr, hp⟩ := check6_iff.1 h
  rw [List.pairwise_iff_getElem] at hp
  have hk : ∀ {x : Rec}, speaks x c = true → x.kind ≠ 15 := fun hx => by
    unfold speaks at hx
    exact (of_decide_eq_true hx).1
  obtain ⟨i, hi, rfl⟩ := List.getElem_of_mem ha
  obtain ⟨j, hj, rfl⟩ := List.getElem_of_mem hb
  rcases Nat.lt_trichotomy i j with h' | rfl | h'
  · have := hp i j hi hj h'
    rw [Bool.eq_false_iff] at this
    exact absurd ((clash_iff (hr _ ha) (hr _ hb) (fa.trans fb.symm) (hk sa) (hk sb)).2 ⟨c, sa, sb⟩) this
  · rfl
  · have := hp j i hj hi h'
    rw [Bool.eq_false_iff] at this
    exact absurd ((clash_iff (hr _ hb) (hr _ ha) (fb.trans fa.symm) (hk sb) (hk sa)).2 ⟨c, sb, sa⟩) this
theorem hit_iff {l : List Rec} (h : (check6 l).2 = 0) {f c : Int} (hf : f ≠ 10 ∧ f ≠ 0) (r : Rec) : hit l f c = some r ↔ r ∈ l ∧ fam r.kind = f ∧ speaks r c = true := by
  refine ⟨hit_some, fun ⟨h1, h2, h3⟩ => ?_⟩
  have hs := findA_some f c l 0 ⟨r, h1, h2, h3⟩
  have he : hit l f c = some (l.getD (find l f c).toNat none) := by
    unfold hit
    rw [if_neg]
    unfold find
    rw [if_neg (by omega)]
    omega
  obtain ⟨g1, g2, g3⟩ := hit_some he
  rw [he, once h g1 h1 g2 h2 g3 h3]
theorem hit_none {l : List Rec} {f c : Int} (hf : f ≠ 10 ∧ f ≠ 0) (h : hit l f c = Option.none) : ∀ r ∈ l, fam r.kind = f → speaks r c = false := by
  intro r hr h2
  refine Bool.eq_false_iff.2 fun h3 => ?_
  have hs := findA_some f c l 0 ⟨r, hr, h2, h3⟩
  unfold hit at h
  rw [if_neg] at h
  · cases h
  · unfold find
    rw [if_neg (by omega)]
    omega
theorem hit_perm {l m : List Rec} (h : (check6 l).2 = 0) (hm : (check6 m).2 = 0) (hlm : ∀ r, r ∈ l ↔ r ∈ m) {f c : Int} (hf : f ≠ 10 ∧ f ≠ 0) : hit l f c = hit m f c := by
  cases e : hit l f c with
  | some r =>
    obtain ⟨h1, h2, h3⟩ := hit_some e
    exact ((hit_iff hm hf r).2 ⟨(hlm r).1 h1, h2, h3⟩).symm
  | none =>
    cases e2 : hit m f c with
    | none => rfl
    | some r =>
      obtain ⟨h1, h2, h3⟩ := hit_some e2
      rw [(hit_iff h hf r).2 ⟨(hlm r).2 h1, h2, h3⟩] at e
      cases e
end Go.Proofs.YtceflkeaenepcaaGreatDoor.Cn
namespace Go.Proofs.YtceflkeaenepcaaGreatDoor.Cn
def sameTo (a b : Rec) : Prop := a.kind = 7 ∧ b.kind = 7 ∧ a.to.getD 0 0 = b.to.getD 0 0 ∧ a.to.getD 1 0 = b.to.getD 1 0
theorem pair_iff {l : List Rec} {i : Nat} {r : Rec} (h7 : r.kind = 7) : pair l i r = true ↔ pair l 0 r = true ∧ ∀ k ∈ l.take i, ¬ sameTo k r := by
  unfold pair
  rw [Bool.and_eq_true, Bool.and_eq_true]
  have h0 : (!((l.take 0).any fun k => decide (k.kind = 7 ∧ k.to.getD 0 0 = r.to.getD 0 0 ∧ k.to.getD 1 0 = r.to.getD 1 0))) = true := by simp
  have hi : (!((l.take i).any fun k => decide (k.kind = 7 ∧ k.to.getD 0 0 = r.to.getD 0 0 ∧ k.to.getD 1 0 = r.to.getD 1 0))) = true ↔ ∀ k ∈ l.take i, ¬ sameTo k r := by
    rw [Bool.not_eq_true', Bool.eq_false_iff, Ne, List.any_eq_true]
    constructor
    · exact fun h k hk ⟨a, _, b, c⟩ => h ⟨k, hk, decide_eq_true ⟨a, b, c⟩⟩
    · rintro h ⟨k, hk, hd⟩
      obtain ⟨a, b, c⟩ := of_decide_eq_true hd
      exact h k hk ⟨a, h7, b, c⟩
  rw [hi]
  exact ⟨fun ⟨a, b⟩ => ⟨⟨a, h0⟩, b⟩, fun ⟨⟨a, _⟩, b⟩ => ⟨a, b⟩⟩
def recF (l : List Rec) (r : Rec) (b : Bool) : Int :=
  if fam r.kind ≠ 2 ∧ fam r.kind ≠ 3 then 0
  else if covers r 0 127 then 70
  else if covers r 4352 4370 || covers r 4449 4469 || covers r 4520 4546 || covers r 44032 55203 then 71
  else if r.kind = 7 ∧ ((jl (r.to.getD 0 0) && jv (r.to.getD 1 0)) || (syl (r.to.getD 0 0) && decide ((r.to.getD 0 0 - 44032) % 28 = 0) && jt (r.to.getD 1 0))) = true then 71
  else if fam r.kind = 2 then 0
  else if (full l r.lo).2 ≠ 0 then (full l r.lo).2
  else if fallsA l (full l r.lo).1 then 75
  else if b = true then 74
  else 0
theorem record_F (l : List Rec) (i : Nat) (r : Rec) : record l i r = recF l r (decide (r.kind = 7 ∧ pair l i r = false)) := by
  unfold record recF
  simp only [decide_eq_true_eq]
theorem recF_two {l : List Rec} {r : Rec} (hf : fam r.kind = 3) : (recF l r true = recF l r false ∧ recF l r false ≠ 0) ∨ (recF l r true = 74 ∧ recF l r false = 0) := by
  unfold recF
  have h1 : ¬ (fam r.kind ≠ 2 ∧ fam r.kind ≠ 3) := fun h => h.2 hf
  have h2 : ¬ fam r.kind = 2 := by omega
  simp only [if_neg h1, if_neg h2, if_true]
  by_cases c1 : covers r 0 127 = true
  · simp [c1]
  · simp only [if_neg c1]
    by_cases c2 : (covers r 4352 4370 || covers r 4449 4469 || covers r 4520 4546 || covers r 44032 55203) = true
    · simp only [if_pos c2]; exact .inl ⟨trivial, by decide⟩
    · simp only [if_neg c2]
      by_cases c3 : r.kind = 7 ∧ ((jl (r.to.getD 0 0) && jv (r.to.getD 1 0)) || (syl (r.to.getD 0 0) && decide ((r.to.getD 0 0 - 44032) % 28 = 0) && jt (r.to.getD 1 0))) = true
      · simp only [if_pos c3]; exact .inl ⟨trivial, by decide⟩
      · simp only [if_neg c3]
        by_cases c4 : (full l r.lo).2 = 0
        · simp only [if_neg (show ¬ (full l r.lo).2 ≠ 0 from fun h => h c4)]
          by_cases c5 : fallsA l (full l r.lo).1 = true
          · simp only [if_pos c5]; exact .inl ⟨trivial, by decide⟩
          · simp only [if_neg c5]; exact .inr ⟨trivial, by simp⟩
        · simp only [if_pos (show (full l r.lo).2 ≠ 0 from c4)]; exact .inl ⟨trivial, c4⟩
theorem record_iff {l : List Rec} {i : Nat} {r : Rec} : record l i r = 0 ↔ record l 0 r = 0 ∧ ∀ k ∈ l.take i, ¬ sameTo k r := by
  rw [record_F, record_F]
  by_cases h7 : r.kind = 7
  · have hp := pair_iff (l := l) (i := i) h7
    have hf : fam r.kind = 3 := by rw [h7]; decide
    have e : ∀ i, decide (r.kind = 7 ∧ pair l i r = false) = !(pair l i r) := fun i => by cases pair l i r <;> simp [h7]
    rw [e, e]
    rcases recF_two (l := l) hf with ⟨h1, h2⟩ | ⟨h1, h2⟩
    · have : ∀ b, recF l r b ≠ 0 := fun b => by cases b <;> simp [h1, h2]
      exact ⟨fun a => absurd a (this _), fun a => absurd a.1 (this _)⟩
    · have : ∀ b, recF l r b = 0 ↔ b = false := fun b => by cases b <;> simp [h1, h2]
      rw [this, this, Bool.not_eq_false', Bool.not_eq_false']
      exact hp
  · have e : ∀ i, decide (r.kind = 7 ∧ pair l i r = false) = false := fun i => by simp [h7]
    rw [e, e]
    exact ⟨fun a => ⟨a, fun k _ s => h7 s.2.1⟩, fun a => a.1⟩
theorem recordA_none {l : List Rec} : ∀ (m : List Rec) (i : Nat), recordA l i m = Option.none ↔ ∀ j, (hj : j < m.length) → record l (i + j) m[j] = 0
  | [], i => ⟨fun _ j hj => absurd hj (by simp), fun _ => rfl⟩
  | r :: m, i => by
    rw [recordA]
    split
    · next h =>
      rw [recordA_none m]
      constructor
      · intro h2 j hj
        cases j with
        | zero => exact h
        | succ j =>
          have := h2 j (by simpa using hj)
          rwa [show i + 1 + j = i + (j + 1) by omega] at this
      · intro h2 j hj
        have := h2 (j + 1) (by simpa using hj)
        rwa [show i + (j + 1) = i + 1 + j by omega] at this
    · next h => exact ⟨fun a => (nomatch a), fun a => absurd (a 0 (by simp)) h⟩
theorem recordA_err {l : List Rec} : ∀ (m : List Rec) (i : Nat) (x : Nat × Int), recordA l i m = some x → x.2 ≠ 0
  | [], _, _, h => by rw [recordA] at h; cases h
  | y :: m, i, x, h => by
    rw [recordA] at h
    split at h
    · exact recordA_err m (i + 1) x h
    · next hx => cases h; exact hx
theorem check_iff {l : List Rec} : (check l).2 = 0 ↔ (check6 l).2 = 0 ∧ (∀ r ∈ l, record l 0 r = 0) ∧ (l.Pairwise fun a b => ¬ sameTo a b) ∧ baseA l 78 45 = true := by
  have hr := recordA_none (l := l) l 0
  have hx : (∀ j, (hj : j < l.length) → record l (0 + j) l[j] = 0) ↔ (∀ r ∈ l, record l 0 r = 0) ∧ l.Pairwise fun a b => ¬ sameTo a b := by
    rw [List.pairwise_iff_getElem]
    constructor
    · intro h
      refine ⟨fun r hr => ?_, fun i j hi hj hij => ?_⟩
      · obtain ⟨j, hj, rfl⟩ := List.getElem_of_mem hr
        exact (record_iff.1 (h j hj)).1
      · exact (record_iff.1 (h j hj)).2 _ (List.mem_take_iff_getElem.2 ⟨i, by omega, rfl⟩)
    · rintro ⟨h1, h2⟩ j hj
      refine record_iff.2 ⟨h1 _ (List.getElem_mem hj), fun k hk => ?_⟩
      obtain ⟨i, hi, rfl⟩ := List.mem_take_iff_getElem.1 hk
      exact h2 i j (by omega) hj (by omega)
  unfold check
  split
  · next h => exact ⟨fun a => absurd a h, fun a => absurd a.1 h⟩
  · next h =>
    split
    · next x hx' =>
      refine ⟨fun a => absurd a (recordA_err _ _ _ hx'), fun a => ?_⟩
      rw [hr.2 (hx.2 ⟨a.2.1, a.2.2.1⟩)] at hx'
      cases hx'
    · next hx' =>
      have h2 := hx.1 (hr.1 hx')
      split
      · next hb => exact ⟨fun _ => ⟨Decidable.not_not.1 h, h2.1, h2.2, hb⟩, fun _ => rfl⟩
      · next hb => exact ⟨fun a => absurd a (show ¬ (70 : Int) = 0 by decide), fun a => absurd a.2.2.2 hb⟩
theorem opn_congr {l m : List Rec} (h : ∀ c, hit l 3 c = hit m 3 c) (c : Int) : opn l c = opn m c := by
  unfold opn
  rw [h c]
theorem prim_congr {l m : List Rec} (h : ∀ c, hit l 3 c = hit m 3 c) (c : Int) : prim l c = prim m c := by
  unfold prim
  rw [h c, opn_congr h c]
theorem cls_congr {l m : List Rec} (h : ∀ c, hit l 2 c = hit m 2 c) (c : Int) : cls l c = cls m c := by
  unfold cls
  rw [h c]
theorem walk_congr {l m : List Rec} (h : ∀ c, opn l c = opn m c) : ∀ (f : Nat) (way : List Int) (c : Int) (out : List Int), walk l f way c out = walk m f way c out
  | 0, way, c, out => by rw [walk, walk, h c]
  | f + 1, way, c, out => by
    rw [walk, walk, h c]
    have e : (fun (s : List Int × Int) d => if s.2 = 0 then walk l f (way ++ [c]) d s.1 else s) = fun s d => if s.2 = 0 then walk m f (way ++ [c]) d s.1 else s := by
      funext s d
      rw [walk_congr h f]
    rw [e]
theorem full_congr {l m : List Rec} (h : ∀ c, hit l 3 c = hit m 3 c) (c : Int) : full l c = full m c := walk_congr (opn_congr h) 16 [] c []
theorem falls_congr {l m : List Rec} (h : ∀ c, hit l 2 c = hit m 2 c) : ∀ x : List Int, fallsA l x = fallsA m x
  | [] => rfl
  | [_] => rfl
  | a :: b :: r => by rw [fallsA, fallsA, cls_congr h a, cls_congr h b, falls_congr h (b :: r)]
theorem plain_congr {l m : List Rec} (h : ∀ c, hit l 1 c = hit m 1 c) (c : Int) : plain l c = plain m c := by
  unfold plain
  rw [h c]
theorem base_congr {l m : List Rec} (h : ∀ c, hit l 1 c = hit m 1 c) : ∀ (k : Nat) (c : Int), baseA l k c = baseA m k c
  | 0, c => rfl
  | k + 1, c => by rw [baseA, baseA, plain_congr h c, base_congr h k]
theorem record_congr {l m : List Rec} (h2 : ∀ c, hit l 2 c = hit m 2 c) (h3 : ∀ c, hit l 3 c = hit m 3 c) {i : Nat} (ht : l.take i = m.take i) (r : Rec) : record l i r = record m i r := by
  have hp : pair l i r = pair m i r := by
    unfold pair
    rw [cls_congr h2, cls_congr h2, opn_congr h3, opn_congr h3, prim_congr h3, ht]
  unfold record
  rw [full_congr h3, falls_congr h2, hp]
theorem clash_no {a b : Rec} (ha : right a = 0) (hb : right b = 0) (h : clash a b = false) : clash b a = false := by rw [clash_symm hb ha]; exact h
theorem turned {l m : List Rec} (h : (check l).2 = 0) (hp : l.Perm m) : (check m).2 = 0 ∧ ∀ f c, f ≠ 10 ∧ f ≠ 0 → hit l f c = hit m f c := by
  obtain ⟨h6, hr, hs, hb⟩ := check_iff.1 h
  obtain ⟨g1, g2, g3⟩ := check6_iff.1 h6
  have hmem : ∀ r, r ∈ l ↔ r ∈ m := fun r => hp.mem_iff
  have m6 : (check6 m).2 = 0 := by
    refine check6_iff.2 ⟨by rw [← hp.length_eq]; exact g1, fun r hr => g2 r ((hmem r).2 hr), ?_⟩
    have key : l.Pairwise fun a b => right a = 0 ∧ right b = 0 ∧ clash a b = false := by
      rw [List.pairwise_iff_getElem] at g3 ⊢
      exact fun i j hi hj hij => ⟨g2 _ (List.getElem_mem hi), g2 _ (List.getElem_mem hj), g3 i j hi hj hij⟩
    exact (hp.pairwise key fun {a b} ⟨x, y, z⟩ => ⟨y, x, clash_no x y z⟩).imp fun a => a.2.2
  have hh : ∀ f c, f ≠ 10 ∧ f ≠ 0 → hit l f c = hit m f c := fun f c hf => hit_perm h6 m6 hmem hf
  refine ⟨check_iff.2 ⟨m6, fun r hr' => ?_, ?_, ?_⟩, hh⟩
  · rw [← record_congr (fun c => hh 2 c (by decide)) (fun c => hh 3 c (by decide)) (i := 0) (by simp)]
    exact hr r ((hmem r).2 hr')
  · exact hp.pairwise hs fun {a b} h s => h ⟨s.2.1, s.1, s.2.2.1.symm, s.2.2.2.symm⟩
  · rw [← base_congr fun c => hh 1 c (by decide)]
    exact hb
end Go.Proofs.YtceflkeaenepcaaGreatDoor.Cn
