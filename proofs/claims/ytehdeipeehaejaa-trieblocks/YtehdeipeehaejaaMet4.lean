/- Blocks as keys of a map; the map of those that were met. -/
import Derived.Test.YtehdeipeehaejaaArr4
import Derived.DeepKeys4
import Derived.Maps.Views
import Derived.Maps.OwnSet
namespace Go.Proofs.Ytehdeipeehaejaa
open Go.RowKit Go.Maps

theorem laidOut4 : laidOutB Try.prog = true := by kernel_rfl
theorem arrLaw : Keyed Try.prog 60 := Keyed.of_law (deep_law_laid laidOut4 (m := 3) (by decide) (of_decide_eq_true (by kernel_rfl)) (by kernel_rfl) (by kernel_rfl))

/-- Numbers of 16 bits, 64 of them. -/
def Good (zs : List Int) : Prop := zs.length = 64 ∧ ∀ z ∈ zs, 0 ≤ z ∧ z ≤ 65535
theorem blk_good {f : Int → Int} (h : ∀ c, 0 ≤ f c ∧ f c ≤ 65535) (p : Nat) : Good (Tri.blk f p) := by
  refine ⟨by simp [Tri.blk], fun z hz => ?_⟩
  simp only [Tri.blk, List.mem_map] at hz
  obtain ⟨i, _, rfl⟩ := hz
  exact h _

theorem mapM_all {α β : Type} (l : List α) (f : α → Option β) (g : α → β) (h : ∀ x ∈ l, f x = some (g x)) : l.mapM f = some (l.map g) := by
  induction l with
  | nil => rfl
  | cons x l ih =>
    rw [List.mapM_cons, h x (by simp), ih (fun y hy => h y (List.mem_cons_of_mem _ hy))]
    rfl
theorem u16_wf {z : Int} (h : 0 ≤ z ∧ z ≤ 65535) : (Lit.int .u16 z).wf = true := by
  simp [Lit.wf, IntKind.min, IntKind.max, IntKind.signed, IntKind.bits]; omega
theorem cellsArr : Try.prog.cellsOf 60 = 64 := by kernel_rfl
theorem cellsU16 : Try.prog.cellsOf 47 = 1 := by kernel_rfl
theorem keyTypeArr : Try.prog.keyType 60 = true := by kernel_rfl

theorem keyLits_arr (zs : List Int) (h : Good zs) (D : Nat) : Try.prog.keyLits (D + 2) 60 (arrA zs).toList = some (((List.range 64).map fun i => [Lit.int .u16 (zs.getD i 0)]).flatten) := by
  have hl : (arrA zs).toList.length = 64 := by rw [Array.length_toList, arrA_size, h.1]
  rw [Program.keyLits.eq_def]
  simp only [Try.underlying60, cellsArr, cellsU16]
  rw [if_pos hl, mapM_all (List.range 64) _ (fun i => [Lit.int .u16 (zs.getD i 0)])]
  · rfl
  · intro i hi
    have hi' : i < zs.length := by rw [h.1]; exact List.mem_range.1 hi
    have hz : zs.getD i 0 = zs[i] := by simp [List.getD, hi']
    have e : ((arrA zs).toList.drop (i * 1)).take 1 = [Value.int .u16 (zs.getD i 0)] := by
      rw [Nat.mul_one, arrA]
      rw [List.drop_eq_getElem_cons (by simpa using hi'), hz]
      simp
    rw [e, Program.keyLits.eq_def]
    simp only [Try.underlying47]
    have hw : (Lit.int .u16 (zs.getD i 0)).wf = true := u16_wf (by rw [hz]; exact h.2 _ (List.getElem_mem hi'))
    rw [if_pos ⟨trivial, hw⟩]

/-- A block as a map's key. -/
def keyL (zs : List Int) : Lit := .string (keyBytes (((List.range 64).map fun i => [Lit.int .u16 (zs.getD i 0)]).flatten))
theorem key_of {zs : List Int} (h : Good zs) : keyOf Try.prog 60 (.agg (arrA zs)) = some (keyL zs) := by
  have hf : (Value.agg (arrA zs)).formed Try.prog 60 = true := by
    simp [Value.formed, Try.underlying60, cellsArr, arrA_size, h.1]
  have hn : ∃ n, Try.prog.types.size + 1 = n + 2 := ⟨Try.prog.types.size - 1, by have : 0 < Try.prog.types.size := of_decide_eq_true (by kernel_rfl); omega⟩
  obtain ⟨n, hn⟩ := hn
  unfold keyOf
  simp only [Try.underlying60, keyTypeArr, hf, Bool.and_self, if_true, Value.cells, hn, keyLits_arr zs h n]
  rfl
theorem key_inj {xs ys : List Int} (hx : Good xs) (hy : Good ys) (h : keyL xs = keyL ys) : xs = ys := by
  have h1 := key_of hx
  have h2 := key_of hy
  rw [← h] at h2
  have h3 := arrLaw.inj h1 h2
  simp only [Value.agg.injEq, arrA] at h3
  have h4 : xs.map (Value.int .u16) = ys.map (Value.int .u16) := by simpa using h3
  exact List.map_inj_right (fun a b e => by simpa using e) |>.1 h4
theorem key_lit {zs : List Int} (h : Good zs) : WideAt.IsKeyLit (keyL zs) := arrLaw.key (key_of h)

/-- The map of blocks that were met: each with its number. -/
def datA (i : Nat) (m : DataW Unit) : List (List Int) → DataW Unit
  | [] => m
  | b :: r => datA (i + 1) (m.put (keyL b) (.lit (.int .u16 (i : Int)))) r
def dat (bs : List (List Int)) : DataW Unit := datA 0 (.map []) bs
theorem datA_snoc (i : Nat) (m : DataW Unit) (bs : List (List Int)) (b : List Int) : datA i m (bs ++ [b]) = (datA i m bs).put (keyL b) (.lit (.int .u16 ((i + bs.length : Nat) : Int))) := by
  induction bs generalizing i m with
  | nil => simp [datA]
  | cons x bs ih =>
    simp only [List.cons_append, datA]
    rw [ih]
    congr 3
    simp only [List.length_cons]; omega
theorem dat_snoc (bs : List (List Int)) (b : List Int) : dat (bs ++ [b]) = (dat bs).put (keyL b) (.lit (.int .u16 (bs.length : Int))) := by
  rw [dat, datA_snoc, Nat.zero_add]; rfl
theorem dat_map (bs : List (List Int)) : IsMap (dat bs) := by
  have : ∀ (bs : List (List Int)) i m, IsMap m → IsMap (datA i m bs) := by
    intro bs
    induction bs with
    | nil => exact fun i m h => h
    | cons b bs ih => exact fun i m h => ih _ _ (h.put _ _)
  exact this bs 0 _ isMap_empty

theorem dat_atN (n : Nat) (bs : List (List Int)) (hlen : bs.length = n) (hg : ∀ b ∈ bs, Good b) (hn : bs.Nodup) (x : List Int) (hx : Good x) :
    Maps.has (dat bs) (keyL x) = decide (x ∈ bs) ∧ (x ∈ bs → ∀ z, (dat bs).atKey (keyL x) z = .lit (.int .u16 (bs.idxOf x : Int))) := by
  induction n generalizing bs with
  | zero =>
    rw [List.eq_nil_of_length_eq_zero hlen]
    exact ⟨by simp [dat, datA, Maps.has], fun h => by cases h⟩
  | succ n ih =>
    obtain ⟨bs, b, rfl⟩ : ∃ L b, bs = L ++ [b] := ⟨bs.dropLast, bs.getLast (by intro h; rw [h] at hlen; cases hlen), (List.dropLast_concat_getLast _).symm⟩
    have hgb : ∀ c ∈ bs, Good c := fun c hc => hg c (List.mem_append_left _ hc)
    have hb : Good b := hg b (by simp)
    rw [List.nodup_append] at hn
    obtain ⟨i1, i2⟩ := ih bs (by simpa using hlen) hgb hn.1
    have hnb : b ∉ bs := fun h => hn.2.2 b h b (by simp) rfl
    rw [dat_snoc]
    by_cases hxb : x = b
    · subst hxb
      refine ⟨?_, fun _ z => ?_⟩
      · rw [has_put_same (dat_map bs) (key_lit hx)]; simp
      · rw [atKey_put_same (dat_map bs) (key_lit hx)]
        have : (bs ++ [x]).idxOf x = bs.length := by
          rw [List.idxOf_append, if_neg hnb]; simp
        rw [this]
    · have hne : keyL x ≠ keyL b := fun h => hxb (key_inj hx hb h)
      refine ⟨?_, fun hm z => ?_⟩
      · rw [has_put_other hne, i1]
        simp [hxb]
      · have hxm : x ∈ bs := by
          rcases List.mem_append.1 hm with h | h
          · exact h
          · simp at h; exact absurd h hxb
        rw [atKey_put_other hne, i2 hxm]
        rw [List.idxOf_append, if_pos hxm]
theorem dat_at (bs : List (List Int)) (hg : ∀ b ∈ bs, Good b) (hn : bs.Nodup) (x : List Int) (hx : Good x) :
    Maps.has (dat bs) (keyL x) = decide (x ∈ bs) ∧ (x ∈ bs → ∀ z, (dat bs).atKey (keyL x) z = .lit (.int .u16 (bs.idxOf x : Int))) := dat_atN _ bs rfl hg hn x hx
end Go.Proofs.Ytehdeipeehaejaa
