/- The document's Encode, plainly: its two standings with their bounds. -/
import Derived.Test.YtgccindoinhphaaPgC11
import Derived.Test.YtgccindoinhphaaPwF11
namespace Go.Proofs.Ytgccindoinhphaa
open Go.RowKit

namespace Pu
theorem mul_up {a b A B : Int} (ha : 0 ≤ a) (hA : a ≤ A) (hb : 0 ≤ b) (hB : b ≤ B) : 0 ≤ a * b ∧ a * b ≤ A * B :=
  ⟨Int.mul_nonneg ha hb, Int.mul_le_mul hA hB hb (by omega)⟩

structure Hd (xs : List Int) (R : List Int × Int) (n p bias : Int) (first : Bool) (out : List Int) (delta : Int) : Prop where
  ex : ∃ r T q nw iw, Dh xs R n r T q p nw iw bias first out delta
  n0 : 128 ≤ n
  n1 : n ≤ 1114112
  d0 : 0 ≤ delta
  b0 : 0 ≤ bias
  b1 : bias ≤ 468
  o : (out.length : Int) + 32 * ((xs.length : Int) - p) ≤ 70000
structure Wd (xs : List Int) (R : List Int × Int) (m : Int) (j : Nat) (p bias : Int) (first : Bool) (out : List Int) (delta : Int) : Prop where
  ex : ∃ r T q nw iw, Dw xs R m j r T q p nw iw bias first out delta
  n0 : 128 ≤ m
  n1 : m ≤ 1114111
  d0 : 0 ≤ delta
  b0 : 0 ≤ bias
  b1 : bias ≤ 468
  o : (out.length : Int) + 32 * ((xs.length : Int) - p) ≤ 70000
section
variable {xs : List Int} {R : List Int × Int} {m n : Int} {j : Nat} {p bias : Int} {first : Bool} {out : List Int} {delta : Int}
theorem Hd.pb (h : Hd xs R n p bias first out delta) : 0 ≤ p ∧ p ≤ (xs.length : Int) ∧ xs.length ≤ 2000 := by
  obtain ⟨r, T, q, nw, iw, g⟩ := h.ex
  have h1 := g.wv.hp; have h2 := cnt_le q xs.length; have h3 := g.wv.le
  omega
theorem Wd.pb (h : Wd xs R m j p bias first out delta) : 0 ≤ p ∧ p ≤ (xs.length : Int) ∧ xs.length ≤ 2000 := by
  obtain ⟨r, T, q, nw, iw, g⟩ := h.ex
  have h1 := g.wv.hp; have h2 := cnt_le q xs.length; have h3 := g.wv.le
  omega
theorem Hd.d1 (h : Hd xs R n p bias first out delta) : delta ≤ 2500000000 := by
  have hp := h.pb; have hn := h.n1
  obtain ⟨r, T, q, nw, iw, g⟩ := h.ex
  have h1 := g.dl; have h2 := g.nm; have h3 := g.wv.n0; have h4 := g.wv.i0
  have := (mul_up (a := n - nw) (b := p + 1) (A := 1114112) (B := 2001) (by omega) (by omega) (by omega) (by omega)).2
  omega
theorem Wd.d1 (h : Wd xs R m j p bias first out delta) (hj : j ≤ xs.length) : delta ≤ 2500000000 := by
  have hp := h.pb; have hn := h.n1
  obtain ⟨r, T, q, nw, iw, g⟩ := h.ex
  have h1 := g.dl; have h2 := g.nm; have h3 := g.wv.n0; have h4 := g.wv.i0
  have := (mul_up (a := m - nw) (b := p + 1) (A := 1114112) (B := 2001) (by omega) (by omega) (by omega) (by omega)).2
  have h5 := cnt_le q j
  omega
theorem Hd.more (h : Hd xs R n p bias first out delta) (hp : p < (xs.length : Int)) : ∃ k, k < xs.length ∧ n ≤ xs.getD k 0 := by
  obtain ⟨r, T, q, nw, iw, g⟩ := h.ex
  exact g.more hp
theorem Hd.done (h : Hd xs R n p bias first out delta) (hp : ¬ p < (xs.length : Int)) : R = (out, 0) := by
  have := h.pb
  obtain ⟨r, T, q, nw, iw, g⟩ := h.ex
  exact g.done (by omega)
theorem Hd.go (h : Hd xs R n p bias first out delta) {m' : Int} (hm : n ≤ m') (hm1 : m' ≤ 1114111) (hno : ∀ k, k < xs.length → n ≤ xs.getD k 0 → m' ≤ xs.getD k 0) : Wd xs R m' 0 p bias first out (delta + (m' - n) * (p + 1)) := by
  have hp := h.pb
  have h0 := h.n0; have h1 := h.d0
  have := (mul_up (a := m' - n) (b := p + 1) (A := 1114112) (B := 2001) (by omega) (by omega) (by omega) (by omega)).1
  refine ⟨?_, by omega, hm1, by omega, h.b0, h.b1, h.o⟩
  obtain ⟨r, T, q, nw, iw, g⟩ := h.ex
  exact ⟨r, T, q, nw, iw, g.go hm hno⟩
theorem Wd.below (h : Wd xs R m j p bias first out delta) (hj : j < xs.length) (hx : xs.getD j 0 < m) : Wd xs R m (j + 1) p bias first out (delta + 1) := by
  have h1 := h.d0
  refine ⟨?_, h.n0, h.n1, by omega, h.b0, h.b1, h.o⟩
  obtain ⟨r, T, q, nw, iw, g⟩ := h.ex
  exact ⟨r, T, q, nw, iw, g.below hj hx⟩
theorem Wd.above (h : Wd xs R m j p bias first out delta) (hj : j < xs.length) (hx : m < xs.getD j 0) : Wd xs R m (j + 1) p bias first out delta := by
  refine ⟨?_, h.n0, h.n1, h.d0, h.b0, h.b1, h.o⟩
  obtain ⟨r, T, q, nw, iw, g⟩ := h.ex
  exact ⟨r, T, q, nw, iw, g.above hj hx⟩
theorem Wd.over (h : Wd xs R m j p bias first out delta) (hj : j < xs.length) (hx : xs.getD j 0 = m) (hd : 2147483647 < delta) : R = ([], 113) := by
  obtain ⟨r, T, q, nw, iw, g⟩ := h.ex
  obtain ⟨r', rfl⟩ := g.head hj hx
  exact g.over hx hd
theorem Wd.pl (h : Wd xs R m j p bias first out delta) (hj : j < xs.length) (hx : xs.getD j 0 = m) : p < (xs.length : Int) := by
  obtain ⟨r, T, q, nw, iw, g⟩ := h.ex
  obtain ⟨r', rfl⟩ := g.head hj hx
  obtain ⟨c1, c2, _, _⟩ := g.wv.nx j (by simp)
  have h1 := g.wv.hp
  have h2 := cnt_addp c2 xs.length
  rw [if_pos c1] at h2
  have h3 := cnt_le (addp q j) xs.length
  omega
theorem Wd.put (h : Wd xs R m j p bias first out delta) (hj : j < xs.length) (hx : xs.getD j 0 = m) (hd : ¬ 2147483647 < delta) :
    Wd xs R m (j + 1) (p + 1) (adapt delta (p + 1) first) false (out ++ wrNum delta bias) 0 := by
  have hb := adapt_bounds delta (p + 1) first (by omega)
  have hpl := h.pl hj hx
  have hl := wrNum_len (bias := bias) h.d0 (by omega)
  have ho := h.o
  refine ⟨?_, h.n0, h.n1, by omega, hb.1, hb.2, by rw [List.length_append]; omega⟩
  obtain ⟨r, T, q, nw, iw, g⟩ := h.ex
  obtain ⟨r', rfl⟩ := g.head hj hx
  exact ⟨_, _, _, _, _, g.put hj hx hd⟩
theorem Wd.fin (h : Wd xs R m xs.length p bias first out delta) : Hd xs R (m + 1) p bias first out (delta + 1) := by
  have h0 := h.n0; have h1 := h.n1; have h2 := h.d0
  refine ⟨?_, by omega, by omega, by omega, h.b0, h.b1, h.o⟩
  obtain ⟨r, T, q, nw, iw, g⟩ := h.ex
  exact ⟨r, T, q, nw, iw, g.fin⟩
end
theorem Hd.start {xs : List Int} (hl : xs.length ≤ 2000) (hs : allb okb xs = true) {L : List Int} (h1 : (idx xs lowq).length = L.length) (h2 : (wr1 xs (idx xs lowq) (List.replicate (xs.length + 1) 0) []).2 = L) :
    Hd xs (encode xs) 128 (L.length : Int) 72 true (L ++ if L.length = 0 then [] else [45]) 0 := by
  have hd := Dh.start hl hs
  rw [h1, h2] at hd
  have h3 := hd.wv.hp
  have h4 := cnt_le (fun k => lowq (xs.getD k 0)) xs.length
  refine ⟨⟨_, _, _, _, _, hd⟩, by omega, by omega, by omega, by omega, by omega, ?_⟩
  have : (L ++ if L.length = 0 then [] else [45]).length ≤ L.length + 1 := by
    rw [List.length_append]; split <;> simp
  omega
end Pu
end Go.Proofs.Ytgccindoinhphaa
