/- What the writer leans on, plainly; the tally's entries; memory while a text is written. -/
import Derived.Test.YtgccindoinhphaaPwD11
import Derived.Deep.QuietTactic
import Derived.Laws.MakeOwn
namespace Go.Proofs.Ytgccindoinhphaa
open Go.RowKit

namespace Pu
theorem addF_Tb (f : Nat) (T : List Int) (j : Nat) (k : Int) (hl : T.length ≤ 2050) (hj : 1 ≤ j) (h1 : ∀ m, 0 ≤ T.getD m 0 ∧ T.getD m 0 ≤ k + 1) (h2 : ∀ m, j ≤ m → T.getD m 0 ≤ k) :
    ∀ m, 0 ≤ (addF f T j).getD m 0 ∧ (addF f T j).getD m 0 ≤ k + 1 := by
  induction f generalizing T j with
  | zero => exact h1
  | succ f ih =>
    rw [addF]
    split
    · rename_i hlt
      have hq := lbi_bounds hj (by omega)
      refine ih _ _ (by simpa using hl) (by omega) (fun m => ?_) (fun m hm => ?_)
      · rw [getD_set _ _ _ _ hlt]
        have := h1 m
        have := h1 j
        have := h2 j (Nat.le_refl _)
        split <;> omega
      · rw [getD_set _ _ _ _ hlt, if_neg (by omega)]
        exact h2 m (by omega)
    · exact h1
theorem Tb_of {k : Int} {T : List Int} (h : ∀ m, 0 ≤ T.getD m 0 ∧ T.getD m 0 ≤ k) : Tb k T := by
  intro t ht
  obtain ⟨i, hi, rfl⟩ := List.mem_iff_getElem.1 ht
  have := h i
  rw [List.getD, List.getElem?_eq_getElem hi] at this
  exact this
theorem add_Tb {T : List Int} {k : Int} (h : Tb k T) (hk : 0 ≤ k) (hl : T.length ≤ 2050) (p : Nat) : Tb (k + 1) (add T p) := by
  refine Tb_of (addF_Tb _ _ _ k hl (by omega) (fun m => ?_) (fun m _ => ?_))
  · have := h.at hk m; omega
  · exact (h.at hk m).2
theorem Tb.le {k k' : Int} {T : List Int} (h : Tb k T) (hk : k ≤ k') : Tb k' T := fun t ht => by have := h t ht; omega
theorem aheadF_bounds (f : Nat) (T : List Int) (j : Nat) (n : Int) (h : ∀ m, 0 ≤ T.getD m 0 ∧ T.getD m 0 ≤ 3000) (hn : 0 ≤ n) : 0 ≤ aheadF f T j n ∧ aheadF f T j n ≤ n + 3000 * f := by
  induction f generalizing j n with
  | zero => simp only [aheadF]; omega
  | succ f ih =>
    rw [aheadF]
    have hh := h j
    split
    · have := ih (j - (lbi j).toNat) (n + T.getD j 0) (by omega)
      omega
    · omega
theorem ahead_bounds {T : List Int} (h : Tb 3000 T) (p : Nat) : 0 ≤ ahead T p ∧ ahead T p ≤ 3000 * p := by
  have := aheadF_bounds p T p 0 (fun m => h.at (by omega) m) (by omega)
  unfold ahead; omega

/-- Each step's number is not below 0, and puts in a code point. -/
def wok (xs : List Int) : List Nat → List Int → Int → Int → Int → Bool
  | [], _, _, _, _ => true
  | c :: r, T, p, n, i =>
    let d := (xs.getD c 0 - n) * (p + 1) + ahead T c - i
    decide (0 ≤ d) && decide (0 ≤ n + (i + d) / (p + 1) ∧ n + (i + d) / (p + 1) ≤ 1114111) && (decide (2147483647 < d) || wok xs r (add T c) (p + 1) (n + (i + d) / (p + 1)) ((i + d) % (p + 1) + 1))
def dlt (xs : List Int) (c : Nat) (T : List Int) (p n i : Int) : Int := (xs.getD c 0 - n) * (p + 1) + ahead T c - i
theorem wok_cons {xs : List Int} {c : Nat} {r : List Nat} {T : List Int} {p n i : Int} (h : wok xs (c :: r) T p n i = true) : 0 ≤ dlt xs c T p n i ∧ (0 ≤ n + (i + dlt xs c T p n i) / (p + 1) ∧ n + (i + dlt xs c T p n i) / (p + 1) ≤ 1114111) ∧
    (2147483647 < dlt xs c T p n i ∨ wok xs r (add T c) (p + 1) (n + (i + dlt xs c T p n i) / (p + 1)) ((i + dlt xs c T p n i) % (p + 1) + 1) = true) := by
  simpa [wok, dlt, and_assoc] using h
theorem wr2_over {xs : List Int} {c : Nat} {r : List Nat} {T : List Int} {p n i bias : Int} {f : Bool} {out : List Int} (h : 2147483647 < dlt xs c T p n i) : wr2 xs (c :: r) T p n i bias f out = ([], 113) := by
  show (if 2147483647 < dlt xs c T p n i then ([], 113) else _) = _
  rw [if_pos h]
theorem wr2_step {xs : List Int} {c : Nat} {r : List Nat} {T : List Int} {p n i bias : Int} {f : Bool} {out : List Int} (h : ¬ 2147483647 < dlt xs c T p n i) : wr2 xs (c :: r) T p n i bias f out =
    wr2 xs r (add T c) (p + 1) (n + (i + dlt xs c T p n i) / (p + 1)) ((i + dlt xs c T p n i) % (p + 1) + 1) (adapt (dlt xs c T p n i) (p + 1) f) false (out ++ wrNum (dlt xs c T p n i) bias) := by
  show (if 2147483647 < dlt xs c T p n i then ([], 113) else _) = _
  rw [if_neg h]
  rfl
end Pu

theorem number_q (b : Nat) (p n i bias c pl : Int) (f : Bool) (w : World) (h : StAt w b p n i bias f) (hp : 0 ≤ p ∧ p ≤ 3000) (hn : 0 ≤ n ∧ n ≤ 1114111) (hi : 0 ≤ i ∧ i ≤ 3000) (hc : 0 ≤ c ∧ c ≤ 1114111) (hpl : 0 ≤ pl ∧ pl ≤ 10000000) :
    Calls Try.prog 35 #[.pointer (some ⟨b, 0, none⟩), .int .i32 c, .int .i64 pl] w fun e w' => e = .returned (.int .i64 ((c - n) * (p + 1) + pl - i)) ∧ ∃ m, w' = w.drewN m := by
  refine (number_any b p n i bias c pl f w h hp hn hi hc hpl).mono ?_
  rintro e w' ⟨rfl, hw⟩
  refine ⟨rfl, ?_⟩
  rcases hw with rfl | rfl
  · exact ⟨0, rfl⟩
  · exact ⟨1, rfl⟩

theorem StAt.drewN {w : World} {b : Nat} {p n i bias : Int} {f : Bool} (h : StAt w b p n i bias f) (m : Nat) : StAt (w.drewN m) b p n i bias f := h
theorem TAt.drewN {w : World} {g : Nat} {T : List Int} (h : TAt w g T) (m : Nat) : TAt (w.drewN m) g T := h
theorem TAt.grown {w w' : World} {g : Nat} {T : List Int} {row : Option Nat} (h : TAt w g T) (hg : w.grownBy w' row) (hne : row ≠ some g) : TAt w' g T := by
  unfold TAt at h ⊢
  rw [hg.block g (Array.getElem?_eq_some_iff.1 h).1 (fun hh => hne hh.symm)]; exact h
theorem TAt.alloc {w : World} {g : Nat} {T : List Int} (h : TAt w g T) (o : Obj) : TAt (w.alloc o) g T := by
  unfold TAt at h ⊢
  rw [heap_alloc_old _ _ (Array.getElem?_eq_some_iff.1 h).1]; exact h
theorem StAt.grown {w w' : World} {b : Nat} {p n i bias : Int} {f : Bool} {row : Option Nat} (h : StAt w b p n i bias f) (hg : w.grownBy w' row) (hne : row ≠ some b) : StAt w' b p n i bias f := by
  unfold StAt at h ⊢
  rw [hg.block b (Array.getElem?_eq_some_iff.1 h).1 (fun hh => hne hh.symm)]; exact h
theorem StAt.alloc {w : World} {b : Nat} {p n i bias : Int} {f : Bool} (h : StAt w b p n i bias f) (o : Obj) : StAt (w.alloc o) b p n i bias f := by
  unfold StAt at h ⊢
  rw [heap_alloc_old _ _ (Array.getElem?_eq_some_iff.1 h).1]; exact h

/-- Memory while a text is written. -/
structure Wm (w1 : World) (b g : Nat) (p n i bias : Int) (f : Bool) (T out : List Int) (bv : Value) (wr : World) : Prop where
  st : StAt wr b p n i bias f
  t : TAt wr g T
  ob : Ok .u8 5 wr w1.heap.size bv out
  bel : Below w1.heap.size w1 wr
  hb : w1.heap.size ≤ b
  hg : w1.heap.size ≤ g
  hbg : b ≠ g
  nb : bv.ownBlock ≠ some b
  ng : bv.ownBlock ≠ some g

theorem Wm.size {w1 : World} {b g : Nat} {p n i bias : Int} {f : Bool} {T out : List Int} {bv : Value} {wr : World} (h : Wm w1 b g p n i bias f T out bv wr) : w1.heap.size ≤ wr.heap.size ∧ b < wr.heap.size ∧ g < wr.heap.size :=
  ⟨h.bel.size, (Array.getElem?_eq_some_iff.1 h.st).1, (Array.getElem?_eq_some_iff.1 h.t).1⟩
theorem Wm.drewN {w1 : World} {b g : Nat} {p n i bias : Int} {f : Bool} {T out : List Int} {bv : Value} {wr : World} (h : Wm w1 b g p n i bias f T out bv wr) (m : Nat) : Wm w1 b g p n i bias f T out bv (wr.drewN m) :=
  ⟨h.st.drewN m, h.t.drewN m, h.ob.below (drewB ⟨m, rfl⟩), h.bel.trans ((drewB ⟨m, rfl⟩ : Below wr.heap.size wr _).mono h.bel.size), h.hb, h.hg, h.hbg, h.nb, h.ng⟩
theorem Wm.added {w1 : World} {b g : Nat} {p n i bias : Int} {f : Bool} {T T' out : List Int} {bv : Value} {wr w' : World} {e : Ending} (h : Wm w1 b g p n i bias f T out bv wr) (ha : AddP wr g T' e w') : Wm w1 b g p n i bias f T' out bv w' := by
  obtain ⟨_, ht, hgr, hsz⟩ := ha
  obtain ⟨s1, s2, s3⟩ := h.size
  exact ⟨h.st.grown hgr (fun hh => h.hbg (by simpa using hh.symm)), ht, ok_grown h.ob hgr (.inr h.ng), h.bel.grown hgr s1 (fun k hk => by simp at hk; have := h.hg; omega), h.hb, h.hg, h.hbg, h.nb, h.ng⟩
theorem Wm.stepped {w1 : World} {b g : Nat} {p n i bias p' n' i' bias' pl : Int} {f : Bool} {T out : List Int} {bv : Value} {wr w' : World} {e : Ending} (h : Wm w1 b g p n i bias f T out bv wr) (hs : StepPost wr b p' n' i' bias' pl e w') : Wm w1 b g p' n' i' bias' false T out bv w' := by
  obtain ⟨_, hst, hgr, hsz⟩ := hs
  obtain ⟨s1, s2, s3⟩ := h.size
  exact ⟨hst, h.t.grown hgr (fun hh => h.hbg (by simpa using hh)), ok_grown h.ob hgr (.inr h.nb), h.bel.grown hgr s1 (fun k hk => by simp at hk; have := h.hb; omega), h.hb, h.hg, h.hbg, h.nb, h.ng⟩
theorem Wm.wrote {w1 : World} {b g : Nat} {p n i bias : Int} {f : Bool} {T out out' : List Int} {bv bv' : Value} {wr w0 w' : World} (h : Wm w1 b g p n i bias f T out bv wr) (h0 : w0 = wr ∨ ∃ o, w0 = wr.alloc o) (hok : Ok .u8 5 w' w1.heap.size bv' out') (hgr : w0.grownBy w' bv.ownBlock)
    (ho : ∀ k, bv'.ownBlock = some k → bv.ownBlock = some k ∨ wr.heap.size ≤ k) : Wm w1 b g p n i bias f T out' bv' w' := by
  obtain ⟨s1, s2, s3⟩ := h.size
  have hvb : ∀ k, bv.ownBlock = some k → w1.heap.size ≤ k := fun k hk => (h.ob.row.lt k hk).1
  have hst0 : StAt w0 b p n i bias f ∧ TAt w0 g T ∧ Below w1.heap.size w1 w0 ∧ wr.heap.size ≤ w0.heap.size := by
    rcases h0 with rfl | ⟨o, rfl⟩
    · exact ⟨h.st, h.t, h.bel, Nat.le_refl _⟩
    · exact ⟨h.st.alloc o, h.t.alloc o, h.bel.alloc s1 o, by rw [alloc_size]; omega⟩
  obtain ⟨k1, k2, k3, k4⟩ := hst0
  refine ⟨k1.grown hgr h.nb, k2.grown hgr h.ng, hok, k3.grown hgr (by omega) hvb, h.hb, h.hg, h.hbg, fun hh => ?_, fun hh => ?_⟩
  · rcases ho b hh with h3 | h3
    · exact h.nb h3
    · omega
  · rcases ho g hh with h3 | h3
    · exact h.ng h3
    · omega
end Go.Proofs.Ytgccindoinhphaa
