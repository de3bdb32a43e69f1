/- Two records of a row change places. -/
import Derived.Test.YteigibncdbgpmaaGreatDoorTbV7
import Derived.Test.YteigibncdbgpmaaGreatDoorGg7
namespace Go.Proofs.YteigibncdbgpmaaGreatDoor
open Go.RowKit

theorem Rown.far7 {w W : World} {B : Nat} {v : Value} {ps : List (Rec × Value)} (h : Rown w B v ps) (hk : ∀ k, B ≤ k → k < w.heap.size → W.heap[k]? = w.heap[k]?) : Rown W B v ps :=
  ⟨own_keep h.1 fun g hg => hk g (own_lt h.1 hg).2 (own_lt h.1 hg).1, fun p hp => (h.2 p hp).keep fun g hg => hk g (own_lt (h.2 p hp).2.2 hg).2 (own_lt (h.2 p hp).2.2 hg).1⟩
theorem Rown.on7 {w W : World} {B : Nat} {v : Value} {ps : List (Rec × Value)} (h : Rown w B v ps) (hb : Below w.heap.size w W) : Rown W B v ps := h.far7 fun k _ hk => hb.block k hk
def putR (W : World) (g off : Nat) (q : Rec × Value) : World := (((((((W.setCell ⟨g, off, none⟩ (.int .i64 q.1.kind)).setCell ⟨g, off + 1, none⟩ (.int .i64 q.1.lo)).setCell ⟨g, off + 2, none⟩ (.int .i64 q.1.hi)).setCell ⟨g, off + 3, none⟩ (.int .i64 q.1.n)).setCell ⟨g, off + 4, none⟩ q.2).setCell ⟨g, off + 5, none⟩ (.string q.1.name)).setCell ⟨g, off + 6, none⟩ (.string q.1.other)).setCell ⟨g, off + 7, none⟩ (.float .f64 q.1.wt)
def set8 (c : Array Value) (off : Nat) (q : Rec × Value) : Array Value := (((((((c.setIfInBounds off (.int .i64 q.1.kind)).setIfInBounds (off + 1) (.int .i64 q.1.lo)).setIfInBounds (off + 2) (.int .i64 q.1.hi)).setIfInBounds (off + 3) (.int .i64 q.1.n)).setIfInBounds (off + 4) q.2).setIfInBounds (off + 5) (.string q.1.name)).setIfInBounds (off + 6) (.string q.1.other)).setIfInBounds (off + 7) (.float .f64 q.1.wt)
theorem set8_size (c : Array Value) (off : Nat) (q : Rec × Value) : (set8 c off q).size = c.size := by simp [set8]
theorem set8_at (c : Array Value) (off : Nat) (q : Rec × Value) (h : off + 8 ≤ c.size) (k : Nat) : (set8 c off q)[k]? = if off ≤ k ∧ k < off + 8 then (rcell q)[k - off]? else c[k]? := by
  unfold set8
  by_cases hk : off ≤ k ∧ k < off + 8
  · rw [if_pos hk]
    obtain ⟨j, rfl⟩ : ∃ j, k = off + j := ⟨k - off, by omega⟩
    rw [Nat.add_sub_cancel_left]
    obtain rfl | rfl | rfl | rfl | rfl | rfl | rfl | rfl : j = 0 ∨ j = 1 ∨ j = 2 ∨ j = 3 ∨ j = 4 ∨ j = 5 ∨ j = 6 ∨ j = 7 := by omega
    all_goals simp [Array.getElem?_setIfInBounds, rcell]; try omega
  · rw [if_neg hk]
    simp only [Array.getElem?_setIfInBounds]
    rw [if_neg (by omega), if_neg (by omega), if_neg (by omega), if_neg (by omega), if_neg (by omega), if_neg (by omega), if_neg (by omega), if_neg (by omega)]
theorem putR_at {W : World} {g off : Nat} {cur : Array Value} {e : TypeId} (h : W.heap[g]? = some (.cells cur e (0, 0))) (q : Rec × Value) : (putR W g off q).heap[g]? = some (.cells (set8 cur off q) e (0, 0)) := by
  have h7 := set_block (j := off + 7) (set_block (j := off + 6) (set_block (j := off + 5) (set_block (j := off + 4) (set_block (j := off + 3) (set_block (j := off + 2) (set_block (j := off + 1) (set_block (j := off) h (.int .i64 q.1.kind)) (.int .i64 q.1.lo)) (.int .i64 q.1.hi)) (.int .i64 q.1.n)) q.2) (.string q.1.name)) (.string q.1.other)) (.float .f64 q.1.wt)
  unfold putR set8
  exact h7
theorem putR_far {W : World} {g off k : Nat} (q : Rec × Value) (h : k ≠ g) : (putR W g off q).heap[k]? = W.heap[k]? := by
  unfold putR
  rw [set_other _ h, set_other _ h, set_other _ h, set_other _ h, set_other _ h, set_other _ h, set_other _ h, set_other _ h]
theorem putR_below {w W : World} {B g off : Nat} (h : Below B w W) (hg : B ≤ g) (q : Rec × Value) : Below B w (putR W g off q) :=
  below_set (below_set (below_set (below_set (below_set (below_set (below_set (below_set h hg _) hg _) hg _) hg _) hg _) hg _) hg _) hg _
theorem rcells_set (ps : List (Rec × Value)) (i : Nat) (q : Rec × Value) (k : Nat) (hk : k < ps.length * 8) : (rcells (ps.set i q))[k]? = if i * 8 ≤ k ∧ k < i * 8 + 8 then (rcell q)[k - i * 8]? else (rcells ps)[k]? := by
  have hj : k % 8 < 8 := Nat.mod_lt _ (by omega)
  have e : k = k / 8 * 8 + k % 8 := by omega
  have hi : k / 8 < ps.length := by omega
  have h1 := rcells_at (ps.set i q) (k / 8) (k % 8) (by rw [List.length_set]; exact hi) hj
  have h2 := rcells_at ps (k / 8) (k % 8) hi hj
  rw [← e] at h1 h2
  rw [h1, h2]
  by_cases hik : k / 8 = i
  · rw [if_pos (by omega)]
    have : (ps.set i q).getD (k / 8) (Cn.none, undef) = q := by rw [hik]; simp [List.getD, show i < ps.length by omega]
    rw [this]
    congr 1
    omega
  · rw [if_neg (by omega)]
    have : (ps.set i q).getD (k / 8) (Cn.none, undef) = ps.getD (k / 8) (Cn.none, undef) := by simp [List.getD, List.getElem?_set_ne (fun e => hik e.symm)]
    rw [this]
/-- A record put into its place. -/
theorem row_put {w : World} {B g cap i : Nat} {ps : List (Rec × Value)} (h : w.ownsRow B 47 8 (.slice (some ⟨g, 0, none⟩) ps.length cap) ps.length (rcells ps)) (hi : i < ps.length) (q : Rec × Value) : (putR w g (i * 8) q).ownsRow B 47 8 (.slice (some ⟨g, 0, none⟩) ps.length cap) ps.length (rcells (ps.set i q)) := by
  obtain ⟨h1, h2⟩ := h
  rcases h2 with ⟨e, _⟩ | ⟨g', cap', cur, e, hb, hg, hn, hc, hs, ht⟩
  · cases e
  · simp only [Value.slice.injEq, Option.some.injEq, Addr.mk.injEq, and_true, true_and] at e
    obtain ⟨rfl, rfl⟩ := e
    refine ⟨by rw [rcells_length, List.length_set], .inr ⟨g, cap, set8 cur (i * 8) q, rfl, hb, putR_at hg q, hn, hc, by rw [set8_size]; exact hs, ?_⟩⟩
    apply List.ext_getElem?
    intro k
    by_cases hk : k < ps.length * 8
    · rw [List.getElem?_take_of_lt hk, Array.getElem?_toList, set8_at _ _ _ (by rw [hs]; omega), rcells_set ps i q k hk]
      split
      · rfl
      · rw [← ht, List.getElem?_take_of_lt hk, Array.getElem?_toList]
    · rw [List.getElem?_eq_none (by rw [List.length_take]; omega), List.getElem?_eq_none (by rw [rcells_length, List.length_set]; omega)]
theorem swap_perm {α : Type} {l : List α} {a b : Nat} (ha : a < l.length) (hb : b < l.length) : ((l.set a l[b]).set b l[a]).Perm l := by
  have h := Array.swap_perm (xs := l.toArray) (i := a) (j := b) (by simpa using ha) (by simpa using hb)
  have h2 := Array.perm_iff_toList_perm.1 h
  simpa [Array.swap] using h2
end Go.Proofs.YteigibncdbgpmaaGreatDoor
