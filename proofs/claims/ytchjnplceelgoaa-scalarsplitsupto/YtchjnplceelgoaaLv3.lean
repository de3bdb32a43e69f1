/- ScalarSplits: the lists that Split told, written full and lengthened one by one. -/
import Derived.Test.YtchjnplceelgoaaRefS3
import Derived.Test.YtchjnplceelgoaaSameA
import Derived.Maps.AppendAt
namespace Go.Proofs.Ytchjnplceelgoaa
open Go.RowKit

theorem row_ofBlock {w w' : World} {B n : Nat} {e : TypeId} {v : Value} {xs : List Value} (h : w.ownsRow B e 1 v n xs) (hb : ∀ k, v.ownBlock = some k → w'.heap[k]? = w.heap[k]?) : w'.ownsRow B e 1 v n xs := by
  refine ⟨h.1, ?_⟩
  rcases h.2 with hn | ⟨g, cap, cur, rfl, hbg, hgg, rest⟩
  · exact .inl hn
  · refine .inr ⟨g, cap, cur, rfl, hbg, ?_, rest⟩
    rw [hb g rfl]
    exact hgg
theorem Ok.ofBlock {K : IntKind} {e : TypeId} {w w' : World} {B : Nat} {v : Value} {zs : List Int} (h : Ok K e w B v zs) (hb : ∀ k, v.ownBlock = some k → w'.heap[k]? = w.heap[k]?) : Ok K e w' B v zs := ⟨h.1, h.2.1, row_ofBlock h.2.2 hb⟩

/-- What the document's Split told stands as long as its blocks do. -/
theorem Mu.keep {w w' : World} {B U : Nat} {v : Value} {xss : List (List Int)} (h : Mu w B U v xss) (hk : ∀ k, B ≤ k → k < w.heap.size → w'.heap[k]? = w.heap[k]?) : Mu w' B U v xss := by
  obtain ⟨us, h1, h2, h3, h4, h5⟩ := h
  exact ⟨us, h1, row_ofBlock h2 (fun k hb => hk k (h2.lt k hb).1 (h2.lt k hb).2), fun i hi => (h3 i hi).ofBlock (fun k hb => hk k ((h3 i hi).row.lt k hb).1 ((h3 i hi).row.lt k hb).2), h4, h5⟩

theorem Mu.rws {w : World} {B U : Nat} {v : Value} {xss : List (List Int)} (h : Mu w B U v xss) (hl : xss.length ≤ 1000000000) : Rws w v xss := (h.mr hl).rws

/-- The lists that were told: those before place k have two numbers more, -9 each; none lies in the blocks from lo to hi. -/
structure Lv (w : World) (B lo hi : Nat) (v : Value) (ls : List (List Int)) (k : Nat) (us : List Value) : Prop where
  len : us.length = ls.length
  row : w.ownsRow B 22 1 v ls.length us
  ok : ∀ j, j < ls.length → ∃ zs : List Int, zs.length = (ls.getD j []).length ∧ Ok .i32 21 w B (us.getD j undef) (if j < k then zs ++ [-9, -9] else zs)
  out : ∀ j, j < ls.length → ∀ b, (us.getD j undef).ownBlock = some b → ¬ (lo ≤ b ∧ b < hi)
  apart : ∀ i j b, i < j → j < ls.length → (us.getD i undef).ownBlock = some b → (us.getD j undef).ownBlock ≠ some b

theorem Mu.lv {w w' : World} {B lo hi : Nat} {v : Value} {ls : List (List Int)} (h : Mu w B lo v ls) (hb : Below w.heap.size w w') : ∃ us, Lv w' B lo hi v ls 0 us := by
  obtain ⟨us, h1, h2, h3, h4, h5⟩ := h
  refine ⟨us, h1, row_ofBlock h2 (fun k hk => hb.block k (h2.lt k hk).2), fun j hj => ⟨ls.getD j [], rfl, ?_⟩, fun j hj b hb' => by have := h4 j hj b hb'; omega, h5⟩
  rw [if_neg (by omega)]
  exact (h3 j hj).below hb

theorem Lv.below {w w' : World} {B lo hi : Nat} {v : Value} {ls : List (List Int)} {k : Nat} {us : List Value} (h : Lv w B lo hi v ls k us) (hb : Below w.heap.size w w') : Lv w' B lo hi v ls k us := by
  refine ⟨h.len, row_ofBlock h.row (fun k hk => hb.block k (h.row.lt k hk).2), fun j hj => ?_, h.out, h.apart⟩
  obtain ⟨zs, h1, h2⟩ := h.ok j hj
  exact ⟨zs, h1, h2.below hb⟩

/-- One number of the k-th list is written over. -/
theorem Lv.set {w : World} {B lo hi : Nat} {v : Value} {ls : List (List Int)} {k q g cap n : Nat} {us : List Value} (h : Lv w B lo hi v ls k us) (hk : k < ls.length) (hu : us.getD k undef = .slice (some ⟨g, 0, none⟩) n cap) :
    Lv (w.setCell ⟨g, q, none⟩ (.int .i32 (-9))) B lo hi v ls k us := by
  have hub : (us.getD k undef).ownBlock = some g := by rw [hu]; rfl
  refine ⟨h.len, ?_, fun j hj => ?_, h.out, h.apart⟩
  · obtain ⟨zs, h1, h2⟩ := h.ok k hk
    refine ownsRow_setCell_other h.row ?_ _
    intro e
    rcases types_apart (by decide) h2.row h.row with h' | h'
    · rw [hub] at h'; cases h'
    · exact h' (by rw [hub, e])
  · obtain ⟨zs, h1, h2⟩ := h.ok j hj
    by_cases hjk : j = k
    · subst hjk
      rw [if_neg (by omega)] at h2
      have hl := h2.2.1
      have hrow := h2.row
      rw [hu] at hrow
      have hn : n = zs.length := by
        rcases hrow.2 with ⟨h0, _⟩ | ⟨g', cap', cur, hv', _⟩
        · cases h0
        · simp only [Value.slice.injEq] at hv'; omega
      subst hn
      have ST := (hrow.stored q (.int .i32 (-9))).1
      rw [← List.map_set] at ST
      refine ⟨zs.set q (-9), by simp [h1], ?_⟩
      rw [if_neg (by omega), hu]
      refine ⟨?_, ?_⟩
      · intro z hz
        rcases List.mem_or_eq_of_mem_set hz with hz | hz
        · exact h2.1 z hz
        · subst hz; exact i32_fit (by omega)
      · refine ⟨by simpa using hl, ?_⟩
        have e : ((zs.set q (-9)).map (Value.int .i32)).length = zs.length := by simp
        rw [e]; exact ST
    · refine ⟨zs, h1, h2.1, h2.2.1, ownsRow_setCell_other h2.2.2 ?_ _⟩
      intro e
      rcases Nat.lt_or_ge j k with hlt | hge
      · exact h.apart j k g hlt hk e hub
      · exact h.apart k j g (by omega) hj hub e

/-- The k-th list has grown by two: before its new value is stored. -/
theorem Lv.grown {w w9 : World} {B lo hi : Nat} {v v9 : Value} {ls : List (List Int)} {k gl cl : Nat} {us : List Value} {zs : List Int} {o : Obj} (h : Lv w B lo hi v ls k us) (hk : k < ls.length) (hv : v = .slice (some ⟨gl, 0, none⟩) ls.length cl)
    (hzl : zs.length = (ls.getD k []).length) (hokk : Ok .i32 21 w B (us.getD k undef) zs) (hl : zs.length ≤ 1000000000) (hhi : hi ≤ w.heap.size) (hrow9 : w9.ownsRow B 21 1 v9 (zs.length + 2) (zs.map (Value.int .i32) ++ [.int .i32 (-9), .int .i32 (-9)])) (hg : (w.alloc o).grownBy w9 (us.getD k undef).ownBlock)
    (hat : v9.ownBlock = (us.getD k undef).ownBlock ∨ v9.ownBlock = some (w.heap.size + 1)) :
    w9.ownsRow B 22 1 v ls.length us ∧ Lv (w9.setCell ⟨gl, k, none⟩ v9) B lo hi v ls (k + 1) (us.set k v9) := by
  have hzs2 := hrow9
  have hrl : w9.ownsRow B 22 1 v ls.length us := by
    refine (h.row.alloc o).kept hg ?_
    rcases types_apart (by decide) hokk.row h.row with h' | h'
    · rw [h']; cases hb : v.ownBlock <;> simp
    · exact .inr (fun e => h' e.symm)
  refine ⟨hrl, ?_⟩
  have hvb : v.ownBlock = some gl := by rw [hv]; rfl
  have e1 : ∀ j, j < ls.length → (us.set k v9).getD j undef = if j = k then v9 else us.getD j undef := by
    intro j hj
    by_cases hjk : j = k
    · subst hjk; simp [List.getD, h.len, hj]
    · simp [List.getD, List.getElem?_set_ne (Ne.symm hjk), hjk]
  have hfit9 : Fit .i32 (zs ++ [-9, -9]) := hokk.1.app (by intro z hz; simp at hz; subst hz; exact i32_fit (by omega))
  have ok9 : Ok .i32 21 w9 B v9 (zs ++ [-9, -9]) := Ok.of hfit9 (by simp; omega) hzs2 (by simp) (by simp)
  have hnewb : ∀ b, v9.ownBlock = some b → (us.getD k undef).ownBlock = some b ∨ b = w.heap.size + 1 := by
    intro b hb
    rcases hat with h' | h'
    · exact .inl (by rw [← h']; exact hb)
    · rw [h'] at hb; simp only [Option.some.injEq] at hb; exact .inr (by omega)
  refine ⟨by simp [h.len], ?_, fun j hj => ?_, fun j hj b hb => ?_, fun i j b hij hj hb => ?_⟩
  · have := (by rw [hv] at hrl; exact hrl.stored k v9 : _)
    have ST := this.1
    rw [hv]; exact ST
  · rw [e1 j hj]
    by_cases hjk : j = k
    · rw [if_pos hjk]
      subst hjk
      refine ⟨zs, hzl, ?_⟩
      rw [if_pos (by omega)]
      refine ⟨ok9.1, ok9.2.1, ownsRow_setCell_other ok9.2.2 ?_ _⟩
      intro e
      rcases types_apart (by decide) ok9.row hrl with h' | h'
      · rw [h'] at e; cases e
      · exact h' (by rw [e, hvb])
    · rw [if_neg hjk]
      obtain ⟨ys, h1, h2⟩ := h.ok j hj
      refine ⟨ys, h1, ?_⟩
      rw [show (if j < k + 1 then ys ++ [-9, -9] else ys) = (if j < k then ys ++ [-9, -9] else ys) by
        rcases Nat.lt_or_ge j k with a | a
        · rw [if_pos a, if_pos (by omega)]
        · rw [if_neg (by omega), if_neg (by omega)]]
      have h9 : Ok .i32 21 w9 B (us.getD j undef) (if j < k then ys ++ [-9, -9] else ys) := by
        refine ⟨h2.1, h2.2.1, (h2.2.2.alloc o).kept hg ?_⟩
        cases hb : (us.getD j undef).ownBlock with
        | none => exact .inl rfl
        | some b =>
          refine .inr (fun e => ?_)
          rcases Nat.lt_or_ge j k with a | a
          · exact h.apart j k b a hk hb e.symm
          · exact h.apart k j b (by omega) hj e.symm hb
      refine ⟨h9.1, h9.2.1, ownsRow_setCell_other h9.2.2 ?_ _⟩
      intro e
      rcases types_apart (by decide) h9.row hrl with h' | h'
      · rw [h'] at e; cases e
      · exact h' (by rw [e, hvb])
  · rw [e1 j hj] at hb
    by_cases hjk : j = k
    · rw [if_pos hjk] at hb
      rcases hnewb b hb with h' | h'
      · exact h.out k hk b h'
      · omega
    · rw [if_neg hjk] at hb
      exact h.out j hj b hb
  · rw [e1 i (by omega)] at hb
    rw [e1 j hj]
    have hold : ∀ m, m < ls.length → ∀ b, (us.getD m undef).ownBlock = some b → b < w.heap.size := fun m hm b hb => by
      obtain ⟨ys, _, h2⟩ := h.ok m hm
      exact (h2.row.lt b hb).2
    by_cases hik : i = k
    · rw [if_pos hik] at hb
      rw [if_neg (by omega)]
      intro hb2
      rcases hnewb b hb with h' | h'
      · subst hik; exact h.apart i j b hij hj h' hb2
      · have := hold j hj b hb2; omega
    · rw [if_neg hik] at hb
      by_cases hjk : j = k
      · rw [if_pos hjk]
        intro hb2
        rcases hnewb b hb2 with h' | h'
        · subst hjk; exact h.apart i j b hij hk hb h'
        · have := hold i (by omega) b hb; omega
      · rw [if_neg hjk]
        exact h.apart i j b hij hj hb
end Go.Proofs.Ytchjnplceelgoaa
