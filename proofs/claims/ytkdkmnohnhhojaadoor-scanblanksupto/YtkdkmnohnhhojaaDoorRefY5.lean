/- The contract of the document's own Words. -/
import Derived.Test.YtkdkmnohnhhojaaDoorRefX5
namespace Go.Proofs.YtkdkmnohnhhojaaDoor
open Go.RowKit

theorem Tryd.info53 : (Tryd.prog.info? 53).map (fun i => (i.zero, i.size, i.bytes)) = some (some (.agg #[.string ⟨#[]⟩, .int .i64 0]), 2, 24) := by kernel_rfl
/-- Words and their places, as values. -/
def wvals (ws : List (List Int × Nat)) : List Value := ws.flatMap fun p => [Value.string (strOfNums p.1), Value.int .i64 (p.2 : Int)]
theorem wvals_snoc (ws : List (List Int × Nat)) (s : ByteArray) (a : Nat) {l : List Int} (h : nums s = l) : wvals ws ++ [.string s, .int .i64 (a : Int)] = wvals (ws ++ [(l, a)]) := by
  rw [wvals, wvals, List.flatMap_append, ← h]
  simp [strOf_nums]
theorem word_one (s : ByteArray) (a : Int) : ∀ u ∈ [Value.string s, Value.int .i64 a], u.oneCell' = true := by
  intro u hu
  simp at hu
  rcases hu with rfl | rfl <;> rfl
theorem word_new (w : World) (e : TypeId) (s : ByteArray) (a : Int) : ∀ j u, [Value.string s, Value.int .i64 a][j]? = some u → (w.alloc (.cells #[.string s, .int .i64 a] e)).cell? ((⟨w.heap.size, 0, none⟩ : Addr).add j) = some u := by
  intro j u hj
  match j, hj with
  | 0, hj => simp at hj; subst hj; simp [World.cell?, World.alloc, Addr.add, -World.alloc_eq]
  | 1, hj => simp at hj; subst hj; simp [World.cell?, World.alloc, Addr.add, -World.alloc_eq]
  | j + 2, hj => simp at hj
theorem below_append2 {e : TypeId} {sz : Nat} {w wr w1 : World} {v : Value} {us : List Value} {n : Nat} {o : Obj} {B : Nat} (hB : B ≤ wr.heap.size) (hown : wr.ownsRow B e sz v n us)
    (hbel : Below B w wr) (hg : (wr.alloc o).grownBy w1 v.ownBlock) : Below B w w1 :=
  (hbel.alloc hB o).grown hg (by simp; omega) (fun k hk => (hown.lt k hk).1)
/-- Words in memory of the call's own, and where they end. -/
def WordsNew (t : TypeId) (w : World) (ws : List (List Int × Nat)) (n : Nat) (e : Ending) (w' : World) : Prop := ∃ v, e = .returned (.tuple #[v, .int .i64 (n : Int)]) ∧ w'.ownsRow w.heap.size t 2 v ws.length (wvals ws) ∧ Below w.heap.size w w'

theorem refBlank_any (c : Int) (w : World) (h : 0 ≤ c ∧ c ≤ 255) : Calls Tryd.prog 31 #[.int .u8 c] w fun e w' => e = .returned (.bool (Scn.isBlank c)) ∧ w' = w := by
  obtain ⟨h1, h2⟩ := h
  unfold Scn.isBlank
  by_cases a1 : c = 32
  · subst a1
    go_enter Tryd.func31, Tryd.ntmps31
    go_wp2
    go_ret
    exact ⟨rfl, rfl⟩
  · have e1 : (c == 32) = false := beq_eq_false_iff_ne.2 a1
    by_cases a2 : c = 9
    · subst a2
      go_enter Tryd.func31, Tryd.ntmps31
      go_wp2
      go_ret
      exact ⟨rfl, rfl⟩
    · have e2 : (c == 9) = false := beq_eq_false_iff_ne.2 a2
      go_enter Tryd.func31, Tryd.ntmps31
      go_wp2
      go_ret
      exact ⟨by simp [e1, e2], rfl⟩
end Go.Proofs.YtkdkmnohnhhojaaDoor
