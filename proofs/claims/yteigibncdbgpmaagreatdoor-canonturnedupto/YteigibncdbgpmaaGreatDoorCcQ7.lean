/- newIndex: what its sorted lists come to. -/
import Derived.Test.YteigibncdbgpmaaGreatDoorCcO7
namespace Go.Proofs.YteigibncdbgpmaaGreatDoor
namespace Cn
theorem fam_two {k : Int} (h : fam k = 2) : k = 6 := by
  revert h
  unfold fam
  split
  · intro e; omega
  · split
    · intro e; omega
    · split
      · intro _; assumption
      · split <;> (intro e; omega)
theorem fam_three' {k : Int} (h : fam k = 3) : k = 7 ∨ k = 8 := by
  revert h
  unfold fam
  split
  · intro e; omega
  · split
    · intro e; omega
    · split
      · intro e; omega
      · split <;> (intro e; omega)
def Apart2 (a b : Rec) : Prop := right a = 0 ∧ right b = 0 ∧ clash a b = false
theorem sorted_ordered {f : Int} (hf : f = 2 ∨ f = 3) {l cs : List Rec} {p : Rec → Bool} (hl : (check6 l).2 = 0) (hp : ∀ r, p r = true ↔ fam r.kind = f) (hper : cs.Perm (l.filter p)) (hs : cs.Pairwise fun a b => a.lo ≤ b.lo) : Ordered f cs ∧ ∀ r, r ∈ cs ↔ r ∈ l ∧ fam r.kind = f := by
  obtain ⟨_, hr, hc⟩ := check6_iff.1 hl
  have hm : ∀ r, r ∈ cs ↔ r ∈ l ∧ fam r.kind = f := fun r => by rw [hper.mem_iff, List.mem_filter, hp]
  have h1 : l.Pairwise Apart2 := hc.imp_of_mem fun {a b} ha hb h => ⟨hr a ha, hr b hb, h⟩
  have h2 : (l.filter p).Pairwise Apart2 := h1.filter p
  have h3 : cs.Pairwise Apart2 := (hper.pairwise_iff (fun {x y} ⟨a, b, c⟩ => ⟨b, a, clash_no a b c⟩)).2 h2
  exact ⟨ordered_of hf (fun r hrc => ⟨hr r ((hm r).1 hrc).1, ((hm r).1 hrc).2⟩) (h3.imp fun ⟨_, _, c⟩ => c) hs, hm⟩
end Cn
end Go.Proofs.YteigibncdbgpmaaGreatDoor
