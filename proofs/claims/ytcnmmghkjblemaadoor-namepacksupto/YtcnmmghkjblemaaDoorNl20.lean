/- The program's Labels and Parent. -/
import Derived.Test.YtcnmmghkjblemaaDoorNk20
import Derived.Test.YtcnmmghkjblemaaDoorNi20
namespace Go.Proofs.YtcnmmghkjblemaaDoor
open Go.RowKit

/-- The package-level variable that the searches read: the bound of short ones, any int. -/
def Gl20 (w : World) : Prop := ∃ m, w.cell? ⟨0, 0, none⟩ = some (.int .i64 m)
theorem Gl20.on {w w' : World} (h : Gl20 w) (hb : Below w.heap.size w w') : Gl20 w' := by
  obtain ⟨m, h1⟩ := h
  exact ⟨m, by rw [hb.cell (lt_of_cell? h1)]; exact h1⟩
def SpltC20 : Prop := ∀ (s : ByteArray) (w : World), s.size ≤ 1000000000 → Gl20 w → Calls Tryd.prog 28 #[.string s, .string ⟨#[46]⟩] w (TxtB20 w (Na.spl (nums s)))
def CutP20 (w : World) (s : ByteArray) (e : Ending) (w' : World) : Prop := ∃ (b a : ByteArray) (f : Bool), e = .returned (.tuple #[.string b, .string a, .bool f]) ∧ nums a = Na.par (nums s) ∧ ∃ m, w' = w.drewN m
def CutC20 : Prop := ∀ (s : ByteArray) (w : World), s.size ≤ 1000000000 → Gl20 w → Calls Tryd.prog 29 #[.string s, .string ⟨#[46]⟩] w (CutP20 w s)
theorem labels20 (K : SpltC20) (s : ByteArray) (w : World) (hs : s.size ≤ 1000000000) (hg : Gl20 w) : Calls Tryd.prog 14 #[.string s] w (TxtB20 w (Na.lab (nums s))) := by
  have hlen := nums_length s
  have KS := hide (K s w hs hg)
  by_cases h0 : s.size = 0
  · have hn : nums s = [] := List.eq_nil_of_length_eq_zero (by omega)
    have hse : s = ⟨#[]⟩ := nums_inj (by rw [hn]; rfl)
    subst hse
    have HF : Hid (TxtB20 w (Na.lab (nums ⟨#[]⟩)) (.returned (.slice none 0 0)) w) := ⟨_, rfl, ⟨by simp [txt20, Na.lab, nums], World.ownsRow_nil _ _ _ _⟩, Below.refl _ _⟩
    generalize Na.lab (nums ⟨#[]⟩) = q at *
    clear KS
    go_enter Tryd.func14, Tryd.ntmps14
    go_wp2
    go_ret
    exact unhide HF
  · have hl0 : ¬ s.toList = [] := list_ne20 h0
    have hne : (s.toList == []) = false := by rw [beq_eq_false_iff_ne]; exact hl0
    have hne2 : s.toList.isEmpty = false := by
      cases e : s.toList with
      | nil => exact absurd e hl0
      | cons => rfl
    have hlab : Na.lab (nums s) = Na.spl (nums s) := by unfold Na.lab; rw [if_neg (fun e => h0 (by rw [e] at hlen; simpa using hlen.symm))]
    rw [hlab]
    clear hlab
    generalize Na.spl (nums s) = q at *
    go_enter Tryd.func14, Tryd.ntmps14
    go_wp2_with fail
    refine (unhide KS).mono ?_
    rintro e w1 ⟨v, rfl, h⟩
    clear KS
    go_wp2
    go_ret
    exact ⟨v, rfl, h⟩
def ParD20 (w : World) (l : List Int) (b : Bool) (e : Ending) (w' : World) : Prop := ∃ t : ByteArray, e = .returned (.tuple #[.string t, .bool b]) ∧ nums t = l ∧ ∃ m, w' = w.drewN m
theorem parent20 (K : CutC20) (s : ByteArray) (w : World) (hs : s.size ≤ 1000000000) (hg : Gl20 w) : Calls Tryd.prog 18 #[.string s] w (ParD20 w (Na.par (nums s)) (decide (nums s ≠ []))) := by
  have KS := hide (K s w hs hg)
  rw [← ne_str20]
  go_enter Tryd.func18, Tryd.ntmps18
  go_wp2_with fail
  refine (unhide KS).mono ?_
  rintro e w1 ⟨b, a, f, rfl, ha, hd⟩
  clear KS
  go_wp2
  go_ret2
  exact ⟨a, rfl, ha, hd⟩
end Go.Proofs.YtcnmmghkjblemaaDoor
