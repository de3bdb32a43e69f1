/- The contract of scan's Words. -/
import Derived.Test.YtkdkmnohnhhojaaDoorRng5
import Derived.Test.YtkdkmnohnhhojaaDoorRefY5
namespace Go.Proofs.YtkdkmnohnhhojaaDoor
open Go.RowKit

theorem Tryd.info34 : (Tryd.prog.info? 34).map (fun i => (i.zero, i.size, i.bytes)) = some (some (.agg #[.string ⟨#[]⟩, .int .i64 0]), 2, 24) := by kernel_rfl
theorem withWord_none (v : Value) (s : ByteArray) (k : Int) (w : World) : Calls Tryd.prog 41 #[v, .string s, .int .i64 (-1), .int .i64 k] w fun e w' => e = .returned v ∧ w' = w := by
  go_enter Tryd.func41, Tryd.ntmps41
  go_wp2
  go_ret
  exact ⟨rfl, rfl⟩
set_option maxHeartbeats 1000000 in
theorem withWord_more (B : Nat) (v : Value) (ws : List (List Int × Nat)) (s : ByteArray) (j k : Nat) (w : World) (how : w.ownsRow B 34 2 v ws.length (wvals ws)) (hB : B ≤ w.heap.size) (hjk : j ≤ k) (hk : k ≤ s.size) (hwl : ws.length ≤ 1000000000) :
    Calls Tryd.prog 41 #[v, .string s, .int .i64 (j : Int), .int .i64 (k : Int)] w fun e w' => ∃ v', e = .returned v' ∧ w'.ownsRow B 34 2 v' (ws ++ [(Scn.cut (nums s) j k, j)]).length (wvals (ws ++ [(Scn.cut (nums s) j k, j)])) ∧ Below B w w' := by
  obtain ⟨i0, hi, hz0, hz1, hz2⟩ := info_parts Tryd.info34
  have hne : (((j : Int)) == -1) = false := beq_eq_false_iff_ne.2 (by omega)
  go_enter Tryd.func41, Tryd.ntmps41
  go_wp2_with (at_builtin; refine wpList_append_own _ rfl (.tmp 12) (.tmp 19) 26 rfl B 34 i0 (.agg #[.string ⟨#[]⟩, .int .i64 0]) 2 24 Tryd.underlying26 hi hz0 hz1 hz2 rfl (by decide) _ _ _ rfl (how.alloc _) ⟨w.heap.size, 0, none⟩ 1 1 [.string (s.extract j k), .int .i64 (j : Int)] rfl rfl (word_new _ _ _ _) (word_one _ _) (by unfold maxLen; omega) (by omega) (by simp; omega) ?_)
  intro v9 w9 hrow9 hg9 _
  have hb9 : Below B w w9 := below_append2 hB how (Below.refl _ _) hg9
  rw [wvals_snoc ws _ j (nums_cut s j k)] at hrow9
  have HF : ∃ v', Ending.returned v9 = .returned v' ∧ w9.ownsRow B 34 2 v' (ws ++ [(Scn.cut (nums s) j k, j)]).length (wvals (ws ++ [(Scn.cut (nums s) j k, j)])) ∧ Below B w w9 := ⟨v9, rfl, by simpa [Scn.cut] using hrow9, hb9⟩
  clear hrow9 hg9 how hb9
  go_wp2
  go_ret
  exact HF
end Go.Proofs.YtkdkmnohnhhojaaDoor
