/- The contract of wire.Text. -/
import Derived.Test.YtmdbdfigpccbpaaMake
import Derived.Test.YtmdbdfigpccbpaaConv
import Derived.Lib.AppendStr
namespace Go.Proofs.Ytmdbdfigpccbpaa
open Go.RowKit

/-- A string's bytes as numbers. -/
def nums (s : ByteArray) : List Int := s.data.toList.map fun b => (b.toNat : Int)

theorem nums_length (s : ByteArray) : (nums s).length = s.size := by
  rw [nums, List.length_map, Array.length_toList]; rfl
theorem nums_byt (s : ByteArray) : Byt (nums s) := by
  intro z hz
  obtain ⟨b, _, rfl⟩ := List.mem_map.1 hz
  have := b.toNat_lt
  omega
theorem nums_cells (s : ByteArray) : Lib.strCells s = (nums s).map (Value.int .u8) := by
  simp [Lib.strCells, nums]
theorem strOf_nums (s : ByteArray) : strOfNums (nums s) = s := by
  apply ByteArray.ext
  apply Array.toList_inj.1
  rw [strOfNums_data, nums, List.map_map]
  conv => rhs; rw [← List.map_id s.data.toList]
  apply List.map_congr_left
  intro x _
  simp
theorem ub_len (f : Nat) (n : Int) : (Ref.ub f n).length ≤ f + 1 := by
  induction f generalizing n with
  | zero => simp [Ref.ub]
  | succ f ih =>
    have := ih (n / 128)
    simp only [Ref.ub]
    split
    · simp
    · simp; omega
theorem uint_len (n : Int) : (Ref.uint n).length ≤ 9 := by
  unfold Ref.uint
  split
  · simp
  · exact ub_len 8 n

theorem Byt.append {a b : List Int} (h : Byt a) (k : Byt b) : Byt (a ++ b) := by
  intro z hz
  rcases List.mem_append.1 hz with hz | hz
  · exact h z hz
  · exact k z hz

set_option maxHeartbeats 400000 in
theorem text_any (s : ByteArray) (w : World) (hs : s.size ≤ 140737488351232) :
    Calls Try.prog 19 #[.string s] w fun e w' => ∃ v, e = .returned v ∧ Own w' w.heap.size v (Ref.uint s.size ++ nums s) ∧ Below w.heap.size w w' := by
  obtain ⟨i0, hi, hz0, hz1, hz2⟩ := info_parts Try.info5
  have hul := uint_len s.size
  go_enter Try.func19, Try.ntmps19
  go_wp2_with fail
  refine (uint_any _ _ (by omega)).mono ?_
  rintro e w1 ⟨v, rfl, hown, hb⟩
  have hsz := hb.size
  have ho := hown.2.2
  go_wp2_with (at_builtin; refine Lib.wpList_append_own_string _ rfl (.tmp 5) (.tmp 6) 22 9 rfl w.heap.size 5 i0 Try.underlying22 Try.underlying9 hi hz0 hz1 hz2 _ _ _ rfl ho s rfl (by unfold maxLen; omega) (by omega) hsz ?_)
  intro v2 w2 hown2 hg2 _
  have R : Own w2 w.heap.size v2 (Ref.uint s.size ++ nums s) ∧ Below w.heap.size w w2 := by
    refine ⟨⟨hown.1.append (nums_byt s), by simp [nums_length]; omega, ?_⟩, hb.grown hg2 hsz (fun k hk => (ho.lt k hk).1)⟩
    rw [List.length_append, nums_length, List.map_append, ← nums_cells]
    exact hown2
  clear hown2 hg2 ho hown
  go_wp2
  go_ret
  exact ⟨_, rfl, R⟩
end Go.Proofs.Ytmdbdfigpccbpaa
