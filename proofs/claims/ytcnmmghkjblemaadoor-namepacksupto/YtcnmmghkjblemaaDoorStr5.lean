/- Strings as lists of numbers. -/
import Derived.Test.YtcnmmghkjblemaaDoorSeq
namespace Go.Proofs.YtcnmmghkjblemaaDoor
open Go.RowKit

def Byt (zs : List Int) : Prop := ∀ z ∈ zs, 0 ≤ z ∧ z ≤ 255
theorem Byt.at {zs} (h : Byt zs) k : 0 ≤ zs.getD k 0 ∧ zs.getD k 0 ≤ 255 := by
  rcases Nat.lt_or_ge k zs.length with hk | hk
  · simp only [List.getD, List.getElem?_eq_getElem hk, Option.getD_some]; exact h _ (List.getElem_mem hk)
  · grind
def nums (s : ByteArray) : List Int := s.data.toList.map fun b => (b.toNat : Int)
theorem nums_length s : (nums s).length = s.size := by
  rw [nums, List.length_map, Array.length_toList]; rfl
theorem nums_byt s : Byt (nums s) := by
  intro z hz
  obtain ⟨b, _, rfl⟩ := List.mem_map.1 hz
  have := b.toNat_lt
  omega
theorem nums_at s k (hk : k < s.size) : ((s[k]'hk).toNat : Int) = (nums s).getD k 0 := by
  have h : k < s.data.size := hk
  have e : (nums s)[k]? = some ((s.data[k]'h).toNat : Int) := by
    rw [nums, List.getElem?_map, Array.getElem?_toList, Array.getElem?_eq_getElem h]; rfl
  rw [List.getD, e]; rfl
theorem run_at s (i : Int) (k : Nat) (hi : i = k) (hk : k < s.size) w : (Instr.index 9 (.string s) (.int .i64 i)).run Tryd.prog w = .ok (.int .u8 ((nums s).getD k 0)) w := by
  subst hi
  rw [run_index_string w 9 s .i64 (k : Int) Tryd.underlying9, dif_pos (by omega), ← nums_at s k hk]
  simp
theorem nums_cut s a b : nums (s.extract a b) = ((nums s).drop a).take (b - a) := by
  rw [nums, nums, ByteArray.data_extract, Array.toList_extract, List.extract_eq_take_drop, List.map_take, List.map_drop]
theorem nums_append a b : nums (a ++ b) = nums a ++ nums b := by
  rw [nums, nums, nums, ByteArray.data_append, Array.toList_append, List.map_append]
theorem nums_inj {a b} (h : nums a = nums b) : a = b := by
  apply ByteArray.ext
  apply Array.toList_inj.1
  exact List.map_inj_right (fun x y e => by
    have : x.toNat = y.toNat := by omega
    exact UInt8.toNat_inj.1 this) |>.1 h
end Go.Proofs.YtcnmmghkjblemaaDoor
