/- The contract of the document's own PrintWhole. -/
import Derived.Test.YtkdkmnohnhhojaaDoorRefP5
import Derived.Laws.BytesArg
namespace Go.Proofs.YtkdkmnohnhhojaaDoor
open Go.RowKit

/-- A text of these bytes; what was there stays. -/
def TextNew (w : World) (zs : List Int) (e : Ending) (w' : World) : Prop := ∃ t : ByteArray, nums t = zs ∧ e = .returned (.string t) ∧ Below w.heap.size w w'
theorem TextIs.new {w w' : World} {zs : List Int} {e : Ending} (h : TextIs w zs e w') : TextNew w zs e w' := by
  obtain ⟨t, h1, h2, rfl⟩ := h
  exact ⟨t, h1, h2, Below.refl _ _⟩

theorem nums_strOf {zs : List Int} (h : Byt zs) : nums (strOfNums zs) = zs := by
  rw [nums, strOfNums_data, List.map_map]
  refine (List.map_congr_left fun z hz => ?_).trans (List.map_id zs)
  have := h z hz
  simp only [Function.comp, id]
  rw [UInt8.toNat_ofNat']
  omega
theorem conv_one (w : World) (b : Int) : (convert 48 9 (.slice (some ⟨w.heap.size, 0, none⟩) 1 1)).run Tryd.prog (w.alloc (.cells #[.int .u8 b] 5)) = .ok (.string (strOfNums [b])) (w.alloc (.cells #[.int .u8 b] 5)) := by
  refine run_convert_bytes_arg _ 48 5 Tryd.underlying48 Tryd.underlying5 w.heap.size 0 1 1 [b] rfl ?_ 9 Tryd.underlying9
  intro i hi
  obtain rfl : i = 0 := by simp at hi; omega
  simp [World.cell?, World.alloc, -World.alloc_eq]

set_option maxHeartbeats 1000000 in
theorem refPrintWhole_any (n : Int) (w : World) (h : -9223372036854775808 ≤ n ∧ n ≤ 9223372036854775807) : Calls Tryd.prog 28 #[.int .i64 n] w (TextNew w (Scn.pwhole n)) := by
  obtain ⟨h1, h2⟩ := h
  by_cases a1 : n = 0
  · subst a1
    have HF : TextNew w (Scn.pwhole 0) (.returned (.string ⟨#[48]⟩)) w := ⟨_, rfl, rfl, Below.refl _ _⟩
    go_enter Tryd.func28, Tryd.ntmps28
    go_wp2
    go_ret
    exact HF
  · have hne : (n == 0) = false := beq_eq_false_iff_ne.2 a1
    by_cases a2 : n < 0
    · have hp : Scn.pwhole n = 45 :: Scn.decW 20 (-n) [] := by unfold Scn.pwhole; rw [if_neg a1, if_pos a2]
      rw [hp]
      clear hp
      go_enter Tryd.func28, Tryd.ntmps28
      go_wp2
      go_loopw [3, 5] (fun uv sv wr => ∃ (f : Nat) (m : Int) (t : ByteArray), uv = .int .u64 m ∧ sv = .string t ∧ 0 ≤ m ∧ m ≤ 9223372036854775808 ∧ m < ((10 ^ f : Nat) : Int) ∧ t.size + f = 20 ∧ Scn.decW 20 (-n) [] = Scn.decW f m (nums t) ∧ Below w.heap.size w wr) (fun uv sv _ => 20 - (match sv with | .string t => t.size | _ => 0))
      case atStart => exact ⟨20, -n, ⟨#[]⟩, by go_num, rfl, by omega, by omega, by omega, rfl, rfl, Below.refl _ _⟩
      case round =>
        obtain ⟨f, m, t, rfl, rfl, m1, m2, m3, hts, hx, hbel⟩ := hrel
        by_cases b1 : 0 < m
        · have hcv := conv_one wr (48 + m % 10)
          have hf1 : 1 ≤ f := by
            rcases Nat.eq_zero_or_pos f with rfl | h
            · simp at m3; omega
            · exact h
          obtain ⟨g, rfl⟩ : ∃ g, f = g + 1 := ⟨f - 1, by omega⟩
          have hpw : 10 ^ (g + 1) = 10 ^ g * 10 := Nat.pow_succ _ _
          have HN4 : Hid (m / 10 < ((10 ^ g : Nat) : Int)) := by show m / 10 < _; rw [hpw] at m3; omega
          have hsg : nums (strOfNums [48 + m % 10]) = [48 + m % 10] := nums_strOf (fun z hz => by simp at hz; omega)
          have hsz : (strOfNums [48 + m % 10]).size = 1 := by rw [strOfNums_size]; rfl
          have HX : Hid (Scn.decW 20 (-n) [] = Scn.decW g (m / 10) (nums (strOfNums [48 + m % 10] ++ t))) := by show _ = _; rw [nums_append, hsg, hx, Scn.decW, if_pos b1]; rfl
          have HB : Hid (Below w.heap.size w (wr.alloc (.cells #[.int .u8 (48 + m % 10)] 5))) := hbel.alloc hbel.size _
          clear hx hsg hpw m3 hbel
          generalize strOfNums [48 + m % 10] = sg at *
          go_wp2
          go_roundw
          case rel => exact ⟨g, m / 10, _, rfl, rfl, by omega, by omega, unhide HN4, by rw [ByteArray.size_append]; omega, unhide HX, unhide HB⟩
          case measure => simp only [ByteArray.size_append]; omega
        · obtain rfl : m = 0 := by omega
          have hend : Scn.decW 20 (-n) [] = nums t := by rw [hx]; cases f <;> simp [Scn.decW]
          have HF : TextNew w (45 :: Scn.decW 20 (-n) []) (.returned (.string (⟨#[45]⟩ ++ t))) wr := ⟨_, by rw [nums_append, hend]; rfl, rfl, hbel⟩
          clear hx hend m3
          go_wp2
          go_ret
          exact HF
    · have hp : Scn.pwhole n = Scn.decW 20 n [] := by unfold Scn.pwhole; rw [if_neg a1, if_neg a2]
      rw [hp]
      clear hp
      go_enter Tryd.func28, Tryd.ntmps28
      go_wp2
      go_loopw [3, 5] (fun uv sv wr => ∃ (f : Nat) (m : Int) (t : ByteArray), uv = .int .u64 m ∧ sv = .string t ∧ 0 ≤ m ∧ m ≤ 9223372036854775808 ∧ m < ((10 ^ f : Nat) : Int) ∧ t.size + f = 20 ∧ Scn.decW 20 (n) [] = Scn.decW f m (nums t) ∧ Below w.heap.size w wr) (fun uv sv _ => 20 - (match sv with | .string t => t.size | _ => 0))
      case atStart => exact ⟨20, n, ⟨#[]⟩, by go_num, rfl, by omega, by omega, by omega, rfl, rfl, Below.refl _ _⟩
      case round =>
        obtain ⟨f, m, t, rfl, rfl, m1, m2, m3, hts, hx, hbel⟩ := hrel
        by_cases b1 : 0 < m
        · have hcv := conv_one wr (48 + m % 10)
          have hf1 : 1 ≤ f := by
            rcases Nat.eq_zero_or_pos f with rfl | h
            · simp at m3; omega
            · exact h
          obtain ⟨g, rfl⟩ : ∃ g, f = g + 1 := ⟨f - 1, by omega⟩
          have hpw : 10 ^ (g + 1) = 10 ^ g * 10 := Nat.pow_succ _ _
          have HN4 : Hid (m / 10 < ((10 ^ g : Nat) : Int)) := by show m / 10 < _; rw [hpw] at m3; omega
          have hsg : nums (strOfNums [48 + m % 10]) = [48 + m % 10] := nums_strOf (fun z hz => by simp at hz; omega)
          have hsz : (strOfNums [48 + m % 10]).size = 1 := by rw [strOfNums_size]; rfl
          have HX : Hid (Scn.decW 20 (n) [] = Scn.decW g (m / 10) (nums (strOfNums [48 + m % 10] ++ t))) := by show _ = _; rw [nums_append, hsg, hx, Scn.decW, if_pos b1]; rfl
          have HB : Hid (Below w.heap.size w (wr.alloc (.cells #[.int .u8 (48 + m % 10)] 5))) := hbel.alloc hbel.size _
          clear hx hsg hpw m3 hbel
          generalize strOfNums [48 + m % 10] = sg at *
          go_wp2
          go_roundw
          case rel => exact ⟨g, m / 10, _, rfl, rfl, by omega, by omega, unhide HN4, by rw [ByteArray.size_append]; omega, unhide HX, unhide HB⟩
          case measure => simp only [ByteArray.size_append]; omega
        · obtain rfl : m = 0 := by omega
          have hend : Scn.decW 20 (n) [] = nums t := by rw [hx]; cases f <;> simp [Scn.decW]
          have HF : TextNew w (Scn.decW 20 n []) (.returned (.string (t))) wr := ⟨_, hend.symm, rfl, hbel⟩
          clear hx hend m3
          go_wp2
          go_ret
          exact HF
end Go.Proofs.YtkdkmnohnhhojaaDoor
