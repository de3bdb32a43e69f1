/- The program's Pack. -/
import Derived.Test.YtcnmmghkjblemaaDoorNl20
import Derived.Lib.AppendStr
namespace Go.Proofs.YtcnmmghkjblemaaDoor
open Go.RowKit

theorem inf8_20 : (Tryd.prog.info? 5).map (fun i => (i.zero, i.size, i.bytes)) = some (some (.int .u8 0), 1, 1) := by kernel_rfl
namespace Na
def bod (l : List (List Int)) : List Int := l.flatMap fun a => (a.length : Int) :: a
theorem enc_bod (l : List (List Int)) : enc l = bod l ++ [0] := rfl
theorem bod_app (l r : List (List Int)) : bod (l ++ r) = bod l ++ bod r := by simp [bod]
theorem bod_snoc {X : List (List Int)} {k : Nat} (hk : k < X.length) : bod (X.take (k + 1)) = bod (X.take k) ++ (((X.getD k []).length : Int) :: X.getD k []) := by
  rw [List.take_add_one, bod_app]
  simp [List.getD, hk, bod]
theorem bod_take (X : List (List Int)) (k : Nat) : (bod (X.take k)).length ≤ (bod X).length := by
  have := bod_app (X.take k) (X.drop k)
  rw [List.take_append_drop] at this
  rw [this, List.length_append]; omega
theorem all_step {X : List (List Int)} {k : Nat} (hk : k < X.length) (h : (X.take k).all okl = true) (h2 : okl (X.getD k []) = true) : (X.take (k + 1)).all okl = true := by
  rw [List.take_add_one, List.all_append, h]
  simp [List.getD, hk] at h2 ⊢
  exact h2
theorem all_not {X : List (List Int)} {k : Nat} (hk : k < X.length) (h2 : okl (X.getD k []) = false) : ¬ X.all okl = true := fun h => by
  have := List.all_eq_true.1 h (X.getD k []) (by simp [List.getD, hk])
  rw [h2] at this
  cases this
theorem bod_byt {X : List (List Int)} (h : ∀ a ∈ X, Byt a ∧ a.length ≤ 63) : Byt (bod X) := fun z hz => by
  unfold bod at hz
  rw [List.mem_flatMap] at hz
  obtain ⟨a, ha, hz⟩ := hz
  rcases List.mem_cons.1 hz with rfl | hz
  · have := (h a ha).2; omega
  · exact (h a ha).1 z hz
end Na
theorem str_cells20 (l : List Int) (h : Byt l) : Lib.strCells (strOfNums l) = l.map (Value.int .u8) := by
  have e : Lib.strCells (strOfNums l) = (nums (strOfNums l)).map (Value.int .u8) := by
    unfold Lib.strCells nums
    rw [List.map_map]; rfl
  rw [e, nums_str20 h]
/-- What Pack tells. -/
def PakP20 (w : World) (s : List Int) (e : Ending) (w' : World) : Prop := ∃ v, e = .returned (.tuple #[v, .int .i64 (Na.pkE s)]) ∧ Ok .u8 5 w' w.heap.size v (if Na.pkE s = 0 then Na.enc (Na.lab s) else []) ∧ Below w.heap.size w w'
set_option maxRecDepth 8000 in
set_option maxHeartbeats 2000000 in
theorem pack20 (K : SpltC20) (s : ByteArray) (w : World) (hs : s.size ≤ 1000000000) (hg : Gl20 w) : Calls Tryd.prog 10 #[.string s] w (PakP20 w (nums s)) := by
  obtain ⟨i0, hi, hz0, hz1, hz2⟩ := parts20 inf8_20
  have KL := hide (labels20 K s w hs hg)
  have FX := Na.lab_fine (nums_byt s) (by rw [nums_length]; exact hs)
  have HP : Hid (∀ e w', (∃ v, e = .returned (.tuple #[v, .int .i64 (Na.pkE (nums s))]) ∧ Ok .u8 5 w' w.heap.size v (if Na.pkE (nums s) = 0 then Na.enc (Na.lab (nums s)) else []) ∧ Below w.heap.size w w') → PakP20 w (nums s) e w') := fun _ _ h => h
  have H200 : Hid (¬ (Na.lab (nums s)).all Na.okl = true → Na.pkE (nums s) = 200) := fun h => by unfold Na.pkE; rw [if_neg h]
  have H2 : Hid ((Na.lab (nums s)).all Na.okl = true → ¬ s.size ≤ 253 → Na.pkE (nums s) = 2) := fun h h2 => by unfold Na.pkE; rw [if_pos h, if_neg (by rw [nums_length]; exact h2)]
  have H0 : Hid ((Na.lab (nums s)).all Na.okl = true → s.size ≤ 253 → Na.pkE (nums s) = 0 ∧ (Na.bod (Na.lab (nums s))).length ≤ 254) := fun h h2 => by
    have : Na.pkE (nums s) = 0 := by unfold Na.pkE; rw [if_pos h, if_pos (by rw [nums_length]; exact h2)]
    refine ⟨this, ?_⟩
    have := (Na.enc_len this).2
    rw [Na.enc_bod, List.length_append] at this
    simp at this; omega
  generalize Na.pkE (nums s) = pe at *
  generalize Na.lab (nums s) = X at *
  have hXl := FX.1
  go_enter Tryd.func10, Tryd.ntmps10
  go_wp2_with fail
  refine (unhide KL).mono ?_
  rintro e w1 ⟨v1, rfl, o1, b1⟩
  obtain ⟨ax, cx, rfl, _, hcx⟩ := txt_cells20 o1.sv
  have HX := hide hcx
  have HB1 := hide b1
  have hsz1 := b1.size
  clear KL o1 hcx b1
  go_wp2
  go_loopw [6, 14] (fun _ i wr => ∃ k : Nat, i = .int .i64 k ∧ k ≤ X.length ∧ (X.take k).all Na.okl = true ∧ w1 = wr) (fun _ i _ => X.length - (intOf i).toNat)
  case atStart => exact ⟨0, rfl, by omega, rfl, rfl⟩
  case round =>
    obtain ⟨k, rfl, hk, hall, rfl⟩ := hrel
    by_cases h1 : k < X.length
    · obtain ⟨bx, ox, rfl, hx⟩ := (unhide HX) k h1
      have x1 := hx w1 (Below.refl _ _)
      have I1 : (k : Int) < X.length := by omega
      have hsl := strOf_size20 (X.getD k [])
      have HO : Hid (Na.okl (X.getD k []) = true ↔ (1 ≤ (X.getD k []).length ∧ (X.getD k []).length ≤ 63)) := by
        show _ ↔ _
        unfold Na.okl
        simp
      have HA : Hid (Na.okl (X.getD k []) = true → (X.take (k + 1)).all Na.okl = true) := Na.all_step h1 hall
      have HN : Hid (Na.okl (X.getD k []) = false → pe = 200) := fun h => unhide H200 (Na.all_not h1 h)
      have HR : Hid (pe = 200 → PakP20 w (nums s) (.returned (.tuple #[.slice none 0 0, .int .i64 200])) w1) := fun h => by
        subst h
        exact unhide HP _ _ ⟨_, rfl, by rw [if_neg (by decide)]; exact Ok.nil _ _ _ _, unhide HB1⟩
      generalize Na.okl (X.getD k []) = ok at *
      generalize (X.getD k []).length = n at *
      generalize strOfNums (X.getD k []) = sl at *
      by_cases hn0 : n = 0
      · have hse : sl = ⟨#[]⟩ := nums_inj (by rw [show nums sl = [] from List.eq_nil_of_length_eq_zero (by rw [nums_length]; omega)]; rfl)
        have hp : pe = 200 := unhide HN (by
          cases ok with
          | false => rfl
          | true => have := (unhide HO).1 rfl; omega)
        have HF := hide (unhide HR hp)
        subst hse
        clear HO HA HN HR HP H200 H2 H0 HX hx hall hp
        go_wp2
        go_ret2
        exact unhide HF
      · have hl0 : ¬ sl.toList = [] := list_ne20 (by omega)
        have hne : (sl.toList == []) = false := by rw [beq_eq_false_iff_ne]; exact hl0
        have hne2 : sl.toList.isEmpty = false := by
          cases e : sl.toList with
          | nil => exact absurd e hl0
          | cons => rfl
        by_cases hn6 : n ≤ 63
        · have hal := hide (unhide HA ((unhide HO).2 (by omega)))
          have L6 : ¬ ((sl.size : Int) > 63) := by omega
          clear HO HA HN HR HP H200 H2 H0 HX hx hall
          go_wp2
          go_roundw
          case rel => exact ⟨k + 1, by go_num, by omega, unhide hal, trivial⟩
          case measure => simp [intOf]; omega
        · have hp : pe = 200 := unhide HN (by
            cases ok with
            | false => rfl
            | true => have := (unhide HO).1 rfl; omega)
          have HF := hide (unhide HR hp)
          have L6 : (sl.size : Int) > 63 := by omega
          clear HO HA HN HR HP H200 H2 H0 HX hx hall hp
          go_wp2
          go_ret2
          exact unhide HF
    · obtain rfl : k = X.length := by omega
      have hall2 : X.all Na.okl = true := by rw [List.take_length] at hall; exact hall
      by_cases h253 : s.size ≤ 253
      · obtain ⟨hp, hbl⟩ := unhide H0 hall2 h253
        subst hp
        have HOK : Hid (∀ k, k < X.length → 1 ≤ (X.getD k []).length ∧ (X.getD k []).length ≤ 63) := fun k hk => by
          have := List.all_eq_true.1 hall2 (X.getD k []) (by simp [List.getD, hk])
          unfold Na.okl at this
          simpa using this
        have HBY : Hid (∀ k, Byt (Na.bod (X.take k))) := fun k => Na.bod_byt fun a ha => by
          have h1 := List.mem_of_mem_take ha
          have := List.all_eq_true.1 hall2 a h1
          unfold Na.okl at this
          simp at this
          exact ⟨(FX.2 a h1).1, by omega⟩
        have HSN : Hid (∀ k, k < X.length → Na.bod (X.take (k + 1)) = Na.bod (X.take k) ++ (((X.getD k []).length : Int) :: X.getD k [])) := fun k hk => Na.bod_snoc hk
        have HLN : Hid (∀ k, (Na.bod (X.take k)).length ≤ 254) := fun k => Nat.le_trans (Na.bod_take X k) hbl
        have HFX := hide FX
        have HEN : Hid (Na.enc X = Na.bod X ++ [0]) := rfl
        have L6 : ¬ ((s.size : Int) > 253) := by omega
        clear H0 H2 H200 hall hall2 FX hbl
        go_wp2
        go_loopw [7, 9, 31] (fun v _ i wr => ∃ k : Nat, i = .int .i64 k ∧ k ≤ X.length ∧ wr.ownsRow w1.heap.size 5 1 v (Na.bod (X.take k)).length ((Na.bod (X.take k)).map (Value.int .u8)) ∧ Below w1.heap.size w1 wr) (fun _ _ i _ => X.length - (intOf i).toNat)
        case atStart => exact ⟨0, rfl, by omega, World.ownsRow_nil _ _ _ _, Below.refl _ _⟩
        case round =>
          obtain ⟨k, rfl, hk, how, hbel⟩ := hrel
          have hB := hbel.size
          by_cases h1 : k < X.length
          · obtain ⟨bx, ox, rfl, hx⟩ := (unhide HX) k h1
            have x1 := hx wr hbel
            have I1 : (k : Int) < X.length := by omega
            have hsl := strOf_size20 (X.getD k [])
            obtain ⟨hn1, hn2⟩ := (unhide HOK) k h1
            have hw8 : ((strOfNums (X.getD k [])).size : Int) % 256 = ((strOfNums (X.getD k [])).size : Int) := by omega
            have hl1 := (unhide HLN) k
            have HS2 := hide ((unhide HSN) k h1)
            have HC := hide (str_cells20 (X.getD k []) (Na.fine_at (unhide HFX) h1).1)
            clear HX hx HOK HSN HEN HP HBY HFX HLN
            generalize X.getD k [] = l at *
            generalize strOfNums l = sl at *
            go_wp2_with (at_builtin; refine wpList_append_own _ rfl (.tmp 35) (.tmp 39) 22 rfl w1.heap.size 5 i0 (.int .u8 0) 1 1 Tryd.underlying22 hi hz0 hz1 hz2 rfl (by decide) _ _ _ rfl (how.alloc _) ⟨wr.heap.size, 0, none⟩ 1 1 [.int .u8 (l.length : Int)] rfl rfl (one_new20 _ _ _) (int_one _ _) (by unfold maxLen; omega) (by omega) (by simp; omega) ?_)
            intro v9 w9 hrow9 hg9 _
            have hb9 : Below w1.heap.size w1 w9 := below_append hB how hbel hg9
            have hB9 := hb9.size
            clear how hg9 hbel
            go_wp2_with (at_builtin; refine Lib.wpList_append_own_string _ rfl (.tmp 41) (.tmp 42) 22 9 rfl w1.heap.size 5 i0 Tryd.underlying22 Tryd.underlying9 hi hz0 hz1 hz2 _ _ _ rfl hrow9 (sl) rfl (by unfold maxLen; omega) (by omega) hB9 ?_)
            intro v8 w8 hrow8 hg8 _
            have hb8 : Below w1.heap.size w1 w8 := below_append0 hB9 hrow9 hb9 hg8
            have HR : Hid (w8.ownsRow w1.heap.size 5 1 v8 (Na.bod (X.take (k + 1))).length ((Na.bod (X.take (k + 1))).map (Value.int .u8))) := by
              rw [unhide HC] at hrow8
              show World.ownsRow _ _ _ _ _ _ _
              rw [unhide HS2]
              simpa [Nat.add_assoc, Nat.add_comm, Nat.add_left_comm] using hrow8
            clear hrow9 hrow8 hg8 hb9 HC HS2
            go_wp2
            go_roundw
            case rel => exact ⟨k + 1, by go_num, by omega, unhide HR, hb8⟩
            case measure => simp [intOf]; omega
          · obtain rfl : k = X.length := by omega
            have hl1 := (unhide HLN) X.length
            have hb1 := (unhide HBY) X.length
            rw [List.take_length] at how hl1 hb1
            have HBX := hide hb1
            clear hb1 HBY
            clear HX HOK HSN HLN HFX
            go_wp2_with (at_builtin; refine wpList_append_own _ rfl (.tmp 45) (.tmp 46) 22 rfl w1.heap.size 5 i0 (.int .u8 0) 1 1 Tryd.underlying22 hi hz0 hz1 hz2 rfl (by decide) _ _ _ rfl (how.alloc _) ⟨wr.heap.size, 0, none⟩ 1 1 [.int .u8 0] rfl rfl (one_new20 _ _ _) (int_one _ _) (by unfold maxLen; omega) (by omega) (by simp; omega) ?_)
            intro v9 w9 hrow9 hg9 _
            have hb9 : Below w1.heap.size w1 w9 := below_append hB how hbel hg9
            have HF : Hid (PakP20 w (nums s) (.returned (.tuple #[v9, .int .i64 0])) w9) := by
              refine unhide HP _ _ ⟨v9, rfl, ?_, bthen (unhide HB1) hb9⟩
              rw [if_pos trivial, unhide HEN]
              refine (Ok.of (n := (Na.bod X).length + 1) ?_ ?_ hrow9 ?_ ?_).lower hsz1
              · exact Fit.snoc (fun z hz => u8_fit ((unhide HBX) z hz)) (u8_fit (by omega))
              · rw [List.length_append, List.length_singleton]; omega
              · rw [List.length_append, List.length_singleton]
              · rw [List.map_append, List.map_singleton]
            clear hrow9 hg9 how hbel HEN HBX HP hb9
            go_wp2
            go_ret2
            exact unhide HF
      · have hp : pe = 2 := unhide H2 hall2 h253
        have HF : Hid (PakP20 w (nums s) (.returned (.tuple #[.slice none 0 0, .int .i64 2])) w1) := by
          subst hp
          exact unhide HP _ _ ⟨_, rfl, by rw [if_neg (by decide)]; exact Ok.nil _ _ _ _, unhide HB1⟩
        have L6 : (s.size : Int) > 253 := by omega
        clear H0 H2 H200 HP HX hall hall2 FX hp
        go_wp2
        go_ret2
        exact unhide HF
end Go.Proofs.YtcnmmghkjblemaaDoor
