/- What the library tells of texts and full stops. -/
import Derived.Test.YtcnmmghkjblemaaDoorNl20
import Derived.Test.YtcnmmghkjblemaaDoorSh20
namespace Go.Proofs.YtcnmmghkjblemaaDoor
open Go.RowKit

def n8_20 (l : List UInt8) : List Int := l.map fun b => (b.toNat : Int)
theorem nums_n8_20 (s : ByteArray) : nums s = n8_20 s.data.toList := rfl
theorem u8_46 (b : UInt8) : (b.toNat : Int) = 46 ↔ b = 46 := by
  constructor
  · intro h
    apply UInt8.toNat_inj.1
    show b.toNat = 46
    omega
  · rintro rfl; rfl
theorem splitK_ne20 (b : UInt8) (r : List UInt8) (k : Nat) (h : b ≠ 46) : Lib.splitK [46] 0 k (b :: r) = (b :: (Lib.splitK [46] 0 k r).headD []) :: (Lib.splitK [46] 0 k r).tail := by
  cases k with
  | zero => rfl
  | succ k =>
    have hp : ([46] : List UInt8).isPrefixOf (b :: r) = false := by simp [List.isPrefixOf]; exact fun e => h e.symm
    have hi : Lib.index (b :: r) [46] = if Lib.index r [46] == -1 then -1 else Lib.index r [46] + 1 := by rw [Lib.index, if_neg (by rw [hp]; exact Bool.false_ne_true)]
    by_cases hr : Lib.index r [46] = -1
    · have e1 : Lib.index (b :: r) [46] = -1 := by rw [hi, if_pos (beq_iff_eq.2 hr)]
      rw [Lib.splitK, Lib.splitK, if_pos (beq_iff_eq.2 e1), if_pos (beq_iff_eq.2 hr)]; rfl
    · have hg := Lib.index_ge r [46]
      have e1 : Lib.index (b :: r) [46] = Lib.index r [46] + 1 := by rw [hi, if_neg (fun e => hr (beq_iff_eq.1 e))]
      rw [Lib.splitK, Lib.splitK, if_neg (fun e => by have := beq_iff_eq.1 e; omega), if_neg (fun e => hr (beq_iff_eq.1 e)), e1]
      obtain ⟨i, hi2⟩ : ∃ i : Nat, Lib.index r [46] = i := ⟨(Lib.index r [46]).toNat, by omega⟩
      rw [hi2, show (((i : Int) + 1).toNat) = i + 1 by omega, show ((i : Int).toNat) = i by omega]
      rfl
theorem splitK_eq20 (r : List UInt8) (k : Nat) : Lib.splitK [46] 0 (k + 1) (46 :: r) = [] :: Lib.splitK [46] 0 k r := by
  have e1 : Lib.index (46 :: r) [46] = 0 := by rw [Lib.index, if_pos (by simp [List.isPrefixOf])]
  rw [Lib.splitK, e1]; rfl
theorem splitK_some20 (k : Nat) (r : List UInt8) : Lib.splitK [46] 0 k r ≠ [] := by
  cases k <;> (rw [Lib.splitK]; first | exact List.cons_ne_nil _ _ | (split <;> exact List.cons_ne_nil _ _))
theorem split_spl20 (l : List UInt8) : (Lib.splitK [46] 0 (l.count 46) l).map n8_20 = Na.spl (n8_20 l) := by
  induction l with
  | nil => rfl
  | cons b r ih =>
    have e : n8_20 (b :: r) = (b.toNat : Int) :: n8_20 r := rfl
    by_cases hb : b = 46
    · subst hb
      rw [List.count_cons_self, splitK_eq20, List.map_cons, ih, e]
      exact (Na.spl_dot _).symm
    · have hn : ¬ (b.toNat : Int) = 46 := fun e => hb ((u8_46 b).1 e)
      obtain ⟨a, q, e1, e2⟩ := Na.spl_cons (l := n8_20 r) hn
      rw [List.count_cons_of_ne hb, splitK_ne20 b r _ hb, e, e2, List.map_cons]
      rw [e1] at ih
      cases h : Lib.splitK [46] 0 (r.count 46) r with
      | nil => exact absurd h (splitK_some20 _ _)
      | cons x t =>
        rw [h, List.map_cons] at ih
        obtain ⟨rfl, rfl⟩ := List.cons.inj ih
        rfl
theorem split_nums20 (s : ByteArray) : (Lib.splitB ⟨#[46]⟩ 0 (Lib.countB s ⟨#[46]⟩) s).map nums = Na.spl (nums s) := by
  have h1 : (Lib.splitB ⟨#[46]⟩ 0 (Lib.countB s ⟨#[46]⟩) s).map nums = ((Lib.splitB ⟨#[46]⟩ 0 (Lib.countB s ⟨#[46]⟩) s).map (·.data.toList)).map n8_20 := by
    rw [List.map_map]; rfl
  have h2 : Lib.countB s ⟨#[46]⟩ = s.data.toList.count 46 := by
    show Lib.count s.data.toList [46] = _
    rw [Lib.count_one]
  rw [h1, Lib.splitB_data, h2, nums_n8_20]
  exact split_spl20 _
theorem spltC20 : SpltC20 := by
  intro s w hs hg
  obtain ⟨m, hm⟩ := hg
  refine (Tryd.strings_Split s ⟨#[46]⟩ m w (by omega) hm (by decide)).mono ?_
  rintro e w1 ⟨rfl, rfl⟩
  have hall := Lib.splitB_all ⟨#[46]⟩ (by decide) 0 (Lib.countB s ⟨#[46]⟩) s rfl
  have hn := split_nums20 s
  generalize Lib.splitB ⟨#[46]⟩ 0 (Lib.countB s ⟨#[46]⟩) s = L at *
  have ht : txt20 (Na.spl (nums s)) = L.map Value.string := by
    rw [← hn, txt20, List.map_map]
    exact List.map_congr_left fun x _ => congrArg Value.string (str_nums20 x)
  have hlen : (Na.spl (nums s)).length = L.length := by rw [← hn, List.length_map]
  have hsl := Na.spl_len (nums s)
  rw [nums_length] at hsl
  refine ⟨_, rfl, ⟨by rw [txt_len20]; omega, ?_⟩, ?_⟩
  · rw [ht, List.length_map, ← hall]
    refine ⟨by simp, .inr ⟨w.heap.size, L.length, (L.map Value.string).toArray, rfl, Nat.le_refl _, heap_alloc_new w _, Nat.le_refl _, by unfold maxLen; omega, by simp, ?_⟩⟩
    rw [Nat.mul_one, List.take_of_length_le (by simp)]
  · exact (Below.refl _ _).alloc (Nat.le_refl _) _
theorem index_ne20 {b : UInt8} (r : List UInt8) (h : b ≠ 46) : Lib.index (b :: r) [46] = if Lib.index r [46] == -1 then -1 else Lib.index r [46] + 1 := by
  have hp : ([46] : List UInt8).isPrefixOf (b :: r) = false := by simp [List.isPrefixOf]; exact fun e => h e.symm
  rw [Lib.index, if_neg (by rw [hp]; exact Bool.false_ne_true)]
theorem cut_spl20 (l : List UInt8) : n8_20 (Lib.cut l [46]).2.1 = Na.joi (Na.spl (n8_20 l)).tail := by
  induction l with
  | nil => rfl
  | cons b r ih =>
    have e : n8_20 (b :: r) = (b.toNat : Int) :: n8_20 r := rfl
    by_cases hb : b = 46
    · subst hb
      have e1 : Lib.index (46 :: r) [46] = 0 := by rw [Lib.index, if_pos (by simp [List.isPrefixOf])]
      have e2 : (Lib.cut (46 :: r) [46]).2.1 = r := by unfold Lib.cut; rw [e1]; rfl
      rw [e2, e, show (((46 : UInt8).toNat : Nat) : Int) = 46 from rfl, Na.spl_dot, List.tail_cons, Na.joi_spl]
    · have hn : ¬ (b.toNat : Int) = 46 := fun e => hb ((u8_46 b).1 e)
      obtain ⟨a, q, e1, e2⟩ := Na.spl_cons (l := n8_20 r) hn
      rw [e, e2, List.tail_cons]
      rw [e1, List.tail_cons] at ih
      rw [← ih]
      congr 1
      have hg := Lib.index_ge r [46]
      have hi := index_ne20 r hb
      unfold Lib.cut
      by_cases hr : Lib.index r [46] = -1
      · rw [if_pos (beq_iff_eq.2 hr)] at hi
        rw [hi, hr]; rfl
      · rw [if_neg (fun e => hr (beq_iff_eq.1 e))] at hi
        rw [hi, if_pos (by omega), if_pos (by omega)]
        show (b :: r).drop ((Lib.index r [46] + 1).toNat + 1) = r.drop ((Lib.index r [46]).toNat + 1)
        rw [show (Lib.index r [46] + 1).toNat = (Lib.index r [46]).toNat + 1 by omega, List.drop_succ_cons]
theorem par_spl20 (l : List Int) : Na.par l = Na.joi (Na.spl l).tail := by
  unfold Na.par Na.lab
  split
  · rename_i h; subst h; rfl
  · rfl
theorem cutC20 : CutC20 := by
  intro s w hs hg
  obtain ⟨m, hm⟩ := hg
  refine (Tryd.strings_Cut s ⟨#[46]⟩ m w (by omega) hm).mono ?_
  rintro e w1 ⟨rfl, hd⟩
  refine ⟨_, _, _, rfl, ?_, hd⟩
  rw [par_spl20, nums_n8_20 s, ← cut_spl20]
  rfl
theorem has_dot20 (l : List UInt8) : decide (0 ≤ Lib.indexByte l 46) = (n8_20 l).any (fun x => decide (46 = x)) := by
  induction l with
  | nil => rfl
  | cons b r ih =>
    have e : n8_20 (b :: r) = (b.toNat : Int) :: n8_20 r := rfl
    have hg := Lib.indexByte_ge r 46
    rw [e, List.any_cons, ← ih, Lib.indexByte]
    by_cases hb : b = 46
    · subst hb; rfl
    · have hn : ¬ 46 = (b.toNat : Int) := fun e => hb ((u8_46 b).1 e.symm)
      rw [if_neg (by simpa using hb), decide_eq_false hn, Bool.false_or]
      by_cases hr : Lib.indexByte r 46 = -1
      · rw [if_pos (beq_iff_eq.2 hr), hr]
      · rw [if_neg (fun e => hr (beq_iff_eq.1 e))]
        exact decide_eq_decide.2 ⟨fun h => by omega, fun h => by omega⟩
def ConC20 : Prop := ∀ (s : ByteArray) (w : World), Calls Tryd.prog 45 #[.string s, .string ⟨#[46]⟩] w (fun e w' => e = .returned (.bool ((nums s).any (fun x => decide (46 = x)))) ∧ w' = w)
theorem conC20 : ConC20 := by
  intro s w
  have := Tryd.strings_Contains_one s 46 w
  rw [has_dot20] at this
  exact this
set_option maxHeartbeats 1000000 in
theorem lastByte20 (s : ByteArray) (hs : s.size ≤ 9223372036854775807) (w : World) : Calls Tryd.prog 66 #[.string s, .int .u8 46] w (fun e w' => ∃ n : Int, e = .returned (.int .i64 n) ∧ w' = w ∧ ((n = -1 ∧ ∀ x ∈ nums s, x ≠ 46) ∨ ∃ i : Nat, n = i ∧ i < s.size ∧ (nums s).drop i = 46 :: (nums s).drop (i + 1) ∧ ∀ x ∈ (nums s).drop (i + 1), x ≠ 46)) := by
  have hl := nums_length s
  have HA : Hid (∀ k, k < s.size → ∀ w, (Instr.index 9 (.string s) (.int .i64 (k : Int))).run Tryd.prog w = .ok (.int .u8 ((nums s).getD k 0)) w) := fun k hk w => run_at s k k rfl hk w
  have HD : Hid (∀ k, k < s.size → (nums s).drop k = (nums s).getD k 0 :: (nums s).drop (k + 1)) := fun k hk => by
    rw [List.drop_eq_getElem_cons (by omega)]
    simp [List.getD, hl, hk]
  go_enter Tryd.func66, Tryd.ntmps66
  go_wp2
  go_loopw [5] (fun vi wr => ∃ k : Nat, k ≤ s.size ∧ vi = .int .i64 ((k : Int) - 1) ∧ (∀ x ∈ (nums s).drop k, x ≠ 46) ∧ w = wr) (fun vi _ => ((intOf vi) + 1).toNat)
  case atStart => exact ⟨s.size, Nat.le_refl _, by first | rfl | go_num | (congr 1; omega), (fun x hx => by rw [List.drop_eq_nil_of_le (by omega)] at hx; cases hx), rfl⟩
  case round =>
    obtain ⟨k, hk, rfl, hf, rfl⟩ := hrel
    rcases Nat.eq_zero_or_pos k with h0 | h0
    · subst h0
      have HF : Hid (∀ x ∈ nums s, x ≠ 46) := hf
      clear hf HA HD
      go_wp2
      go_ret
      exact ⟨-1, rfl, rfl, .inl ⟨rfl, unhide HF⟩⟩
    · obtain ⟨j, rfl⟩ : ∃ j, k = j + 1 := ⟨k - 1, by omega⟩
      have ej : ((j + 1 : Nat) : Int) - 1 = (j : Int) := by omega
      have x1 := (unhide HA) j (by omega)
      have hd := (unhide HD) j (by omega)
      have HFX := hide hf
      have L1 : (j : Int) < s.size := by omega
      clear hf HA HD
      rw [ej]
      by_cases hc : (nums s).getD j 0 = 46
      · rw [hc] at x1 hd
        have HD := hide hd
        clear hd hc
        go_wp2
        go_ret
        exact ⟨(j : Int), rfl, rfl, .inr ⟨j, rfl, by omega, unhide HD, unhide HFX⟩⟩
      · have he : ((nums s).getD j 0 == 46) = false := beq_eq_false_iff_ne.2 hc
        have HN : Hid (∀ x ∈ (nums s).drop j, x ≠ 46) := fun x hx => by
          rw [hd] at hx
          rcases List.mem_cons.1 hx with rfl | hx
          · exact hc
          · exact unhide HFX x hx
        clear hd hc HFX
        generalize (nums s).getD j 0 = c at *
        go_wp2
        go_roundw
        case rel => exact ⟨j, by omega, by first | rfl | go_num, unhide HN, trivial⟩
        case measure => simp [intOf]
theorem lixC20 : LixC20 := by
  intro s w hs
  have K := hide (lastByte20 s hs w)
  have x1 : ∀ w, (Instr.index 9 (.string ⟨#[46]⟩) (.int .i64 0)).run Tryd.prog w = .ok (.int .u8 46) w := fun w => run_at ⟨#[46]⟩ 0 0 rfl (by decide) w
  go_enter Tryd.func52, Tryd.ntmps52
  go_wp2_with fail
  refine (unhide K).mono ?_
  rintro e w1 ⟨n, rfl, rfl, hn⟩
  have HN := hide hn
  clear K hn
  go_wp2
  go_ret
  exact ⟨n, rfl, rfl, unhide HN⟩
end Go.Proofs.YtcnmmghkjblemaaDoor
