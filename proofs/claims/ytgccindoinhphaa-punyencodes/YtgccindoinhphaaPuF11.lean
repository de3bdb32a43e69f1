/- A text below 80 as runes; the last hyphen; the two parts of a text. -/
import Derived.Test.YtgccindoinhphaaPuE11
import Derived.Deep.DeepCutAuto
namespace Go.Proofs.Ytgccindoinhphaa
open Go.RowKit

theorem runesFrom_asc (s : ByteArray) (h : ∀ j, j < s.size → (s.get! j).toNat < 128) : ∀ (f i : Nat) (acc : Array Value), s.size ≤ i + f → i ≤ s.size →
    (Conv.runesFrom s f i acc).toList = acc.toList ++ (((nums s).drop i).map (Value.int .i32))
  | 0, i, acc, h1, h2 => by
    rw [Conv.runesFrom, List.drop_eq_nil_of_le (by rw [nums_length]; omega)]; simp
  | f + 1, i, acc, h1, h2 => by
    rw [Conv.runesFrom]
    by_cases hi : i < s.size
    · rw [if_pos hi]
      have hd : Utf8.decode s i = ((s.get! i).toNat, 1) := by
        unfold Utf8.decode
        simp [h i hi]
      rw [hd]
      simp only
      rw [runesFrom_asc s h f (i + 1) _ (by omega) (by omega)]
      rw [drop_next (xs := nums s) (k := i) (by rw [nums_length]; exact hi)]
      have := nums_at s i hi
      simp only [Array.toList_push, List.map_cons, List.append_assoc, List.cons_append, List.nil_append]
      rw [← this]
      have hg : s.get! i = s[i]'hi := by simp [ByteArray.get!, ByteArray.getElem_eq_getElem_data, hi]
      rw [hg]
      rfl
    · rw [if_neg hi, List.drop_eq_nil_of_le (by rw [nums_length]; omega)]; simp

theorem run_runes (s : ByteArray) (w : World) : (convert 9 22 (.string s)).run Try.prog w =
    .ok (.slice (some ⟨w.heap.size, 0, none⟩) (Conv.runesFrom s s.size 0 #[]).size (grownCap w (Conv.runesFrom s s.size 0 #[]).size 0 21))
      (w.drew.alloc (.cells (Conv.runesFrom s s.size 0 #[] ++ Array.replicate (grownCap w (Conv.runesFrom s s.size 0 #[]).size 0 21 - (Conv.runesFrom s s.size 0 #[]).size) (.int .i32 0)) 21)) := by
  simp [convert, run_underlying Try.underlying9, run_underlying Try.underlying22, run_underlying Try.underlying21, Conv.stringToRunes, newRow, grownCap, Question.forced]

theorem lastH_none {zs : List Int} (h : ∀ j, j < zs.length → zs.getD j 0 ≠ 45) (k a : Nat) : Pu.lastH zs k a = a := by
  induction zs generalizing k a with
  | nil => rfl
  | cons z r ih =>
    rw [Pu.lastH, if_neg (by simpa using h 0 (by simp))]
    exact ih (fun j hj => by have := h (j + 1) (by simp; omega); simpa using this) (k + 1) a
theorem lastH_at {zs : List Int} {i : Nat} (hi : i < zs.length) (h45 : zs.getD i 0 = 45) (hl : ∀ j, i < j → j < zs.length → zs.getD j 0 ≠ 45) (k a : Nat) : Pu.lastH zs k a = k + i := by
  induction zs generalizing i k a with
  | nil => simp at hi
  | cons z r ih =>
    rw [Pu.lastH]
    cases i with
    | zero =>
      rw [if_pos (by simpa using h45)]
      exact lastH_none (fun j hj => by have := hl (j + 1) (by omega) (by simp; omega); simpa using this) _ _
    | succ i =>
      rw [ih (i := i) (by simpa using hi) (by simpa using h45) (fun j h1 h2 => by have := hl (j + 1) (by omega) (by simp; omega); simpa using this)]
      omega

def LastPost (w : World) (zs : List Int) (e : Ending) (w' : World) : Prop :=
  ((e = .returned (.int .i64 (-1)) ∧ Pu.lastH zs 0 0 = 0) ∨ ∃ i : Nat, i < zs.length ∧ e = .returned (.int .i64 i) ∧ Pu.lastH zs 0 0 = i) ∧ w' = w

set_option maxHeartbeats 1000000 in
theorem lastIndex_any (s : ByteArray) (w : World) (hs : s.size ≤ 1000000000) : Calls Try.prog 51 #[.string s, .int .u8 45] w (LastPost w (nums s)) := by
  have hn := nums_length s
  have HAT := hide (run_at s)
  have HDG : Hid (∀ k, k < (nums s).length → 0 ≤ (nums s).getD k 0 ∧ (nums s).getD k 0 ≤ 255) := fun k hk => by
    rw [List.getD, List.getElem?_eq_getElem hk]; exact nums_byt s _ (List.getElem_mem hk)
  generalize nums s = zs at *
  go_enter Try.func51, Try.ntmps51
  go_wp2
  go_loop [5, 9, 10, 11, 12, 13, 14, 15, 16, 17, 18] (fun i _ _ _ _ _ _ _ _ _ _ => ∃ k : Nat, i = .int .i64 ((k : Int) - 1) ∧ k ≤ zs.length ∧ ∀ j, k ≤ j → j < zs.length → zs.getD j 0 ≠ 45) (fun i _ _ _ _ _ _ _ _ _ _ => (intOf i + 1).toNat)
  case atStart => exact ⟨zs.length, by rw [hn], by omega, fun j h1 h2 => by omega⟩
  case round =>
    obtain ⟨k, rfl, hk, hno⟩ := hrel
    have HNO := hide hno
    clear hno
    cases k with
    | zero =>
      have HE : Hid (LastPost w zs (.returned (.int .i64 (-1))) w) := ⟨.inl ⟨rfl, lastH_none (fun j hj => unhide HNO j (by omega) hj) _ _⟩, rfl⟩
      clear HNO
      go_wp2
      go_ret
      exact unhide HE
    | succ k =>
      have hat := unhide HAT (k : Int) k rfl (by omega)
      have hrg := unhide HDG k (by omega)
      have hke : ((k + 1 : Nat) : Int) - 1 = (k : Int) := by omega
      rw [hke]
      by_cases hz : zs.getD k 0 = 45
      · have HE : Hid (LastPost w zs (.returned (.int .i64 (k : Int))) w) := ⟨.inr ⟨k, by omega, rfl, by rw [lastH_at (i := k) (by omega) hz (fun j h1 h2 => unhide HNO j (by omega) h2)]; omega⟩, rfl⟩
        rw [hz] at hat
        clear HNO hz hke hrg
        go_wp2
        go_ret
        exact unhide HE
      · have HN : Hid (∀ j, k ≤ j → j < zs.length → zs.getD j 0 ≠ 45) := fun j h1 h2 => by
          rcases Nat.eq_or_lt_of_le h1 with h3 | h3
          · rw [← h3]; exact hz
          · exact unhide HNO j (by omega) h2
        have hzb : (zs.getD k 0 == 45) = false := by simpa using hz
        clear HNO hz hke
        generalize zs.getD k 0 = z at *
        go_wp2
        go_round
        case rel => exact ⟨k, by first | rfl | go_num, by omega, unhide HN⟩
        case measure => simp [intOf]

theorem lastByte_any (s : ByteArray) (w : World) (hs : s.size ≤ 1000000000) : Calls Try.prog 40 #[.string s, .int .u8 45] w (LastPost w (nums s)) := by
  have H := hide (lastIndex_any s w hs)
  generalize nums s = zs at *
  go_enter Try.func40, Try.ntmps40
  go_wp2_with fail
  refine (unhide H).mono ?_
  rintro e w ⟨⟨rfl, hr⟩ | ⟨i, hi, rfl, hr⟩, rfl⟩
  · have HE : Hid (LastPost w zs (.returned (.int .i64 (-1))) w) := ⟨.inl ⟨rfl, hr⟩, rfl⟩
    clear H hr
    go_wp2
    go_ret
    exact unhide HE
  · have HE : Hid (LastPost w zs (.returned (.int .i64 (i : Int))) w) := ⟨.inr ⟨i, hi, rfl, hr⟩, rfl⟩
    clear H hr
    go_wp2
    go_ret
    exact unhide HE

def CutPost (w : World) (zs : List Int) (e : Ending) (w' : World) : Prop :=
  ∃ a b : ByteArray, e = .returned (.tuple #[.string a, .string b]) ∧ nums a = zs.take (Pu.lastH zs 0 0) ∧ nums b = Pu.tail zs ∧ Below w.heap.size w w'

theorem nums_extract2 (s : ByteArray) (p q : Nat) : nums (s.extract p q) = ((nums s).drop p).take (q - p) := by
  unfold nums
  rw [ByteArray.data_extract, Array.toList_extract, List.map_drop.symm, List.map_take.symm]

set_option maxHeartbeats 1000000 in
theorem cut_any (s : ByteArray) (w : World) (hs : s.size ≤ 1000000000) : Calls Try.prog 25 #[.string s] w (CutPost w (nums s)) := by
  have H := hide (lastByte_any s w hs)
  have hn := nums_length s
  obtain ⟨zs, hzs⟩ : ∃ zs, nums s = zs := ⟨_, rfl⟩
  have HZ := hide hzs
  rw [hzs] at hn H
  rw [hzs]
  clear hzs
  go_enter Try.func25, Try.ntmps25
  go_wp2_with fail
  refine (unhide H).mono ?_
  rintro e w ⟨⟨rfl, hr⟩ | ⟨i, hi, rfl, hr⟩, rfl⟩
  · have HE : Hid (∀ w', Below w.heap.size w w' → CutPost w zs (.returned (.tuple #[.string ⟨#[]⟩, .string s])) w') := fun w' hb => ⟨⟨#[]⟩, s, rfl, by rw [hr]; simp [nums], by unfold Pu.tail; rw [if_pos hr]; exact unhide HZ, hb⟩
    clear H hr
    go_wp2
    go_ret2
    exact unhide HE w (Below.refl _ _)
  · by_cases h0 : i = 0
    · subst h0
      have HE : Hid (∀ w', Below w.heap.size w w' → CutPost w zs (.returned (.tuple #[.string ⟨#[]⟩, .string s])) w') := fun w' hb => ⟨⟨#[]⟩, s, rfl, by rw [hr]; simp [nums], by unfold Pu.tail; rw [if_pos hr]; exact unhide HZ, hb⟩
      clear H hr
      go_wp2
      go_ret2
      exact unhide HE w (Below.refl _ _)
    · have HE : Hid (∀ w', Below w.heap.size w w' → CutPost w zs (.returned (.tuple #[.string (s.extract 0 i), .string (s.extract (i + 1) s.size)])) w') := fun w' hb =>
        ⟨_, _, rfl, by rw [hr, nums_extract, unhide HZ], by unfold Pu.tail; rw [if_neg (by omega), hr, nums_extract2, unhide HZ, List.take_of_length_le (by rw [List.length_drop]; omega)], hb⟩
      clear H hr
      go_wp2
      go_region
      go_wp2
      go_ret2
      exact unhide HE w.drew ((Below.refl _ _).drew)

theorem basicB_get {s : ByteArray} (h : Pu.basicB (nums s) = true) : ∀ j, j < s.size → (s.get! j).toNat < 128 := by
  intro j hj
  have hl := nums_length s
  have h1 := nums_at s j hj
  have h2 : (nums s).getD j 0 < 128 := by
    have h3 := List.all_eq_true.1 h ((nums s)[j]'(by omega)) (List.getElem_mem _)
    rw [List.getD, List.getElem?_eq_getElem (by omega)]
    simpa using h3
  have hg : s.get! j = s[j]'hj := by simp [ByteArray.get!, ByteArray.getElem_eq_getElem_data, hj]
  rw [hg]
  omega
theorem basicB_take {zs : List Int} (h : Pu.basicB zs = true) (n : Nat) : Pu.basicB (zs.take n) = true := by
  unfold Pu.basicB at h ⊢
  rw [List.all_eq_true] at h ⊢
  exact fun z hz => h z (List.mem_of_mem_take hz)

theorem runes_own (s : ByteArray) (w : World) (h : Pu.basicB (nums s) = true) (hl : s.size ≤ 1000000) : ∃ v w', (convert 9 22 (.string s)).run Try.prog w = .ok v w' ∧ Ok .i32 21 w' w.heap.size v (nums s) ∧ Below w.heap.size w w' := by
  refine ⟨_, _, run_runes s w, ?_, ((Below.refl _ _).drew).alloc (Nat.le_refl _) _⟩
  have hR := runesFrom_asc s (basicB_get h) s.size 0 #[] (by omega) (by omega)
  rw [List.drop_zero] at hR
  simp only [List.nil_append] at hR
  have hRs : (Conv.runesFrom s s.size 0 #[]).size = (nums s).length := by
    have := congrArg List.length hR
    simpa using this
  have hn := nums_length s
  generalize Conv.runesFrom s s.size 0 #[] = A at *
  have hG := grownCap_ge w A.size 0 21
  have hGm := grownCap_le_maxLen w A.size 0 21 (by unfold maxLen; omega)
  generalize grownCap w A.size 0 21 = G at *
  refine Ok.of (n := A.size) (us := (nums s).map (Value.int .i32)) ?_ (by omega) ⟨by simp [hRs], .inr ⟨w.heap.size, G, _, rfl, Nat.le_refl _, heap_alloc_new w.drew _, hG, hGm, by simp; omega, ?_⟩⟩ hRs rfl
  · intro z hz
    have := nums_byt s z hz
    exact i32_fit (by omega)
  · rw [Nat.mul_one, Array.toList_append, hR, hRs, List.take_append_of_le_length (by simp), List.take_of_length_le (by simp)]

def DecP (w : World) (r : List Int × Int) : Ending → World → Prop := RdPost w.heap.size w r

set_option maxHeartbeats 1000000 in
theorem decode_any (s : ByteArray) (w : World) (hs : s.size ≤ 1000000000) : Calls Try.prog 14 #[.string s] w (RdPost w.heap.size w (Pu.decode (nums s))) := by
  have hn := nums_length s
  have hdq := Pu.decode_eq (nums s)
  by_cases hlong : 65536 < s.size
  · have HE := hide (hdq.trans (if_pos (by omega)))
    clear hdq
    generalize Pu.decode (nums s) = r at *
    generalize nums s = zs at *
    go_enter Try.func14, Try.ntmps14
    go_wp2
    go_ret2
    exact RdPost.no (unhide HE) (by omega) (Below.refl _ _)
  · rw [if_neg (by omega)] at hdq
    have HI := hide (isBasic_any s w hs)
    cases hb : Pu.basicB (nums s) with
    | false =>
      rw [if_pos hb] at hdq
      rw [hb] at HI
      have HE := hide hdq
      clear hdq hb
      generalize Pu.decode (nums s) = r at *
      generalize nums s = zs at *
      go_enter Try.func14, Try.ntmps14
      go_wp2_with fail
      refine (unhide HI).mono ?_
      rintro e wq ⟨rfl, rfl⟩
      clear HI
      go_wp2
      go_ret2
      exact RdPost.no (unhide HE) (by omega) (Below.refl _ _)
    | true =>
      rw [if_neg (by rw [hb]; simp)] at hdq
      rw [hb] at HI
      have HE := hide hdq
      have HB := hide hb
      have HC := hide (cut_any s w hs)
      clear hdq hb
      generalize Pu.decode (nums s) = r at *
      generalize nums s = zs at *
      go_enter Try.func14, Try.ntmps14
      go_wp2_with fail
      refine (unhide HI).mono ?_
      rintro e wq ⟨rfl, rfl⟩
      clear HI
      go_wp2_with fail
      refine (unhide HC).mono ?_
      rintro e w1 ⟨sa, sb, rfl, ha, hb, hbel⟩
      have hla : sa.size ≤ s.size := by rw [← nums_length sa, ha, List.length_take]; omega
      have hlb : sb.size ≤ s.size := by
        rw [← nums_length sb, hb]; unfold Pu.tail; split
        · omega
        · rw [List.length_drop]; omega
      obtain ⟨v, w2, hrun, hok, hb2⟩ := runes_own sa w1 (by rw [ha]; exact basicB_take (unhide HB) _) (by omega)
      have hlen : (nums sa).length + sb.size ≤ 65536 := by
        rw [← nums_length sb, ha, hb, List.length_take]; unfold Pu.tail; split
        · rename_i h0; rw [h0]; omega
        · rw [List.length_drop]; omega
      have hs1 := hbel.size
      have HR := hide (pread_any wq.heap.size v (nums sa) sb w2 (hok.lower hs1) (by have := hb2.size; omega) (by omega))
      rw [ha, hb, ← unhide HE] at HR
      have HBB := hide (bthen hbel hb2)
      clear hok hb2 hbel ha hb hla hlb hlen hs1 HC HE HB
      go_wp2_with fail
      refine (unhide HR).mono ?_
      rintro e w3 (⟨v3, rfl, h1, h2, h3⟩ | ⟨h1, h2, rfl, h3⟩)
      · have HF : Hid (RdPost wq.heap.size wq r (.returned (.tuple #[v3, .int .i64 0])) w3) := RdPost.yes h1 h2 ((unhide HBB).trans h3)
        clear h1 h2 h3 HR HBB
        go_wp2
        go_ret2
        exact unhide HF
      · have HF : Hid (RdPost wq.heap.size wq r (.returned (.tuple #[.slice none 0 0, .int .i64 r.2])) w3) := .inr ⟨h1, h2, rfl, (unhide HBB).trans h3⟩
        clear h1 h2 h3 HR HBB
        generalize r.2 = rr at *
        go_wp2
        go_ret2
        exact unhide HF
end Go.Proofs.Ytgccindoinhphaa
