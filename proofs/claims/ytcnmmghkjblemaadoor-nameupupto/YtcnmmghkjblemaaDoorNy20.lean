/- NameUp: from any name one comes to the root. -/
import Derived.Test.YtcnmmghkjblemaaDoorNx20
namespace Go.Proofs.YtcnmmghkjblemaaDoor
open Go.RowKit

namespace Na
theorem up_both {s : List Int} (hs : s ≠ []) : cmp (par s) s = -1 ∧ bel s (par s) = true := by
  by_cases h : par s = []
  · rw [h]
    refine ⟨?_, bel_root s⟩
    obtain ⟨a, l, e⟩ := lab_ne hs
    unfold cmp
    rw [show lab [] = [] from rfl, e, List.reverse_nil]
    cases h2 : (a :: l).reverse with
    | nil => simp at h2
    | cons x r => rfl
  · exact par_up hs (.inl h)
end Na
theorem par_size20 (s : ByteArray) : (strOfNums (Na.par (nums s))).size ≤ s.size := by
  have := Na.par_len (nums s)
  rw [nums_length] at this
  rw [strOf_size20]; exact this
theorem par_nums20 (s : ByteArray) : nums (strOfNums (Na.par (nums s))) = Na.par (nums s) := nums_str20 (Na.par_byt (nums_byt s))
set_option maxRecDepth 20000 in
set_option maxHeartbeats 8000000 in
/-- NameUp. -/
theorem up_law20 (s : ByteArray) (w : World) (hg : Gl20 w) (hs : s.size ≤ 1000000000) : Calls Tryd.prog 9 #[.string s] w (Tells w true) := by
  have KL := hide (labK20 hs w hg)
  have HG := hide hg
  have hL : (Na.lab (nums s)).length ≤ 1000000001 := (Na.lab_fine (nums_byt s) (by rw [nums_length]; exact hs)).1
  obtain ⟨n, hn⟩ : ∃ n, n = (Na.lab (nums s)).length := ⟨_, rfl⟩
  rw [← hn] at KL hL
  have HN0 := hide hn.symm
  clear hn hg
  go_enter Tryd.func9, Tryd.ntmps9
  go_wp2_with fail
  refine (unhide KL).mono ?_
  rintro e w1 ⟨ao, cap, rfl, b1⟩
  have HB1 := hide b1
  clear KL b1
  go_wp2
  go_loopw [0, 4, 5, 6] (fun vs vi _ _ wr => ∃ (t : ByteArray) (i : Nat), vs = .string t ∧ vi = .int .i64 i ∧ i ≤ n ∧ t.size ≤ 1000000000 ∧ (Na.lab (nums t)).length = n - i ∧ Below w.heap.size w wr) (fun _ vi _ _ _ => n - (intOf vi).toNat)
  case atStart => exact ⟨s, 0, rfl, rfl, by omega, hs, unhide HN0, unhide HB1⟩
  case round =>
    clear HN0 HB1
    obtain ⟨t, i, rfl, rfl, hi, ht, hlen, hb⟩ := hrel
    have HB := hide hb
    have KP := hide (parK20 ht)
    clear hb
    by_cases hin : i < n
    · have L1 : (i : Int) < n := by omega
      have h0 : nums t ≠ [] := fun e => by rw [e] at hlen; simp [Na.lab] at hlen; omega
      obtain ⟨hc, hbl⟩ := Na.up_both h0
      have KC := cmpK20 (a := strOfNums (Na.par (nums t))) (b := t) (by have := par_size20 t; omega) (by omega)
      have KB := belK20 (a := t) (b := strOfNums (Na.par (nums t))) (by omega) (by have := par_size20 t; omega)
      rw [par_nums20, hc] at KC
      rw [par_nums20, hbl] at KB
      have HC := hide KC
      have HBL := hide KB
      rw [decide_eq_true h0] at KP
      have hps : (strOfNums (Na.par (nums t))).size ≤ 1000000000 := Nat.le_trans (par_size20 t) ht
      have hnx : (Na.par (nums t) = [] → n - i - 1 = 0) → (Na.lab (nums (strOfNums (Na.par (nums t))))).length = n - (i + 1) := fun h => by
        rw [par_nums20]
        have := (Na.up_one (s := nums t) (n := n - i - 1) (by omega) h).2.2.2
        omega
      have HNX := hide hnx
      have hem := empty_iff20 (strOfNums (Na.par (nums t)))
      rw [par_nums20] at hem
      clear KC KB hc hbl h0 hnx hlen
      by_cases hp : Na.par (nums t) = []
      · rw [decide_eq_true hp] at hem
        have hw1 : IntKind.i64.wrap ((n : Int) - 1) = (n : Int) - 1 := by rw [IntKind.wrap_i64]; omega
        by_cases hlast : i = n - 1
        · have HR := hide (unhide HNX (fun _ => by omega))
          have L2 : ¬ ((i : Int) < (n : Int) - 1) := by omega
          clear HNX hp hlast
          generalize strOfNums (Na.par (nums t)) = p at *
          go_wp2_with fail
          refine (unhide KP _ ((unhide HG).on (unhide HB))).mono ?_
          rintro e wn ⟨rfl, dn⟩; replace HB := hide (bthen (unhide HB) (drewB dn)); clear dn
          go_wp2_with fail
          refine (unhide HC _).mono ?_
          rintro e wn ⟨rfl, dn⟩; replace HB := hide (bthen (unhide HB) (drewB dn)); clear dn
          go_wp2_with fail
          refine (unhide HBL _).mono ?_
          rintro e wn ⟨rfl, dn⟩; replace HB := hide (bthen (unhide HB) (drewB dn)); clear dn
          go_wp2
          go_roundw
          case rel => exact ⟨p, i + 1, rfl, by go_num, by omega, hps, unhide HR, unhide HB⟩
          case measure => simp [intOf]; omega
        · have L2 : (i : Int) < (n : Int) - 1 := by omega
          clear HNX hp hlast
          generalize strOfNums (Na.par (nums t)) = p at *
          go_wp2_with fail
          refine (unhide KP _ ((unhide HG).on (unhide HB))).mono ?_
          rintro e wn ⟨rfl, dn⟩; replace HB := hide (bthen (unhide HB) (drewB dn)); clear dn
          go_wp2_with fail
          refine (unhide HC _).mono ?_
          rintro e wn ⟨rfl, dn⟩; replace HB := hide (bthen (unhide HB) (drewB dn)); clear dn
          go_wp2_with fail
          refine (unhide HBL _).mono ?_
          rintro e wn ⟨rfl, dn⟩; replace HB := hide (bthen (unhide HB) (drewB dn)); clear dn
          go_wp2_with fail
          refine (told20 _ ((unhide HG).on (unhide HB))).mono ?_
          rintro e wn ⟨rfl, bn⟩; replace HB := hide (bthen (unhide HB) bn); clear bn
          go_wp2
          go_ret
          exact ⟨rfl, unhide HB⟩
      · rw [decide_eq_false hp] at hem
        have HR := hide (unhide HNX (fun h => absurd h hp))
        clear HNX hp
        generalize strOfNums (Na.par (nums t)) = p at *
        go_wp2_with fail
        refine (unhide KP _ ((unhide HG).on (unhide HB))).mono ?_
        rintro e wn ⟨rfl, dn⟩; replace HB := hide (bthen (unhide HB) (drewB dn)); clear dn
        go_wp2_with fail
        refine (unhide HC _).mono ?_
        rintro e wn ⟨rfl, dn⟩; replace HB := hide (bthen (unhide HB) (drewB dn)); clear dn
        go_wp2_with fail
        refine (unhide HBL _).mono ?_
        rintro e wn ⟨rfl, dn⟩; replace HB := hide (bthen (unhide HB) (drewB dn)); clear dn
        go_wp2
        go_roundw
        case rel => exact ⟨p, i + 1, rfl, by go_num, by omega, hps, unhide HR, unhide HB⟩
        case measure => simp [intOf]; omega
    · have L1 : ¬ ((i : Int) < n) := by omega
      have h0 : nums t = [] := Na.lab_none (by omega)
      have hem := empty_iff20 t
      rw [decide_eq_true h0] at hem
      rw [decide_eq_false (by simpa using h0)] at KP
      clear h0 hlen
      generalize strOfNums (Na.par (nums t)) = p at *
      go_wp2_with fail
      refine (unhide KP _ ((unhide HG).on (unhide HB))).mono ?_
      rintro e wn ⟨rfl, dn⟩; replace HB := hide (bthen (unhide HB) (drewB dn)); clear dn
      go_wp2_with fail
      refine (told20 _ ((unhide HG).on (unhide HB))).mono ?_
      rintro e wn ⟨rfl, bn⟩; replace HB := hide (bthen (unhide HB) bn); clear bn
      go_wp2
      go_ret
      exact ⟨rfl, unhide HB⟩
end Go.Proofs.YtcnmmghkjblemaaDoor
