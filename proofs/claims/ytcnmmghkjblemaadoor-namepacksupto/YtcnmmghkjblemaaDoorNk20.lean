/- The program's comparison of names. -/
import Derived.Test.YtcnmmghkjblemaaDoorNj20
namespace Go.Proofs.YtcnmmghkjblemaaDoor
open Go.RowKit

namespace Na
theorem spl_cat (A b : List Int) : spl (A ++ 46 :: b) = spl A ++ spl b := by
  induction A with
  | nil => rw [List.nil_append, spl_dot]; rfl
  | cons x A ih =>
    by_cases hx : x = 46
    · subst hx
      rw [List.cons_append, spl_dot, spl_dot, ih]; rfl
    · obtain ⟨a, r, e1, e2⟩ := spl_cons (l := A) hx
      obtain ⟨a', r', g1, g2⟩ := spl_cons (l := A ++ 46 :: b) hx
      rw [List.cons_append, g2, e2]
      rw [ih, e1] at g1
      obtain ⟨rfl, rfl⟩ := List.cons.inj g1
      rfl
/-- The labels held against each other, the last ones first. -/
def agn : List (List Int) → List (List Int) → Int × Bool × Bool
  | [], [] => (0, false, false)
  | [], _ :: _ => (0, false, true)
  | _ :: _, [] => (0, true, false)
  | x :: A, y :: B => if lbl x y = 0 then agn A B else (lbl x y, false, false)
theorem agn_cmp : ∀ A B, cmpL A B = if (agn A B).1 ≠ 0 then (agn A B).1 else if (agn A B).2.1 = true then 1 else if (agn A B).2.2 = true then -1 else 0
  | [], [] => rfl
  | [], _ :: _ => rfl
  | _ :: _, [] => rfl
  | x :: A, y :: B => by
    show lex lbl (x :: A) (y :: B) = _
    unfold lex agn
    by_cases h : lbl x y = 0
    · rw [if_pos h, if_pos h]; exact agn_cmp A B
    · rw [if_neg h, if_neg h, if_pos h]
theorem agn_pre : ∀ A B, pre lbl A B = (decide ((agn A B).1 = 0) && !(agn A B).2.2)
  | [], [] => rfl
  | [], _ :: _ => rfl
  | _ :: _, [] => rfl
  | x :: A, y :: B => by
    unfold pre agn
    by_cases h : lbl x y = 0
    · rw [if_pos h, decide_eq_true h, Bool.true_and]; exact agn_pre A B
    · rw [if_neg h, decide_eq_false h]; simp
/-- Which labels are left. -/
def rst (l : List Int) (b : Bool) : List (List Int) := if b = true then (spl l).reverse else []
theorem rst_lab (l : List Int) : rst l (decide (l ≠ [])) = (lab l).reverse := by
  unfold rst lab
  by_cases h : l = []
  · subst h; rfl
  · rw [if_pos (decide_eq_true h), if_neg h]
theorem agn_end {A B : List (List Int)} (h : A = [] ∨ B = []) : agn A B = (0, !A.isEmpty, !B.isEmpty) := by
  rcases h with rfl | rfl
  · cases B <;> rfl
  · cases A <;> rfl
theorem rst_ne (l : List Int) (b : Bool) : (!(rst l b).isEmpty) = b := by
  cases b with
  | false => rfl
  | true =>
    show (!((spl l).reverse).isEmpty) = true
    have := spl_ne l
    cases h : (spl l).reverse with
    | nil => exact absurd (List.reverse_eq_nil_iff.1 h) this
    | cons => rfl
end Na
/-- What is told of the last full stop. -/
def LixC20 : Prop := ∀ (s : ByteArray) (w : World), s.size ≤ 9223372036854775807 → Calls Tryd.prog 52 #[.string s, .string ⟨#[46]⟩] w (fun e w' => ∃ n : Int, e = .returned (.int .i64 n) ∧ w' = w ∧ ((n = -1 ∧ ∀ x ∈ nums s, x ≠ 46) ∨ ∃ i : Nat, n = i ∧ i < s.size ∧ (nums s).drop i = 46 :: (nums s).drop (i + 1) ∧ ∀ x ∈ (nums s).drop (i + 1), x ≠ 46))
/-- The last label cut off. -/
def CutL20 (w : World) (s : ByteArray) (e : Ending) (w' : World) : Prop := ∃ (ah la : ByteArray) (le : Bool), e = .returned (.tuple #[.string ah, .string la, .bool le]) ∧ (∃ m, w' = w.drewN m) ∧ (Na.spl (nums s)).reverse = nums la :: Na.rst (nums ah) le ∧ la.size ≤ s.size ∧ ah.size ≤ s.size ∧ (le = true → ah.size < s.size)
set_option maxHeartbeats 1000000 in
theorem cutLast20 (K : LixC20) (s : ByteArray) (w : World) (hs : s.size ≤ 9223372036854775807) : Calls Tryd.prog 40 #[.string s] w (CutL20 w s) := by
  have KL := hide (K s w hs)
  have hlen := nums_length s
  go_enter Tryd.func40, Tryd.ntmps40
  go_wp2_with fail
  refine (unhide KL).mono ?_
  rintro e w ⟨n, rfl, rfl, hn⟩
  rcases hn with ⟨rfl, hf⟩ | ⟨i, rfl, hi, hd, hf⟩
  · have HF : Hid (CutL20 w s (.returned (.tuple #[.string ⟨#[]⟩, .string s, .bool false])) w) := by
      refine ⟨⟨#[]⟩, s, false, rfl, drew0 w, ?_, Nat.le_refl _, Nat.zero_le _, fun h => by cases h⟩
      rw [Na.spl_one hf]; rfl
    clear KL hf hlen
    go_wp2
    go_ret3
    exact unhide HF
  · have HF : Hid (∀ n, CutL20 w s (.returned (.tuple #[.string (s.extract 0 i), .string (s.extract (i + 1) s.size), .bool true])) (w.drewN n)) := by
      intro n
      have e1 : nums (s.extract 0 i) = (nums s).take i := by rw [nums_cut]; simp
      have e2 : nums (s.extract (i + 1) s.size) = (nums s).drop (i + 1) := by
        rw [nums_cut, List.take_of_length_le (by rw [List.length_drop]; omega)]
      refine ⟨_, _, true, rfl, ⟨n, rfl⟩, ?_, ?_, ?_, fun _ => ?_⟩
      · have : nums s = (nums s).take i ++ 46 :: (nums s).drop (i + 1) := by rw [← hd, List.take_append_drop]
        rw [e1, e2]
        conv => lhs; rw [this]
        rw [Na.spl_cat, List.reverse_append, Na.spl_one hf]
        rfl
      · have := congrArg List.length e2; rw [nums_length, List.length_drop] at this; omega
      · have := congrArg List.length e1; rw [nums_length, List.length_take] at this; omega
      · have := congrArg List.length e1; rw [nums_length, List.length_take] at this; omega
    have L1 : (i : Int) < s.size := by omega
    have L2 : (0 : Int) ≤ i := by omega
    clear KL hf hlen hd
    go_wp2
    go_region
    go_wp2
    go_ret3
    exact unhide HF _
theorem drews2_20 {w w1 w2 : World} (h : ∃ m, w1 = w.drewN m) (k : ∃ m, w2 = w1.drewN m) : ∃ m, w2 = w.drewN m := by
  obtain ⟨n, rfl⟩ := k
  exact drews h n
/-- How much is left of a text. -/
def lft20 : Value → Value → Nat
  | .string s, .bool true => s.size + 1
  | _, _ => 0
theorem lft_lt20 {a b : ByteArray} {l : Bool} (h : l = true → a.size < b.size) : lft20 (.string a) (.bool l) < lft20 (.string b) (.bool true) := by
  cases l with
  | false => show 0 < b.size + 1; omega
  | true => show a.size + 1 < b.size + 1; have := h rfl; omega
def AgP20 (w : World) (q : Int × Bool × Bool) (e : Ending) (w' : World) : Prop := e = .returned (.tuple #[.int .i64 q.1, .bool q.2.1, .bool q.2.2]) ∧ ∃ m, w' = w.drewN m
theorem ne_str20 (s : ByteArray) : (!s.toList.isEmpty) = decide (nums s ≠ []) := by
  rw [ByteArray.toList_eq]
  unfold nums
  cases s.data.toList <;> simp
set_option maxRecDepth 8000 in
set_option maxHeartbeats 2000000 in
theorem against20 (K : LixC20) (a b : ByteArray) (w : World) (ha : a.size ≤ 9223372036854775807) (hb : b.size ≤ 9223372036854775807) : Calls Tryd.prog 31 #[.string a, .string b] w (AgP20 w (Na.agn (Na.lab (nums a)).reverse (Na.lab (nums b)).reverse)) := by
  have KC : Hid (∀ s : ByteArray, s.size ≤ 9223372036854775807 → ∀ W, Calls Tryd.prog 40 #[.string s] W (CutL20 W s)) := fun s hs W => cutLast20 K s W hs
  have KL : Hid (∀ x y : ByteArray, x.size ≤ 9223372036854775807 → ∀ W, Calls Tryd.prog 41 #[.string x, .string y] W (IntD20 W (Na.lbl (nums x) (nums y)))) := fun x y hx W => compareLabels20 x y W hx
  have H0 : Hid (Na.agn (Na.lab (nums a)).reverse (Na.lab (nums b)).reverse = Na.agn (Na.rst (nums a) (decide (nums a ≠ []))) (Na.rst (nums b) (decide (nums b ≠ [])))) := by
    show _ = _
    rw [Na.rst_lab, Na.rst_lab]
  rw [← ne_str20, ← ne_str20] at H0
  generalize Na.agn (Na.lab (nums a)).reverse (Na.lab (nums b)).reverse = q at *
  go_enter Tryd.func31, Tryd.ntmps31
  go_wp2
  go_loopw [0, 1, 4, 5, 6, 7, 8] (fun va vb _ vl vm _ _ wr => ∃ (s t : ByteArray) (l m : Bool), va = .string s ∧ vb = .string t ∧ vl = .bool l ∧ vm = .bool m ∧ s.size ≤ 9223372036854775807 ∧ t.size ≤ 9223372036854775807 ∧ q = Na.agn (Na.rst (nums s) l) (Na.rst (nums t) m) ∧ ∃ m, wr = w.drewN m) (fun va _ _ vl _ _ _ _ => lft20 va vl)
  case atStart => exact ⟨a, b, _, _, rfl, rfl, rfl, rfl, ha, hb, unhide H0, drew0 w⟩
  case round =>
    clear H0
    obtain ⟨s, t, l, m, rfl, rfl, rfl, rfl, hs, ht, hq, hd⟩ := hrel
    cases l with
    | false =>
      have hq2 : q = (0, false, m) := by
        rw [hq, Na.agn_end (A := Na.rst (nums s) false) (.inl rfl), Na.rst_ne, Na.rst_ne]
      subst hq2
      clear KC KL hq
      go_wp2
      go_ret3
      exact ⟨rfl, hd⟩
    | true =>
      cases m with
      | false =>
        have hq2 : q = (0, true, false) := by
          rw [hq, Na.agn_end (B := Na.rst (nums t) false) (.inr rfl), Na.rst_ne, Na.rst_ne]
        subst hq2
        clear KC KL hq
        go_wp2
        go_ret3
        exact ⟨rfl, hd⟩
      | true =>
        go_wp2_with fail
        refine (unhide KC s hs _).mono ?_
        rintro e w1 ⟨a1, x1, l1, rfl, d1, r1, z1, z2, z3⟩
        have hd1 : ∃ m, w1 = w.drewN m := drews2_20 hd d1
        have HR1 := hide r1
        have Z3 := hide z3
        clear r1 d1 hd z3
        go_wp2_with fail
        refine (unhide KC t ht _).mono ?_
        rintro e w2 ⟨a2, x2, l2, rfl, d2, r2, z4, z5, z6⟩
        have hd2 : ∃ m, w2 = w.drewN m := drews2_20 hd1 d2
        have hq2 : q = if Na.lbl (nums x1) (nums x2) = 0 then Na.agn (Na.rst (nums a1) l1) (Na.rst (nums a2) l2) else (Na.lbl (nums x1) (nums x2), false, false) := by
          rw [hq]
          unfold Na.rst
          rw [if_pos rfl, if_pos rfl, unhide HR1, r2]
          rfl
        have HQ := hide hq2
        have K9 := hide (fun W => unhide KL x1 x2 (by omega) W)
        clear HR1 r2 d2 hd1 z6 hq hq2 KC KL
        by_cases hz : Na.lbl (nums x1) (nums x2) = 0
        · have hq3 := unhide HQ
          rw [if_pos hz] at hq3
          have HQ3 := hide hq3
          rw [hz] at K9
          clear HQ hz hq3
          go_wp2_with fail
          refine (unhide K9 _).mono ?_
          rintro e w3 ⟨rfl, d3⟩
          have hd3 : ∃ m, w3 = w.drewN m := drews2_20 hd2 d3
          clear K9 d3 hd2
          go_wp2
          go_roundw
          case rel => exact ⟨a1, a2, l1, l2, rfl, rfl, rfl, rfl, by omega, by omega, unhide HQ3, hd3⟩
          case measure => exact lft_lt20 (unhide Z3)
        · have hq3 := unhide HQ
          rw [if_neg hz] at hq3
          clear HQ
          generalize Na.lbl (nums x1) (nums x2) = n at *
          subst hq3
          have hz2 : (n != 0) = true := by simpa using hz
          clear hz
          go_wp2_with fail
          refine (unhide K9 _).mono ?_
          rintro e w3 ⟨rfl, d3⟩
          have hd3 : ∃ m, w3 = w.drewN m := drews2_20 hd2 d3
          clear K9 d3 hd2
          go_wp2
          go_ret3
          exact ⟨rfl, hd3⟩
theorem compare20 (K : LixC20) (a b : ByteArray) (w : World) (ha : a.size ≤ 9223372036854775807) (hb : b.size ≤ 9223372036854775807) : Calls Tryd.prog 20 #[.string a, .string b] w (IntD20 w (Na.cmp (nums a) (nums b))) := by
  have KA := hide (against20 K a b w ha hb)
  have HC : Hid (Na.cmp (nums a) (nums b) = _) := Na.agn_cmp (Na.lab (nums a)).reverse (Na.lab (nums b)).reverse
  generalize Na.cmp (nums a) (nums b) = c at *
  generalize Na.agn (Na.lab (nums a)).reverse (Na.lab (nums b)).reverse = q at *
  obtain ⟨n, x, y⟩ := q
  simp only at HC
  go_enter Tryd.func20, Tryd.ntmps20
  go_wp2_with fail
  refine (unhide KA).mono ?_
  rintro e w1 ⟨rfl, hd⟩
  have hc := unhide HC
  clear KA HC
  simp only
  by_cases hn : n = 0
  · subst hn
    rw [if_neg (by simp)] at hc
    cases x with
    | true =>
      rw [if_pos rfl] at hc
      subst hc
      go_wp2
      go_ret
      exact ⟨rfl, hd⟩
    | false =>
      rw [if_neg (by simp)] at hc
      cases y with
      | true =>
        rw [if_pos rfl] at hc
        subst hc
        go_wp2
        go_ret
        exact ⟨rfl, hd⟩
      | false =>
        rw [if_neg (by simp)] at hc
        subst hc
        go_wp2
        go_ret
        exact ⟨rfl, hd⟩
  · rw [if_pos hn] at hc
    subst hc
    have hz2 : (c != 0) = true := by simpa using hn
    go_wp2
    go_ret
    exact ⟨rfl, hd⟩
set_option maxRecDepth 8000 in
theorem below20 (K : LixC20) (a b : ByteArray) (w : World) (ha : a.size ≤ 9223372036854775807) (hb : b.size ≤ 9223372036854775807) : Calls Tryd.prog 22 #[.string a, .string b] w (Draws w (Na.bel (nums a) (nums b))) := by
  have KA := hide (against20 K a b w ha hb)
  have HC : Hid (Na.bel (nums a) (nums b) = _) := Na.agn_pre (Na.lab (nums a)).reverse (Na.lab (nums b)).reverse
  generalize Na.bel (nums a) (nums b) = c at *
  generalize Na.agn (Na.lab (nums a)).reverse (Na.lab (nums b)).reverse = q at *
  obtain ⟨n, x, y⟩ := q
  simp only at HC
  go_enter Tryd.func22, Tryd.ntmps22
  go_wp2_with fail
  refine (unhide KA).mono ?_
  rintro e w1 ⟨rfl, hd⟩
  have hc := unhide HC
  clear KA HC
  simp only
  by_cases hn : n = 0
  · subst hn
    cases y with
    | true =>
      obtain rfl : c = false := hc
      go_wp2
      go_ret
      exact ⟨rfl, hd⟩
    | false =>
      obtain rfl : c = true := hc
      go_wp2
      go_ret
      exact ⟨rfl, hd⟩
  · obtain rfl : c = false := by rw [hc, decide_eq_false hn]; rfl
    have hz2 : (n == 0) = false := by simpa using hn
    clear hn hc
    go_wp2
    go_ret
    exact ⟨rfl, hd⟩
end Go.Proofs.YtcnmmghkjblemaaDoor
