/- Texts in memory; the document's Labels of chapter 20. -/
import Derived.Test.YtcnmmghkjblemaaDoorStr5
import Derived.Test.YtcnmmghkjblemaaDoorNc20
import Derived.Laws.AppendOwnNone
namespace Go.Proofs.YtcnmmghkjblemaaDoor
open Go.RowKit

theorem inf20 : (Tryd.prog.info? 9).map (fun i => (i.zero, i.size, i.bytes)) = some (some (.string ⟨#[]⟩), 1, 16) := by kernel_rfl
theorem parts20 {p : Option TypeInfo} {z : Option Value} {s b : Nat} (h : p.map (fun i => (i.zero, i.size, i.bytes)) = some (z, s, b)) : ∃ i, p = some i ∧ i.zero = z ∧ i.size = s ∧ i.bytes = b := by
  cases p with
  | none => simp at h
  | some i => simp only [Option.map_some, Option.some.injEq, Prod.mk.injEq] at h; exact ⟨i, rfl, h.1, h.2.1, h.2.2⟩
theorem one_new20 (w : World) (e : TypeId) (v : Value) : ∀ j u, [v][j]? = some u → (w.alloc (.cells #[v] e)).cell? ((⟨w.heap.size, 0, none⟩ : Addr).add j) = some u := by
  intro j u h
  cases j with
  | zero => simp at h; subst h; simp [Addr.add]
  | succ j => simp at h
theorem nums_str20 {zs : List Int} (h : Byt zs) : nums (strOfNums zs) = zs := by
  unfold nums strOfNums
  simp only [List.map_map]
  conv => rhs; rw [← List.map_id zs]
  apply List.map_congr_left
  intro z hz
  have := h z hz
  simp only [Function.comp_apply, id_eq]
  simp
  omega
theorem str_nums20 (s : ByteArray) : strOfNums (nums s) = s := nums_inj (nums_str20 (nums_byt s))
/-- The texts as values. -/
def txt20 (ls : List (List Int)) : List Value := ls.map fun l => Value.string (strOfNums l)
theorem txt_snoc20 (ls : List (List Int)) (s : ByteArray) {l : List Int} (h : nums s = l) : txt20 ls ++ [.string s] = txt20 (ls ++ [l]) := by
  rw [txt20, txt20, List.map_append, ← h, List.map_singleton, str_nums20]
theorem str_one20 (s : ByteArray) : ∀ u ∈ [Value.string s], u.oneCell' = true := by intro u hu; simp at hu; subst hu; rfl
/-- Texts in memory of the call's own, what was there stays. -/
def TxtB20 (w : World) (ls : List (List Int)) (e : Ending) (w' : World) : Prop := ∃ v, e = .returned v ∧ Ow 9 w' w.heap.size v (txt20 ls) ∧ Below w.heap.size w w'
namespace Na
def cut (l : List Int) (a b : Nat) : List Int := (l.drop a).take (b - a)
theorem cut_same (l : List Int) (a : Nat) : cut l a a = [] := by simp [cut]
theorem cut_snoc {l : List Int} {a k : Nat} (h1 : a ≤ k) (h2 : k < l.length) : cut l a (k + 1) = cut l a k ++ [l.getD k 0] := by
  unfold cut
  rw [show k + 1 - a = (k - a) + 1 by omega, List.take_add_one]
  congr 1
  rw [List.getElem?_drop, show a + (k - a) = k by omega]
  simp [List.getD, h2]
def splA : List Int → List Int → List (List Int)
  | cur, [] => [cur]
  | cur, c :: r => if c = 46 then cur :: splA [] r else splA (cur ++ [c]) r
theorem splA_step {l : List Int} {cur : List Int} {k : Nat} (hk : k < l.length) : splA cur (l.drop k) = if l.getD k 0 = 46 then cur :: splA [] (l.drop (k + 1)) else splA (cur ++ [l.getD k 0]) (l.drop (k + 1)) := by
  rw [List.drop_eq_getElem_cons hk, splA]
  simp [List.getD, hk]
theorem splA_spl : ∀ (l cur : List Int), ∃ a r, spl l = a :: r ∧ splA cur l = (cur ++ a) :: r
  | [], cur => ⟨[], [], rfl, by simp [splA]⟩
  | c :: l, cur => by
    by_cases hc : c = 46
    · subst hc
      obtain ⟨a, r, e1, e2⟩ := splA_spl l []
      refine ⟨[], spl l, spl_dot l, ?_⟩
      rw [splA, if_pos rfl, e2, e1]; simp
    · obtain ⟨a, r, e1, e2⟩ := splA_spl l (cur ++ [c])
      obtain ⟨a', r', g1, g2⟩ := spl_cons (l := l) hc
      rw [e1] at g1
      obtain ⟨rfl, rfl⟩ := List.cons.inj g1
      refine ⟨c :: a, r, g2, ?_⟩
      rw [splA, if_neg hc, e2]; simp
theorem spl_splA (l : List Int) : spl l = splA [] l := by
  obtain ⟨a, r, e1, e2⟩ := splA_spl l []
  rw [e1, e2]; rfl
end Na
theorem list_ne20 {b : ByteArray} (h : ¬ b.size = 0) : ¬ b.toList = [] := fun e => h (by
  have := congrArg List.length e
  rw [ByteArray.toList_eq] at this
  simpa using this)
set_option maxHeartbeats 1000000 in
theorem refLabels20 (s : ByteArray) (w : World) (hs : s.size ≤ 1000000000) : Calls Tryd.prog 17 #[.string s] w (TxtB20 w (Na.lab (nums s))) := by
  obtain ⟨i0, hi, hz0, hz1, hz2⟩ := parts20 inf20
  have hlen := nums_length s
  by_cases h0 : s.size = 0
  · have hn : nums s = [] := List.eq_nil_of_length_eq_zero (by omega)
    have hse : s = ⟨#[]⟩ := nums_inj (by rw [hn]; rfl)
    subst hse
    have HF : Hid (TxtB20 w (Na.lab (nums ⟨#[]⟩)) (.returned (.slice none 0 0)) w) := ⟨_, rfl, ⟨by simp [txt20, Na.lab, nums], World.ownsRow_nil _ _ _ _⟩, Below.refl _ _⟩
    generalize Na.lab (nums ⟨#[]⟩) = q at *
    go_enter Tryd.func17, Tryd.ntmps17
    go_wp2
    go_ret
    exact unhide HF
  have hl0 : ¬ s.toList = [] := list_ne20 h0
  have hne : (s.toList == []) = false := by rw [beq_eq_false_iff_ne]; exact hl0
  have hne2 : s.toList.isEmpty = false := by
    cases e : s.toList with
    | nil => exact absurd e hl0
    | cons => rfl
  have HL : Hid (Na.lab (nums s) = Na.splA [] (nums s)) := by
    show _ = _
    unfold Na.lab
    rw [if_neg (fun e => h0 (by rw [e] at hlen; simpa using hlen.symm)), Na.spl_splA]
  have HAt : Hid (∀ k, k < s.size → ∀ w, (Instr.index 9 (.string s) (.int .i64 (k : Int))).run Tryd.prog w = .ok (.int .u8 ((nums s).getD k 0)) w) := fun k hk w => run_at s k k rfl hk w
  have HByt := hide (fun k => (nums_byt s).at k)
  generalize Na.lab (nums s) = lb at *
  go_enter Tryd.func17, Tryd.ntmps17
  go_wp2
  go_loopw [3, 4, 5] (fun vl fr i wr => ∃ (k a : Nat) (ls : List (List Int)), i = .int .i64 k ∧ fr = .int .i64 a ∧ a ≤ k ∧ k ≤ s.size ∧ wr.ownsRow w.heap.size 9 1 vl ls.length (txt20 ls) ∧ ls.length ≤ k ∧ Below w.heap.size w wr ∧ lb = ls ++ Na.splA (Na.cut (nums s) a k) ((nums s).drop k)) (fun _ _ i _ => s.size - (intOf i).toNat)
  case atStart => exact ⟨0, 0, [], rfl, rfl, by omega, by omega, World.ownsRow_nil _ _ _ _, by simp, Below.refl _ _, unhide HL⟩
  case round =>
    clear HL
    obtain ⟨k, a, ls, rfl, rfl, hak, hk, how, hll, hbel, hx⟩ := hrel
    have hB := hbel.size
    by_cases hlt : k < s.size
    · have hc0 := (unhide HAt) k hlt
      obtain ⟨c1, c2⟩ := (unhide HByt) k
      rw [Na.splA_step (by omega)] at hx
      by_cases h10 : (nums s).getD k 0 = 46
      · have HX : Hid (lb = (ls ++ [nums (s.extract a k)]) ++ Na.splA (Na.cut (nums s) (k + 1) (k + 1)) ((nums s).drop (k + 1))) := by
          show _ = _
          rw [hx, if_pos h10, Na.cut_same, nums_cut, List.append_assoc]; rfl
        rw [h10] at hc0
        clear hx h10 c1 c2
        go_wp2_with (at_builtin; refine wpList_append_own _ rfl (.tmp 18) (.tmp 23) 32 rfl w.heap.size 9 i0 (.string ⟨#[]⟩) 1 16 Tryd.underlying32 hi hz0 hz1 hz2 rfl (by decide) _ _ _ rfl (how.alloc _) ⟨wr.heap.size, 0, none⟩ 1 1 [.string (s.extract a k)] rfl rfl (one_new20 _ _ _) (str_one20 _) (by unfold maxLen; omega) (by omega) (by simp; omega) ?_)
        intro v9 w9 hrow9 hg9 _
        have hb9 : Below w.heap.size w w9 := below_append hB how hbel hg9
        rw [txt_snoc20 ls _ rfl] at hrow9
        have HR := hide hrow9
        clear hrow9 hg9 how hbel
        go_wp2
        go_roundw
        case rel => exact ⟨k + 1, k + 1, ls ++ [nums (s.extract a k)], by go_num, by go_num, by omega, by omega, by simpa using unhide HR, by simp; omega, hb9, unhide HX⟩
        case measure => simp [intOf]; omega
      · have HX : Hid (lb = ls ++ Na.splA (Na.cut (nums s) a (k + 1)) ((nums s).drop (k + 1))) := by
          show _ = _
          rw [hx, if_neg h10, Na.cut_snoc hak (by omega)]
        have he : ((nums s).getD k 0 == 46) = false := beq_eq_false_iff_ne.2 h10
        clear hx h10
        generalize (nums s).getD k 0 = c at *
        go_wp2
        go_roundw
        case rel => exact ⟨k + 1, a, ls, by go_num, rfl, by omega, by omega, how, by omega, hbel, unhide HX⟩
        case measure => simp [intOf]; omega
    · obtain rfl : k = s.size := by omega
      have hd : (nums s).drop s.size = [] := List.drop_eq_nil_of_le (by omega)
      rw [hd, Na.splA] at hx
      have hx2 : lb = ls ++ [nums (s.extract a s.size)] := by rw [hx, nums_cut]; rfl
      have HX := hide hx2
      clear hx hx2 hd
      go_wp2_with (at_builtin; refine wpList_append_own _ rfl (.tmp 27) (.tmp 31) 32 rfl w.heap.size 9 i0 (.string ⟨#[]⟩) 1 16 Tryd.underlying32 hi hz0 hz1 hz2 rfl (by decide) _ _ _ rfl (how.alloc _) ⟨wr.heap.size, 0, none⟩ 1 1 [.string (s.extract a s.size)] rfl rfl (one_new20 _ _ _) (str_one20 _) (by unfold maxLen; omega) (by omega) (by simp; omega) ?_)
      intro v9 w9 hrow9 hg9 _
      have hb9 : Below w.heap.size w w9 := below_append hB how hbel hg9
      rw [txt_snoc20 ls _ rfl] at hrow9
      have HF : Hid (TxtB20 w lb (.returned v9) w9) := by
        rw [unhide HX]
        exact ⟨v9, rfl, ⟨by simp [txt20]; omega, by simpa [txt20] using hrow9⟩, hb9⟩
      clear hrow9 hg9 how hbel HX
      go_wp2
      go_ret
      exact unhide HF
end Go.Proofs.YtcnmmghkjblemaaDoor
