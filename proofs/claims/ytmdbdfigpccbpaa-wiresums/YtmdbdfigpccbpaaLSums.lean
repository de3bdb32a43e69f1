/- The law WireSums, out of the contracts. -/
import Derived.Test.YtmdbdfigpccbpaaParts
import Derived.Test.YtmdbdfigpccbpaaTold
import Derived.Test.YtmdbdfigpccbpaaOpen
import Derived.Deep.QuietTactic
import Derived.BigQuiet
namespace Go.Proofs.Ytmdbdfigpccbpaa
open Go.RowKit

/-- The slice v holds the ints cs. -/
def Ci (w : World) (v : Value) (cs : List Int) : Prop :=
  cs.length ≤ 140737488355328 ∧ ((cs = [] ∧ ∃ ao cap, v = .slice ao 0 cap) ∨
    ∃ b off cap, v = .slice (some ⟨b, off, none⟩) cs.length cap ∧ ∀ i, i < cs.length → w.cell? ⟨b, off + i, none⟩ = some (.int .i64 (cs.getD i 0)))

theorem Ci.shape {w : World} {v : Value} {cs : List Int} (h : Ci w v cs) : ∃ ao cap, v = .slice ao cs.length cap := by
  rcases h.2 with ⟨rfl, ao, cap, hv⟩ | ⟨b, off, cap, hv, _⟩
  · exact ⟨ao, cap, hv⟩
  · exact ⟨_, cap, hv⟩

theorem Ci.at {w w' : World} {ao : Option Addr} {cap : Nat} {cs : List Int} (h : Ci w (.slice ao cs.length cap) cs) (hb : Below w.heap.size w w') (k : Nat) (hk : k < cs.length) :
    ∃ b off, ao = some ⟨b, off, none⟩ ∧ w'.cell? ⟨b, off + k, none⟩ = some (.int .i64 (cs.getD k 0)) := by
  rcases h.2 with ⟨rfl, _⟩ | ⟨b, off, cap', hv, hc⟩
  · simp at hk
  · simp only [Value.slice.injEq] at hv
    refine ⟨b, off, hv.1, ?_⟩
    rw [hb.cell (lt_of_cell? (hc k hk))]
    exact hc k hk

theorem ci_of_row {w : World} {a : Option Addr} {len cap : Nat} {zs : List Int} (h : (a = none ∧ len = 0 ∧ cap = 0 ∧ zs = []) ∨
    ∃ x, a = some x ∧ len ≤ cap ∧ cap ≤ maxLen ∧ zs.length = cap ∧ (∀ i, i < zs.length → w.cell? (x.add i) = some (.int .i64 (zs.getD i 0))) ∧ ∀ n ∈ zs, (Lit.int .i64 n).wf = true) (hl : len ≤ 140737488351232) :
    Ci w (.slice a len cap) (zs.take len) := by
  rcases h with ⟨rfl, rfl, rfl, rfl⟩ | ⟨x, rfl, h1, h2, h3, h4, h5⟩
  · exact ⟨by simp, .inl ⟨rfl, none, 0, rfl⟩⟩
  · have hlen : (zs.take len).length = len := by simp; omega
    refine ⟨by omega, ?_⟩
    rcases Nat.eq_zero_or_pos len with h0 | h0
    · subst h0
      exact .inl ⟨by simp, some x, cap, rfl⟩
    · have hx := h4 0 (by omega)
      have hx0 : x.add 0 = x := by simp [Addr.add]
      rw [hx0] at hx
      have hp := plain_of_cell hx
      generalize x.block = b at *
      generalize x.off = o at *
      subst hp
      refine .inr ⟨b, o, cap, by rw [hlen], fun i hi => ?_⟩
      have hplain : (⟨b, o, none⟩ : Addr).add i = ⟨b, o + i, none⟩ := by unfold Addr.add; split <;> simp_all
      rw [← hplain, h4 i (by omega)]
      simp [List.getD, List.getElem?_take_of_lt (show i < len by omega)]

theorem and_63 (n : Int) : ∃ m : Nat, bits .and .i64 n 63 = m ∧ m ≤ 63 := by
  refine ⟨(bits .and .i64 n 63).toNat, ?_⟩
  have h : (BitVec.ofInt 64 n &&& BitVec.ofInt 64 63).toNat ≤ 63 := by
    rw [BitVec.toNat_and]
    exact Nat.le_trans Nat.and_le_right (by decide)
  have e : bits .and .i64 n 63 = (((BitVec.ofInt 64 n &&& BitVec.ofInt 64 63).toNat : Nat) : Int) := by
    show IntKind.i64.wrap ((BitVec.ofInt 64 n &&& BitVec.ofInt 64 63).toNat : Int) = _
    generalize (BitVec.ofInt 64 n &&& BitVec.ofInt 64 63).toNat = c at *
    exact wraps_i64 _ (by omega) (by omega)
  rw [e]
  omega

theorem sl_empty (w : World) (ao : Option Addr) : Sl w (.slice ao 0 0) [] := ⟨Byt.nil, by simp, .inl ⟨rfl, ao, 0, rfl, by omega, fun _ => rfl⟩⟩

theorem row_shape {w : World} {base n : Nat} {v : Value} {xs : List Value} (h : w.ownsRow base 22 1 v n xs) (hn : 0 < n) : ∃ g cap, v = .slice (some ⟨g, 0, none⟩) n cap ∧ n ≤ cap ∧ cap ≤ 9223372036854775807 := by
  rcases h.2 with ⟨_, h0⟩ | ⟨g, cap, cur, hv, hg, hh, hn', hcap, hsz, htake⟩
  · omega
  · exact ⟨g, cap, hv, hn', by unfold maxLen at hcap; omega⟩

theorem own_apart {w : World} {B : Nat} {v u : Value} {n : Nat} {xs : List Value} (h : w.ownsRow B 5 1 v n xs) (hu : ∀ k, u.ownBlock = some k → k < B) : v.ownBlock = none ∨ v.ownBlock ≠ u.ownBlock := by
  cases hv : v.ownBlock with
  | none => exact .inl rfl
  | some k =>
    right
    intro e
    have := hu k e.symm
    have := (h.lt k hv).1
    omega

theorem flat_part (ls : List (List Int)) (y : Nat) (h : y < ls.length) : (ls.flatten.drop (ls.take y).flatten.length).take (ls.getD y []).length = ls.getD y [] ∧ (ls.take y).flatten.length + (ls.getD y []).length ≤ ls.flatten.length := by
  have e : ls.flatten = (ls.take y).flatten ++ (ls.getD y [] ++ (ls.drop (y + 1)).flatten) := by
    rw [← List.append_assoc, ← takes_snoc ls y h, ← List.flatten_append, List.take_append_drop]
  constructor
  · rw [e, List.drop_left', List.take_left']
    · rfl
    · rfl
  · rw [e]
    simp only [List.length_append]
    omega

theorem one_sl (a : Option Addr) (n c : Nat) : ∀ u ∈ [Value.slice a n c], u.oneCell' = true := by intro u hu; simp at hu; subst hu; rfl

theorem take_more (zs : List Int) (a b : Nat) (h : a ≤ b) : zs.take a ++ (zs.drop a).take (b - a) = zs.take b := by
  have := List.take_add (l := zs) (i := a) (j := b - a)
  rw [show a + (b - a) = b by omega] at this
  exact this.symm

set_option maxRecDepth 100000 in
set_option maxHeartbeats 8000000 in
theorem wireSums_any (v vc : Value) (zs cs : List Int) (w : World) (hs : Sl w v zs) (hl : zs.length ≤ 140737488351232) (hcs : Ci w vc cs) :
    Calls Try.prog 6 #[v, vc] w fun e w' => e = .returned (.bool true) ∧ Below w.heap.size w w' := by
  obtain ⟨ao, cap, rfl, kc1, kc2⟩ := hs.shape
  obtain ⟨aoc, capc, rfl⟩ := hcs.shape
  have hcl := hcs.1
  obtain ⟨i0, hi, hz0, hz1, hz2⟩ := info_parts Try.info22
  go_enter Try.func6, Try.ntmps6
  go_wp2
  go_loopw [5, 6, 7] (fun p f i wr => ∃ (k fr : Nat) (ls : List (List Int)), k ≤ 40 ∧ i = .int .i64 k ∧ f = .int .i64 fr ∧ fr ≤ zs.length ∧ ls.length = k ∧ Ps wr w.heap.size p ls ∧ ls.flatten = zs.take fr ∧ Below w.heap.size w wr) (fun _ _ i _ => 40 - (intOf i).toNat)
  case atStart => exact ⟨0, 0, [], by omega, rfl, rfl, by omega, rfl, Ps.nil _ _, by simp, Below.refl _ _⟩
  case round =>
    obtain ⟨k, fr, ls, hk40, rfl, rfl, hfr, hlk, hps, hfl, hb⟩ := hrel
    have HLK := hide hlk
    have HFL := hide hfl
    have HPS := hide hps
    clear hlk hfl hps
    by_cases hgo : k < cs.length ∧ k < 40
    · obtain ⟨hk1, hk2⟩ := hgo
      obtain ⟨bc, oc, rfl, hcell⟩ := hcs.at hb k hk1
      simp only [List.getD_eq_getElem?_getD] at hcell
      generalize cs[k]?.getD 0 = c at *
      obtain ⟨m, hm, hm63⟩ := and_63 c
      have sb := hs.below hb
      obtain ⟨us, hus, hrow, hrm⟩ := unhide HPS
      have HUS := hide hus
      have HRM := hide hrm
      clear hus hrm HPS
      have hlsz : ls.length ≤ 40 := by have := unhide HLK; omega
      have hsz := hb.size
      clear hcs
      by_cases hcp : cap = fr
      · have hfz : fr = zs.length := by omega
        subst hcp
        have HFZ := hide hfz
        have hfz1 : zs.length ≤ cap := by omega
        clear hfz
        by_cases hover : zs.length < cap + m
        · go_wp2_with fail
          refine (roomy_any _ [] _ (sl_empty wr ao) (by simp)).mono ?_
          rintro e w1 ⟨g, capg, rfl, hown, hc1, hc2, hb1⟩
          have hrow1 := row_below hrow hb1
          have hu : Rm w1 w.heap.size (.slice (some ⟨g, 0, none⟩) 0 capg) [] := ⟨g, capg, rfl, own_lower5 hown hsz, hc1, hc2, Byt.nil⟩
          have hb2 := hb.trans (hb1.mono hsz)
          have hsz2 := hb2.size
          have HRM1 := hide (fun i hi => ((unhide HRM) i hi).below hb1)
          clear hown hb1 hrow HRM sb 
          go_wp2_with (at_builtin; refine wpList_append_own _ rfl (.tmp 39) (.tmp 45) 51 rfl w.heap.size 22 i0 (.slice none 0 0) 1 24 Try.underlying51 hi hz0 hz1 hz2 rfl (by decide) _ _ _ rfl (hrow1.alloc _) ⟨w1.heap.size, 0, none⟩ 1 1 [.slice (some ⟨g, 0, none⟩) 0 capg] rfl rfl (cell_one_new _ _ _) (one_sl _ _ _) (by unfold maxLen; omega) (by omega) (by simp; omega) ?_)
          intro v2 w2 hrow2 hg2 _
          have R := Ps.snoc (unhide HUS) hrow1 (unhide HRM1) hu hrow2 hg2
          have R2 : Below w.heap.size w w2 := (hb2.alloc hsz2 _).grown hg2 (by simp; omega) (fun k hk => (hrow1.lt k hk).1)
          have R3 : (ls ++ [[]]).flatten = zs.take (zs.length) := by
            rw [List.flatten_append, unhide HFL, List.take_of_length_le hfz1, List.take_of_length_le (by omega)]
            simp
          clear hrow2 hg2 hrow1 HRM1 HUS hu hb hb2
          go_wp2
          go_roundw
          case rel => exact ⟨k + 1, zs.length, ls ++ [[]], by omega, by go_num, by go_num, by omega, by simp [unhide HLK], R, R3, R2⟩
          case measure => simp [intOf]; omega
        · obtain rfl : m = 0 := by omega
          have hm' : bits .and .i64 c 63 = 0 := hm
          clear hm
          go_wp2_with fail
          refine (roomy_any _ [] _ (sl_empty wr ao) (by simp)).mono ?_
          rintro e w1 ⟨g, capg, rfl, hown, hc1, hc2, hb1⟩
          have hrow1 := row_below hrow hb1
          have hu : Rm w1 w.heap.size (.slice (some ⟨g, 0, none⟩) 0 capg) [] := ⟨g, capg, rfl, own_lower5 hown hsz, hc1, hc2, Byt.nil⟩
          have hb2 := hb.trans (hb1.mono hsz)
          have hsz2 := hb2.size
          have HRM1 := hide (fun i hi => ((unhide HRM) i hi).below hb1)
          clear hown hb1 hrow HRM sb 
          go_wp2_with (at_builtin; refine wpList_append_own _ rfl (.tmp 39) (.tmp 45) 51 rfl w.heap.size 22 i0 (.slice none 0 0) 1 24 Try.underlying51 hi hz0 hz1 hz2 rfl (by decide) _ _ _ rfl (hrow1.alloc _) ⟨w1.heap.size, 0, none⟩ 1 1 [.slice (some ⟨g, 0, none⟩) 0 capg] rfl rfl (cell_one_new _ _ _) (one_sl _ _ _) (by unfold maxLen; omega) (by omega) (by simp; omega) ?_)
          intro v2 w2 hrow2 hg2 _
          have R := Ps.snoc (unhide HUS) hrow1 (unhide HRM1) hu hrow2 hg2
          have R2 : Below w.heap.size w w2 := (hb2.alloc hsz2 _).grown hg2 (by simp; omega) (fun k hk => (hrow1.lt k hk).1)
          have R3 : (ls ++ [[]]).flatten = zs.take (cap) := by
            rw [List.flatten_append, unhide HFL]
            simp
          clear hrow2 hg2 hrow1 HRM1 HUS hu hb hb2
          go_wp2
          go_roundw
          case rel => exact ⟨k + 1, cap, ls ++ [[]], by omega, by go_num, by go_num, by omega, by simp [unhide HLK], R, R3, R2⟩
          case measure => simp [intOf]; omega
      · by_cases hover : zs.length < fr + m
        · have hcut := sb.cut (l := fr) (h := zs.length) (m := cap) (by omega) (by omega) (by omega) (by omega)
          have hmore := hide (take_more zs fr zs.length (by omega))
          simp only [sliced, hcp, if_false, Nat.mul_one] at hcut
          have hyb := hcut.1
          have hflat : (ls ++ [(zs.drop fr).take (zs.length - fr)]).flatten = zs.take (zs.length) := by
            rw [List.flatten_append, unhide HFL, ← unhide hmore]
            simp
          have hlen2 : ((zs.drop fr).take (zs.length - fr)).length ≤ 140737488351232 := by rw [List.length_take, List.length_drop]; omega
          have HFT := hide hflat
          clear hflat
          generalize (zs.drop fr).take (zs.length - fr) = ys at *
          go_wp2_with fail
          refine (roomy_any _ ys _ ?hsl hlen2).mono ?_
          case hsl => simpa using hcut
          rintro e w1 ⟨g, capg, rfl, hown, hc1, hc2, hb1⟩
          have hrow1 := row_below hrow hb1
          have hu : Rm w1 w.heap.size (.slice (some ⟨g, 0, none⟩) ys.length capg) ys := ⟨g, capg, rfl, own_lower5 hown hsz, hc1, hc2, hyb⟩
          have hb2 := hb.trans (hb1.mono hsz)
          have hsz2 := hb2.size
          have HRM1 := hide (fun i hi => ((unhide HRM) i hi).below hb1)
          clear hown hb1 hrow HRM sb hcut
          go_wp2_with (at_builtin; refine wpList_append_own _ rfl (.tmp 39) (.tmp 45) 51 rfl w.heap.size 22 i0 (.slice none 0 0) 1 24 Try.underlying51 hi hz0 hz1 hz2 rfl (by decide) _ _ _ rfl (hrow1.alloc _) ⟨w1.heap.size, 0, none⟩ 1 1 [.slice (some ⟨g, 0, none⟩) ys.length capg] rfl rfl (cell_one_new _ _ _) (one_sl _ _ _) (by unfold maxLen; omega) (by omega) (by simp; omega) ?_)
          intro v2 w2 hrow2 hg2 _
          have R := Ps.snoc (unhide HUS) hrow1 (unhide HRM1) hu hrow2 hg2
          have R2 : Below w.heap.size w w2 := (hb2.alloc hsz2 _).grown hg2 (by simp; omega) (fun k hk => (hrow1.lt k hk).1)
          have R3 : (ls ++ [ys]).flatten = zs.take (zs.length) := by
            exact unhide HFT
          clear hrow2 hg2 hrow1 HRM1 HUS hu hb hb2
          go_wp2
          go_roundw
          case rel => exact ⟨k + 1, zs.length, ls ++ [ys], by omega, by go_num, by go_num, by omega, by simp [unhide HLK], R, R3, R2⟩
          case measure => simp [intOf]; omega
        · have hcut := sb.cut (l := fr) (h := fr + m) (m := cap) (by omega) (by omega) (by omega) (by omega)
          have hmore := hide (take_more zs fr (fr + m) (by omega))
          simp only [sliced, hcp, if_false, Nat.mul_one] at hcut
          have hyb := hcut.1
          have hflat : (ls ++ [(zs.drop fr).take (fr + m - fr)]).flatten = zs.take (fr + m) := by
            rw [List.flatten_append, unhide HFL, ← unhide hmore]
            simp
          have hlen2 : ((zs.drop fr).take (fr + m - fr)).length ≤ 140737488351232 := by rw [List.length_take, List.length_drop]; omega
          have HFT := hide hflat
          clear hflat
          generalize (zs.drop fr).take (fr + m - fr) = ys at *
          go_wp2_with fail
          refine (roomy_any _ ys _ ?hsl hlen2).mono ?_
          case hsl => simpa using hcut
          rintro e w1 ⟨g, capg, rfl, hown, hc1, hc2, hb1⟩
          have hrow1 := row_below hrow hb1
          have hu : Rm w1 w.heap.size (.slice (some ⟨g, 0, none⟩) ys.length capg) ys := ⟨g, capg, rfl, own_lower5 hown hsz, hc1, hc2, hyb⟩
          have hb2 := hb.trans (hb1.mono hsz)
          have hsz2 := hb2.size
          have HRM1 := hide (fun i hi => ((unhide HRM) i hi).below hb1)
          clear hown hb1 hrow HRM sb hcut
          go_wp2_with (at_builtin; refine wpList_append_own _ rfl (.tmp 39) (.tmp 45) 51 rfl w.heap.size 22 i0 (.slice none 0 0) 1 24 Try.underlying51 hi hz0 hz1 hz2 rfl (by decide) _ _ _ rfl (hrow1.alloc _) ⟨w1.heap.size, 0, none⟩ 1 1 [.slice (some ⟨g, 0, none⟩) ys.length capg] rfl rfl (cell_one_new _ _ _) (one_sl _ _ _) (by unfold maxLen; omega) (by omega) (by simp; omega) ?_)
          intro v2 w2 hrow2 hg2 _
          have R := Ps.snoc (unhide HUS) hrow1 (unhide HRM1) hu hrow2 hg2
          have R2 : Below w.heap.size w w2 := (hb2.alloc hsz2 _).grown hg2 (by simp; omega) (fun k hk => (hrow1.lt k hk).1)
          have R3 : (ls ++ [ys]).flatten = zs.take (fr + m) := by
            exact unhide HFT
          clear hrow2 hg2 hrow1 HRM1 HUS hu hb hb2
          go_wp2
          go_roundw
          case rel => exact ⟨k + 1, fr + m, ls ++ [ys], by omega, by go_num, by go_num, by omega, by simp [unhide HLK], R, R3, R2⟩
          case measure => simp [intOf]; omega
    · obtain ⟨us, hus, hrow, hrm⟩ := unhide HPS
      have HUS := hide hus
      have HRM := hide hrm
      clear hus hrm HPS hcs
      have hlsz : ls.length ≤ 40 := by have := unhide HLK; omega
      have hsz := hb.size
      have sb := hs.below hb
      by_cases hk1 : k < cs.length
      · have hk2 : ¬ k < 40 := by omega
        clear hgo
        by_cases hcp : cap = fr
        · have hfz : fr = zs.length := by omega
          subst hcp
          have hfz1 : zs.length ≤ cap := by omega
          clear hfz
          go_wp2_with fail
          refine (roomy_any _ [] _ ?hsl (by simp)).mono ?_
          case hsl => first | exact sl_empty _ _ | (rw [show zs.length - cap = 0 by omega]; exact sl_empty _ _)
          rintro e w1 ⟨g, capg, rfl, hown, hc1, hc2, hb1⟩
          have hrow1 := row_below hrow hb1
          have hu : Rm w1 w.heap.size (.slice (some ⟨g, 0, none⟩) 0 capg) [] := ⟨g, capg, rfl, own_lower5 hown hsz, hc1, hc2, Byt.nil⟩
          have hb2 := hb.trans (hb1.mono hsz)
          have hsz2 := hb2.size
          have HRM1 := hide (fun i hi => ((unhide HRM) i hi).below hb1)
          clear hown hb1 hrow HRM
          go_wp2_with (at_builtin; refine wpList_append_own _ rfl (.tmp 48) (.tmp 53) 51 rfl w.heap.size 22 i0 (.slice none 0 0) 1 24 Try.underlying51 hi hz0 hz1 hz2 rfl (by decide) _ _ _ rfl (hrow1.alloc _) ⟨w1.heap.size, 0, none⟩ 1 1 [.slice (some ⟨g, 0, none⟩) 0 capg] rfl rfl (cell_one_new _ _ _) (one_sl _ _ _) (by unfold maxLen; omega) (by omega) (by simp; omega) ?_)
          intro v5 w5 hrow5 hg5 _
          have hP := Ps.snoc (unhide HUS) hrow1 (unhide HRM1) hu hrow5 hg5
          have hB5 : Below w.heap.size w w5 := (hb2.alloc hsz2 _).grown hg5 (by simp; omega) (fun k hk => (hrow1.lt k hk).1)
          have hFl : (ls ++ [[]]).flatten = zs := by
            rw [List.flatten_append, unhide HFL, List.take_of_length_le hfz1]
            simp
          have hLn : (ls ++ [[]]).length ≤ 41 := by rw [List.length_append]; simp; omega
          obtain ⟨gp, cp, hv5, _, _⟩ := row_shape hrow5 (by omega)
          have hLe : (ls ++ [[]]).length = ls.length + 1 := by simp
          rw [hv5] at hP ⊢
          have sb5 := hs.below hB5
          clear hrow5 hg5 hrow1 HRM1 HUS hu hb hb2 hv5 HFL
          generalize ls ++ [[]] = LS at *
          rw [← hLe] at hP ⊢
          clear hLe HLK
          have HSUM := hide (sum_any _ LS w5 (hP.pa (by omega)) hP.byt)
          have HJ1 := hide (joined_any _ LS w5 (hP.pa (by omega)) hP.byt (by rw [hFl]; omega))
          rw [hFl] at HSUM HJ1
          have HFl := hide hFl
          clear hFl
          go_wp2_with fail
          refine (unhide HSUM).mono ?_
          rintro e w5 ⟨rfl, rfl⟩
          go_wp2_with fail
          refine (unhide HJ1).mono ?_
          rintro e w6 ⟨vj, rfl, oj, bj⟩
          have hP6 := hP.below bj
          have HJ2 := hide (joined_any _ LS w6 (hP6.pa (by omega)) hP6.byt (by rw [unhide HFl]; omega))
          rw [unhide HFl] at HJ2
          obtain ⟨aoj, capj, hvj, _, _⟩ := oj.sl.shape
          rw [hvj] at oj ⊢
          clear hvj
          go_wp2_with fail
          refine (unhide HJ2).mono ?_
          rintro e w7 ⟨vk, rfl, ok, bk⟩
          obtain ⟨aok, capk, hvk, _, _⟩ := ok.sl.shape
          rw [hvk] at ok ⊢
          clear hvk HSUM HJ1 HJ2 hP6
          go_wp2_with fail
          refine (told_any _).mono ?_
          rintro e w8 ⟨rfl, b8⟩
          have oj8 := own_below (own_below oj bk) b8
          have ok8 := own_below ok b8
          have BJ := bthen (bthen bj bk) b8
          have sb8 := sb5.below BJ
          have HRS := hide (refSum_any _ zs w8 sb8)
          go_wp2_with fail
          refine (unhide HRS).mono ?_
          rintro e w8 ⟨rfl, rfl⟩
          have hcvj := oj8.sl.conv
          have hcvb := sb8.conv
          have HJL := hide oj.2.2.lt
          have hbz := hs.1
          clear HRS oj bj bk b8 ok sb
          generalize strOfNums zs = sz at hcvj hcvb
          go_wp2
          go_loopw [12] (fun i wr => ∃ (k : Nat) (xs : List Int), k ≤ zs.length ∧ i = .int .i64 k ∧ xs.length = zs.length ∧ Byt xs ∧ wr.ownsRow w5.heap.size 5 1 (.slice aoj zs.length capj) zs.length (xs.map (Value.int .u8)) ∧ Own wr w6.heap.size (.slice aok zs.length capk) zs ∧ Below w5.heap.size w5 wr) (fun i _ => zs.length - (intOf i).toNat)
          case atStart => exact ⟨0, zs, by omega, rfl, rfl, hbz, oj8.2.2, ok8, BJ⟩
          case round =>
            clear oj8 ok8 BJ hcvj hcvb sb8
            obtain ⟨q, xs, hq, rfl, hxl, hxb, hxo, hko, hbj⟩ := hrel
            have HXL := hide hxl
            clear hxl
            by_cases hql : q < zs.length
            · obtain ⟨gj, cj, hvj, _, _⟩ := own_shape hxo (by omega)
              simp only [Value.slice.injEq, true_and] at hvj
              obtain ⟨rfl, rfl⟩ := hvj
              have hjl := (unhide HJL) gj rfl
              have hcell : wr.cell? ⟨gj, q, none⟩ = some (.int .u8 (xs[q]?.getD 0)) := by
                have : q < xs.length := by have := unhide HXL; omega
                rw [hxo.cellAt q (by omega)]
                simp [this]
              have hfz := hxo.frozenAt q
              have hrz := hxb.at q
              have ST := hxo.stored q (.int .u8 ((xs[q]?.getD 0 + 1) % 256))
              rw [← List.map_set] at ST
              have R1 := ST.1
              have R2 : Own (wr.setCell ⟨gj, q, none⟩ (.int .u8 ((xs[q]?.getD 0 + 1) % 256))) w6.heap.size (.slice aok zs.length capk) zs := ⟨hko.1, hko.2.1, ownsRow_setCell_below hko.2.2 (by exact hjl.2) _⟩
              have R3 : Below w5.heap.size w5 (wr.setCell ⟨gj, q, none⟩ (.int .u8 ((xs[q]?.getD 0 + 1) % 256))) := hbj.setCell (by exact hjl.1) _
              have R4 : Byt (xs.set q ((xs[q]?.getD 0 + 1) % 256)) := by
                intro z hz
                rcases List.mem_or_eq_of_mem_set hz with hz | hz
                · exact hxb z hz
                · subst hz; omega
              clear ST hxo hko hbj hxb
              generalize xs[q]?.getD 0 = z at *
              go_wp2
              go_roundw
              case rel => exact ⟨q + 1, _, by omega, by go_num, by rw [List.length_set]; exact unhide HXL, R4, R1, R2, R3⟩
              case measure => simp [intOf]; omega
            · obtain ⟨i5, gi5, g50, g51, g52⟩ := info_parts Try.info5
              have hszj := hbj.size
              go_wp2_with (at_builtin; refine wpList_append_own _ rfl (.tmp 90) (.tmp 91) 22 rfl w5.heap.size 5 i5 (.int .u8 0) 1 1 Try.underlying22 gi5 g50 g51 g52 rfl (by decide) _ _ _ rfl (hxo.alloc _) ⟨wr.heap.size, 0, none⟩ 1 1 [.int .u8 9] rfl rfl (cell_one_new _ _ _) (one_u8 _) (by unfold maxLen; omega) (by omega) (by simp; omega) ?_)
              intro v9 w9 h9 hg9 _
              obtain ⟨g9, c9, hv9, _, _⟩ := own_shape h9 (by omega)
              have K9 : Own w9 w6.heap.size (.slice aok zs.length capk) zs := ⟨hko.1, hko.2.1, (hko.2.2.alloc _).kept hg9 (own_apart hko.2.2 (fun k hk => ((unhide HJL) k hk).2))⟩
              have B9 : Below w5.heap.size w5 w9 := (hbj.alloc hszj _).grown hg9 (by simp; omega) (fun k hk => (hxo.lt k hk).1)
              rw [hv9]
              clear h9 hg9 hko hbj hxo hv9
              go_wp2
              go_loopw [6, 14] (fun f i wr => ∃ k : Nat, k ≤ LS.length ∧ i = .int .i64 k ∧ f = .int .i64 ((LS.take k).flatten.length : Nat) ∧ Own wr w6.heap.size (.slice aok zs.length capk) zs ∧ Below w5.heap.size w5 wr) (fun _ i _ => LS.length - (intOf i).toNat)
              case atStart => exact ⟨0, by omega, rfl, rfl, K9, B9⟩
              case round =>
                clear K9 B9
                obtain ⟨y, hy, rfl, rfl, hko, hby⟩ := hrel
                by_cases hyl : y < LS.length
                · obtain ⟨us3, hu1, hu2, hu3⟩ := hP.below hby
                  obtain ⟨g3, cg, hue, hown3, hc31, hc32, hbl⟩ := hu3 y hyl
                  have hcell : wr.cell? ⟨gp, y, none⟩ = some (us3.getD y undef) := by
                    rw [hu2.cellAt y (by omega)]
                    have : y < us3.length := by omega
                    simp [List.getD, this]
                  rw [hue] at hcell
                  have hfp := flat_part LS y hyl
                  rw [unhide HFl] at hfp
                  have HS := hide (show (LS.take (y + 1)).flatten.length = (LS.take y).flatten.length + (LS.getD y []).length by rw [takes_snoc LS y hyl, List.length_append])
                  have sbr := sb5.below hby
                  have sin3 := hown3.sl
                  clear hu1 hu2 hu3 hue hown3
                  generalize LS.getD y [] = l3 at *
                  generalize (LS.take y).flatten.length = f3 at *
                  have hcut := sbr.cut (l := f3) (h := f3 + l3.length) (m := cap) (by omega) (by omega) (by omega) (by omega)
                  rw [show f3 + l3.length - f3 = l3.length by omega, hfp.1] at hcut
                  have hl3 : l3.length ≤ 140737488351232 := by omega
                  have hf3 : f3 + l3.length ≤ zs.length := hfp.2
                  clear hfp sbr
                  by_cases hcp3 : cap = f3
                  · subst hcp3
                    obtain rfl : l3 = [] := List.eq_nil_of_length_eq_zero (by omega)
                    simp only [List.length_nil] at hcell hf3
                    have HW := fun nq => hide (whole_yes g3 cg (.slice ao 0 0) [] (wr.drewN nq) (sl_empty _ ao) (by simp) hc31 hc32 (sin3.below (below_drewN (Below.refl _ _) nq)))
                    clear hcut sin3
                    go_wp2
                    go_quiet ((go_at_call 16; refine (unhide (HW _)).mono ?_; rintro e w'' ⟨rfl, rfl⟩; exact ⟨rfl, _, rfl⟩))
                    go_wp2
                    go_roundw
                    case rel => exact ⟨y + 1, by omega, by go_num, val_int (by rw [unhide HS]; simp), ⟨hko.1, hko.2.1, hko.2.2⟩, below_drewN hby nq⟩
                    case measure => simp [intOf]; omega
                  · simp only [sliced, hcp3, if_false, Nat.mul_one, Nat.add_sub_cancel_left] at hcut
                    have HW := fun nq => hide (whole_yes g3 cg _ l3 (wr.drewN nq) (hcut.below (below_drewN (Below.refl _ _) nq)) hl3 hc31 hc32 (sin3.below (below_drewN (Below.refl _ _) nq)))
                    clear hcut sin3
                    go_wp2
                    go_quiet ((go_at_call 16; refine (unhide (HW _)).mono ?_; rintro e w'' ⟨rfl, rfl⟩; exact ⟨rfl, _, rfl⟩))
                    go_wp2
                    go_roundw
                    case rel => exact ⟨y + 1, by omega, by go_num, val_int (by rw [unhide HS]; omega), ⟨hko.1, hko.2.1, hko.2.2⟩, below_drewN hby nq⟩
                    case measure => simp [intOf]; omega
                · have sbz := sb5.below hby
                  have cb := sbz.conv
                  have ck := hko.sl.conv
                  have BF := hB5.trans (hby.mono hB5.size)
                  clear hko sbz
                  generalize strOfNums zs = sz2 at cb ck
                  go_wp2
                  go_ret
                  exact ⟨rfl, BF⟩
        · have hcut := sb.cut (l := fr) (h := zs.length) (m := cap) (by omega) (by omega) (by omega) (by omega)
          simp only [sliced, hcp, if_false, Nat.mul_one] at hcut
          have hyb := hcut.1
          have hlen2 : ((zs.drop fr).take (zs.length - fr)).length ≤ 140737488351232 := by rw [List.length_take, List.length_drop]; omega
          have HFT := hide (show (ls ++ [(zs.drop fr).take (zs.length - fr)]).flatten = zs by
            rw [List.flatten_append, unhide HFL]
            have := take_more zs fr zs.length (by omega)
            rw [List.take_of_length_le (Nat.le_refl _)] at this
            simpa using this)
          generalize (zs.drop fr).take (zs.length - fr) = ys at *
          go_wp2_with fail
          refine (roomy_any _ ys _ ?hsl hlen2).mono ?_
          case hsl => simpa using hcut
          rintro e w1 ⟨g, capg, rfl, hown, hc1, hc2, hb1⟩
          have hrow1 := row_below hrow hb1
          have hu : Rm w1 w.heap.size (.slice (some ⟨g, 0, none⟩) ys.length capg) ys := ⟨g, capg, rfl, own_lower5 hown hsz, hc1, hc2, hyb⟩
          have hb2 := hb.trans (hb1.mono hsz)
          have hsz2 := hb2.size
          have HRM1 := hide (fun i hi => ((unhide HRM) i hi).below hb1)
          clear hown hb1 hrow HRM
          go_wp2_with (at_builtin; refine wpList_append_own _ rfl (.tmp 48) (.tmp 53) 51 rfl w.heap.size 22 i0 (.slice none 0 0) 1 24 Try.underlying51 hi hz0 hz1 hz2 rfl (by decide) _ _ _ rfl (hrow1.alloc _) ⟨w1.heap.size, 0, none⟩ 1 1 [.slice (some ⟨g, 0, none⟩) ys.length capg] rfl rfl (cell_one_new _ _ _) (one_sl _ _ _) (by unfold maxLen; omega) (by omega) (by simp; omega) ?_)
          intro v5 w5 hrow5 hg5 _
          have hP := Ps.snoc (unhide HUS) hrow1 (unhide HRM1) hu hrow5 hg5
          have hB5 : Below w.heap.size w w5 := (hb2.alloc hsz2 _).grown hg5 (by simp; omega) (fun k hk => (hrow1.lt k hk).1)
          have hFl : (ls ++ [ys]).flatten = zs := by
            exact unhide HFT
          have hLn : (ls ++ [ys]).length ≤ 41 := by rw [List.length_append]; simp; omega
          obtain ⟨gp, cp, hv5, _, _⟩ := row_shape hrow5 (by omega)
          have hLe : (ls ++ [ys]).length = ls.length + 1 := by simp
          rw [hv5] at hP ⊢
          have sb5 := hs.below hB5
          clear hrow5 hg5 hrow1 HRM1 HUS hu hb hb2 hv5 HFL
          generalize ls ++ [ys] = LS at *
          rw [← hLe] at hP ⊢
          clear hLe HLK
          have HSUM := hide (sum_any _ LS w5 (hP.pa (by omega)) hP.byt)
          have HJ1 := hide (joined_any _ LS w5 (hP.pa (by omega)) hP.byt (by rw [hFl]; omega))
          rw [hFl] at HSUM HJ1
          have HFl := hide hFl
          clear hFl
          go_wp2_with fail
          refine (unhide HSUM).mono ?_
          rintro e w5 ⟨rfl, rfl⟩
          go_wp2_with fail
          refine (unhide HJ1).mono ?_
          rintro e w6 ⟨vj, rfl, oj, bj⟩
          have hP6 := hP.below bj
          have HJ2 := hide (joined_any _ LS w6 (hP6.pa (by omega)) hP6.byt (by rw [unhide HFl]; omega))
          rw [unhide HFl] at HJ2
          obtain ⟨aoj, capj, hvj, _, _⟩ := oj.sl.shape
          rw [hvj] at oj ⊢
          clear hvj
          go_wp2_with fail
          refine (unhide HJ2).mono ?_
          rintro e w7 ⟨vk, rfl, ok, bk⟩
          obtain ⟨aok, capk, hvk, _, _⟩ := ok.sl.shape
          rw [hvk] at ok ⊢
          clear hvk HSUM HJ1 HJ2 hP6
          go_wp2_with fail
          refine (told_any _).mono ?_
          rintro e w8 ⟨rfl, b8⟩
          have oj8 := own_below (own_below oj bk) b8
          have ok8 := own_below ok b8
          have BJ := bthen (bthen bj bk) b8
          have sb8 := sb5.below BJ
          have HRS := hide (refSum_any _ zs w8 sb8)
          go_wp2_with fail
          refine (unhide HRS).mono ?_
          rintro e w8 ⟨rfl, rfl⟩
          have hcvj := oj8.sl.conv
          have hcvb := sb8.conv
          have HJL := hide oj.2.2.lt
          have hbz := hs.1
          clear HRS oj bj bk b8 ok sb
          generalize strOfNums zs = sz at hcvj hcvb
          go_wp2
          go_loopw [12] (fun i wr => ∃ (k : Nat) (xs : List Int), k ≤ zs.length ∧ i = .int .i64 k ∧ xs.length = zs.length ∧ Byt xs ∧ wr.ownsRow w5.heap.size 5 1 (.slice aoj zs.length capj) zs.length (xs.map (Value.int .u8)) ∧ Own wr w6.heap.size (.slice aok zs.length capk) zs ∧ Below w5.heap.size w5 wr) (fun i _ => zs.length - (intOf i).toNat)
          case atStart => exact ⟨0, zs, by omega, rfl, rfl, hbz, oj8.2.2, ok8, BJ⟩
          case round =>
            clear oj8 ok8 BJ hcvj hcvb sb8
            obtain ⟨q, xs, hq, rfl, hxl, hxb, hxo, hko, hbj⟩ := hrel
            have HXL := hide hxl
            clear hxl
            by_cases hql : q < zs.length
            · obtain ⟨gj, cj, hvj, _, _⟩ := own_shape hxo (by omega)
              simp only [Value.slice.injEq, true_and] at hvj
              obtain ⟨rfl, rfl⟩ := hvj
              have hjl := (unhide HJL) gj rfl
              have hcell : wr.cell? ⟨gj, q, none⟩ = some (.int .u8 (xs[q]?.getD 0)) := by
                have : q < xs.length := by have := unhide HXL; omega
                rw [hxo.cellAt q (by omega)]
                simp [this]
              have hfz := hxo.frozenAt q
              have hrz := hxb.at q
              have ST := hxo.stored q (.int .u8 ((xs[q]?.getD 0 + 1) % 256))
              rw [← List.map_set] at ST
              have R1 := ST.1
              have R2 : Own (wr.setCell ⟨gj, q, none⟩ (.int .u8 ((xs[q]?.getD 0 + 1) % 256))) w6.heap.size (.slice aok zs.length capk) zs := ⟨hko.1, hko.2.1, ownsRow_setCell_below hko.2.2 (by exact hjl.2) _⟩
              have R3 : Below w5.heap.size w5 (wr.setCell ⟨gj, q, none⟩ (.int .u8 ((xs[q]?.getD 0 + 1) % 256))) := hbj.setCell (by exact hjl.1) _
              have R4 : Byt (xs.set q ((xs[q]?.getD 0 + 1) % 256)) := by
                intro z hz
                rcases List.mem_or_eq_of_mem_set hz with hz | hz
                · exact hxb z hz
                · subst hz; omega
              clear ST hxo hko hbj hxb
              generalize xs[q]?.getD 0 = z at *
              go_wp2
              go_roundw
              case rel => exact ⟨q + 1, _, by omega, by go_num, by rw [List.length_set]; exact unhide HXL, R4, R1, R2, R3⟩
              case measure => simp [intOf]; omega
            · obtain ⟨i5, gi5, g50, g51, g52⟩ := info_parts Try.info5
              have hszj := hbj.size
              go_wp2_with (at_builtin; refine wpList_append_own _ rfl (.tmp 90) (.tmp 91) 22 rfl w5.heap.size 5 i5 (.int .u8 0) 1 1 Try.underlying22 gi5 g50 g51 g52 rfl (by decide) _ _ _ rfl (hxo.alloc _) ⟨wr.heap.size, 0, none⟩ 1 1 [.int .u8 9] rfl rfl (cell_one_new _ _ _) (one_u8 _) (by unfold maxLen; omega) (by omega) (by simp; omega) ?_)
              intro v9 w9 h9 hg9 _
              obtain ⟨g9, c9, hv9, _, _⟩ := own_shape h9 (by omega)
              have K9 : Own w9 w6.heap.size (.slice aok zs.length capk) zs := ⟨hko.1, hko.2.1, (hko.2.2.alloc _).kept hg9 (own_apart hko.2.2 (fun k hk => ((unhide HJL) k hk).2))⟩
              have B9 : Below w5.heap.size w5 w9 := (hbj.alloc hszj _).grown hg9 (by simp; omega) (fun k hk => (hxo.lt k hk).1)
              rw [hv9]
              clear h9 hg9 hko hbj hxo hv9
              go_wp2
              go_loopw [6, 14] (fun f i wr => ∃ k : Nat, k ≤ LS.length ∧ i = .int .i64 k ∧ f = .int .i64 ((LS.take k).flatten.length : Nat) ∧ Own wr w6.heap.size (.slice aok zs.length capk) zs ∧ Below w5.heap.size w5 wr) (fun _ i _ => LS.length - (intOf i).toNat)
              case atStart => exact ⟨0, by omega, rfl, rfl, K9, B9⟩
              case round =>
                clear K9 B9
                obtain ⟨y, hy, rfl, rfl, hko, hby⟩ := hrel
                by_cases hyl : y < LS.length
                · obtain ⟨us3, hu1, hu2, hu3⟩ := hP.below hby
                  obtain ⟨g3, cg, hue, hown3, hc31, hc32, hbl⟩ := hu3 y hyl
                  have hcell : wr.cell? ⟨gp, y, none⟩ = some (us3.getD y undef) := by
                    rw [hu2.cellAt y (by omega)]
                    have : y < us3.length := by omega
                    simp [List.getD, this]
                  rw [hue] at hcell
                  have hfp := flat_part LS y hyl
                  rw [unhide HFl] at hfp
                  have HS := hide (show (LS.take (y + 1)).flatten.length = (LS.take y).flatten.length + (LS.getD y []).length by rw [takes_snoc LS y hyl, List.length_append])
                  have sbr := sb5.below hby
                  have sin3 := hown3.sl
                  clear hu1 hu2 hu3 hue hown3
                  generalize LS.getD y [] = l3 at *
                  generalize (LS.take y).flatten.length = f3 at *
                  have hcut := sbr.cut (l := f3) (h := f3 + l3.length) (m := cap) (by omega) (by omega) (by omega) (by omega)
                  rw [show f3 + l3.length - f3 = l3.length by omega, hfp.1] at hcut
                  have hl3 : l3.length ≤ 140737488351232 := by omega
                  have hf3 : f3 + l3.length ≤ zs.length := hfp.2
                  clear hfp sbr
                  by_cases hcp3 : cap = f3
                  · subst hcp3
                    obtain rfl : l3 = [] := List.eq_nil_of_length_eq_zero (by omega)
                    simp only [List.length_nil] at hcell hf3
                    have HW := fun nq => hide (whole_yes g3 cg (.slice ao 0 0) [] (wr.drewN nq) (sl_empty _ ao) (by simp) hc31 hc32 (sin3.below (below_drewN (Below.refl _ _) nq)))
                    clear hcut sin3
                    go_wp2
                    go_quiet ((go_at_call 16; refine (unhide (HW _)).mono ?_; rintro e w'' ⟨rfl, rfl⟩; exact ⟨rfl, _, rfl⟩))
                    go_wp2
                    go_roundw
                    case rel => exact ⟨y + 1, by omega, by go_num, val_int (by rw [unhide HS]; simp), ⟨hko.1, hko.2.1, hko.2.2⟩, below_drewN hby nq⟩
                    case measure => simp [intOf]; omega
                  · simp only [sliced, hcp3, if_false, Nat.mul_one, Nat.add_sub_cancel_left] at hcut
                    have HW := fun nq => hide (whole_yes g3 cg _ l3 (wr.drewN nq) (hcut.below (below_drewN (Below.refl _ _) nq)) hl3 hc31 hc32 (sin3.below (below_drewN (Below.refl _ _) nq)))
                    clear hcut sin3
                    go_wp2
                    go_quiet ((go_at_call 16; refine (unhide (HW _)).mono ?_; rintro e w'' ⟨rfl, rfl⟩; exact ⟨rfl, _, rfl⟩))
                    go_wp2
                    go_roundw
                    case rel => exact ⟨y + 1, by omega, by go_num, val_int (by rw [unhide HS]; omega), ⟨hko.1, hko.2.1, hko.2.2⟩, below_drewN hby nq⟩
                    case measure => simp [intOf]; omega
                · have sbz := sb5.below hby
                  have cb := sbz.conv
                  have ck := hko.sl.conv
                  have BF := hB5.trans (hby.mono hB5.size)
                  clear hko sbz
                  generalize strOfNums zs = sz2 at cb ck
                  go_wp2
                  go_ret
                  exact ⟨rfl, BF⟩
      · clear hgo
        by_cases hcp : cap = fr
        · have hfz : fr = zs.length := by omega
          subst hcp
          have hfz1 : zs.length ≤ cap := by omega
          clear hfz
          go_wp2_with fail
          refine (roomy_any _ [] _ ?hsl (by simp)).mono ?_
          case hsl => first | exact sl_empty _ _ | (rw [show zs.length - cap = 0 by omega]; exact sl_empty _ _)
          rintro e w1 ⟨g, capg, rfl, hown, hc1, hc2, hb1⟩
          have hrow1 := row_below hrow hb1
          have hu : Rm w1 w.heap.size (.slice (some ⟨g, 0, none⟩) 0 capg) [] := ⟨g, capg, rfl, own_lower5 hown hsz, hc1, hc2, Byt.nil⟩
          have hb2 := hb.trans (hb1.mono hsz)
          have hsz2 := hb2.size
          have HRM1 := hide (fun i hi => ((unhide HRM) i hi).below hb1)
          clear hown hb1 hrow HRM
          go_wp2_with (at_builtin; refine wpList_append_own _ rfl (.tmp 48) (.tmp 53) 51 rfl w.heap.size 22 i0 (.slice none 0 0) 1 24 Try.underlying51 hi hz0 hz1 hz2 rfl (by decide) _ _ _ rfl (hrow1.alloc _) ⟨w1.heap.size, 0, none⟩ 1 1 [.slice (some ⟨g, 0, none⟩) 0 capg] rfl rfl (cell_one_new _ _ _) (one_sl _ _ _) (by unfold maxLen; omega) (by omega) (by simp; omega) ?_)
          intro v5 w5 hrow5 hg5 _
          have hP := Ps.snoc (unhide HUS) hrow1 (unhide HRM1) hu hrow5 hg5
          have hB5 : Below w.heap.size w w5 := (hb2.alloc hsz2 _).grown hg5 (by simp; omega) (fun k hk => (hrow1.lt k hk).1)
          have hFl : (ls ++ [[]]).flatten = zs := by
            rw [List.flatten_append, unhide HFL, List.take_of_length_le hfz1]
            simp
          have hLn : (ls ++ [[]]).length ≤ 41 := by rw [List.length_append]; simp; omega
          obtain ⟨gp, cp, hv5, _, _⟩ := row_shape hrow5 (by omega)
          have hLe : (ls ++ [[]]).length = ls.length + 1 := by simp
          rw [hv5] at hP ⊢
          have sb5 := hs.below hB5
          clear hrow5 hg5 hrow1 HRM1 HUS hu hb hb2 hv5 HFL
          generalize ls ++ [[]] = LS at *
          rw [← hLe] at hP ⊢
          clear hLe HLK
          have HSUM := hide (sum_any _ LS w5 (hP.pa (by omega)) hP.byt)
          have HJ1 := hide (joined_any _ LS w5 (hP.pa (by omega)) hP.byt (by rw [hFl]; omega))
          rw [hFl] at HSUM HJ1
          have HFl := hide hFl
          clear hFl
          go_wp2_with fail
          refine (unhide HSUM).mono ?_
          rintro e w5 ⟨rfl, rfl⟩
          go_wp2_with fail
          refine (unhide HJ1).mono ?_
          rintro e w6 ⟨vj, rfl, oj, bj⟩
          have hP6 := hP.below bj
          have HJ2 := hide (joined_any _ LS w6 (hP6.pa (by omega)) hP6.byt (by rw [unhide HFl]; omega))
          rw [unhide HFl] at HJ2
          obtain ⟨aoj, capj, hvj, _, _⟩ := oj.sl.shape
          rw [hvj] at oj ⊢
          clear hvj
          go_wp2_with fail
          refine (unhide HJ2).mono ?_
          rintro e w7 ⟨vk, rfl, ok, bk⟩
          obtain ⟨aok, capk, hvk, _, _⟩ := ok.sl.shape
          rw [hvk] at ok ⊢
          clear hvk HSUM HJ1 HJ2 hP6
          go_wp2_with fail
          refine (told_any _).mono ?_
          rintro e w8 ⟨rfl, b8⟩
          have oj8 := own_below (own_below oj bk) b8
          have ok8 := own_below ok b8
          have BJ := bthen (bthen bj bk) b8
          have sb8 := sb5.below BJ
          have HRS := hide (refSum_any _ zs w8 sb8)
          go_wp2_with fail
          refine (unhide HRS).mono ?_
          rintro e w8 ⟨rfl, rfl⟩
          have hcvj := oj8.sl.conv
          have hcvb := sb8.conv
          have HJL := hide oj.2.2.lt
          have hbz := hs.1
          clear HRS oj bj bk b8 ok sb
          generalize strOfNums zs = sz at hcvj hcvb
          go_wp2
          go_loopw [12] (fun i wr => ∃ (k : Nat) (xs : List Int), k ≤ zs.length ∧ i = .int .i64 k ∧ xs.length = zs.length ∧ Byt xs ∧ wr.ownsRow w5.heap.size 5 1 (.slice aoj zs.length capj) zs.length (xs.map (Value.int .u8)) ∧ Own wr w6.heap.size (.slice aok zs.length capk) zs ∧ Below w5.heap.size w5 wr) (fun i _ => zs.length - (intOf i).toNat)
          case atStart => exact ⟨0, zs, by omega, rfl, rfl, hbz, oj8.2.2, ok8, BJ⟩
          case round =>
            clear oj8 ok8 BJ hcvj hcvb sb8
            obtain ⟨q, xs, hq, rfl, hxl, hxb, hxo, hko, hbj⟩ := hrel
            have HXL := hide hxl
            clear hxl
            by_cases hql : q < zs.length
            · obtain ⟨gj, cj, hvj, _, _⟩ := own_shape hxo (by omega)
              simp only [Value.slice.injEq, true_and] at hvj
              obtain ⟨rfl, rfl⟩ := hvj
              have hjl := (unhide HJL) gj rfl
              have hcell : wr.cell? ⟨gj, q, none⟩ = some (.int .u8 (xs[q]?.getD 0)) := by
                have : q < xs.length := by have := unhide HXL; omega
                rw [hxo.cellAt q (by omega)]
                simp [this]
              have hfz := hxo.frozenAt q
              have hrz := hxb.at q
              have ST := hxo.stored q (.int .u8 ((xs[q]?.getD 0 + 1) % 256))
              rw [← List.map_set] at ST
              have R1 := ST.1
              have R2 : Own (wr.setCell ⟨gj, q, none⟩ (.int .u8 ((xs[q]?.getD 0 + 1) % 256))) w6.heap.size (.slice aok zs.length capk) zs := ⟨hko.1, hko.2.1, ownsRow_setCell_below hko.2.2 (by exact hjl.2) _⟩
              have R3 : Below w5.heap.size w5 (wr.setCell ⟨gj, q, none⟩ (.int .u8 ((xs[q]?.getD 0 + 1) % 256))) := hbj.setCell (by exact hjl.1) _
              have R4 : Byt (xs.set q ((xs[q]?.getD 0 + 1) % 256)) := by
                intro z hz
                rcases List.mem_or_eq_of_mem_set hz with hz | hz
                · exact hxb z hz
                · subst hz; omega
              clear ST hxo hko hbj hxb
              generalize xs[q]?.getD 0 = z at *
              go_wp2
              go_roundw
              case rel => exact ⟨q + 1, _, by omega, by go_num, by rw [List.length_set]; exact unhide HXL, R4, R1, R2, R3⟩
              case measure => simp [intOf]; omega
            · obtain ⟨i5, gi5, g50, g51, g52⟩ := info_parts Try.info5
              have hszj := hbj.size
              go_wp2_with (at_builtin; refine wpList_append_own _ rfl (.tmp 90) (.tmp 91) 22 rfl w5.heap.size 5 i5 (.int .u8 0) 1 1 Try.underlying22 gi5 g50 g51 g52 rfl (by decide) _ _ _ rfl (hxo.alloc _) ⟨wr.heap.size, 0, none⟩ 1 1 [.int .u8 9] rfl rfl (cell_one_new _ _ _) (one_u8 _) (by unfold maxLen; omega) (by omega) (by simp; omega) ?_)
              intro v9 w9 h9 hg9 _
              obtain ⟨g9, c9, hv9, _, _⟩ := own_shape h9 (by omega)
              have K9 : Own w9 w6.heap.size (.slice aok zs.length capk) zs := ⟨hko.1, hko.2.1, (hko.2.2.alloc _).kept hg9 (own_apart hko.2.2 (fun k hk => ((unhide HJL) k hk).2))⟩
              have B9 : Below w5.heap.size w5 w9 := (hbj.alloc hszj _).grown hg9 (by simp; omega) (fun k hk => (hxo.lt k hk).1)
              rw [hv9]
              clear h9 hg9 hko hbj hxo hv9
              go_wp2
              go_loopw [6, 14] (fun f i wr => ∃ k : Nat, k ≤ LS.length ∧ i = .int .i64 k ∧ f = .int .i64 ((LS.take k).flatten.length : Nat) ∧ Own wr w6.heap.size (.slice aok zs.length capk) zs ∧ Below w5.heap.size w5 wr) (fun _ i _ => LS.length - (intOf i).toNat)
              case atStart => exact ⟨0, by omega, rfl, rfl, K9, B9⟩
              case round =>
                clear K9 B9
                obtain ⟨y, hy, rfl, rfl, hko, hby⟩ := hrel
                by_cases hyl : y < LS.length
                · obtain ⟨us3, hu1, hu2, hu3⟩ := hP.below hby
                  obtain ⟨g3, cg, hue, hown3, hc31, hc32, hbl⟩ := hu3 y hyl
                  have hcell : wr.cell? ⟨gp, y, none⟩ = some (us3.getD y undef) := by
                    rw [hu2.cellAt y (by omega)]
                    have : y < us3.length := by omega
                    simp [List.getD, this]
                  rw [hue] at hcell
                  have hfp := flat_part LS y hyl
                  rw [unhide HFl] at hfp
                  have HS := hide (show (LS.take (y + 1)).flatten.length = (LS.take y).flatten.length + (LS.getD y []).length by rw [takes_snoc LS y hyl, List.length_append])
                  have sbr := sb5.below hby
                  have sin3 := hown3.sl
                  clear hu1 hu2 hu3 hue hown3
                  generalize LS.getD y [] = l3 at *
                  generalize (LS.take y).flatten.length = f3 at *
                  have hcut := sbr.cut (l := f3) (h := f3 + l3.length) (m := cap) (by omega) (by omega) (by omega) (by omega)
                  rw [show f3 + l3.length - f3 = l3.length by omega, hfp.1] at hcut
                  have hl3 : l3.length ≤ 140737488351232 := by omega
                  have hf3 : f3 + l3.length ≤ zs.length := hfp.2
                  clear hfp sbr
                  by_cases hcp3 : cap = f3
                  · subst hcp3
                    obtain rfl : l3 = [] := List.eq_nil_of_length_eq_zero (by omega)
                    simp only [List.length_nil] at hcell hf3
                    have HW := fun nq => hide (whole_yes g3 cg (.slice ao 0 0) [] (wr.drewN nq) (sl_empty _ ao) (by simp) hc31 hc32 (sin3.below (below_drewN (Below.refl _ _) nq)))
                    clear hcut sin3
                    go_wp2
                    go_quiet ((go_at_call 16; refine (unhide (HW _)).mono ?_; rintro e w'' ⟨rfl, rfl⟩; exact ⟨rfl, _, rfl⟩))
                    go_wp2
                    go_roundw
                    case rel => exact ⟨y + 1, by omega, by go_num, val_int (by rw [unhide HS]; simp), ⟨hko.1, hko.2.1, hko.2.2⟩, below_drewN hby nq⟩
                    case measure => simp [intOf]; omega
                  · simp only [sliced, hcp3, if_false, Nat.mul_one, Nat.add_sub_cancel_left] at hcut
                    have HW := fun nq => hide (whole_yes g3 cg _ l3 (wr.drewN nq) (hcut.below (below_drewN (Below.refl _ _) nq)) hl3 hc31 hc32 (sin3.below (below_drewN (Below.refl _ _) nq)))
                    clear hcut sin3
                    go_wp2
                    go_quiet ((go_at_call 16; refine (unhide (HW _)).mono ?_; rintro e w'' ⟨rfl, rfl⟩; exact ⟨rfl, _, rfl⟩))
                    go_wp2
                    go_roundw
                    case rel => exact ⟨y + 1, by omega, by go_num, val_int (by rw [unhide HS]; omega), ⟨hko.1, hko.2.1, hko.2.2⟩, below_drewN hby nq⟩
                    case measure => simp [intOf]; omega
                · have sbz := sb5.below hby
                  have cb := sbz.conv
                  have ck := hko.sl.conv
                  have BF := hB5.trans (hby.mono hB5.size)
                  clear hko sbz
                  generalize strOfNums zs = sz2 at cb ck
                  go_wp2
                  go_ret
                  exact ⟨rfl, BF⟩
        · have hcut := sb.cut (l := fr) (h := zs.length) (m := cap) (by omega) (by omega) (by omega) (by omega)
          simp only [sliced, hcp, if_false, Nat.mul_one] at hcut
          have hyb := hcut.1
          have hlen2 : ((zs.drop fr).take (zs.length - fr)).length ≤ 140737488351232 := by rw [List.length_take, List.length_drop]; omega
          have HFT := hide (show (ls ++ [(zs.drop fr).take (zs.length - fr)]).flatten = zs by
            rw [List.flatten_append, unhide HFL]
            have := take_more zs fr zs.length (by omega)
            rw [List.take_of_length_le (Nat.le_refl _)] at this
            simpa using this)
          generalize (zs.drop fr).take (zs.length - fr) = ys at *
          go_wp2_with fail
          refine (roomy_any _ ys _ ?hsl hlen2).mono ?_
          case hsl => simpa using hcut
          rintro e w1 ⟨g, capg, rfl, hown, hc1, hc2, hb1⟩
          have hrow1 := row_below hrow hb1
          have hu : Rm w1 w.heap.size (.slice (some ⟨g, 0, none⟩) ys.length capg) ys := ⟨g, capg, rfl, own_lower5 hown hsz, hc1, hc2, hyb⟩
          have hb2 := hb.trans (hb1.mono hsz)
          have hsz2 := hb2.size
          have HRM1 := hide (fun i hi => ((unhide HRM) i hi).below hb1)
          clear hown hb1 hrow HRM
          go_wp2_with (at_builtin; refine wpList_append_own _ rfl (.tmp 48) (.tmp 53) 51 rfl w.heap.size 22 i0 (.slice none 0 0) 1 24 Try.underlying51 hi hz0 hz1 hz2 rfl (by decide) _ _ _ rfl (hrow1.alloc _) ⟨w1.heap.size, 0, none⟩ 1 1 [.slice (some ⟨g, 0, none⟩) ys.length capg] rfl rfl (cell_one_new _ _ _) (one_sl _ _ _) (by unfold maxLen; omega) (by omega) (by simp; omega) ?_)
          intro v5 w5 hrow5 hg5 _
          have hP := Ps.snoc (unhide HUS) hrow1 (unhide HRM1) hu hrow5 hg5
          have hB5 : Below w.heap.size w w5 := (hb2.alloc hsz2 _).grown hg5 (by simp; omega) (fun k hk => (hrow1.lt k hk).1)
          have hFl : (ls ++ [ys]).flatten = zs := by
            exact unhide HFT
          have hLn : (ls ++ [ys]).length ≤ 41 := by rw [List.length_append]; simp; omega
          obtain ⟨gp, cp, hv5, _, _⟩ := row_shape hrow5 (by omega)
          have hLe : (ls ++ [ys]).length = ls.length + 1 := by simp
          rw [hv5] at hP ⊢
          have sb5 := hs.below hB5
          clear hrow5 hg5 hrow1 HRM1 HUS hu hb hb2 hv5 HFL
          generalize ls ++ [ys] = LS at *
          rw [← hLe] at hP ⊢
          clear hLe HLK
          have HSUM := hide (sum_any _ LS w5 (hP.pa (by omega)) hP.byt)
          have HJ1 := hide (joined_any _ LS w5 (hP.pa (by omega)) hP.byt (by rw [hFl]; omega))
          rw [hFl] at HSUM HJ1
          have HFl := hide hFl
          clear hFl
          go_wp2_with fail
          refine (unhide HSUM).mono ?_
          rintro e w5 ⟨rfl, rfl⟩
          go_wp2_with fail
          refine (unhide HJ1).mono ?_
          rintro e w6 ⟨vj, rfl, oj, bj⟩
          have hP6 := hP.below bj
          have HJ2 := hide (joined_any _ LS w6 (hP6.pa (by omega)) hP6.byt (by rw [unhide HFl]; omega))
          rw [unhide HFl] at HJ2
          obtain ⟨aoj, capj, hvj, _, _⟩ := oj.sl.shape
          rw [hvj] at oj ⊢
          clear hvj
          go_wp2_with fail
          refine (unhide HJ2).mono ?_
          rintro e w7 ⟨vk, rfl, ok, bk⟩
          obtain ⟨aok, capk, hvk, _, _⟩ := ok.sl.shape
          rw [hvk] at ok ⊢
          clear hvk HSUM HJ1 HJ2 hP6
          go_wp2_with fail
          refine (told_any _).mono ?_
          rintro e w8 ⟨rfl, b8⟩
          have oj8 := own_below (own_below oj bk) b8
          have ok8 := own_below ok b8
          have BJ := bthen (bthen bj bk) b8
          have sb8 := sb5.below BJ
          have HRS := hide (refSum_any _ zs w8 sb8)
          go_wp2_with fail
          refine (unhide HRS).mono ?_
          rintro e w8 ⟨rfl, rfl⟩
          have hcvj := oj8.sl.conv
          have hcvb := sb8.conv
          have HJL := hide oj.2.2.lt
          have hbz := hs.1
          clear HRS oj bj bk b8 ok sb
          generalize strOfNums zs = sz at hcvj hcvb
          go_wp2
          go_loopw [12] (fun i wr => ∃ (k : Nat) (xs : List Int), k ≤ zs.length ∧ i = .int .i64 k ∧ xs.length = zs.length ∧ Byt xs ∧ wr.ownsRow w5.heap.size 5 1 (.slice aoj zs.length capj) zs.length (xs.map (Value.int .u8)) ∧ Own wr w6.heap.size (.slice aok zs.length capk) zs ∧ Below w5.heap.size w5 wr) (fun i _ => zs.length - (intOf i).toNat)
          case atStart => exact ⟨0, zs, by omega, rfl, rfl, hbz, oj8.2.2, ok8, BJ⟩
          case round =>
            clear oj8 ok8 BJ hcvj hcvb sb8
            obtain ⟨q, xs, hq, rfl, hxl, hxb, hxo, hko, hbj⟩ := hrel
            have HXL := hide hxl
            clear hxl
            by_cases hql : q < zs.length
            · obtain ⟨gj, cj, hvj, _, _⟩ := own_shape hxo (by omega)
              simp only [Value.slice.injEq, true_and] at hvj
              obtain ⟨rfl, rfl⟩ := hvj
              have hjl := (unhide HJL) gj rfl
              have hcell : wr.cell? ⟨gj, q, none⟩ = some (.int .u8 (xs[q]?.getD 0)) := by
                have : q < xs.length := by have := unhide HXL; omega
                rw [hxo.cellAt q (by omega)]
                simp [this]
              have hfz := hxo.frozenAt q
              have hrz := hxb.at q
              have ST := hxo.stored q (.int .u8 ((xs[q]?.getD 0 + 1) % 256))
              rw [← List.map_set] at ST
              have R1 := ST.1
              have R2 : Own (wr.setCell ⟨gj, q, none⟩ (.int .u8 ((xs[q]?.getD 0 + 1) % 256))) w6.heap.size (.slice aok zs.length capk) zs := ⟨hko.1, hko.2.1, ownsRow_setCell_below hko.2.2 (by exact hjl.2) _⟩
              have R3 : Below w5.heap.size w5 (wr.setCell ⟨gj, q, none⟩ (.int .u8 ((xs[q]?.getD 0 + 1) % 256))) := hbj.setCell (by exact hjl.1) _
              have R4 : Byt (xs.set q ((xs[q]?.getD 0 + 1) % 256)) := by
                intro z hz
                rcases List.mem_or_eq_of_mem_set hz with hz | hz
                · exact hxb z hz
                · subst hz; omega
              clear ST hxo hko hbj hxb
              generalize xs[q]?.getD 0 = z at *
              go_wp2
              go_roundw
              case rel => exact ⟨q + 1, _, by omega, by go_num, by rw [List.length_set]; exact unhide HXL, R4, R1, R2, R3⟩
              case measure => simp [intOf]; omega
            · obtain ⟨i5, gi5, g50, g51, g52⟩ := info_parts Try.info5
              have hszj := hbj.size
              go_wp2_with (at_builtin; refine wpList_append_own _ rfl (.tmp 90) (.tmp 91) 22 rfl w5.heap.size 5 i5 (.int .u8 0) 1 1 Try.underlying22 gi5 g50 g51 g52 rfl (by decide) _ _ _ rfl (hxo.alloc _) ⟨wr.heap.size, 0, none⟩ 1 1 [.int .u8 9] rfl rfl (cell_one_new _ _ _) (one_u8 _) (by unfold maxLen; omega) (by omega) (by simp; omega) ?_)
              intro v9 w9 h9 hg9 _
              obtain ⟨g9, c9, hv9, _, _⟩ := own_shape h9 (by omega)
              have K9 : Own w9 w6.heap.size (.slice aok zs.length capk) zs := ⟨hko.1, hko.2.1, (hko.2.2.alloc _).kept hg9 (own_apart hko.2.2 (fun k hk => ((unhide HJL) k hk).2))⟩
              have B9 : Below w5.heap.size w5 w9 := (hbj.alloc hszj _).grown hg9 (by simp; omega) (fun k hk => (hxo.lt k hk).1)
              rw [hv9]
              clear h9 hg9 hko hbj hxo hv9
              go_wp2
              go_loopw [6, 14] (fun f i wr => ∃ k : Nat, k ≤ LS.length ∧ i = .int .i64 k ∧ f = .int .i64 ((LS.take k).flatten.length : Nat) ∧ Own wr w6.heap.size (.slice aok zs.length capk) zs ∧ Below w5.heap.size w5 wr) (fun _ i _ => LS.length - (intOf i).toNat)
              case atStart => exact ⟨0, by omega, rfl, rfl, K9, B9⟩
              case round =>
                clear K9 B9
                obtain ⟨y, hy, rfl, rfl, hko, hby⟩ := hrel
                by_cases hyl : y < LS.length
                · obtain ⟨us3, hu1, hu2, hu3⟩ := hP.below hby
                  obtain ⟨g3, cg, hue, hown3, hc31, hc32, hbl⟩ := hu3 y hyl
                  have hcell : wr.cell? ⟨gp, y, none⟩ = some (us3.getD y undef) := by
                    rw [hu2.cellAt y (by omega)]
                    have : y < us3.length := by omega
                    simp [List.getD, this]
                  rw [hue] at hcell
                  have hfp := flat_part LS y hyl
                  rw [unhide HFl] at hfp
                  have HS := hide (show (LS.take (y + 1)).flatten.length = (LS.take y).flatten.length + (LS.getD y []).length by rw [takes_snoc LS y hyl, List.length_append])
                  have sbr := sb5.below hby
                  have sin3 := hown3.sl
                  clear hu1 hu2 hu3 hue hown3
                  generalize LS.getD y [] = l3 at *
                  generalize (LS.take y).flatten.length = f3 at *
                  have hcut := sbr.cut (l := f3) (h := f3 + l3.length) (m := cap) (by omega) (by omega) (by omega) (by omega)
                  rw [show f3 + l3.length - f3 = l3.length by omega, hfp.1] at hcut
                  have hl3 : l3.length ≤ 140737488351232 := by omega
                  have hf3 : f3 + l3.length ≤ zs.length := hfp.2
                  clear hfp sbr
                  by_cases hcp3 : cap = f3
                  · subst hcp3
                    obtain rfl : l3 = [] := List.eq_nil_of_length_eq_zero (by omega)
                    simp only [List.length_nil] at hcell hf3
                    have HW := fun nq => hide (whole_yes g3 cg (.slice ao 0 0) [] (wr.drewN nq) (sl_empty _ ao) (by simp) hc31 hc32 (sin3.below (below_drewN (Below.refl _ _) nq)))
                    clear hcut sin3
                    go_wp2
                    go_quiet ((go_at_call 16; refine (unhide (HW _)).mono ?_; rintro e w'' ⟨rfl, rfl⟩; exact ⟨rfl, _, rfl⟩))
                    go_wp2
                    go_roundw
                    case rel => exact ⟨y + 1, by omega, by go_num, val_int (by rw [unhide HS]; simp), ⟨hko.1, hko.2.1, hko.2.2⟩, below_drewN hby nq⟩
                    case measure => simp [intOf]; omega
                  · simp only [sliced, hcp3, if_false, Nat.mul_one, Nat.add_sub_cancel_left] at hcut
                    have HW := fun nq => hide (whole_yes g3 cg _ l3 (wr.drewN nq) (hcut.below (below_drewN (Below.refl _ _) nq)) hl3 hc31 hc32 (sin3.below (below_drewN (Below.refl _ _) nq)))
                    clear hcut sin3
                    go_wp2
                    go_quiet ((go_at_call 16; refine (unhide (HW _)).mono ?_; rintro e w'' ⟨rfl, rfl⟩; exact ⟨rfl, _, rfl⟩))
                    go_wp2
                    go_roundw
                    case rel => exact ⟨y + 1, by omega, by go_num, val_int (by rw [unhide HS]; omega), ⟨hko.1, hko.2.1, hko.2.2⟩, below_drewN hby nq⟩
                    case measure => simp [intOf]; omega
                · have sbz := sb5.below hby
                  have cb := sbz.conv
                  have ck := hko.sl.conv
                  have BF := hB5.trans (hby.mono hB5.size)
                  clear hko sbz
                  generalize strOfNums zs = sz2 at cb ck
                  go_wp2
                  go_ret
                  exact ⟨rfl, BF⟩
end Go.Proofs.Ytmdbdfigpccbpaa
