/- The contract of the document's own Decode. (The ways of each size by program: gendec.py.) -/
import Derived.Test.YtchjnplceelgoaaRefD
namespace Go.Proofs.Ytchjnplceelgoaa
open Go.RowKit

/-- The greatest that so many bytes come to. -/
def bd : Nat → Int
  | 1 => 31
  | 2 => 2047
  | 3 => 131071
  | _ => 8388607
theorem bd_next {kk : Nat} {cc : Int} (h1 : 1 ≤ kk) (h2 : kk ≤ 3) (h0 : 0 ≤ cc) (hb : cc ≤ bd kk) (y : Int) : 0 ≤ cc * 64 + y % 64 ∧ cc * 64 + y % 64 ≤ bd (kk + 1) := by
  match kk, h1, h2 with
  | 1, _, _ => simp only [bd] at hb ⊢; omega
  | 2, _, _ => simp only [bd] at hb ⊢; omega
  | 3, _, _ => simp only [bd] at hb ⊢; omega
theorem bd_le (kk : Nat) (h : kk ≤ 3) (h1 : 1 ≤ kk) : bd kk ≤ 131071 := by
  match kk, h1, h with
  | 1, _, _ => decide
  | 2, _, _ => decide
  | 3, _, _ => decide

theorem in_first {zs : List Int} {k n : Nat} {lo hi c : Int} (hk : k < zs.length) (h : Utf.lead (zs.getD k 0) = some (n, lo, hi, c)) : Utf.one (zs.drop k) = Utf.conts n lo hi c 1 (zs.drop (k + 1)) := by
  rw [drop_next hk]
  simp only [Utf.one, h]
theorem in_none {zs : List Int} {k : Nat} (hk : k < zs.length) (h : Utf.lead (zs.getD k 0) = none) : Utf.one (zs.drop k) = .error 0 := by
  rw [drop_next hk]
  simp only [Utf.one, h]
theorem in_end {zs : List Int} {k kk m : Nat} {lo hi cc : Int} (J : Utf.one (zs.drop k) = Utf.conts (m + 1) lo hi cc kk (zs.drop (k + kk))) (h : zs.length ≤ k + kk) : Utf.one (zs.drop k) = .error kk := by
  rw [J, List.drop_eq_nil_of_le h]; rfl
theorem in_bad {zs : List Int} {k kk m : Nat} {lo hi cc : Int} (J : Utf.one (zs.drop k) = Utf.conts (m + 1) lo hi cc kk (zs.drop (k + kk))) (h : k + kk < zs.length) (hb : zs.getD (k + kk) 0 < lo ∨ hi < zs.getD (k + kk) 0) : Utf.one (zs.drop k) = .error kk := by
  rw [J, drop_next h]
  simp only [Utf.conts, if_pos hb]
theorem in_next {zs : List Int} {k kk m : Nat} {lo hi cc : Int} (J : Utf.one (zs.drop k) = Utf.conts (m + 1) lo hi cc kk (zs.drop (k + kk))) (h : k + kk < zs.length) (hb : ¬ (zs.getD (k + kk) 0 < lo ∨ hi < zs.getD (k + kk) 0)) :
    Utf.one (zs.drop k) = Utf.conts m 128 191 (cc * 64 + zs.getD (k + kk) 0 % 64) (kk + 1) (zs.drop (k + (kk + 1))) := by
  rw [J, drop_next h]
  simp only [Utf.conts, if_neg hb, Nat.add_assoc]
theorem r_err {zs xs : List Int} {k kk : Nat} {r : List Int × Int × Int} (hr : r = Utf.glue xs (Utf.dec k (zs.drop k))) (hk : k < zs.length) (h : Utf.one (zs.drop k) = .error kk) : r = ([], (k : Int) + (kk : Int), 30) := by
  have hne : zs.drop k ≠ [] := by rw [drop_next hk]; simp
  rw [hr, Utf.dec_err hne h]
  simp [Utf.glue]
theorem r_ok {zs xs : List Int} {k n : Nat} {c : Int} {r : List Int × Int × Int} (hr : r = Utf.glue xs (Utf.dec k (zs.drop k))) (h : Utf.one (zs.drop k) = .ok (n, c)) : r = Utf.glue (xs ++ [c]) (Utf.dec (k + n) (zs.drop (k + n))) := by
  rw [hr, Utf.dec_ok h, Utf.glue_glue, List.drop_drop]
theorem r_end {zs xs : List Int} {k : Nat} {r : List Int × Int × Int} (hr : r = Utf.glue xs (Utf.dec k (zs.drop k))) (hk : zs.length ≤ k) : r = (xs, 0, 0) := by
  rw [hr, List.drop_eq_nil_of_le hk, Utf.dec_nil]
  simp [Utf.glue]
theorem r_begin (zs : List Int) : Utf.dec 0 zs = Utf.glue [] (Utf.dec 0 (zs.drop 0)) := by
  rw [List.drop_zero, Utf.glue_nil]
  · intro h
    rcases Utf.dec_shape _ 0 zs (Nat.le_refl _) with h1 | ⟨q, h1, _⟩
    · exact h1.2.1
    · rw [h1] at h; simp at h
  · intro h
    rcases Utf.dec_shape _ 0 zs (Nat.le_refl _) with h1 | ⟨q, h1, _⟩
    · exact absurd h1.1 h
    · rw [h1]

theorem lead_ways (b : Int) : Utf.lead b = none ∨ (b < 128 ∧ Utf.lead b = some (0, 0, 0, b)) ∨ (∃ lo hi, 128 ≤ lo ∧ hi ≤ 191 ∧ 0 ≤ hi ∧ lo ≤ 255 ∧ Utf.lead b = some (1, lo, hi, b % 32)) ∨ (∃ lo hi, 128 ≤ lo ∧ hi ≤ 191 ∧ 0 ≤ hi ∧ lo ≤ 255 ∧ Utf.lead b = some (2, lo, hi, b % 16)) ∨ (∃ lo hi, 128 ≤ lo ∧ hi ≤ 191 ∧ 0 ≤ hi ∧ lo ≤ 255 ∧ Utf.lead b = some (3, lo, hi, b % 8)) := by
  rcases lead_cases b with ⟨h, e⟩ | ⟨h, e⟩ | ⟨h, e⟩ | ⟨h, e⟩ | ⟨h, e⟩ | ⟨h, e⟩ | ⟨h, e⟩ | ⟨h, e⟩ | ⟨h, e⟩
  · exact .inr (.inl ⟨h, e⟩)
  · exact .inr (.inr (.inl ⟨_, _, by omega, by omega, by omega, by omega, e⟩))
  · exact .inr (.inr (.inr (.inl ⟨_, _, by omega, by omega, by omega, by omega, e⟩)))
  · exact .inr (.inr (.inr (.inl ⟨_, _, by omega, by omega, by omega, by omega, e⟩)))
  · exact .inr (.inr (.inr (.inl ⟨_, _, by omega, by omega, by omega, by omega, e⟩)))
  · exact .inr (.inr (.inr (.inr ⟨_, _, by omega, by omega, by omega, by omega, e⟩)))
  · exact .inr (.inr (.inr (.inr ⟨_, _, by omega, by omega, by omega, by omega, e⟩)))
  · exact .inr (.inr (.inr (.inr ⟨_, _, by omega, by omega, by omega, by omega, e⟩)))
  · exact .inl e

theorem leadT_some {b lo hi c : Int} {n : Nat} (h : Utf.lead b = some (n, lo, hi, c)) : leadT b = ((n : Int), lo, hi) := by unfold leadT; rw [h]
theorem leadT_none {b : Int} (h : Utf.lead b = none) : leadT b = (-1, 0, 0) := by unfold leadT; rw [h]

set_option maxRecDepth 20000 in
set_option maxHeartbeats 4000000 in
theorem refDecode_any (s : ByteArray) (w : World) (hl : s.size ≤ 1000000000) :
    Calls Try.prog 10 #[.string s] w (DecPost w (Utf.dec 0 (nums s))) := by
  obtain ⟨i0, hi0, hz0, hz1, hz2⟩ := info_parts Try.info21
  have hn := nums_length s
  have hr0 := r_begin (nums s)
  generalize Utf.dec 0 (nums s) = r at *
  obtain ⟨zs, hzs⟩ : ∃ zs, nums s = zs := ⟨_, rfl⟩
  rw [hzs] at hn hr0
  have HR0 := hide hr0
  have hzs' := hide hzs
  clear hr0 hzs
  go_enter Try.func10, Try.ntmps10
  go_wp2
  go_loopw [5, 6] (fun vx i wr => ∃ (k : Nat) (xs : List Int), i = .int .i64 k ∧ k ≤ s.size ∧ Ok .i32 21 wr w.heap.size vx xs ∧ xs.length ≤ k ∧ Below w.heap.size w wr ∧ r = Utf.glue xs (Utf.dec k (zs.drop k))) (fun _ i _ => s.size - (intOf i).toNat)
  case atStart => exact ⟨0, [], rfl, by omega, Ok.nil _ _ _ _, by simp, Below.refl _ _, unhide HR0⟩
  case round =>
    obtain ⟨k, xs, rfl, hk, hown, hxl, hbel, hr⟩ := hrel
    have hzs := unhide hzs'
    by_cases hlt : k < s.size
    · have hx := fun w => run_at s (k : Int) k rfl hlt w
      have hb0 := (fit_u8_of (nums_byt s)).u8at k
      rw [hzs] at hx hb0
      have HL := fun w => hide (refLead_any (zs.getD k 0) w hb0.1 hb0.2)
      have hs0 := hbel.size
      rcases lead_ways (zs.getD k 0) with HL0 | ⟨hb, HL0⟩ | ⟨lo, hi, hlo, hhi, hhi0, hlo1, HL0⟩ | ⟨lo, hi, hlo, hhi, hhi0, hlo1, HL0⟩ | ⟨lo, hi, hlo, hhi, hhi0, hlo1, HL0⟩
      · have HF := DecPost.err (w := w) (r_err hr (by omega) (in_none (by omega) HL0)) hbel
        rw [leadT_none HL0] at HL
        rw [show (k : Int) + ((0 : Nat) : Int) = k by simp] at HF
        clear HL0 hr hown hzs
        generalize zs.getD k 0 = b at *
        go_wp2_with fail
        refine (unhide (HL _)).mono ?_
        rintro e wr ⟨rfl, rfl⟩
        clear HL
        go_wp2
        go_ret3
        exact HF
      · have HO := hide (r_ok hr (show Utf.one (zs.drop k) = .ok (1, zs.getD k 0) from (in_first (by omega) HL0)))
        have HT : leadT (zs.getD k 0) = (0, 0, 0) := leadT_some HL0
        rw [HT] at HL
        clear HL0 hr hzs HT
        generalize zs.getD k 0 = b at *
        go_wp2_with fail
        refine (unhide (HL _)).mono ?_
        rintro e wr ⟨rfl, rfl⟩
        clear HL
        go_wp2
        refine wp_loop_rounds 1 ?_
        rw [rounds_succ]
        clear hx
        go_wp2_with (first
          | (at_builtin; refine wpList_append_own _ rfl _ _ 22 rfl w.heap.size 21 i0 (.int .i32 0) 1 4 Try.underlying22 hi0 hz0 hz1 hz2 rfl (by decide) _ _ _ rfl (hown.row.alloc _) ⟨wr.heap.size, 0, none⟩ 1 1 [.int .i32 b] rfl rfl (cell_one_new _ _ _) (int_one .i32 b) (by unfold maxLen; omega) (by omega) (by simp; omega) ?_)
          | go_in)
        intro v2 w2 hown2 hg2 _
        have hb2 : Below w.heap.size w w2 := below_append (by omega) hown.row hbel hg2
        have hok2 : Ok .i32 21 w2 w.heap.size v2 (xs ++ [b]) := Ok.of (hown.1.snoc (i32_fit (by omega))) (by simp; omega) hown2 (by simp) (by simp)
        clear hown hown2 hg2
        go_wp2
        go_roundw
        case rel => exact ⟨k + 1, xs ++ [b], by go_num, by omega, hok2, by simp; omega, hb2, unhide HO⟩
        case measure => simp [intOf]; omega
      · have HT : leadT (zs.getD k 0) = (1, lo, hi) := leadT_some HL0
        rw [HT] at HL
        clear HT
        have hone := in_first (zs := zs) (by omega) HL0
        clear HL0
        generalize zs.getD k 0 = b at *
        go_wp2_with fail
        refine (unhide (HL _)).mono ?_
        rintro e wr ⟨rfl, rfl⟩
        clear HL
        have hm : b % 32 ≤ 31 := by omega
        have HJ := hide hone
        clear hone
        go_wp2
        go_loop [10, 11] (fun c i => ∃ (kk : Nat) (cc : Int), i = .int .i64 kk ∧ 1 ≤ kk ∧ kk ≤ 2 ∧ k + kk ≤ s.size ∧ c = .int .i32 cc ∧ 0 ≤ cc ∧ cc ≤ bd kk ∧ Utf.one (zs.drop k) = Utf.conts (2 - kk) (if kk = 1 then lo else 128) (if kk = 1 then hi else 191) cc kk (zs.drop (k + kk))) (fun _ i => 2 - (intOf i).toNat)
        case atStart => exact ⟨1, b % 32, rfl, by omega, by omega, by omega, rfl, by omega, by simpa [bd] using hm, unhide HJ⟩
        case round =>
          obtain ⟨kk, cc, rfl, hk1, hk2, hks, rfl, hc0, hcb, hj⟩ := hrel
          by_cases hkn : kk ≤ 1
          · obtain ⟨m, hm1⟩ : ∃ m, 2 - kk = m + 1 := ⟨1 - kk, by omega⟩
            rw [hm1] at hj
            by_cases hend : k + kk = s.size
            · have HF := DecPost.err (w := w) (r_err hr (by omega) (in_end hj (by omega))) hbel
              have hcast : (s.size : Int) = (k : Int) + (kk : Int) := by omega
              have heq : ((k : Int) + (kk : Int) == (s.size : Int)) = true := beq_iff_eq.2 (by omega)
              have HJ2 := hide hj
              have HC := hide hcast
              clear hj hr hcast hend HJ hown hzs
              go_wp2
              go_ret3
              rw [unhide HC]
              exact HF
            · have hlt2 : k + kk < s.size := by omega
              have hb1 := (fit_u8_of (nums_byt s)).u8at (k + kk)
              have hbad := fun hb => DecPost.err (w := w) (r_err hr (by omega) (in_bad hj (by omega) hb)) hbel
              have hnxt := fun hb => in_next hj (by omega) hb
              have hbd := bd_next hk1 (show kk ≤ 3 by omega) hc0 hcb (zs.getD (k + kk) 0)
              have hc1 : cc ≤ 131071 := Int.le_trans hcb (bd_le kk (by omega) hk1)
              rw [hzs] at hb1
              clear hj hr hend hown hcb
              by_cases h1 : kk = 1
              · subst h1
                have hx2 := fun w => run_at s ((k : Int) + 1) (k + 1) (by simp) hlt2 w
                have hne : ((k : Int) + 1 == (s.size : Int)) = false := beq_eq_false_iff_ne.2 (by omega)
                rw [hzs] at hx2
                simp only [if_true, show (((1 : Nat) : Int)) = 1 from rfl] at hbad hnxt
                clear hzs
                generalize zs.getD (k + 1) 0 = y at *
                by_cases ya : y < lo
                · have HF := hbad (.inl ya)
                  clear hbad hnxt hbd HJ
                  go_wp2
                  go_ret3
                  exact HF
                · by_cases yb : hi < y
                  · have HF := hbad (.inr yb)
                    clear hbad hnxt hbd HJ
                    go_wp2
                    go_ret3
                    exact HF
                  · have y1 : ¬ y < 128 := by omega
                    have y2 : ¬ 191 < y := by omega
                    have HN := hide (hnxt (by omega))
                    have HB := hide hbd
                    clear hbad hnxt HJ hbd
                    go_wp2
                    go_round
                    case rel => exact ⟨2, cc * 64 + y % 64, by go_num, by omega, by omega, by omega, by go_num, (unhide HB).1, (unhide HB).2, by have := unhide HN; rw [show m = 2 - 2 by omega] at this; simpa using this⟩
                    case measure => simp [intOf]
              · omega
          · obtain rfl : kk = 2 := by omega
            have hok := r_ok hr (show Utf.one (zs.drop k) = .ok (2, cc) from hj)
            have hcc : cc ≤ 8388607 := Int.le_trans hcb (by decide)
            have HO := hide hok
            have hs0 := hbel.size
            clear hj hr hok hcb HJ hzs hx
            go_wp2_with (first
              | (at_builtin; refine wpList_append_own _ rfl _ _ 22 rfl w.heap.size 21 i0 (.int .i32 0) 1 4 Try.underlying22 hi0 hz0 hz1 hz2 rfl (by decide) _ _ _ rfl (hown.row.alloc _) ⟨wr.heap.size, 0, none⟩ 1 1 [.int .i32 cc] rfl rfl (cell_one_new _ _ _) (int_one .i32 cc) (by unfold maxLen; omega) (by omega) (by simp; omega) ?_)
              | go_in)
            intro v2 w2 hown2 hg2 _
            have hb2 : Below w.heap.size w w2 := below_append (by omega) hown.row hbel hg2
            have hok2 : Ok .i32 21 w2 w.heap.size v2 (xs ++ [cc]) := Ok.of (hown.1.snoc (i32_fit (by omega))) (by simp; omega) hown2 (by simp) (by simp)
            clear hown hown2 hg2
            go_wp2
            go_roundw
            case rel => exact ⟨k + 2, xs ++ [cc], by go_num, by omega, hok2, by simp; omega, hb2, unhide HO⟩
            case measure => simp [intOf]; omega
      · have HT : leadT (zs.getD k 0) = (2, lo, hi) := leadT_some HL0
        rw [HT] at HL
        clear HT
        have hone := in_first (zs := zs) (by omega) HL0
        clear HL0
        generalize zs.getD k 0 = b at *
        go_wp2_with fail
        refine (unhide (HL _)).mono ?_
        rintro e wr ⟨rfl, rfl⟩
        clear HL
        have hm : b % 16 ≤ 31 := by omega
        have HJ := hide hone
        clear hone
        go_wp2
        go_loop [10, 11] (fun c i => ∃ (kk : Nat) (cc : Int), i = .int .i64 kk ∧ 1 ≤ kk ∧ kk ≤ 3 ∧ k + kk ≤ s.size ∧ c = .int .i32 cc ∧ 0 ≤ cc ∧ cc ≤ bd kk ∧ Utf.one (zs.drop k) = Utf.conts (3 - kk) (if kk = 1 then lo else 128) (if kk = 1 then hi else 191) cc kk (zs.drop (k + kk))) (fun _ i => 3 - (intOf i).toNat)
        case atStart => exact ⟨1, b % 16, rfl, by omega, by omega, by omega, rfl, by omega, by simpa [bd] using hm, unhide HJ⟩
        case round =>
          obtain ⟨kk, cc, rfl, hk1, hk2, hks, rfl, hc0, hcb, hj⟩ := hrel
          by_cases hkn : kk ≤ 2
          · obtain ⟨m, hm1⟩ : ∃ m, 3 - kk = m + 1 := ⟨2 - kk, by omega⟩
            rw [hm1] at hj
            by_cases hend : k + kk = s.size
            · have HF := DecPost.err (w := w) (r_err hr (by omega) (in_end hj (by omega))) hbel
              have hcast : (s.size : Int) = (k : Int) + (kk : Int) := by omega
              have heq : ((k : Int) + (kk : Int) == (s.size : Int)) = true := beq_iff_eq.2 (by omega)
              have HJ2 := hide hj
              have HC := hide hcast
              clear hj hr hcast hend HJ hown hzs
              go_wp2
              go_ret3
              rw [unhide HC]
              exact HF
            · have hlt2 : k + kk < s.size := by omega
              have hb1 := (fit_u8_of (nums_byt s)).u8at (k + kk)
              have hbad := fun hb => DecPost.err (w := w) (r_err hr (by omega) (in_bad hj (by omega) hb)) hbel
              have hnxt := fun hb => in_next hj (by omega) hb
              have hbd := bd_next hk1 (show kk ≤ 3 by omega) hc0 hcb (zs.getD (k + kk) 0)
              have hc1 : cc ≤ 131071 := Int.le_trans hcb (bd_le kk (by omega) hk1)
              rw [hzs] at hb1
              clear hj hr hend hown hcb
              by_cases h1 : kk = 1
              · subst h1
                have hx2 := fun w => run_at s ((k : Int) + 1) (k + 1) (by simp) hlt2 w
                have hne : ((k : Int) + 1 == (s.size : Int)) = false := beq_eq_false_iff_ne.2 (by omega)
                rw [hzs] at hx2
                simp only [if_true, show (((1 : Nat) : Int)) = 1 from rfl] at hbad hnxt
                clear hzs
                generalize zs.getD (k + 1) 0 = y at *
                by_cases ya : y < lo
                · have HF := hbad (.inl ya)
                  clear hbad hnxt hbd HJ
                  go_wp2
                  go_ret3
                  exact HF
                · by_cases yb : hi < y
                  · have HF := hbad (.inr yb)
                    clear hbad hnxt hbd HJ
                    go_wp2
                    go_ret3
                    exact HF
                  · have y1 : ¬ y < 128 := by omega
                    have y2 : ¬ 191 < y := by omega
                    have HN := hide (hnxt (by omega))
                    have HB := hide hbd
                    clear hbad hnxt HJ hbd
                    go_wp2
                    go_round
                    case rel => exact ⟨2, cc * 64 + y % 64, by go_num, by omega, by omega, by omega, by go_num, (unhide HB).1, (unhide HB).2, by have := unhide HN; rw [show m = 3 - 2 by omega] at this; simpa using this⟩
                    case measure => simp [intOf]
              · have hx2 := fun w => run_at s ((k : Int) + (kk : Int)) (k + kk) (by simp) hlt2 w
                have hne : ((k : Int) + (kk : Int) == (s.size : Int)) = false := beq_eq_false_iff_ne.2 (by omega)
                rw [hzs] at hx2
                have h1b : ((kk : Int) == 1) = false := beq_eq_false_iff_ne.2 (by omega)
                simp only [h1, if_false] at hbad hnxt
                clear hzs
                generalize zs.getD (k + kk) 0 = y at *
                by_cases ya : y < 128
                · have HF := hbad (.inl ya)
                  clear hbad hnxt hbd HJ
                  go_wp2
                  go_ret3
                  exact HF
                · by_cases yb : 191 < y
                  · have HF := hbad (.inr yb)
                    clear hbad hnxt hbd HJ
                    go_wp2
                    go_ret3
                    exact HF
                  · have HN := hide (hnxt (by omega))
                    have HB := hide hbd
                    clear hbad hnxt HJ hbd
                    go_wp2
                    go_round
                    case rel => exact ⟨kk + 1, cc * 64 + y % 64, by go_num, by omega, by omega, by omega, by go_num, (unhide HB).1, (unhide HB).2, by have := unhide HN; rw [show m = 3 - (kk + 1) by omega] at this; simpa [show ¬ kk + 1 = 1 by omega, show ¬ kk = 0 by omega] using this⟩
                    case measure => simp [intOf]; omega
          · obtain rfl : kk = 3 := by omega
            have hok := r_ok hr (show Utf.one (zs.drop k) = .ok (3, cc) from hj)
            have hcc : cc ≤ 8388607 := Int.le_trans hcb (by decide)
            have HO := hide hok
            have hs0 := hbel.size
            clear hj hr hok hcb HJ hzs hx
            go_wp2_with (first
              | (at_builtin; refine wpList_append_own _ rfl _ _ 22 rfl w.heap.size 21 i0 (.int .i32 0) 1 4 Try.underlying22 hi0 hz0 hz1 hz2 rfl (by decide) _ _ _ rfl (hown.row.alloc _) ⟨wr.heap.size, 0, none⟩ 1 1 [.int .i32 cc] rfl rfl (cell_one_new _ _ _) (int_one .i32 cc) (by unfold maxLen; omega) (by omega) (by simp; omega) ?_)
              | go_in)
            intro v2 w2 hown2 hg2 _
            have hb2 : Below w.heap.size w w2 := below_append (by omega) hown.row hbel hg2
            have hok2 : Ok .i32 21 w2 w.heap.size v2 (xs ++ [cc]) := Ok.of (hown.1.snoc (i32_fit (by omega))) (by simp; omega) hown2 (by simp) (by simp)
            clear hown hown2 hg2
            go_wp2
            go_roundw
            case rel => exact ⟨k + 3, xs ++ [cc], by go_num, by omega, hok2, by simp; omega, hb2, unhide HO⟩
            case measure => simp [intOf]; omega
      · have HT : leadT (zs.getD k 0) = (3, lo, hi) := leadT_some HL0
        rw [HT] at HL
        clear HT
        have hone := in_first (zs := zs) (by omega) HL0
        clear HL0
        generalize zs.getD k 0 = b at *
        go_wp2_with fail
        refine (unhide (HL _)).mono ?_
        rintro e wr ⟨rfl, rfl⟩
        clear HL
        have hm : b % 8 ≤ 31 := by omega
        have HJ := hide hone
        clear hone
        go_wp2
        go_loop [10, 11] (fun c i => ∃ (kk : Nat) (cc : Int), i = .int .i64 kk ∧ 1 ≤ kk ∧ kk ≤ 4 ∧ k + kk ≤ s.size ∧ c = .int .i32 cc ∧ 0 ≤ cc ∧ cc ≤ bd kk ∧ Utf.one (zs.drop k) = Utf.conts (4 - kk) (if kk = 1 then lo else 128) (if kk = 1 then hi else 191) cc kk (zs.drop (k + kk))) (fun _ i => 4 - (intOf i).toNat)
        case atStart => exact ⟨1, b % 8, rfl, by omega, by omega, by omega, rfl, by omega, by simpa [bd] using hm, unhide HJ⟩
        case round =>
          obtain ⟨kk, cc, rfl, hk1, hk2, hks, rfl, hc0, hcb, hj⟩ := hrel
          by_cases hkn : kk ≤ 3
          · obtain ⟨m, hm1⟩ : ∃ m, 4 - kk = m + 1 := ⟨3 - kk, by omega⟩
            rw [hm1] at hj
            by_cases hend : k + kk = s.size
            · have HF := DecPost.err (w := w) (r_err hr (by omega) (in_end hj (by omega))) hbel
              have hcast : (s.size : Int) = (k : Int) + (kk : Int) := by omega
              have heq : ((k : Int) + (kk : Int) == (s.size : Int)) = true := beq_iff_eq.2 (by omega)
              have HJ2 := hide hj
              have HC := hide hcast
              clear hj hr hcast hend HJ hown hzs
              go_wp2
              go_ret3
              rw [unhide HC]
              exact HF
            · have hlt2 : k + kk < s.size := by omega
              have hb1 := (fit_u8_of (nums_byt s)).u8at (k + kk)
              have hbad := fun hb => DecPost.err (w := w) (r_err hr (by omega) (in_bad hj (by omega) hb)) hbel
              have hnxt := fun hb => in_next hj (by omega) hb
              have hbd := bd_next hk1 (show kk ≤ 3 by omega) hc0 hcb (zs.getD (k + kk) 0)
              have hc1 : cc ≤ 131071 := Int.le_trans hcb (bd_le kk (by omega) hk1)
              rw [hzs] at hb1
              clear hj hr hend hown hcb
              by_cases h1 : kk = 1
              · subst h1
                have hx2 := fun w => run_at s ((k : Int) + 1) (k + 1) (by simp) hlt2 w
                have hne : ((k : Int) + 1 == (s.size : Int)) = false := beq_eq_false_iff_ne.2 (by omega)
                rw [hzs] at hx2
                simp only [if_true, show (((1 : Nat) : Int)) = 1 from rfl] at hbad hnxt
                clear hzs
                generalize zs.getD (k + 1) 0 = y at *
                by_cases ya : y < lo
                · have HF := hbad (.inl ya)
                  clear hbad hnxt hbd HJ
                  go_wp2
                  go_ret3
                  exact HF
                · by_cases yb : hi < y
                  · have HF := hbad (.inr yb)
                    clear hbad hnxt hbd HJ
                    go_wp2
                    go_ret3
                    exact HF
                  · have y1 : ¬ y < 128 := by omega
                    have y2 : ¬ 191 < y := by omega
                    have HN := hide (hnxt (by omega))
                    have HB := hide hbd
                    clear hbad hnxt HJ hbd
                    go_wp2
                    go_round
                    case rel => exact ⟨2, cc * 64 + y % 64, by go_num, by omega, by omega, by omega, by go_num, (unhide HB).1, (unhide HB).2, by have := unhide HN; rw [show m = 4 - 2 by omega] at this; simpa using this⟩
                    case measure => simp [intOf]
              · have hx2 := fun w => run_at s ((k : Int) + (kk : Int)) (k + kk) (by simp) hlt2 w
                have hne : ((k : Int) + (kk : Int) == (s.size : Int)) = false := beq_eq_false_iff_ne.2 (by omega)
                rw [hzs] at hx2
                have h1b : ((kk : Int) == 1) = false := beq_eq_false_iff_ne.2 (by omega)
                simp only [h1, if_false] at hbad hnxt
                clear hzs
                generalize zs.getD (k + kk) 0 = y at *
                by_cases ya : y < 128
                · have HF := hbad (.inl ya)
                  clear hbad hnxt hbd HJ
                  go_wp2
                  go_ret3
                  exact HF
                · by_cases yb : 191 < y
                  · have HF := hbad (.inr yb)
                    clear hbad hnxt hbd HJ
                    go_wp2
                    go_ret3
                    exact HF
                  · have HN := hide (hnxt (by omega))
                    have HB := hide hbd
                    clear hbad hnxt HJ hbd
                    go_wp2
                    go_round
                    case rel => exact ⟨kk + 1, cc * 64 + y % 64, by go_num, by omega, by omega, by omega, by go_num, (unhide HB).1, (unhide HB).2, by have := unhide HN; rw [show m = 4 - (kk + 1) by omega] at this; simpa [show ¬ kk + 1 = 1 by omega, show ¬ kk = 0 by omega] using this⟩
                    case measure => simp [intOf]; omega
          · obtain rfl : kk = 4 := by omega
            have hok := r_ok hr (show Utf.one (zs.drop k) = .ok (4, cc) from hj)
            have hcc : cc ≤ 8388607 := Int.le_trans hcb (by decide)
            have HO := hide hok
            have hs0 := hbel.size
            clear hj hr hok hcb HJ hzs hx
            go_wp2_with (first
              | (at_builtin; refine wpList_append_own _ rfl _ _ 22 rfl w.heap.size 21 i0 (.int .i32 0) 1 4 Try.underlying22 hi0 hz0 hz1 hz2 rfl (by decide) _ _ _ rfl (hown.row.alloc _) ⟨wr.heap.size, 0, none⟩ 1 1 [.int .i32 cc] rfl rfl (cell_one_new _ _ _) (int_one .i32 cc) (by unfold maxLen; omega) (by omega) (by simp; omega) ?_)
              | go_in)
            intro v2 w2 hown2 hg2 _
            have hb2 : Below w.heap.size w w2 := below_append (by omega) hown.row hbel hg2
            have hok2 : Ok .i32 21 w2 w.heap.size v2 (xs ++ [cc]) := Ok.of (hown.1.snoc (i32_fit (by omega))) (by simp; omega) hown2 (by simp) (by simp)
            clear hown hown2 hg2
            go_wp2
            go_roundw
            case rel => exact ⟨k + 4, xs ++ [cc], by go_num, by omega, hok2, by simp; omega, hb2, unhide HO⟩
            case measure => simp [intOf]; omega
    · have HF := DecPost.end (w := w) (r_end hr (by omega)) hown hbel
      clear hr hown hzs
      go_wp2
      go_ret3
      exact HF
end Go.Proofs.Ytchjnplceelgoaa
