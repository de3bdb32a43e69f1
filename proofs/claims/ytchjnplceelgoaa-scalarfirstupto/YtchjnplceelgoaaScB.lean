/- The contracts of utf8's RuneLen and AppendRune, of scalar's Bytes and Encode. -/
import Derived.Test.YtchjnplceelgoaaScE
import Derived.Laws.MakeOwn
namespace Go.Proofs.Ytchjnplceelgoaa
open Go.RowKit

theorem infoB : (Try.prog.info? 5).map (fun i => (i.zero, i.size, i.bytes)) = some (some (.int .u8 0), 1, 1) := by kernel_rfl

/-- How many bytes a number has, or -1. -/
def rl (c : Int) : Int := if Utf.okc c then ((Utf.form c).length : Int) else -1
theorem rl_cases (c : Int) : (c < 0 ∧ rl c = -1) ∨ ((0 ≤ c ∧ c ≤ 127) ∧ rl c = 1) ∨ ((128 ≤ c ∧ c ≤ 2047) ∧ rl c = 2) ∨ ((2048 ≤ c ∧ c < 55296) ∧ rl c = 3) ∨ ((55296 ≤ c ∧ c ≤ 57343) ∧ rl c = -1) ∨ ((57343 < c ∧ c ≤ 65535) ∧ rl c = 3) ∨ ((65535 < c ∧ c ≤ 1114111) ∧ rl c = 4) ∨ (1114111 < c ∧ rl c = -1) := by
  have hno : ∀ h : ¬ Utf.okc c, rl c = -1 := fun h => by unfold rl; rw [if_neg h]
  have hyes : ∀ h : Utf.okc c, rl c = ((Utf.form c).length : Int) := fun h => by unfold rl; rw [if_pos h]
  by_cases h0 : c < 0
  · exact .inl ⟨h0, hno (by unfold Utf.okc; omega)⟩
  · by_cases h1 : c ≤ 127
    · exact .inr (.inl ⟨⟨by omega, h1⟩, by rw [hyes (by unfold Utf.okc; omega)]; unfold Utf.form; rw [if_pos (by omega)]; rfl⟩)
    · by_cases h2 : c ≤ 2047
      · exact .inr (.inr (.inl ⟨⟨by omega, h2⟩, by rw [hyes (by unfold Utf.okc; omega)]; unfold Utf.form; rw [if_neg (by omega), if_pos (by omega)]; rfl⟩))
      · by_cases h3 : c < 55296
        · exact .inr (.inr (.inr (.inl ⟨⟨by omega, h3⟩, by rw [hyes (by unfold Utf.okc; omega)]; unfold Utf.form; rw [if_neg (by omega), if_neg (by omega), if_pos (by omega)]; rfl⟩)))
        · by_cases h4 : c ≤ 57343
          · exact .inr (.inr (.inr (.inr (.inl ⟨⟨by omega, h4⟩, hno (by unfold Utf.okc; omega)⟩))))
          · by_cases h5 : c ≤ 65535
            · exact .inr (.inr (.inr (.inr (.inr (.inl ⟨⟨by omega, h5⟩, by rw [hyes (by unfold Utf.okc; omega)]; unfold Utf.form; rw [if_neg (by omega), if_neg (by omega), if_pos (by omega)]; rfl⟩)))))
            · by_cases h6 : c ≤ 1114111
              · exact .inr (.inr (.inr (.inr (.inr (.inr (.inl ⟨⟨by omega, h6⟩, by rw [hyes (by unfold Utf.okc; omega)]; unfold Utf.form; rw [if_neg (by omega), if_neg (by omega), if_neg (by omega)]; rfl⟩))))))
              · exact .inr (.inr (.inr (.inr (.inr (.inr (.inr ⟨by omega, hno (by unfold Utf.okc; omega)⟩))))))

set_option maxHeartbeats 1000000 in
theorem runeLen_any (c : Int) (w : World) (h : -2147483648 ≤ c ∧ c ≤ 2147483647) :
    Calls Try.prog 35 #[.int .i32 c] w fun e w' => e = .returned (.int .i64 (rl c)) ∧ w' = w := by
  rcases rl_cases c with ⟨h, e⟩ | ⟨⟨h, h'⟩, e⟩ | ⟨⟨h, h'⟩, e⟩ | ⟨⟨h, h'⟩, e⟩ | ⟨⟨h, h'⟩, e⟩ | ⟨⟨h, h'⟩, e⟩ | ⟨⟨h, h'⟩, e⟩ | ⟨h, e⟩
  all_goals
    rw [e]; clear e
    go_enter Try.func35, Try.ntmps35
    go_wp2
    go_ret
    exact ⟨rfl, rfl⟩

theorem encs_step {xs ys : List Int} {k : Nat} {r : List Int × Int × Int} (hk : k < xs.length) (h : r = Utf.glue ys (Utf.encA k (xs.drop k))) (hc : Utf.okc (xs.getD k 0)) :
    r = Utf.glue (ys ++ Utf.form (xs.getD k 0)) (Utf.encA (k + 1) (xs.drop (k + 1))) := by
  rw [h, drop_next hk]
  simp only [Utf.encA, if_pos hc, Utf.glue_glue]
theorem encs_stop {xs ys : List Int} {k : Nat} {r : List Int × Int × Int} (hk : k < xs.length) (h : r = Utf.glue ys (Utf.encA k (xs.drop k))) (hc : ¬ Utf.okc (xs.getD k 0)) :
    r = ([], (k : Int), 31) := by
  rw [h, drop_next hk]
  simp only [Utf.encA, if_neg hc]
  simp [Utf.glue]
theorem encs_end {xs ys : List Int} {k : Nat} {r : List Int × Int × Int} (hk : k = xs.length) (h : r = Utf.glue ys (Utf.encA k (xs.drop k))) : r = (ys, 0, 0) := by
  subst hk
  rw [h, List.drop_length]
  simp [Utf.encA, Utf.glue]
theorem encs_begin (xs : List Int) : Utf.encA 0 xs = Utf.glue [] (Utf.encA 0 (xs.drop 0)) := by
  rw [List.drop_zero, Utf.glue_nil]
  · intro h; rcases Utf.enc_shape 0 xs with h1 | ⟨q, h1, _⟩
    · exact h1.2
    · rw [h1] at h; simp at h
  · intro h; rcases Utf.enc_shape 0 xs with h1 | ⟨q, h1, _⟩
    · exact absurd h1.1 h
    · rw [h1]

set_option maxHeartbeats 1000000 in
theorem bytes_any (v : Value) (xs : List Int) (w : World) (hv : Sk .i32 w v xs) (hl : xs.length ≤ 35184372087808) :
    Calls Try.prog 16 #[v] w fun e w' => e = .returned (.int .i64 (cnt (Utf.encA 0 xs))) ∧ w' = w := by
  have hr0 := encs_begin xs
  rcases Nat.eq_zero_or_pos xs.length with h0 | h0
  · have hq := encs_end h0.symm hr0
    rw [hq]
    obtain ⟨ao, cap, rfl, _, _⟩ := hv.shape
    have hc : cnt ([], 0, 0) = 0 := rfl
    rw [h0, hc]
    clear hv hr0 hq hc
    go_enter Try.func16, Try.ntmps16
    go_wp2
    refine wp_loop_rounds 1 ?_
    rw [rounds_succ]
    go_wp2
    go_ret
    exact ⟨rfl, rfl⟩
  · have hfit := hide hv.1
    obtain ⟨b, off, cap, rfl, hc1, hc2, hc⟩ := hv.place h0
    have HC := hide hc
    have HR0 := hide hr0
    clear hv hc hr0
    generalize Utf.encA 0 xs = r at *
    go_enter Try.func16, Try.ntmps16
    go_wp2
    go_loop [3, 9] (fun nn i => ∃ (k : Nat) (ys : List Int), i = .int .i64 k ∧ k ≤ xs.length ∧ nn = .int .i64 (ys.length : Int) ∧ ys.length ≤ 4 * k ∧ r = Utf.glue ys (Utf.encA k (xs.drop k))) (fun _ i => xs.length - (intOf i).toNat)
    case atStart => exact ⟨0, [], rfl, by omega, rfl, by simp, unhide HR0⟩
    case round =>
      obtain ⟨k, ys, rfl, hk, rfl, hyl, hr⟩ := hrel
      by_cases hlt : k < xs.length
      · have hcell := unhide HC k hlt
        have hrg := (unhide hfit).i32at k
        have HV := hide (runeLen_any (xs.getD k 0) w hrg)
        by_cases hok : Utf.okc (xs.getD k 0)
        · have HR := hide (encs_step hlt hr hok)
          have hrl : rl (xs.getD k 0) = ((Utf.form (xs.getD k 0)).length : Int) := if_pos hok
          rw [hrl] at HV
          have hf := Utf.form_len (xs.getD k 0)
          have hla : (ys ++ Utf.form (xs.getD k 0)).length = ys.length + (Utf.form (xs.getD k 0)).length := List.length_append
          have HLA := hide hla
          generalize (Utf.form (xs.getD k 0)).length = q at hf HV HLA
          clear hr hok hrl hla
          generalize ys.length = m at *
          generalize hys : ys ++ Utf.form (xs.getD k 0) = ys2 at *
          generalize xs.getD k 0 = c at *
          go_wp2_with fail
          refine (unhide HV).mono ?_
          rintro e w ⟨rfl, rfl⟩
          clear HV
          go_wp2
          go_round
          case rel => exact ⟨k + 1, ys2, by go_num, by omega, by rw [unhide HLA]; go_num, by rw [unhide HLA]; omega, unhide HR⟩
          case measure => simp [intOf]; omega
        · have hq := encs_stop hlt hr hok
          have hrl : rl (xs.getD k 0) = -1 := if_neg hok
          rw [hrl] at HV
          have hc : cnt r = -1 := by rw [hq]; rfl
          have HCn := hide hc
          clear hr hok hrl hq hc
          generalize xs.getD k 0 = c at *
          go_wp2_with fail
          refine (unhide HV).mono ?_
          rintro e w ⟨rfl, rfl⟩
          clear HV
          go_wp2
          go_ret
          exact ⟨congrArg (fun z => Ending.returned (Value.int .i64 z)) (unhide HCn).symm, rfl⟩
      · have hq := encs_end (show k = xs.length by omega) hr
        have hc : cnt r = (ys.length : Int) := by rw [hq]; rfl
        have HCn := hide hc
        clear hr hq hc
        generalize ys.length = m at *
        go_wp2
        go_ret
        exact ⟨congrArg (fun z => Ending.returned (Value.int .i64 z)) (unhide HCn).symm, rfl⟩

theorem cells_new (w : World) (us : List Value) (t : TypeId) : ∀ (j : Nat) (u : Value), us[j]? = some u → (w.alloc (.cells us.toArray t)).cell? ((⟨w.heap.size, 0, none⟩ : Addr).add j) = some u := by
  intro j u hj
  rw [addr_add]
  simp [hj]

/-- What an append of a number's bytes tells. -/
def AppPost (w : World) (B : Nat) (zs : List Int) (e : Ending) (w' : World) : Prop := ∃ v, e = .returned v ∧ Ok .u8 5 w' B v zs ∧ Below B w w'

theorem AppPost.mk {w w2 : World} {B n : Nat} {v v' : Value} {ys fs r : List Int} {us : List Value} {o : Obj} (hr : r = fs) (hB : B ≤ w.heap.size) (ho : Ok .u8 5 w B v ys) (hf : Utf.Byt r) (hl : ys.length + r.length ≤ 140737488355328) (hn : n = ys.length + fs.length) (hu : us = ys.map (Value.int .u8) ++ fs.map (Value.int .u8))
    (h : w2.ownsRow B 5 1 v' n us) (hg : (w.alloc o).grownBy w2 v.ownBlock) : AppPost w B (ys ++ r) (.returned v') w2 := by
  subst hr
  exact ⟨v', rfl, Ok.of (ho.1.app (fit_u8_of hf)) (by rw [List.length_append]; exact hl) h (by rw [List.length_append]; exact hn) (by rw [List.map_append]; exact hu), below_append hB ho.row (Below.refl _ _) hg⟩

set_option maxHeartbeats 4000000 in
set_option maxRecDepth 20000 in
theorem appendNon_any (v : Value) (ys : List Int) (c : Int) (B : Nat) (w : World) (ho : Ok .u8 5 w B v ys) (hB : B ≤ w.heap.size) (hc : Utf.okc c) (h128 : 128 ≤ c) (hl : ys.length + (Utf.form c).length ≤ 140737488355328) :
    Calls Try.prog 45 #[v, .int .i32 c] w (AppPost w B (ys ++ Utf.form c)) := by
  obtain ⟨i0, hi, hz0, hz1, hz2⟩ := info_parts infoB
  have hbyt := Utf.form_byt hc
  unfold Utf.okc at hc
  by_cases h1 : c ≤ 2047
  · have hF : Utf.form c = [192 + c / 64, 128 + c % 64] := by unfold Utf.form; rw [if_neg (by omega), if_pos (by omega)]
    have HM := fun n us v' w2 o => AppPost.mk (w := w) (w2 := w2) (B := B) (n := n) (v := v) (v' := v') (us := us) (o := o) hF hB ho hbyt hl
    rw [hF] at hl
    clear hbyt hF
    generalize Utf.form c = f at *
    simp only [List.length_cons, List.length_nil] at hl
    go_enter Try.func45, Try.ntmps45
    go_wp2_with (at_builtin; refine wpList_append_own _ rfl (.tmp 14) (.tmp 23) 52 rfl B 5 i0 (.int .u8 0) 1 1 Try.underlying52 hi hz0 hz1 hz2 rfl (by decide) _ _ _ rfl (ho.row.alloc _) ⟨w.heap.size, 0, none⟩ 2 2 [.int .u8 (192 + c / 64), .int .u8 (128 + c % 64)] rfl rfl (cells_new w [.int .u8 (192 + c / 64), .int .u8 (128 + c % 64)] 5) (ints_one .u8 [192 + c / 64, 128 + c % 64]) (by unfold maxLen; omega) (by omega) (by simp; omega) ?_)
    intro v9 w9 hrow9 hg9 _
    have HF := HM _ _ _ _ _ rfl rfl hrow9 hg9
    clear hrow9 hg9 HM ho
    go_wp2
    go_ret
    exact HF
  · by_cases h2 : c ≤ 65535
    · have hF : Utf.form c = [224 + c / 4096, 128 + c / 64 % 64, 128 + c % 64] := by unfold Utf.form; rw [if_neg (by omega), if_neg (by omega), if_pos (by omega)]
      have HM := fun n us v' w2 o => AppPost.mk (w := w) (w2 := w2) (B := B) (n := n) (v := v) (v' := v') (us := us) (o := o) hF hB ho hbyt hl
      rw [hF] at hl
      clear hbyt hF
      generalize Utf.form c = f at *
      simp only [List.length_cons, List.length_nil] at hl
      rcases hc with ⟨hc0, hc1⟩ | ⟨hc0, hc1⟩
      · have hlt : c < 55296 := by omega
        go_enter Try.func45, Try.ntmps45
        go_wp2_with (at_builtin; refine wpList_append_own _ rfl (.tmp 34) (.tmp 48) 52 rfl B 5 i0 (.int .u8 0) 1 1 Try.underlying52 hi hz0 hz1 hz2 rfl (by decide) _ _ _ rfl (ho.row.alloc _) ⟨w.heap.size, 0, none⟩ 3 3 [.int .u8 (224 + c / 4096), .int .u8 (128 + c / 64 % 64), .int .u8 (128 + c % 64)] rfl rfl (cells_new w [.int .u8 (224 + c / 4096), .int .u8 (128 + c / 64 % 64), .int .u8 (128 + c % 64)] 5) (ints_one .u8 [224 + c / 4096, 128 + c / 64 % 64, 128 + c % 64]) (by unfold maxLen; omega) (by omega) (by simp; omega) ?_)
        intro v9 w9 hrow9 hg9 _
        have HF := HM _ _ _ _ _ rfl rfl hrow9 hg9
        clear hrow9 hg9 HM ho
        go_wp2
        go_ret
        exact HF
      · have hgt : 57343 < c := by omega
        go_enter Try.func45, Try.ntmps45
        go_wp2_with (at_builtin; refine wpList_append_own _ rfl (.tmp 34) (.tmp 48) 52 rfl B 5 i0 (.int .u8 0) 1 1 Try.underlying52 hi hz0 hz1 hz2 rfl (by decide) _ _ _ rfl (ho.row.alloc _) ⟨w.heap.size, 0, none⟩ 3 3 [.int .u8 (224 + c / 4096), .int .u8 (128 + c / 64 % 64), .int .u8 (128 + c % 64)] rfl rfl (cells_new w [.int .u8 (224 + c / 4096), .int .u8 (128 + c / 64 % 64), .int .u8 (128 + c % 64)] 5) (ints_one .u8 [224 + c / 4096, 128 + c / 64 % 64, 128 + c % 64]) (by unfold maxLen; omega) (by omega) (by simp; omega) ?_)
        intro v9 w9 hrow9 hg9 _
        have HF := HM _ _ _ _ _ rfl rfl hrow9 hg9
        clear hrow9 hg9 HM ho
        go_wp2
        go_ret
        exact HF
    · have hF : Utf.form c = [240 + c / 262144, 128 + c / 4096 % 64, 128 + c / 64 % 64, 128 + c % 64] := by unfold Utf.form; rw [if_neg (by omega), if_neg (by omega), if_neg (by omega)]
      have HM := fun n us v' w2 o => AppPost.mk (w := w) (w2 := w2) (B := B) (n := n) (v := v) (v' := v') (us := us) (o := o) hF hB ho hbyt hl
      rw [hF] at hl
      clear hbyt hF
      have hlt : c ≤ 1114111 := by omega
      have hgt : 65535 < c := by omega
      clear hc
      generalize Utf.form c = f at *
      simp only [List.length_cons, List.length_nil] at hl
      go_enter Try.func45, Try.ntmps45
      go_wp2_with (at_builtin; refine wpList_append_own _ rfl (.tmp 57) (.tmp 76) 52 rfl B 5 i0 (.int .u8 0) 1 1 Try.underlying52 hi hz0 hz1 hz2 rfl (by decide) _ _ _ rfl (ho.row.alloc _) ⟨w.heap.size, 0, none⟩ 4 4 [.int .u8 (240 + c / 262144), .int .u8 (128 + c / 4096 % 64), .int .u8 (128 + c / 64 % 64), .int .u8 (128 + c % 64)] rfl rfl (cells_new w [.int .u8 (240 + c / 262144), .int .u8 (128 + c / 4096 % 64), .int .u8 (128 + c / 64 % 64), .int .u8 (128 + c % 64)] 5) (ints_one .u8 [240 + c / 262144, 128 + c / 4096 % 64, 128 + c / 64 % 64, 128 + c % 64]) (by unfold maxLen; omega) (by omega) (by simp; omega) ?_)
      intro v9 w9 hrow9 hg9 _
      have HF := HM _ _ _ _ _ rfl rfl hrow9 hg9
      clear hrow9 hg9 HM ho
      go_wp2
      go_ret
      exact HF

set_option maxHeartbeats 1000000 in
theorem appendRune_any (v : Value) (ys : List Int) (c : Int) (B : Nat) (w : World) (ho : Ok .u8 5 w B v ys) (hB : B ≤ w.heap.size) (hc : Utf.okc c) (hl : ys.length + (Utf.form c).length ≤ 140737488355328) :
    Calls Try.prog 33 #[v, .int .i32 c] w (AppPost w B (ys ++ Utf.form c)) := by
  obtain ⟨i0, hi, hz0, hz1, hz2⟩ := info_parts infoB
  by_cases h1 : c ≤ 127
  · have hbyt := Utf.form_byt hc
    have h0 : 0 ≤ c := by unfold Utf.okc at hc; omega
    have hF : Utf.form c = [c] := by unfold Utf.form; rw [if_pos (by omega)]
    have HM := fun n us v' w2 o => AppPost.mk (w := w) (w2 := w2) (B := B) (n := n) (v := v) (v' := v') (us := us) (o := o) hF hB ho hbyt hl
    rw [hF] at hl
    clear hbyt hF hc
    generalize Utf.form c = f at *
    simp only [List.length_cons, List.length_nil] at hl
    go_enter Try.func33, Try.ntmps33
    go_wp2_with (at_builtin; refine wpList_append_own _ rfl (.tmp 8) (.tmp 11) 52 rfl B 5 i0 (.int .u8 0) 1 1 Try.underlying52 hi hz0 hz1 hz2 rfl (by decide) _ _ _ rfl (ho.row.alloc _) ⟨w.heap.size, 0, none⟩ 1 1 [.int .u8 c] rfl rfl (cells_new w [.int .u8 c] 5) (ints_one .u8 [c]) (by unfold maxLen; omega) (by omega) (by simp; omega) ?_)
    intro v9 w9 hrow9 hg9 _
    have HF := HM _ _ _ _ _ rfl rfl hrow9 hg9
    clear hrow9 hg9 HM ho
    go_wp2
    go_ret
    exact HF
  · have H := hide (appendNon_any v ys c B w ho hB hc (by omega) hl)
    have hlo : 128 ≤ c ∧ c ≤ 1114111 := by unfold Utf.okc at hc; omega
    obtain ⟨hlo, hhi⟩ := hlo
    clear ho hl hc
    generalize ys ++ Utf.form c = f at *
    go_enter Try.func33, Try.ntmps33
    go_wp2_with fail
    refine (unhide H).mono ?_
    rintro e w1 ⟨v1, rfl, ok1, hb1⟩
    clear H
    go_wp2
    go_ret
    exact ⟨_, rfl, ok1, hb1⟩
end Go.Proofs.Ytchjnplceelgoaa
