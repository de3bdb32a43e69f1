import Derived.Test.YtloocceakfmnoaaGreatDoorGc9
import Derived.Test.YtloocceakfmnoaaGreatDoorGd9
import Derived.Maps.AppendAt
/- The contracts of canon's Class, Open, Primary, and what they call. -/
namespace Go.Proofs.YtloocceakfmnoaaGreatDoor
open Go.RowKit

theorem within_any (c a b : Int) (w : World) : Calls Tryz.prog 118 #[.int .i32 c, .int .i32 a, .int .i32 b] w fun e w' => e = .returned (.bool (decide (a ≤ c ∧ c ≤ b))) ∧ w' = w := by
  by_cases h1 : a ≤ c
  · by_cases h2 : c ≤ b
    · rw [decide_eq_true ⟨h1, h2⟩]
      go_enter Tryz.func118, Tryz.ntmps118
      go_wp2
      go_ret
      exact ⟨rfl, rfl⟩
    · rw [decide_eq_false (fun h => h2 h.2)]
      go_enter Tryz.func118, Tryz.ntmps118
      go_wp2
      go_ret
      exact ⟨rfl, rfl⟩
  · rw [decide_eq_false (fun h => h1 h.1)]
    go_enter Tryz.func118, Tryz.ntmps118
    go_wp2
    go_ret
    exact ⟨rfl, rfl⟩
theorem isSyl_any (c : Int) (w : World) : Calls Tryz.prog 98 #[.int .i32 c] w fun e w' => e = .returned (.bool (Cn.syl c)) ∧ w' = w := by
  have K := hide (within_any c 44032 55203 w)
  have e1 : decide (44032 ≤ c ∧ c ≤ 55203) = Cn.syl c := rfl
  rw [e1] at K
  generalize Cn.syl c = r at *
  clear e1
  go_enter Tryz.func98, Tryz.ntmps98
  go_wp2_with fail
  refine (unhide K).mono ?_
  rintro e w1 ⟨rfl, hw1⟩
  subst w1
  clear K
  go_wp2
  go_ret
  exact ⟨rfl, rfl⟩
theorem tail_any (c : Int) (w : World) (h : 44032 ≤ c ∧ c ≤ 55203) : Calls Tryz.prog 117 #[.int .i32 c] w fun e w' => e = .returned (.int .i32 ((c - 44032) % 28)) ∧ w' = w := by
  obtain ⟨h1, h2⟩ := h
  have e1 : (c - 44032).tmod 28 = (c - 44032) % 28 := Int.tmod_eq_emod_of_nonneg (by omega)
  go_enter Tryz.func117, Tryz.ntmps117
  go_wp2
  go_ret
  exact ⟨rfl, rfl⟩
/-- What a syllable opens to. -/
def sylA (c : Int) : Int := if (c - 44032) % 28 = 0 then 4352 + (c - 44032) / 588 else c - (c - 44032) % 28
def sylB (c : Int) : Int := if (c - 44032) % 28 = 0 then 4449 + (c - 44032) / 28 % 21 else 4519 + (c - 44032) % 28
theorem syl_opn {rs : List Rec} {c : Int} (hs : Cn.syl c = true) : Cn.opn rs c = [sylA c, sylB c] := by
  unfold Cn.opn sylA sylB
  rw [if_pos hs]
  split <;> rfl
theorem syl_fit {c : Int} (h : 44032 ≤ c ∧ c ≤ 55203) : (0 ≤ sylA c ∧ sylA c ≤ 100000) ∧ 0 ≤ sylB c ∧ sylB c ≤ 100000 := by
  unfold sylA sylB
  split <;> omega
theorem openSyl_any (c : Int) (w : World) (h : 44032 ≤ c ∧ c ≤ 55203) : Calls Tryz.prog 99 #[.int .i32 c] w fun e w' => e = .returned (.tuple #[.int .i32 (sylA c), .int .i32 (sylB c)]) ∧ w' = w := by
  have K := hide (tail_any c w h)
  obtain ⟨h1, h2⟩ := h
  by_cases h28 : (c - 44032) % 28 = 0
  · have eA : sylA c = 4352 + (c - 44032) / 28 / 21 := by unfold sylA; rw [if_pos h28]; omega
    have eB : sylB c = 4449 + (c - 44032) / 28 % 21 := by unfold sylB; rw [if_pos h28]
    rw [eA, eB]
    rw [h28] at K
    have e3 : (c - 44032).tdiv 28 = (c - 44032) / 28 := Int.tdiv_eq_ediv_of_nonneg (by omega)
    have e4 : ((c - 44032) / 28).tmod 21 = (c - 44032) / 28 % 21 := Int.tmod_eq_emod_of_nonneg (by omega)
    have e5 : ((c - 44032) / 28).tdiv 21 = (c - 44032) / 28 / 21 := Int.tdiv_eq_ediv_of_nonneg (by omega)
    clear eA eB
    go_enter Tryz.func99, Tryz.ntmps99
    go_wp2_with fail
    refine (unhide K).mono ?_
    rintro e w1 ⟨rfl, hw1⟩
    subst w1
    clear K
    go_wp2
    go_ret2
    exact ⟨rfl, rfl⟩
  · have eA : sylA c = c - (c - 44032) % 28 := by unfold sylA; rw [if_neg h28]
    have eB : sylB c = 4519 + (c - 44032) % 28 := by unfold sylB; rw [if_neg h28]
    rw [eA, eB]
    have g1 : 0 < (c - 44032) % 28 := by omega
    have g2 : (c - 44032) % 28 < 28 := by omega
    clear eA eB h28
    generalize (c - 44032) % 28 = t at *
    go_enter Tryz.func99, Tryz.ntmps99
    go_wp2_with fail
    refine (unhide K).mono ?_
    rintro e w1 ⟨rfl, hw1⟩
    subst w1
    clear K
    go_wp2
    go_ret2
    exact ⟨rfl, rfl⟩
theorem fam7 : Cn.fam 7 = 3 := by decide
theorem fam6 : Cn.fam 6 = 2 := by decide
theorem fam1 : Cn.fam 1 = 1 := by decide
theorem findOpen_any (v : Value) (rs : List Rec) (c : Int) (w : World) (hg : Glob w) (hv : Rcs w v rs) (hc : Rune c) : Calls Tryz.prog 100 #[v, .int .i32 c] w (IntB w (Cn.find rs 3 c)) := by
  have K0 := hide (family_any 7 w hg (by unfold I64; omega))
  rw [fam7] at K0
  have K := hide (fun W (hb : Below w.heap.size w W) => find_any v rs 3 c W (hg.on hb) (hv.below hb) (by unfold I64; omega) hc)
  generalize Cn.find rs 3 c = r at *
  obtain ⟨ao, cap, rfl, _, _⟩ := hv.shape
  clear hg hv hc
  go_enter Tryz.func100, Tryz.ntmps100
  go_wp2_with fail
  refine (unhide K0).mono ?_
  rintro e w1 ⟨rfl, hb1⟩
  have K2 := hide ((unhide K) w1 hb1)
  clear K K0
  go_wp2_with fail
  refine (unhide K2).mono ?_
  rintro e w2 ⟨rfl, hb2⟩
  have HF : IntB w r (.returned (.int .i64 r)) w2 := ⟨rfl, bthen hb1 hb2⟩
  clear K2 hb1 hb2
  go_wp2
  go_ret
  exact HF
theorem classC : ClassC := by
  intro v rs c w hg hv hc
  have K0 := hide (family_any 6 w hg (by unfold I64; omega))
  rw [fam6] at K0
  have K := hide (fun W (hb : Below w.heap.size w W) => find_any v rs 2 c W (hg.on hb) (hv.below hb) (by unfold I64; omega) hc)
  obtain ⟨c0, c1⟩ := hc
  rcases hit_at hv 2 c with ⟨h1, h2⟩ | ⟨k, b, off, cap, h1, hkl, h2, rfl, hl, hm, hr, hf⟩
  · have hcl : Cn.cls rs c = 0 := by unfold Cn.cls; rw [h2]
    rw [hcl]
    rw [h1] at K
    obtain ⟨ao, cap, rfl, _, _⟩ := hv.shape
    clear hv h1 h2 hcl hg
    go_enter Tryz.func55, Tryz.ntmps55
    go_wp2_with fail
    refine (unhide K0).mono ?_
    rintro e w1 ⟨rfl, hb1⟩
    have K2 := hide ((unhide K) w1 hb1)
    clear K K0
    go_wp2_with fail
    refine (unhide K2).mono ?_
    rintro e w2 ⟨rfl, hb2⟩
    have HF : IntB w 0 (.returned (.int .i64 0)) w2 := ⟨rfl, bthen hb1 hb2⟩
    clear K2 hb1 hb2
    go_wp2
    go_ret
    exact HF
  · have hcl : Cn.cls rs c = (rs.getD k Cn.none).n := by unfold Cn.cls; rw [h2]
    rw [hcl]
    rw [h1] at K
    have HR := hide hr
    have hlen := hv.1
    clear hv h1 h2 hcl hr hf hg
    generalize rs.getD k Cn.none = r at *
    go_enter Tryz.func55, Tryz.ntmps55
    go_wp2_with fail
    refine (unhide K0).mono ?_
    rintro e w1 ⟨rfl, hb1⟩
    have K2 := hide ((unhide K) w1 hb1)
    clear K K0
    go_wp2_with fail
    refine (unhide K2).mono ?_
    rintro e w2 ⟨rfl, hb2⟩
    have x3 := ((unhide HR).below (bthen hb1 hb2)).n
    have HF : IntB w r.n (.returned (.int .i64 r.n)) w2 := ⟨rfl, bthen hb1 hb2⟩
    clear K2 hb1 hb2 HR
    generalize r.n = n at *
    go_wp2
    go_ret
    exact HF
/-- What a number opens to: in memory that was there at the world w0, or new. -/
def OpB (w0 w : World) (zs : List Int) (e : Ending) (w' : World) : Prop := ∃ v, e = .returned v ∧ (Sk .i32 w0 v zs ∨ Ok .i32 21 w' w.heap.size v zs) ∧ Below w.heap.size w w'
set_option maxHeartbeats 1000000 in
theorem opened_any (v : Value) (rs : List Rec) (c : Int) (w0 w : World) (hg : Glob w) (hv : Rcs w0 v rs) (hw : Below w0.heap.size w0 w) (hc : Rune c) : Calls Tryz.prog 97 #[v, .int .i32 c] w (OpB w0 w (Cn.opn rs c)) := by
  have K0 := hide (isSyl_any c w)
  by_cases hs : Cn.syl c = true
  · have hs2 : 44032 ≤ c ∧ c ≤ 55203 := by unfold Cn.syl at hs; simpa using hs
    rw [hs] at K0
    rw [syl_opn hs]
    obtain ⟨⟨fa0, fa1⟩, fb0, fb1⟩ := syl_fit hs2
    have K1 := hide (openSyl_any c w hs2)
    obtain ⟨ao, cap, rfl, _, _⟩ := hv.shape
    have HF : OpB w0 w [sylA c, sylB c] (.returned (.slice (some ⟨w.heap.size, 0, none⟩) 2 2)) (w.alloc (.cells #[.int .i32 (sylA c), .int .i32 (sylB c)] 21)) :=
      ⟨_, rfl, .inr (ok_two w _ _ (by omega) (by omega)), (Below.refl _ _).alloc (Nat.le_refl _) _⟩
    clear hv hg hw hs hs2 hc
    generalize sylA c = a at *
    generalize sylB c = b at *
    go_enter Tryz.func97, Tryz.ntmps97
    go_wp2_with fail
    refine (unhide K0).mono ?_
    rintro e w1 ⟨rfl, hw1⟩
    subst w1
    clear K0
    go_wp2_with fail
    refine (unhide K1).mono ?_
    rintro e w1 ⟨rfl, hw1⟩
    subst w1
    clear K1
    go_wp2
    go_ret
    exact HF
  · have hs2 : Cn.syl c = false := by simpa using hs
    rw [hs2] at K0
    have K := hide (findOpen_any v rs c w hg (hv.below hw) hc)
    rcases hit_at hv 3 c with ⟨h1, h2⟩ | ⟨k, b, off, cap, h1, hkl, h2, rfl, hl, hm, hr, hf⟩
    · have ho : Cn.opn rs c = [] := by unfold Cn.opn; rw [if_neg hs, h2]
      rw [ho]
      rw [h1] at K
      obtain ⟨ao, cap, rfl, _, _⟩ := hv.shape
      clear hv h1 h2 ho hs hs2 hg hw hc
      go_enter Tryz.func97, Tryz.ntmps97
      go_wp2_with fail
      refine (unhide K0).mono ?_
      rintro e w1 ⟨rfl, hw1⟩
      subst w1
      clear K0
      go_wp2_with fail
      refine (unhide K).mono ?_
      rintro e w1 ⟨rfl, hb⟩
      have HF : OpB w0 w [] (.returned (.slice none 0 0)) w1 := ⟨_, rfl, .inr (Ok.nil _ _ _ _), hb⟩
      clear K hb
      go_wp2
      go_ret
      exact HF
    · have ho : Cn.opn rs c = (rs.getD k Cn.none).to := by unfold Cn.opn; rw [if_neg hs, h2]
      rw [ho]
      rw [h1] at K
      have hlen := hv.1
      obtain ⟨vt, x4, hsk⟩ := hr.to
      have x4w : w.cell? ⟨b, off + k * 8 + 4, none⟩ = some vt := by rw [hw.cell (lt_of_cell? x4)]; exact x4
      have HX : Hid (∀ W, Below w.heap.size w W → W.cell? ⟨b, off + k * 8 + 4, none⟩ = some vt) := fun W hb => by rw [hb.cell (lt_of_cell? x4w)]; exact x4w
      have HS := hide hsk
      clear hv h1 h2 ho hs hs2 hr hf hg hw hc x4 x4w hsk
      generalize (rs.getD k Cn.none).to = zs at *
      go_enter Tryz.func97, Tryz.ntmps97
      go_wp2_with fail
      refine (unhide K0).mono ?_
      rintro e w1 ⟨rfl, hw1⟩
      subst w1
      clear K0
      go_wp2_with fail
      refine (unhide K).mono ?_
      rintro e w1 ⟨rfl, hb⟩
      have x4 := (unhide HX) w1 hb
      have HF : OpB w0 w zs (.returned vt) w1 := ⟨_, rfl, .inl (unhide HS), hb⟩
      clear K hb HX HS
      go_wp2
      go_ret
      exact HF
end Go.Proofs.YtloocceakfmnoaaGreatDoor
/- The contracts of canon's Open and Primary. -/
namespace Go.Proofs.YtloocceakfmnoaaGreatDoor
open Go.RowKit

theorem row_empty (w : World) : (w.alloc (.cells #[] 21)).ownsRow w.heap.size 21 1 (.slice (some ⟨w.heap.size, 0, none⟩) 0 0) 0 [] := by
  refine ⟨rfl, .inr ⟨w.heap.size, 0, #[], rfl, Nat.le_refl _, ?_, Nat.le_refl _, by unfold maxLen; omega, rfl, rfl⟩⟩
  show (w.heap.push _)[w.heap.size]? = _
  simp
theorem nil_no (ad : Addr) (n cap : Nat) (w : World) : (binOp BinOp.eql 38 (.slice (some ad) n cap) (.slice none 0 0)).run Tryz.prog w = .ok (.bool false) w := by kernel_rfl
theorem nil_yes (w : World) : (binOp BinOp.eql 38 (.slice none 0 0) (.slice none 0 0)).run Tryz.prog w = .ok (.bool true) w := by kernel_rfl
set_option maxRecDepth 8000 in
set_option maxHeartbeats 1000000 in
theorem clone_any (v : Value) (zs : List Int) (w : World) (hv : Sk .i32 w v zs) (hl : zs.length ≤ 1000000000) : Calls Tryz.prog 61 #[v] w (RunesNew w zs) := by
  obtain ⟨i0, hi, hz0, hz1, hz2⟩ := info_parts Tryz.info21
  have hfit := hv.1
  have hml : (zs.map (Value.int .i32)).length = zs.length := List.length_map _
  rcases hv.2.src with ⟨hnil, rfl⟩ | ⟨ad, tcap, rfl, hsrc⟩
  · obtain rfl : zs = [] := by simpa using hnil
    have HF : RunesNew w [] (.returned (.slice none 0 0)) w := ⟨_, rfl, Ok.nil _ _ _ _, Below.refl _ _⟩
    have hq := nil_yes
    clear hv
    go_enter Tryz.func61, Tryz.ntmps61
    go_wp2
    go_ret
    exact HF
  · have HE := hide (row_empty w)
    rw [hml]
    have hsrc2 : ∀ j u, (zs.map (Value.int .i32))[j]? = some u → (w.alloc (.cells #[] 21)).cell? (ad.add j) = some u := by
      intro j u hj
      have h := hsrc j u hj
      have hlt : (ad.add j).block < w.heap.size := World.block_lt_of_cell? w _ h
      exact (Below.cell ((Below.refl w.heap.size w).alloc (Nat.le_refl _) _) hlt).trans h
    have HB : Below w.heap.size w (w.alloc (.cells #[] 21)) := (Below.refl _ _).alloc (Nat.le_refl _) _
    have hq := nil_no
    clear hv hsrc
    go_enter Tryz.func61, Tryz.ntmps61
    go_wp2_with (at_builtin; refine wpList_append_own _ rfl (.tmp 5) (.tmp 6) 38 rfl w.heap.size 21 i0 (.int .i32 0) 1 4 Tryz.underlying38 hi hz0 hz1 hz2 rfl (by decide) _ _ _ rfl (unhide HE) ad zs.length tcap (zs.map (Value.int .i32)) rfl (by simp) hsrc2 (fun u hu => by obtain ⟨z, _, rfl⟩ := List.mem_map.1 hu; rfl) (by unfold maxLen; omega) (by omega) (by simp) ?_)
    intro v9 w9 hrow9 hg9 _
    have hb9 : Below w.heap.size w w9 := HB.grown hg9 HB.size (fun k hk => by simp [Value.ownBlock] at hk; omega)
    have HF : RunesNew w zs (.returned v9) w9 := ⟨v9, rfl, Ok.of hfit (by omega) hrow9 (by simp) (by simp), hb9⟩
    clear hrow9 hg9 hb9 hsrc2 HE HB
    go_wp2
    go_ret
    exact HF
theorem copn_len {w : World} {v : Value} {rs : List Rec} (hv : Rcs w v rs) (c : Int) : (Cn.opn rs c).length ≤ 1000000000 := by
  unfold Cn.opn
  split
  · split <;> simp
  · rcases hit_at hv 3 c with ⟨_, h2⟩ | ⟨k, b, off, cap, h1, hkl, h2, _, _, _, _, hf⟩
    · rw [h2]; simp
    · rw [h2]; exact hf.len
theorem openC : OpenC := by
  intro v rs c w hg hv hc
  have K := hide (opened_any v rs c w w hg hv (Below.refl _ _) hc)
  have hl := copn_len hv c
  obtain ⟨ao, cap, rfl, _, _⟩ := hv.shape
  clear hg hv hc
  generalize Cn.opn rs c = zs at *
  go_enter Tryz.func56, Tryz.ntmps56
  go_wp2_with fail
  refine (unhide K).mono ?_
  rintro e w1 ⟨v1, rfl, hk, hb1⟩
  have hs : Sk .i32 w1 v1 zs := by
    rcases hk with h | h
    · exact h.below hb1
    · exact h.sk
  have K2 := hide (clone_any v1 zs w1 hs hl)
  clear K hk hs
  go_wp2_with fail
  refine (unhide K2).mono ?_
  rintro e w2 ⟨v2, rfl, hk2, hb2⟩
  have HF : RunesNew w zs (.returned v2) w2 := ⟨v2, rfl, hk2.lower hb1.size, bthen hb1 hb2⟩
  clear K2 hk2 hb1 hb2
  go_wp2
  go_ret
  exact HF
set_option maxHeartbeats 2000000 in
theorem primC : PrimC := by
  intro v rs c w hg hv hc
  have K0 := hide (isSyl_any c w)
  by_cases hs : Cn.syl c = true
  · have hs2 : 44032 ≤ c ∧ c ≤ 55203 := by unfold Cn.syl at hs; simpa using hs
    rw [hs] at K0
    have hp : Cn.prim rs c = some (sylA c, sylB c) := by unfold Cn.prim; rw [if_pos hs, syl_opn hs]; rfl
    rw [hp]
    have K1 := hide (openSyl_any c w hs2)
    obtain ⟨ao, cap, rfl, _, _⟩ := hv.shape
    have HF : PairB w (some (sylA c, sylB c)) (.returned (.tuple #[.int .i32 (sylA c), .int .i32 (sylB c), .bool true])) w := ⟨rfl, Below.refl _ _⟩
    clear hv hg hs hs2 hc hp
    generalize sylA c = a at *
    generalize sylB c = b at *
    go_enter Tryz.func54, Tryz.ntmps54
    go_wp2_with fail
    refine (unhide K0).mono ?_
    rintro e w1 ⟨rfl, hw1⟩
    subst w1
    clear K0
    go_wp2_with fail
    refine (unhide K1).mono ?_
    rintro e w1 ⟨rfl, hw1⟩
    subst w1
    clear K1
    go_wp2
    go_ret3
    exact HF
  · have hs2 : Cn.syl c = false := by simpa using hs
    rw [hs2] at K0
    have K := hide (findOpen_any v rs c w hg hv hc)
    rcases hit_at hv 3 c with ⟨h1, h2⟩ | ⟨k, b, off, cap, h1, hkl, h2, rfl, hl, hm, hr, hf⟩
    · have ho : Cn.prim rs c = none := by unfold Cn.prim; rw [if_neg hs, h2]
      rw [ho]
      rw [h1] at K
      obtain ⟨ao, cap, rfl, _, _⟩ := hv.shape
      clear hv h1 h2 ho hs hs2 hg hc
      go_enter Tryz.func54, Tryz.ntmps54
      go_wp2_with fail
      refine (unhide K0).mono ?_
      rintro e w1 ⟨rfl, hw1⟩
      subst w1
      clear K0
      go_wp2_with fail
      refine (unhide K).mono ?_
      rintro e w1 ⟨rfl, hb⟩
      have HN : PairB w none (.returned (.tuple #[.int .i32 0, .int .i32 0, .bool false])) w1 := ⟨rfl, hb⟩
      clear K hb
      go_wp2
      go_ret3
      exact HN
    · have HP1 : Hid ((rs.getD k Cn.none).kind = 7 → (rs.getD k Cn.none).to.length = 2 → Cn.prim rs c = some ((rs.getD k Cn.none).to.getD 0 0, (rs.getD k Cn.none).to.getD 1 0)) := fun a b => by
        unfold Cn.prim; rw [if_neg hs, h2]; simp only; rw [if_pos ⟨a, b⟩]
      have HP2 : Hid (¬ ((rs.getD k Cn.none).kind = 7 ∧ (rs.getD k Cn.none).to.length = 2) → Cn.prim rs c = none) := fun a => by
        unfold Cn.prim; rw [if_neg hs, h2]; simp only; rw [if_neg a]
      rw [h1] at K
      have HR := hide hr
      have hlen := hv.1
      clear hv h1 h2 hs hs2 hr hf hg hc
      generalize rs.getD k Cn.none = r at *
      generalize Cn.prim rs c = pr at *
      go_enter Tryz.func54, Tryz.ntmps54
      go_wp2_with fail
      refine (unhide K0).mono ?_
      rintro e w1 ⟨rfl, hw1⟩
      subst w1
      clear K0
      go_wp2_with fail
      refine (unhide K).mono ?_
      rintro e w1 ⟨rfl, hb⟩
      have hrec := (unhide HR).below hb
      obtain ⟨vt, x4, hsk⟩ := hrec.to
      have x0 := hrec.kind
      clear K HR hrec
      generalize r.to = zs at *
      generalize r.kind = kd at *
      obtain ⟨tao, tcap, rfl, ht1, ht2⟩ := hsk.shape
      have HN : PairB w none (.returned (.tuple #[.int .i32 0, .int .i32 0, .bool false])) w1 := ⟨rfl, hb⟩
      by_cases h7 : kd = 7
      · subst h7
        by_cases hz2 : zs.length = 2
        · obtain rfl := (unhide HP1) rfl hz2
          clear HP1 HP2
          obtain ⟨tb, toff, tcap', he, _, _, htc⟩ := hsk.place (by omega)
          obtain ⟨rfl, rfl⟩ : tao = some ⟨tb, toff, none⟩ ∧ tcap = tcap' := by simpa using he
          have y0 := htc 0 (by omega)
          have y1 := htc 1 (by omega)
          rw [Nat.add_zero] at y0
          rw [hz2] at x4 ht1
          generalize zs.getD 0 0 = p at *
          generalize zs.getD 1 0 = q at *
          have HF : ∀ n, PairB w (some (p, q)) (.returned (.tuple #[.int .i32 p, .int .i32 q, .bool true])) (w1.drewN n) := fun n => ⟨rfl, bthen hb (drewB ⟨n, rfl⟩)⟩
          clear hb htc he hsk HN hz2
          go_wp2
          go_big_quiet (fail)
          go_wp2
          go_ret3
          exact HF _
        · obtain rfl := (unhide HP2) (fun h => hz2 h.2)
          clear HP1 HP2
          have q2 : ((zs.length : Int) != 2) = true := by simp; omega
          clear hsk hb
          go_wp2
          go_ret3
          exact HN
      · obtain rfl := (unhide HP2) (fun h => h7 h.1)
        clear HP1 HP2
        have q7 : (kd != 7) = true := by simp [h7]
        clear hsk hb
        go_wp2
        go_ret3
        exact HN
end Go.Proofs.YtloocceakfmnoaaGreatDoor
/- The walk of full decompositions in memory; slices.Contains; (*walk).take. -/
namespace Go.Proofs.YtloocceakfmnoaaGreatDoor
open Go.RowKit

set_option maxHeartbeats 1000000 in
theorem index_any (v : Value) (zs : List Int) (c : Int) (w : World) (hv : Sk .i32 w v zs) (hl : zs.length ≤ 1000000000) : Calls Tryz.prog 175 #[v, .int .i32 c] w (fun e w' => ∃ n : Int, e = .returned (.int .i64 n) ∧ (0 ≤ n ↔ c ∈ zs) ∧ w' = w) := by
  rcases Nat.eq_zero_or_pos zs.length with h0 | h0
  · obtain ⟨ao, cap, rfl, _, _⟩ := hv.shape
    obtain rfl : zs = [] := List.eq_nil_of_length_eq_zero h0
    clear hv
    go_enter Tryz.func175, Tryz.ntmps175
    go_wp2
    refine wp_loop_rounds 1 ?_
    rw [rounds_succ]
    go_wp2
    go_ret
    exact ⟨-1, rfl, by simp, rfl⟩
  · obtain ⟨b, off, cap, rfl, hc1, hc2, hc⟩ := hv.place h0
    have HC := hide hc
    clear hv hc
    go_enter Tryz.func175, Tryz.ntmps175
    go_wp2
    go_loopw [5, 8] (fun _ i wr => ∃ k : Nat, i = .int .i64 k ∧ k ≤ zs.length ∧ wr = w ∧ Hid (∀ j, j < k → zs.getD j 0 ≠ c)) (fun _ i _ => zs.length - (intOf i).toNat)
    case atStart => exact ⟨0, rfl, by omega, rfl, fun j hj => by omega⟩
    case round =>
      obtain ⟨k, rfl, hk, rfl, hno⟩ := hrel
      by_cases hlt : k < zs.length
      · have a0 := (unhide HC) k hlt
        by_cases he : zs.getD k 0 = c
        · have HM : Hid (c ∈ zs) := by
            show c ∈ zs
            rw [← he]; simp [List.getD, hlt]
          rw [he] at a0
          have hcc : (c == c) = true := by simp
          clear HC he hno
          go_wp2
          go_ret
          exact ⟨k, rfl, ⟨fun _ => unhide HM, fun _ => by omega⟩, rfl⟩
        · have hcc : (c == zs.getD k 0) = false := by
            rw [beq_eq_false_iff_ne]; exact fun e => he e.symm
          have HN : Hid (∀ j, j < k + 1 → zs.getD j 0 ≠ c) := fun j hj => by
            rcases Nat.lt_or_ge j k with h | h
            · exact (unhide hno) j h
            · obtain rfl : j = k := by omega
              exact he
          clear HC hno he
          generalize zs.getD k 0 = t at a0 hcc
          go_wp2
          go_roundw
          case rel => exact ⟨k + 1, by go_num, by omega, by first | rfl | trivial, HN⟩
          case measure => simp [intOf]; omega
      · have HM : Hid (¬ c ∈ zs) := fun hm => by
          obtain ⟨j, hj, e⟩ := List.getElem_of_mem hm
          exact (unhide hno) j (by omega) (by simp [List.getD, hj, e])
        clear HC hno
        go_wp2
        go_ret
        exact ⟨-1, rfl, ⟨fun h => by omega, fun h => absurd h (unhide HM)⟩, rfl⟩
theorem contains_any (v : Value) (zs : List Int) (c : Int) (w : World) (hv : Sk .i32 w v zs) (hl : zs.length ≤ 1000000000) : Calls Tryz.prog 162 #[v, .int .i32 c] w (fun e w' => e = .returned (.bool (decide (c ∈ zs))) ∧ w' = w) := by
  have K := hide (index_any v zs c w hv hl)
  obtain ⟨ao, cap, rfl, _, _⟩ := hv.shape
  have HT : Hid (c ∈ zs → decide (c ∈ zs) = true) := fun h => decide_eq_true h
  have HN : Hid (¬ c ∈ zs → decide (c ∈ zs) = false) := fun h => decide_eq_false h
  generalize decide (c ∈ zs) = b at *
  clear hv
  go_enter Tryz.func162, Tryz.ntmps162
  go_wp2_with fail
  refine (unhide K).mono ?_
  rintro e w1 ⟨n, rfl, hn, hw1⟩
  subst w1
  clear K
  by_cases h : 0 ≤ n
  · obtain rfl := (unhide HT) (hn.1 h)
    clear hn HT HN
    go_wp2
    go_ret
    exact ⟨rfl, rfl⟩
  · obtain rfl := (unhide HN) (fun hm => h (hn.2 hm))
    have hd : decide (0 ≤ n) = false := decide_eq_false h
    clear hn HT HN
    go_wp2
    go_ret
    exact ⟨rfl, rfl⟩
/-- The walk: its three fields; the way down and the ends in memory of the call's own, not in one block. -/
structure Wk (b0 : Nat) (W : World) (p : Nat) (fv : Value) (way ends : List Int) (wv ev : Value) : Prop where
  blk : W.heap[p]? = some (.cells #[fv, wv, ev] 176 (0, 0))
  own : b0 ≤ p
  w : Ok .i32 21 W b0 wv way
  e : Ok .i32 21 W b0 ev ends
  ap : ∀ g, wv.ownBlock = some g → ev.ownBlock ≠ some g
/-- What a step of the walk leaves alone. -/
structure Frm (W W' : World) (p : Nat) (wv ev : Value) : Prop where
  os : W'.os = W.os
  tape : W'.tape = W.tape
  output : W'.output = W.output
  size : W.heap.size ≤ W'.heap.size
  keep : ∀ g, g < W.heap.size → g ≠ p → wv.ownBlock ≠ some g → ev.ownBlock ≠ some g → W'.heap[g]? = W.heap[g]?
def NewOr (W : World) (v v' : Value) : Prop := ∀ g, v'.ownBlock = some g → v.ownBlock = some g ∨ W.heap.size ≤ g
theorem NewOr.refl (W : World) (v : Value) : NewOr W v v := fun _ h => .inl h
theorem NewOr.trans {W W1 : World} {a b c : Value} (h : NewOr W a b) (k : NewOr W1 b c) (hs : W.heap.size ≤ W1.heap.size) : NewOr W a c := fun g hg => by
  rcases k g hg with h1 | h1
  · exact h g h1
  · exact .inr (by omega)
theorem NewOr.trans_left {W W1 : World} {a b : Value} (h : NewOr W1 a b) (hs : W.heap.size ≤ W1.heap.size) : NewOr W a b := (NewOr.refl W a).trans h hs
theorem ok_tag {w : World} {B : Nat} {v : Value} {zs : List Int} (h : Ok .i32 21 w B v zs) {g : Nat} (hg : v.ownBlock = some g) : ∃ cur, w.heap[g]? = some (.cells cur 21 (0, 0)) := by
  rcases h.2.2.2 with ⟨rfl, _⟩ | ⟨k, cap, cur, rfl, _, hh, _⟩
  · cases hg
  · simp [Value.ownBlock] at hg
    subst hg
    exact ⟨cur, hh⟩
theorem Wk.pw {b0 : Nat} {W : World} {p : Nat} {fv : Value} {way ends : List Int} {wv ev : Value} (h : Wk b0 W p fv way ends wv ev) : wv.ownBlock ≠ some p ∧ ev.ownBlock ≠ some p := by
  refine ⟨fun e => ?_, fun e => ?_⟩
  · obtain ⟨cur, hc⟩ := ok_tag h.w e
    rw [h.blk] at hc; simp at hc
  · obtain ⟨cur, hc⟩ := ok_tag h.e e
    rw [h.blk] at hc; simp at hc
theorem Wk.lt {b0 : Nat} {W : World} {p : Nat} {fv : Value} {way ends : List Int} {wv ev : Value} (h : Wk b0 W p fv way ends wv ev) : p < W.heap.size := by
  have := h.blk
  rcases Nat.lt_or_ge p W.heap.size with h1 | h1
  · exact h1
  · rw [Array.getElem?_eq_none h1] at this; cases this
theorem Wk.below {b0 : Nat} {W W' : World} {p : Nat} {fv : Value} {way ends : List Int} {wv ev : Value} (h : Wk b0 W p fv way ends wv ev) (hb : Below W.heap.size W W') : Wk b0 W' p fv way ends wv ev :=
  ⟨by rw [hb.block p h.lt]; exact h.blk, h.own, h.w.below hb, h.e.below hb, h.ap⟩
theorem Frm.below {b0 : Nat} {W W' : World} {p : Nat} {fv : Value} {way ends : List Int} {wv ev : Value} (h : Wk b0 W p fv way ends wv ev) (hf : Frm W W' p wv ev) (hs : b0 ≤ W.heap.size) : Below b0 W W' :=
  ⟨hf.os, hf.tape, hf.output, hf.size, fun k hk => hf.keep k (by omega) (by have := h.own; omega) (fun e => by have := (h.w.2.2.lt k e).1; omega) (fun e => by have := (h.e.2.2.lt k e).1; omega)⟩
theorem Frm.of_below {W W' : World} {p : Nat} {wv ev : Value} (hb : Below W.heap.size W W') : Frm W W' p wv ev := ⟨hb.os, hb.tape, hb.output, hb.size, fun g hg _ _ _ => hb.block g hg⟩
theorem Frm.trans {W W1 W2 : World} {p : Nat} {wv ev wv1 ev1 : Value} (h : Frm W W1 p wv ev) (k : Frm W1 W2 p wv1 ev1) (hw : NewOr W wv wv1) (he : NewOr W ev ev1) : Frm W W2 p wv ev := by
  refine ⟨k.os.trans h.os, k.tape.trans h.tape, k.output.trans h.output, Nat.le_trans h.size k.size, fun g hg h1 h2 h3 => ?_⟩
  rw [k.keep g (by have := h.size; omega) h1 (fun e => ?_) (fun e => ?_), h.keep g hg h1 h2 h3]
  · rcases hw g e with h4 | h4
    · exact h2 h4
    · omega
  · rcases he g e with h4 | h4
    · exact h3 h4
    · omega
/-- One more end: the append, and the field's store. -/
theorem Wk.taken {b0 : Nat} {W w1 : World} {p : Nat} {fv : Value} {way ends : List Int} {wv ev v' : Value} {o : Obj} {c : Int} (h : Wk b0 W p fv way ends wv ev) (hl : ends.length ≤ 40) (hc : Rune c)
    (hown : w1.ownsRow b0 21 1 v' (ends.length + 1) (ends.map (Value.int .i32) ++ [.int .i32 c])) (hg : (W.alloc o).grownBy w1 ev.ownBlock) (hat : v'.ownBlock = ev.ownBlock ∨ v'.ownBlock = some (W.heap.size + 1)) :
    w1.heap[p]? = some (.cells #[fv, wv, ev] 176 (0, 0)) ∧ Wk b0 (w1.setCell ⟨p, 2, none⟩ v') p fv way (ends ++ [c]) wv v' ∧ Frm W (w1.setCell ⟨p, 2, none⟩ v') p wv ev ∧ NewOr W ev v' := by
  have hp := h.lt
  obtain ⟨hpw, hpe⟩ := h.pw
  have kA : ∀ g, g < W.heap.size → (W.alloc o).heap[g]? = W.heap[g]? := fun g hg => ((Below.refl W.heap.size W).alloc (Nat.le_refl _) _).block g hg
  have k1 : ∀ g, g < W.heap.size → ev.ownBlock ≠ some g → w1.heap[g]? = W.heap[g]? := fun g h1 h2 => by
    rw [hg.block g (by simp; omega) (fun e => h2 e.symm), kA g h1]
  have hsz : W.heap.size + 1 ≤ w1.heap.size := by simpa using hg.size
  have hb : w1.heap[p]? = some (.cells #[fv, wv, ev] 176 (0, 0)) := by rw [k1 p hp hpe]; exact h.blk
  have hnew : NewOr W ev v' := fun g hg' => by
    rcases hat with e | e
    · exact .inl (e ▸ hg')
    · rw [e] at hg'
      simp at hg'
      exact .inr (by omega)
  have hok : Ok .i32 21 w1 b0 v' (ends ++ [c]) := by
    refine Ok.of (h.e.1.snoc (i32_fit hc)) (by simp; omega) hown (by simp) (by simp)
  have hne : ∀ g, v'.ownBlock = some g → g ≠ p := fun g h1 h2 => by
    subst h2
    rcases hnew g h1 with h3 | h3
    · exact hpe h3
    · omega
  refine ⟨hb, ⟨?_, h.own, ?_, ?_, ?_⟩, ?_, hnew⟩
  · rw [set_block hb]
    rfl
  · refine h.w.keep fun g h1 => ?_
    have hlt := (h.w.2.2.lt g h1).2
    rw [set_other _ (fun e => by subst e; exact hpw h1), k1 g hlt (h.ap g h1)]
  · refine hok.keep fun g h1 => ?_
    rw [set_other _ (hne g h1)]
  · intro g h1 h2
    rcases hnew g h2 with h3 | h3
    · exact h.ap g h1 h3
    · have := (h.w.2.2.lt g h1).2
      omega
  · refine ⟨?_, ?_, ?_, by rw [set_size]; omega, fun g h1 h2 _ h4 => by rw [set_other _ h2, k1 g h1 h4]⟩
    · have := (below_set (Below.refl 0 w1) (g := p) (j := 2) (Nat.zero_le _) v').os
      rw [this, hg.os]; rfl
    · have := (below_set (Below.refl 0 w1) (g := p) (j := 2) (Nat.zero_le _) v').tape
      rw [this, hg.tape]; rfl
    · have := (below_set (Below.refl 0 w1) (g := p) (j := 2) (Nat.zero_le _) v').output
      rw [this, hg.output]; rfl
def Gave (n : Int) (e : Ending) : Prop := e = .panicked [{ v := .iface 24 (.int .i64 n), recovered := false }]
def TakeB (b0 : Nat) (W : World) (p : Nat) (fv : Value) (way ends : List Int) (wv ev : Value) (c : Int) (e : Ending) (W' : World) : Prop :=
  (32 ≤ ends.length ∧ Gave 2 e ∧ W' = W) ∨ (ends.length < 32 ∧ e = .returned (.tuple #[]) ∧ ∃ ev', Wk b0 W' p fv way (ends ++ [c]) wv ev' ∧ Frm W W' p wv ev ∧ NewOr W ev ev')
set_option maxRecDepth 8000 in
set_option maxHeartbeats 2000000 in
theorem take_any (b0 : Nat) (W : World) (p : Nat) (fv : Value) (way ends : List Int) (wv ev : Value) (c : Int) (h : Wk b0 W p fv way ends wv ev) (hb0 : b0 ≤ W.heap.size) (hl : ends.length ≤ 32) (hc : Rune c) :
    Calls Tryz.prog 161 #[.pointer (some ⟨p, 0, none⟩), .int .i32 c] W (TakeB b0 W p fv way ends wv ev c) := by
  obtain ⟨i0, hi, hz0, hz1, hz2⟩ := info_parts Tryz.info21
  have x2 : W.cell? ⟨p, 2, none⟩ = some ev := cell_of (j := 2) h.blk (by show 2 < 3; omega)
  obtain ⟨ao, cap, rfl, _, _⟩ := h.e.sk.shape
  by_cases h32 : ends.length = 32
  · have HF : TakeB b0 W p fv way ends wv (.slice ao ends.length cap) c (.panicked [{ v := .iface 24 (.int .i64 2), recovered := false }]) W := .inl ⟨by omega, rfl, rfl⟩
    rw [h32] at x2 HF
    have hq : ((32 : Nat) : Int) = 32 := rfl
    clear h
    go_enter Tryz.func161, Tryz.ntmps161
    go_wp2
    exact ⟨rfl, HF⟩
  · have hq : ((ends.length : Int) == 32) = false := by rw [beq_eq_false_iff_ne]; omega
    have hrow : ∀ o, (W.alloc o).ownsRow b0 21 1 (.slice ao ends.length cap) ends.length (ends.map (Value.int .i32)) := fun o => h.e.row.alloc o
    have HROW := hide hrow
    have HT := hide (fun o v' w1 a b c' => h.taken (o := o) (v' := v') (w1 := w1) (by omega) hc a b c')
    have hlt2 : ends.length < 32 := by omega
    clear hrow h h32
    go_enter Tryz.func161, Tryz.ntmps161
    go_wp2_with (at_builtin; refine wpList_append_own_at _ rfl (.tmp 15) (.tmp 17) 38 rfl b0 21 i0 (.int .i32 0) 1 4 Tryz.underlying38 hi hz0 hz1 hz2 rfl (by decide) _ _ _ rfl ((unhide HROW) _) ⟨W.heap.size, 0, none⟩ 1 1 [.int .i32 c] rfl rfl (cell_one_new _ _ _) (int_one _ _) (by unfold maxLen; omega) (by omega) (by simp; omega) ?_)
    intro v' w1 hrow1 hg1 _ hat1
    obtain ⟨hb1, hw1, hf1, hn1⟩ := (unhide HT) _ v' w1 hrow1 hg1 hat1
    obtain ⟨ao', cap', rfl, _, _⟩ := hw1.e.sk.shape
    have y2 : w1.cell? ⟨p, 2, none⟩ = some (.slice ao ends.length cap) := cell_of (j := 2) hb1 (by show 2 < 3; omega)
    have yf := frozen_of (j := 2) hb1
    have HF : TakeB b0 W p fv way ends wv (.slice ao ends.length cap) c (.returned (.tuple #[])) (w1.setCell ⟨p, 2, none⟩ (.slice ao' (ends ++ [c]).length cap')) := .inr ⟨hlt2, rfl, _, hw1, hf1, hn1⟩
    clear HT HROW hrow1 hg1 hat1 hw1 hf1 hn1 hb1 x2
    generalize (ends ++ [c]).length = m at *
    go_wp2
    go_end0
    exact HF
end Go.Proofs.YtloocceakfmnoaaGreatDoor
/- Steps of the way down; its length. -/
namespace Go.Proofs.YtloocceakfmnoaaGreatDoor.Cn

theorem walk_leaf {l : List Rec} {c : Int} (h : opn l c = []) (f : Nat) (way out : List Int) : walk l f way c out = if 32 ≤ out.length then ([], 2) else (out ++ [c], 0) := by
  cases f <;> rw [walk, if_pos h]
theorem walk_loop {l : List Rec} {c : Int} (h : opn l c ≠ []) (f : Nat) {way : List Int} (hw : c ∈ way) (out : List Int) : walk l f way c out = ([], 72) := by
  cases f <;> rw [walk, if_neg h, if_pos hw]
theorem walk_deep {l : List Rec} {c : Int} (h : opn l c ≠ []) {way : List Int} (hw : ¬ c ∈ way) (out : List Int) : walk l 0 way c out = ([], 73) := by
  rw [walk, if_neg h, if_neg hw]
def stepW (l : List Rec) (f : Nat) (way : List Int) (s : List Int × Int) (d : Int) : List Int × Int := if s.2 = 0 then walk l f way d s.1 else s
theorem walk_go {l : List Rec} {c : Int} (h : opn l c ≠ []) (f : Nat) {way : List Int} (hw : ¬ c ∈ way) (out : List Int) : walk l (f + 1) way c out = (opn l c).foldl (stepW l f (way ++ [c])) (out, 0) := by
  rw [walk, if_neg h, if_neg hw]; rfl
theorem fold_stuck (l : List Rec) (f : Nat) (way : List Int) : ∀ (xs : List Int) (s : List Int × Int), s.2 ≠ 0 → xs.foldl (stepW l f way) s = s
  | [], _, _ => rfl
  | x :: xs, s, h => by
    rw [List.foldl_cons, stepW, if_neg h]
    exact fold_stuck l f way xs s h
theorem fold_step {l : List Rec} {f : Nat} {way xs out : List Int} {k : Nat} (hk : k < xs.length) : (xs.drop k).foldl (stepW l f way) (out, 0) = (xs.drop (k + 1)).foldl (stepW l f way) (walk l f way (xs.getD k 0) out) := by
  rw [List.drop_eq_getElem_cons hk, List.foldl_cons]
  simp [stepW, List.getD, hk]
theorem walk_len (l : List Rec) : ∀ (f : Nat) (way : List Int) (c : Int) (out : List Int), out.length ≤ 32 → (walk l f way c out).1.length ≤ 32 := by
  intro f
  induction f with
  | zero =>
    intro way c out h
    rw [walk]
    split
    · split
      · simp
      · simp; omega
    · split <;> simp
  | succ f ih =>
    intro way c out h
    rw [walk]
    split
    · split
      · simp
      · simp; omega
    · split
      · simp
      · have key : ∀ (xs : List Int) (s : List Int × Int), s.1.length ≤ 32 → (xs.foldl (stepW l f (way ++ [c])) s).1.length ≤ 32 := by
          intro xs
          induction xs with
          | nil => intro s hs; exact hs
          | cons x xs ihx =>
            intro s hs
            rw [List.foldl_cons]
            refine ihx _ ?_
            unfold stepW
            split
            · exact ih _ _ _ hs
            · exact hs
        exact key _ _ h
theorem full_len (l : List Rec) (c : Int) : (full l c).1.length ≤ 32 := walk_len l 16 [] c [] (by simp)
/-- Beside an error there is none. -/
theorem walk_err (l : List Rec) : ∀ (f : Nat) (way : List Int) (c : Int) (out : List Int), (walk l f way c out).2 ≠ 0 → (walk l f way c out).1 = [] := by
  intro f
  induction f with
  | zero =>
    intro way c out
    rw [walk]
    split
    · split
      · intro _; rfl
      · intro h; exact absurd rfl h
    · split <;> (intro _; rfl)
  | succ f ih =>
    intro way c out
    rw [walk]
    split
    · split
      · intro _; rfl
      · intro h; exact absurd rfl h
    · split
      · intro _; rfl
      · have key : ∀ (xs : List Int) (s : List Int × Int), (s.2 ≠ 0 → s.1 = []) → (xs.foldl (stepW l f (way ++ [c])) s).2 ≠ 0 → (xs.foldl (stepW l f (way ++ [c])) s).1 = [] := by
          intro xs
          induction xs with
          | nil => intro s hs h; exact hs h
          | cons x xs ihx =>
            intro s hs
            rw [List.foldl_cons]
            refine ihx _ ?_
            unfold stepW
            split
            · exact ih _ _ _
            · exact hs
        exact key _ _ (fun h => absurd rfl h)
end Go.Proofs.YtloocceakfmnoaaGreatDoor.Cn
/- The way down: (*walk).down. -/
namespace Go.Proofs.YtloocceakfmnoaaGreatDoor
open Go.RowKit

/-- A function value that tells what a number opens to, in every world behind w0. -/
def Opens (g : Nat) (fa cb : Array Value) (rs : List Rec) (w0 : World) : Prop := ∀ (c : Int) (W : World), Below w0.heap.size w0 W → Rune c → Calls Tryz.prog g (fa ++ #[.int .i32 c] ++ cb) W (OpB w0 W (Cn.opn rs c))
/-- A way down that was gone: the ends, or it gave up. -/
def DownB (b0 : Nat) (W : World) (p : Nat) (fv : Value) (way : List Int) (wv ev : Value) (r : List Int × Int) (e : Ending) (W' : World) : Prop :=
  Frm W W' p wv ev ∧ ((r.2 ≠ 0 ∧ Gave r.2 e) ∨ (r.2 = 0 ∧ e = .returned (.tuple #[]) ∧ ∃ wv' ev', Wk b0 W' p fv way r.1 wv' ev' ∧ NewOr W wv wv' ∧ NewOr W ev ev'))
/-- The way's field: one more number, and one less. -/
theorem Wk.down {b0 : Nat} {W w1 : World} {p : Nat} {fv : Value} {way ends : List Int} {wv ev v' : Value} {o : Obj} {c : Int} (h : Wk b0 W p fv way ends wv ev) (hl : way.length ≤ 40) (hc : Rune c)
    (hown : w1.ownsRow b0 21 1 v' (way.length + 1) (way.map (Value.int .i32) ++ [.int .i32 c])) (hg : (W.alloc o).grownBy w1 wv.ownBlock) (hat : v'.ownBlock = wv.ownBlock ∨ v'.ownBlock = some (W.heap.size + 1)) :
    w1.heap[p]? = some (.cells #[fv, wv, ev] 176 (0, 0)) ∧ Wk b0 (w1.setCell ⟨p, 1, none⟩ v') p fv (way ++ [c]) ends v' ev ∧ Frm W (w1.setCell ⟨p, 1, none⟩ v') p wv ev ∧ NewOr W wv v' := by
  have hp := h.lt
  obtain ⟨hpw, hpe⟩ := h.pw
  have kA : ∀ g, g < W.heap.size → (W.alloc o).heap[g]? = W.heap[g]? := fun g hg => ((Below.refl W.heap.size W).alloc (Nat.le_refl _) _).block g hg
  have k1 : ∀ g, g < W.heap.size → wv.ownBlock ≠ some g → w1.heap[g]? = W.heap[g]? := fun g h1 h2 => by
    rw [hg.block g (by simp; omega) (fun e => h2 e.symm), kA g h1]
  have hsz : W.heap.size + 1 ≤ w1.heap.size := by simpa using hg.size
  have hb : w1.heap[p]? = some (.cells #[fv, wv, ev] 176 (0, 0)) := by rw [k1 p hp hpw]; exact h.blk
  have hnew : NewOr W wv v' := fun g hg' => by
    rcases hat with e | e
    · exact .inl (e ▸ hg')
    · rw [e] at hg'
      simp at hg'
      exact .inr (by omega)
  have hok : Ok .i32 21 w1 b0 v' (way ++ [c]) := by
    refine Ok.of (h.w.1.snoc (i32_fit hc)) (by simp; omega) hown (by simp) (by simp)
  have hne : ∀ g, v'.ownBlock = some g → g ≠ p := fun g h1 h2 => by
    subst h2
    rcases hnew g h1 with h3 | h3
    · exact hpw h3
    · omega
  refine ⟨hb, ⟨?_, h.own, ?_, ?_, ?_⟩, ?_, hnew⟩
  · rw [set_block hb]
    rfl
  · refine hok.keep fun g h1 => ?_
    rw [set_other _ (hne g h1)]
  · refine h.e.keep fun g h1 => ?_
    have hlt := (h.e.2.2.lt g h1).2
    rw [set_other _ (fun e => by subst e; exact hpe h1), k1 g hlt (fun e => h.ap g e h1)]
  · intro g h1 h2
    rcases hnew g h1 with h3 | h3
    · exact h.ap g h3 h2
    · have := (h.e.2.2.lt g h2).2
      omega
  · refine ⟨?_, ?_, ?_, by rw [set_size]; omega, fun g h1 h2 h3 _ => by rw [set_other _ h2, k1 g h1 h3]⟩
    · have := (below_set (Below.refl 0 w1) (g := p) (j := 1) (Nat.zero_le _) v').os
      rw [this, hg.os]; rfl
    · have := (below_set (Below.refl 0 w1) (g := p) (j := 1) (Nat.zero_le _) v').tape
      rw [this, hg.tape]; rfl
    · have := (below_set (Below.refl 0 w1) (g := p) (j := 1) (Nat.zero_le _) v').output
      rw [this, hg.output]; rfl
theorem Wk.up {b0 : Nat} {W : World} {p : Nat} {fv : Value} {way ends : List Int} {ev : Value} {ao : Option Addr} {len cap : Nat} {c : Int} (h : Wk b0 W p fv (way ++ [c]) ends (.slice ao len cap) ev) :
    Wk b0 (W.setCell ⟨p, 1, none⟩ (.slice ao way.length cap)) p fv way ends (.slice ao way.length cap) ev ∧ Frm W (W.setCell ⟨p, 1, none⟩ (.slice ao way.length cap)) p (.slice ao len cap) ev ∧ NewOr W (.slice ao len cap) (.slice ao way.length cap) := by
  obtain ⟨hpw, hpe⟩ := h.pw
  have hob : ∀ g, (Value.slice ao way.length cap).ownBlock = some g → (Value.slice ao len cap).ownBlock = some g := fun g hg => by
    cases ao with
    | none => simp [Value.ownBlock] at hg
    | some a => simpa [Value.ownBlock] using hg
  have hlen : len = way.length + 1 := by
    obtain ⟨_, _, e, _, _⟩ := h.w.sk.shape
    simp at e
    omega
  have hok : Ok .i32 21 W b0 (.slice ao way.length cap) way := by
    refine ⟨fun z hz => h.w.1 z (by simp [hz]), by have := h.w.2.1; simp at this ⊢; omega, ?_⟩
    have h2 := h.w.2.2
    refine ⟨by simp, ?_⟩
    rcases h2.2 with ⟨e, _⟩ | ⟨g, cap', cur, e, hg, hh, hn, hcap, hsz, htake⟩
    · simp at e; omega
    · simp only [Value.slice.injEq] at e
      obtain ⟨rfl, e2, rfl⟩ := e
      simp only [List.length_map] at *
      refine .inr ⟨g, cap, cur, rfl, hg, hh, by simp at hn; omega, hcap, hsz, ?_⟩
      have := congrArg (List.take (way.length * 1)) htake
      rw [List.take_take, List.map_append, List.take_append_of_le_length (by simp)] at this
      rw [List.take_of_length_le (l := way.map (Value.int .i32)) (by simp)] at this
      simpa [Nat.min_eq_left (show way.length ≤ way.length + 1 by omega)] using this
  refine ⟨⟨?_, h.own, ?_, ?_, ?_⟩, ?_, fun g hg => .inl (hob g hg)⟩
  · rw [set_block h.blk]
    rfl
  · refine hok.keep fun g h1 => ?_
    rw [set_other _ (fun e => by subst e; exact hpw (hob _ h1))]
  · refine h.e.keep fun g h1 => ?_
    rw [set_other _ (fun e => by subst e; exact hpe h1)]
  · exact fun g h1 => h.ap g (hob g h1)
  · refine ⟨?_, ?_, ?_, by rw [set_size]; omega, fun g h1 h2 _ _ => by rw [set_other _ h2]⟩
    · exact (below_set (Below.refl 0 W) (g := p) (j := 1) (Nat.zero_le _) _).os
    · exact (below_set (Below.refl 0 W) (g := p) (j := 1) (Nat.zero_le _) _).tape
    · exact (below_set (Below.refl 0 W) (g := p) (j := 1) (Nat.zero_le _) _).output
/-- What is read of a list that no step of the walk touches. -/
theorem Sk.frm {W W' : World} {p : Nat} {wv ev v : Value} {zs : List Int} (h : Sk .i32 W v zs) (hf : Frm W W' p wv ev) (hn : ∀ b off len cap, v = .slice (some ⟨b, off, none⟩) len cap → 0 < len → b ≠ p ∧ wv.ownBlock ≠ some b ∧ ev.ownBlock ≠ some b) : Sk .i32 W' v zs := by
  obtain ⟨h1, h2, h3⟩ := h
  refine ⟨h1, h2, ?_⟩
  rcases h3 with h3 | ⟨b, off, cap, hv, hl, hm, hc⟩
  · exact .inl h3
  · refine .inr ⟨b, off, cap, hv, hl, hm, fun i hi => ?_⟩
    obtain ⟨a1, a2, a3⟩ := hn b off _ cap hv (by omega)
    have hlt := lt_of_cell? (hc i hi)
    rw [World.cell?_of_block (hf.keep b hlt a1 a2 a3)]
    exact hc i hi
end Go.Proofs.YtloocceakfmnoaaGreatDoor
