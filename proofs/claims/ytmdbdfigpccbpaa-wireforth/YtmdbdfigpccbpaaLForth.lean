/- The law WireForth, out of the contracts. -/
import Derived.Test.YtmdbdfigpccbpaaTold
import Derived.Test.YtmdbdfigpccbpaaFloat
import Derived.Test.YtmdbdfigpccbpaaForthM
import Derived.Deep.QuietTactic
import Derived.BigQuiet
import Derived.Deep.RegionHeld3
namespace Go.Proofs.Ytmdbdfigpccbpaa
open Go.RowKit

set_option maxRecDepth 100000 in
theorem fl_fval (l : List Int) (hl : l.length = 8) (hb : Byt l) : Ref.fl (Ref.fval l).toNat = l := by
  match l, hl with
  | [b0, b1, b2, b3, b4, b5, b6, b7], _ =>
    have h0 := hb b0 (by simp)
    have h1 := hb b1 (by simp)
    have h2 := hb b2 (by simp)
    have h3 := hb b3 (by simp)
    have h4 := hb b4 (by simp)
    have h5 := hb b5 (by simp)
    have h6 := hb b6 (by simp)
    have h7 := hb b7 (by simp)
    simp only [Ref.fl, List.range, List.range.loop, List.map_cons, List.map_nil, Ref.fval, Ref.byteAt, List.cons.injEq, and_true]
    refine ⟨?_, ?_, ?_, ?_, ?_, ?_, ?_, ?_⟩ <;> omega

/-- What ReadFloat reads is written just so. -/
theorem rf_forth (zs : List Int) (at_ : Int) (hb : Byt zs) (h : (Ref.rf zs at_).2.2 = 0) :
    0 ≤ at_ ∧ (Ref.rf zs at_).2.1 = at_ + 8 ∧ (Ref.rf zs at_).2.1 ≤ zs.length ∧ Ref.fl (Ref.rf zs at_).1.toNat = (zs.drop at_.toNat).take ((Ref.rf zs at_).2.1 - at_).toNat := by
  unfold Ref.rf at h ⊢
  by_cases hbad : at_ < 0 ∨ (zs.length : Int) < at_
  · rw [if_pos hbad] at h; simp at h
  rw [if_neg hbad] at h ⊢
  by_cases hsh : (zs.length : Int) - at_ < 8
  · rw [if_pos hsh] at h; simp at h
  rw [if_neg hsh] at h ⊢
  simp only
  refine ⟨by omega, by trivial, by omega, ?_⟩
  rw [show (at_ + 8 - at_).toNat = 8 by omega]
  exact fl_fval _ (by simp; omega) (fun z hz => hb z (List.mem_of_mem_drop (List.mem_of_mem_take hz)))

theorem rt_byt (zs : List Int) (at_ most : Int) (hb : Byt zs) : Byt (Ref.rt zs at_ most).1 := by
  unfold Ref.rt
  split
  · exact Byt.nil
  split
  · exact Byt.nil
  split
  · exact Byt.nil
  split
  · exact Byt.nil
  · exact fun z hz => hb z (List.mem_of_mem_drop (List.mem_of_mem_take hz))

theorem rt_len (zs : List Int) (at_ most : Int) : (Ref.rt zs at_ most).1.length ≤ zs.length := by
  unfold Ref.rt
  split
  · simp
  split
  · simp
  split
  · simp
  split
  · simp
  · simp only [List.length_take, List.length_drop]; omega

theorem rt_no (zs : List Int) (at_ most : Int) (h : ¬ (Ref.rd zs at_).2.2 = 0) : (Ref.rt zs at_ most).2.2 ≠ 0 := by
  unfold Ref.rt
  by_cases hm : most < 0
  · rw [if_pos hm]; simp
  · rw [if_neg hm, if_pos h]; exact h

theorem str_inj' {a b : List Int} (ha : Byt a) (hb : Byt b) (h : strOfNums a = strOfNums b) : a = b := by
  have h2 : (strOfNums a).data.toList = (strOfNums b).data.toList := by rw [h]
  rw [strOfNums_data, strOfNums_data] at h2
  have h3 := congrArg (List.map fun x : UInt8 => (x.toNat : Int)) h2
  rw [List.map_map, List.map_map] at h3
  have key : ∀ l : List Int, Byt l → l.map ((fun x : UInt8 => (x.toNat : Int)) ∘ fun n : Int => UInt8.ofNat n.toNat) = l := by
    intro l hl
    conv => rhs; rw [← List.map_id l]
    apply List.map_congr_left
    intro z hz
    have := hl z hz
    simp
    omega
  rw [key a ha, key b hb] at h3
  exact h3

theorem nums_str (l : List Int) (h : Byt l) : nums (strOfNums l) = l := by
  apply str_inj' (nums_byt _) h
  rw [strOf_nums]

set_option maxRecDepth 100000 in
set_option maxHeartbeats 8000000 in
theorem wireForth_any (at_ most : Int) (v : Value) (zs : List Int) (w : World) (hs : Sl w v zs) (hl : zs.length ≤ 140737488351232) :
    Calls Try.prog 8 #[v, .int .i64 at_, .int .i64 most] w fun e w' => e = .returned (.bool true) ∧ Below w.heap.size w w' := by
  obtain ⟨ao, cap, rfl, kc1, kc2⟩ := hs.shape
  obtain ⟨cv, hcv⟩ : ∃ cv : Value → World → Result Value, ∀ v w, (convert 22 9 v).run Try.prog w = cv v w := ⟨fun v w => (convert 22 9 v).run Try.prog w, fun _ _ => rfl⟩
  have HC := hide (fun (w : World) (v : Value) (zs : List Int) (h : Sl w v zs) => (hcv v w).symm.trans h.conv)
  go_enter Try.func8, Try.ntmps8
  go_wp2_with fail
  refine (told_any _).mono ?_
  rintro e w1 ⟨rfl, b1⟩
  have s1 := hs.below b1
  have H1 := hide (readUint_any _ zs at_ w1 s1)
  go_wp2_with fail
  refine (unhide H1).mono ?_
  rintro e w1 ⟨rfl, rfl⟩
  by_cases h1 : (Ref.rd zs at_).2.2 = 0
  · have h1' : ((Ref.rd zs at_).2.2 == 0) = true := by simp [h1]
    have hL := rd_forth zs at_ s1.1 h1
    obtain ⟨a1, a2, a3, _, a5⟩ := rd_ok zs at_ h1
    have HU := fun w => hide (uint_any (Ref.rd zs at_).1 w a5)
    clear h1 H1 a5
    generalize Ref.rd zs at_ = q at *
    have g1 : decide (at_ < 0) = false := by simp; omega
    have g2 : decide ((zs.length : Int) < q.2.1) = false := by simp; omega
    have g3 : decide (q.2.1 ≤ at_) = false := by simp; omega
    have hcut := s1.cut (l := at_.toNat) (h := q.2.1.toNat) (m := cap) (by omega) (by omega) (by omega) (by omega)
    rw [show q.2.1.toNat - at_.toNat = (q.2.1 - at_).toNat by omega, ← hL] at hcut
    have hcp : ¬ cap = at_.toNat := by omega
    simp only [sliced, hcp, if_false, Nat.mul_one] at hcut
    rw [show (q.2.1 - at_).toNat = q.2.1.toNat - at_.toNat by omega] at hL
    clear hL
    obtain ⟨sx, hsx⟩ : ∃ sx, strOfNums (Ref.uint q.1) = sx := ⟨_, rfl⟩
    have HSX := hide hsx
    have HCV := hide (fun wx (hb : Below w1.heap.size w1 wx) => ((unhide HC) _ _ _ (hcut.below hb)).trans (by rw [hsx]))
    have hcv0 := (unhide HCV) _ (Below.refl _ _).drew
    have k3 : 0 ≤ at_ := by omega
    have k4 : 0 ≤ q.2.1 := by omega
    have k5 : q.2.1 ≤ (cap : Int) := by omega
    have k6 : max q.2.1 0 = q.2.1 := by omega
    have k7 : at_ ≤ q.2.1 := by omega
    clear hcut hsx
    generalize Ref.uint q.1 = un at *
    clear a1 a2 a3
    go_wp2
    refine wp_region_noPanic ?_
    refine wp_region_held_drew (S := (fun w' => cv (Value.slice (Option.map (fun x => x.add at_.toNat) ao) (q.2.1.toNat - at_.toNat) (cap - at_.toNat)) w' = Result.ok (Value.string sx) w')) (by kernel_rfl) hcv0 (fun hHeld => ?_)
    refine wpAnyH_take (i := 0) (v := ?v1x0) rfl (by kernel_rfl) (by kernel_rfl) (by kernel_rfl) (fun _ _ _ h => h) (Or.inl ⟨by rfl, ?h1x0⟩) hHeld ?r1x0
    case h1x0 => intro w hSw; (try dsimp only at hSw); go_simp <;> with_reducible rfl
    try simp only [List.getElem_toArray, List.getElem_cons_zero, Act.put, List.setIfInBounds_toArray, List.set_cons_zero, List.set_cons_succ]
    refine wpAnyH_take (i := 1) (v := ?v1x1) rfl (by kernel_rfl) (by kernel_rfl) (by kernel_rfl) (fun _ _ _ h => h) (Or.inl ⟨by rfl, ?h1x1⟩) hHeld ?r1x1
    case h1x1 => intro w hSw; (try dsimp only at hSw); go_simp <;> with_reducible rfl
    try simp only [List.getElem_toArray, List.getElem_cons_zero, List.getElem_cons_succ, Act.put, List.setIfInBounds_toArray, List.set_cons_zero, List.set_cons_succ]
    refine wpAnyH_take (i := 2) (v := ?v1x2) rfl (by kernel_rfl) (by kernel_rfl) (by kernel_rfl) (fun _ _ _ h => h) (Or.inl ⟨by rfl, ?h1x2⟩) hHeld ?r1x2
    case h1x2 => intro w hSw; (try dsimp only at hSw); go_simp <;> with_reducible rfl
    try simp only [List.getElem_toArray, List.getElem_cons_zero, List.getElem_cons_succ, Act.put, List.setIfInBounds_toArray, List.set_cons_zero, List.set_cons_succ]
    refine wpAnyH_take (i := 3) (v := ?v1x3) rfl (by kernel_rfl) (by kernel_rfl) (by kernel_rfl) (fun _ _ _ h => h) (Or.inl ⟨by rfl, ?h1x3⟩) hHeld ?r1x3
    case h1x3 => intro w hSw; (try dsimp only at hSw); go_simp <;> with_reducible rfl
    try simp only [List.getElem_toArray, List.getElem_cons_zero, List.getElem_cons_succ, Act.put, List.setIfInBounds_toArray, List.set_cons_zero, List.set_cons_succ]
    refine wpAnyH_take (i := 4) (v := ?v1x4) rfl (by kernel_rfl) (by kernel_rfl) (by kernel_rfl) (fun _ _ _ h => h) (Or.inl ⟨by rfl, ?h1x4⟩) hHeld ?r1x4
    case h1x4 => intro w hSw; (try dsimp only at hSw); go_simp <;> with_reducible rfl
    try simp only [List.getElem_toArray, List.getElem_cons_zero, List.getElem_cons_succ, Act.put, List.setIfInBounds_toArray, List.set_cons_zero, List.set_cons_succ]
    refine wpAnyH_take (i := 5) (v := ?v1x5) rfl (by kernel_rfl) (by kernel_rfl) (by kernel_rfl) (fun _ _ _ h => h) (Or.inl ⟨by rfl, ?h1x5⟩) hHeld ?r1x5
    case h1x5 => intro w hSw; (try dsimp only at hSw); go_simp <;> with_reducible rfl
    try simp only [List.getElem_toArray, List.getElem_cons_zero, List.getElem_cons_succ, Act.put, List.setIfInBounds_toArray, List.set_cons_zero, List.set_cons_succ]
    refine wpAnyH_take (i := 6) (v := ?v1x6) rfl (by kernel_rfl) (by kernel_rfl) (by kernel_rfl) (fun _ _ _ h => h) (Or.inl ⟨by rfl, ?h1x6⟩) hHeld ?r1x6
    case h1x6 => intro w hSw; (try dsimp only at hSw); go_simp <;> with_reducible rfl
    try simp only [List.getElem_toArray, List.getElem_cons_zero, List.getElem_cons_succ, Act.put, List.setIfInBounds_toArray, List.set_cons_zero, List.set_cons_succ]
    refine wpAnyH_take (i := 7) (v := ?v1x7) rfl (by kernel_rfl) (by kernel_rfl) (by kernel_rfl) (fun _ _ _ h => h) (Or.inl ⟨by rfl, ?h1x7⟩) hHeld ?r1x7
    case h1x7 => intro w hSw; (try dsimp only at hSw); go_simp <;> with_reducible rfl
    try simp only [List.getElem_toArray, List.getElem_cons_zero, List.getElem_cons_succ, Act.put, List.setIfInBounds_toArray, List.set_cons_zero, List.set_cons_succ]
    refine wpAnyH_take (i := 8) (v := ?v1x8) rfl (by kernel_rfl) (by kernel_rfl) (by kernel_rfl) (fun _ _ _ h => h) (Or.inl ⟨by rfl, ?h1x8⟩) hHeld ?r1x8
    case h1x8 => intro w hSw; (try dsimp only at hSw); go_simp <;> with_reducible rfl
    try simp only [List.getElem_toArray, List.getElem_cons_zero, List.getElem_cons_succ, Act.put, List.setIfInBounds_toArray, List.set_cons_zero, List.set_cons_succ]
    refine wpAnyH_take (i := 9) (v := ?v1x9) rfl (by kernel_rfl) (by kernel_rfl) (by kernel_rfl) (fun _ _ _ h => h) (Or.inl ⟨by rfl, ?h1x9⟩) hHeld ?r1x9
    case h1x9 => intro w hSw; (try dsimp only at hSw); go_simp <;> with_reducible rfl
    try simp only [List.getElem_toArray, List.getElem_cons_zero, List.getElem_cons_succ, Act.put, List.setIfInBounds_toArray, List.set_cons_zero, List.set_cons_succ]
    refine wpAnyH_take (i := 10) (v := ?v1x10) rfl (by kernel_rfl) (by kernel_rfl) (by kernel_rfl) (fun _ _ _ h => h) (Or.inl ⟨by rfl, ?h1x10⟩) hHeld ?r1x10
    case h1x10 => intro w hSw; (try dsimp only at hSw); go_simp <;> with_reducible rfl
    try simp only [List.getElem_toArray, List.getElem_cons_zero, List.getElem_cons_succ, Act.put, List.setIfInBounds_toArray, List.set_cons_zero, List.set_cons_succ]
    refine wpAnyH_take (i := 11) (v := ?v1x11) rfl (by kernel_rfl) (by kernel_rfl) (by kernel_rfl) (fun _ _ _ h => h) (Or.inl ⟨by rfl, ?h1x11⟩) hHeld ?r1x11
    case h1x11 => intro w hSw; (try dsimp only at hSw); go_simp <;> with_reducible rfl
    try simp only [List.getElem_toArray, List.getElem_cons_zero, List.getElem_cons_succ, Act.put, List.setIfInBounds_toArray, List.set_cons_zero, List.set_cons_succ]
    refine wpAnyH_take (i := 12) (v := ?v1x12) rfl (by kernel_rfl) (by kernel_rfl) (by kernel_rfl) (fun _ _ _ h => h) (Or.inl ⟨by rfl, ?h1x12⟩) hHeld ?r1x12
    case h1x12 => intro w hSw; (try dsimp only at hSw); go_simp <;> with_reducible rfl
    try simp only [List.getElem_toArray, List.getElem_cons_zero, List.getElem_cons_succ, Act.put, List.setIfInBounds_toArray, List.set_cons_zero, List.set_cons_succ]
    refine wpAnyH_take (i := 13) (v := ?v1x13) rfl (by kernel_rfl) (by kernel_rfl) (by kernel_rfl) (fun _ _ _ h => h) (Or.inl ⟨by rfl, ?h1x13⟩) hHeld ?r1x13
    case h1x13 => intro w hSw; (try dsimp only at hSw); go_simp <;> with_reducible rfl
    try simp only [List.getElem_toArray, List.getElem_cons_zero, List.getElem_cons_succ, Act.put, List.setIfInBounds_toArray, List.set_cons_zero, List.set_cons_succ]
    refine wpAnyH_take (i := 14) (v := ?v1x14) rfl (by kernel_rfl) (by kernel_rfl) (by kernel_rfl) (fun _ _ _ h => h) (Or.inl ⟨by rfl, ?h1x14⟩) hHeld ?r1x14
    case h1x14 => intro w hSw; (try dsimp only at hSw); go_simp <;> with_reducible rfl
    try simp only [List.getElem_toArray, List.getElem_cons_zero, List.getElem_cons_succ, Act.put, List.setIfInBounds_toArray, List.set_cons_zero, List.set_cons_succ]
    refine wpAnyH_take (i := 15) (v := ?v1x15) rfl (by kernel_rfl) (by kernel_rfl) (by kernel_rfl) (fun _ _ _ h => h) (Or.inl ⟨by rfl, ?h1x15⟩) hHeld ?r1x15
    case h1x15 => intro w hSw; (try dsimp only at hSw); go_simp <;> with_reducible rfl
    try simp only [List.getElem_toArray, List.getElem_cons_zero, List.getElem_cons_succ, Act.put, List.setIfInBounds_toArray, List.set_cons_zero, List.set_cons_succ]
    refine wpAnyH_take (i := 16) (v := ?v1x16) rfl (by kernel_rfl) (by kernel_rfl) (by kernel_rfl) (fun _ _ _ h => h) (Or.inl ⟨by rfl, ?h1x16⟩) hHeld ?r1x16
    case h1x16 => intro w hSw; (try dsimp only at hSw); go_simp <;> with_reducible rfl
    try simp only [List.getElem_toArray, List.getElem_cons_zero, List.getElem_cons_succ, Act.put, List.setIfInBounds_toArray, List.set_cons_zero, List.set_cons_succ]
    refine wpAnyH_take (i := 17) (v := ?v1x17) rfl (by kernel_rfl) (by kernel_rfl) (by kernel_rfl) (fun _ _ _ h => h) (Or.inl ⟨by rfl, ?h1x17⟩) hHeld ?r1x17
    case h1x17 => intro w hSw; (try dsimp only at hSw); go_simp <;> with_reducible rfl
    try simp only [List.getElem_toArray, List.getElem_cons_zero, List.getElem_cons_succ, Act.put, List.setIfInBounds_toArray, List.set_cons_zero, List.set_cons_succ]
    refine wpAnyH_take (i := 20) (v := ?v1x20) rfl (by kernel_rfl) (by kernel_rfl) (by kernel_rfl) (fun _ _ _ h => h) (Or.inl ⟨by rfl, ?h1x20⟩) hHeld ?r1x20
    case h1x20 => intro w hSw; (try dsimp only at hSw); go_simp <;> with_reducible rfl
    try simp only [List.getElem_toArray, List.getElem_cons_zero, List.getElem_cons_succ, Act.put, List.setIfInBounds_toArray, List.set_cons_zero, List.set_cons_succ]
    refine wpAnyH_take (i := 21) (v := ?v1x21) rfl (by kernel_rfl) (by kernel_rfl) (by kernel_rfl) (fun _ _ _ h => h) (Or.inl ⟨by rfl, ?h1x21⟩) hHeld ?r1x21
    case h1x21 => intro w hSw; (try dsimp only at hSw); go_simp <;> with_reducible rfl
    try simp only [List.getElem_toArray, List.getElem_cons_zero, List.getElem_cons_succ, Act.put, List.setIfInBounds_toArray, List.set_cons_zero, List.set_cons_succ]
    refine wpAnyH_take (i := 22) (v := ?v1x22) rfl (by kernel_rfl) (by kernel_rfl) (by kernel_rfl) (fun _ _ _ h => h) (Or.inl ⟨by rfl, ?h1x22⟩) hHeld ?r1x22
    case h1x22 => intro w hSw; (try dsimp only at hSw); go_simp <;> with_reducible rfl
    try simp only [List.getElem_toArray, List.getElem_cons_zero, List.getElem_cons_succ, Act.put, List.setIfInBounds_toArray, List.set_cons_zero, List.set_cons_succ]
    refine wpAnyH_take (i := 23) (v := ?v1x23) rfl (by kernel_rfl) (by kernel_rfl) (by kernel_rfl) (fun _ _ _ h => h) (Or.inl ⟨by rfl, ?h1x23⟩) hHeld ?r1x23
    case h1x23 => intro w hSw; (try dsimp only at hSw); go_simp <;> with_reducible rfl
    try simp only [List.getElem_toArray, List.getElem_cons_zero, List.getElem_cons_succ, Act.put, List.setIfInBounds_toArray, List.set_cons_zero, List.set_cons_succ]
    refine wpAnyH_take (i := 24) (v := ?v1x24) rfl (by kernel_rfl) (by kernel_rfl) (by kernel_rfl) (fun _ _ _ h => h) (Or.inl ⟨by rfl, ?h1x24⟩) hHeld ?r1x24
    case h1x24 => intro w hSw; (try dsimp only at hSw); go_simp <;> with_reducible rfl
    try simp only [List.getElem_toArray, List.getElem_cons_zero, List.getElem_cons_succ, Act.put, List.setIfInBounds_toArray, List.set_cons_zero, List.set_cons_succ]
    refine wpAnyH_ready (rs := [18]) (by kernel_rfl) (by simp) ?_
    refine AllReadyH.cons rfl (fun K hK => ?_) AllReadyH.nil
    rw [if_pos (by rfl)]
    go_simp
    refine (unhide (HU _)).mono ?_
    rintro e w2 ⟨vv1, rfl, oo1, bb1⟩
    have hcw1 := (unhide HC) _ _ _ oo1.sl
    have hcw2 := (unhide HCV) w2 ((Below.refl _ _).drew.trans bb1)
    rw [unhide HSX] at hcw1
    clear oo1
    refine hK.out _ _ hcw2 (fun hHeld => ?_)
    clear hK K
    refine wpAnyH_ready (rs := [19]) (by kernel_rfl) (by simp) ?_
    refine AllReadyH.cons rfl (fun K hK => ?_) AllReadyH.nil
    rw [if_pos (by rfl)]
    go_simp
    refine hK.out _ _ hcw2 (fun hHeld => ?_)
    clear hK K
    refine wpAnyH_take (i := 25) (v := ?v1x25) rfl (by kernel_rfl) (by kernel_rfl) (by kernel_rfl) (fun _ _ _ h => h) (Or.inl ⟨by rfl, ?h1x25⟩) hHeld ?r1x25
    case h1x25 => intro w hSw; (try dsimp only at hSw); go_simp <;> with_reducible rfl
    try simp only [List.getElem_toArray, List.getElem_cons_zero, List.getElem_cons_succ, Act.put, List.setIfInBounds_toArray, List.set_cons_zero, List.set_cons_succ]
    refine wpAnyH_take (i := 26) (v := ?v1x26) rfl (by kernel_rfl) (by kernel_rfl) (by kernel_rfl) (fun _ _ _ h => h) (Or.inl ⟨by rfl, ?h1x26⟩) hHeld ?r1x26
    case h1x26 => intro w hSw; (try dsimp only at hSw); go_simp <;> with_reducible rfl
    try simp only [List.getElem_toArray, List.getElem_cons_zero, List.getElem_cons_succ, Act.put, List.setIfInBounds_toArray, List.set_cons_zero, List.set_cons_succ]
    refine wpAnyH_take (i := 27) (v := ?v1x27) rfl (by kernel_rfl) (by kernel_rfl) (by kernel_rfl) (fun _ _ _ h => h) (Or.inl ⟨by rfl, ?h1x27⟩) hHeld ?r1x27
    case h1x27 => intro w hSw; (try dsimp only at hSw); go_simp <;> with_reducible rfl
    try simp only [List.getElem_toArray, List.getElem_cons_zero, List.getElem_cons_succ, Act.put, List.setIfInBounds_toArray, List.set_cons_zero, List.set_cons_succ]
    refine wpAnyH_done (by kernel_rfl) ?_ _
    refine NoPanic.normal ?_
    have b2 : Below w.heap.size w w2 := b1.trans (((Below.refl w1.heap.size w1).drew.trans bb1).mono b1.size)
    have s2 := hs.below b2
    clear HSX HCV hcv0 hcw1 hcw2 bb1 k3 k4 k5 k6 k7 s1 b1
    have H2 := hide (readText_any _ zs at_ most w2 s2)
    have hok2 := rt_forth zs at_ most s2.1
    have hby2 := rt_byt zs at_ most s2.1
    have hln2 := rt_len zs at_ most
    generalize Ref.rt zs at_ most = q2 at *
    go_wp2_with fail
    refine (unhide H2).mono ?_
    rintro e w2 ⟨rfl, rfl⟩
    by_cases h2 : q2.2.2 = 0
    · have h2' : (q2.2.2 == 0) = true := by simp [h2]
      obtain ⟨a1, a2, a3, hL⟩ := hok2 h2
      clear h2 hok2 H2
      have g1 : decide (at_ < 0) = false := by simp; omega
      have g2 : decide ((zs.length : Int) < q2.2.1) = false := by simp; omega
      have g3 : decide (q2.2.1 ≤ at_) = false := by simp; omega
      have HU := fun w => hide (text_any (strOfNums q2.1) w (by rw [strOfNums_size]; omega))
      rw [strOfNums_size, nums_str _ hby2] at HU
      clear hby2
      have hcut := s2.cut (l := at_.toNat) (h := q2.2.1.toNat) (m := cap) (by omega) (by omega) (by omega) (by omega)
      rw [show q2.2.1.toNat - at_.toNat = (q2.2.1 - at_).toNat by omega, ← hL] at hcut
      have hcp : ¬ cap = at_.toNat := by omega
      simp only [sliced, hcp, if_false, Nat.mul_one] at hcut
      rw [show (q2.2.1 - at_).toNat = q2.2.1.toNat - at_.toNat by omega] at hL
      clear hL
      obtain ⟨sx, hsx⟩ : ∃ sx, strOfNums (Ref.uint (q2.1.length : Int) ++ q2.1) = sx := ⟨_, rfl⟩
      have HSX := hide hsx
      have HCV := hide (fun wx (hb : Below w2.heap.size w2 wx) => ((unhide HC) _ _ _ (hcut.below hb)).trans (by rw [hsx]))
      have hcv0 := (unhide HCV) _ (Below.refl _ _).drew
      have k3 : 0 ≤ at_ := by omega
      have k4 : 0 ≤ q2.2.1 := by omega
      have k5 : q2.2.1 ≤ (cap : Int) := by omega
      have k6 : max q2.2.1 0 = q2.2.1 := by omega
      have k7 : at_ ≤ q2.2.1 := by omega
      clear hcut hsx
      generalize Ref.uint (q2.1.length : Int) ++ q2.1 = un at *
      generalize strOfNums q2.1 = ss at *
      clear a1 a2 a3 hln2
      go_wp2
      refine wp_region_noPanic ?_
      refine wp_region_held_drew (S := (fun w' => cv (Value.slice (Option.map (fun x => x.add at_.toNat) ao) (q2.2.1.toNat - at_.toNat) (cap - at_.toNat)) w' = Result.ok (Value.string sx) w')) (by kernel_rfl) hcv0 (fun hHeld => ?_)
      refine wpAnyH_take (i := 0) (v := ?v3x0) rfl (by kernel_rfl) (by kernel_rfl) (by kernel_rfl) (fun _ _ _ h => h) (Or.inl ⟨by rfl, ?h3x0⟩) hHeld ?r3x0
      case h3x0 => intro w hSw; (try dsimp only at hSw); go_simp <;> with_reducible rfl
      try simp only [List.getElem_toArray, List.getElem_cons_zero, Act.put, List.setIfInBounds_toArray, List.set_cons_zero, List.set_cons_succ]
      refine wpAnyH_take (i := 1) (v := ?v3x1) rfl (by kernel_rfl) (by kernel_rfl) (by kernel_rfl) (fun _ _ _ h => h) (Or.inl ⟨by rfl, ?h3x1⟩) hHeld ?r3x1
      case h3x1 => intro w hSw; (try dsimp only at hSw); go_simp <;> with_reducible rfl
      try simp only [List.getElem_toArray, List.getElem_cons_zero, List.getElem_cons_succ, Act.put, List.setIfInBounds_toArray, List.set_cons_zero, List.set_cons_succ]
      refine wpAnyH_take (i := 2) (v := ?v3x2) rfl (by kernel_rfl) (by kernel_rfl) (by kernel_rfl) (fun _ _ _ h => h) (Or.inl ⟨by rfl, ?h3x2⟩) hHeld ?r3x2
      case h3x2 => intro w hSw; (try dsimp only at hSw); go_simp <;> with_reducible rfl
      try simp only [List.getElem_toArray, List.getElem_cons_zero, List.getElem_cons_succ, Act.put, List.setIfInBounds_toArray, List.set_cons_zero, List.set_cons_succ]
      refine wpAnyH_take (i := 3) (v := ?v3x3) rfl (by kernel_rfl) (by kernel_rfl) (by kernel_rfl) (fun _ _ _ h => h) (Or.inl ⟨by rfl, ?h3x3⟩) hHeld ?r3x3
      case h3x3 => intro w hSw; (try dsimp only at hSw); go_simp <;> with_reducible rfl
      try simp only [List.getElem_toArray, List.getElem_cons_zero, List.getElem_cons_succ, Act.put, List.setIfInBounds_toArray, List.set_cons_zero, List.set_cons_succ]
      refine wpAnyH_take (i := 4) (v := ?v3x4) rfl (by kernel_rfl) (by kernel_rfl) (by kernel_rfl) (fun _ _ _ h => h) (Or.inl ⟨by rfl, ?h3x4⟩) hHeld ?r3x4
      case h3x4 => intro w hSw; (try dsimp only at hSw); go_simp <;> with_reducible rfl
      try simp only [List.getElem_toArray, List.getElem_cons_zero, List.getElem_cons_succ, Act.put, List.setIfInBounds_toArray, List.set_cons_zero, List.set_cons_succ]
      refine wpAnyH_take (i := 5) (v := ?v3x5) rfl (by kernel_rfl) (by kernel_rfl) (by kernel_rfl) (fun _ _ _ h => h) (Or.inl ⟨by rfl, ?h3x5⟩) hHeld ?r3x5
      case h3x5 => intro w hSw; (try dsimp only at hSw); go_simp <;> with_reducible rfl
      try simp only [List.getElem_toArray, List.getElem_cons_zero, List.getElem_cons_succ, Act.put, List.setIfInBounds_toArray, List.set_cons_zero, List.set_cons_succ]
      refine wpAnyH_take (i := 6) (v := ?v3x6) rfl (by kernel_rfl) (by kernel_rfl) (by kernel_rfl) (fun _ _ _ h => h) (Or.inl ⟨by rfl, ?h3x6⟩) hHeld ?r3x6
      case h3x6 => intro w hSw; (try dsimp only at hSw); go_simp <;> with_reducible rfl
      try simp only [List.getElem_toArray, List.getElem_cons_zero, List.getElem_cons_succ, Act.put, List.setIfInBounds_toArray, List.set_cons_zero, List.set_cons_succ]
      refine wpAnyH_take (i := 7) (v := ?v3x7) rfl (by kernel_rfl) (by kernel_rfl) (by kernel_rfl) (fun _ _ _ h => h) (Or.inl ⟨by rfl, ?h3x7⟩) hHeld ?r3x7
      case h3x7 => intro w hSw; (try dsimp only at hSw); go_simp <;> with_reducible rfl
      try simp only [List.getElem_toArray, List.getElem_cons_zero, List.getElem_cons_succ, Act.put, List.setIfInBounds_toArray, List.set_cons_zero, List.set_cons_succ]
      refine wpAnyH_take (i := 8) (v := ?v3x8) rfl (by kernel_rfl) (by kernel_rfl) (by kernel_rfl) (fun _ _ _ h => h) (Or.inl ⟨by rfl, ?h3x8⟩) hHeld ?r3x8
      case h3x8 => intro w hSw; (try dsimp only at hSw); go_simp <;> with_reducible rfl
      try simp only [List.getElem_toArray, List.getElem_cons_zero, List.getElem_cons_succ, Act.put, List.setIfInBounds_toArray, List.set_cons_zero, List.set_cons_succ]
      refine wpAnyH_take (i := 9) (v := ?v3x9) rfl (by kernel_rfl) (by kernel_rfl) (by kernel_rfl) (fun _ _ _ h => h) (Or.inl ⟨by rfl, ?h3x9⟩) hHeld ?r3x9
      case h3x9 => intro w hSw; (try dsimp only at hSw); go_simp <;> with_reducible rfl
      try simp only [List.getElem_toArray, List.getElem_cons_zero, List.getElem_cons_succ, Act.put, List.setIfInBounds_toArray, List.set_cons_zero, List.set_cons_succ]
      refine wpAnyH_take (i := 10) (v := ?v3x10) rfl (by kernel_rfl) (by kernel_rfl) (by kernel_rfl) (fun _ _ _ h => h) (Or.inl ⟨by rfl, ?h3x10⟩) hHeld ?r3x10
      case h3x10 => intro w hSw; (try dsimp only at hSw); go_simp <;> with_reducible rfl
      try simp only [List.getElem_toArray, List.getElem_cons_zero, List.getElem_cons_succ, Act.put, List.setIfInBounds_toArray, List.set_cons_zero, List.set_cons_succ]
      refine wpAnyH_take (i := 11) (v := ?v3x11) rfl (by kernel_rfl) (by kernel_rfl) (by kernel_rfl) (fun _ _ _ h => h) (Or.inl ⟨by rfl, ?h3x11⟩) hHeld ?r3x11
      case h3x11 => intro w hSw; (try dsimp only at hSw); go_simp <;> with_reducible rfl
      try simp only [List.getElem_toArray, List.getElem_cons_zero, List.getElem_cons_succ, Act.put, List.setIfInBounds_toArray, List.set_cons_zero, List.set_cons_succ]
      refine wpAnyH_take (i := 12) (v := ?v3x12) rfl (by kernel_rfl) (by kernel_rfl) (by kernel_rfl) (fun _ _ _ h => h) (Or.inl ⟨by rfl, ?h3x12⟩) hHeld ?r3x12
      case h3x12 => intro w hSw; (try dsimp only at hSw); go_simp <;> with_reducible rfl
      try simp only [List.getElem_toArray, List.getElem_cons_zero, List.getElem_cons_succ, Act.put, List.setIfInBounds_toArray, List.set_cons_zero, List.set_cons_succ]
      refine wpAnyH_take (i := 13) (v := ?v3x13) rfl (by kernel_rfl) (by kernel_rfl) (by kernel_rfl) (fun _ _ _ h => h) (Or.inl ⟨by rfl, ?h3x13⟩) hHeld ?r3x13
      case h3x13 => intro w hSw; (try dsimp only at hSw); go_simp <;> with_reducible rfl
      try simp only [List.getElem_toArray, List.getElem_cons_zero, List.getElem_cons_succ, Act.put, List.setIfInBounds_toArray, List.set_cons_zero, List.set_cons_succ]
      refine wpAnyH_take (i := 14) (v := ?v3x14) rfl (by kernel_rfl) (by kernel_rfl) (by kernel_rfl) (fun _ _ _ h => h) (Or.inl ⟨by rfl, ?h3x14⟩) hHeld ?r3x14
      case h3x14 => intro w hSw; (try dsimp only at hSw); go_simp <;> with_reducible rfl
      try simp only [List.getElem_toArray, List.getElem_cons_zero, List.getElem_cons_succ, Act.put, List.setIfInBounds_toArray, List.set_cons_zero, List.set_cons_succ]
      refine wpAnyH_take (i := 15) (v := ?v3x15) rfl (by kernel_rfl) (by kernel_rfl) (by kernel_rfl) (fun _ _ _ h => h) (Or.inl ⟨by rfl, ?h3x15⟩) hHeld ?r3x15
      case h3x15 => intro w hSw; (try dsimp only at hSw); go_simp <;> with_reducible rfl
      try simp only [List.getElem_toArray, List.getElem_cons_zero, List.getElem_cons_succ, Act.put, List.setIfInBounds_toArray, List.set_cons_zero, List.set_cons_succ]
      refine wpAnyH_take (i := 16) (v := ?v3x16) rfl (by kernel_rfl) (by kernel_rfl) (by kernel_rfl) (fun _ _ _ h => h) (Or.inl ⟨by rfl, ?h3x16⟩) hHeld ?r3x16
      case h3x16 => intro w hSw; (try dsimp only at hSw); go_simp <;> with_reducible rfl
      try simp only [List.getElem_toArray, List.getElem_cons_zero, List.getElem_cons_succ, Act.put, List.setIfInBounds_toArray, List.set_cons_zero, List.set_cons_succ]
      refine wpAnyH_take (i := 17) (v := ?v3x17) rfl (by kernel_rfl) (by kernel_rfl) (by kernel_rfl) (fun _ _ _ h => h) (Or.inl ⟨by rfl, ?h3x17⟩) hHeld ?r3x17
      case h3x17 => intro w hSw; (try dsimp only at hSw); go_simp <;> with_reducible rfl
      try simp only [List.getElem_toArray, List.getElem_cons_zero, List.getElem_cons_succ, Act.put, List.setIfInBounds_toArray, List.set_cons_zero, List.set_cons_succ]
      refine wpAnyH_take (i := 20) (v := ?v3x20) rfl (by kernel_rfl) (by kernel_rfl) (by kernel_rfl) (fun _ _ _ h => h) (Or.inl ⟨by rfl, ?h3x20⟩) hHeld ?r3x20
      case h3x20 => intro w hSw; (try dsimp only at hSw); go_simp <;> with_reducible rfl
      try simp only [List.getElem_toArray, List.getElem_cons_zero, List.getElem_cons_succ, Act.put, List.setIfInBounds_toArray, List.set_cons_zero, List.set_cons_succ]
      refine wpAnyH_take (i := 21) (v := ?v3x21) rfl (by kernel_rfl) (by kernel_rfl) (by kernel_rfl) (fun _ _ _ h => h) (Or.inl ⟨by rfl, ?h3x21⟩) hHeld ?r3x21
      case h3x21 => intro w hSw; (try dsimp only at hSw); go_simp <;> with_reducible rfl
      try simp only [List.getElem_toArray, List.getElem_cons_zero, List.getElem_cons_succ, Act.put, List.setIfInBounds_toArray, List.set_cons_zero, List.set_cons_succ]
      refine wpAnyH_take (i := 22) (v := ?v3x22) rfl (by kernel_rfl) (by kernel_rfl) (by kernel_rfl) (fun _ _ _ h => h) (Or.inl ⟨by rfl, ?h3x22⟩) hHeld ?r3x22
      case h3x22 => intro w hSw; (try dsimp only at hSw); go_simp <;> with_reducible rfl
      try simp only [List.getElem_toArray, List.getElem_cons_zero, List.getElem_cons_succ, Act.put, List.setIfInBounds_toArray, List.set_cons_zero, List.set_cons_succ]
      refine wpAnyH_take (i := 23) (v := ?v3x23) rfl (by kernel_rfl) (by kernel_rfl) (by kernel_rfl) (fun _ _ _ h => h) (Or.inl ⟨by rfl, ?h3x23⟩) hHeld ?r3x23
      case h3x23 => intro w hSw; (try dsimp only at hSw); go_simp <;> with_reducible rfl
      try simp only [List.getElem_toArray, List.getElem_cons_zero, List.getElem_cons_succ, Act.put, List.setIfInBounds_toArray, List.set_cons_zero, List.set_cons_succ]
      refine wpAnyH_take (i := 24) (v := ?v3x24) rfl (by kernel_rfl) (by kernel_rfl) (by kernel_rfl) (fun _ _ _ h => h) (Or.inl ⟨by rfl, ?h3x24⟩) hHeld ?r3x24
      case h3x24 => intro w hSw; (try dsimp only at hSw); go_simp <;> with_reducible rfl
      try simp only [List.getElem_toArray, List.getElem_cons_zero, List.getElem_cons_succ, Act.put, List.setIfInBounds_toArray, List.set_cons_zero, List.set_cons_succ]
      refine wpAnyH_ready (rs := [18]) (by kernel_rfl) (by simp) ?_
      refine AllReadyH.cons rfl (fun K hK => ?_) AllReadyH.nil
      rw [if_pos (by rfl)]
      go_simp
      refine (unhide (HU _)).mono ?_
      rintro e w3 ⟨vv2, rfl, oo2, bb2⟩
      have hcw1 := (unhide HC) _ _ _ oo2.sl
      have hcw2 := (unhide HCV) w3 ((Below.refl _ _).drew.trans bb2)
      rw [unhide HSX] at hcw1
      clear oo2
      refine hK.out _ _ hcw2 (fun hHeld => ?_)
      clear hK K
      refine wpAnyH_ready (rs := [19]) (by kernel_rfl) (by simp) ?_
      refine AllReadyH.cons rfl (fun K hK => ?_) AllReadyH.nil
      rw [if_pos (by rfl)]
      go_simp
      refine hK.out _ _ hcw2 (fun hHeld => ?_)
      clear hK K
      refine wpAnyH_take (i := 25) (v := ?v3x25) rfl (by kernel_rfl) (by kernel_rfl) (by kernel_rfl) (fun _ _ _ h => h) (Or.inl ⟨by rfl, ?h3x25⟩) hHeld ?r3x25
      case h3x25 => intro w hSw; (try dsimp only at hSw); go_simp <;> with_reducible rfl
      try simp only [List.getElem_toArray, List.getElem_cons_zero, List.getElem_cons_succ, Act.put, List.setIfInBounds_toArray, List.set_cons_zero, List.set_cons_succ]
      refine wpAnyH_take (i := 26) (v := ?v3x26) rfl (by kernel_rfl) (by kernel_rfl) (by kernel_rfl) (fun _ _ _ h => h) (Or.inl ⟨by rfl, ?h3x26⟩) hHeld ?r3x26
      case h3x26 => intro w hSw; (try dsimp only at hSw); go_simp <;> with_reducible rfl
      try simp only [List.getElem_toArray, List.getElem_cons_zero, List.getElem_cons_succ, Act.put, List.setIfInBounds_toArray, List.set_cons_zero, List.set_cons_succ]
      refine wpAnyH_take (i := 27) (v := ?v3x27) rfl (by kernel_rfl) (by kernel_rfl) (by kernel_rfl) (fun _ _ _ h => h) (Or.inl ⟨by rfl, ?h3x27⟩) hHeld ?r3x27
      case h3x27 => intro w hSw; (try dsimp only at hSw); go_simp <;> with_reducible rfl
      try simp only [List.getElem_toArray, List.getElem_cons_zero, List.getElem_cons_succ, Act.put, List.setIfInBounds_toArray, List.set_cons_zero, List.set_cons_succ]
      refine wpAnyH_done (by kernel_rfl) ?_ _
      refine NoPanic.normal ?_
      have b3 : Below w.heap.size w w3 := b2.trans (((Below.refl w2.heap.size w2).drew.trans bb2).mono b2.size)
      have s3 := hs.below b3
      clear HSX HCV hcv0 hcw1 hcw2 bb2 k3 k4 k5 k6 k7 s2 b2
      have H3 := hide (readFloat_any _ zs at_ w3 s3)
      have hok3 := rf_forth zs at_ s3.1
      generalize Ref.rf zs at_ = q3 at *
      go_wp2_with fail
      refine (unhide H3).mono ?_
      rintro e w3 ⟨rfl, rfl⟩
      by_cases h3 : q3.2.2 = 0
      · have h3' : (q3.2.2 != 0) = false := by simp [h3]
        obtain ⟨a1, a2, a3, hL⟩ := hok3 h3
        clear h3 hok3 H3
        have a4 : at_ < q3.2.1 := by omega
        have a5 : (q3.2.1 == at_ + 8) = true := beq_iff_eq.2 a2
        have k8 : at_ ≤ 140737488355328 := by omega
        have e1 : decide (0 ≤ at_) = true := by simp; omega
        have e2 : decide (q3.2.1 ≤ (zs.length : Int)) = true := by simp; omega
        have HU := fun w => hide (float_any q3.1.toNat w)
        clear a2
        cases hn : (FloatKind.f64.format.order q3.1.toNat q3.1.toNat != some .eq) with
        | true =>
          clear hL HU
          go_wp2
          go_quiet (fail)
          go_wp2
          go_ret
          exact ⟨rfl, below_drewN b3 nq⟩
        | false =>
          have hcut := s3.cut (l := at_.toNat) (h := q3.2.1.toNat) (m := cap) (by omega) (by omega) (by omega) (by omega)
          rw [show q3.2.1.toNat - at_.toNat = (q3.2.1 - at_).toNat by omega, ← hL] at hcut
          have hcp : ¬ cap = at_.toNat := by omega
          simp only [sliced, hcp, if_false, Nat.mul_one] at hcut
          rw [show (q3.2.1 - at_).toNat = q3.2.1.toNat - at_.toNat by omega] at hL
          clear hL
          obtain ⟨sx, hsx⟩ : ∃ sx, strOfNums (Ref.fl q3.1.toNat) = sx := ⟨_, rfl⟩
          have HSX := hide hsx
          have HCV := hide (fun wx (hb : Below w3.heap.size w3 wx) => ((unhide HC) _ _ _ (hcut.below hb)).trans (by rw [hsx]))
          have hcv0 := (unhide HCV) _ (Below.refl _ _).drew
          have k3 : 0 ≤ at_ := by omega
          have k4 : 0 ≤ q3.2.1 := by omega
          have k5 : q3.2.1 ≤ (cap : Int) := by omega
          have k6 : max q3.2.1 0 = q3.2.1 := by omega
          have k7 : at_ ≤ q3.2.1 := by omega
          clear hcut hsx
          generalize Ref.fl q3.1.toNat = un at *
          clear a1 a3 a4
          go_wp2
          refine wp_region_noPanic ?_
          refine wp_region_held_drew (S := (fun w' => cv (Value.slice (Option.map (fun x => x.add at_.toNat) ao) (q3.2.1.toNat - at_.toNat) (cap - at_.toNat)) w' = Result.ok (Value.string sx) w')) (by kernel_rfl) hcv0 (fun hHeld => ?_)
          refine wpAnyH_take (i := 0) (v := ?v4x0) rfl (by kernel_rfl) (by kernel_rfl) (by kernel_rfl) (fun _ _ _ h => h) (Or.inl ⟨by rfl, ?h4x0⟩) hHeld ?r4x0
          case h4x0 => intro w hSw; (try dsimp only at hSw); go_simp <;> with_reducible rfl
          try simp only [List.getElem_toArray, List.getElem_cons_zero, Act.put, List.setIfInBounds_toArray, List.set_cons_zero, List.set_cons_succ]
          refine wpAnyH_take (i := 1) (v := ?v4x1) rfl (by kernel_rfl) (by kernel_rfl) (by kernel_rfl) (fun _ _ _ h => h) (Or.inl ⟨by rfl, ?h4x1⟩) hHeld ?r4x1
          case h4x1 => intro w hSw; (try dsimp only at hSw); go_simp <;> with_reducible rfl
          try simp only [List.getElem_toArray, List.getElem_cons_zero, List.getElem_cons_succ, Act.put, List.setIfInBounds_toArray, List.set_cons_zero, List.set_cons_succ]
          refine wpAnyH_take (i := 2) (v := ?v4x2) rfl (by kernel_rfl) (by kernel_rfl) (by kernel_rfl) (fun _ _ _ h => h) (Or.inl ⟨by rfl, ?h4x2⟩) hHeld ?r4x2
          case h4x2 => intro w hSw; (try dsimp only at hSw); go_simp <;> with_reducible rfl
          try simp only [List.getElem_toArray, List.getElem_cons_zero, List.getElem_cons_succ, Act.put, List.setIfInBounds_toArray, List.set_cons_zero, List.set_cons_succ]
          refine wpAnyH_take (i := 3) (v := ?v4x3) rfl (by kernel_rfl) (by kernel_rfl) (by kernel_rfl) (fun _ _ _ h => h) (Or.inl ⟨by rfl, ?h4x3⟩) hHeld ?r4x3
          case h4x3 => intro w hSw; (try dsimp only at hSw); go_simp <;> with_reducible rfl
          try simp only [List.getElem_toArray, List.getElem_cons_zero, List.getElem_cons_succ, Act.put, List.setIfInBounds_toArray, List.set_cons_zero, List.set_cons_succ]
          refine wpAnyH_take (i := 4) (v := ?v4x4) rfl (by kernel_rfl) (by kernel_rfl) (by kernel_rfl) (fun _ _ _ h => h) (Or.inl ⟨by rfl, ?h4x4⟩) hHeld ?r4x4
          case h4x4 => intro w hSw; (try dsimp only at hSw); go_simp <;> with_reducible rfl
          try simp only [List.getElem_toArray, List.getElem_cons_zero, List.getElem_cons_succ, Act.put, List.setIfInBounds_toArray, List.set_cons_zero, List.set_cons_succ]
          refine wpAnyH_take (i := 5) (v := ?v4x5) rfl (by kernel_rfl) (by kernel_rfl) (by kernel_rfl) (fun _ _ _ h => h) (Or.inl ⟨by rfl, ?h4x5⟩) hHeld ?r4x5
          case h4x5 => intro w hSw; (try dsimp only at hSw); go_simp <;> with_reducible rfl
          try simp only [List.getElem_toArray, List.getElem_cons_zero, List.getElem_cons_succ, Act.put, List.setIfInBounds_toArray, List.set_cons_zero, List.set_cons_succ]
          refine wpAnyH_take (i := 6) (v := ?v4x6) rfl (by kernel_rfl) (by kernel_rfl) (by kernel_rfl) (fun _ _ _ h => h) (Or.inl ⟨by rfl, ?h4x6⟩) hHeld ?r4x6
          case h4x6 => intro w hSw; (try dsimp only at hSw); go_simp <;> with_reducible rfl
          try simp only [List.getElem_toArray, List.getElem_cons_zero, List.getElem_cons_succ, Act.put, List.setIfInBounds_toArray, List.set_cons_zero, List.set_cons_succ]
          refine wpAnyH_take (i := 7) (v := ?v4x7) rfl (by kernel_rfl) (by kernel_rfl) (by kernel_rfl) (fun _ _ _ h => h) (Or.inl ⟨by rfl, ?h4x7⟩) hHeld ?r4x7
          case h4x7 => intro w hSw; (try dsimp only at hSw); go_simp <;> with_reducible rfl
          try simp only [List.getElem_toArray, List.getElem_cons_zero, List.getElem_cons_succ, Act.put, List.setIfInBounds_toArray, List.set_cons_zero, List.set_cons_succ]
          refine wpAnyH_take (i := 8) (v := ?v4x8) rfl (by kernel_rfl) (by kernel_rfl) (by kernel_rfl) (fun _ _ _ h => h) (Or.inl ⟨by rfl, ?h4x8⟩) hHeld ?r4x8
          case h4x8 =>
            intro w hSw
            have e6 : wrap64 (at_ + 8) = at_ + 8 := IntWalk.wrap64_in _ ⟨by omega, by omega⟩
            have e7 : IntKind.i64.wrap (at_ + 8) = at_ + 8 := by rw [IntKind.wrap_i64]; omega
            go_simp <;> with_reducible rfl
          try simp only [List.getElem_toArray, List.getElem_cons_zero, List.getElem_cons_succ, Act.put, List.setIfInBounds_toArray, List.set_cons_zero, List.set_cons_succ]
          refine wpAnyH_take (i := 9) (v := ?v4x9) rfl (by kernel_rfl) (by kernel_rfl) (by kernel_rfl) (fun _ _ _ h => h) (Or.inl ⟨by rfl, ?h4x9⟩) hHeld ?r4x9
          case h4x9 => intro w hSw; (try dsimp only at hSw); go_simp <;> with_reducible rfl
          try simp only [List.getElem_toArray, List.getElem_cons_zero, List.getElem_cons_succ, Act.put, List.setIfInBounds_toArray, List.set_cons_zero, List.set_cons_succ]
          refine wpAnyH_take (i := 10) (v := ?v4x10) rfl (by kernel_rfl) (by kernel_rfl) (by kernel_rfl) (fun _ _ _ h => h) (Or.inl ⟨by rfl, ?h4x10⟩) hHeld ?r4x10
          case h4x10 => intro w hSw; (try dsimp only at hSw); go_simp <;> with_reducible rfl
          try simp only [List.getElem_toArray, List.getElem_cons_zero, List.getElem_cons_succ, Act.put, List.setIfInBounds_toArray, List.set_cons_zero, List.set_cons_succ]
          refine wpAnyH_take (i := 11) (v := ?v4x11) rfl (by kernel_rfl) (by kernel_rfl) (by kernel_rfl) (fun _ _ _ h => h) (Or.inl ⟨by rfl, ?h4x11⟩) hHeld ?r4x11
          case h4x11 => intro w hSw; (try dsimp only at hSw); go_simp <;> with_reducible rfl
          try simp only [List.getElem_toArray, List.getElem_cons_zero, List.getElem_cons_succ, Act.put, List.setIfInBounds_toArray, List.set_cons_zero, List.set_cons_succ]
          refine wpAnyH_take (i := 12) (v := ?v4x12) rfl (by kernel_rfl) (by kernel_rfl) (by kernel_rfl) (fun _ _ _ h => h) (Or.inl ⟨by rfl, ?h4x12⟩) hHeld ?r4x12
          case h4x12 => intro w hSw; (try dsimp only at hSw); go_simp <;> with_reducible rfl
          try simp only [List.getElem_toArray, List.getElem_cons_zero, List.getElem_cons_succ, Act.put, List.setIfInBounds_toArray, List.set_cons_zero, List.set_cons_succ]
          refine wpAnyH_take (i := 13) (v := ?v4x13) rfl (by kernel_rfl) (by kernel_rfl) (by kernel_rfl) (fun _ _ _ h => h) (Or.inl ⟨by rfl, ?h4x13⟩) hHeld ?r4x13
          case h4x13 => intro w hSw; (try dsimp only at hSw); go_simp <;> with_reducible rfl
          try simp only [List.getElem_toArray, List.getElem_cons_zero, List.getElem_cons_succ, Act.put, List.setIfInBounds_toArray, List.set_cons_zero, List.set_cons_succ]
          refine wpAnyH_take (i := 14) (v := ?v4x14) rfl (by kernel_rfl) (by kernel_rfl) (by kernel_rfl) (fun _ _ _ h => h) (Or.inl ⟨by rfl, ?h4x14⟩) hHeld ?r4x14
          case h4x14 => intro w hSw; (try dsimp only at hSw); go_simp <;> with_reducible rfl
          try simp only [List.getElem_toArray, List.getElem_cons_zero, List.getElem_cons_succ, Act.put, List.setIfInBounds_toArray, List.set_cons_zero, List.set_cons_succ]
          refine wpAnyH_take (i := 15) (v := ?v4x15) rfl (by kernel_rfl) (by kernel_rfl) (by kernel_rfl) (fun _ _ _ h => h) (Or.inl ⟨by rfl, ?h4x15⟩) hHeld ?r4x15
          case h4x15 => intro w hSw; (try dsimp only at hSw); go_simp <;> with_reducible rfl
          try simp only [List.getElem_toArray, List.getElem_cons_zero, List.getElem_cons_succ, Act.put, List.setIfInBounds_toArray, List.set_cons_zero, List.set_cons_succ]
          refine wpAnyH_take (i := 16) (v := ?v4x16) rfl (by kernel_rfl) (by kernel_rfl) (by kernel_rfl) (fun _ _ _ h => h) (Or.inl ⟨by rfl, ?h4x16⟩) hHeld ?r4x16
          case h4x16 => intro w hSw; (try dsimp only at hSw); go_simp <;> with_reducible rfl
          try simp only [List.getElem_toArray, List.getElem_cons_zero, List.getElem_cons_succ, Act.put, List.setIfInBounds_toArray, List.set_cons_zero, List.set_cons_succ]
          refine wpAnyH_take (i := 17) (v := ?v4x17) rfl (by kernel_rfl) (by kernel_rfl) (by kernel_rfl) (fun _ _ _ h => h) (Or.inl ⟨by rfl, ?h4x17⟩) hHeld ?r4x17
          case h4x17 => intro w hSw; (try dsimp only at hSw); go_simp <;> with_reducible rfl
          try simp only [List.getElem_toArray, List.getElem_cons_zero, List.getElem_cons_succ, Act.put, List.setIfInBounds_toArray, List.set_cons_zero, List.set_cons_succ]
          refine wpAnyH_take (i := 18) (v := ?v4x18) rfl (by kernel_rfl) (by kernel_rfl) (by kernel_rfl) (fun _ _ _ h => h) (Or.inl ⟨by rfl, ?h4x18⟩) hHeld ?r4x18
          case h4x18 => intro w hSw; (try dsimp only at hSw); go_simp <;> with_reducible rfl
          try simp only [List.getElem_toArray, List.getElem_cons_zero, List.getElem_cons_succ, Act.put, List.setIfInBounds_toArray, List.set_cons_zero, List.set_cons_succ]
          refine wpAnyH_take (i := 19) (v := ?v4x19) rfl (by kernel_rfl) (by kernel_rfl) (by kernel_rfl) (fun _ _ _ h => h) (Or.inl ⟨by rfl, ?h4x19⟩) hHeld ?r4x19
          case h4x19 => intro w hSw; (try dsimp only at hSw); go_simp <;> with_reducible rfl
          try simp only [List.getElem_toArray, List.getElem_cons_zero, List.getElem_cons_succ, Act.put, List.setIfInBounds_toArray, List.set_cons_zero, List.set_cons_succ]
          refine wpAnyH_take (i := 20) (v := ?v4x20) rfl (by kernel_rfl) (by kernel_rfl) (by kernel_rfl) (fun _ _ _ h => h) (Or.inl ⟨by rfl, ?h4x20⟩) hHeld ?r4x20
          case h4x20 => intro w hSw; (try dsimp only at hSw); go_simp <;> with_reducible rfl
          try simp only [List.getElem_toArray, List.getElem_cons_zero, List.getElem_cons_succ, Act.put, List.setIfInBounds_toArray, List.set_cons_zero, List.set_cons_succ]
          refine wpAnyH_take (i := 21) (v := ?v4x21) rfl (by kernel_rfl) (by kernel_rfl) (by kernel_rfl) (fun _ _ _ h => h) (Or.inl ⟨by rfl, ?h4x21⟩) hHeld ?r4x21
          case h4x21 => intro w hSw; (try dsimp only at hSw); go_simp <;> with_reducible rfl
          try simp only [List.getElem_toArray, List.getElem_cons_zero, List.getElem_cons_succ, Act.put, List.setIfInBounds_toArray, List.set_cons_zero, List.set_cons_succ]
          refine wpAnyH_take (i := 22) (v := ?v4x22) rfl (by kernel_rfl) (by kernel_rfl) (by kernel_rfl) (fun _ _ _ h => h) (Or.inl ⟨by rfl, ?h4x22⟩) hHeld ?r4x22
          case h4x22 => intro w hSw; (try dsimp only at hSw); go_simp <;> with_reducible rfl
          try simp only [List.getElem_toArray, List.getElem_cons_zero, List.getElem_cons_succ, Act.put, List.setIfInBounds_toArray, List.set_cons_zero, List.set_cons_succ]
          refine wpAnyH_take (i := 25) (v := ?v4x25) rfl (by kernel_rfl) (by kernel_rfl) (by kernel_rfl) (fun _ _ _ h => h) (Or.inl ⟨by rfl, ?h4x25⟩) hHeld ?r4x25
          case h4x25 => intro w hSw; (try dsimp only at hSw); go_simp <;> with_reducible rfl
          try simp only [List.getElem_toArray, List.getElem_cons_zero, List.getElem_cons_succ, Act.put, List.setIfInBounds_toArray, List.set_cons_zero, List.set_cons_succ]
          refine wpAnyH_take (i := 26) (v := ?v4x26) rfl (by kernel_rfl) (by kernel_rfl) (by kernel_rfl) (fun _ _ _ h => h) (Or.inl ⟨by rfl, ?h4x26⟩) hHeld ?r4x26
          case h4x26 => intro w hSw; (try dsimp only at hSw); go_simp <;> with_reducible rfl
          try simp only [List.getElem_toArray, List.getElem_cons_zero, List.getElem_cons_succ, Act.put, List.setIfInBounds_toArray, List.set_cons_zero, List.set_cons_succ]
          refine wpAnyH_take (i := 27) (v := ?v4x27) rfl (by kernel_rfl) (by kernel_rfl) (by kernel_rfl) (fun _ _ _ h => h) (Or.inl ⟨by rfl, ?h4x27⟩) hHeld ?r4x27
          case h4x27 => intro w hSw; (try dsimp only at hSw); go_simp <;> with_reducible rfl
          try simp only [List.getElem_toArray, List.getElem_cons_zero, List.getElem_cons_succ, Act.put, List.setIfInBounds_toArray, List.set_cons_zero, List.set_cons_succ]
          refine wpAnyH_take (i := 28) (v := ?v4x28) rfl (by kernel_rfl) (by kernel_rfl) (by kernel_rfl) (fun _ _ _ h => h) (Or.inl ⟨by rfl, ?h4x28⟩) hHeld ?r4x28
          case h4x28 => intro w hSw; (try dsimp only at hSw); go_simp <;> with_reducible rfl
          try simp only [List.getElem_toArray, List.getElem_cons_zero, List.getElem_cons_succ, Act.put, List.setIfInBounds_toArray, List.set_cons_zero, List.set_cons_succ]
          refine wpAnyH_take (i := 29) (v := ?v4x29) rfl (by kernel_rfl) (by kernel_rfl) (by kernel_rfl) (fun _ _ _ h => h) (Or.inl ⟨by rfl, ?h4x29⟩) hHeld ?r4x29
          case h4x29 => intro w hSw; (try dsimp only at hSw); go_simp <;> with_reducible rfl
          try simp only [List.getElem_toArray, List.getElem_cons_zero, List.getElem_cons_succ, Act.put, List.setIfInBounds_toArray, List.set_cons_zero, List.set_cons_succ]
          refine wpAnyH_ready (rs := [23]) (by kernel_rfl) (by simp) ?_
          refine AllReadyH.cons rfl (fun K hK => ?_) AllReadyH.nil
          rw [if_pos (by rfl)]
          go_simp
          refine (unhide (HU _)).mono ?_
          rintro e w9 ⟨vv3, rfl, oo3, bb3⟩
          have hcw1 := (unhide HC) _ _ _ oo3.sl
          have hcw2 := (unhide HCV) w9 ((Below.refl _ _).drew.trans bb3)
          rw [unhide HSX] at hcw1
          clear oo3
          refine hK.out _ _ hcw2 (fun hHeld => ?_)
          clear hK K
          refine wpAnyH_ready (rs := [24]) (by kernel_rfl) (by simp) ?_
          refine AllReadyH.cons rfl (fun K hK => ?_) AllReadyH.nil
          rw [if_pos (by rfl)]
          go_simp
          refine hK.out _ _ hcw2 (fun hHeld => ?_)
          clear hK K
          refine wpAnyH_take (i := 30) (v := ?v4x30) rfl (by kernel_rfl) (by kernel_rfl) (by kernel_rfl) (fun _ _ _ h => h) (Or.inl ⟨by rfl, ?h4x30⟩) hHeld ?r4x30
          case h4x30 => intro w hSw; (try dsimp only at hSw); go_simp <;> with_reducible rfl
          try simp only [List.getElem_toArray, List.getElem_cons_zero, List.getElem_cons_succ, Act.put, List.setIfInBounds_toArray, List.set_cons_zero, List.set_cons_succ]
          refine wpAnyH_take (i := 31) (v := ?v4x31) rfl (by kernel_rfl) (by kernel_rfl) (by kernel_rfl) (fun _ _ _ h => h) (Or.inl ⟨by rfl, ?h4x31⟩) hHeld ?r4x31
          case h4x31 => intro w hSw; (try dsimp only at hSw); go_simp <;> with_reducible rfl
          try simp only [List.getElem_toArray, List.getElem_cons_zero, List.getElem_cons_succ, Act.put, List.setIfInBounds_toArray, List.set_cons_zero, List.set_cons_succ]
          refine wpAnyH_take (i := 32) (v := ?v4x32) rfl (by kernel_rfl) (by kernel_rfl) (by kernel_rfl) (fun _ _ _ h => h) (Or.inl ⟨by rfl, ?h4x32⟩) hHeld ?r4x32
          case h4x32 => intro w hSw; (try dsimp only at hSw); go_simp <;> with_reducible rfl
          try simp only [List.getElem_toArray, List.getElem_cons_zero, List.getElem_cons_succ, Act.put, List.setIfInBounds_toArray, List.set_cons_zero, List.set_cons_succ]
          refine wpAnyH_take (i := 33) (v := ?v4x33) rfl (by kernel_rfl) (by kernel_rfl) (by kernel_rfl) (fun _ _ _ h => h) (Or.inl ⟨by rfl, ?h4x33⟩) hHeld ?r4x33
          case h4x33 => intro w hSw; (try dsimp only at hSw); go_simp <;> with_reducible rfl
          try simp only [List.getElem_toArray, List.getElem_cons_zero, List.getElem_cons_succ, Act.put, List.setIfInBounds_toArray, List.set_cons_zero, List.set_cons_succ]
          refine wpAnyH_take (i := 34) (v := ?v4x34) rfl (by kernel_rfl) (by kernel_rfl) (by kernel_rfl) (fun _ _ _ h => h) (Or.inl ⟨by rfl, ?h4x34⟩) hHeld ?r4x34
          case h4x34 => intro w hSw; (try dsimp only at hSw); go_simp <;> with_reducible rfl
          try simp only [List.getElem_toArray, List.getElem_cons_zero, List.getElem_cons_succ, Act.put, List.setIfInBounds_toArray, List.set_cons_zero, List.set_cons_succ]
          refine wpAnyH_done (by kernel_rfl) ?_ _
          refine NoPanic.normal ?_
          have bF : Below w.heap.size w w9 := b3.trans (((Below.refl w3.heap.size w3).drew.trans bb3).mono b3.size)
          clear HSX HCV hcv0 hcw1 hcw2 bb3 k3 k4 k5 k6 k7 s3 b3
          go_wp2
          go_ret
          exact ⟨rfl, bF⟩
      · have h3' : (q3.2.2 != 0) = true := by simp [h3]
        clear h3 hok3 H3
        go_wp2
        go_quiet (fail)
        go_wp2
        go_ret
        exact ⟨rfl, below_drewN b3 nq⟩
    · have h2' : (q2.2.2 == 0) = false := beq_eq_false_iff_ne.2 h2
      clear h2 hok2 hby2 hln2
      clear H2
      go_wp2
      go_quiet (fail)
      have b3 : Below w.heap.size w (w2.drewN nq) := below_drewN b2 nq
      have s3 := hs.below b3
      clear s2 b2
      generalize w2.drewN nq = w3 at *
      have H3 := hide (readFloat_any _ zs at_ w3 s3)
      have hok3 := rf_forth zs at_ s3.1
      generalize Ref.rf zs at_ = q3 at *
      go_wp2_with fail
      refine (unhide H3).mono ?_
      rintro e w3 ⟨rfl, rfl⟩
      by_cases h3 : q3.2.2 = 0
      · have h3' : (q3.2.2 != 0) = false := by simp [h3]
        obtain ⟨a1, a2, a3, hL⟩ := hok3 h3
        clear h3 hok3 H3
        have a4 : at_ < q3.2.1 := by omega
        have a5 : (q3.2.1 == at_ + 8) = true := beq_iff_eq.2 a2
        have k8 : at_ ≤ 140737488355328 := by omega
        have e1 : decide (0 ≤ at_) = true := by simp; omega
        have e2 : decide (q3.2.1 ≤ (zs.length : Int)) = true := by simp; omega
        have HU := fun w => hide (float_any q3.1.toNat w)
        clear a2
        cases hn : (FloatKind.f64.format.order q3.1.toNat q3.1.toNat != some .eq) with
        | true =>
          clear hL HU
          go_wp2
          go_quiet (fail)
          go_wp2
          go_ret
          exact ⟨rfl, below_drewN b3 nq⟩
        | false =>
          have hcut := s3.cut (l := at_.toNat) (h := q3.2.1.toNat) (m := cap) (by omega) (by omega) (by omega) (by omega)
          rw [show q3.2.1.toNat - at_.toNat = (q3.2.1 - at_).toNat by omega, ← hL] at hcut
          have hcp : ¬ cap = at_.toNat := by omega
          simp only [sliced, hcp, if_false, Nat.mul_one] at hcut
          rw [show (q3.2.1 - at_).toNat = q3.2.1.toNat - at_.toNat by omega] at hL
          clear hL
          obtain ⟨sx, hsx⟩ : ∃ sx, strOfNums (Ref.fl q3.1.toNat) = sx := ⟨_, rfl⟩
          have HSX := hide hsx
          have HCV := hide (fun wx (hb : Below w3.heap.size w3 wx) => ((unhide HC) _ _ _ (hcut.below hb)).trans (by rw [hsx]))
          have hcv0 := (unhide HCV) _ (Below.refl _ _).drew
          have k3 : 0 ≤ at_ := by omega
          have k4 : 0 ≤ q3.2.1 := by omega
          have k5 : q3.2.1 ≤ (cap : Int) := by omega
          have k6 : max q3.2.1 0 = q3.2.1 := by omega
          have k7 : at_ ≤ q3.2.1 := by omega
          clear hcut hsx
          generalize Ref.fl q3.1.toNat = un at *
          clear a1 a3 a4
          go_wp2
          refine wp_region_noPanic ?_
          refine wp_region_held_drew (S := (fun w' => cv (Value.slice (Option.map (fun x => x.add at_.toNat) ao) (q3.2.1.toNat - at_.toNat) (cap - at_.toNat)) w' = Result.ok (Value.string sx) w')) (by kernel_rfl) hcv0 (fun hHeld => ?_)
          refine wpAnyH_take (i := 0) (v := ?v2x0) rfl (by kernel_rfl) (by kernel_rfl) (by kernel_rfl) (fun _ _ _ h => h) (Or.inl ⟨by rfl, ?h2x0⟩) hHeld ?r2x0
          case h2x0 => intro w hSw; (try dsimp only at hSw); go_simp <;> with_reducible rfl
          try simp only [List.getElem_toArray, List.getElem_cons_zero, Act.put, List.setIfInBounds_toArray, List.set_cons_zero, List.set_cons_succ]
          refine wpAnyH_take (i := 1) (v := ?v2x1) rfl (by kernel_rfl) (by kernel_rfl) (by kernel_rfl) (fun _ _ _ h => h) (Or.inl ⟨by rfl, ?h2x1⟩) hHeld ?r2x1
          case h2x1 => intro w hSw; (try dsimp only at hSw); go_simp <;> with_reducible rfl
          try simp only [List.getElem_toArray, List.getElem_cons_zero, List.getElem_cons_succ, Act.put, List.setIfInBounds_toArray, List.set_cons_zero, List.set_cons_succ]
          refine wpAnyH_take (i := 2) (v := ?v2x2) rfl (by kernel_rfl) (by kernel_rfl) (by kernel_rfl) (fun _ _ _ h => h) (Or.inl ⟨by rfl, ?h2x2⟩) hHeld ?r2x2
          case h2x2 => intro w hSw; (try dsimp only at hSw); go_simp <;> with_reducible rfl
          try simp only [List.getElem_toArray, List.getElem_cons_zero, List.getElem_cons_succ, Act.put, List.setIfInBounds_toArray, List.set_cons_zero, List.set_cons_succ]
          refine wpAnyH_take (i := 3) (v := ?v2x3) rfl (by kernel_rfl) (by kernel_rfl) (by kernel_rfl) (fun _ _ _ h => h) (Or.inl ⟨by rfl, ?h2x3⟩) hHeld ?r2x3
          case h2x3 => intro w hSw; (try dsimp only at hSw); go_simp <;> with_reducible rfl
          try simp only [List.getElem_toArray, List.getElem_cons_zero, List.getElem_cons_succ, Act.put, List.setIfInBounds_toArray, List.set_cons_zero, List.set_cons_succ]
          refine wpAnyH_take (i := 4) (v := ?v2x4) rfl (by kernel_rfl) (by kernel_rfl) (by kernel_rfl) (fun _ _ _ h => h) (Or.inl ⟨by rfl, ?h2x4⟩) hHeld ?r2x4
          case h2x4 => intro w hSw; (try dsimp only at hSw); go_simp <;> with_reducible rfl
          try simp only [List.getElem_toArray, List.getElem_cons_zero, List.getElem_cons_succ, Act.put, List.setIfInBounds_toArray, List.set_cons_zero, List.set_cons_succ]
          refine wpAnyH_take (i := 5) (v := ?v2x5) rfl (by kernel_rfl) (by kernel_rfl) (by kernel_rfl) (fun _ _ _ h => h) (Or.inl ⟨by rfl, ?h2x5⟩) hHeld ?r2x5
          case h2x5 => intro w hSw; (try dsimp only at hSw); go_simp <;> with_reducible rfl
          try simp only [List.getElem_toArray, List.getElem_cons_zero, List.getElem_cons_succ, Act.put, List.setIfInBounds_toArray, List.set_cons_zero, List.set_cons_succ]
          refine wpAnyH_take (i := 6) (v := ?v2x6) rfl (by kernel_rfl) (by kernel_rfl) (by kernel_rfl) (fun _ _ _ h => h) (Or.inl ⟨by rfl, ?h2x6⟩) hHeld ?r2x6
          case h2x6 => intro w hSw; (try dsimp only at hSw); go_simp <;> with_reducible rfl
          try simp only [List.getElem_toArray, List.getElem_cons_zero, List.getElem_cons_succ, Act.put, List.setIfInBounds_toArray, List.set_cons_zero, List.set_cons_succ]
          refine wpAnyH_take (i := 7) (v := ?v2x7) rfl (by kernel_rfl) (by kernel_rfl) (by kernel_rfl) (fun _ _ _ h => h) (Or.inl ⟨by rfl, ?h2x7⟩) hHeld ?r2x7
          case h2x7 => intro w hSw; (try dsimp only at hSw); go_simp <;> with_reducible rfl
          try simp only [List.getElem_toArray, List.getElem_cons_zero, List.getElem_cons_succ, Act.put, List.setIfInBounds_toArray, List.set_cons_zero, List.set_cons_succ]
          refine wpAnyH_take (i := 8) (v := ?v2x8) rfl (by kernel_rfl) (by kernel_rfl) (by kernel_rfl) (fun _ _ _ h => h) (Or.inl ⟨by rfl, ?h2x8⟩) hHeld ?r2x8
          case h2x8 =>
            intro w hSw
            have e6 : wrap64 (at_ + 8) = at_ + 8 := IntWalk.wrap64_in _ ⟨by omega, by omega⟩
            have e7 : IntKind.i64.wrap (at_ + 8) = at_ + 8 := by rw [IntKind.wrap_i64]; omega
            go_simp <;> with_reducible rfl
          try simp only [List.getElem_toArray, List.getElem_cons_zero, List.getElem_cons_succ, Act.put, List.setIfInBounds_toArray, List.set_cons_zero, List.set_cons_succ]
          refine wpAnyH_take (i := 9) (v := ?v2x9) rfl (by kernel_rfl) (by kernel_rfl) (by kernel_rfl) (fun _ _ _ h => h) (Or.inl ⟨by rfl, ?h2x9⟩) hHeld ?r2x9
          case h2x9 => intro w hSw; (try dsimp only at hSw); go_simp <;> with_reducible rfl
          try simp only [List.getElem_toArray, List.getElem_cons_zero, List.getElem_cons_succ, Act.put, List.setIfInBounds_toArray, List.set_cons_zero, List.set_cons_succ]
          refine wpAnyH_take (i := 10) (v := ?v2x10) rfl (by kernel_rfl) (by kernel_rfl) (by kernel_rfl) (fun _ _ _ h => h) (Or.inl ⟨by rfl, ?h2x10⟩) hHeld ?r2x10
          case h2x10 => intro w hSw; (try dsimp only at hSw); go_simp <;> with_reducible rfl
          try simp only [List.getElem_toArray, List.getElem_cons_zero, List.getElem_cons_succ, Act.put, List.setIfInBounds_toArray, List.set_cons_zero, List.set_cons_succ]
          refine wpAnyH_take (i := 11) (v := ?v2x11) rfl (by kernel_rfl) (by kernel_rfl) (by kernel_rfl) (fun _ _ _ h => h) (Or.inl ⟨by rfl, ?h2x11⟩) hHeld ?r2x11
          case h2x11 => intro w hSw; (try dsimp only at hSw); go_simp <;> with_reducible rfl
          try simp only [List.getElem_toArray, List.getElem_cons_zero, List.getElem_cons_succ, Act.put, List.setIfInBounds_toArray, List.set_cons_zero, List.set_cons_succ]
          refine wpAnyH_take (i := 12) (v := ?v2x12) rfl (by kernel_rfl) (by kernel_rfl) (by kernel_rfl) (fun _ _ _ h => h) (Or.inl ⟨by rfl, ?h2x12⟩) hHeld ?r2x12
          case h2x12 => intro w hSw; (try dsimp only at hSw); go_simp <;> with_reducible rfl
          try simp only [List.getElem_toArray, List.getElem_cons_zero, List.getElem_cons_succ, Act.put, List.setIfInBounds_toArray, List.set_cons_zero, List.set_cons_succ]
          refine wpAnyH_take (i := 13) (v := ?v2x13) rfl (by kernel_rfl) (by kernel_rfl) (by kernel_rfl) (fun _ _ _ h => h) (Or.inl ⟨by rfl, ?h2x13⟩) hHeld ?r2x13
          case h2x13 => intro w hSw; (try dsimp only at hSw); go_simp <;> with_reducible rfl
          try simp only [List.getElem_toArray, List.getElem_cons_zero, List.getElem_cons_succ, Act.put, List.setIfInBounds_toArray, List.set_cons_zero, List.set_cons_succ]
          refine wpAnyH_take (i := 14) (v := ?v2x14) rfl (by kernel_rfl) (by kernel_rfl) (by kernel_rfl) (fun _ _ _ h => h) (Or.inl ⟨by rfl, ?h2x14⟩) hHeld ?r2x14
          case h2x14 => intro w hSw; (try dsimp only at hSw); go_simp <;> with_reducible rfl
          try simp only [List.getElem_toArray, List.getElem_cons_zero, List.getElem_cons_succ, Act.put, List.setIfInBounds_toArray, List.set_cons_zero, List.set_cons_succ]
          refine wpAnyH_take (i := 15) (v := ?v2x15) rfl (by kernel_rfl) (by kernel_rfl) (by kernel_rfl) (fun _ _ _ h => h) (Or.inl ⟨by rfl, ?h2x15⟩) hHeld ?r2x15
          case h2x15 => intro w hSw; (try dsimp only at hSw); go_simp <;> with_reducible rfl
          try simp only [List.getElem_toArray, List.getElem_cons_zero, List.getElem_cons_succ, Act.put, List.setIfInBounds_toArray, List.set_cons_zero, List.set_cons_succ]
          refine wpAnyH_take (i := 16) (v := ?v2x16) rfl (by kernel_rfl) (by kernel_rfl) (by kernel_rfl) (fun _ _ _ h => h) (Or.inl ⟨by rfl, ?h2x16⟩) hHeld ?r2x16
          case h2x16 => intro w hSw; (try dsimp only at hSw); go_simp <;> with_reducible rfl
          try simp only [List.getElem_toArray, List.getElem_cons_zero, List.getElem_cons_succ, Act.put, List.setIfInBounds_toArray, List.set_cons_zero, List.set_cons_succ]
          refine wpAnyH_take (i := 17) (v := ?v2x17) rfl (by kernel_rfl) (by kernel_rfl) (by kernel_rfl) (fun _ _ _ h => h) (Or.inl ⟨by rfl, ?h2x17⟩) hHeld ?r2x17
          case h2x17 => intro w hSw; (try dsimp only at hSw); go_simp <;> with_reducible rfl
          try simp only [List.getElem_toArray, List.getElem_cons_zero, List.getElem_cons_succ, Act.put, List.setIfInBounds_toArray, List.set_cons_zero, List.set_cons_succ]
          refine wpAnyH_take (i := 18) (v := ?v2x18) rfl (by kernel_rfl) (by kernel_rfl) (by kernel_rfl) (fun _ _ _ h => h) (Or.inl ⟨by rfl, ?h2x18⟩) hHeld ?r2x18
          case h2x18 => intro w hSw; (try dsimp only at hSw); go_simp <;> with_reducible rfl
          try simp only [List.getElem_toArray, List.getElem_cons_zero, List.getElem_cons_succ, Act.put, List.setIfInBounds_toArray, List.set_cons_zero, List.set_cons_succ]
          refine wpAnyH_take (i := 19) (v := ?v2x19) rfl (by kernel_rfl) (by kernel_rfl) (by kernel_rfl) (fun _ _ _ h => h) (Or.inl ⟨by rfl, ?h2x19⟩) hHeld ?r2x19
          case h2x19 => intro w hSw; (try dsimp only at hSw); go_simp <;> with_reducible rfl
          try simp only [List.getElem_toArray, List.getElem_cons_zero, List.getElem_cons_succ, Act.put, List.setIfInBounds_toArray, List.set_cons_zero, List.set_cons_succ]
          refine wpAnyH_take (i := 20) (v := ?v2x20) rfl (by kernel_rfl) (by kernel_rfl) (by kernel_rfl) (fun _ _ _ h => h) (Or.inl ⟨by rfl, ?h2x20⟩) hHeld ?r2x20
          case h2x20 => intro w hSw; (try dsimp only at hSw); go_simp <;> with_reducible rfl
          try simp only [List.getElem_toArray, List.getElem_cons_zero, List.getElem_cons_succ, Act.put, List.setIfInBounds_toArray, List.set_cons_zero, List.set_cons_succ]
          refine wpAnyH_take (i := 21) (v := ?v2x21) rfl (by kernel_rfl) (by kernel_rfl) (by kernel_rfl) (fun _ _ _ h => h) (Or.inl ⟨by rfl, ?h2x21⟩) hHeld ?r2x21
          case h2x21 => intro w hSw; (try dsimp only at hSw); go_simp <;> with_reducible rfl
          try simp only [List.getElem_toArray, List.getElem_cons_zero, List.getElem_cons_succ, Act.put, List.setIfInBounds_toArray, List.set_cons_zero, List.set_cons_succ]
          refine wpAnyH_take (i := 22) (v := ?v2x22) rfl (by kernel_rfl) (by kernel_rfl) (by kernel_rfl) (fun _ _ _ h => h) (Or.inl ⟨by rfl, ?h2x22⟩) hHeld ?r2x22
          case h2x22 => intro w hSw; (try dsimp only at hSw); go_simp <;> with_reducible rfl
          try simp only [List.getElem_toArray, List.getElem_cons_zero, List.getElem_cons_succ, Act.put, List.setIfInBounds_toArray, List.set_cons_zero, List.set_cons_succ]
          refine wpAnyH_take (i := 25) (v := ?v2x25) rfl (by kernel_rfl) (by kernel_rfl) (by kernel_rfl) (fun _ _ _ h => h) (Or.inl ⟨by rfl, ?h2x25⟩) hHeld ?r2x25
          case h2x25 => intro w hSw; (try dsimp only at hSw); go_simp <;> with_reducible rfl
          try simp only [List.getElem_toArray, List.getElem_cons_zero, List.getElem_cons_succ, Act.put, List.setIfInBounds_toArray, List.set_cons_zero, List.set_cons_succ]
          refine wpAnyH_take (i := 26) (v := ?v2x26) rfl (by kernel_rfl) (by kernel_rfl) (by kernel_rfl) (fun _ _ _ h => h) (Or.inl ⟨by rfl, ?h2x26⟩) hHeld ?r2x26
          case h2x26 => intro w hSw; (try dsimp only at hSw); go_simp <;> with_reducible rfl
          try simp only [List.getElem_toArray, List.getElem_cons_zero, List.getElem_cons_succ, Act.put, List.setIfInBounds_toArray, List.set_cons_zero, List.set_cons_succ]
          refine wpAnyH_take (i := 27) (v := ?v2x27) rfl (by kernel_rfl) (by kernel_rfl) (by kernel_rfl) (fun _ _ _ h => h) (Or.inl ⟨by rfl, ?h2x27⟩) hHeld ?r2x27
          case h2x27 => intro w hSw; (try dsimp only at hSw); go_simp <;> with_reducible rfl
          try simp only [List.getElem_toArray, List.getElem_cons_zero, List.getElem_cons_succ, Act.put, List.setIfInBounds_toArray, List.set_cons_zero, List.set_cons_succ]
          refine wpAnyH_take (i := 28) (v := ?v2x28) rfl (by kernel_rfl) (by kernel_rfl) (by kernel_rfl) (fun _ _ _ h => h) (Or.inl ⟨by rfl, ?h2x28⟩) hHeld ?r2x28
          case h2x28 => intro w hSw; (try dsimp only at hSw); go_simp <;> with_reducible rfl
          try simp only [List.getElem_toArray, List.getElem_cons_zero, List.getElem_cons_succ, Act.put, List.setIfInBounds_toArray, List.set_cons_zero, List.set_cons_succ]
          refine wpAnyH_take (i := 29) (v := ?v2x29) rfl (by kernel_rfl) (by kernel_rfl) (by kernel_rfl) (fun _ _ _ h => h) (Or.inl ⟨by rfl, ?h2x29⟩) hHeld ?r2x29
          case h2x29 => intro w hSw; (try dsimp only at hSw); go_simp <;> with_reducible rfl
          try simp only [List.getElem_toArray, List.getElem_cons_zero, List.getElem_cons_succ, Act.put, List.setIfInBounds_toArray, List.set_cons_zero, List.set_cons_succ]
          refine wpAnyH_ready (rs := [23]) (by kernel_rfl) (by simp) ?_
          refine AllReadyH.cons rfl (fun K hK => ?_) AllReadyH.nil
          rw [if_pos (by rfl)]
          go_simp
          refine (unhide (HU _)).mono ?_
          rintro e w9 ⟨vv3, rfl, oo3, bb3⟩
          have hcw1 := (unhide HC) _ _ _ oo3.sl
          have hcw2 := (unhide HCV) w9 ((Below.refl _ _).drew.trans bb3)
          rw [unhide HSX] at hcw1
          clear oo3
          refine hK.out _ _ hcw2 (fun hHeld => ?_)
          clear hK K
          refine wpAnyH_ready (rs := [24]) (by kernel_rfl) (by simp) ?_
          refine AllReadyH.cons rfl (fun K hK => ?_) AllReadyH.nil
          rw [if_pos (by rfl)]
          go_simp
          refine hK.out _ _ hcw2 (fun hHeld => ?_)
          clear hK K
          refine wpAnyH_take (i := 30) (v := ?v2x30) rfl (by kernel_rfl) (by kernel_rfl) (by kernel_rfl) (fun _ _ _ h => h) (Or.inl ⟨by rfl, ?h2x30⟩) hHeld ?r2x30
          case h2x30 => intro w hSw; (try dsimp only at hSw); go_simp <;> with_reducible rfl
          try simp only [List.getElem_toArray, List.getElem_cons_zero, List.getElem_cons_succ, Act.put, List.setIfInBounds_toArray, List.set_cons_zero, List.set_cons_succ]
          refine wpAnyH_take (i := 31) (v := ?v2x31) rfl (by kernel_rfl) (by kernel_rfl) (by kernel_rfl) (fun _ _ _ h => h) (Or.inl ⟨by rfl, ?h2x31⟩) hHeld ?r2x31
          case h2x31 => intro w hSw; (try dsimp only at hSw); go_simp <;> with_reducible rfl
          try simp only [List.getElem_toArray, List.getElem_cons_zero, List.getElem_cons_succ, Act.put, List.setIfInBounds_toArray, List.set_cons_zero, List.set_cons_succ]
          refine wpAnyH_take (i := 32) (v := ?v2x32) rfl (by kernel_rfl) (by kernel_rfl) (by kernel_rfl) (fun _ _ _ h => h) (Or.inl ⟨by rfl, ?h2x32⟩) hHeld ?r2x32
          case h2x32 => intro w hSw; (try dsimp only at hSw); go_simp <;> with_reducible rfl
          try simp only [List.getElem_toArray, List.getElem_cons_zero, List.getElem_cons_succ, Act.put, List.setIfInBounds_toArray, List.set_cons_zero, List.set_cons_succ]
          refine wpAnyH_take (i := 33) (v := ?v2x33) rfl (by kernel_rfl) (by kernel_rfl) (by kernel_rfl) (fun _ _ _ h => h) (Or.inl ⟨by rfl, ?h2x33⟩) hHeld ?r2x33
          case h2x33 => intro w hSw; (try dsimp only at hSw); go_simp <;> with_reducible rfl
          try simp only [List.getElem_toArray, List.getElem_cons_zero, List.getElem_cons_succ, Act.put, List.setIfInBounds_toArray, List.set_cons_zero, List.set_cons_succ]
          refine wpAnyH_take (i := 34) (v := ?v2x34) rfl (by kernel_rfl) (by kernel_rfl) (by kernel_rfl) (fun _ _ _ h => h) (Or.inl ⟨by rfl, ?h2x34⟩) hHeld ?r2x34
          case h2x34 => intro w hSw; (try dsimp only at hSw); go_simp <;> with_reducible rfl
          try simp only [List.getElem_toArray, List.getElem_cons_zero, List.getElem_cons_succ, Act.put, List.setIfInBounds_toArray, List.set_cons_zero, List.set_cons_succ]
          refine wpAnyH_done (by kernel_rfl) ?_ _
          refine NoPanic.normal ?_
          have bF : Below w.heap.size w w9 := b3.trans (((Below.refl w3.heap.size w3).drew.trans bb3).mono b3.size)
          clear HSX HCV hcv0 hcw1 hcw2 bb3 k3 k4 k5 k6 k7 s3 b3
          go_wp2
          go_ret
          exact ⟨rfl, bF⟩
      · have h3' : (q3.2.2 != 0) = true := by simp [h3]
        clear h3 hok3 H3
        go_wp2
        go_quiet (fail)
        go_wp2
        go_ret
        exact ⟨rfl, below_drewN b3 nq⟩
  · have h1' : ((Ref.rd zs at_).2.2 == 0) = false := beq_eq_false_iff_ne.2 h1
    have HNO := hide h1
    clear h1 H1
    go_wp2
    go_quiet (fail)
    have b2 : Below w.heap.size w (w1.drewN nq) := below_drewN b1 nq
    have s2 := hs.below b2
    clear s1 b1
    generalize w1.drewN nq = w2 at *
    have H2 := hide (readText_any _ zs at_ most w2 s2)
    have hno2 := rt_no zs at_ most (unhide HNO)
    clear HNO
    generalize Ref.rt zs at_ most = q2 at *
    go_wp2_with fail
    refine (unhide H2).mono ?_
    rintro e w2 ⟨rfl, rfl⟩
    have h2' : (q2.2.2 == 0) = false := beq_eq_false_iff_ne.2 hno2
    clear hno2
    clear H2
    go_wp2
    go_quiet (fail)
    have b3 : Below w.heap.size w (w2.drewN nq) := below_drewN b2 nq
    have s3 := hs.below b3
    clear s2 b2
    generalize w2.drewN nq = w3 at *
    have H3 := hide (readFloat_any _ zs at_ w3 s3)
    have hok3 := rf_forth zs at_ s3.1
    generalize Ref.rf zs at_ = q3 at *
    go_wp2_with fail
    refine (unhide H3).mono ?_
    rintro e w3 ⟨rfl, rfl⟩
    by_cases h3 : q3.2.2 = 0
    · have h3' : (q3.2.2 != 0) = false := by simp [h3]
      obtain ⟨a1, a2, a3, hL⟩ := hok3 h3
      clear h3 hok3 H3
      have a4 : at_ < q3.2.1 := by omega
      have a5 : (q3.2.1 == at_ + 8) = true := beq_iff_eq.2 a2
      have k8 : at_ ≤ 140737488355328 := by omega
      have e1 : decide (0 ≤ at_) = true := by simp; omega
      have e2 : decide (q3.2.1 ≤ (zs.length : Int)) = true := by simp; omega
      have HU := fun w => hide (float_any q3.1.toNat w)
      clear a2
      cases hn : (FloatKind.f64.format.order q3.1.toNat q3.1.toNat != some .eq) with
      | true =>
        clear hL HU
        go_wp2
        go_quiet (fail)
        go_wp2
        go_ret
        exact ⟨rfl, below_drewN b3 nq⟩
      | false =>
        have hcut := s3.cut (l := at_.toNat) (h := q3.2.1.toNat) (m := cap) (by omega) (by omega) (by omega) (by omega)
        rw [show q3.2.1.toNat - at_.toNat = (q3.2.1 - at_).toNat by omega, ← hL] at hcut
        have hcp : ¬ cap = at_.toNat := by omega
        simp only [sliced, hcp, if_false, Nat.mul_one] at hcut
        rw [show (q3.2.1 - at_).toNat = q3.2.1.toNat - at_.toNat by omega] at hL
        clear hL
        obtain ⟨sx, hsx⟩ : ∃ sx, strOfNums (Ref.fl q3.1.toNat) = sx := ⟨_, rfl⟩
        have HSX := hide hsx
        have HCV := hide (fun wx (hb : Below w3.heap.size w3 wx) => ((unhide HC) _ _ _ (hcut.below hb)).trans (by rw [hsx]))
        have hcv0 := (unhide HCV) _ (Below.refl _ _).drew
        have k3 : 0 ≤ at_ := by omega
        have k4 : 0 ≤ q3.2.1 := by omega
        have k5 : q3.2.1 ≤ (cap : Int) := by omega
        have k6 : max q3.2.1 0 = q3.2.1 := by omega
        have k7 : at_ ≤ q3.2.1 := by omega
        clear hcut hsx
        generalize Ref.fl q3.1.toNat = un at *
        clear a1 a3 a4
        go_wp2
        refine wp_region_noPanic ?_
        refine wp_region_held_drew (S := (fun w' => cv (Value.slice (Option.map (fun x => x.add at_.toNat) ao) (q3.2.1.toNat - at_.toNat) (cap - at_.toNat)) w' = Result.ok (Value.string sx) w')) (by kernel_rfl) hcv0 (fun hHeld => ?_)
        refine wpAnyH_take (i := 0) (v := ?v5x0) rfl (by kernel_rfl) (by kernel_rfl) (by kernel_rfl) (fun _ _ _ h => h) (Or.inl ⟨by rfl, ?h5x0⟩) hHeld ?r5x0
        case h5x0 => intro w hSw; (try dsimp only at hSw); go_simp <;> with_reducible rfl
        try simp only [List.getElem_toArray, List.getElem_cons_zero, Act.put, List.setIfInBounds_toArray, List.set_cons_zero, List.set_cons_succ]
        refine wpAnyH_take (i := 1) (v := ?v5x1) rfl (by kernel_rfl) (by kernel_rfl) (by kernel_rfl) (fun _ _ _ h => h) (Or.inl ⟨by rfl, ?h5x1⟩) hHeld ?r5x1
        case h5x1 => intro w hSw; (try dsimp only at hSw); go_simp <;> with_reducible rfl
        try simp only [List.getElem_toArray, List.getElem_cons_zero, List.getElem_cons_succ, Act.put, List.setIfInBounds_toArray, List.set_cons_zero, List.set_cons_succ]
        refine wpAnyH_take (i := 2) (v := ?v5x2) rfl (by kernel_rfl) (by kernel_rfl) (by kernel_rfl) (fun _ _ _ h => h) (Or.inl ⟨by rfl, ?h5x2⟩) hHeld ?r5x2
        case h5x2 => intro w hSw; (try dsimp only at hSw); go_simp <;> with_reducible rfl
        try simp only [List.getElem_toArray, List.getElem_cons_zero, List.getElem_cons_succ, Act.put, List.setIfInBounds_toArray, List.set_cons_zero, List.set_cons_succ]
        refine wpAnyH_take (i := 3) (v := ?v5x3) rfl (by kernel_rfl) (by kernel_rfl) (by kernel_rfl) (fun _ _ _ h => h) (Or.inl ⟨by rfl, ?h5x3⟩) hHeld ?r5x3
        case h5x3 => intro w hSw; (try dsimp only at hSw); go_simp <;> with_reducible rfl
        try simp only [List.getElem_toArray, List.getElem_cons_zero, List.getElem_cons_succ, Act.put, List.setIfInBounds_toArray, List.set_cons_zero, List.set_cons_succ]
        refine wpAnyH_take (i := 4) (v := ?v5x4) rfl (by kernel_rfl) (by kernel_rfl) (by kernel_rfl) (fun _ _ _ h => h) (Or.inl ⟨by rfl, ?h5x4⟩) hHeld ?r5x4
        case h5x4 => intro w hSw; (try dsimp only at hSw); go_simp <;> with_reducible rfl
        try simp only [List.getElem_toArray, List.getElem_cons_zero, List.getElem_cons_succ, Act.put, List.setIfInBounds_toArray, List.set_cons_zero, List.set_cons_succ]
        refine wpAnyH_take (i := 5) (v := ?v5x5) rfl (by kernel_rfl) (by kernel_rfl) (by kernel_rfl) (fun _ _ _ h => h) (Or.inl ⟨by rfl, ?h5x5⟩) hHeld ?r5x5
        case h5x5 => intro w hSw; (try dsimp only at hSw); go_simp <;> with_reducible rfl
        try simp only [List.getElem_toArray, List.getElem_cons_zero, List.getElem_cons_succ, Act.put, List.setIfInBounds_toArray, List.set_cons_zero, List.set_cons_succ]
        refine wpAnyH_take (i := 6) (v := ?v5x6) rfl (by kernel_rfl) (by kernel_rfl) (by kernel_rfl) (fun _ _ _ h => h) (Or.inl ⟨by rfl, ?h5x6⟩) hHeld ?r5x6
        case h5x6 => intro w hSw; (try dsimp only at hSw); go_simp <;> with_reducible rfl
        try simp only [List.getElem_toArray, List.getElem_cons_zero, List.getElem_cons_succ, Act.put, List.setIfInBounds_toArray, List.set_cons_zero, List.set_cons_succ]
        refine wpAnyH_take (i := 7) (v := ?v5x7) rfl (by kernel_rfl) (by kernel_rfl) (by kernel_rfl) (fun _ _ _ h => h) (Or.inl ⟨by rfl, ?h5x7⟩) hHeld ?r5x7
        case h5x7 => intro w hSw; (try dsimp only at hSw); go_simp <;> with_reducible rfl
        try simp only [List.getElem_toArray, List.getElem_cons_zero, List.getElem_cons_succ, Act.put, List.setIfInBounds_toArray, List.set_cons_zero, List.set_cons_succ]
        refine wpAnyH_take (i := 8) (v := ?v5x8) rfl (by kernel_rfl) (by kernel_rfl) (by kernel_rfl) (fun _ _ _ h => h) (Or.inl ⟨by rfl, ?h5x8⟩) hHeld ?r5x8
        case h5x8 =>
          intro w hSw
          have e6 : wrap64 (at_ + 8) = at_ + 8 := IntWalk.wrap64_in _ ⟨by omega, by omega⟩
          have e7 : IntKind.i64.wrap (at_ + 8) = at_ + 8 := by rw [IntKind.wrap_i64]; omega
          go_simp <;> with_reducible rfl
        try simp only [List.getElem_toArray, List.getElem_cons_zero, List.getElem_cons_succ, Act.put, List.setIfInBounds_toArray, List.set_cons_zero, List.set_cons_succ]
        refine wpAnyH_take (i := 9) (v := ?v5x9) rfl (by kernel_rfl) (by kernel_rfl) (by kernel_rfl) (fun _ _ _ h => h) (Or.inl ⟨by rfl, ?h5x9⟩) hHeld ?r5x9
        case h5x9 => intro w hSw; (try dsimp only at hSw); go_simp <;> with_reducible rfl
        try simp only [List.getElem_toArray, List.getElem_cons_zero, List.getElem_cons_succ, Act.put, List.setIfInBounds_toArray, List.set_cons_zero, List.set_cons_succ]
        refine wpAnyH_take (i := 10) (v := ?v5x10) rfl (by kernel_rfl) (by kernel_rfl) (by kernel_rfl) (fun _ _ _ h => h) (Or.inl ⟨by rfl, ?h5x10⟩) hHeld ?r5x10
        case h5x10 => intro w hSw; (try dsimp only at hSw); go_simp <;> with_reducible rfl
        try simp only [List.getElem_toArray, List.getElem_cons_zero, List.getElem_cons_succ, Act.put, List.setIfInBounds_toArray, List.set_cons_zero, List.set_cons_succ]
        refine wpAnyH_take (i := 11) (v := ?v5x11) rfl (by kernel_rfl) (by kernel_rfl) (by kernel_rfl) (fun _ _ _ h => h) (Or.inl ⟨by rfl, ?h5x11⟩) hHeld ?r5x11
        case h5x11 => intro w hSw; (try dsimp only at hSw); go_simp <;> with_reducible rfl
        try simp only [List.getElem_toArray, List.getElem_cons_zero, List.getElem_cons_succ, Act.put, List.setIfInBounds_toArray, List.set_cons_zero, List.set_cons_succ]
        refine wpAnyH_take (i := 12) (v := ?v5x12) rfl (by kernel_rfl) (by kernel_rfl) (by kernel_rfl) (fun _ _ _ h => h) (Or.inl ⟨by rfl, ?h5x12⟩) hHeld ?r5x12
        case h5x12 => intro w hSw; (try dsimp only at hSw); go_simp <;> with_reducible rfl
        try simp only [List.getElem_toArray, List.getElem_cons_zero, List.getElem_cons_succ, Act.put, List.setIfInBounds_toArray, List.set_cons_zero, List.set_cons_succ]
        refine wpAnyH_take (i := 13) (v := ?v5x13) rfl (by kernel_rfl) (by kernel_rfl) (by kernel_rfl) (fun _ _ _ h => h) (Or.inl ⟨by rfl, ?h5x13⟩) hHeld ?r5x13
        case h5x13 => intro w hSw; (try dsimp only at hSw); go_simp <;> with_reducible rfl
        try simp only [List.getElem_toArray, List.getElem_cons_zero, List.getElem_cons_succ, Act.put, List.setIfInBounds_toArray, List.set_cons_zero, List.set_cons_succ]
        refine wpAnyH_take (i := 14) (v := ?v5x14) rfl (by kernel_rfl) (by kernel_rfl) (by kernel_rfl) (fun _ _ _ h => h) (Or.inl ⟨by rfl, ?h5x14⟩) hHeld ?r5x14
        case h5x14 => intro w hSw; (try dsimp only at hSw); go_simp <;> with_reducible rfl
        try simp only [List.getElem_toArray, List.getElem_cons_zero, List.getElem_cons_succ, Act.put, List.setIfInBounds_toArray, List.set_cons_zero, List.set_cons_succ]
        refine wpAnyH_take (i := 15) (v := ?v5x15) rfl (by kernel_rfl) (by kernel_rfl) (by kernel_rfl) (fun _ _ _ h => h) (Or.inl ⟨by rfl, ?h5x15⟩) hHeld ?r5x15
        case h5x15 => intro w hSw; (try dsimp only at hSw); go_simp <;> with_reducible rfl
        try simp only [List.getElem_toArray, List.getElem_cons_zero, List.getElem_cons_succ, Act.put, List.setIfInBounds_toArray, List.set_cons_zero, List.set_cons_succ]
        refine wpAnyH_take (i := 16) (v := ?v5x16) rfl (by kernel_rfl) (by kernel_rfl) (by kernel_rfl) (fun _ _ _ h => h) (Or.inl ⟨by rfl, ?h5x16⟩) hHeld ?r5x16
        case h5x16 => intro w hSw; (try dsimp only at hSw); go_simp <;> with_reducible rfl
        try simp only [List.getElem_toArray, List.getElem_cons_zero, List.getElem_cons_succ, Act.put, List.setIfInBounds_toArray, List.set_cons_zero, List.set_cons_succ]
        refine wpAnyH_take (i := 17) (v := ?v5x17) rfl (by kernel_rfl) (by kernel_rfl) (by kernel_rfl) (fun _ _ _ h => h) (Or.inl ⟨by rfl, ?h5x17⟩) hHeld ?r5x17
        case h5x17 => intro w hSw; (try dsimp only at hSw); go_simp <;> with_reducible rfl
        try simp only [List.getElem_toArray, List.getElem_cons_zero, List.getElem_cons_succ, Act.put, List.setIfInBounds_toArray, List.set_cons_zero, List.set_cons_succ]
        refine wpAnyH_take (i := 18) (v := ?v5x18) rfl (by kernel_rfl) (by kernel_rfl) (by kernel_rfl) (fun _ _ _ h => h) (Or.inl ⟨by rfl, ?h5x18⟩) hHeld ?r5x18
        case h5x18 => intro w hSw; (try dsimp only at hSw); go_simp <;> with_reducible rfl
        try simp only [List.getElem_toArray, List.getElem_cons_zero, List.getElem_cons_succ, Act.put, List.setIfInBounds_toArray, List.set_cons_zero, List.set_cons_succ]
        refine wpAnyH_take (i := 19) (v := ?v5x19) rfl (by kernel_rfl) (by kernel_rfl) (by kernel_rfl) (fun _ _ _ h => h) (Or.inl ⟨by rfl, ?h5x19⟩) hHeld ?r5x19
        case h5x19 => intro w hSw; (try dsimp only at hSw); go_simp <;> with_reducible rfl
        try simp only [List.getElem_toArray, List.getElem_cons_zero, List.getElem_cons_succ, Act.put, List.setIfInBounds_toArray, List.set_cons_zero, List.set_cons_succ]
        refine wpAnyH_take (i := 20) (v := ?v5x20) rfl (by kernel_rfl) (by kernel_rfl) (by kernel_rfl) (fun _ _ _ h => h) (Or.inl ⟨by rfl, ?h5x20⟩) hHeld ?r5x20
        case h5x20 => intro w hSw; (try dsimp only at hSw); go_simp <;> with_reducible rfl
        try simp only [List.getElem_toArray, List.getElem_cons_zero, List.getElem_cons_succ, Act.put, List.setIfInBounds_toArray, List.set_cons_zero, List.set_cons_succ]
        refine wpAnyH_take (i := 21) (v := ?v5x21) rfl (by kernel_rfl) (by kernel_rfl) (by kernel_rfl) (fun _ _ _ h => h) (Or.inl ⟨by rfl, ?h5x21⟩) hHeld ?r5x21
        case h5x21 => intro w hSw; (try dsimp only at hSw); go_simp <;> with_reducible rfl
        try simp only [List.getElem_toArray, List.getElem_cons_zero, List.getElem_cons_succ, Act.put, List.setIfInBounds_toArray, List.set_cons_zero, List.set_cons_succ]
        refine wpAnyH_take (i := 22) (v := ?v5x22) rfl (by kernel_rfl) (by kernel_rfl) (by kernel_rfl) (fun _ _ _ h => h) (Or.inl ⟨by rfl, ?h5x22⟩) hHeld ?r5x22
        case h5x22 => intro w hSw; (try dsimp only at hSw); go_simp <;> with_reducible rfl
        try simp only [List.getElem_toArray, List.getElem_cons_zero, List.getElem_cons_succ, Act.put, List.setIfInBounds_toArray, List.set_cons_zero, List.set_cons_succ]
        refine wpAnyH_take (i := 25) (v := ?v5x25) rfl (by kernel_rfl) (by kernel_rfl) (by kernel_rfl) (fun _ _ _ h => h) (Or.inl ⟨by rfl, ?h5x25⟩) hHeld ?r5x25
        case h5x25 => intro w hSw; (try dsimp only at hSw); go_simp <;> with_reducible rfl
        try simp only [List.getElem_toArray, List.getElem_cons_zero, List.getElem_cons_succ, Act.put, List.setIfInBounds_toArray, List.set_cons_zero, List.set_cons_succ]
        refine wpAnyH_take (i := 26) (v := ?v5x26) rfl (by kernel_rfl) (by kernel_rfl) (by kernel_rfl) (fun _ _ _ h => h) (Or.inl ⟨by rfl, ?h5x26⟩) hHeld ?r5x26
        case h5x26 => intro w hSw; (try dsimp only at hSw); go_simp <;> with_reducible rfl
        try simp only [List.getElem_toArray, List.getElem_cons_zero, List.getElem_cons_succ, Act.put, List.setIfInBounds_toArray, List.set_cons_zero, List.set_cons_succ]
        refine wpAnyH_take (i := 27) (v := ?v5x27) rfl (by kernel_rfl) (by kernel_rfl) (by kernel_rfl) (fun _ _ _ h => h) (Or.inl ⟨by rfl, ?h5x27⟩) hHeld ?r5x27
        case h5x27 => intro w hSw; (try dsimp only at hSw); go_simp <;> with_reducible rfl
        try simp only [List.getElem_toArray, List.getElem_cons_zero, List.getElem_cons_succ, Act.put, List.setIfInBounds_toArray, List.set_cons_zero, List.set_cons_succ]
        refine wpAnyH_take (i := 28) (v := ?v5x28) rfl (by kernel_rfl) (by kernel_rfl) (by kernel_rfl) (fun _ _ _ h => h) (Or.inl ⟨by rfl, ?h5x28⟩) hHeld ?r5x28
        case h5x28 => intro w hSw; (try dsimp only at hSw); go_simp <;> with_reducible rfl
        try simp only [List.getElem_toArray, List.getElem_cons_zero, List.getElem_cons_succ, Act.put, List.setIfInBounds_toArray, List.set_cons_zero, List.set_cons_succ]
        refine wpAnyH_take (i := 29) (v := ?v5x29) rfl (by kernel_rfl) (by kernel_rfl) (by kernel_rfl) (fun _ _ _ h => h) (Or.inl ⟨by rfl, ?h5x29⟩) hHeld ?r5x29
        case h5x29 => intro w hSw; (try dsimp only at hSw); go_simp <;> with_reducible rfl
        try simp only [List.getElem_toArray, List.getElem_cons_zero, List.getElem_cons_succ, Act.put, List.setIfInBounds_toArray, List.set_cons_zero, List.set_cons_succ]
        refine wpAnyH_ready (rs := [23]) (by kernel_rfl) (by simp) ?_
        refine AllReadyH.cons rfl (fun K hK => ?_) AllReadyH.nil
        rw [if_pos (by rfl)]
        go_simp
        refine (unhide (HU _)).mono ?_
        rintro e w9 ⟨vv3, rfl, oo3, bb3⟩
        have hcw1 := (unhide HC) _ _ _ oo3.sl
        have hcw2 := (unhide HCV) w9 ((Below.refl _ _).drew.trans bb3)
        rw [unhide HSX] at hcw1
        clear oo3
        refine hK.out _ _ hcw2 (fun hHeld => ?_)
        clear hK K
        refine wpAnyH_ready (rs := [24]) (by kernel_rfl) (by simp) ?_
        refine AllReadyH.cons rfl (fun K hK => ?_) AllReadyH.nil
        rw [if_pos (by rfl)]
        go_simp
        refine hK.out _ _ hcw2 (fun hHeld => ?_)
        clear hK K
        refine wpAnyH_take (i := 30) (v := ?v5x30) rfl (by kernel_rfl) (by kernel_rfl) (by kernel_rfl) (fun _ _ _ h => h) (Or.inl ⟨by rfl, ?h5x30⟩) hHeld ?r5x30
        case h5x30 => intro w hSw; (try dsimp only at hSw); go_simp <;> with_reducible rfl
        try simp only [List.getElem_toArray, List.getElem_cons_zero, List.getElem_cons_succ, Act.put, List.setIfInBounds_toArray, List.set_cons_zero, List.set_cons_succ]
        refine wpAnyH_take (i := 31) (v := ?v5x31) rfl (by kernel_rfl) (by kernel_rfl) (by kernel_rfl) (fun _ _ _ h => h) (Or.inl ⟨by rfl, ?h5x31⟩) hHeld ?r5x31
        case h5x31 => intro w hSw; (try dsimp only at hSw); go_simp <;> with_reducible rfl
        try simp only [List.getElem_toArray, List.getElem_cons_zero, List.getElem_cons_succ, Act.put, List.setIfInBounds_toArray, List.set_cons_zero, List.set_cons_succ]
        refine wpAnyH_take (i := 32) (v := ?v5x32) rfl (by kernel_rfl) (by kernel_rfl) (by kernel_rfl) (fun _ _ _ h => h) (Or.inl ⟨by rfl, ?h5x32⟩) hHeld ?r5x32
        case h5x32 => intro w hSw; (try dsimp only at hSw); go_simp <;> with_reducible rfl
        try simp only [List.getElem_toArray, List.getElem_cons_zero, List.getElem_cons_succ, Act.put, List.setIfInBounds_toArray, List.set_cons_zero, List.set_cons_succ]
        refine wpAnyH_take (i := 33) (v := ?v5x33) rfl (by kernel_rfl) (by kernel_rfl) (by kernel_rfl) (fun _ _ _ h => h) (Or.inl ⟨by rfl, ?h5x33⟩) hHeld ?r5x33
        case h5x33 => intro w hSw; (try dsimp only at hSw); go_simp <;> with_reducible rfl
        try simp only [List.getElem_toArray, List.getElem_cons_zero, List.getElem_cons_succ, Act.put, List.setIfInBounds_toArray, List.set_cons_zero, List.set_cons_succ]
        refine wpAnyH_take (i := 34) (v := ?v5x34) rfl (by kernel_rfl) (by kernel_rfl) (by kernel_rfl) (fun _ _ _ h => h) (Or.inl ⟨by rfl, ?h5x34⟩) hHeld ?r5x34
        case h5x34 => intro w hSw; (try dsimp only at hSw); go_simp <;> with_reducible rfl
        try simp only [List.getElem_toArray, List.getElem_cons_zero, List.getElem_cons_succ, Act.put, List.setIfInBounds_toArray, List.set_cons_zero, List.set_cons_succ]
        refine wpAnyH_done (by kernel_rfl) ?_ _
        refine NoPanic.normal ?_
        have bF : Below w.heap.size w w9 := b3.trans (((Below.refl w3.heap.size w3).drew.trans bb3).mono b3.size)
        clear HSX HCV hcv0 hcw1 hcw2 bb3 k3 k4 k5 k6 k7 s3 b3
        go_wp2
        go_ret
        exact ⟨rfl, bF⟩
    · have h3' : (q3.2.2 != 0) = true := by simp [h3]
      clear h3 hok3 H3
      go_wp2
      go_quiet (fail)
      go_wp2
      go_ret
      exact ⟨rfl, below_drewN b3 nq⟩
end Go.Proofs.Ytmdbdfigpccbpaa
