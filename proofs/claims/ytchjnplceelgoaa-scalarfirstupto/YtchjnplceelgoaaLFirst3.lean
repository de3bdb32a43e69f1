/- The law ScalarFirst, out of the contracts. (The region that draws by program: genfirst.py.) -/
import Derived.Test.YtchjnplceelgoaaTold3
import Derived.Deep.RegionHeld3
import Derived.Lib.Strings
import Derived.WideShapes
namespace Go.Proofs.Ytchjnplceelgoaa
open Go.RowKit

/-- The rows of bytes that the statement tries. -/
def endsB : List ByteArray := [⟨#[]⟩, ⟨#[128]⟩, ⟨#[160]⟩, ⟨#[144]⟩, ⟨#[128, 128]⟩, ⟨#[160, 128]⟩, ⟨#[144, 128]⟩, ⟨#[128, 128, 128]⟩, ⟨#[144, 128, 128]⟩]
theorem ends_nums : Utf.ends = endsB.map nums := by decide
theorem ends_len : endsB.length = 9 := rfl
theorem ends_size (k : Nat) : (endsB.getD k ⟨#[]⟩).size ≤ 3 := by
  match k with
  | 0 | 1 | 2 | 3 | 4 | 5 | 6 | 7 | 8 => decide
  | k + 9 => simp [endsB]; decide

theorem sv_strings (w : World) (ty : TypeId) (C : Array Value) (hC : C = (endsB.map Value.string).toArray) (m : Nat × Nat) : Sv (w.alloc (.cells C ty m)) (.slice (some ⟨w.heap.size, 0, none⟩) 9 9) (endsB.map Value.string) := by
  subst hC
  refine ⟨by decide, .inr ⟨w.heap.size, 0, 9, rfl, by decide, by decide, fun i hi => ?_⟩⟩
  rw [World.cell?_alloc_mark, Nat.zero_add]
  simp only [List.length_map] at hi
  simp [List.getD, hi]

theorem first_no {z : List Int} {k : Nat} (h9 : 9 ≤ k) (hall : ∀ j, j < k → ¬ (Utf.dec 0 (z ++ nums (endsB.getD j ⟨#[]⟩))).2.2 = 0) {t : List Int} (ht : t ∈ Utf.ends) (hB : (Utf.dec 0 (z ++ t)).2.2 = 0) : False := by
  rw [ends_nums] at ht
  obtain ⟨b, hb, rfl⟩ := List.mem_map.1 ht
  obtain ⟨j, hj, rfl⟩ := List.getElem_of_mem hb
  have hj9 : j < 9 := hj
  refine hall j (by omega) ?_
  have e : endsB.getD j ⟨#[]⟩ = endsB[j] := by rw [List.getD, List.getElem?_eq_getElem hj]; rfl
  rw [e]
  exact hB

set_option maxHeartbeats 4000000 in
theorem scalarFirst_any (HD : DecC) (HE : EncC) (HV : ValC) (HS : SplC) (s : ByteArray) (w : World) (hs : s.size ≤ 1048576) :
    Calls Try.prog 8 #[.string s] w (Tells w true) := by
  have HT := fun w => hide (told_any HD HE HV HS w)
  have H1 := hide (HD s w (by omega))
  have hsh := Utf.dec_shape _ 0 (nums s) (Nat.le_refl _)
  have hfi := fun q => Utf.dec_first _ 0 q (nums s) (Nat.le_refl _)
  have hnl := nums_length s
  rw [hnl] at hsh
  generalize hd : Utf.dec 0 (nums s) = d at *
  clear hd
  rcases hsh with ⟨h1, h2, h3⟩ | ⟨q, h1, h2, h3⟩
  · obtain ⟨a, p, er⟩ := d
    simp only at h1 h2
    subst h1; subst h2
    clear hfi HD HE HV HS
    go_enter Try.func8, Try.ntmps8
    go_wp2_with fail
    refine (unhide H1).mono ?_
    rintro e w1 ⟨v1, rfl, ok1, hb1⟩
    clear H1 ok1
    go_wp2_with fail
    refine (unhide (HT _)).mono ?_
    rintro e w2 ⟨rfl, hb2⟩
    have hb := bthen hb1 hb2
    clear HT
    go_wp2
    go_ret
    exact ⟨rfl, hb⟩
  · subst h1
    obtain ⟨hA, t, ht, hB⟩ := hfi q (by simp)
    simp only [Nat.zero_add] at hA h3
    have hsz2 : (s.extract 0 q).size ≤ 1048576 := by rw [← nums_length, nums_extract, List.length_take, hnl]; omega
    have H2 := fun w => hide (HD (s.extract 0 q) w (by omega))
    rw [nums_extract] at H2
    have H3 := fun k w => hide (HD (s.extract 0 q ++ endsB.getD k ⟨#[]⟩) w (by
      have := ends_size k
      rw [ByteArray.size_append]; omega))
    have HN := @first_no ((nums s).take q)
    have HQ := hide hB
    have HM := hide ht
    have hnn : ∀ k, Utf.dec 0 (nums (s.extract 0 q ++ endsB.getD k ⟨#[]⟩)) = Utf.dec 0 ((nums s).take q ++ nums (endsB.getD k ⟨#[]⟩)) := fun k => by rw [nums_append, nums_extract]
    have hA' : ((Utf.dec 0 ((nums s).take q)).2.2 != 0 && (Utf.dec 0 ((nums s).take q)).2.1 != (q : Int)) = false := by
      rcases hA with h | h
      · simp [h]
      · simp [h]
    generalize Utf.dec 0 ((nums s).take q) = d2 at *
    have hq1 : (0 : Int) ≤ (q : Int) := by omega
    have hq2 : (q : Int) ≤ (s.size : Int) := by omega
    clear hfi HE HV HS hB hA ht HD
    obtain ⟨a2, p2, e2⟩ := d2
    simp only at hA'
    go_enter Try.func8, Try.ntmps8
    go_wp2_with fail
    refine (unhide H1).mono ?_
    rintro e w1 ⟨v1, rfl, ok1, hb1⟩
    clear H1 ok1
    go_wp2_with fail
    refine (unhide (H2 _)).mono ?_
    rintro e w2 ⟨v2, rfl, ok2, hb2⟩
    have hb02 := bthen hb1 hb2
    clear H2 ok2 hb1 hb2
    have hsv := fun C hC m => hide (sv_strings w2 9 C hC m)
    have hb03 := fun o => hb02.alloc hb02.size o
    clear hb02
    go_wp2
    · go_loopw [10] (fun i wr => ∃ k : Nat, i = .int .i64 k ∧ k ≤ 9 ∧ (∀ j, j < k → ¬ (Utf.dec 0 ((nums s).take q ++ nums (endsB.getD j ⟨#[]⟩))).2.2 = 0) ∧ Sv wr (.slice (some ⟨w2.heap.size, 0, none⟩) 9 9) (endsB.map Value.string) ∧ Below w.heap.size w wr) (fun i _ => 9 - (intOf i).toNat)
      case atStart => exact ⟨0, rfl, by omega, fun j hj => by omega, unhide (hsv _ rfl _), hb03 _⟩
      case round =>
        obtain ⟨k, rfl, hk, hall, hsl, hbel⟩ := hrel
        clear hsv hb03
        generalize w2.heap.size = g at *
        by_cases hlt : k < 9
        · have hcl : ∀ wx, Below wr.heap.size wr wx → wx.cell? ⟨g, k, none⟩ = some (.string (endsB.getD k ⟨#[]⟩)) := by
            intro wx hb
            obtain ⟨b', off', cap', hv', _, _, hc'⟩ := (hsl.below hb).place (by decide)
            simp only [Value.slice.injEq, Option.some.injEq, Addr.mk.injEq, and_true] at hv'
            obtain ⟨⟨rfl, rfl⟩, _⟩ := hv'
            have := hc' k hlt
            rw [Nat.zero_add] at this
            rw [this]
            have hk9 : k < endsB.length := hlt
            simp [List.getD, hk9]
          have hcell0 := hcl _ (Below.refl _ _).drew
          have HCell := hide hcl
          have H3 := H3 k
          rw [hnn k] at H3
          have HALL := hide hall
          have HSL := hide hsl
          have hin1 : (0 : Int) ≤ (k : Int) := by omega
          have hin2 : (k : Int) < 9 := by omega
          have hes := ends_size k
          generalize hek : endsB.getD k ⟨#[]⟩ = ek at *
          have hno : ¬ 9223372036854775807 < q + ek.size := by omega
          generalize hdk : Utf.dec 0 ((nums s).take q ++ nums ek) = dk at *
          obtain ⟨ak, pk, erk⟩ := dk
          have HEK := hide hek
          have HDK := hide hdk
          clear hcl hall hsl hek hdk hnn
          go_wp2
          refine wp_region_noPanic ?_
          refine wp_region_held_drew (S := (fun w' => w'.cell? ⟨g, k, none⟩ = some (.string ek))) (by kernel_rfl) hcell0 (fun hHeld => ?_)
          refine wpAnyH_take (i := 0) (v := ?v1x0) rfl (by kernel_rfl) (by kernel_rfl) (by kernel_rfl) (fun _ _ _ h => h) (Or.inl ⟨by rfl, ?h1x0⟩) hHeld ?r1x0
          case h1x0 => intro w hSw; (try dsimp only at hSw); go_simp <;> with_reducible rfl
          try simp only [List.getElem_toArray, List.getElem_cons_zero, Act.put, List.setIfInBounds_toArray, List.set_cons_zero, List.set_cons_succ]
          refine wpAnyH_take (i := 1) (v := ?v1x1) rfl (by kernel_rfl) (by kernel_rfl) (by kernel_rfl) (fun _ _ _ h => h) (Or.inl ⟨by rfl, ?h1x1⟩) hHeld ?r1x1
          case h1x1 => intro w hSw; (try dsimp only at hSw); go_simp <;> with_reducible rfl
          try simp only [List.getElem_toArray, List.getElem_cons_zero, List.getElem_cons_succ, Act.put, List.setIfInBounds_toArray, List.set_cons_zero, List.set_cons_succ]
          refine wpAnyH_take (i := 2) (v := ?v1x2) rfl (by kernel_rfl) (by kernel_rfl) (by kernel_rfl) (fun _ _ _ h => h) (Or.inl ⟨by rfl, ?h1x2⟩) hHeld ?r1x2
          case h1x2 => intro w hSw; (try dsimp only at hSw); go_simp <;> with_reducible rfl
          try simp only [List.getElem_toArray, List.getElem_cons_zero, List.getElem_cons_succ, Act.put, List.setIfInBounds_toArray, List.set_cons_zero, List.set_cons_succ]
          refine wpAnyH_take (i := 3) (v := ?v1x3) rfl (by kernel_rfl) (by kernel_rfl) (by kernel_rfl) (fun _ _ _ h => h) (Or.inl ⟨by rfl, ?h1x3⟩) hHeld ?r1x3
          case h1x3 => intro w hSw; (try dsimp only at hSw); go_simp <;> with_reducible rfl
          try simp only [List.getElem_toArray, List.getElem_cons_zero, List.getElem_cons_succ, Act.put, List.setIfInBounds_toArray, List.set_cons_zero, List.set_cons_succ]
          refine wpAnyH_take (i := 4) (v := ?v1x4) rfl (by kernel_rfl) (by kernel_rfl) (by kernel_rfl) (fun _ _ _ h => h) (Or.inl ⟨by rfl, ?h1x4⟩) hHeld ?r1x4
          case h1x4 => intro w hSw; (try dsimp only at hSw); go_simp <;> with_reducible rfl
          try simp only [List.getElem_toArray, List.getElem_cons_zero, List.getElem_cons_succ, Act.put, List.setIfInBounds_toArray, List.set_cons_zero, List.set_cons_succ]
          refine wpAnyH_take (i := 5) (v := ?v1x5) rfl (by kernel_rfl) (by kernel_rfl) (by kernel_rfl) (fun _ _ _ h => h) (Or.inl ⟨by rfl, ?h1x5⟩) hHeld ?r1x5
          case h1x5 => intro w hSw; (try dsimp only at hSw); go_simp <;> with_reducible rfl
          try simp only [List.getElem_toArray, List.getElem_cons_zero, List.getElem_cons_succ, Act.put, List.setIfInBounds_toArray, List.set_cons_zero, List.set_cons_succ]
          refine wpAnyH_take (i := 6) (v := ?v1x6) rfl (by kernel_rfl) (by kernel_rfl) (by kernel_rfl) (fun _ _ _ h => h) (Or.inl ⟨by rfl, ?h1x6⟩) hHeld ?r1x6
          case h1x6 => intro w hSw; (try dsimp only at hSw); go_simp <;> with_reducible rfl
          try simp only [List.getElem_toArray, List.getElem_cons_zero, List.getElem_cons_succ, Act.put, List.setIfInBounds_toArray, List.set_cons_zero, List.set_cons_succ]
          refine wpAnyH_take (i := 7) (v := ?v1x7) rfl (by kernel_rfl) (by kernel_rfl) (by kernel_rfl) (fun _ _ _ h => h) (Or.inl ⟨by rfl, ?h1x7⟩) hHeld ?r1x7
          case h1x7 => intro w hSw; (try dsimp only at hSw); go_simp <;> with_reducible rfl
          try simp only [List.getElem_toArray, List.getElem_cons_zero, List.getElem_cons_succ, Act.put, List.setIfInBounds_toArray, List.set_cons_zero, List.set_cons_succ]
          refine wpAnyH_ready (rs := [8]) (by kernel_rfl) (by simp) ?_
          refine AllReadyH.cons rfl (fun K hK => ?_) AllReadyH.nil
          rw [if_pos (by rfl)]
          go_simp
          refine (unhide (H3 _)).mono ?_
          rintro e w9 ⟨v9, rfl, ok9, hb9⟩
          have hcell9 := (unhide HCell) w9 ((Below.refl _ _).drew.trans hb9)
          clear ok9
          refine hK.out _ _ hcell9 (fun hHeld => ?_)
          clear hK K
          refine wpAnyH_take (i := 9) (v := ?v1x9) rfl (by kernel_rfl) (by kernel_rfl) (by kernel_rfl) (fun _ _ _ h => h) (Or.inl ⟨by rfl, ?h1x9⟩) hHeld ?r1x9
          case h1x9 => intro w hSw; (try dsimp only at hSw); go_simp <;> with_reducible rfl
          try simp only [List.getElem_toArray, List.getElem_cons_zero, List.getElem_cons_succ, Act.put, List.setIfInBounds_toArray, List.set_cons_zero, List.set_cons_succ]
          refine wpAnyH_take (i := 10) (v := ?v1x10) rfl (by kernel_rfl) (by kernel_rfl) (by kernel_rfl) (fun _ _ _ h => h) (Or.inl ⟨by rfl, ?h1x10⟩) hHeld ?r1x10
          case h1x10 => intro w hSw; (try dsimp only at hSw); go_simp <;> with_reducible rfl
          try simp only [List.getElem_toArray, List.getElem_cons_zero, List.getElem_cons_succ, Act.put, List.setIfInBounds_toArray, List.set_cons_zero, List.set_cons_succ]
          refine wpAnyH_take (i := 11) (v := ?v1x11) rfl (by kernel_rfl) (by kernel_rfl) (by kernel_rfl) (fun _ _ _ h => h) (Or.inl ⟨by rfl, ?h1x11⟩) hHeld ?r1x11
          case h1x11 => intro w hSw; (try dsimp only at hSw); go_simp <;> with_reducible rfl
          try simp only [List.getElem_toArray, List.getElem_cons_zero, List.getElem_cons_succ, Act.put, List.setIfInBounds_toArray, List.set_cons_zero, List.set_cons_succ]
          refine wpAnyH_take (i := 12) (v := ?v1x12) rfl (by kernel_rfl) (by kernel_rfl) (by kernel_rfl) (fun _ _ _ h => h) (Or.inl ⟨by rfl, ?h1x12⟩) hHeld ?r1x12
          case h1x12 => intro w hSw; (try dsimp only at hSw); go_simp <;> with_reducible rfl
          try simp only [List.getElem_toArray, List.getElem_cons_zero, List.getElem_cons_succ, Act.put, List.setIfInBounds_toArray, List.set_cons_zero, List.set_cons_succ]
          refine wpAnyH_take (i := 13) (v := ?v1x13) rfl (by kernel_rfl) (by kernel_rfl) (by kernel_rfl) (fun _ _ _ h => h) (Or.inl ⟨by rfl, ?h1x13⟩) hHeld ?r1x13
          case h1x13 => intro w hSw; (try dsimp only at hSw); go_simp <;> with_reducible rfl
          try simp only [List.getElem_toArray, List.getElem_cons_zero, List.getElem_cons_succ, Act.put, List.setIfInBounds_toArray, List.set_cons_zero, List.set_cons_succ]
          refine wpAnyH_take (i := 14) (v := ?v1x14) rfl (by kernel_rfl) (by kernel_rfl) (by kernel_rfl) (fun _ _ _ h => h) (Or.inl ⟨by rfl, ?h1x14⟩) hHeld ?r1x14
          case h1x14 => intro w hSw; (try dsimp only at hSw); go_simp <;> with_reducible rfl
          try simp only [List.getElem_toArray, List.getElem_cons_zero, List.getElem_cons_succ, Act.put, List.setIfInBounds_toArray, List.set_cons_zero, List.set_cons_succ]
          refine wpAnyH_take (i := 15) (v := ?v1x15) rfl (by kernel_rfl) (by kernel_rfl) (by kernel_rfl) (fun _ _ _ h => h) (Or.inl ⟨by rfl, ?h1x15⟩) hHeld ?r1x15
          case h1x15 => intro w hSw; (try dsimp only at hSw); go_simp <;> with_reducible rfl
          try simp only [List.getElem_toArray, List.getElem_cons_zero, List.getElem_cons_succ, Act.put, List.setIfInBounds_toArray, List.set_cons_zero, List.set_cons_succ]
          refine wpAnyH_done (by kernel_rfl) ?_ _
          refine NoPanic.normal ?_
          have hb39 : Below wr.heap.size wr w9 := (Below.refl _ _).drew.trans hb9
          have hbw9 := hbel.trans (hb39.mono hbel.size)
          have HSL9 := hide ((unhide HSL).below hb39)
          clear hb9 hcell0 hcell9 HCell HSL H3 hbel hb39
          cases hz : (erk == 0) with
          | true =>
            go_wp2_with fail
            refine (unhide (HT _)).mono ?_
            rintro e w10 ⟨rfl, hb10⟩
            have hb := hbw9.trans (hb10.mono hbw9.size)
            clear HT
            go_wp2
            go_ret
            exact ⟨rfl, hb⟩
          | false =>
            have hz' : ¬ erk = 0 := by simpa using hz
            have HA2 : ∀ j, j < k + 1 → ¬ (Utf.dec 0 ((nums s).take q ++ nums (endsB.getD j ⟨#[]⟩))).2.2 = 0 := by
              intro j hj
              rcases Nat.lt_or_ge j k with h | h
              · exact unhide HALL j h
              · obtain rfl : j = k := by omega
                rw [unhide HEK, unhide HDK]
                exact hz'
            have HA2 := hide HA2
            clear hz' HALL HEK HDK
            go_wp2
            go_roundw
            case rel => exact ⟨k + 1, by go_num, by omega, unhide HA2, unhide HSL9, hbw9⟩
            case measure => simp [intOf]; omega
        · exact absurd (HN (by omega) hall (unhide HM) (unhide HQ)) id
    · go_loopw [10] (fun i wr => ∃ k : Nat, i = .int .i64 k ∧ k ≤ 9 ∧ (∀ j, j < k → ¬ (Utf.dec 0 ((nums s).take q ++ nums (endsB.getD j ⟨#[]⟩))).2.2 = 0) ∧ Sv wr (.slice (some ⟨w2.heap.size, 0, none⟩) 9 9) (endsB.map Value.string) ∧ Below w.heap.size w wr) (fun i _ => 9 - (intOf i).toNat)
      case atStart => exact ⟨0, rfl, by omega, fun j hj => by omega, unhide (hsv _ rfl _), hb03 _⟩
      case round =>
        obtain ⟨k, rfl, hk, hall, hsl, hbel⟩ := hrel
        clear hsv hb03
        generalize w2.heap.size = g at *
        by_cases hlt : k < 9
        · have hcl : ∀ wx, Below wr.heap.size wr wx → wx.cell? ⟨g, k, none⟩ = some (.string (endsB.getD k ⟨#[]⟩)) := by
            intro wx hb
            obtain ⟨b', off', cap', hv', _, _, hc'⟩ := (hsl.below hb).place (by decide)
            simp only [Value.slice.injEq, Option.some.injEq, Addr.mk.injEq, and_true] at hv'
            obtain ⟨⟨rfl, rfl⟩, _⟩ := hv'
            have := hc' k hlt
            rw [Nat.zero_add] at this
            rw [this]
            have hk9 : k < endsB.length := hlt
            simp [List.getD, hk9]
          have hcell0 := hcl _ (Below.refl _ _).drew
          have HCell := hide hcl
          have H3 := H3 k
          rw [hnn k] at H3
          have HALL := hide hall
          have HSL := hide hsl
          have hin1 : (0 : Int) ≤ (k : Int) := by omega
          have hin2 : (k : Int) < 9 := by omega
          have hes := ends_size k
          generalize hek : endsB.getD k ⟨#[]⟩ = ek at *
          have hno : ¬ 9223372036854775807 < q + ek.size := by omega
          generalize hdk : Utf.dec 0 ((nums s).take q ++ nums ek) = dk at *
          obtain ⟨ak, pk, erk⟩ := dk
          have HEK := hide hek
          have HDK := hide hdk
          clear hcl hall hsl hek hdk hnn
          go_wp2
          refine wp_region_noPanic ?_
          refine wp_region_held_drew (S := (fun w' => w'.cell? ⟨g, k, none⟩ = some (.string ek))) (by kernel_rfl) hcell0 (fun hHeld => ?_)
          refine wpAnyH_take (i := 0) (v := ?v2x0) rfl (by kernel_rfl) (by kernel_rfl) (by kernel_rfl) (fun _ _ _ h => h) (Or.inl ⟨by rfl, ?h2x0⟩) hHeld ?r2x0
          case h2x0 => intro w hSw; (try dsimp only at hSw); go_simp <;> with_reducible rfl
          try simp only [List.getElem_toArray, List.getElem_cons_zero, Act.put, List.setIfInBounds_toArray, List.set_cons_zero, List.set_cons_succ]
          refine wpAnyH_take (i := 1) (v := ?v2x1) rfl (by kernel_rfl) (by kernel_rfl) (by kernel_rfl) (fun _ _ _ h => h) (Or.inl ⟨by rfl, ?h2x1⟩) hHeld ?r2x1
          case h2x1 => intro w hSw; (try dsimp only at hSw); go_simp <;> with_reducible rfl
          try simp only [List.getElem_toArray, List.getElem_cons_zero, List.getElem_cons_succ, Act.put, List.setIfInBounds_toArray, List.set_cons_zero, List.set_cons_succ]
          refine wpAnyH_take (i := 2) (v := ?v2x2) rfl (by kernel_rfl) (by kernel_rfl) (by kernel_rfl) (fun _ _ _ h => h) (Or.inl ⟨by rfl, ?h2x2⟩) hHeld ?r2x2
          case h2x2 => intro w hSw; (try dsimp only at hSw); go_simp <;> with_reducible rfl
          try simp only [List.getElem_toArray, List.getElem_cons_zero, List.getElem_cons_succ, Act.put, List.setIfInBounds_toArray, List.set_cons_zero, List.set_cons_succ]
          refine wpAnyH_take (i := 3) (v := ?v2x3) rfl (by kernel_rfl) (by kernel_rfl) (by kernel_rfl) (fun _ _ _ h => h) (Or.inl ⟨by rfl, ?h2x3⟩) hHeld ?r2x3
          case h2x3 => intro w hSw; (try dsimp only at hSw); go_simp <;> with_reducible rfl
          try simp only [List.getElem_toArray, List.getElem_cons_zero, List.getElem_cons_succ, Act.put, List.setIfInBounds_toArray, List.set_cons_zero, List.set_cons_succ]
          refine wpAnyH_take (i := 4) (v := ?v2x4) rfl (by kernel_rfl) (by kernel_rfl) (by kernel_rfl) (fun _ _ _ h => h) (Or.inl ⟨by rfl, ?h2x4⟩) hHeld ?r2x4
          case h2x4 => intro w hSw; (try dsimp only at hSw); go_simp <;> with_reducible rfl
          try simp only [List.getElem_toArray, List.getElem_cons_zero, List.getElem_cons_succ, Act.put, List.setIfInBounds_toArray, List.set_cons_zero, List.set_cons_succ]
          refine wpAnyH_take (i := 5) (v := ?v2x5) rfl (by kernel_rfl) (by kernel_rfl) (by kernel_rfl) (fun _ _ _ h => h) (Or.inl ⟨by rfl, ?h2x5⟩) hHeld ?r2x5
          case h2x5 => intro w hSw; (try dsimp only at hSw); go_simp <;> with_reducible rfl
          try simp only [List.getElem_toArray, List.getElem_cons_zero, List.getElem_cons_succ, Act.put, List.setIfInBounds_toArray, List.set_cons_zero, List.set_cons_succ]
          refine wpAnyH_take (i := 6) (v := ?v2x6) rfl (by kernel_rfl) (by kernel_rfl) (by kernel_rfl) (fun _ _ _ h => h) (Or.inl ⟨by rfl, ?h2x6⟩) hHeld ?r2x6
          case h2x6 => intro w hSw; (try dsimp only at hSw); go_simp <;> with_reducible rfl
          try simp only [List.getElem_toArray, List.getElem_cons_zero, List.getElem_cons_succ, Act.put, List.setIfInBounds_toArray, List.set_cons_zero, List.set_cons_succ]
          refine wpAnyH_take (i := 7) (v := ?v2x7) rfl (by kernel_rfl) (by kernel_rfl) (by kernel_rfl) (fun _ _ _ h => h) (Or.inl ⟨by rfl, ?h2x7⟩) hHeld ?r2x7
          case h2x7 => intro w hSw; (try dsimp only at hSw); go_simp <;> with_reducible rfl
          try simp only [List.getElem_toArray, List.getElem_cons_zero, List.getElem_cons_succ, Act.put, List.setIfInBounds_toArray, List.set_cons_zero, List.set_cons_succ]
          refine wpAnyH_ready (rs := [8]) (by kernel_rfl) (by simp) ?_
          refine AllReadyH.cons rfl (fun K hK => ?_) AllReadyH.nil
          rw [if_pos (by rfl)]
          go_simp
          refine (unhide (H3 _)).mono ?_
          rintro e w9 ⟨v9, rfl, ok9, hb9⟩
          have hcell9 := (unhide HCell) w9 ((Below.refl _ _).drew.trans hb9)
          clear ok9
          refine hK.out _ _ hcell9 (fun hHeld => ?_)
          clear hK K
          refine wpAnyH_take (i := 9) (v := ?v2x9) rfl (by kernel_rfl) (by kernel_rfl) (by kernel_rfl) (fun _ _ _ h => h) (Or.inl ⟨by rfl, ?h2x9⟩) hHeld ?r2x9
          case h2x9 => intro w hSw; (try dsimp only at hSw); go_simp <;> with_reducible rfl
          try simp only [List.getElem_toArray, List.getElem_cons_zero, List.getElem_cons_succ, Act.put, List.setIfInBounds_toArray, List.set_cons_zero, List.set_cons_succ]
          refine wpAnyH_take (i := 10) (v := ?v2x10) rfl (by kernel_rfl) (by kernel_rfl) (by kernel_rfl) (fun _ _ _ h => h) (Or.inl ⟨by rfl, ?h2x10⟩) hHeld ?r2x10
          case h2x10 => intro w hSw; (try dsimp only at hSw); go_simp <;> with_reducible rfl
          try simp only [List.getElem_toArray, List.getElem_cons_zero, List.getElem_cons_succ, Act.put, List.setIfInBounds_toArray, List.set_cons_zero, List.set_cons_succ]
          refine wpAnyH_take (i := 11) (v := ?v2x11) rfl (by kernel_rfl) (by kernel_rfl) (by kernel_rfl) (fun _ _ _ h => h) (Or.inl ⟨by rfl, ?h2x11⟩) hHeld ?r2x11
          case h2x11 => intro w hSw; (try dsimp only at hSw); go_simp <;> with_reducible rfl
          try simp only [List.getElem_toArray, List.getElem_cons_zero, List.getElem_cons_succ, Act.put, List.setIfInBounds_toArray, List.set_cons_zero, List.set_cons_succ]
          refine wpAnyH_take (i := 12) (v := ?v2x12) rfl (by kernel_rfl) (by kernel_rfl) (by kernel_rfl) (fun _ _ _ h => h) (Or.inl ⟨by rfl, ?h2x12⟩) hHeld ?r2x12
          case h2x12 => intro w hSw; (try dsimp only at hSw); go_simp <;> with_reducible rfl
          try simp only [List.getElem_toArray, List.getElem_cons_zero, List.getElem_cons_succ, Act.put, List.setIfInBounds_toArray, List.set_cons_zero, List.set_cons_succ]
          refine wpAnyH_take (i := 13) (v := ?v2x13) rfl (by kernel_rfl) (by kernel_rfl) (by kernel_rfl) (fun _ _ _ h => h) (Or.inl ⟨by rfl, ?h2x13⟩) hHeld ?r2x13
          case h2x13 => intro w hSw; (try dsimp only at hSw); go_simp <;> with_reducible rfl
          try simp only [List.getElem_toArray, List.getElem_cons_zero, List.getElem_cons_succ, Act.put, List.setIfInBounds_toArray, List.set_cons_zero, List.set_cons_succ]
          refine wpAnyH_take (i := 14) (v := ?v2x14) rfl (by kernel_rfl) (by kernel_rfl) (by kernel_rfl) (fun _ _ _ h => h) (Or.inl ⟨by rfl, ?h2x14⟩) hHeld ?r2x14
          case h2x14 => intro w hSw; (try dsimp only at hSw); go_simp <;> with_reducible rfl
          try simp only [List.getElem_toArray, List.getElem_cons_zero, List.getElem_cons_succ, Act.put, List.setIfInBounds_toArray, List.set_cons_zero, List.set_cons_succ]
          refine wpAnyH_take (i := 15) (v := ?v2x15) rfl (by kernel_rfl) (by kernel_rfl) (by kernel_rfl) (fun _ _ _ h => h) (Or.inl ⟨by rfl, ?h2x15⟩) hHeld ?r2x15
          case h2x15 => intro w hSw; (try dsimp only at hSw); go_simp <;> with_reducible rfl
          try simp only [List.getElem_toArray, List.getElem_cons_zero, List.getElem_cons_succ, Act.put, List.setIfInBounds_toArray, List.set_cons_zero, List.set_cons_succ]
          refine wpAnyH_done (by kernel_rfl) ?_ _
          refine NoPanic.normal ?_
          have hb39 : Below wr.heap.size wr w9 := (Below.refl _ _).drew.trans hb9
          have hbw9 := hbel.trans (hb39.mono hbel.size)
          have HSL9 := hide ((unhide HSL).below hb39)
          clear hb9 hcell0 hcell9 HCell HSL H3 hbel hb39
          cases hz : (erk == 0) with
          | true =>
            go_wp2_with fail
            refine (unhide (HT _)).mono ?_
            rintro e w10 ⟨rfl, hb10⟩
            have hb := hbw9.trans (hb10.mono hbw9.size)
            clear HT
            go_wp2
            go_ret
            exact ⟨rfl, hb⟩
          | false =>
            have hz' : ¬ erk = 0 := by simpa using hz
            have HA2 : ∀ j, j < k + 1 → ¬ (Utf.dec 0 ((nums s).take q ++ nums (endsB.getD j ⟨#[]⟩))).2.2 = 0 := by
              intro j hj
              rcases Nat.lt_or_ge j k with h | h
              · exact unhide HALL j h
              · obtain rfl : j = k := by omega
                rw [unhide HEK, unhide HDK]
                exact hz'
            have HA2 := hide HA2
            clear hz' HALL HEK HDK
            go_wp2
            go_roundw
            case rel => exact ⟨k + 1, by go_num, by omega, unhide HA2, unhide HSL9, hbw9⟩
            case measure => simp [intOf]; omega
        · exact absurd (HN (by omega) hall (unhide HM) (unhide HQ)) id
end Go.Proofs.Ytchjnplceelgoaa
