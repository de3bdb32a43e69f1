/- slices.Insert at runes: no room: a new list; then all three ways as one contract. -/
import Derived.Test.YtgccindoinhphaaPuI11
namespace Go.Proofs.Ytgccindoinhphaa
open Go.RowKit

theorem laid_at (a b vs : List Value) (o : Nat) (h : a.length = o) : laid (a ++ b) o vs = a ++ vs ++ b.drop vs.length := by
  subst h
  unfold laid
  rw [List.take_left, List.drop_append, List.drop_eq_nil_of_le (by omega), Nat.add_sub_cancel_left, List.nil_append]

theorem grow_list {us : List Value} {p k : Nat} {u z : Value} (hp : p < us.length) :
    ((laid (laid (us.take p ++ List.replicate (us.length + 1 - p) z ++ List.replicate k z) p [u]) (p + 1) (us.drop p)).take (us.length + 1)) = us.take p ++ u :: us.drop p := by
  have hl : (us.take p).length = p := by rw [List.length_take]; omega
  rw [List.append_assoc, laid_at _ _ _ p hl, laid_at _ _ _ (p + 1) (by simp; omega)]
  rw [show us.take p ++ [u] ++ us.drop p = us.take p ++ u :: us.drop p by simp]
  rw [List.take_append_of_le_length (by simp; omega), List.take_of_length_le (by simp; omega)]

theorem zero_list (n : Nat) : (Builtin.zeroCells (Value.int .i32 0).cells n).toList = List.replicate n (.int .i32 0) := by
  refine List.ext_getElem (by simp [Builtin.zeroCells, Value.cells]) fun i h1 h2 => ?_
  simp [Builtin.zeroCells, Value.cells, Nat.mod_one]

set_option maxHeartbeats 4000000 in
set_option maxRecDepth 100000 in
theorem insert_grow (b n cap p g : Nat) (cur : Array Value) (us : List Value) (c : Int) (w : World) (hp : p < n) (hnc : n ≤ cap) (hroom : cap < n + 1) (hbig : n ≤ 1000000)
    (hb : w.heap[b]? = some (.cells cur 21 (0, 0))) (hsz : cur.size = cap) (hus : cur.toList.take n = us) (hone : ∀ u ∈ us, u.oneCell' = true)
    (hg : w.heap[g]? = some (.cells #[.int .i32 c] 21 (0, 0))) :
    Calls Try.prog 44 #[.slice (some ⟨b, 0, none⟩) n cap, .int .i64 p, .slice (some ⟨g, 0, none⟩) 1 1] w fun e w' => ∃ (G : Nat) (ROW : Array Value), n + 1 ≤ G ∧ G ≤ maxLen ∧ ROW.size = G ∧
      ROW.toList = us.take p ++ List.replicate (n + 1 - p) (.int .i32 0) ++ List.replicate (G - (n + 1)) (.int .i32 0) ∧
      e = .returned (.slice (some ⟨w.heap.size, 0, none⟩) (n + 1) G) ∧ w' = (((w.alloc (.cells ROW 21)).drew.setCells w.heap.size p [.int .i32 c]).drew).setCells w.heap.size (p + 1) (us.drop p) := by
  obtain ⟨i0, hi0, hz0, hzs, hzb⟩ := infoR_parts
  have hce : cap = n := by omega
  subst hce
  have hul : us.length = cap := by rw [← hus, List.length_take]; simp; omega
  have hdl : (us.drop p).length = cap - p := by rw [List.length_drop, hul]
  have hcs : ∀ j u, us[j]? = some u → w.cell? ⟨b, j, none⟩ = some u := fun j u hj => by
    rw [← hus, List.getElem?_take] at hj
    split at hj
    · simp [World.cell?, hb]; simpa using hj
    · cases hj
  have hbw : b < w.heap.size := (Array.getElem?_eq_some_iff.1 hb).1
  have hgw : g < w.heap.size := (Array.getElem?_eq_some_iff.1 hg).1
  have hkk : (cap : Int) + 1 - (p : Int) = ((cap + 1 - p : Nat) : Int) := by omega
  have hik : p + (cap + 1 - p) = cap + 1 := by omega
  have hold : (Builtin.firstCells i0.size p (.slice (some ⟨b, 0, none⟩) p cap)).run Try.prog w.drew = .ok (us.take p).toArray w.drew := by
    rw [hzs]
    exact run_firstCells_some w.drew 1 p ⟨b, 0, none⟩ p cap (us.take p) (by rw [List.length_take]; omega) (fun j v hj => by
      rw [addr_add, Nat.zero_add]
      rw [List.getElem?_take] at hj
      split at hj
      · exact hcs j v hj
      · cases hj)
  have hrz : ∀ ty, (Builtin.append_ #[22, 3] ty #[.slice (some ⟨b, 0, none⟩) p cap, .int .i64 ((cap : Int) + 1 - (p : Int))]).run Try.prog w =
      .ok (.slice (some ⟨w.heap.size, 0, none⟩) (cap + 1) (grownCap w (cap + 1) cap 21)) (w.drew.alloc (.cells ((us.take p).toArray ++ Builtin.zeroCells (Value.int .i32 0).cells (cap + 1 - p) ++ Builtin.zeroCells (Value.int .i32 0).cells (grownCap w (cap + 1) cap 21 - (cap + 1))) 21)) := fun ty => by
    have h := Lib.run_append_grow_zeros w 22 3 ty 21 i0 _ .i64 .i64 Try.underlying22 Try.underlying3 hi0 hz0 (some ⟨b, 0, none⟩) p cap (us.take p) hold (cap + 1 - p) (by omega) (by omega) (by omega) (by omega) (by rw [hzb]; omega) (by rw [hzb, hik]; exact growslice_fits (by omega) (by omega))
    rw [hik] at h
    rw [hkk]
    exact h
  obtain ⟨G, hG⟩ : ∃ G, G = grownCap w (cap + 1) cap 21 := ⟨_, rfl⟩
  obtain ⟨ROW, hROW⟩ : ∃ ROW : Array Value, ROW = (us.take p).toArray ++ Builtin.zeroCells (Value.int .i32 0).cells (cap + 1 - p) ++ Builtin.zeroCells (Value.int .i32 0).cells (G - (cap + 1)) := ⟨_, rfl⟩
  rw [← hG, ← hROW] at hrz
  have hGn : cap + 1 ≤ G := by rw [hG]; exact grownCap_ge w _ _ _
  have hGm : G ≤ maxLen := by rw [hG]; exact grownCap_le_maxLen w (cap + 1) cap 21 (by unfold maxLen; omega)
  have hG63 : G ≤ 9223372036854775807 := by unfold maxLen at hGm; omega
  have hRL : ROW.toList = us.take p ++ List.replicate (cap + 1 - p) (.int .i32 0) ++ List.replicate (G - (cap + 1)) (.int .i32 0) := by
    rw [hROW]
    rw [Array.toList_append, Array.toList_append, zero_list, zero_list]
  have hRs : ROW.size = G := by
    have := congrArg List.length hRL
    simp at this
    omega
  obtain ⟨W1, hW1⟩ : ∃ W1, W1 = w.drew.alloc (.cells ROW 21) := ⟨_, rfl⟩
  rw [← hW1] at hrz
  have hN : ∀ j, j < cap + 1 → (W1.cell? ⟨w.heap.size, j, none⟩).isSome = true := fun j hj => by
    rw [hW1, World.cell?_alloc_at (w := w.drew) ROW _ w.heap.size j rfl, Array.getElem?_eq_getElem (by omega)]; rfl
  have hNf : ∀ j, W1.frozen? ⟨w.heap.size, j, none⟩ = false := fun j => by rw [hW1]; exact World.frozen?_alloc_at (w := w.drew) ROW _ w.heap.size j rfl
  have hOb : ∀ j v, w.cell? ⟨b, j, none⟩ = some v → W1.cell? ⟨b, j, none⟩ = some v := fun j v h => by rw [hW1, World.cell?_alloc_past (w := w.drew) _ b j hbw]; exact h
  have hOg : W1.cell? ⟨g, 0, none⟩ = some (.int .i32 c) := by rw [hW1, World.cell?_alloc_past (w := w.drew) _ g 0 hgw]; show w.cell? ⟨g, 0, none⟩ = _; simp [World.cell?, hg]
  have hcpA : ∀ (W : World), (∀ x, W.cell? x = W1.cell? x) → (∀ x, W.frozen? x = W1.frozen? x) → ∀ ty dc, (Builtin.copy_ #[22, 22] ty #[.slice (some ⟨w.heap.size, p, none⟩) (cap + 1 - p) dc, .slice (some ⟨g, 0, none⟩) 1 1]).run Try.prog W = .ok (goInt 1) (W.setCells w.heap.size p [.int .i32 c]) := fun W hWc hWf ty dc =>
    run_copy_cells W _ _ ty 21 w.heap.size p (cap + 1 - p) dc ⟨g, 0, none⟩ 1 1 [.int .i32 c] Try.underlying22 infoR_size (by simp only [Nat.min_def, List.length_singleton]; split <;> omega)
      (fun j v hj => by
        have : j = 0 := by simpa using (List.getElem?_eq_some_iff.1 hj).1
        subst this
        simp at hj
        subst hj
        rw [addr_add, hWc]; exact hOg)
      (fun j hj => by rw [hWc]; simp at hj; subst hj; exact hN _ (by omega)) (fun j hj => by rw [hWf]; exact hNf _) (int_one .i32 c)
  have hbN : b ≠ w.heap.size := by omega
  have hcpB : ∀ (W : World), (∀ x, W.cell? x = (W1.setCells w.heap.size p [.int .i32 c]).cell? x) → (∀ x, W.frozen? x = (W1.setCells w.heap.size p [.int .i32 c]).frozen? x) → ∀ ty dc sc, (Builtin.copy_ #[22, 22] ty #[.slice (some ⟨w.heap.size, p + 1, none⟩) (cap - p) dc, .slice (some ⟨b, p, none⟩) (cap - p) sc]).run Try.prog W = .ok (goInt (us.drop p).length) (W.setCells w.heap.size (p + 1) (us.drop p)) := fun W hWc hWf ty dc sc =>
    run_copy_cells W _ _ ty 21 w.heap.size (p + 1) (cap - p) dc ⟨b, p, none⟩ (cap - p) sc (us.drop p) Try.underlying22 infoR_size (by rw [hdl]; simp only [Nat.min_def]; split <;> omega)
      (fun j v hj => by
        rw [addr_add, hWc, World.cell?_setCells_out _ _ _ _ _ (fun h _ => absurd h hbN)]
        exact hOb _ v (hcs (p + j) v (by rwa [List.getElem?_drop] at hj)))
      (fun j hj => by
        rw [hWc]
        obtain ⟨cur', h1, h2⟩ := sets_block w.heap.size [.int .i32 c] p W1 ROW 21 (0, 0) (by rw [hW1]; exact heap_alloc_new w.drew _) (by simp; omega)
        have h3 : cur'.size = G := by
          have := congrArg List.length h2
          simp [laid] at this
          omega
        simp [World.cell?, h1]; omega)
      (fun j hj => by rw [hWf, World.frozen?_setCells]; exact hNf _) (drop_oneCell hone p)
  subst hW1
  have hE1 : ∀ x, ((w.alloc (.cells ROW 21)).drew).cell? x = (w.drew.alloc (.cells ROW 21)).cell? x := fun x => rfl
  have hE2 : ∀ x, ((w.alloc (.cells ROW 21)).drew).frozen? x = (w.drew.alloc (.cells ROW 21)).frozen? x := fun x => rfl
  have hF1 : ∀ x, (((w.alloc (.cells ROW 21)).drew.setCells w.heap.size p [.int .i32 c]).drew).cell? x = ((w.drew.alloc (.cells ROW 21)).setCells w.heap.size p [.int .i32 c]).cell? x := fun x => rfl
  have hF2 : ∀ x, (((w.alloc (.cells ROW 21)).drew.setCells w.heap.size p [.int .i32 c]).drew).frozen? x = ((w.drew.alloc (.cells ROW 21)).setCells w.heap.size p [.int .i32 c]).frozen? x := fun x => rfl
  have mixed : Try.prog.follows Departure.mixedOrders = true := by kernel_rfl
  have hz2 : ¬ ((p : Int) = (cap : Int)) := by omega
  have hw1 : IntKind.i64.wrap ((p : Int) + 1) = (p : Int) + 1 := by rw [IntKind.wrap_i64]; omega
  have hb1 : (0 : Int) ≤ (p : Int) + 1 := by omega
  have hin : p ≤ cap := by omega
  have htn : ((p : Int) + 1).toNat = p + 1 := by omega
  have hb3 : (p : Int) ≤ (cap : Int) := by omega
  have hGi : ¬ (G = p) := by omega
  have hGim : ¬ (G = p + 1) := by omega
  have hci : ¬ (cap = p) := by omega
  have HP : Hid (∀ (e : Ending) (w' : World), e = .returned (.slice (some ⟨w.heap.size, 0, none⟩) (cap + 1) G) → w' = (((w.alloc (.cells ROW 21)).drew.setCells w.heap.size p [.int .i32 c]).drew).setCells w.heap.size (p + 1) (us.drop p) → ∃ (G : Nat) (ROW : Array Value), cap + 1 ≤ G ∧ G ≤ maxLen ∧ ROW.size = G ∧
      ROW.toList = us.take p ++ List.replicate (cap + 1 - p) (.int .i32 0) ++ List.replicate (G - (cap + 1)) (.int .i32 0) ∧
      e = .returned (.slice (some ⟨w.heap.size, 0, none⟩) (cap + 1) G) ∧ w' = (((w.alloc (.cells ROW 21)).drew.setCells w.heap.size p [.int .i32 c]).drew).setCells w.heap.size (p + 1) (us.drop p)) :=
    fun e w' he hw => ⟨G, ROW, hGn, hGm, hRs, hRL, he, hw⟩
  clear hkk hik hold hROW hG hRL hRs hN hNf hOb hOg hcs hul hdl hus hone hb hg hGm
  refine Calls.mono (R := fun e w' => e = .returned (.slice (some ⟨w.heap.size, 0, none⟩) (cap + 1) G) ∧ w' = (((w.alloc (.cells ROW 21)).drew.setCells w.heap.size p [.int .i32 c]).drew).setCells w.heap.size (p + 1) (us.drop p)) ?_ (fun e w' h => unhide HP e w' h.1 h.2)
  clear HP
  go_enter Try.func44, Try.ntmps44
  go_wp2_with (first
    | (at_builtin; refine Lib.wpList_append_run _ rfl _ _ _ _ rfl _ _ rfl rfl _ _ (hrz _) ?_)
    | (at_builtin; refine wpList_copy_runQ _ rfl _ _ 22 22 rfl _ _ rfl rfl (hcpA _ hE1 hE2 _ _) ?_))
  go_region_law_o (refine step_copy_runQ rfl _ _ 22 22 rfl (.slice (some ⟨w.heap.size, p + 1, none⟩) (cap - p) (G - (p + 1))) (.slice (some ⟨b, p, none⟩) (cap - p) (cap - p)) (by simp [Act.eval, Act.put]) (by simp [Act.eval, Act.put]) (hcpB _ hF1 hF2 3 (G - (p + 1)) (cap - p)) ?_)
  go_wp2
  go_ret
  exact ⟨rfl, rfl⟩

theorem insert_any (B : Nat) (v : Value) (xs : List Int) (p : Nat) (c : Int) (w : World) (g : Nat) (hv : Ok .i32 21 w B v xs) (hp : p ≤ xs.length) (hl : xs.length ≤ 1000000) (hB : B ≤ w.heap.size)
    (hg : w.heap[g]? = some (.cells #[.int .i32 c] 21 (0, 0))) (hne : v.ownBlock ≠ some g) (hc : -2147483648 ≤ c ∧ c ≤ 2147483647) :
    Calls Try.prog 44 #[v, .int .i64 p, .slice (some ⟨g, 0, none⟩) 1 1] w (InsPost B v w (Pu.ins xs p c)) := by
  rcases Nat.lt_or_ge p xs.length with hlt | hge
  · have hrow := hv.row
    rcases hrow.2 with ⟨_, h0⟩ | ⟨b, cap, cur, hvv, hb, hh, hn, hcap, hsz, htake⟩
    · omega
    · have hone : ∀ u ∈ xs.map (Value.int .i32), u.oneCell' = true := ints_one .i32 xs
      rw [Nat.mul_one] at hsz htake
      subst hvv
      have hgb : g ≠ b := fun h => hne (by rw [h]; rfl)
      have hlen : (xs.map (Value.int .i32)).length = xs.length := by simp
      rcases Nat.lt_or_ge xs.length cap with hr | hr
      · refine (insert_shift b xs.length cap p g cur (xs.map (Value.int .i32)) c w hlt (by omega) (by unfold maxLen at hcap; omega) hgb hh hsz htake hone hg).mono ?_
        rintro e w' ⟨rfl, rfl⟩
        obtain ⟨c1, h1, h2⟩ := sets_block b ((xs.map (Value.int .i32)).drop p) (p + 1) w.drew cur 21 (0, 0) hh (by simp; omega)
        have hs1 : c1.size = cap := by
          have := congrArg List.length h2
          simp [laid] at this
          omega
        obtain ⟨c2, h3, h4⟩ := sets_block b [.int .i32 c] p _ c1 21 (0, 0) h1 (by simp; omega)
        have hs2 : c2.size = cap := by
          have := congrArg List.length h4
          simp [laid] at this
          omega
        refine ⟨_, rfl, Ok.of (hv.1.ins hc p) (by rw [ins_len]; omega) (n := xs.length + 1) (us := (Pu.ins xs p c).map (Value.int .i32)) ⟨by simp [ins_len], .inr ⟨b, cap, c2, rfl, hb, h3, by omega, hcap, by omega, ?_⟩⟩ (by rw [ins_len]) rfl, ?_, ?_⟩
        · rw [Nat.mul_one, h4, h2, ins_map]
          obtain ⟨x, rest, hx⟩ : ∃ x rest, cur.toList = xs.map (Value.int .i32) ++ x :: rest := by
            have hd : cur.toList = cur.toList.take xs.length ++ cur.toList.drop xs.length := (List.take_append_drop _ _).symm
            rw [htake] at hd
            cases hq : cur.toList.drop xs.length with
            | nil =>
              have := congrArg List.length hq
              simp at this
              omega
            | cons x rest => exact ⟨x, rest, by rw [hd, hq]⟩
          rw [hx]
          have := shift_list (us := xs.map (Value.int .i32)) (p := p) (u := .int .i32 c) (x := x) (rest := rest) (by simpa using hlt)
          rw [hlen] at this
          exact this
        · exact grown_sets (grown_sets (grown_drew (grown_refl w _)) _ _) _ _
        · intro k hk
          exact .inl hk
      · refine (insert_grow b xs.length cap p g cur (xs.map (Value.int .i32)) c w hlt hn (by omega) hl hh hsz htake hone hg).mono ?_
        rintro e w' ⟨G, ROW, hG1, hG2, hRs, hRL, rfl, rfl⟩
        have hnew : ((w.alloc (.cells ROW 21)).drew).heap[w.heap.size]? = some (.cells ROW 21 (0, 0)) := heap_alloc_new w _
        obtain ⟨c1, h1, h2⟩ := sets_block w.heap.size [.int .i32 c] p (w.alloc (.cells ROW 21)).drew ROW 21 (0, 0) hnew (by simp; omega)
        have hs1 : c1.size = G := by
          have := congrArg List.length h2
          simp [laid] at this
          omega
        obtain ⟨c2, h3, h4⟩ := sets_block w.heap.size ((xs.map (Value.int .i32)).drop p) (p + 1) (((w.alloc (.cells ROW 21)).drew.setCells w.heap.size p [.int .i32 c]).drew) c1 21 (0, 0) h1 (by simp; omega)
        have hs2 : c2.size = G := by
          have := congrArg List.length h4
          simp [laid] at this
          omega
        refine ⟨_, rfl, Ok.of (hv.1.ins hc p) (by rw [ins_len]; omega) (n := xs.length + 1) (us := (Pu.ins xs p c).map (Value.int .i32)) ⟨by simp [ins_len], .inr ⟨w.heap.size, G, c2, rfl, hB, h3, by omega, hG2, by omega, ?_⟩⟩ (by rw [ins_len]) rfl, ?_, ?_⟩
        · rw [Nat.mul_one, h4, h2, hRL, ins_map]
          have := grow_list (us := xs.map (Value.int .i32)) (p := p) (k := G - (xs.length + 1)) (u := .int .i32 c) (z := .int .i32 0) (by simpa using hlt)
          rw [hlen] at this
          exact this
        · exact grown_sets_new (grown_drew (grown_sets_new (grown_drew (grown_alloc (grown_refl w _) _)) (Nat.le_refl _) _ _)) (Nat.le_refl _) _ _
        · intro k hk
          have : k = w.heap.size := by simpa [Value.ownBlock] using hk.symm
          exact .inr (by omega)
  · have he : p = xs.length := by omega
    subst he
    exact insert_end B v xs c w g hv hl hB hg hc
end Go.Proofs.Ytgccindoinhphaa
