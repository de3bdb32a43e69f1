/- The contracts of the writer's small parts: a letter, a number's value, the tally. -/
import Derived.Test.YtgccindoinhphaaPuF11
import Derived.Test.YtgccindoinhphaaPw11
namespace Go.Proofs.Ytgccindoinhphaa
open Go.RowKit

def BytePost (w : World) (z : Int) (e : Ending) (w' : World) : Prop := e = .returned (.int .u8 z) ∧ w' = w
theorem BytePost.mk {w : World} {z u : Int} (h : u = z) : BytePost w z (.returned (.int .u8 u)) w := by subst h; exact ⟨rfl, rfl⟩

set_option maxHeartbeats 1000000 in
theorem letter_any (d : Int) (w : World) (h0 : 0 ≤ d) (h1 : d ≤ 35) : Calls Try.prog 50 #[.int .i64 d] w (BytePost w (Pu.let1 d)) := by
  by_cases hd : d < 26
  · have hr : Pu.let1 d = 97 + d := by unfold Pu.let1; rw [if_pos hd]
    rw [hr]; clear hr
    go_enter Try.func50, Try.ntmps50
    go_wp2
    go_ret
    exact BytePost.mk (by first | rfl | omega)
  · have hr : Pu.let1 d = 48 + (d - 26) := by unfold Pu.let1; rw [if_neg hd]
    rw [hr]; clear hr
    go_enter Try.func50, Try.ntmps50
    go_wp2
    go_ret
    exact BytePost.mk (by first | rfl | omega)

def NumP (w : World) (z : Int) (e : Ending) (w' : World) : Prop := e = .returned (.int .i64 z) ∧ (w' = w ∨ w' = w.drew)

set_option maxHeartbeats 2000000 in
theorem number_any (b : Nat) (p n i bias c pl : Int) (f : Bool) (w : World) (h : StAt w b p n i bias f) (hp : 0 ≤ p ∧ p ≤ 3000) (hn : 0 ≤ n ∧ n ≤ 1114111) (hi : 0 ≤ i ∧ i ≤ 3000) (hc : 0 ≤ c ∧ c ≤ 1114111) (hpl : 0 ≤ pl ∧ pl ≤ 10000000) :
    Calls Try.prog 35 #[.pointer (some ⟨b, 0, none⟩), .int .i32 c, .int .i64 pl] w (NumP w ((c - n) * (p + 1) + pl - i)) := by
  obtain ⟨c0, c1, c2, c3, c4, f0, f1, f2, f3, f4⟩ := h.cells
  have hm1 : (c - n) * (p + 1) ≤ 1114111 * 3001 := by
    calc (c - n) * (p + 1) ≤ 1114111 * (p + 1) := Int.mul_le_mul_of_nonneg_right (by omega) (by omega)
      _ ≤ 1114111 * 3001 := by omega
  have hm2 : -(1114111 * 3001) ≤ (c - n) * (p + 1) := by
    have : (n - c) * (p + 1) ≤ 1114111 * 3001 := by
      calc (n - c) * (p + 1) ≤ 1114111 * (p + 1) := Int.mul_le_mul_of_nonneg_right (by omega) (by omega)
        _ ≤ 1114111 * 3001 := by omega
    have e : (n - c) * (p + 1) = -((c - n) * (p + 1)) := by rw [← Int.neg_mul]; congr 1; omega
    omega
  clear h
  go_enter Try.func35, Try.ntmps35
  go_wp2
  all_goals try go_region
  all_goals try go_wp2
  go_ret
  exact ⟨by first | rfl | (congr 2 <;> omega), by first | exact .inl rfl | exact .inr rfl⟩

/-- A row of ints, of its own block. -/
def TAt (w : World) (g : Nat) (T : List Int) : Prop := w.heap[g]? = some (.cells (T.map (Value.int .i64)).toArray 3 (0, 0))
theorem TAt.cell {w : World} {g : Nat} {T : List Int} (h : TAt w g T) {j : Nat} (hj : j < T.length) : w.cell? ⟨g, j, none⟩ = some (.int .i64 (T.getD j 0)) := by
  unfold TAt at h
  simp [World.cell?, h, List.getD, hj]
theorem TAt.frozen {w : World} {g : Nat} {T : List Int} (h : TAt w g T) (j : Nat) : w.frozen? ⟨g, j, none⟩ = false := by
  unfold TAt at h
  simp [World.frozen?, h]
theorem TAt.set {w : World} {g : Nat} {T : List Int} (h : TAt w g T) (j : Nat) (z : Int) : TAt (w.setCell ⟨g, j, none⟩ (.int .i64 z)) g (T.set j z) := by
  unfold TAt at h ⊢
  rw [setc_block h]
  simp

theorem lbi_i64 {j : Nat} (h1 : 1 ≤ j) (h2 : j ≤ 2100) : ∃ q : Nat, bits .and .i64 (j : Int) (-(j : Int)) = (q : Int) ∧ q = (Pu.lbi j).toNat ∧ 1 ≤ q ∧ q ≤ j := by
  have := Pu.lbi_bounds h1 h2
  refine ⟨(Pu.lbi j).toNat, ?_, rfl, by omega, by omega⟩
  show Pu.lbi j = _
  omega

def AheadP (w : World) (z : Int) : Ending → World → Prop := IntPost w z

set_option maxHeartbeats 2000000 in
theorem ahead_any (g : Nat) (T : List Int) (p : Nat) (w : World) (h : TAt w g T) (hb : Pu.Tb 3000 T) (hl : T.length ≤ 2050) (hp : p < T.length) :
    Calls Try.prog 36 #[.slice (some ⟨g, 0, none⟩) T.length T.length, .int .i64 p] w (IntPost w (Pu.ahead T p)) := by
  have HC : Hid (∀ j, j < T.length → w.cell? ⟨g, j, none⟩ = some (.int .i64 (T.getD j 0))) := fun j hj => h.cell hj
  have HB : Hid (∀ j, 0 ≤ T.getD j 0 ∧ T.getD j 0 ≤ 3000) := fun j => hb.at (by omega) j
  have hr0 : Pu.ahead T p = Pu.aheadF p T p 0 := rfl
  generalize Pu.ahead T p = r at *
  have HR0 := hide hr0
  clear h hb hr0
  go_enter Try.func36, Try.ntmps36
  go_wp2
  go_loop [5, 6] (fun nn jj => ∃ (f j : Nat) (n : Int), nn = .int .i64 n ∧ jj = .int .i64 j ∧ j ≤ p ∧ j ≤ f ∧ 0 ≤ n ∧ n + 3000 * j ≤ 3000 * p ∧ r = Pu.aheadF f T j n) (fun _ jj => (intOf jj).toNat)
  case atStart => exact ⟨p, p, 0, rfl, rfl, by omega, by omega, by omega, by omega, unhide HR0⟩
  case round =>
    clear HR0
    obtain ⟨f, j, n, rfl, rfl, hjp, hjf, hn, hnb, hr⟩ := hrel
    by_cases hj : 0 < j
    · obtain ⟨f, rfl⟩ : ∃ g, f = g + 1 := ⟨f - 1, by omega⟩
      have HR := hide (hr.trans (by rw [Pu.aheadF, if_pos hj]))
      clear hr
      have hcell := unhide HC j (by omega)
      have hbb := unhide HB j
      obtain ⟨q, hq1, hq2, hq3, hq4⟩ := lbi_i64 (j := j) (by omega) (by omega)
      rw [← hq2] at HR
      clear hq2
      generalize T.getD j 0 = t at *
      have hsub : ((j - q : Nat) : Int) = (j : Int) - (q : Int) := by omega
      have HSUB := hide hsub
      clear hsub
      go_wp2
      go_round
      case rel => exact ⟨f, j - q, n + t, by first | rfl | go_num, by first | rfl | (rw [unhide HSUB]) | go_num, by omega, by omega, by omega, by omega, unhide HR⟩
      case measure => simp [intOf]; omega
    · have hj0 : j = 0 := by omega
      subst hj0
      have HE : Hid (n = r) := by
        show n = r
        rw [hr]
        cases f with
        | zero => rfl
        | succ f => rw [Pu.aheadF, if_neg (by omega)]
      clear hr
      go_wp2
      go_ret
      exact IntPost.mk (unhide HE)

def AddP (w : World) (g : Nat) (T : List Int) (e : Ending) (w' : World) : Prop := e = .returned (.tuple #[]) ∧ TAt w' g T ∧ w.grownBy w' (some g) ∧ w'.heap.size = w.heap.size

theorem getD_set (T : List Int) (j m : Nat) (z : Int) (hj : j < T.length) : (T.set j z).getD m 0 = if m = j then z else T.getD m 0 := by
  by_cases h : m = j
  · subst h; simp [List.getD, hj]
  · rw [if_neg h]; simp [List.getD, List.getElem?_set_ne (Ne.symm h)]

set_option maxHeartbeats 2000000 in
theorem add_any (g : Nat) (T : List Int) (p : Nat) (w : World) (h : TAt w g T) (hb : Pu.Tb 3000 T) (hl : T.length ≤ 2050) (hp : p ≤ 100000) :
    Calls Try.prog 34 #[.slice (some ⟨g, 0, none⟩) T.length T.length, .int .i64 p] w (AddP w g (Pu.add T p)) := by
  have HB : Hid (∀ j, 0 ≤ T.getD j 0 ∧ T.getD j 0 ≤ 3000) := fun j => hb.at (by omega) j
  have hr0 : Pu.add T p = Pu.addF T.length T (p + 1) := rfl
  generalize Pu.add T p = r at *
  have HR0 := hide hr0
  have HT := hide h
  clear h hb hr0
  obtain ⟨L, hL⟩ : ∃ L, T.length = L := ⟨_, rfl⟩
  rw [hL]
  rw [hL] at hl HR0
  have HL := hide hL
  clear hL
  go_enter Try.func34, Try.ntmps34
  go_wp2
  go_loopw [4] (fun jj wr => ∃ (f j : Nat) (U : List Int), jj = .int .i64 j ∧ 1 ≤ j ∧ j ≤ 103000 ∧ U.length = L ∧ TAt wr g U ∧ (∀ m, 0 ≤ U.getD m 0 ∧ U.getD m 0 ≤ 3000 + j) ∧ L ≤ j + f ∧ r = Pu.addF f U j ∧ w.grownBy wr (some g) ∧ wr.heap.size = w.heap.size) (fun jj _ => L - (intOf jj).toNat)
  case atStart => exact ⟨L, p + 1, T, by first | rfl | go_num, by omega, by omega, unhide HL, unhide HT, fun m => by have := unhide HB m; omega, by omega, unhide HR0, grown_refl w _, rfl⟩
  case round =>
    clear HR0 HB HT HL
    obtain ⟨f, j, U, rfl, hj1, hj2, hUL, hU, hUB, hf, hr, hgr, hsz⟩ := hrel
    by_cases hj : j < L
    · obtain ⟨f, rfl⟩ : ∃ g, f = g + 1 := ⟨f - 1, by omega⟩
      have HR := hide (hr.trans (by rw [Pu.addF, if_pos (by omega)]))
      have hcell := hU.cell (j := j) (by omega)
      have hfz := hU.frozen j
      have hub := hUB j
      have HU2 := hide (hU.set j (U.getD j 0 + 1))
      have HG2 := hide (grown_setc (j := j) hgr (.int .i64 (U.getD j 0 + 1)))
      have HS2 : Hid ((wr.setCell ⟨g, j, none⟩ (.int .i64 (U.getD j 0 + 1))).heap.size = w.heap.size) := by show _ = _; rw [setc_size]; exact hsz
      have HL2 : Hid ((U.set j (U.getD j 0 + 1)).length = L) := by show _ = _; simp [hUL]
      have HB2 : Hid (∀ m, 0 ≤ (U.set j (U.getD j 0 + 1)).getD m 0 ∧ (U.set j (U.getD j 0 + 1)).getD m 0 ≤ 3000 + j + 1) := fun m => by
        rw [getD_set _ _ _ _ (by omega)]
        have h1 := hUB m
        have h2 := hUB j
        split <;> omega
      obtain ⟨q, hq1, hq2, hq3, hq4⟩ := lbi_i64 (j := j) (by omega) (by omega)
      rw [← hq2] at HR
      clear hr hU hUB hgr hsz hUL hq2
      generalize U.set j (U.getD j 0 + 1) = U2 at *
      generalize U.getD j 0 = t at *
      go_wp2
      go_roundw
      case rel => exact ⟨f, j + q, U2, by first | rfl | go_num, by omega, by omega, unhide HL2, unhide HU2, fun m => by have := unhide HB2 m; omega, by omega, unhide HR, unhide HG2, unhide HS2⟩
      case measure => simp [intOf]; omega
    · have HE : Hid (AddP w g r (.returned (.tuple #[])) wr) := by
        refine ⟨rfl, ?_, hgr, hsz⟩
        rw [hr]
        cases f with
        | zero => exact hU
        | succ f => rw [Pu.addF, if_neg (by omega)]; exact hU
      clear hr hU hUB hgr hsz hUL
      go_wp2
      go_end0
      exact unhide HE
end Go.Proofs.Ytgccindoinhphaa
