/- The walk of CanonFulls, out of what canon's calls are asked. -/
import Derived.Test.YteigibncdbgpmaaGreatDoorGc7
namespace Go.Proofs.YteigibncdbgpmaaGreatDoor
open Go.RowKit

/-- Where the loop over the numbers stands. -/
def FIn (w : World) (ao ao1 : Option Addr) (m cap cap1 : Nat) (xs : List Rec) (wr : World) : Prop := Rcs wr (.slice ao1 m cap1) xs ∧ Rcs wr (.slice ao m cap) xs ∧ Below w.heap.size w wr
theorem FIn.on {w wr w' : World} {ao ao1 : Option Addr} {m cap cap1 : Nat} {xs : List Rec} (h : FIn w ao ao1 m cap cap1 xs wr) (hb : Below wr.heap.size wr w') : FIn w ao ao1 m cap cap1 xs w' := ⟨h.1.below hb, h.2.1.below hb, h.2.2.trans (hb.mono h.2.2.size)⟩
set_option maxRecDepth 8000 in
set_option maxHeartbeats 1000000 in
theorem fulls_any (HC : ClassC) (HO : OpenC) (HP : PrimC) (HF : FullC) (HK : CheckC) (RF : RFullC) (v u : Value) (rs : List Rec) (cs : List Int) (w : World) (hg : Glob w) (hv : Rcs w v rs) (hu : Sk .i32 w u cs) (hcl : cs.length ≤ 1000000000) (hfl : ∀ l c, (Cn.full l c).1.length ≤ 32) : Calls Tryz.prog 4 #[v, u] w (Tells w true) := by
  have KT := hide (told_any HC HO HP HF HK)
  have HG : Hid (∀ W, Below w.heap.size w W → Glob W) := fun W h => hg.on h
  clear hg
  have K1 := hide (few_any v rs 120 w hv (by omega))
  have K4 := hide HF
  have K6 := hide RF
  have HL := hide hfl
  clear HC HO HP HF HK RF hfl
  obtain ⟨ao, cap, rfl, h1, h2⟩ := hv.shape
  have hlen := hv.1
  have HR := hide (fun i hi => rune_of hu (i := i) hi)
  have HCS : Hid (∀ i, i < cs.length → ∀ W, Below w.heap.size w W → ∃ b off, (∃ c, u = .slice (some ⟨b, off, none⟩) cs.length c) ∧ W.cell? ⟨b, off + i, none⟩ = some (.int .i32 (cs.getD i 0))) := by
    intro i hi W hb
    obtain ⟨b, off, c, rfl, _, _, hc⟩ := hu.place (by omega)
    have h := hc i hi
    exact ⟨b, off, ⟨c, rfl⟩, by rw [hb.cell (lt_of_cell? h)]; exact h⟩
  obtain ⟨uo, ucap, rfl, u1, u2⟩ := hu.shape
  clear hu
  go_enter Tryz.func4, Tryz.ntmps4
  go_wp2_with fail
  refine (unhide K1).mono ?_
  rintro e1 w1 ⟨v1, ps, rfl, a1, a2, hb1⟩
  obtain ⟨m, m1, m3, rv, rl, ao1, cap1, rfl, mc⟩ := few_both hv rfl a1 a2 hb1
  have HI0 : Hid (FIn w ao ao1 m cap cap1 (rs.take 120) w1) := ⟨rv, rl, hb1⟩
  clear K1 a1 a2 hv rv rl hb1
  generalize rs.take 120 = xs at *
  go_wp2
  go_loopw [6, 7, 8, 9, 10, 11] (fun iv _ _ _ _ _ wr => ∃ i : Nat, iv = .int .i64 i ∧ i ≤ cs.length ∧ i ≤ 40 ∧ FIn w ao ao1 m cap cap1 xs wr) (fun iv _ _ _ _ _ _ => 40 - (intOf iv).toNat)
  case atStart => exact ⟨0, rfl, by omega, by omega, unhide HI0⟩
  case round =>
    clear HI0
    obtain ⟨i, rfl, hi1, hi2, hin⟩ := hrel
    by_cases hlt : i < cs.length ∧ i < 40
    · obtain ⟨hlt1, hlt2⟩ := hlt
      have hrn := (unhide HR) i hlt1
      obtain ⟨b, off, ⟨c', he⟩, hc0⟩ := (unhide HCS) i hlt1 wr hin.2.2
      obtain ⟨rfl, rfl⟩ : uo = some ⟨b, off, none⟩ ∧ ucap = c' := by simpa using he
      have HC2 : Hid (∀ W, Below wr.heap.size wr W → W.cell? ⟨b, off + i, none⟩ = some (.int .i32 (cs.getD i 0))) := fun W hb => by rw [hb.cell (lt_of_cell? hc0)]; exact hc0
      have J4 := hide ((unhide K4) _ _ (cs.getD i 0) wr ((unhide HG) _ hin.2.2) hin.1 hrn)
      have J6 : Hid (∀ W, Below wr.heap.size wr W → Calls Tryz.prog 20 #[.slice ao m cap, .int .i32 (cs.getD i 0)] W (FullB W (Cn.full xs (cs.getD i 0)))) := fun W hb => (unhide K6) _ _ _ W (hin.2.1.below hb) hrn
      have HIN := hide hin
      have hfl := (unhide HL) xs (cs.getD i 0)
      clear K4 K6 HCS HR he hin hrn HL KT
      generalize Cn.full xs (cs.getD i 0) = fr at *
      generalize cs.getD i 0 = c at *
      obtain ⟨zs, er⟩ := fr
      go_wp2_with fail
      refine (unhide J4).mono ?_
      rintro e2 w2 ⟨vx, rfl, okx, hb2⟩
      have hc2 := (unhide HC2) w2 hb2
      have J62 := hide (fun n => (unhide J6) (w2.drewN n) (bthen hb2 (drewB ⟨n, rfl⟩)))
      clear J4 J6 hc0
      go_wp2
      go_region_with (refine ((unhide J62) _).mono ?_; rintro e3 w3 ⟨vy, rfl, oky, hb3⟩)
      all_goals
        have hb23 : Below w2.heap.size w2 w3 := bthen (drewB ⟨_, rfl⟩) hb3
        have okx3 := okx.below hb23
        have JS := hide (same3_eq _ _ zs w3 okx3.sk oky.sk (by omega))
        have hB3 : Below wr.heap.size wr w3 := bthen hb2 hb23
        have hrx : w3.ownsRow wr.heap.size 21 1 vx zs.length (zs.map (Value.int .i32)) := okx3.row
        obtain ⟨xo, xcap, hxv, hx1, hx2⟩ := okx3.sk.shape
        subst hxv
        have qe : (er != er) = false := by simp
        clear okx oky okx3 hb2 hb3 hb23 hc2 J62 HC2
        go_wp2_with fail
        refine (unhide JS).mono ?_
        rintro e4 w4 ⟨rfl, hd4⟩
        have hB4 : Below wr.heap.size wr w4 := bthen hB3 (drewB hd4)
        have hr4 := own_keep (w' := w4) hrx (fun g h => (drewB hd4).block g (hrx.lt g h).2)
        clear JS hB3 hrx hd4
        rcases Nat.eq_zero_or_pos zs.length with n0 | n0
        · rw [n0]
          have HZ := hide ((unhide HIN).on hB4)
          clear hr4 hB4 HIN
          go_wp2
          refine wp_loop_rounds 1 ?_
          rw [rounds_succ]
          go_wp2
          go_roundw
          case rel => exact ⟨i + 1, by go_num, by omega, by omega, unhide HZ⟩
          case measure => simp [intOf]; omega
        · obtain ⟨gx, capx, curx, hvx, hgB, hgx, hxn, hxc, hxs⟩ : ∃ g cap cur, Value.slice xo zs.length xcap = .slice (some ⟨g, 0, none⟩) zs.length cap ∧ wr.heap.size ≤ g ∧ w4.heap[g]? = some (.cells cur 21 (0, 0)) ∧ zs.length ≤ cap ∧ cap ≤ maxLen ∧ cur.size = cap * 1 := by
            rcases hr4.2 with ⟨_, h⟩ | ⟨g, cap, cur, a, b, c, d, e, f, _⟩
            · omega
            · exact ⟨g, cap, cur, a, b, c, d, e, f⟩
          obtain ⟨rfl, rfl⟩ : xo = some ⟨gx, 0, none⟩ ∧ xcap = capx := by simpa using hvx
          rw [Nat.mul_one] at hxs
          unfold maxLen at hxc
          have HI2 : Hid (∃ cur' : Array Value, w4.heap[gx]? = some (.cells cur' 21 (0, 0)) ∧ cur'.size = xcap ∧ Below wr.heap.size wr w4) := ⟨curx, hgx, hxs, hB4⟩
          clear hr4 hB4 hgx hxs hvx
          obtain ⟨wo, hwo⟩ : ∃ x : World, x = wr := ⟨wr, rfl⟩
          subst hwo
          go_wp2
          go_loopw [11] (fun kv wi => ∃ k2 : Nat, kv = .int .i64 k2 ∧ k2 ≤ zs.length ∧ ∃ cur' : Array Value, wi.heap[gx]? = some (.cells cur' 21 (0, 0)) ∧ cur'.size = xcap ∧ Below wo.heap.size wo wi) (fun kv _ => zs.length - (intOf kv).toNat)
          case atStart => exact ⟨0, rfl, by omega, unhide HI2⟩
          case round =>
            clear HI2
            obtain ⟨k2, rfl, hk2, cur2, hc2, hcs2, hB2⟩ := hrel
            by_cases hlk : k2 < zs.length
            · have cc := cell_of (j := k2) hc2 (by omega)
              have fz := frozen_of (j := k2) hc2
              have HX : Hid (∃ cur' : Array Value, (wr.setCell ⟨gx, k2, none⟩ (.int .i32 (-9))).heap[gx]? = some (.cells cur' 21 (0, 0)) ∧ cur'.size = xcap ∧ Below wo.heap.size wo (wr.setCell ⟨gx, k2, none⟩ (.int .i32 (-9)))) := ⟨_, set_block hc2 _, by simpa using hcs2, below_set hB2 hgB _⟩
              clear hc2 hcs2 hB2 HIN
              go_wp2
              go_roundw
              case rel => exact ⟨k2 + 1, by go_num, by omega, unhide HX⟩
              case measure => simp [intOf]; omega
            · have HZ := hide ((unhide HIN).on hB2)
              clear hc2 hcs2 hB2 HIN
              go_wp2
              go_roundw
              case rel => exact ⟨i + 1, by go_num, by omega, by omega, unhide HZ⟩
              case measure => simp [intOf]; omega
    · have hex : ¬ i < cs.length ∨ (i < cs.length ∧ ¬ i < 40) := by omega
      have HIN := hide hin
      clear hlt K4 K6 HCS HR HL hin
      rcases hex with hex | ⟨hex, hex2⟩
      all_goals
        go_wp2_with fail
        refine ((unhide KT) wr ((unhide HG) _ (unhide HIN).2.2)).mono ?_
        rintro e4 w4 ⟨rfl, hb4⟩
        have h4 := (unhide HIN).on hb4
        have JS := hide (sameRecs_eq _ _ _ w4 h4.1 h4.2.1)
        have hB4 := h4.2.2
        clear KT HIN h4
        go_wp2_with fail
        refine (unhide JS).mono ?_
        rintro e5 w5 ⟨rfl, hb5⟩
        have HF : Tells w true (.returned (.bool true)) w5 := ⟨rfl, hB4.trans (hb5.mono hB4.size)⟩
        clear JS
        go_wp2
        go_ret
        exact HF
end Go.Proofs.YteigibncdbgpmaaGreatDoor
