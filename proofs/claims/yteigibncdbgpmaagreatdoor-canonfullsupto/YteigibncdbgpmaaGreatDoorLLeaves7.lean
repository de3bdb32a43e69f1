/- The walk of CanonLeaves, out of what canon's calls are asked. -/
import Derived.Test.YteigibncdbgpmaaGreatDoorLFulls7
import Derived.Test.YteigibncdbgpmaaGreatDoorCt7
namespace Go.Proofs.YteigibncdbgpmaaGreatDoor
open Go.RowKit

theorem getD_mem {l : List Int} {k : Nat} (hk : k < l.length) : l.getD k 0 ∈ l := by simp [List.getD, hk]
def XIn (wo : World) (vx : Value) (zs : List Int) (wi : World) : Prop := Sk .i32 wi vx zs ∧ Below wo.heap.size wo wi
theorem XIn.on {wo wi w' : World} {vx : Value} {zs : List Int} (h : XIn wo vx zs wi) (hb : Below wi.heap.size wi w') : XIn wo vx zs w' := ⟨h.1.below hb, h.2.trans (hb.mono h.2.size)⟩
set_option maxRecDepth 8000 in
set_option maxHeartbeats 4000000 in
theorem leaves_any (HC : ClassC) (HO : OpenC) (HP : PrimC) (HF : FullC) (HK : CheckC) (v u : Value) (rs : List Rec) (cs : List Int) (w : World) (hg : Glob w) (hv : Rcs w v rs) (hu : Sk .i32 w u cs) (hcl : cs.length ≤ 1000000000) : Calls Tryz.prog 6 #[v, u] w (Tells w true) := by
  have KT := hide (told_any HC HO HP HF HK)
  have HG : Hid (∀ W, Below w.heap.size w W → Glob W) := fun W h => hg.on h
  clear hg
  have K1 := hide (few_any v rs 120 w hv (by omega))
  have KO := hide HO
  have KF := hide HF
  have KL := hide HC
  have KC := hide HK
  clear HC HO HP HF HK
  obtain ⟨ao, cap, rfl, h1, h2⟩ := hv.shape
  have hlen := hv.1
  have HR := hide (fun i hi => rune_of hu (i := i) hi)
  have HCS : Hid (∀ i, i < cs.length → ∀ W, Below w.heap.size w W → ∃ b off, (∃ c, u = .slice (some ⟨b, off, none⟩) cs.length c) ∧ W.cell? ⟨b, off + i, none⟩ = some (.int .i32 (cs.getD i 0))) := by
    intro i hi W hb
    obtain ⟨b, off, c, rfl, _, _, hc⟩ := hu.place (by omega)
    have h := hc i hi
    exact ⟨b, off, ⟨c, rfl⟩, by rw [hb.cell (lt_of_cell? h)]; exact h⟩
  obtain ⟨uo, ucap, rfl, u1, u2⟩ := hu.shape
  clear hu
  go_enter Tryz.func6, Tryz.ntmps6
  go_wp2_with fail
  refine (unhide K1).mono ?_
  rintro e1 w1 ⟨v1, ps, rfl, a1, a2, hb1⟩
  obtain ⟨m, m1, m3, rv, rl, ao1, cap1, rfl, mc⟩ := few_both hv rfl a1 a2 hb1
  have HIA : FIn w ao ao1 m cap cap1 (rs.take 120) w1 := ⟨rv, rl, hb1⟩
  have JC := hide ((unhide KC) _ _ w1 ((unhide HG) _ hb1) rv)
  clear K1 a1 a2 hv rv rl KC
  generalize rs.take 120 = xs at *
  go_wp2_with fail
  refine (unhide JC).mono ?_
  rintro e2 w2 ⟨rfl, hb2⟩
  have HI0 := hide (HIA.on hb2)
  clear JC HIA hb1
  by_cases he : (Cn.check xs).2 = 0
  · have HL := hide (Cn.leaves he)
    rw [he]
    clear he
    go_wp2
    go_loopw [8, 9, 10, 11, 12] (fun iv _ _ _ _ wr => ∃ i : Nat, iv = .int .i64 i ∧ i ≤ cs.length ∧ i ≤ 40 ∧ FIn w ao ao1 m cap cap1 xs wr) (fun iv _ _ _ _ _ => 40 - (intOf iv).toNat)
    case atStart => exact ⟨0, rfl, by omega, by omega, unhide HI0⟩
    case round =>
      clear HI0
      obtain ⟨i, rfl, hi1, hi2, hin⟩ := hrel
      by_cases hlt : i < cs.length ∧ i < 40
      · obtain ⟨hlt1, hlt2⟩ := hlt
        have hrn := (unhide HR) i hlt1
        obtain ⟨b, off, ⟨c', he⟩, hc0⟩ := (unhide HCS) i hlt1 wr hin.2.2
        obtain ⟨rfl, rfl⟩ : uo = some ⟨b, off, none⟩ ∧ ucap = c' := by simpa using he
        have J4 := (unhide KF) _ _ (cs.getD i 0) wr ((unhide HG) _ hin.2.2) hin.1 hrn
        obtain ⟨l1, l2, l3, l4, l5⟩ := (unhide HL) (cs.getD i 0)
        have HJ4 := hide J4
        unfold FullB at HJ4
        rw [l1] at HJ4
        have JL : Hid (∀ (c : Int) (W : World), Rune c → Below wr.heap.size wr W → Calls Tryz.prog 13 #[.slice ao1 m cap1, .int .i32 c] W (IntB W (Cn.cls xs c))) := fun c W hc hb => (unhide KL) _ _ _ W ((unhide HG) _ (hin.on hb).2.2) (hin.on hb).1 hc
        have JO : Hid (∀ (c : Int) (W : World), Rune c → Below wr.heap.size wr W → Calls Tryz.prog 10 #[.slice ao1 m cap1, .int .i32 c] W (RunesNew W (Cn.opn xs c))) := fun c W hc hb => (unhide KO) _ _ _ W ((unhide HG) _ (hin.on hb).2.2) (hin.on hb).1 hc
        have HIN := hide hin
        clear KO KF KL HCS HR he hin hrn KT HG J4 HL l1
        have H4 : Hid (∀ k, k < (Cn.full xs (cs.getD i 0)).1.length → Cn.opn xs ((Cn.full xs (cs.getD i 0)).1.getD k 0) = []) := fun k hk => l4 _ (getD_mem hk)
        have H5 := hide (Cn.falls_at _ l5)
        clear l4 l5
        generalize (Cn.full xs (cs.getD i 0)).1 = zs at *
        generalize cs.getD i 0 = c at *
        go_wp2_with fail
        refine (unhide HJ4).mono ?_
        rintro e3 w3 ⟨vx, rfl, okx, hb3⟩
        have HX0 : Hid (XIn wr vx zs w3) := ⟨okx.sk, hb3⟩
        obtain ⟨xo, xcap, hxv, hx1, hx2⟩ := okx.sk.shape
        subst hxv
        clear HJ4 okx hb3 hc0
        have d1 : ((zs.length : Int) == 0) = false := beq_eq_false_iff_ne.2 (by omega)
        obtain ⟨wo, hwo⟩ : ∃ x : World, x = wr := ⟨wr, rfl⟩
        subst hwo
        go_wp2
        go_loopw [11, 12] (fun kv _ wi => ∃ k : Nat, kv = .int .i64 k ∧ k ≤ zs.length ∧ XIn wo (.slice xo zs.length xcap) zs wi) (fun kv _ _ => zs.length - (intOf kv).toNat)
        case atStart => exact ⟨0, rfl, by omega, unhide HX0⟩
        case round =>
          clear HX0
          obtain ⟨k, rfl, hk, hxin⟩ := hrel
          by_cases hkl : k < zs.length
          · have hrk := rune_of hxin.1 hkl
            have h4 := (unhide H4) k hkl
            have H5k : Hid (∀ j, j + 1 = k → Cn.cls xs (zs.getD k 0) = 0 ∨ Cn.cls xs (zs.getD j 0) ≤ Cn.cls xs (zs.getD k 0)) := fun j hj => by subst hj; exact (unhide H5) j hkl
            obtain ⟨xb, xoff, xc', hxe, _, _, hxc⟩ := hxin.1.place (by omega)
            obtain ⟨rfl, rfl⟩ : xo = some ⟨xb, xoff, none⟩ ∧ xcap = xc' := by simpa using hxe
            have hck := hxc k hkl
            have HCK : Hid (∀ j, j < zs.length → ∀ W, Below wr.heap.size wr W → W.cell? ⟨xb, xoff + j, none⟩ = some (.int .i32 (zs.getD j 0))) := fun j hj W h => by rw [h.cell (lt_of_cell? (hxc j hj))]; exact hxc j hj
            have HRJ : Hid (∀ j, j < zs.length → Rune (zs.getD j 0)) := fun j hj => rune_of hxin.1 hj
            have J1 := hide ((unhide JL) (zs.getD k 0) wr hrk hxin.2)
            have J2 := hide (fun W (h : Below wr.heap.size wr W) => (unhide JO) (zs.getD k 0) W hrk (hxin.2.trans (h.mono hxin.2.size)))
            rw [h4] at J2
            have JL2 := hide (fun c W (hc : Rune c) (h : Below wr.heap.size wr W) => (unhide JL) c W hc (hxin.2.trans (h.mono hxin.2.size)))
            have HXI := hide hxin
            clear hxin hxc hxe JL JO H4 H5 hrk h4
            generalize hzk : Cn.cls xs (zs.getD k 0) = n at *
            clear hzk
            generalize zs.getD k 0 = zk at *
            go_wp2_with fail
            refine (unhide J1).mono ?_
            rintro e4 w4 ⟨rfl, hb4⟩
            have hck4 : w4.cell? ⟨xb, xoff + k, none⟩ = some (.int .i32 zk) := by rw [hb4.cell (lt_of_cell? hck)]; exact hck
            clear J1 hck
            go_wp2_with fail
            refine ((unhide J2) w4 hb4).mono ?_
            rintro e5 w5 ⟨vy, rfl, oky, hb5⟩
            have hB5 := bthen hb4 hb5
            obtain ⟨yo, ycap, rfl, _, _⟩ := oky.sk.shape
            clear J2 oky hck4 hb4 hb5
            rw [show ([] : List Int).length = 0 from rfl]
            rcases Nat.eq_zero_or_pos k with k0 | k0
            · subst k0
              have HX2 := hide ((unhide HXI).on hB5)
              clear JL2 H5k HCK HRJ HXI hB5
              go_wp2
              go_roundw
              case rel => exact ⟨0 + 1, by go_num, by omega, unhide HX2⟩
              case measure => simp [intOf]; omega
            · obtain ⟨j, rfl⟩ : ∃ j, k = j + 1 := ⟨k - 1, by omega⟩
              by_cases hn : n = 0
              · subst hn
                have HX2 := hide ((unhide HXI).on hB5)
                clear JL2 H5k HCK HRJ HXI hB5
                go_wp2
                go_roundw
                case rel => exact ⟨j + 1 + 1, by go_num, by omega, unhide HX2⟩
                case measure => simp [intOf]; omega
              · have hn1 : (n != 0) = true := by simp [hn]
                have hn2 : (n == 0) = false := beq_eq_false_iff_ne.2 hn
                have hle : Cn.cls xs (zs.getD j 0) ≤ n := ((unhide H5k) j rfl).resolve_left hn
                have hcj := (unhide HCK) j (by omega) w5 hB5
                have J3 := hide ((unhide JL2) (zs.getD j 0) w5 ((unhide HRJ) j (by omega)) hB5)
                have hw1 : IntKind.i64.wrap (((j + 1 : Nat) : Int) - 1) = (j : Int) := by rw [IntWalk.i64_in _ ⟨by omega, by omega⟩]; omega
                have HXJ := hide ((unhide HXI).on hB5)
                clear JL2 H5k HCK HRJ HXI hB5
                generalize Cn.cls xs (zs.getD j 0) = nj at *
                generalize zs.getD j 0 = zj at *
                have dle : decide (n < nj) = false := decide_eq_false (by omega)
                go_wp2_with fail
                refine (unhide J3).mono ?_
                rintro e6 w6 ⟨rfl, hb6⟩
                have HX2 := hide ((unhide HXJ).on hb6)
                clear J3 HXJ hb6 hcj
                go_wp2
                go_roundw
                case rel => exact ⟨j + 1 + 1, by go_num, by omega, unhide HX2⟩
                case measure => simp [intOf]; omega
          · have HZ := hide ((unhide HIN).on hxin.2)
            clear hxin JL JO H4 H5
            go_wp2
            go_roundw
            case rel => exact ⟨i + 1, by go_num, by omega, by omega, unhide HZ⟩
            case measure => simp [intOf]; omega
      · have hex : ¬ i < cs.length ∨ (i < cs.length ∧ ¬ i < 40) := by omega
        have HIN := hide hin
        clear hlt KO KF KL HCS HR hin HL
        rcases hex with hex | ⟨hex, hex2⟩
        all_goals
          go_wp2_with fail
          refine ((unhide KT) wr ((unhide HG) _ (unhide HIN).2.2)).mono ?_
          rintro e4 w4 ⟨rfl, hb4⟩
          have HF : Tells w true (.returned (.bool true)) w4 := ⟨rfl, ((unhide HIN).on hb4).2.2⟩
          clear KT HIN hb4
          go_wp2
          go_ret
          exact HF
  · have hen : ((Cn.check xs).2 != 0) = true := by simp [he]
    have hen2 : ((Cn.check xs).2 == 0) = false := beq_eq_false_iff_ne.2 he
    clear he KO KF KL HCS HR
    generalize (Cn.check xs).2 = er at *
    go_wp2_with fail
    refine ((unhide KT) w2 ((unhide HG) _ (unhide HI0).2.2)).mono ?_
    rintro e4 w4 ⟨rfl, hb4⟩
    have HF : Tells w true (.returned (.bool true)) w4 := ⟨rfl, ((unhide HI0).on hb4).2.2⟩
    clear KT HI0 hb4
    go_wp2
    go_ret
    exact HF
end Go.Proofs.YteigibncdbgpmaaGreatDoor
