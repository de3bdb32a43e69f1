/- The law TrieAgain, out of the contracts. (By program: genagain4.py.) -/
import Derived.Test.YtehdeipeehaejaaLCut4
import Derived.Test.YtehdeipeehaejaaLSame4
import Derived.Test.YtehdeipeehaejaaTriC
import Derived.Test.YtehdeipeehaejaaArr4
import Derived.Deep.Cut
namespace Go.Proofs.Ytehdeipeehaejaa
open Go.RowKit

theorem Tri.normA_len (d : Int) (cur : Option Tri.Rg) (rs : List Tri.Rg) : (Tri.normA d cur rs).length ≤ cur.toList.length + rs.length := by
  induction rs generalizing cur with
  | nil => simp [Tri.normA]
  | cons r rs ih =>
    cases cur with
    | none =>
      simp only [Tri.normA]
      split
      · have := ih none; simp at this ⊢; omega
      · have := ih (some r); simp at this ⊢; omega
    | some q =>
      simp only [Tri.normA]
      split
      · have := ih (some q); simp at this ⊢; omega
      · split
        · have := ih (some (Tri.lo q, Tri.hi r, Tri.vl q)); simp at this ⊢; omega
        · have := ih (some r); simp at this ⊢; omega
theorem Tri.norm_len (d : Int) (rs : List Tri.Rg) : (Tri.norm d rs).length ≤ rs.length := by
  have := Tri.normA_len d none rs
  simpa [Tri.norm] using this
theorem idx_cast (ns : List Nat) (k : Nat) (hk : k < ns.length) : (ns.map fun n : Nat => (n : Int)).getD k 0 = ((ns.getD k 0 : Nat) : Int) := by
  simp [List.getD, hk]

set_option maxRecDepth 50000 in
set_option maxHeartbeats 4000000 in
theorem trieAgain_any {T : World → Value → List Tri.Rg → Int → Prop} (C : TrieC T) (vl vc : Value) (rs : List Tri.Rg) (cs : List Int) (d : Int) (w : World) (hl : Sr w vl rs) (hc : Sk .i64 w vc cs) (hd : Fi d) :
    Calls Try.prog 6 #[vl, .int .i64 d, vc] w (Tells4 w true) := by
  have HT := fun w => hide (told4_any C w)
  have HB := @C.below
  have F1 := hide (few_any vl rs w hl)
  have hcs := hide hc
  have hx := take_short rs
  have hd' := hide hd
  obtain ⟨hd1, hd2⟩ := hd
  obtain ⟨aoc, capc, rfl, hcc1, hcc2⟩ := hc.shape
  have hclen := hc.len
  clear hl hc
  generalize rs.take 200 = xs at *
  go_enter Try.func6, Try.ntmps6
  go_wp2_with fail
  refine (unhide F1).mono ?_
  rintro e w1 ⟨g1, c1, vx, B1, rfl, _, _, _, ox, _, _, hb1⟩
  have K1 := hide (C.build vx xs d w1 ox.sr (by omega) (unhide hd'))
  clear F1
  go_wp2_with fail
  refine (unhide K1).mono ?_
  rintro e w2 ⟨hb2, hcase⟩
  have hb02 := bthen hb1 hb2
  clear K1 hb2 hb1 ox
  rcases hcase with ⟨k1, a1, rfl, t1⟩ | ⟨k1, rfl⟩
  · obtain ⟨hval, hdr⟩ := Tri.check_ok.1 k1
    have HV := hide hval
    clear k1 hval
    have hval' := unhide HV
    have hnv := Tri.norm_val (d := d) hval'
    have hng := fun c => Tri.norm_get (d := d) hval' c
    have hnn : Tri.norm d (Tri.norm d xs) = Tri.norm d xs := (Tri.norm_eq hnv hval').1 hng
    have hbl : Tri.bls (Tri.get d (Tri.norm d xs)) = Tri.bls (Tri.get d xs) := Tri.bls_congr hng
    have hix : Tri.idx (Tri.get d (Tri.norm d xs)) = Tri.idx (Tri.get d xs) := Tri.idx_congr hng
    have hckr : (Tri.check d (Tri.norm d xs)).2 = 0 := Tri.check_ok.2 ⟨hnv, hdr⟩
    have hnl : (Tri.norm d xs).length ≤ 1000 := by have := Tri.norm_len d xs; omega
    have HNN := hide hnn
    have HBL := hide hbl
    have HIX := hide hix
    have hckr := hide hckr
    clear hval' hnv hng hnn hbl hix
    have K2 := hide (C.ranges _ xs d w2 t1)
    go_wp2_with fail
    refine (unhide K2).mono ?_
    rintro e w3 ⟨v3, rfl, o3, hb3⟩
    have t1 := HB t1 hb3
    have hW := bthen hb02 hb3
    have K3 := hide (C.default _ xs d w3 t1)
    clear K2 hb3 hb02
    go_wp2_with fail
    refine (unhide K3).mono ?_
    rintro e w4 ⟨rfl, hb4⟩
    have t1 := HB t1 hb4
    have o3 := o3.below hb4
    have hW := bthen hW hb4
    have K4 := hide (C.build _ (Tri.norm d xs) d w4 o3.sr hnl (unhide hd'))
    clear K3 hb4 hnl
    go_wp2_with fail
    refine (unhide K4).mono ?_
    rintro e w5 ⟨hb5, ⟨_, a2, rfl, t2⟩ | ⟨k2, _⟩⟩
    case inr => exact absurd (unhide hckr) k2
    have t1 := HB t1 hb5
    have hW := bthen hW hb5
    clear K4 hb5 hckr o3
    go_wp2_with fail
    refine (unhide (HT _)).mono ?_
    rintro e w6 ⟨rfl, hb6⟩
    have t1 := HB t1 hb6
    have t2 := HB t2 hb6
    have hW := bthen hW hb6
    have K5 := hide (C.same _ _ (Tri.norm d xs) xs d d w6 t2 t1)
    have hsm : decide (d = d ∧ Tri.norm d (Tri.norm d xs) = Tri.norm d xs) = true := by simp [unhide HNN]
    rw [hsm] at K5
    clear HT hb6 hsm HNN
    go_wp2_with fail
    refine (unhide K5).mono ?_
    rintro e w7 ⟨rfl, hb7⟩
    have t1 := HB t1 hb7
    have t2 := HB t2 hb7
    have hW := bthen hW hb7
    have K6 := hide (C.blocks _ (Tri.norm d xs) d w7 t2)
    rw [unhide HBL] at K6
    clear K5 hb7 HBL
    have K7 := fun w h => hide (C.blocks (.pointer (some a1)) xs d w h)
    have HNE := hide (Tri.nx_end (Tri.get d xs))
    generalize hbb : (Tri.bls (Tri.get d xs)).length = nb at K6 K7
    clear hbb
    go_wp2_with fail
    refine (unhide K6).mono ?_
    rintro e w8 ⟨rfl, hb8⟩
    have t1 := HB t1 hb8
    have t2 := HB t2 hb8
    have hW := bthen hW hb8
    have K7 := K7 _ t1
    clear K6 hb8
    go_wp2_with fail
    refine (unhide K7).mono ?_
    rintro e w9 ⟨rfl, hb9⟩
    have t1 := HB t1 hb9
    have t2 := HB t2 hb9
    have hW := bthen hW hb9
    have K9 := hide (C.index _ xs d w9 t1)
    clear K7 hb9
    go_wp2_with fail
    refine (unhide K9).mono ?_
    rintro e wB ⟨vB, rfl, oB, hbB⟩
    have t1 := HB t1 hbB
    have t2 := HB t2 hbB
    have hW := bthen hW hbB
    have KA := hide (C.index _ (Tri.norm d xs) d wB t2)
    rw [unhide HIX] at KA
    clear K9 hbB HIX
    go_wp2_with fail
    refine (unhide KA).mono ?_
    rintro e wC ⟨vC, rfl, oC, hbC⟩
    have oB := oB.below hbC
    have t1 := HB t1 hbC
    have hW := bthen hW hbC
    clear KA hbC t2
    have hlen : ((Tri.idx (Tri.get d xs)).map fun n : Nat => (n : Int)).length = 17408 := by rw [List.length_map, Tri.idx_len]
    have HIXA : Hid (∀ k, k < 17408 → ((Tri.idx (Tri.get d xs)).map fun n : Nat => (n : Int)).getD k 0 = (((Tri.idx (Tri.get d xs)).getD k 0 : Nat) : Int)) := fun k hk => idx_cast _ k (by rw [Tri.idx_len]; exact hk)
    have HLE := hide (Tri.idx_le (Tri.get d xs))
    have HST := hide (Tri.nx_step (Tri.get d xs))
    have HNL := hide (Tri.nx_le (Tri.get d xs))
    generalize (Tri.idx (Tri.get d xs)).map (fun n : Nat => (n : Int)) = ix at *
    obtain ⟨p1, f1, q1, rfl, _, _, hB1⟩ := oB.sk.place (by omega)
    obtain ⟨p2, f2, q2, rfl, _, _, hC1⟩ := oC.sk.place (by omega)
    have HBC : Hid (∀ wx, Below wC.heap.size wC wx → ∀ i, i < ix.length → wx.cell? ⟨p1, f1 + i, none⟩ = some (.int .u16 (ix.getD i 0)) ∧ wx.cell? ⟨p2, f2 + i, none⟩ = some (.int .u16 (ix.getD i 0))) := fun wx hb i hi => ⟨by rw [hb.cell (lt_of_cell? (hB1 i hi))]; exact hB1 i hi, by rw [hb.cell (lt_of_cell? (hC1 i hi))]; exact hC1 i hi⟩
    clear hB1 hC1 oB oC
    rw [hlen]
    go_wp2
    go_loopw [15, 16] (fun n i wr => ∃ k : Nat, i = .int .i64 k ∧ k ≤ 17408 ∧ n = .int .i64 (Tri.nx (Tri.get d xs) k : Nat) ∧ (∃ m, wr = wC.drewN m)) (fun _ i _ => 17408 - (intOf i).toNat)
    case atStart => exact ⟨0, rfl, by omega, by rw [Tri.nx_zero]; rfl, 0, rfl⟩
    case round =>
      obtain ⟨k, rfl, hk, rfl, hm⟩ := hrel
      by_cases hlt : k < 17408
      · obtain ⟨z1, z2⟩ := (unhide HBC) _ (drewB4 hm) k (by omega)
        have hin1 : (0 : Int) ≤ (k : Int) := by omega
        have hin2 : (k : Int) < 17408 := by omega
        have hle := (unhide HLE) k hlt
        have hst := (unhide HST) k hlt
        have hnl := (unhide HNL) k (by omega)
        have hzk := (unhide HIXA) k hlt
        rw [hzk] at z1 z2
        clear hzk
        generalize (Tri.idx (Tri.get d xs)).getD k 0 = z at *
        by_cases he : z = Tri.nx (Tri.get d xs) k
        · rw [if_pos he] at hst
          have HS := hide hst
          clear hst
          generalize Tri.nx (Tri.get d xs) k = nn at *
          have e2 : ((z : Int) == (nn : Int)) = true := by simp [he]
          have e3 : ¬ ((nn : Int) < (z : Int)) := by omega
          clear he
          go_wp2
          go_quiet (fail)
          have z1 : (wr.drewN nq).cell? ⟨p1, f1 + k, none⟩ = some (.int .u16 (z : Int)) := by simpa using z1
          have hm := drews4 hm nq
          generalize wr.drewN nq = wq at *
          clear z2
          have hdn : decide (nn < z) = false := decide_eq_false (by omega)
          rw [hdn]
          clear hdn
          go_wp2
          go_roundw
          case rel => exact ⟨k + 1, by go_num, by omega, by rw [unhide HS]; go_num, hm⟩
          case measure => simp [intOf]; omega
        · rw [if_neg he] at hst
          have HS := hide hst
          clear hst
          generalize Tri.nx (Tri.get d xs) k = nn at *
          have e2 : ((z : Int) == (nn : Int)) = false := by simp; omega
          have e3 : ¬ ((nn : Int) < (z : Int)) := by omega
          clear he
          go_wp2
          go_quiet (fail)
          have z1 : (wr.drewN nq).cell? ⟨p1, f1 + k, none⟩ = some (.int .u16 (z : Int)) := by simpa using z1
          have hm := drews4 hm nq
          generalize wr.drewN nq = wq at *
          clear z2
          have hdn : decide (nn < z) = false := decide_eq_false (by omega)
          rw [hdn]
          clear hdn
          go_wp2
          go_roundw
          case rel => exact ⟨k + 1, by go_num, by omega, by rw [unhide HS], hm⟩
          case measure => simp [intOf]; omega
      · obtain rfl : k = 17408 := by omega
        have t1 := HB t1 (drewB4 hm)
        have hW := bthen hW (drewB4 hm)
        have hcs3 := hide ((unhide hcs).below hW)
        have KB := hide (C.blocks _ xs d wr t1)
        rw [← unhide HNE] at KB
        clear HLE HST
        have HBC2 := hide (fun wx hb => (unhide HBC) wx (bthen (drewB4 hm) hb))
        clear HBC hm
        generalize hnb : Tri.nx (Tri.get d xs) 17408 = nb at *
        have HNB := hide hnb
        clear hnb
        go_wp2_with fail
        refine (unhide KB).mono ?_
        rintro e wD ⟨rfl, hbD⟩
        have t1 := HB t1 hbD
        have hW := bthen hW hbD
        have HBC3 := hide (fun wx hb => (unhide HBC2) wx (bthen hbD hb))
        clear KB HBC2
        go_wp2
        have hlb : (Tri.bls (Tri.get d xs)).length = nb := (unhide HNE).symm
        have hnb2 : nb ≤ 17408 := by rw [← hlb]; exact Tri.bls_len _
        have HBK : Hid (∀ (k : Nat) w, k < nb → T w (.pointer (some a1)) xs d → Calls Try.prog 21 #[.pointer (some a1), .int .i64 (k : Int)] w (BlkPost w ((Tri.bls (Tri.get d xs)).getD k [], true))) := by
          intro k w hk h
          have := C.block (.pointer (some a1)) xs d k w h ⟨by omega, by omega⟩
          have e : blkAt (Tri.bls (Tri.get d xs)) (k : Int) = ((Tri.bls (Tri.get d xs)).getD k [], true) := by
            unfold blkAt
            rw [if_pos ⟨by omega, by omega⟩]
            simp
          rw [e] at this
          exact this
        have H64 : Hid (∀ k, k < nb → ((Tri.bls (Tri.get d xs)).getD k []).length = 64) := fun k hk => Tri.bls_64 _ k (by omega)
        have HAP : Hid (∀ i j, i < j → j < nb → (Tri.bls (Tri.get d xs)).getD i [] ≠ (Tri.bls (Tri.get d xs)).getD j []) := fun i j h1 h2 => Tri.bls_apart _ i j h1 (by omega)
        have HBI : Hid (∀ p, p < 17408 → (Tri.bls (Tri.get d xs)).getD ((Tri.idx (Tri.get d xs)).getD p 0) [] = Tri.blk (Tri.get d xs) p ∧ (Tri.idx (Tri.get d xs)).getD p 0 < nb) := fun p hp => by have := Tri.bls_idx (Tri.get d xs) p hp; exact ⟨this.1, by omega⟩
        clear hlb HNE HNB HNL
        generalize hbs : Tri.bls (Tri.get d xs) = bs at *
        clear hbs
        go_loopw [17] (fun i wr => ∃ k : Nat, i = .int .i64 k ∧ k ≤ nb ∧ Below wD.heap.size wD wr) (fun i _ => nb - (intOf i).toNat)
        case atStart => exact ⟨0, rfl, by omega, Below.refl _ _⟩
        case round =>
          obtain ⟨k, rfl, hk, hbel⟩ := hrel
          by_cases hin : k < nb ∧ k < 60
          · obtain ⟨h1, h2⟩ := hin
            have K1 := hide ((unhide HBK) k wr h1 (HB t1 hbel))
            have h64 := (unhide H64) k h1
            have HAk := hide (fun j (hj : j < k) => (unhide HAP) j k hj h1)
            generalize bs.getD k [] = bl at *
            have hst := fun w => store_new w bl h64
            have hag : ((arrA bl).toList : List Value) = bl.map (Value.int .u16) := by simp [arrA]
            obtain ⟨wo, hwo⟩ : ∃ wo, wo = wr := ⟨_, rfl⟩
            subst hwo
            go_wp2_with fail
            refine (unhide K1).mono ?_
            rintro e w3 ⟨rfl, hb3⟩
            have hb03 := bthen hbel hb3
            have hba : Below wD.heap.size wD (w3.alloc (.cells (arrA bl) 48)) := hb03.alloc hb03.size _
            have hbx := Box.new w3 bl
            clear K1 hb3 hbel hb03
            go_wp2
            clear hst
            generalize w3.alloc (.cells (arrA bl) 48) = wa at *
            generalize w3.heap.size = ga at *
            go_loopw [20] (fun i wr => ∃ q : Nat, i = .int .i64 q ∧ q ≤ k ∧ Below wa.heap.size wa wr) (fun i _ => k - (intOf i).toNat)
            case atStart => exact ⟨0, rfl, by omega, Below.refl _ _⟩
            case round =>
              obtain ⟨q, rfl, hq, hbi⟩ := hrel
              by_cases hqk : q < k
              · have hbD := bthen hba hbi
                have K2 := hide ((unhide HBK) q wr (by omega) (HB t1 hbD))
                have h64q := (unhide H64) q (by omega)
                have hap := (unhide HAk) q hqk
                generalize bs.getD q [] = bq at *
                have hst := fun w => store_new w bq h64q
                have hagq : ((arrA bq).toList : List Value) = bq.map (Value.int .u16) := by simp [arrA]
                go_wp2_with fail
                refine (unhide K2).mono ?_
                rintro e w4 ⟨rfl, hb4⟩
                have hbi4 := bthen hbi hb4
                have hbi5 : Below wa.heap.size wa (w4.alloc (.cells (arrA bq) 48)) := hbi4.alloc hbi4.size _
                have l1 := hbx.below hbi5
                have l2 := Box.new w4 bq
                have heq := fun w => run_arr_eql w bl bq h64 h64q
                have hdf : decide (bl = bq) = false := decide_eq_false (fun h => hap h.symm)
                rw [hdf] at heq
                clear K2 hb4 hbi4 hbi hdf
                go_upto_region 29 with fail
                refine wp_region_list ?_
                refine wpList_load_mid (by rfl) 48 (.tmp 18) (by rfl) ga 0 (by rfl) (bl.map (Value.int .u16)) _ l1 Try.underlying48 (by rfl) (infoArrL h64) ?_
                refine wpList_load_mid (by rfl) 48 (.tmp 21) (by rfl) w4.heap.size 0 (by rfl) (bq.map (Value.int .u16)) _ l2 Try.underlying48 (by rfl) (infoArrL h64q) ?_
                have heq' : ∀ w, (Op.equalIn 10000 48 (.agg (bl.map (Value.int .u16)).toArray) (.agg (bq.map (Value.int .u16)).toArray)).run Try.prog w = .ok false w := heq
                clear l1 l2 heq
                go_wp2
                go_roundw
                case rel => exact ⟨q + 1, by go_num, by omega, hbi5⟩
                case measure => simp [intOf]; omega
              · obtain rfl : q = k := by omega
                have hbD := bthen hba hbi
                clear hbx hba hbi
                go_wp2
                go_roundw
                case rel => exact ⟨q + 1, by go_num, by omega, hbD⟩
                case measure => simp [intOf]; omega
          · have t1 := HB t1 hbel
            have hW := bthen hW hbel
            have HBC4 := hide (fun wx hb => (unhide HBC3) wx (bthen hbel hb))
            clear HBC3 hbel HAP
            obtain ⟨wE, hwE⟩ : ∃ wE, wE = wr := ⟨_, rfl⟩
            subst hwE
            by_cases hkn : k < nb
            · have hk60 : ¬ ((k : Int) < 60) := by omega
              go_wp2
              go_loopw [23] (fun i wr => ∃ m : Nat, i = .int .i64 m ∧ m ≤ cs.length ∧ Below wE.heap.size wE wr) (fun i _ => cs.length - (intOf i).toNat)
              case atStart => exact ⟨0, rfl, by omega, Below.refl _ _⟩
              case round =>
                obtain ⟨m, rfl, hm, hbe⟩ := hrel
                by_cases hin : m < cs.length ∧ m < 60
                · obtain ⟨h1, h2⟩ := hin
                  obtain ⟨bc, offc, cpc', hvc', _, _, hcc⟩ := ((unhide hcs).below (bthen hW hbe)).place (by omega)
                  simp only [Value.slice.injEq] at hvc'
                  obtain ⟨rfl, _, rfl⟩ := hvc'
                  have hck := hcc m h1
                  have hmk := mask21 (cs.getD m 0)
                  clear hcc
                  generalize cs.getD m 0 = ck at *
                  obtain ⟨cm, hcm⟩ : ∃ cm : Nat, (cm : Int) = ck % 2097152 := ⟨(ck % 2097152).toNat, by omega⟩
                  rw [← hcm] at hmk
                  have hcm2 : cm < 2097152 := by omega
                  obtain ⟨cn, hcn⟩ : ∃ cn : Nat, (cn : Int) = (cm : Int) % 1114112 := ⟨cm % 1114112, by omega⟩
                  have hcn2 : cn < 1114112 := by omega
                  have htm : (cm : Int).tmod 1114112 = (cn : Int) := by rw [Int.tmod_eq_emod_of_nonneg (by omega)]; exact hcn.symm
                  have htd : (cn : Int).tdiv 64 = ((cn / 64 : Nat) : Int) := by rw [Int.tdiv_eq_ediv_of_nonneg (by omega)]; omega
                  have htr : (cn : Int).tmod 64 = ((cn % 64 : Nat) : Int) := by rw [Int.tmod_eq_emod_of_nonneg (by omega)]; omega
                  clear hcm hcn
                  have hp : cn / 64 < 17408 := by omega
                  obtain ⟨zc, _⟩ := (unhide HBC4) wr hbe (cn / 64) (by omega)
                  rw [(unhide HIXA) _ hp] at zc
                  obtain ⟨hbz, hzn⟩ := (unhide HBI) _ hp
                  have t1m := HB t1 hbe
                  have K1 := hide ((unhide HBK) _ wr hzn t1m)
                  rw [hbz] at K1
                  have h64 := Tri.blk_len (Tri.get d xs) (cn / 64)
                  have hbv := Tri.blk_at (Tri.get d xs) (cn / 64) (cn % 64) (by omega)
                  rw [show 64 * (cn / 64) + cn % 64 = cn by omega] at hbv
                  have hgr := Tri.get_range (c := (cn : Int)) hdr (unhide HV)
                  have HG := fun w h => hide (C.get (.pointer (some a1)) xs d (cn : Int) w h ⟨by omega, by omega⟩)
                  clear hbz
                  generalize Tri.get d xs (cn : Int) = gv at *
                  generalize Tri.blk (Tri.get d xs) (cn / 64) = bl at *
                  generalize (Tri.idx (Tri.get d xs)).getD (cn / 64) 0 = z at *
                  have hst := fun w => store_new w bl h64
                  have hag : ((arrA bl).toList : List Value) = bl.map (Value.int .u16) := by simp [arrA]
                  go_wp2_with fail
                  refine (unhide K1).mono ?_
                  rintro e w3 ⟨rfl, hb3⟩
                  have hb03 := bthen hbe hb3
                  have hba : Below wE.heap.size wE (w3.alloc (.cells (arrA bl) 48)) := hb03.alloc hb03.size _
                  have hbx := (Box.new w3 bl).at (cn % 64) (by omega)
                  rw [hbv] at hbx
                  have t1n := HB t1 hba
                  clear K1 hb3 hb03 t1m hbv
                  go_upto_region 36 with fail
                  clear hst
                  generalize w3.alloc (.cells (arrA bl) 48) = wa at *
                  generalize w3.heap.size = ga at *
                  have HG := fun n => HG (wa.drewN n) (HB t1n (below_drewN (Below.refl _ _) n))
                  go_wp2
                  go_quiet (first | (go_at_call 13; exact Calls.quiet_of (unhide (HG _))))
                  have hbn := below_drewN hba nq
                  go_wp2
                  go_roundw
                  case rel => exact ⟨m + 1, by go_num, by omega, hbn⟩
                  case measure => simp [intOf]; omega
                · have hWE := bthen hW hbe
                  by_cases hmc : m < cs.length
                  · have hm60 : ¬ ((m : Int) < 60) := by omega
                    go_wp2
                    go_ret
                    exact ⟨rfl, hWE⟩
                  · have hmc' : ¬ ((m : Int) < (cs.length : Int)) := by omega
                    go_wp2
                    go_ret
                    exact ⟨rfl, hWE⟩
            · have hkn' : ¬ ((k : Int) < (nb : Int)) := by omega
              go_wp2
              go_loopw [23] (fun i wr => ∃ m : Nat, i = .int .i64 m ∧ m ≤ cs.length ∧ Below wE.heap.size wE wr) (fun i _ => cs.length - (intOf i).toNat)
              case atStart => exact ⟨0, rfl, by omega, Below.refl _ _⟩
              case round =>
                obtain ⟨m, rfl, hm, hbe⟩ := hrel
                by_cases hin : m < cs.length ∧ m < 60
                · obtain ⟨h1, h2⟩ := hin
                  obtain ⟨bc, offc, cpc', hvc', _, _, hcc⟩ := ((unhide hcs).below (bthen hW hbe)).place (by omega)
                  simp only [Value.slice.injEq] at hvc'
                  obtain ⟨rfl, _, rfl⟩ := hvc'
                  have hck := hcc m h1
                  have hmk := mask21 (cs.getD m 0)
                  clear hcc
                  generalize cs.getD m 0 = ck at *
                  obtain ⟨cm, hcm⟩ : ∃ cm : Nat, (cm : Int) = ck % 2097152 := ⟨(ck % 2097152).toNat, by omega⟩
                  rw [← hcm] at hmk
                  have hcm2 : cm < 2097152 := by omega
                  obtain ⟨cn, hcn⟩ : ∃ cn : Nat, (cn : Int) = (cm : Int) % 1114112 := ⟨cm % 1114112, by omega⟩
                  have hcn2 : cn < 1114112 := by omega
                  have htm : (cm : Int).tmod 1114112 = (cn : Int) := by rw [Int.tmod_eq_emod_of_nonneg (by omega)]; exact hcn.symm
                  have htd : (cn : Int).tdiv 64 = ((cn / 64 : Nat) : Int) := by rw [Int.tdiv_eq_ediv_of_nonneg (by omega)]; omega
                  have htr : (cn : Int).tmod 64 = ((cn % 64 : Nat) : Int) := by rw [Int.tmod_eq_emod_of_nonneg (by omega)]; omega
                  clear hcm hcn
                  have hp : cn / 64 < 17408 := by omega
                  obtain ⟨zc, _⟩ := (unhide HBC4) wr hbe (cn / 64) (by omega)
                  rw [(unhide HIXA) _ hp] at zc
                  obtain ⟨hbz, hzn⟩ := (unhide HBI) _ hp
                  have t1m := HB t1 hbe
                  have K1 := hide ((unhide HBK) _ wr hzn t1m)
                  rw [hbz] at K1
                  have h64 := Tri.blk_len (Tri.get d xs) (cn / 64)
                  have hbv := Tri.blk_at (Tri.get d xs) (cn / 64) (cn % 64) (by omega)
                  rw [show 64 * (cn / 64) + cn % 64 = cn by omega] at hbv
                  have hgr := Tri.get_range (c := (cn : Int)) hdr (unhide HV)
                  have HG := fun w h => hide (C.get (.pointer (some a1)) xs d (cn : Int) w h ⟨by omega, by omega⟩)
                  clear hbz
                  generalize Tri.get d xs (cn : Int) = gv at *
                  generalize Tri.blk (Tri.get d xs) (cn / 64) = bl at *
                  generalize (Tri.idx (Tri.get d xs)).getD (cn / 64) 0 = z at *
                  have hst := fun w => store_new w bl h64
                  have hag : ((arrA bl).toList : List Value) = bl.map (Value.int .u16) := by simp [arrA]
                  go_wp2_with fail
                  refine (unhide K1).mono ?_
                  rintro e w3 ⟨rfl, hb3⟩
                  have hb03 := bthen hbe hb3
                  have hba : Below wE.heap.size wE (w3.alloc (.cells (arrA bl) 48)) := hb03.alloc hb03.size _
                  have hbx := (Box.new w3 bl).at (cn % 64) (by omega)
                  rw [hbv] at hbx
                  have t1n := HB t1 hba
                  clear K1 hb3 hb03 t1m hbv
                  go_upto_region 36 with fail
                  clear hst
                  generalize w3.alloc (.cells (arrA bl) 48) = wa at *
                  generalize w3.heap.size = ga at *
                  have HG := fun n => HG (wa.drewN n) (HB t1n (below_drewN (Below.refl _ _) n))
                  go_wp2
                  go_quiet (first | (go_at_call 13; exact Calls.quiet_of (unhide (HG _))))
                  have hbn := below_drewN hba nq
                  go_wp2
                  go_roundw
                  case rel => exact ⟨m + 1, by go_num, by omega, hbn⟩
                  case measure => simp [intOf]; omega
                · have hWE := bthen hW hbe
                  by_cases hmc : m < cs.length
                  · have hm60 : ¬ ((m : Int) < 60) := by omega
                    go_wp2
                    go_ret
                    exact ⟨rfl, hWE⟩
                  · have hmc' : ¬ ((m : Int) < (cs.length : Int)) := by omega
                    go_wp2
                    go_ret
                    exact ⟨rfl, hWE⟩
  · have z2 : ((Tri.check d xs).2 == 0) = false := beq_eq_false_iff_ne.2 k1
    have z3 : ((Tri.check d xs).2 != 0) = true := by simp [k1]
    generalize (Tri.check d xs).1 = c1 at *
    generalize (Tri.check d xs).2 = c2 at *
    go_wp2_with fail
    refine (unhide (HT _)).mono ?_
    rintro e w5 ⟨rfl, hb5⟩
    have hb05 := bthen hb02 hb5
    clear HT hb5 hb02 k1
    go_wp2
    go_ret
    exact ⟨rfl, hb05⟩
end Go.Proofs.Ytehdeipeehaejaa
