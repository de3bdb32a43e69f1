import Derived.Test.YtbbmaokeibafkaaGreatDoorN35
import Derived.Test.YtbbmaokeibafkaaGreatDoorN37
import Derived.Test.YtbbmaokeibafkaaGreatDoorN33
import Derived.Test.YtbbmaokeibafkaaGreatDoorN21
import Derived.Test.YtbbmaokeibafkaaGreatDoorN29
import Derived.Test.YtbbmaokeibafkaaGreatDoorN28
import Derived.Deep.RegionHeld
namespace Go.Proofs.YtbbmaokeibafkaaGreatDoor
open Go.RowKit Go.Shelf
namespace Cn
theorem at_once6 {l : List Rec} (h : (check6 l).2 = 0) {f c : Int} (hf : f ≠ 10) {k j : Nat} (hk : k < l.length) (hj : j < l.length) (fk : fam l[k].kind = f) (fj : fam l[j].kind = f) (sk : speaks l[k] c = true) (sj : speaks l[j] c = true) : k = j := by
  obtain ⟨_, hr, hp⟩ := check6_iff.1 h
  have no : ∀ a b, (ha : a < l.length) → (hb : b < l.length) → a < b → fam l[a].kind = f → fam l[b].kind = f → speaks l[a] c = true → speaks l[b] c = true → False := fun a b ha hb hab fa fb sa sb => by
    have h0 := List.pairwise_iff_getElem.1 hp a b ha hb hab
    have h1 := (clash_iff (hr _ (List.getElem_mem ha)) (hr _ (List.getElem_mem hb)) (by rw [fa, fb]) (fun e => hf (by rw [← fa, e]; exact fam_mix)) (fun e => hf (by rw [← fb, e]; exact fam_mix))).2 ⟨c, sa, sb⟩
    rw [h1] at h0
    cases h0
  rcases Nat.lt_trichotomy k j with hh | hh | hh
  · exact (no k j hk hj hh fk fj sk sj).elim
  · exact hh
  · exact (no j k hj hk hh fj fk sj sk).elim
theorem once_rev6 {l : List Rec} (h : (check6 l).2 = 0) {f c : Int} (hf : f ≠ 10 ∧ f ≠ 0) :
    (find l f c < 0 ∧ find l.reverse f c < 0) ∨ ∃ k m : Nat, k + m + 1 = l.length ∧ find l f c = (k : Int) ∧ find l.reverse f c = (m : Int) := by
  have e1 : find l f c = findA f c 0 l := if_neg (by omega)
  have e2 : find l.reverse f c = findA f c 0 l.reverse := if_neg (by omega)
  rw [e1, e2]
  by_cases h1 : 0 ≤ findA f c 0 l
  · obtain ⟨k, hk, ek, fk, sk⟩ := findA_hit f c l 0 h1
    have h2 : 0 ≤ findA f c 0 l.reverse := findA_some f c _ 0 ⟨l[k], by simp, fk, sk⟩
    obtain ⟨m, hm, em, fm, sm⟩ := findA_hit f c l.reverse 0 h2
    have hm' : m < l.length := by simpa using hm
    rw [List.getElem_reverse] at fm sm
    have := at_once6 h hf.1 hk (by omega) fk fm sk sm
    exact .inr ⟨k, m, by omega, by rw [ek]; simp, by rw [em]; simp⟩
  · refine .inl ⟨by omega, ?_⟩
    by_cases h2 : 0 ≤ findA f c 0 l.reverse
    · obtain ⟨m, hm, em, fm, sm⟩ := findA_hit f c l.reverse 0 h2
      exact absurd (findA_some f c l 0 ⟨_, by simp, fm, sm⟩) h1
    · omega
end Cn
theorem rcells_snoc6 (ps : List (Rec × Value)) (q : Rec × Value) : rcells (ps ++ [q]) = rcells ps ++ rcell q := by
  unfold rcells
  rw [List.flatMap_append]
  simp
theorem row_rcs6 {w : World} {B : Nat} {v : Value} {ps : List (Rec × Value)} (h : w.ownsRow B 38 8 v ps.length (rcells ps)) (h2 : ∀ p ∈ ps, Sk .i32 w p.2 p.1.to) (hl : ps.length ≤ 1000000000) (hf : ∀ p ∈ ps, RecFit p.1) : Rcs w v (ps.map (·.1)) := by
  refine ⟨by simpa using hl, fun r hr => ?_, ?_⟩
  · obtain ⟨p, hp, rfl⟩ := List.mem_map.1 hr
    exact hf p hp
  · rcases h.2 with ⟨hv, h0⟩ | ⟨g, cap, cur, hv, hg, hh, hn, hcap, hsz, htake⟩
    · have h1 : ps = [] := List.eq_nil_of_length_eq_zero h0
      exact .inl ⟨by rw [h1]; rfl, none, 0, hv, by omega⟩
    · refine .inr ⟨g, 0, cap, by rw [hv, List.length_map], by simpa using hn, by unfold maxLen at hcap; omega, fun i hi => ?_⟩
      rw [List.length_map] at hi
      have hm : ps.getD i (Cn.none, undef) ∈ ps := by simp [List.getD, hi]
      have hrec : (ps.map (·.1)).getD i Cn.none = (ps.getD i (Cn.none, undef)).1 := by simp [List.getD, hi]
      have hc : ∀ j u, j < 8 → (rcell (ps.getD i (Cn.none, undef)))[j]? = some u → w.cell? ⟨g, 0 + i * 8 + j, none⟩ = some u := by
        intro j u hj hu
        have e := h.cells (g := g) (by rw [hv]; rfl) (i * 8 + j) u (by rw [rcells_at ps i j hi hj]; exact hu)
        rw [addr_add] at e
        rw [show 0 + i * 8 + j = 0 + (i * 8 + j) by omega]; exact e
      rw [hrec]
      exact ⟨hc 0 _ (by omega) rfl, hc 1 _ (by omega) rfl, hc 2 _ (by omega) rfl, hc 3 _ (by omega) rfl, ⟨_, hc 4 _ (by omega) rfl, h2 _ hm⟩, hc 5 _ (by omega) rfl, hc 6 _ (by omega) rfl, hc 7 _ (by omega) rfl⟩
set_option maxRecDepth 20000 in
set_option maxHeartbeats 4000000 in
theorem once_law6 (v cv : Value) (rs0 : List Rec) (cs : List Int) (w : World) (hg : Glob w) (hs : Sn.Glob w) (hl : Rcs w v rs0) (hcs : Sk .i32 w cv cs) : Calls Tryz.prog 6 #[v, cv] w (BoolB w true) := by
  obtain ⟨i1, hj, hy0, hy1, hy2⟩ := info_parts Tryz.info38
  obtain ⟨ao, lc, rfl, hc1, hc2⟩ := hl.shape
  obtain ⟨co, cc, hcv, hd1, hd2⟩ := hcs.shape
  subst hcv
  have hlen : (rs0.take 60).length ≤ 60 := by rw [List.length_take]; omega
  have hfit : ∀ r ∈ rs0.take 60, RecFit r := fun r hr => hl.2.1 r (List.mem_of_mem_take hr)
  have hcl := hcs.len
  have hr0 := hl.1
  have K1 := hide (few_any6 _ rs0 60 w hl (by decide))
  have HG := hide hg
  have HS := hide hs
  have HCS := hide hcs
  have HFIT := hide hfit
  clear hg hs hl hfit hcs
  generalize hns : rs0.take 60 = rs at *
  clear hns
  generalize hN : rs0.length = N at *
  clear hN
  go_enter Tryz.func6, Tryz.ntmps6
  go_wp2_with fail
  refine (unhide K1).mono ?_
  rintro e w1 ⟨g, cap, ps, rfl, hF, b1⟩
  have hR := fw_rcs6 hF (by omega) (unhide HFIT)
  have K2 := hide (check_any _ _ w1 ((unhide HG).on b1) hR)
  have hO := fw_rown6 hF
  have hpl : ps.length = rs.length := by rw [← hF.map, List.length_map]
  have HMAP := hide hF.map
  have HR := hide hR
  have HO := hide hO
  have HB := hide b1
  clear K1 hF hR hO b1
  generalize hq : Cn.check6 rs = q at *
  have HQ := hide hq
  clear hq
  obtain ⟨q1, q2⟩ := q
  go_wp2_with fail
  refine (unhide K2).mono ?_
  rintro e w2 ⟨rfl, b2⟩
  have HB2 := hide (bthen (unhide HB) b2)
  have HR2 := hide ((unhide HR).below b2)
  have HO2 := hide ((unhide HO).on7 b2)
  clear K2 HB HR HO b2
  by_cases hz : q2 = 0
  · subst hz
    have HCLS : Hid (∀ W i, Below w2.heap.size w2 W → i < ps.length → ∃ (r : Rec) (ao : Option Addr) (len cp : Nat), ps[i]? = some (r, .slice ao len cp) ∧ W.cell? ⟨g, i * 8, none⟩ = some (.int .i64 r.kind) ∧ W.cell? ⟨g, i * 8 + 1, none⟩ = some (.int .i64 r.lo) ∧ W.cell? ⟨g, i * 8 + 2, none⟩ = some (.int .i64 r.hi) ∧ W.cell? ⟨g, i * 8 + 3, none⟩ = some (.int .i64 r.n) ∧ W.cell? ⟨g, i * 8 + 4, none⟩ = some (.slice ao len cp) ∧ W.cell? ⟨g, i * 8 + 5, none⟩ = some (.string r.name) ∧ W.cell? ⟨g, i * 8 + 6, none⟩ = some (.string r.other) ∧ W.cell? ⟨g, i * 8 + 7, none⟩ = some (.float .f64 r.wt)) := fun W i hW hi => by
      have h0 : Rown W w.heap.size (.slice (some ⟨g, 0, none⟩) ps.length cap) ps := by rw [hpl]; exact (unhide HO2).on7 hW
      obtain ⟨r, ao, len, cp, e, x0, x1, x2, x3, x4, x5, x6, x7, _⟩ := h0.cells8 (i := i) hi
      exact ⟨r, ao, len, cp, by rw [List.getElem?_eq_getElem hi, e], x0, x1, x2, x3, x4, x5, x6, x7⟩
    have HSKS : Hid (∀ p ∈ ps, Sk .i32 w2 p.2 p.1.to) := fun p hp => ((unhide HO2).2 p hp).sk
    have hcap : rs.length ≤ cap ∧ cap ≤ 9223372036854775807 := by
      obtain ⟨_, _, he, p1, p2⟩ := (unhide HR2).shape
      obtain ⟨_, _, q3⟩ := Value.slice.inj he
      subst q3
      exact ⟨p1, p2⟩
    clear HO2
    generalize hn : rs.length = n at *
    have HN := hide hn
    clear hn
    go_wp2_with fail
    go_loopw [8, 9] (fun bv iv wr => ∃ i : Nat, iv = .int .i64 ((i : Int) - 1) ∧ i ≤ n ∧ wr.ownsRow w2.heap.size 38 8 bv (n - i) (rcells (ps.drop i).reverse) ∧ Below w2.heap.size w2 wr) (fun _ iv _ => (intOf iv + 1).toNat)
    case atStart => exact ⟨n, rfl, by omega, by rw [List.drop_of_length_le (by omega), Nat.sub_self]; exact World.ownsRow_nil _ _ _ _, Below.refl _ _⟩
    case round =>
      obtain ⟨i, rfl, hi, hrow, hbr⟩ := hrel
      by_cases hlt : 0 < i
      · obtain ⟨k, rfl⟩ : ∃ k, i = k + 1 := ⟨i - 1, by omega⟩
        have hcast : (((k + 1 : Nat) : Int) - 1) = (k : Int) := by omega
        rw [hcast]
        obtain ⟨r, rao, rlen, rcp, hat, x0, x1, x2, x3, x4, x5, x6, x7⟩ := (unhide HCLS) wr k hbr (by omega)
        have hdrop : (ps.drop k).reverse = (ps.drop (k + 1)).reverse ++ [(r, .slice rao rlen rcp)] := by
          have hk : k < ps.length := by omega
          rw [List.drop_eq_getElem_cons hk, List.reverse_cons]
          rw [List.getElem?_eq_getElem hk] at hat
          rw [Option.some.inj hat]
        have HDR := hide hdrop
        have HM : Hid (∀ o, (wr.alloc o).ownsRow w2.heap.size 38 8 u8 (n - (k + 1)) (rcells (ps.drop (k + 1)).reverse)) := fun o => hrow.alloc o
        have HNEW := hide (rec_new2 wr wr.heap.size rfl r (.slice rao rlen rcp))
        have HONE := hide (rec_one r (vt := .slice rao rlen rcp) rfl)
        have HGB : Hid (∀ o W, (wr.alloc o).grownBy W u8.ownBlock → Below w2.heap.size w2 W) := fun o W hW => (hbr.alloc hbr.size o).grown hW (by have := hbr.size; simp; omega) (fun j hj => (hrow.lt j hj).1)
        have hws := hbr.size
        clear hat hdrop hrow hbr hcast
        go_wp2_with (at_builtin; refine wpList_append_own _ rfl (.tmp 31) (.tmp 36) 22 rfl w2.heap.size 38 i1 (.agg #[.int .i64 0, .int .i64 0, .int .i64 0, .int .i64 0, .slice none 0 0, .string ⟨#[]⟩, .string ⟨#[]⟩, .float .f64 0]) 8 96 Tryz.underlying22 hj hy0 hy1 hy2 rfl (by decide) _ _ _ rfl ((unhide HM) _) ⟨wr.heap.size, 0, none⟩ 1 1 (rcell (r, .slice rao rlen rcp)) rfl rfl (unhide HNEW) (unhide HONE) (by unfold maxLen; omega) (by omega) (by simp; omega) ?_)
        intro v10 w10 hrow10 hg10 _
        have HR10 := hide hrow10
        have HB10 := hide ((unhide HGB) _ w10 hg10)
        clear HM HNEW HONE HGB hrow10 hg10 x0 x1 x2 x3 x4 x5 x6 x7
        go_wp2
        go_roundw
        case rel => exact ⟨k, by go_num, by omega, by rw [unhide HDR, rcells_snoc6, show n - k = n - (k + 1) + 1 by omega]; exact unhide HR10, unhide HB10⟩
        case measure => simp [intOf]
      · obtain rfl : i = 0 := by omega
        rw [show ((0 : Nat) : Int) - 1 = -1 from rfl]
        rw [List.drop_zero, Nat.sub_zero] at hrow
        obtain ⟨W0, hW0⟩ : ∃ W, W = wr := ⟨_, rfl⟩
        subst hW0
        have hrev : (ps.reverse).map (·.1) = rs.reverse := by rw [List.map_reverse, unhide HMAP]
        have hRB : Rcs W0 u8 rs.reverse := by
          rw [← hrev]
          refine row_rcs6 (by rw [List.length_reverse, hpl]; exact hrow) (fun p hp => ((unhide HSKS) p (List.mem_reverse.1 hp)).below hbr) (by rw [List.length_reverse]; omega) (fun p hp => (unhide HFIT) _ (by rw [← unhide HMAP]; exact List.mem_map.2 ⟨p, List.mem_reverse.1 hp, rfl⟩))
        obtain ⟨bo, bc, hbv, _, _⟩ := hRB.shape
        have hBW := bthen (unhide HB2) hbr
        have KF : Hid (∀ W f c, Below W0.heap.size W0 W → I64 f → (-2147483648 ≤ c ∧ c ≤ 2147483647) → Calls Tryz.prog 13 #[.slice (some ⟨g, 0, none⟩) n cap, .int .i64 f, .int .i32 c] W (IntB W (Cn.find rs f c))) := fun W f c hW h1 h2 => find_any _ _ f c W ((unhide HG).on (bthen hBW hW)) ((unhide HR2).below (bthen hbr hW)) h1 h2
        have KR : Hid (∀ W f c, Below W0.heap.size W0 W → I64 f → (-2147483648 ≤ c ∧ c ≤ 2147483647) → Calls Tryz.prog 13 #[u8, .int .i64 f, .int .i32 c] W (IntB W (Cn.find rs.reverse f c))) := fun W f c hW h1 h2 => find_any _ _ f c W ((unhide HG).on (bthen hBW hW)) (hRB.below hW) h1 h2
        have KX : Hid (∀ W k, k < cs.length → Below W0.heap.size W0 W → ∃ b off, co = some ⟨b, off, none⟩ ∧ W.cell? ⟨b, off + k, none⟩ = some (.int .i32 (cs.getD k 0))) := fun W k hk hW => by
          obtain ⟨b, off, cp, he, _, _, hc⟩ := ((unhide HCS).below (bthen hBW hW)).place (by omega)
          exact ⟨b, off, (Value.slice.inj he).1, hc k hk⟩
        have KC : Hid (∀ k, k < cs.length → -2147483648 ≤ cs.getD k 0 ∧ cs.getD k 0 ≤ 2147483647) := fun k hk => rune_of (unhide HCS) hk
        have KO : Hid (∀ f c, f ≠ 10 ∧ f ≠ 0 → (Cn.find rs f c < 0 ∧ Cn.find rs.reverse f c < 0) ∨ ∃ k m : Nat, k + m + 1 = n ∧ Cn.find rs f c = (k : Int) ∧ Cn.find rs.reverse f c = (m : Int)) := fun f c hf => by
          have := Cn.once_rev6 (l := rs) (f := f) (c := c) (by rw [unhide HQ]) hf
          rw [unhide HN] at this
          exact this
        have HBW := hide hBW
        rw [List.length_reverse, unhide HN] at hbv
        clear HR2 HCLS HSKS HMAP HQ HFIT HCS HB2 hrow hrev hRB hBW hbr HN
        subst hbv
        go_wp2_with fail
        go_loopw [10] (fun iv wx => ∃ k : Nat, iv = .int .i64 k ∧ k ≤ cs.length ∧ k ≤ 40 ∧ Below W0.heap.size W0 wx) (fun iv _ => 40 - (intOf iv).toNat)
        case atStart => exact ⟨0, rfl, by omega, by omega, Below.refl _ _⟩
        case round =>
          obtain ⟨k, rfl, hk, hk4, hbx⟩ := hrel
          by_cases hlt : k < cs.length ∧ k < 40
          · obtain ⟨hlt, hlt4⟩ := hlt
            obtain ⟨b, off, rfl, hx0⟩ := (unhide KX) W0 k hlt (Below.refl _ _)
            have hrc := (unhide KC) k hlt
            have HX : Hid (∀ W, Below W0.heap.size W0 W → W.cell? ⟨b, off + k, none⟩ = some (.int .i32 (cs.getD k 0))) := fun W hW => by rw [hW.cell (lt_of_cell? hx0)]; exact hx0
            have HBX := hide hbx
            clear KX KC hx0 hbx
            generalize cs.getD k 0 = c at *
            go_wp2_with fail
            generalize decide ((k : Int) < 40) = dk at *
            go_loopw [11] (fun fv wy => ∃ m : Nat, fv = .int .i64 m ∧ 1 ≤ m ∧ m ≤ 10 ∧ Below W0.heap.size W0 wy) (fun fv _ => 10 - (intOf fv).toNat)
            case atStart => exact ⟨1, rfl, by omega, by omega, unhide HBX⟩
            case round =>
              obtain ⟨m, rfl, hm1, hm2, hby⟩ := hrel
              clear HBX
              by_cases hm : m < 10
              · have hfm : ((m : Int) ≠ 10 ∧ (m : Int) ≠ 0) := ⟨by omega, by omega⟩
                have hI : I64 (m : Int) := by unfold I64; omega
                have hone := (unhide KO) (m : Int) c hfm
                have KA : Hid (∀ W, Below W0.heap.size W0 W → Calls Tryz.prog 13 #[.slice (some ⟨g, 0, none⟩) n cap, .int .i64 (m : Int), .int .i32 c] W (IntB W (Cn.find rs m c))) := fun W hW => (unhide KF) W m c hW hI hrc
                have KB : Hid (∀ W, Below W0.heap.size W0 W → Calls Tryz.prog 13 #[.slice bo n bc, .int .i64 (m : Int), .int .i32 c] W (IntB W (Cn.find rs.reverse m c))) := fun W hW => (unhide KR) W m c hW hI hrc
                have HONE := hide hone
                have HBY := hide hby
                clear hone hby KF KR KO
                generalize Cn.find rs (m : Int) c = fa at *
                generalize Cn.find rs.reverse (m : Int) c = fb at *
                go_wp2_with fail
                refine wp_region_held_drew (S := fun w' => Below W0.heap.size W0 w') (by kernel_rfl) (bthen (unhide HBY) (drewB ⟨1, rfl⟩)) (fun hHeld => ?_)
                refine wpAnyH_take (i := 0) (oi := { dst := some 52, op := Op.move (Operand.tmp 5), type := 22, pos := "law.go:160", after := #[], guard := none }) (v := .slice (some ⟨g, 0, none⟩) n cap) rfl (by kernel_rfl) (by kernel_rfl) (by kernel_rfl) (fun _ _ _ h => h) (Or.inl ⟨by rfl, ?_⟩) hHeld ?_
                · intro w hSw
                  go_simp
                try simp only [Act.put, List.setIfInBounds_toArray, List.set_cons_zero, List.set_cons_succ]
                refine wpAnyH_take (i := 1) (oi := { dst := some 53, op := Op.move (Operand.tmp 11), type := 3, pos := "law.go:160", after := #[], guard := none }) (v := .int .i64 (m : Int)) rfl (by kernel_rfl) (by kernel_rfl) (by kernel_rfl) (fun _ _ _ h => h) (Or.inl ⟨by rfl, ?_⟩) hHeld ?_
                · intro w hSw
                  go_simp
                try simp only [Act.put, List.setIfInBounds_toArray, List.set_cons_zero, List.set_cons_succ]
                refine wpAnyH_take (i := 2) (oi := { dst := some 54, op := Op.move (Operand.tmp 1), type := 32, pos := "law.go:160", after := #[], guard := none }) (v := .slice (some ⟨b, off, none⟩) cs.length cc) rfl (by kernel_rfl) (by kernel_rfl) (by kernel_rfl) (fun _ _ _ h => h) (Or.inl ⟨by rfl, ?_⟩) hHeld ?_
                · intro w hSw
                  go_simp
                try simp only [Act.put, List.setIfInBounds_toArray, List.set_cons_zero, List.set_cons_succ]
                refine wpAnyH_take (i := 3) (oi := { dst := some 55, op := Op.move (Operand.tmp 10), type := 3, pos := "law.go:160", after := #[], guard := none }) (v := .int .i64 (k : Int)) rfl (by kernel_rfl) (by kernel_rfl) (by kernel_rfl) (fun _ _ _ h => h) (Or.inl ⟨by rfl, ?_⟩) hHeld ?_
                · intro w hSw
                  go_simp
                try simp only [Act.put, List.setIfInBounds_toArray, List.set_cons_zero, List.set_cons_succ]
                refine wpAnyH_take (i := 4) (oi := { dst := some 56, op := Op.indexAddr 32 (Operand.tmp 54) (Operand.tmp 55), type := 0, pos := "law.go:160", after := #[{ on := 2, ground := Ground.data }, { on := 3, ground := Ground.data }], guard := none }) (v := .pointer (some ⟨b, off + k, none⟩)) rfl (by kernel_rfl) (by kernel_rfl) (by kernel_rfl) (fun _ _ _ h => h) (Or.inl ⟨by rfl, ?_⟩) hHeld ?_
                · intro w hSw
                  go_simp
                try simp only [Act.put, List.setIfInBounds_toArray, List.set_cons_zero, List.set_cons_succ]
                refine wpAnyH_take (i := 5) (oi := { dst := some 57, op := Op.load 21 (Operand.tmp 56), type := 21, pos := "law.go:160", after := #[{ on := 4, ground := Ground.data }], guard := none }) (v := .int .i32 c) rfl (by kernel_rfl) (by kernel_rfl) (by kernel_rfl) (fun _ _ _ h => h) (Or.inl ⟨by rfl, ?_⟩) hHeld ?_
                · intro w hSw
                  have s0 := (unhide HX) w hSw; go_simp
                try simp only [Act.put, List.setIfInBounds_toArray, List.set_cons_zero, List.set_cons_succ]
                refine wpAnyH_take (i := 7) (oi := { dst := some 59, op := Op.move (Operand.tmp 8), type := 22, pos := "law.go:160", after := #[], guard := none }) (v := .slice bo n bc) rfl (by kernel_rfl) (by kernel_rfl) (by kernel_rfl) (fun _ _ _ h => h) (Or.inl ⟨by rfl, ?_⟩) hHeld ?_
                · intro w hSw
                  go_simp
                try simp only [Act.put, List.setIfInBounds_toArray, List.set_cons_zero, List.set_cons_succ]
                refine wpAnyH_take (i := 8) (oi := { dst := some 60, op := Op.move (Operand.tmp 11), type := 3, pos := "law.go:160", after := #[], guard := none }) (v := .int .i64 (m : Int)) rfl (by kernel_rfl) (by kernel_rfl) (by kernel_rfl) (fun _ _ _ h => h) (Or.inl ⟨by rfl, ?_⟩) hHeld ?_
                · intro w hSw
                  go_simp
                try simp only [Act.put, List.setIfInBounds_toArray, List.set_cons_zero, List.set_cons_succ]
                refine wpAnyH_take (i := 9) (oi := { dst := some 61, op := Op.move (Operand.tmp 1), type := 32, pos := "law.go:160", after := #[], guard := none }) (v := .slice (some ⟨b, off, none⟩) cs.length cc) rfl (by kernel_rfl) (by kernel_rfl) (by kernel_rfl) (fun _ _ _ h => h) (Or.inl ⟨by rfl, ?_⟩) hHeld ?_
                · intro w hSw
                  go_simp
                try simp only [Act.put, List.setIfInBounds_toArray, List.set_cons_zero, List.set_cons_succ]
                refine wpAnyH_take (i := 10) (oi := { dst := some 62, op := Op.move (Operand.tmp 10), type := 3, pos := "law.go:160", after := #[], guard := none }) (v := .int .i64 (k : Int)) rfl (by kernel_rfl) (by kernel_rfl) (by kernel_rfl) (fun _ _ _ h => h) (Or.inl ⟨by rfl, ?_⟩) hHeld ?_
                · intro w hSw
                  go_simp
                try simp only [Act.put, List.setIfInBounds_toArray, List.set_cons_zero, List.set_cons_succ]
                refine wpAnyH_take (i := 11) (oi := { dst := some 63, op := Op.indexAddr 32 (Operand.tmp 61) (Operand.tmp 62), type := 0, pos := "law.go:160", after := #[{ on := 9, ground := Ground.data }, { on := 10, ground := Ground.data }], guard := none }) (v := .pointer (some ⟨b, off + k, none⟩)) rfl (by kernel_rfl) (by kernel_rfl) (by kernel_rfl) (fun _ _ _ h => h) (Or.inl ⟨by rfl, ?_⟩) hHeld ?_
                · intro w hSw
                  go_simp
                try simp only [Act.put, List.setIfInBounds_toArray, List.set_cons_zero, List.set_cons_succ]
                refine wpAnyH_take (i := 12) (oi := { dst := some 64, op := Op.load 21 (Operand.tmp 63), type := 21, pos := "law.go:160", after := #[{ on := 11, ground := Ground.data }], guard := none }) (v := .int .i32 c) rfl (by kernel_rfl) (by kernel_rfl) (by kernel_rfl) (fun _ _ _ h => h) (Or.inl ⟨by rfl, ?_⟩) hHeld ?_
                · intro w hSw
                  have s0 := (unhide HX) w hSw; go_simp
                try simp only [Act.put, List.setIfInBounds_toArray, List.set_cons_zero, List.set_cons_succ]
                refine wpAnyH_ready (rs := [6]) (by kernel_rfl) (by simp) ?_
                refine AllReadyH.cons (o := { dst := some 58, op := Op.call { callee := Callee.value (Operand.func 13), args := #[Operand.tmp 52, Operand.tmp 53, Operand.tmp 57], argTypes := #[22, 3, 21] }, type := 3, pos := "law.go:160", after := #[{ on := 0, ground := Ground.data }, { on := 1, ground := Ground.data }, { on := 5, ground := Ground.data }], guard := none }) rfl (fun K hK => ?_) AllReadyH.nil
                go_simp
                refine ((unhide KA) _ hHeld).mono ?_
                rintro e w2' ⟨rfl, hb2⟩
                go_wp2_with fail
                refine hK.out _ _ ?_ (fun hHeld2 => ?_)
                · exact bthen hHeld hb2
                clear hK K hb2 hHeld
                have hHeld := hHeld2
                clear hHeld2
                try simp only [Act.put, List.setIfInBounds_toArray, List.set_cons_zero, List.set_cons_succ]
                refine wpAnyH_ready (rs := [13]) (by kernel_rfl) (by simp) ?_
                refine AllReadyH.cons (o := { dst := some 65, op := Op.call { callee := Callee.value (Operand.func 13), args := #[Operand.tmp 59, Operand.tmp 60, Operand.tmp 64], argTypes := #[22, 3, 21] }, type := 3, pos := "law.go:160", after := #[{ on := 7, ground := Ground.data }, { on := 8, ground := Ground.data }, { on := 12, ground := Ground.data }, { on := 6, ground := Ground.chain }], guard := none }) rfl (fun K hK => ?_) AllReadyH.nil
                go_simp
                refine ((unhide KB) _ hHeld).mono ?_
                rintro e w2' ⟨rfl, hb2⟩
                go_wp2_with fail
                refine hK.out _ _ ?_ (fun hHeld2 => ?_)
                · exact bthen hHeld hb2
                clear hK K hb2 hHeld
                have hHeld := hHeld2
                clear hHeld2
                try simp only [Act.put, List.setIfInBounds_toArray, List.set_cons_zero, List.set_cons_succ]
                refine wpAnyH_take (i := 14) (oi := { dst := some 12, op := Op.assign (Operand.tmp 58), type := 3, pos := "law.go:160", after := #[{ on := 6, ground := Ground.data }, { on := 13, ground := Ground.chain }, { on := 0, ground := Ground.phase }, { on := 1, ground := Ground.phase }, { on := 2, ground := Ground.phase }, { on := 3, ground := Ground.phase }, { on := 4, ground := Ground.phase }, { on := 5, ground := Ground.phase }, { on := 6, ground := Ground.phase }, { on := 7, ground := Ground.textOnly Departure.lateStores }, { on := 8, ground := Ground.textOnly Departure.lateStores }, { on := 9, ground := Ground.textOnly Departure.lateStores }, { on := 10, ground := Ground.textOnly Departure.lateStores }, { on := 11, ground := Ground.textOnly Departure.lateStores }, { on := 12, ground := Ground.textOnly Departure.lateStores }, { on := 13, ground := Ground.textOnly Departure.lateStoresUnsure }], guard := none }) (v := .int .i64 fa) rfl (by kernel_rfl) (by kernel_rfl) (by kernel_rfl) (fun _ _ _ h => h) (Or.inl ⟨by rfl, ?_⟩) hHeld ?_
                · intro w hSw
                  go_simp
                try simp only [Act.put, List.setIfInBounds_toArray, List.set_cons_zero, List.set_cons_succ]
                refine wpAnyH_take (i := 15) (oi := { dst := some 13, op := Op.assign (Operand.tmp 65), type := 3, pos := "law.go:160", after := #[{ on := 13, ground := Ground.data }, { on := 14, ground := Ground.chain }, { on := 0, ground := Ground.phase }, { on := 1, ground := Ground.phase }, { on := 2, ground := Ground.phase }, { on := 3, ground := Ground.phase }, { on := 4, ground := Ground.phase }, { on := 5, ground := Ground.phase }, { on := 6, ground := Ground.phase }, { on := 7, ground := Ground.phase }, { on := 8, ground := Ground.phase }, { on := 9, ground := Ground.phase }, { on := 10, ground := Ground.phase }, { on := 11, ground := Ground.phase }, { on := 12, ground := Ground.phase }, { on := 13, ground := Ground.phase }, { on := 14, ground := Ground.phase }], guard := none }) (v := .int .i64 fb) rfl (by kernel_rfl) (by kernel_rfl) (by kernel_rfl) (fun _ _ _ h => h) (Or.inl ⟨by rfl, ?_⟩) hHeld ?_
                · intro w hSw
                  go_simp
                try simp only [Act.put, List.setIfInBounds_toArray, List.set_cons_zero, List.set_cons_succ]
                refine wpAnyH_done (by kernel_rfl) ?_ _
                have HE := hide hHeld
                clear hHeld
                rcases unhide HONE with ⟨ha, hb⟩ | ⟨k2, m2, hkm, rfl, rfl⟩
                · have da : decide (fa < 0) = true := decide_eq_true ha
                  have db : decide (fb < 0) = true := decide_eq_true hb
                  clear HONE KA KB HX HBY
                  go_wp2_with fail
                  go_roundw
                  case rel => exact ⟨m + 1, by go_num, by omega, by omega, unhide HE⟩
                  case measure => simp [intOf]; omega
                · have e1 : ((k2 : Int) == (n : Int) - 1 - (m2 : Int)) = true := by rw [beq_iff_eq]; omega
                  have e2 : (n : Int) - 1 - (m2 : Int) = (k2 : Int) := by omega
                  have e3 : decide ((k2 : Int) < 0) = false := decide_eq_false (by omega)
                  have e4 : decide ((m2 : Int) < 0) = false := decide_eq_false (by omega)
                  clear HONE KA KB HX HBY
                  go_wp2_with fail
                  go_roundw
                  case rel =>
                    exact ⟨m + 1, by go_num, by omega, by omega, unhide HE⟩
                  case measure => simp [intOf]; omega
              · have HBY := hide hby
                clear hby KF KR KO HX
                go_wp2_with fail
                go_roundw
                case rel => exact ⟨k + 1, by go_num, by omega, by omega, unhide HBY⟩
                case measure => simp [intOf]; omega
          · have BR := bthen (unhide HBW) hbx
            have K2 := hide (told_any6 _ ((unhide HG).on BR) ((unhide HS).on BR))
            have HBR := hide BR
            clear KX KC KF KR KO hbx BR HBW
            by_cases hA : k < cs.length
            · have h40 : k = 40 := by omega
              subst h40
              go_wp2_with fail
              refine (unhide K2).mono ?_
              rintro e w3 ⟨rfl, b3⟩
              have HB3 := hide (bthen (unhide HBR) b3)
              clear K2 b3 HBR
              go_wp2
              go_ret
              exact ⟨rfl, unhide HB3⟩
            · have hke : k = cs.length := by omega
              clear hlt
              go_wp2_with fail
              refine (unhide K2).mono ?_
              rintro e w3 ⟨rfl, b3⟩
              have HB3 := hide (bthen (unhide HBR) b3)
              clear K2 b3 HBR
              go_wp2
              go_ret
              exact ⟨rfl, unhide HB3⟩
  · have K3 := hide (told_any6 w2 ((unhide HG).on (unhide HB2)) ((unhide HS).on (unhide HB2)))
    go_wp2_with fail
    refine (unhide K3).mono ?_
    rintro e w3 ⟨rfl, b3⟩
    have HF := hide (bthen (unhide HB2) b3)
    clear K3 b3 HB2
    go_wp2
    go_ret
    exact ⟨rfl, unhide HF⟩
end Go.Proofs.YtbbmaokeibafkaaGreatDoor
