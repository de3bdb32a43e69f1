/- The contracts of Index (and of the copy that it hands out) and of Block. -/
import Derived.Test.YtehdeipeehaejaaTrA4
import Derived.Lib.SliceRun
namespace Go.Proofs.Ytehdeipeehaejaa
open Go.RowKit

theorem Try.info47 : (Try.prog.info? 47).map (fun i => (i.zero, i.size, i.bytes)) = some (some (.int .u16 0), 1, 2) := by kernel_rfl
theorem Try.infoB : (Try.prog.info? 60).map (fun i => (i.size, i.bytes)) = some (64, 128) := by kernel_rfl
theorem infoBl {zs : List Int} (h : zs.length = 64) : (Try.prog.info? 60).map (·.size) = some (zs.map (Value.int .u16)).length := by rw [List.length_map, h]; kernel_rfl

theorem clone4 (v : Value) (zs : List Int) (w : World) (hv : Sk .u16 w v zs) (h0 : 0 < zs.length) (hl : zs.length ≤ 100000) :
    Calls Try.prog 26 #[v] w fun e w' => ∃ v', e = .returned v' ∧ Ok .u16 47 w' w.heap.size v' zs ∧ Below w.heap.size w w' := by
  obtain ⟨i0, hi, hz0, hz1, hz2⟩ := info_parts Try.info47
  have hfit := hide hv.1
  have hsr := hide hv.2.src
  obtain ⟨b, off, cap, rfl, h1, h2, h3⟩ := hv.place h0
  have HS : Hid (∀ j u, (zs.map (Value.int .u16))[j]? = some u → (w.alloc (.cells #[] 47)).cell? ((⟨b, off, none⟩ : Addr).add j) = some u) := by
    intro j u hj
    have hjl : j < zs.length := by have := (List.getElem?_eq_some_iff.1 hj).1; simpa using this
    have hc := h3 j hjl
    rw [addr_add, ((Below.refl w.heap.size w).alloc (Nat.le_refl _) _).cell (lt_of_cell? hc), hc, ← hj, List.getElem?_map, List.getElem?_eq_getElem hjl]
    simp [List.getD, hjl]
  have hrow : (w.alloc (.cells #[] 47)).ownsRow w.heap.size 47 1 (.slice (some ⟨w.heap.size, 0, none⟩) 0 0) 0 [] := World.ownsRow_made w #[] 0 (Nat.le_refl _) (by simp) rfl
  have hbel : Below w.heap.size w (w.alloc (.cells #[] 47)) := (Below.refl _ _).alloc (Nat.le_refl _) _
  have hsn : ∀ w' : World, (binOp .eql 40 (.slice (some ⟨b, off, none⟩) zs.length cap) (.slice none 0 0)).run Try.prog w' = .ok (.bool false) w' := fun w' => Lib.run_eql_slice_nil w' _ _ (some ⟨b, off, none⟩) _ _ _ _ Try.underlying40
  clear hv h3
  go_enter Try.func26, Try.ntmps26
  go_wp2_with (at_builtin; refine wpList_append_own _ rfl (.tmp 5) (.tmp 6) 40 rfl w.heap.size 47 i0 (.int .u16 0) 1 2 Try.underlying40 hi hz0 hz1 hz2 rfl (by decide) _ _ _ rfl hrow ⟨b, off, none⟩ zs.length cap (zs.map (Value.int .u16)) rfl (by simp) (unhide HS) (ints_one .u16 zs) (by unfold maxLen; omega) (by omega) (by simp) ?_)
  intro v9 w9 hr9 hg9 _
  have hb9 : Below w.heap.size w w9 := below_append30 (by simp) hrow hbel hg9
  have ok9 : Ok .u16 47 w9 w.heap.size v9 zs := Ok.of (unhide hfit) (by omega) hr9 (by simp) (by simp)
  clear hr9 hg9 hrow hbel HS
  go_wp2
  go_ret
  exact ⟨_, rfl, ok9, hb9⟩

theorem index4 (t : Value) (rs : List Tri.Rg) (d : Int) (w : World) (h : ∃ B, T4 w B t rs d) : Calls Try.prog 17 #[t] w (IdxPost w (Tri.idx (Tri.get d rs))) := by
  obtain ⟨B, h⟩ := h
  obtain ⟨g, iv, bv, rfl, c0, c1, c2, hi, _⟩ := h.parts
  have hlen : ((Tri.idx (Tri.get d rs)).map fun n : Nat => (n : Int)).length = 17408 := by rw [List.length_map, Tri.idx_len]
  have HC := hide (clone4 iv _ w hi (by omega) (by omega))
  clear hi h hlen
  go_enter Try.func17, Try.ntmps17
  go_wp2_with fail
  refine (unhide HC).mono ?_
  rintro e w1 ⟨v', rfl, h1, h2⟩
  clear HC
  go_wp2
  go_ret
  exact ⟨_, rfl, h1, h2⟩

theorem results_cellT {fn : Func} {p q : Tmp} {ty : TypeId} (h : fn.results = #[.cell p ty, .tmp q]) (tmps : Array Value) (P : Program) (w : World) (g : Nat) (v u : Value) (hp : tmps.getD p undef = .pointer (some ⟨g, 0, none⟩)) (hq : tmps.getD q undef = u) (hld : (loadVar ty ⟨g, 0, none⟩).run P w = .ok v w) :
    (results fn tmps).run P w = .ok (.tuple #[v, u]) w := by
  have e : (results fn tmps).run P w = ((asAddr (tmps.getD p undef)).run P w).andThen fun a w₁ => ((loadVar ty a).run P w₁).andThen fun x w₂ => .ok (.tuple #[x, tmps.getD q undef]) w₂ := by
    simp only [results, h]
    simp [Sem.run_bind, Result.andThen]
  rw [e, hp, hq]
  simp [asAddr, Result.andThen, hld]

def Zs : List Int := List.replicate 64 0
theorem Zs_len : Zs.length = 64 := by simp [Zs]

set_option maxRecDepth 20000 in
set_option maxHeartbeats 1000000 in
theorem block4 (t : Value) (rs : List Tri.Rg) (d i : Int) (w : World) (h : ∃ B, T4 w B t rs d) (hi : Fi i) : Calls Try.prog 21 #[t, .int .i64 i] w (BlkPost w (blkAt (Tri.bls (Tri.get d rs)) i)) := by
  obtain ⟨B, h⟩ := h
  obtain ⟨hi1, hi2⟩ := hi
  obtain ⟨g, iv, bv, rfl, c0, c1, c2, hI, hb⟩ := h.parts
  have hbn := Tri.bls_len (Tri.get d rs)
  clear h hI c0 c2
  generalize Tri.bls (Tri.get d rs) = bs at *
  have hA : Below w.heap.size w (w.alloc (.cells #[.int .u16 0, .int .u16 0, .int .u16 0, .int .u16 0, .int .u16 0, .int .u16 0, .int .u16 0, .int .u16 0, .int .u16 0, .int .u16 0, .int .u16 0, .int .u16 0, .int .u16 0, .int .u16 0, .int .u16 0, .int .u16 0, .int .u16 0, .int .u16 0, .int .u16 0, .int .u16 0, .int .u16 0, .int .u16 0, .int .u16 0, .int .u16 0, .int .u16 0, .int .u16 0, .int .u16 0, .int .u16 0, .int .u16 0, .int .u16 0, .int .u16 0, .int .u16 0, .int .u16 0, .int .u16 0, .int .u16 0, .int .u16 0, .int .u16 0, .int .u16 0, .int .u16 0, .int .u16 0, .int .u16 0, .int .u16 0, .int .u16 0, .int .u16 0, .int .u16 0, .int .u16 0, .int .u16 0, .int .u16 0, .int .u16 0, .int .u16 0, .int .u16 0, .int .u16 0, .int .u16 0, .int .u16 0, .int .u16 0, .int .u16 0, .int .u16 0, .int .u16 0, .int .u16 0, .int .u16 0, .int .u16 0, .int .u16 0, .int .u16 0, .int .u16 0] 48)) := (Below.refl w.heap.size w).alloc (Nat.le_refl _) _
  have hN : Blk (w.alloc (.cells #[.int .u16 0, .int .u16 0, .int .u16 0, .int .u16 0, .int .u16 0, .int .u16 0, .int .u16 0, .int .u16 0, .int .u16 0, .int .u16 0, .int .u16 0, .int .u16 0, .int .u16 0, .int .u16 0, .int .u16 0, .int .u16 0, .int .u16 0, .int .u16 0, .int .u16 0, .int .u16 0, .int .u16 0, .int .u16 0, .int .u16 0, .int .u16 0, .int .u16 0, .int .u16 0, .int .u16 0, .int .u16 0, .int .u16 0, .int .u16 0, .int .u16 0, .int .u16 0, .int .u16 0, .int .u16 0, .int .u16 0, .int .u16 0, .int .u16 0, .int .u16 0, .int .u16 0, .int .u16 0, .int .u16 0, .int .u16 0, .int .u16 0, .int .u16 0, .int .u16 0, .int .u16 0, .int .u16 0, .int .u16 0, .int .u16 0, .int .u16 0, .int .u16 0, .int .u16 0, .int .u16 0, .int .u16 0, .int .u16 0, .int .u16 0, .int .u16 0, .int .u16 0, .int .u16 0, .int .u16 0, .int .u16 0, .int .u16 0, .int .u16 0, .int .u16 0] 48)) w.heap.size Zs := Blk.new w Zs _ rfl
  have hb := hb.below hA
  have c1 : (w.alloc (.cells #[.int .u16 0, .int .u16 0, .int .u16 0, .int .u16 0, .int .u16 0, .int .u16 0, .int .u16 0, .int .u16 0, .int .u16 0, .int .u16 0, .int .u16 0, .int .u16 0, .int .u16 0, .int .u16 0, .int .u16 0, .int .u16 0, .int .u16 0, .int .u16 0, .int .u16 0, .int .u16 0, .int .u16 0, .int .u16 0, .int .u16 0, .int .u16 0, .int .u16 0, .int .u16 0, .int .u16 0, .int .u16 0, .int .u16 0, .int .u16 0, .int .u16 0, .int .u16 0, .int .u16 0, .int .u16 0, .int .u16 0, .int .u16 0, .int .u16 0, .int .u16 0, .int .u16 0, .int .u16 0, .int .u16 0, .int .u16 0, .int .u16 0, .int .u16 0, .int .u16 0, .int .u16 0, .int .u16 0, .int .u16 0, .int .u16 0, .int .u16 0, .int .u16 0, .int .u16 0, .int .u16 0, .int .u16 0, .int .u16 0, .int .u16 0, .int .u16 0, .int .u16 0, .int .u16 0, .int .u16 0, .int .u16 0, .int .u16 0, .int .u16 0, .int .u16 0] 48)).cell? ⟨g, 1, none⟩ = some bv := by rw [hA.cell (lt_of_cell? c1)]; exact c1
  have hge : w.heap.size ≤ w.heap.size := Nat.le_refl _
  by_cases hin : 0 ≤ i ∧ i < bs.length
  · obtain ⟨hin1, hin2⟩ := hin
    obtain ⟨k, rfl⟩ : ∃ k : Nat, i = (k : Int) := ⟨i.toNat, by omega⟩
    have hk : k < bs.length := by omega
    have hR : blkAt bs (k : Int) = (bs.getD k [], true) := by unfold blkAt; rw [if_pos ⟨hin1, hin2⟩]; rfl
    rw [hR]
    have hgood := hb.1 _ (Tri.getD_in hk)
    obtain ⟨bb, ob, capb, rfl, hb1, hb2, hb3⟩ := hb.place (by omega)
    have hbl := hb3 k hk
    have h64 := hgood.1
    clear hb3 hb hR hgood
    generalize bs.getD k [] = zs at *
    generalize bs.length = m at *
    go_enter Try.func21, Try.ntmps21
    go_upto_region 1 with fail
    generalize w.alloc (.cells #[.int .u16 0, .int .u16 0, .int .u16 0, .int .u16 0, .int .u16 0, .int .u16 0, .int .u16 0, .int .u16 0, .int .u16 0, .int .u16 0, .int .u16 0, .int .u16 0, .int .u16 0, .int .u16 0, .int .u16 0, .int .u16 0, .int .u16 0, .int .u16 0, .int .u16 0, .int .u16 0, .int .u16 0, .int .u16 0, .int .u16 0, .int .u16 0, .int .u16 0, .int .u16 0, .int .u16 0, .int .u16 0, .int .u16 0, .int .u16 0, .int .u16 0, .int .u16 0, .int .u16 0, .int .u16 0, .int .u16 0, .int .u16 0, .int .u16 0, .int .u16 0, .int .u16 0, .int .u16 0, .int .u16 0, .int .u16 0, .int .u16 0, .int .u16 0, .int .u16 0, .int .u16 0, .int .u16 0, .int .u16 0, .int .u16 0, .int .u16 0, .int .u16 0, .int .u16 0, .int .u16 0, .int .u16 0, .int .u16 0, .int .u16 0, .int .u16 0, .int .u16 0, .int .u16 0, .int .u16 0, .int .u16 0, .int .u16 0, .int .u16 0, .int .u16 0] 48) = w1 at *
    have hth : w1.there w.heap.size 0 64 := hN.there
    have hld := run_loadVar_mid (P := Try.prog) _ w.heap.size 0 48 (zs.map (Value.int .u16)) _ (World.rangeAt_setCells_same w1 w.heap.size 0 (zs.map (Value.int .u16)) (by rw [List.length_map, h64]; exact hth)) Try.underlying48 (by rfl) (infoArrL h64)
    have hbF : Below w.heap.size w (w1.setCells w.heap.size 0 (zs.map (Value.int .u16))) := below_setCells4 hge _ _ _ hA
    have hth2 : w1.there w.heap.size 0 (zs.map (Value.int .u16)).toArray.size := by simpa [h64] using hth
    have hsz : (Try.prog.info? 48).map (·.size) = some (zs.map (Value.int .u16)).toArray.size := by rw [show (zs.map (Value.int .u16)).toArray.size = 64 by simp [h64]]; exact infoArr
    have hone := arrA_one zs
    go_wp2_with (first | refine wpList_load_mid rfl 60 (.tmp 23) rfl bb (ob + k * 64) rfl (zs.map (Value.int .u16)) _ hbl Try.underlying60 rfl (infoBl h64) ?_ | refine wpList_store_mid rfl 48 (.tmp 4) (.tmp 24) rfl w.heap.size 0 (zs.map (Value.int .u16)).toArray rfl rfl hth2 hsz hone ?_)
    exact bodyPost_ret (results_cellT rfl _ _ _ w.heap.size _ _ (by rfl) (by rfl) hld) rfl ⟨rfl, hbF⟩
  · have hR : blkAt bs i = (Zs, false) := by unfold blkAt; rw [if_neg hin]; rfl
    rw [hR]
    obtain ⟨ao, capb, rfl, hb1, hb2⟩ := hb.shape
    clear hb hR
    generalize bs.length = m at *
    go_enter Try.func21, Try.ntmps21
    go_upto_region 1 with fail
    generalize w.alloc (.cells #[.int .u16 0, .int .u16 0, .int .u16 0, .int .u16 0, .int .u16 0, .int .u16 0, .int .u16 0, .int .u16 0, .int .u16 0, .int .u16 0, .int .u16 0, .int .u16 0, .int .u16 0, .int .u16 0, .int .u16 0, .int .u16 0, .int .u16 0, .int .u16 0, .int .u16 0, .int .u16 0, .int .u16 0, .int .u16 0, .int .u16 0, .int .u16 0, .int .u16 0, .int .u16 0, .int .u16 0, .int .u16 0, .int .u16 0, .int .u16 0, .int .u16 0, .int .u16 0, .int .u16 0, .int .u16 0, .int .u16 0, .int .u16 0, .int .u16 0, .int .u16 0, .int .u16 0, .int .u16 0, .int .u16 0, .int .u16 0, .int .u16 0, .int .u16 0, .int .u16 0, .int .u16 0, .int .u16 0, .int .u16 0, .int .u16 0, .int .u16 0, .int .u16 0, .int .u16 0, .int .u16 0, .int .u16 0, .int .u16 0, .int .u16 0, .int .u16 0, .int .u16 0, .int .u16 0, .int .u16 0, .int .u16 0, .int .u16 0, .int .u16 0, .int .u16 0] 48) = w1 at *
    have hth : w1.there w.heap.size 0 64 := hN.there
    have hrg : (w1.setCells w.heap.size 0 (#[.int .u16 0, .int .u16 0, .int .u16 0, .int .u16 0, .int .u16 0, .int .u16 0, .int .u16 0, .int .u16 0, .int .u16 0, .int .u16 0, .int .u16 0, .int .u16 0, .int .u16 0, .int .u16 0, .int .u16 0, .int .u16 0, .int .u16 0, .int .u16 0, .int .u16 0, .int .u16 0, .int .u16 0, .int .u16 0, .int .u16 0, .int .u16 0, .int .u16 0, .int .u16 0, .int .u16 0, .int .u16 0, .int .u16 0, .int .u16 0, .int .u16 0, .int .u16 0, .int .u16 0, .int .u16 0, .int .u16 0, .int .u16 0, .int .u16 0, .int .u16 0, .int .u16 0, .int .u16 0, .int .u16 0, .int .u16 0, .int .u16 0, .int .u16 0, .int .u16 0, .int .u16 0, .int .u16 0, .int .u16 0, .int .u16 0, .int .u16 0, .int .u16 0, .int .u16 0, .int .u16 0, .int .u16 0, .int .u16 0, .int .u16 0, .int .u16 0, .int .u16 0, .int .u16 0, .int .u16 0, .int .u16 0, .int .u16 0, .int .u16 0, .int .u16 0] : Array Value).toList).rangeAt w.heap.size 0 (Zs.map (Value.int .u16)) := by
      have := World.rangeAt_setCells_same w1 w.heap.size 0 (Zs.map (Value.int .u16)) (by rw [List.length_map, Zs_len]; exact hth)
      exact this
    have hbF : Below w.heap.size w (w1.setCells w.heap.size 0 (#[.int .u16 0, .int .u16 0, .int .u16 0, .int .u16 0, .int .u16 0, .int .u16 0, .int .u16 0, .int .u16 0, .int .u16 0, .int .u16 0, .int .u16 0, .int .u16 0, .int .u16 0, .int .u16 0, .int .u16 0, .int .u16 0, .int .u16 0, .int .u16 0, .int .u16 0, .int .u16 0, .int .u16 0, .int .u16 0, .int .u16 0, .int .u16 0, .int .u16 0, .int .u16 0, .int .u16 0, .int .u16 0, .int .u16 0, .int .u16 0, .int .u16 0, .int .u16 0, .int .u16 0, .int .u16 0, .int .u16 0, .int .u16 0, .int .u16 0, .int .u16 0, .int .u16 0, .int .u16 0, .int .u16 0, .int .u16 0, .int .u16 0, .int .u16 0, .int .u16 0, .int .u16 0, .int .u16 0, .int .u16 0, .int .u16 0, .int .u16 0, .int .u16 0, .int .u16 0, .int .u16 0, .int .u16 0, .int .u16 0, .int .u16 0, .int .u16 0, .int .u16 0, .int .u16 0, .int .u16 0, .int .u16 0, .int .u16 0, .int .u16 0, .int .u16 0] : Array Value).toList) := below_setCells4 hge _ _ _ hA
    have hld := run_loadVar_mid (P := Try.prog) _ w.heap.size 0 48 (Zs.map (Value.int .u16)) _ hrg Try.underlying48 (by rfl) (infoArrL Zs_len)
    have hsz : (Try.prog.info? 48).map (·.size) = some 64 := infoArr
    have hone : (#[.int .u16 0, .int .u16 0, .int .u16 0, .int .u16 0, .int .u16 0, .int .u16 0, .int .u16 0, .int .u16 0, .int .u16 0, .int .u16 0, .int .u16 0, .int .u16 0, .int .u16 0, .int .u16 0, .int .u16 0, .int .u16 0, .int .u16 0, .int .u16 0, .int .u16 0, .int .u16 0, .int .u16 0, .int .u16 0, .int .u16 0, .int .u16 0, .int .u16 0, .int .u16 0, .int .u16 0, .int .u16 0, .int .u16 0, .int .u16 0, .int .u16 0, .int .u16 0, .int .u16 0, .int .u16 0, .int .u16 0, .int .u16 0, .int .u16 0, .int .u16 0, .int .u16 0, .int .u16 0, .int .u16 0, .int .u16 0, .int .u16 0, .int .u16 0, .int .u16 0, .int .u16 0, .int .u16 0, .int .u16 0, .int .u16 0, .int .u16 0, .int .u16 0, .int .u16 0, .int .u16 0, .int .u16 0, .int .u16 0, .int .u16 0, .int .u16 0, .int .u16 0, .int .u16 0, .int .u16 0, .int .u16 0, .int .u16 0, .int .u16 0, .int .u16 0] : Array Value).all (·.oneCell') = true := arrA_one Zs
    have hlast : ∀ wf, Below w.heap.size w wf → BlkPost w (Zs, false) (.returned (.tuple #[.agg (Zs.map (Value.int .u16)).toArray, .bool false])) wf := fun wf hb => ⟨rfl, hb⟩
    clear hrg
    generalize BlkPost w (Zs, false) = PP at *
    generalize (Zs.map (Value.int .u16)).toArray = ZZ at *
    by_cases hlt : i < 0
    · go_wp2_with (refine wpList_store_mid rfl 48 (.tmp 4) (.tmp 17) rfl w.heap.size 0 #[.int .u16 0, .int .u16 0, .int .u16 0, .int .u16 0, .int .u16 0, .int .u16 0, .int .u16 0, .int .u16 0, .int .u16 0, .int .u16 0, .int .u16 0, .int .u16 0, .int .u16 0, .int .u16 0, .int .u16 0, .int .u16 0, .int .u16 0, .int .u16 0, .int .u16 0, .int .u16 0, .int .u16 0, .int .u16 0, .int .u16 0, .int .u16 0, .int .u16 0, .int .u16 0, .int .u16 0, .int .u16 0, .int .u16 0, .int .u16 0, .int .u16 0, .int .u16 0, .int .u16 0, .int .u16 0, .int .u16 0, .int .u16 0, .int .u16 0, .int .u16 0, .int .u16 0, .int .u16 0, .int .u16 0, .int .u16 0, .int .u16 0, .int .u16 0, .int .u16 0, .int .u16 0, .int .u16 0, .int .u16 0, .int .u16 0, .int .u16 0, .int .u16 0, .int .u16 0, .int .u16 0, .int .u16 0, .int .u16 0, .int .u16 0, .int .u16 0, .int .u16 0, .int .u16 0, .int .u16 0, .int .u16 0, .int .u16 0, .int .u16 0, .int .u16 0] rfl rfl hth hsz hone ?_)
      exact bodyPost_ret (results_cellT rfl _ _ _ w.heap.size _ _ (by rfl) (by rfl) hld) rfl (hlast _ hbF)
    · have hge2 : (m : Int) ≤ i := by omega
      go_wp2_with (refine wpList_store_mid rfl 48 (.tmp 4) (.tmp 17) rfl w.heap.size 0 #[.int .u16 0, .int .u16 0, .int .u16 0, .int .u16 0, .int .u16 0, .int .u16 0, .int .u16 0, .int .u16 0, .int .u16 0, .int .u16 0, .int .u16 0, .int .u16 0, .int .u16 0, .int .u16 0, .int .u16 0, .int .u16 0, .int .u16 0, .int .u16 0, .int .u16 0, .int .u16 0, .int .u16 0, .int .u16 0, .int .u16 0, .int .u16 0, .int .u16 0, .int .u16 0, .int .u16 0, .int .u16 0, .int .u16 0, .int .u16 0, .int .u16 0, .int .u16 0, .int .u16 0, .int .u16 0, .int .u16 0, .int .u16 0, .int .u16 0, .int .u16 0, .int .u16 0, .int .u16 0, .int .u16 0, .int .u16 0, .int .u16 0, .int .u16 0, .int .u16 0, .int .u16 0, .int .u16 0, .int .u16 0, .int .u16 0, .int .u16 0, .int .u16 0, .int .u16 0, .int .u16 0, .int .u16 0, .int .u16 0, .int .u16 0, .int .u16 0, .int .u16 0, .int .u16 0, .int .u16 0, .int .u16 0, .int .u16 0, .int .u16 0, .int .u16 0] rfl rfl hth hsz hone ?_)
      exact bodyPost_ret (results_cellT rfl _ _ _ w.heap.size _ _ (by rfl) (by rfl) hld) rfl (hlast _ hbF)
end Go.Proofs.Ytehdeipeehaejaa
