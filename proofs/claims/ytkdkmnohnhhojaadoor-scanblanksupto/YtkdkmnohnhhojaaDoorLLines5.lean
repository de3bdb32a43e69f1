/- The walk of ScanLines, out of what scan's calls are asked. -/
import Derived.Test.YtkdkmnohnhhojaaDoorLReads5
namespace Go.Proofs.YtkdkmnohnhhojaaDoor
open Go.RowKit

namespace Scn
theorem linesA_len (l : List Int) : ∀ cur, ∀ x ∈ linesA cur l, x.length ≤ cur.length + l.length := by
  induction l with
  | nil =>
    intro cur x hx
    rw [linesA] at hx
    split at hx
    · cases hx
    · simp at hx; subst hx; simp
  | cons c r ih =>
    intro cur x hx
    rw [linesA] at hx
    split at hx
    · rcases List.mem_cons.1 hx with rfl | hx
      · omega
      · have := ih [] x hx
        simp at this ⊢; omega
    · have := ih _ x hx
      simp at this ⊢; omega
theorem linesA_count (l : List Int) : ∀ cur, (linesA cur l).length ≤ l.length + 1 := by
  induction l with
  | nil => intro cur; rw [linesA]; split <;> simp
  | cons c r ih =>
    intro cur
    rw [linesA]
    split
    · have := ih []; simp; omega
    · have := ih (cur ++ [c]); simp; omega
theorem lines_len {l x : List Int} (h : x ∈ lines l) : x.length ≤ l.length := by
  have := linesA_len l [] x h
  simpa using this
theorem wordsA_count (l : List Int) : ∀ k cur, (wordsA k cur l).length ≤ l.length + 1 := by
  induction l with
  | nil => intro k cur; rw [wordsA]; split <;> simp
  | cons c r ih =>
    intro k cur
    rw [wordsA]
    split
    · split
      · have := ih (k + 1) []; simp; omega
      · have := ih (k + 1) []; simp; omega
    · have := ih (k + 1) (cur ++ [c]); simp; omega
theorem words_count (l : List Int) : (words l).length ≤ l.length + 1 := by
  unfold words
  have := wordsA_count (l.take (endA l)) 0 []
  simp at this; omega
end Scn
theorem strOf_size (l : List Int) : (strOfNums l).size = l.length := by
  unfold strOfNums
  show (List.toArray _).size = _
  simp
/-- What writes into blocks of Q leave as it was. -/
structure Kp (w w' : World) (Q : Nat → Prop) : Prop where
  os : w'.os = w.os
  tape : w'.tape = w.tape
  output : w'.output = w.output
  size : w.heap.size ≤ w'.heap.size
  block : ∀ k, k < w.heap.size → ¬ Q k → w'.heap[k]? = w.heap[k]?
theorem Kp.of {w w' : World} (h : Below w.heap.size w w') (Q : Nat → Prop) : Kp w w' Q := ⟨h.os, h.tape, h.output, h.size, fun k hk _ => h.block k hk⟩
theorem Kp.refl (w : World) (Q : Nat → Prop) : Kp w w Q := ⟨rfl, rfl, rfl, Nat.le_refl _, fun _ _ _ => rfl⟩
theorem Kp.trans {a b c : World} {Q R S : Nat → Prop} (h : Kp a b Q) (k : Kp b c R) (h1 : ∀ x, x < a.heap.size → Q x → S x) (h2 : ∀ x, x < a.heap.size → R x → S x) : Kp a c S :=
  ⟨k.os.trans h.os, k.tape.trans h.tape, k.output.trans h.output, Nat.le_trans h.size k.size, fun x hx hs => (k.block x (Nat.lt_of_lt_of_le hx h.size) fun e => hs (h2 x hx e)).trans (h.block x hx fun e => hs (h1 x hx e))⟩
theorem Kp.below {w w' : World} {Q : Nat → Prop} {B : Nat} (h : Kp w w' Q) (hB : B ≤ w.heap.size) (hq : ∀ x, x < B → ¬ Q x) : Below B w w' := ⟨h.os, h.tape, h.output, h.size, fun k hk => h.block k (Nat.lt_of_lt_of_le hk hB) (hq k hk)⟩
theorem own_keep {w w' : World} {B e sz n : Nat} {v : Value} {us : List Value} (h : w.ownsRow B e sz v n us) (hk : ∀ g, v.ownBlock = some g → w'.heap[g]? = w.heap[g]?) : w'.ownsRow B e sz v n us := by
  obtain ⟨h1, h2⟩ := h
  refine ⟨h1, ?_⟩
  rcases h2 with h2 | ⟨g, cap, cur, hv, hb, hg, rest⟩
  · exact .inl h2
  · exact .inr ⟨g, cap, cur, hv, hb, (hk g (by rw [hv]; rfl)).trans hg, rest⟩
/-- One cell of a block of the call's own written. -/
theorem set_block {w : World} {g j : Nat} {cur : Array Value} {e : TypeId} (h : w.heap[g]? = some (.cells cur e (0, 0))) (v : Value) : (w.setCell ⟨g, j, none⟩ v).heap[g]? = some (.cells (cur.setIfInBounds j v) e (0, 0)) := by
  have hlt : g < w.heap.size := (Array.getElem?_eq_some_iff.1 h).1
  rw [setCell_eq_setRow w g j cur e (0, 0) v h]
  exact setRow_heap w g cur _ e _ h
theorem set_kp (w : World) (g j : Nat) (v : Value) : Kp w (w.setCell ⟨g, j, none⟩ v) (· = g) := by
  refine ⟨?_, ?_, ?_, ?_, fun k _ hq => Below.heap_setCell _ _ _ _ (fun e => hq e)⟩
  all_goals first | rfl | (unfold World.setCell; split <;> first | rfl | simp)
theorem cell_of {w : World} {g j : Nat} {cur : Array Value} {e : TypeId} (h : w.heap[g]? = some (.cells cur e (0, 0))) (hj : j < cur.size) : w.cell? ⟨g, j, none⟩ = some (cur.getD j undef) := by
  simp [World.cell?, h, hj]
theorem frozen_of {w : World} {g j : Nat} {cur : Array Value} {e : TypeId} (h : w.heap[g]? = some (.cells cur e (0, 0))) : w.frozen? ⟨g, j, none⟩ = false := by
  simp [World.frozen?, h]

set_option maxRecDepth 8000 in
set_option maxHeartbeats 16000000 in
theorem lines_any (HL : LinesC) (HW : WordsC) (HS : SpanC) (HO : WholeC) (HN : NameC) (HP : PCodeC) (s : ByteArray) (w : World) (hg : Glob w) (hs : s.size ≤ 100000000) :
    Calls Tryd.prog 3 #[.string s] w (Tells w true) := by
  have KT := hide (told_any HL HW HS HO HN HP)
  have K1 := hide (fun w hg => HL s w hg (by omega))
  have R1 := hide (fun w => refLines_any s w (by omega))
  have HKW := hide HW
  have HLen : Hid (∀ j, j < (Scn.lines (nums s)).length → (strOfNums ((Scn.lines (nums s)).getD j [])).size ≤ 100000000) := fun j hj => by
    rw [strOf_size]
    have h1 : (Scn.lines (nums s)).getD j [] ∈ Scn.lines (nums s) := by simp [List.getD, hj]
    have := Scn.lines_len h1
    rw [nums_length] at this
    omega
  have hcnt : (Scn.lines (nums s)).length ≤ 100000001 := by
    have := Scn.linesA_count (nums s) []
    rw [nums_length] at this
    show (Scn.linesA [] (nums s)).length ≤ _
    omega
  clear HL HW HS HO HN HP
  generalize Scn.lines (nums s) = ls at *
  go_enter Tryd.func3, Tryd.ntmps3
  go_wp2_with fail
  refine ((unhide K1) w hg).mono ?_
  rintro e1 w1 ⟨vl, rfl, ol, hb1⟩
  have g1 := hg.on hb1
  go_wp2_with fail
  refine ((unhide K1) w1 g1).mono ?_
  rintro e2 w2 ⟨vm, rfl, om, hb2⟩
  have g2 := g1.on hb2
  go_wp2_with fail
  refine ((unhide R1) w2).mono ?_
  rintro e3 w3 ⟨vw, rfl, ow, hb3⟩
  have g3 := g2.on hb3
  clear R1
  go_wp2_with fail
  refine ((unhide KT) w3 g3).mono ?_
  rintro e4 w4 ⟨rfl, hb4⟩
  have g4 := g3.on hb4
  clear KT
  have ol4 := ((ol.below hb2).below hb3).below hb4
  have om4 := (om.below hb3).below hb4
  have ow4 := ow.below hb4
  have KS := hide (sameTexts_eq vl vw ls w4 ol4.sv ow4.sv)
  go_wp2_with fail
  refine (unhide KS).mono ?_
  rintro e5 w5 ⟨rfl, hd5⟩
  have hb5 := drewB hd5
  have g5 := g4.on hb5
  have ol5 := ol4.below hb5
  have om5 := om4.below hb5
  have ow5 := ow4.below hb5
  have hBel : Below w.heap.size w w5 := bthen (bthen (bthen (bthen hb1 hb2) hb3) hb4) hb5
  have hsz1 : w.heap.size ≤ w1.heap.size := hb1.size
  have hsz2 : w1.heap.size ≤ w2.heap.size := hb2.size
  have hsz3 : w2.heap.size ≤ w3.heap.size := hb3.size
  have hlt : ∀ g, vl.ownBlock = some g → g < w1.heap.size := fun g h => (ol.2.lt g h).2
  have hmt : ∀ g, vm.ownBlock = some g → w1.heap.size ≤ g ∧ g < w2.heap.size := fun g h => om.2.lt g h
  have hwt : ∀ g, vw.ownBlock = some g → w2.heap.size ≤ g := fun g h => (ow.2.lt g h).1
  clear KS hd5 hb1 hb2 hb3 hb4 hb5 ol om ow ol4 om4 ow4 g1 g2 g3 g4
  rcases Nat.eq_zero_or_pos ls.length with h0 | h0
  · obtain ⟨ao, cap, rfl, _, _⟩ := ol5.sv.shape
    have hl0 : (txts ls).length = 0 := by rw [txts_length]; exact h0
    rw [hl0]
    clear ol5 hlt hmt hwt
    go_wp2
    refine wp_loop_rounds 1 ?_
    rw [rounds_succ]
    go_wp2_with fail
    refine (sameTexts_eq vm vw ls w5 om5.sv ow5.sv).mono ?_
    rintro e6 w6 ⟨rfl, hd6⟩
    have hb6 := drewB hd6
    have g6 := g5.on hb6
    have ow6 := ow5.below hb6
    go_wp2_with fail
    refine ((unhide K1) w6 g6).mono ?_
    rintro e7 w7 ⟨v7, rfl, o7, hb7⟩
    have ow7 := ow6.below hb7
    go_wp2_with fail
    refine (sameTexts_eq v7 vw ls w7 o7.sv ow7.sv).mono ?_
    rintro e8 w8 ⟨rfl, hd8⟩
    have HF : Tells w true (.returned (.bool true)) w8 := ⟨rfl, bthen (bthen (bthen hBel hb6) hb7) (drewB hd8)⟩
    clear hd6 hd8 hb6 hb7 o7 ow6 ow7 g6 K1
    go_wp2
    go_ret
    exact HF
  · obtain ⟨gl, capl, curl, hvl, hlB, hgl, hln, hlc, hls, hlx⟩ : ∃ g cap cur, vl = .slice (some ⟨g, 0, none⟩) ls.length cap ∧ w.heap.size ≤ g ∧ w5.heap[g]? = some (.cells cur 9 (0, 0)) ∧ ls.length ≤ cap ∧ cap ≤ maxLen ∧ cur.size = cap * 1 ∧ cur.toList.take (ls.length * 1) = txts ls := by
      have h2 := ol5.2.2
      rw [txts_length] at h2
      rcases h2 with ⟨_, h⟩ | h
      · omega
      · exact h
    subst hvl
    obtain ⟨gw, capw, curw, hvw, _, hgw, hwn, hwc, _, hwx⟩ : ∃ g cap cur, vw = .slice (some ⟨g, 0, none⟩) ls.length cap ∧ w2.heap.size ≤ g ∧ w5.heap[g]? = some (.cells cur 9 (0, 0)) ∧ ls.length ≤ cap ∧ cap ≤ maxLen ∧ cur.size = cap * 1 ∧ cur.toList.take (ls.length * 1) = txts ls := by
      have h2 := ow5.2.2
      rw [txts_length] at h2
      rcases h2 with ⟨_, h⟩ | h
      · omega
      · exact h
    subst hvw
    have hlg := hlt gl rfl
    have hwg := hwt gw rfl
    have hgne : gl ≠ gw := by omega
    have HMN : Hid (∀ g, vm.ownBlock = some g → g ≠ gl) := fun g h e => by have := hmt g h; omega
    unfold maxLen at hlc hwc
    rw [Nat.mul_one] at hls hlx hwx
    have HLC : Hid (∀ j, j < ls.length → curl[j]? = some (.string (strOfNums (ls.getD j [])))) := fun j hj => by
      have e := congrArg (fun l => l[j]?) hlx
      simp only [List.getElem?_take, hj, if_true] at e
      rw [← Array.getElem?_toList, e]
      simp [txts, List.getD, hj]
    have HWC : Hid (∀ j, j < ls.length → curw[j]? = some (.string (strOfNums (ls.getD j [])))) := fun j hj => by
      have e := congrArg (fun l => l[j]?) hwx
      simp only [List.getElem?_take, hj, if_true] at e
      rw [← Array.getElem?_toList, e]
      simp [txts, List.getD, hj]
    have HST : Hid (∃ cur : Array Value, w5.heap[gl]? = some (.cells cur 9 (0, 0)) ∧ cur.size = capl ∧ ∀ j, 0 ≤ j → j < ls.length → cur[j]? = some (.string (strOfNums (ls.getD j [])))) := ⟨curl, hgl, hls, fun j _ hj => (unhide HLC) j hj⟩
    have OM := hide om5
    have OW := hide ow5
    have HB := hide hBel
    have HG := hide g5
    have HGW := hide hgw
    have h5w : w.heap.size ≤ w5.heap.size := hBel.size
    clear ol5 om5 ow5 hBel g5 hgw hlx hwx HLC hlt hmt hwt hgl hsz1 hsz2 hsz3 hls
    go_wp2
    go_loopw [6, 7, 8, 9, 10, 11, 12, 13] (fun i _ _ _ _ _ _ _ wr => ∃ k : Nat, i = .int .i64 k ∧ k ≤ ls.length ∧ (∃ cur : Array Value, wr.heap[gl]? = some (.cells cur 9 (0, 0)) ∧ cur.size = capl ∧ ∀ j, k ≤ j → j < ls.length → cur[j]? = some (.string (strOfNums (ls.getD j [])))) ∧ Ow 9 wr w1.heap.size vm (txts ls) ∧ Ow 9 wr w2.heap.size (.slice (some ⟨gw, 0, none⟩) ls.length capw) (txts ls) ∧ wr.heap[gw]? = some (.cells curw 9 (0, 0)) ∧ Below w.heap.size w wr ∧ Glob wr) (fun i _ _ _ _ _ _ _ _ => ls.length - (intOf i).toNat)
    case atStart => exact ⟨0, rfl, by omega, unhide HST, unhide OM, unhide OW, unhide HGW, unhide HB, unhide HG⟩
    case round =>
      clear HST OM OW HB HG HGW
      obtain ⟨k, rfl, hk, ⟨cur, hcur, hcs, hcx⟩, om, ow, hgw, hBel, hG⟩ := hrel
      by_cases hkn : k < ls.length
      · have ht := (unhide HLen) k hkn
        have hxk := hcx k (Nat.le_refl _) hkn
        have hwk := (unhide HWC) k hkn
        generalize hteq : strOfNums (ls.getD k []) = t at ht hxk hwk
        clear hteq
        have hkc : k < cur.size := by omega
        have HCL : Hid (∀ W', Below wr.heap.size wr W' → W'.cell? ⟨gl, k, none⟩ = some (.string t) ∧ W'.cell? ⟨gw, k, none⟩ = some (.string t)) := by
          intro W' hb
          have a : wr.cell? ⟨gl, k, none⟩ = some (.string t) := by simp [World.cell?, hcur, hxk]
          have b : wr.cell? ⟨gw, k, none⟩ = some (.string t) := by simp [World.cell?, hgw, hwk]
          exact ⟨by rw [hb.cell (lt_of_cell? a)]; exact a, by rw [hb.cell (lt_of_cell? b)]; exact b⟩
        have KW := hide (fun w hg => (unhide HKW) t w hg (by omega))
        have RW := hide (fun w => refWords_any t w (by omega))
        have hwc : (Scn.words (nums t)).length ≤ 100000001 := by
          have := Scn.words_count (nums t)
          rw [nums_length] at this
          omega
        generalize Scn.words (nums t) = ws at *
        generalize Scn.endA (nums t) = en at *
        have hre : ((en : Int) != (en : Int)) = false := by simp
        have HCX := hide hcx
        clear hcx hxk hwk
        obtain ⟨c0, d0⟩ := (unhide HCL) wr (Below.refl _ _)
        go_wp2_with fail
        refine ((unhide KW) wr hG).mono ?_
        rintro e1 W1 ⟨vx, rfl, ox, hb1⟩
        have G1 := hG.on hb1
        clear c0 d0
        obtain ⟨c0, d0⟩ := (unhide HCL) W1 hb1
        go_wp2_with fail
        refine ((unhide RW) W1).mono ?_
        rintro e2 W2 ⟨vy, rfl, oy, hb2⟩
        have G2 := G1.on hb2
        clear c0 d0
        obtain ⟨c0, d0⟩ := (unhide HCL) W2 (bthen hb1 hb2)
        go_wp2_with fail
        refine ((unhide KW) W2 G2).mono ?_
        rintro e3 W3 ⟨vz, rfl, oz, hb3⟩
        have G3 := G2.on hb3
        clear c0 d0 KW RW
        have ox3 := own_keep (w' := W3) ox (fun g h => by rw [hb3.block g (Nat.lt_of_lt_of_le (ox.lt g h).2 hb2.size), hb2.block g (ox.lt g h).2])
        have oy3 := own_keep (w' := W3) oy (fun g h => by rw [hb3.block g (oy.lt g h).2])
        have dx := Wd.own ox3
        have dy := Wd.own oy3
        have KS := hide (sameWords_eq vx vy ws W3 dx dy (by omega))
        go_wp2_with fail
        refine (unhide KS).mono ?_
        rintro e4 W4 ⟨rfl, hd4⟩
        have hb4 := drewB hd4
        have G4 := G3.on hb4
        have ox4 := own_keep (w' := W4) ox3 (fun g h => by rw [hb4.block g (ox3.lt g h).2])
        have oy4 := own_keep (w' := W4) oy3 (fun g h => by rw [hb4.block g (oy3.lt g h).2])
        have oz4 := own_keep (w' := W4) oz (fun g h => by rw [hb4.block g (oz.lt g h).2])
        have hB4 : Below wr.heap.size wr W4 := bthen (bthen (bthen hb1 hb2) hb3) hb4
        have hxg : ∀ g, vx.ownBlock = some g → wr.heap.size ≤ g ∧ g < W1.heap.size := fun g h => ox.lt g h
        have hyg : ∀ g, vy.ownBlock = some g → W1.heap.size ≤ g ∧ g < W2.heap.size := fun g h => oy.lt g h
        have hzg : ∀ g, vz.ownBlock = some g → W2.heap.size ≤ g := fun g h => (oz.lt g h).1
        have hs1 := hb1.size
        have hs2 := hb2.size
        have hglt : gl < wr.heap.size := (Array.getElem?_eq_some_iff.1 hcur).1
        have hgwt : gw < wr.heap.size := (Array.getElem?_eq_some_iff.1 hgw).1
        /- what stands behind the writes -/
        have HEND : Hid (∀ W5, Kp W4 W5 (fun g => vx.ownBlock = some g) → W5.heap[gl]? = some (.cells cur 9 (0, 0)) ∧ Wd (W5.setCell ⟨gl, k, none⟩ (.string ⟨#[63]⟩)) vz ws ∧ Wd (W5.setCell ⟨gl, k, none⟩ (.string ⟨#[63]⟩)) vy ws ∧ ∀ W6, Below (W5.setCell ⟨gl, k, none⟩ (.string ⟨#[63]⟩)).heap.size (W5.setCell ⟨gl, k, none⟩ (.string ⟨#[63]⟩)) W6 →
            (∃ cur : Array Value, W6.heap[gl]? = some (.cells cur 9 (0, 0)) ∧ cur.size = capl ∧ ∀ j, k + 1 ≤ j → j < ls.length → cur[j]? = some (.string (strOfNums (ls.getD j [])))) ∧ Ow 9 W6 w1.heap.size vm (txts ls) ∧ Ow 9 W6 w2.heap.size (.slice (some ⟨gw, 0, none⟩) ls.length capw) (txts ls) ∧ W6.heap[gw]? = some (.cells curw 9 (0, 0)) ∧ Below w.heap.size w W6 ∧ Glob W6) := by
          intro W5 hk5
          have hcur5 : W5.heap[gl]? = some (.cells cur 9 (0, 0)) := by
            rw [hk5.block gl (Nat.lt_of_lt_of_le hglt hB4.size) (fun h => by have := hxg gl h; omega), hB4.block gl hglt]; exact hcur
          have hks := set_kp W5 gl k (.string ⟨#[63]⟩)
          have hall : Kp W4 (W5.setCell ⟨gl, k, none⟩ (.string ⟨#[63]⟩)) (fun g => vx.ownBlock = some g ∨ g = gl) := hk5.trans hks (fun _ _ h => .inl h) (fun _ _ h => .inr h)
          have oz6 := own_keep (w' := W5.setCell ⟨gl, k, none⟩ (.string ⟨#[63]⟩)) oz4 (fun g h => hall.block g (oz4.lt g h).2 (fun e => by have := hzg g h; rcases e with e | e; (have := hxg g e; omega); omega))
          have oy6 := own_keep (w' := W5.setCell ⟨gl, k, none⟩ (.string ⟨#[63]⟩)) oy4 (fun g h => hall.block g (oy4.lt g h).2 (fun e => by have := hyg g h; rcases e with e | e; (have := hxg g e; omega); omega))
          refine ⟨hcur5, Wd.own oz6, Wd.own oy6, fun W6 hb6 => ?_⟩
          have hfar : Kp wr W6 (· = gl) := ((Kp.of hB4 (· = gl)).trans hall (fun _ _ h => h) (fun x hx e => by rcases e with e | e; (have := hxg x e; omega); exact e)).trans (Kp.of hb6 (· = gl)) (fun _ _ h => h) (fun _ _ h => h)
          have hset := set_block (j := k) hcur5 (.string ⟨#[63]⟩)
          have hbW : Below w.heap.size w W6 := hBel.trans (hfar.below hBel.size (fun x hx e => by omega))
          refine ⟨⟨cur.setIfInBounds k (.string ⟨#[63]⟩), ?_, by simpa using hcs, fun j hj hjn => ?_⟩, ⟨om.1, own_keep om.2 (fun g h => hfar.block g (om.2.lt g h).2 ((unhide HMN) g h))⟩, ⟨ow.1, own_keep ow.2 (fun g h => hfar.block g (ow.2.lt g h).2 (fun e => ?_))⟩, ?_, ?_, ?_⟩
          · rw [hb6.block gl (Array.getElem?_eq_some_iff.1 hset).1]; exact hset
          · rw [Array.getElem?_setIfInBounds_ne (by omega)]; exact (unhide HCX) j (by omega) hjn
          · obtain rfl : gw = g := by simpa [Value.ownBlock] using h
            omega
          · rw [hfar.block gw hgwt (by omega)]; exact hgw
          · exact hbW
          · exact hg.on hbW
        clear HCL HCX ox oy oz ox3 oy3 hb1 hb2 hb3 hb4 hd4 KS dx dy G1 G2 G3 hxg hyg hzg hs1 hs2 om ow hBel hG
        rcases Nat.eq_zero_or_pos ws.length with n0 | n0
        · obtain ⟨ao, cap, rfl, _⟩ := (Wd.own ox4).shape
          rw [n0]
          obtain ⟨hc5, dz, dy, HX⟩ := (unhide HEND) W4 (Kp.refl _ _)
          have HX2 := hide HX
          have cc := cell_of hc5 hkc
          have fz := frozen_of (j := k) hc5
          clear HEND ox4 oy4 oz4 HX
          go_wp2
          refine wp_loop_rounds 1 ?_
          rw [rounds_succ]
          go_wp2_with fail
          refine (sameWords_eq vz vy ws _ dz dy (by omega)).mono ?_
          rintro e5 W5 ⟨rfl, hd5⟩
          have HY := (unhide HX2) W5 (drewB hd5)
          have HZ := hide HY
          clear HY HX2 dz dy hd5 cc fz hc5
          go_wp2
          go_roundw
          case rel => exact ⟨k + 1, by go_num, by omega, unhide HZ⟩
          case measure => simp [intOf]; omega
        · obtain ⟨gx, capx, curx, hvx, _, hgx, hxn, hxc, hxs, _⟩ : ∃ g cap cur, vx = .slice (some ⟨g, 0, none⟩) ws.length cap ∧ wr.heap.size ≤ g ∧ W4.heap[g]? = some (.cells cur 34 (0, 0)) ∧ ws.length ≤ cap ∧ cap ≤ maxLen ∧ cur.size = cap * 2 ∧ cur.toList.take (ws.length * 2) = wvals ws := by
            rcases ox4.2 with ⟨_, h⟩ | h
            · omega
            · exact h
          subst hvx
          unfold maxLen at hxc
          have HI0 : Hid (∃ cur' : Array Value, W4.heap[gx]? = some (.cells cur' 34 (0, 0)) ∧ cur'.size = capx * 2 ∧ Kp W4 W4 (fun g => (Value.slice (some ⟨gx, 0, none⟩) ws.length capx).ownBlock = some g)) := ⟨curx, hgx, hxs, Kp.refl _ _⟩
          clear ox4 oy4 oz4 hgx hxs
          go_wp2
          go_loopw [13] (fun i2 wi => ∃ k2 : Nat, i2 = .int .i64 k2 ∧ k2 ≤ ws.length ∧ ∃ cur' : Array Value, wi.heap[gx]? = some (.cells cur' 34 (0, 0)) ∧ cur'.size = capx * 2 ∧ Kp W4 wi (fun g => (Value.slice (some ⟨gx, 0, none⟩) ws.length capx).ownBlock = some g)) (fun i2 _ => ws.length - (intOf i2).toNat)
          case atStart => exact ⟨0, rfl, by omega, unhide HI0⟩
          case round =>
            clear HI0
            obtain ⟨k2, rfl, hk2, cur2, hc2, hcs2, hkp⟩ := hrel
            by_cases hlt2 : k2 < ws.length
            · have cc0 := cell_of (j := k2 * 2) hc2 (by omega)
              have cc1 := cell_of (j := k2 * 2 + 1) hc2 (by omega)
              have fz0 := frozen_of (j := k2 * 2) hc2
              have fz1 := frozen_of (j := k2 * 2 + 1) hc2
              have HX : Hid (∃ cur' : Array Value, ((wr.setCell ⟨gx, k2 * 2, none⟩ (.string ⟨#[63]⟩)).setCell ⟨gx, k2 * 2 + 1, none⟩ (.int .i64 (-1))).heap[gx]? = some (.cells cur' 34 (0, 0)) ∧ cur'.size = capx * 2 ∧ Kp W4 ((wr.setCell ⟨gx, k2 * 2, none⟩ (.string ⟨#[63]⟩)).setCell ⟨gx, k2 * 2 + 1, none⟩ (.int .i64 (-1))) (fun g => (Value.slice (some ⟨gx, 0, none⟩) ws.length capx).ownBlock = some g)) :=
                ⟨_, set_block (set_block hc2 _) _, by simpa using hcs2, (hkp.trans (set_kp _ gx _ _) (fun _ _ h => h) (fun _ _ h => by rw [h]; rfl)).trans (set_kp _ gx _ _) (fun _ _ h => h) (fun _ _ h => by rw [h]; rfl)⟩
              clear HEND hc2 hcs2 hkp
              go_wp2
              go_roundw
              case rel => exact ⟨k2 + 1, by go_num, by omega, unhide HX⟩
              case measure => simp [intOf]; omega
            · obtain rfl : k2 = ws.length := by omega
              obtain ⟨hc5, dz, dy, HX⟩ := (unhide HEND) wr hkp
              have HX2 := hide HX
              have cc := cell_of hc5 hkc
              have fz := frozen_of (j := k) hc5
              clear HEND HX hc2 hcs2 hkp
              go_wp2_with fail
              refine (sameWords_eq vz vy ws _ dz dy (by omega)).mono ?_
              rintro e5 W5 ⟨rfl, hd5⟩
              have HY := (unhide HX2) W5 (drewB hd5)
              have HZ := hide HY
              clear HY HX2 dz dy hd5 cc fz hc5
              go_wp2
              go_roundw
              case rel => exact ⟨k + 1, by go_num, by omega, unhide HZ⟩
              case measure => simp [intOf]; omega
      · clear hcx
        go_wp2_with fail
        refine (sameTexts_eq vm (.slice (some ⟨gw, 0, none⟩) ls.length capw) ls wr om.sv ow.sv).mono ?_
        rintro e6 w6 ⟨rfl, hd6⟩
        have hb6 := drewB hd6
        have g6 := hG.on hb6
        have ow6 := ow.below hb6
        go_wp2_with fail
        refine ((unhide K1) w6 g6).mono ?_
        rintro e7 w7 ⟨v7, rfl, o7, hb7⟩
        have ow7 := ow6.below hb7
        go_wp2_with fail
        refine (sameTexts_eq v7 (.slice (some ⟨gw, 0, none⟩) ls.length capw) ls w7 o7.sv ow7.sv).mono ?_
        rintro e8 w8 ⟨rfl, hd8⟩
        have HF : Tells w true (.returned (.bool true)) w8 := ⟨rfl, bthen (bthen (bthen hBel hb6) hb7) (drewB hd8)⟩
        clear hd6 hd8 hb6 hb7 o7 ow6 ow7 g6 K1
        go_wp2
        go_ret
        exact HF
end Go.Proofs.YtkdkmnohnhhojaaDoor
