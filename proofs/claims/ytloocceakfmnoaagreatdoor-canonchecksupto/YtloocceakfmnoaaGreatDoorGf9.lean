import Derived.Test.YtloocceakfmnoaaGreatDoorGe9
import Derived.Deep.RegionHeld3
import Derived.Defers
import Derived.Recover
/- The way down, gone: (*walk).down. -/
namespace Go.Proofs.YtloocceakfmnoaaGreatDoor
open Go.RowKit

theorem opn_fit {w : World} {v : Value} {zs : List Int} (h : Sk .i32 w v zs) {k : Nat} (hk : k < zs.length) : Rune (zs.getD k 0) := rune_of h hk
def DownC (g : Nat) (fa cb : Array Value) (rs : List Rec) (w0 : World) (f : Nat) : Prop := ∀ (way : List Int) (c : Int) (out : List Int) (W : World) (p : Nat) (wv ev : Value), way.length + f = 16 → out.length ≤ 32 → Rune c → Below w0.heap.size w0 W →
  Wk w0.heap.size W p (.func (.func g) fa cb) way out wv ev → Calls Tryz.prog 136 #[.pointer (some ⟨p, 0, none⟩), .int .i32 c] W (DownB w0.heap.size W p (.func (.func g) fa cb) way wv ev (Cn.walk rs f way c out))
/-- A list that was told lies apart from the walk. -/
theorem OpB.apart {w0 W W1 : World} {p : Nat} {fv : Value} {way ends : List Int} {wv ev vt : Value} {zs : List Int} (h : Wk w0.heap.size W p fv way ends wv ev) (hk : Sk .i32 w0 vt zs ∨ Ok .i32 21 W1 W.heap.size vt zs) :
    ∀ b off len cap, vt = .slice (some ⟨b, off, none⟩) len cap → 0 < len → b ≠ p ∧ wv.ownBlock ≠ some b ∧ ev.ownBlock ≠ some b := by
  intro b off len cap e hl
  have hp := h.lt
  have ho := h.own
  have hw : ∀ g, wv.ownBlock = some g → w0.heap.size ≤ g ∧ g < W.heap.size := fun g hg => h.w.2.2.lt g hg
  have he : ∀ g, ev.ownBlock = some g → w0.heap.size ≤ g ∧ g < W.heap.size := fun g hg => h.e.2.2.lt g hg
  have hb : b < w0.heap.size ∨ W.heap.size ≤ b := by
    rcases hk with hk | hk
    · left
      subst e
      have hz : 0 < zs.length := by
        obtain ⟨_, _, e, _, _⟩ := hk.shape
        simp at e; omega
      obtain ⟨b', off', cap', e, _, _, hc⟩ := hk.place hz
      simp at e
      have := lt_of_cell? (hc 0 hz)
      omega
    · right
      exact (hk.2.2.lt b (by subst e; rfl)).1
  refine ⟨by omega, fun e => ?_, fun e => ?_⟩
  · have := hw b e; omega
  · have := he b e; omega
set_option maxRecDepth 8000 in
set_option maxHeartbeats 4000000 in
theorem down_leaf (g : Nat) (fa cb : Array Value) (rs : List Rec) (w0 : World) (hO : Opens g fa cb rs w0) (eg : ∀ args w, (callFunc g args).run Tryz.prog w = .ok (.enter g args) w) (way : List Int) (c : Int) (out : List Int) (W : World) (p : Nat) (wv ev : Value) (hol : out.length ≤ 32) (hop : Cn.opn rs c = []) (hc : Rune c) (hW : Below w0.heap.size w0 W) (h : Wk w0.heap.size W p (.func (.func g) fa cb) way out wv ev) :
    Calls Tryz.prog 136 #[.pointer (some ⟨p, 0, none⟩), .int .i32 c] W (DownB w0.heap.size W p (.func (.func g) fa cb) way wv ev (if 32 ≤ out.length then ([], 2) else (out ++ [c], 0))) := by
  have K := hide (hO c W hW hc)
  have x0 : W.cell? ⟨p, 0, none⟩ = some (.func (.func g) fa cb) := cell_of (j := 0) h.blk (by show 0 < 3; omega)
  rw [hop] at K
  have HT : Hid (∀ W1, Below W.heap.size W W1 → Calls Tryz.prog 161 #[.pointer (some ⟨p, 0, none⟩), .int .i32 c] W1 (TakeB w0.heap.size W1 p (.func (.func g) fa cb) way out wv ev c)) := fun W1 hb => take_any _ W1 p _ way out wv ev c (h.below hb) (by have := hW.size; have := hb.size; omega) hol hc
  have HR1 : Hid (32 ≤ out.length → (if 32 ≤ out.length then (([] : List Int), (2 : Int)) else (out ++ [c], 0)) = ([], 2)) := fun h => if_pos h
  have HR2 : Hid (out.length < 32 → (if 32 ≤ out.length then (([] : List Int), (2 : Int)) else (out ++ [c], 0)) = (out ++ [c], 0)) := fun h => if_neg (by omega)
  generalize (if 32 ≤ out.length then (([] : List Int), (2 : Int)) else (out ++ [c], 0)) = r at *
  clear h hop hO
  go_enter Tryz.func136, Tryz.ntmps136
  go_wp2_with fail
  refine (unhide K).mono ?_
  rintro e1 W1 ⟨vt, rfl, hk, hb1⟩
  have hs : Sk .i32 W1 vt [] := by
    rcases hk with h | h
    · exact (h.below hW).below hb1
    · exact h.sk
  obtain ⟨ao, cap, rfl, _, _⟩ := hs.shape
  have KT := hide ((unhide HT) W1 hb1)
  have F0 : Hid (Frm W W1 p wv ev) := Frm.of_below hb1
  clear K HT hk hs hb1 hW
  go_wp2_with fail
  refine (unhide KT).mono ?_
  rintro e2 W2 (⟨h32, rfl, rfl⟩ | ⟨h32, rfl, ev', hw2, hf2, hn2⟩)
  · obtain rfl := (unhide HR1) h32
    have HF : DownB w0.heap.size W p (.func (.func g) fa cb) way wv ev ([], 2) (.panicked [{ v := .iface 24 (.int .i64 2), recovered := false }]) W2 := ⟨unhide F0, .inl ⟨by decide, rfl⟩⟩
    clear KT F0 HR1 HR2
    go_wp2
    exact ⟨rfl, HF⟩
  · obtain rfl := (unhide HR2) h32
    have HF : DownB w0.heap.size W p (.func (.func g) fa cb) way wv ev (out ++ [c], 0) (.returned (.tuple #[])) W2 :=
      ⟨(unhide F0).trans hf2 (NewOr.refl _ _) (NewOr.refl _ _), .inr ⟨rfl, rfl, wv, ev', hw2, NewOr.refl _ _, hn2.trans_left (unhide F0).size⟩⟩
    clear KT F0 hw2 hf2 hn2 HR1 HR2
    go_wp2
    refine bodyPost_ret (results_none rfl _ _ _) rfl ?_
    exact HF
set_option maxRecDepth 8000 in
set_option maxHeartbeats 4000000 in
theorem down_loop (g : Nat) (fa cb : Array Value) (rs : List Rec) (w0 : World) (hO : Opens g fa cb rs w0) (eg : ∀ args w, (callFunc g args).run Tryz.prog w = .ok (.enter g args) w) (hlen : ∀ c, (Cn.opn rs c).length ≤ 1000000000) (way : List Int) (c : Int) (out : List Int) (W : World) (p : Nat) (wv ev : Value) (hwy : way.length ≤ 16) (hop : Cn.opn rs c ≠ []) (hin : c ∈ way) (hc : Rune c) (hW : Below w0.heap.size w0 W) (h : Wk w0.heap.size W p (.func (.func g) fa cb) way out wv ev) :
    Calls Tryz.prog 136 #[.pointer (some ⟨p, 0, none⟩), .int .i32 c] W (DownB w0.heap.size W p (.func (.func g) fa cb) way wv ev ([], 72)) := by
  have K := hide (hO c W hW hc)
  have x0 : W.cell? ⟨p, 0, none⟩ = some (.func (.func g) fa cb) := cell_of (j := 0) h.blk (by show 0 < 3; omega)
  have hl := hlen c
  have hne : 0 < (Cn.opn rs c).length := List.length_pos_iff.2 hop
  have HA := hide (fun W1 vt hk => OpB.apart (W1 := W1) (vt := vt) (zs := Cn.opn rs c) h hk)
  have HWK := hide (fun W1 (hb : Below W.heap.size W W1) => h.below hb)
  have hwl := h.w.sk.shape
  clear hop hlen hO h
  generalize Cn.opn rs c = zs at *
  have hq0 : ((zs.length : Int) == 0) = false := by rw [beq_eq_false_iff_ne]; omega
  go_enter Tryz.func136, Tryz.ntmps136
  go_wp2_with fail
  refine (unhide K).mono ?_
  rintro e1 W1 ⟨vt, rfl, hk, hb1⟩
  have hs : Sk .i32 W1 vt zs := by
    rcases hk with h | h
    · exact (h.below hW).below hb1
    · exact h.sk
  have hap := (unhide HA) W1 vt hk
  have h1 := (unhide HWK) W1 hb1
  have F0 : Hid (Frm W W1 p wv ev) := Frm.of_below hb1
  have hW1 : Below w0.heap.size w0 W1 := hW.trans (hb1.mono hW.size)
  obtain ⟨tao, tcap, rfl, _, _⟩ := hs.shape
  obtain ⟨wao, wcap, rfl, _, _⟩ := hwl
  have x1 : W1.cell? ⟨p, 1, none⟩ = some (.slice wao way.length wcap) := cell_of (j := 1) h1.blk (by show 1 < 3; omega)
  have KC := hide (contains_any _ way c W1 h1.w.sk (by omega))
  clear K HA HWK hk hb1 hW
  rw [decide_eq_true hin] at KC
  have HF : DownB w0.heap.size W p (.func (.func g) fa cb) way (.slice wao way.length wcap) ev ([], 72) (.panicked [{ v := .iface 24 (.int .i64 72), recovered := false }]) W1 := ⟨unhide F0, .inl ⟨by decide, rfl⟩⟩
  clear hap h1 F0 hW1 hs hin
  go_wp2_with fail
  refine (unhide KC).mono ?_
  rintro e2 W2 ⟨rfl, hw2⟩
  subst hw2
  clear KC
  go_wp2
  exact ⟨rfl, HF⟩
set_option maxRecDepth 8000 in
set_option maxHeartbeats 4000000 in
theorem down_deep (g : Nat) (fa cb : Array Value) (rs : List Rec) (w0 : World) (hO : Opens g fa cb rs w0) (eg : ∀ args w, (callFunc g args).run Tryz.prog w = .ok (.enter g args) w) (hlen : ∀ c, (Cn.opn rs c).length ≤ 1000000000) (way : List Int) (c : Int) (out : List Int) (W : World) (p : Nat) (wv ev : Value) (hwy : way.length = 16) (hop : Cn.opn rs c ≠ []) (hin : ¬ c ∈ way) (hc : Rune c) (hW : Below w0.heap.size w0 W) (h : Wk w0.heap.size W p (.func (.func g) fa cb) way out wv ev) :
    Calls Tryz.prog 136 #[.pointer (some ⟨p, 0, none⟩), .int .i32 c] W (DownB w0.heap.size W p (.func (.func g) fa cb) way wv ev ([], 73)) := by
  have K := hide (hO c W hW hc)
  have x0 : W.cell? ⟨p, 0, none⟩ = some (.func (.func g) fa cb) := cell_of (j := 0) h.blk (by show 0 < 3; omega)
  have hl := hlen c
  have hne : 0 < (Cn.opn rs c).length := List.length_pos_iff.2 hop
  have HA := hide (fun W1 vt hk => OpB.apart (W1 := W1) (vt := vt) (zs := Cn.opn rs c) h hk)
  have HWK := hide (fun W1 (hb : Below W.heap.size W W1) => h.below hb)
  have hwl := h.w.sk.shape
  clear hop hlen hO h
  generalize Cn.opn rs c = zs at *
  have hq0 : ((zs.length : Int) == 0) = false := by rw [beq_eq_false_iff_ne]; omega
  go_enter Tryz.func136, Tryz.ntmps136
  go_wp2_with fail
  refine (unhide K).mono ?_
  rintro e1 W1 ⟨vt, rfl, hk, hb1⟩
  have hs : Sk .i32 W1 vt zs := by
    rcases hk with h | h
    · exact (h.below hW).below hb1
    · exact h.sk
  have hap := (unhide HA) W1 vt hk
  have h1 := (unhide HWK) W1 hb1
  have F0 : Hid (Frm W W1 p wv ev) := Frm.of_below hb1
  have hW1 : Below w0.heap.size w0 W1 := hW.trans (hb1.mono hW.size)
  obtain ⟨tao, tcap, rfl, _, _⟩ := hs.shape
  obtain ⟨wao, wcap, rfl, _, _⟩ := hwl
  have x1 : W1.cell? ⟨p, 1, none⟩ = some (.slice wao way.length wcap) := cell_of (j := 1) h1.blk (by show 1 < 3; omega)
  have KC := hide (contains_any _ way c W1 h1.w.sk (by omega))
  clear K HA HWK hk hb1 hW
  rw [decide_eq_false hin] at KC
  have HF : DownB w0.heap.size W p (.func (.func g) fa cb) way (.slice wao way.length wcap) ev ([], 73) (.panicked [{ v := .iface 24 (.int .i64 73), recovered := false }]) W1 := ⟨unhide F0, .inl ⟨by decide, rfl⟩⟩
  rw [hwy] at KC x1 HF
  clear hap h1 F0 hW1 hs hin
  go_wp2_with fail
  refine (unhide KC).mono ?_
  rintro e2 W2 ⟨rfl, hw2⟩
  subst hw2
  clear KC
  go_wp2
  exact ⟨rfl, HF⟩
end Go.Proofs.YtloocceakfmnoaaGreatDoor
/- The way down, further: (*walk).down. -/
namespace Go.Proofs.YtloocceakfmnoaaGreatDoor
open Go.RowKit

theorem Sk.cellAt {K : IntKind} {w : World} {b off len cap : Nat} {zs : List Int} (h : Sk K w (.slice (some ⟨b, off, none⟩) len cap) zs) {i : Nat} (hi : i < zs.length) : w.cell? ⟨b, off + i, none⟩ = some (.int K (zs.getD i 0)) := by
  obtain ⟨b', off', cap', e, _, _, hc⟩ := h.place (by omega)
  simp only [Value.slice.injEq, Option.some.injEq, Addr.mk.injEq, and_true] at e
  obtain ⟨⟨rfl, rfl⟩, _, _⟩ := e
  exact hc i hi
set_option maxRecDepth 8000 in
set_option maxHeartbeats 4000000 in
theorem down_go (g : Nat) (fa cb : Array Value) (rs : List Rec) (w0 : World) (hO : Opens g fa cb rs w0) (eg : ∀ args w, (callFunc g args).run Tryz.prog w = .ok (.enter g args) w) (hlen : ∀ c, (Cn.opn rs c).length ≤ 1000000000) (way : List Int) (c : Int) (out : List Int) (W : World) (p : Nat) (wv ev : Value) (f : Nat) (ih : DownC g fa cb rs w0 f) (hwy : way.length + f + 1 = 16) (hol : out.length ≤ 32) (hop : Cn.opn rs c ≠ []) (hin : ¬ c ∈ way) (hc : Rune c) (hW : Below w0.heap.size w0 W) (h : Wk w0.heap.size W p (.func (.func g) fa cb) way out wv ev) :
    Calls Tryz.prog 136 #[.pointer (some ⟨p, 0, none⟩), .int .i32 c] W (DownB w0.heap.size W p (.func (.func g) fa cb) way wv ev ((Cn.opn rs c).foldl (Cn.stepW rs f (way ++ [c])) (out, 0))) := by
  have K := hide (hO c W hW hc)
  have x0 : W.cell? ⟨p, 0, none⟩ = some (.func (.func g) fa cb) := cell_of (j := 0) h.blk (by show 0 < 3; omega)
  obtain ⟨i0, hi, hz0, hz1, hz2⟩ := info_parts Tryz.info21
  have HLEN : Hid (∀ x o, o.length ≤ 32 → (Cn.walk rs f (way ++ [c]) x o).1.length ≤ 32) := fun x o ho => Cn.walk_len rs f (way ++ [c]) x o ho
  have HSTEP : Hid (∀ (xs : List Int) (o : List Int) (k : Nat), k < xs.length → (xs.drop k).foldl (Cn.stepW rs f (way ++ [c])) (o, 0) = (xs.drop (k + 1)).foldl (Cn.stepW rs f (way ++ [c])) (Cn.walk rs f (way ++ [c]) (xs.getD k 0) o)) := fun xs o k hk => Cn.fold_step hk
  have HSTUCK : Hid (∀ (xs : List Int) (s : List Int × Int), s.2 ≠ 0 → xs.foldl (Cn.stepW rs f (way ++ [c])) s = s) := Cn.fold_stuck rs f (way ++ [c])
  have IH := hide ih
  clear ih
  have hl := hlen c
  have hne : 0 < (Cn.opn rs c).length := List.length_pos_iff.2 hop
  have HA := hide (fun W1 vt hk => OpB.apart (W1 := W1) (vt := vt) (zs := Cn.opn rs c) h hk)
  have HWK := hide (fun W1 (hb : Below W.heap.size W W1) => h.below hb)
  have hwl := h.w.sk.shape
  clear hop hlen hO
  generalize Cn.opn rs c = zs at *
  have hq0 : ((zs.length : Int) == 0) = false := by rw [beq_eq_false_iff_ne]; omega
  obtain ⟨r, hr⟩ : ∃ r, zs.foldl (Cn.stepW rs f (way ++ [c])) (out, 0) = r := ⟨_, rfl⟩
  rw [hr]
  have HR := hide hr
  clear hr
  go_enter Tryz.func136, Tryz.ntmps136
  go_wp2_with fail
  refine (unhide K).mono ?_
  rintro e1 W1 ⟨vt, rfl, hk, hb1⟩
  have hs : Sk .i32 W1 vt zs := by
    rcases hk with h | h
    · exact (h.below hW).below hb1
    · exact h.sk
  have hap := (unhide HA) W1 vt hk
  have h1 := (unhide HWK) W1 hb1
  have F0 : Hid (Frm W W1 p wv ev) := Frm.of_below hb1
  have hW1 : Below w0.heap.size w0 W1 := hW.trans (hb1.mono hW.size)
  obtain ⟨tb, toff, tcap, rfl, _, _, _⟩ := hs.place hne
  obtain ⟨wao, wcap, rfl, _, _⟩ := hwl
  have x1 : W1.cell? ⟨p, 1, none⟩ = some (.slice wao way.length wcap) := cell_of (j := 1) h1.blk (by show 1 < 3; omega)
  have KC := hide (contains_any _ way c W1 h1.w.sk (by omega))
  clear K HA HWK hk hb1 hW
  rw [decide_eq_false hin] at KC
  have hq16 : ((way.length : Int) == 16) = false := by rw [beq_eq_false_iff_ne]; omega
  have hrow : ∀ o, (W1.alloc o).ownsRow w0.heap.size 21 1 (.slice wao way.length wcap) way.length (way.map (Value.int .i32)) := fun o => h1.w.row.alloc o
  have HROW := hide hrow
  have HD := hide (fun o v' w1 a b c' => h1.down (o := o) (v' := v') (w1 := w1) (c := c) (by omega) hc a b c')
  have HS := hide (fun W' p' wv' ev' (hf : Frm W1 W' p' wv' ev') hn => hs.frm (p := p') (wv := wv') (ev := ev') hf hn)
  have HAP := hide hap
  have hs1 := hW1.size
  have HW1 := hide hW1
  have hfit := hs.1
  have H1 := hide h1
  have HRN := hide (fun k hk => rune_of hs (i := k) hk)
  clear hap hrow hs h1 hW1 h hin
  go_wp2_with fail
  refine (unhide KC).mono ?_
  rintro e2 W2 ⟨rfl, hw2⟩
  subst W2
  clear KC
  go_wp2_with (at_builtin; refine wpList_append_own_at _ rfl (.tmp 40) (.tmp 42) 38 rfl w0.heap.size 21 i0 (.int .i32 0) 1 4 Tryz.underlying38 hi hz0 hz1 hz2 rfl (by decide) _ _ _ rfl ((unhide HROW) _) ⟨W1.heap.size, 0, none⟩ 1 1 [.int .i32 c] rfl rfl (cell_one_new _ _ _) (int_one _ _) (by unfold maxLen; omega) (by omega) (by simp; omega) ?_)
  intro v' w1 hrow1 hg1 _ hat1
  obtain ⟨hb1, hw1, hf1, hn1⟩ := (unhide HD) _ v' w1 hrow1 hg1 hat1
  have hm : (way ++ [c]).length = way.length + 1 := by simp
  obtain ⟨ao', cap', hv', _, _⟩ := hw1.w.sk.shape
  rw [hm] at hv'
  subst hv'
  clear hm
  have y1 : w1.cell? ⟨p, 1, none⟩ = some (.slice wao way.length wcap) := cell_of (j := 1) hb1 (by show 1 < 3; omega)
  have yf := frozen_of (j := 1) hb1
  have HWK := hide hw1
  have HF1 := hide hf1
  have HN1 := hide hn1
  clear HD HROW hrow1 hg1 hat1 hw1 hf1 hn1 hb1 x1 x0
  go_wp2
  go_loopw [6, 48] (fun _ i wr => ∃ (k : Nat) (o : List Int) (wv' ev' : Value), i = .int .i64 k ∧ k ≤ zs.length ∧ o.length ≤ 32 ∧ Hid ((zs.drop k).foldl (Cn.stepW rs f (way ++ [c])) (o, 0) = r) ∧ Hid (Wk w0.heap.size wr p (.func (.func g) fa cb) (way ++ [c]) o wv' ev') ∧ Hid (Frm W1 wr p (.slice wao way.length wcap) ev) ∧ Hid (NewOr W1 (.slice wao way.length wcap) wv') ∧ Hid (NewOr W1 ev ev')) (fun _ i _ => zs.length - (intOf i).toNat)
  case atStart => exact ⟨0, out, _, ev, rfl, by omega, hol, HR, HWK, HF1, HN1, NewOr.refl _ _⟩
  case round =>
    clear HWK HF1 HN1 HR
    obtain ⟨k, o, wv', ev', rfl, hk, ho, HR, HWK, HF1, HN1, HN2⟩ := hrel
    by_cases hlt : k < zs.length
    · have a0 := ((unhide HS) wr p (.slice wao way.length wcap) ev (unhide HF1) (unhide HAP)).cellAt hlt
      have hst := (unhide HSTEP) zs o k hlt
      have hstuck := (unhide HSTUCK)
      have hwk := (unhide HWK)
      have hbW : Below w0.heap.size w0 wr := (unhide HW1).trans ((unhide HF1).below (unhide H1) hs1)
      have KD := hide ((unhide IH) (way ++ [c]) (zs.getD k 0) o wr p wv' ev' (by simp; omega) ho ((unhide HRN) k hlt) hbW hwk)
      have hlen2 := (unhide HLEN) (zs.getD k 0) o ho
      have hfold : Hid ((zs.drop (k + 1)).foldl (Cn.stepW rs f (way ++ [c])) (Cn.walk rs f (way ++ [c]) (zs.getD k 0) o) = r) := hst ▸ (unhide HR)
      have hszw := (unhide HF1).size
      clear HR HWK hst hwk hbW hstuck
      generalize Cn.walk rs f (way ++ [c]) (zs.getD k 0) o = q at *
      generalize zs.getD k 0 = x at *
      go_wp2_with fail
      refine (unhide KD).mono ?_
      rintro e3 w3 ⟨hf3, ⟨hq, hgv⟩ | ⟨hq, rfl, wv3, ev3, hw3, hn3, hm3⟩⟩
      · have hr : q = r := ((unhide HSTUCK) _ q hq).symm.trans (unhide hfold)
        subst hr
        unfold Gave at hgv
        subst hgv
        have HF : DownB w0.heap.size W p (.func (.func g) fa cb) way (.slice wao way.length wcap) ev q (.panicked [{ v := .iface 24 (.int .i64 q.2), recovered := false }]) w3 :=
          ⟨(unhide F0).trans ((unhide HF1).trans hf3 (unhide HN1) (unhide HN2)) (NewOr.refl _ _) (NewOr.refl _ _), .inl ⟨hq, rfl⟩⟩
        clear KD HS HAP HW1 H1 IH HLEN HSTEP HSTUCK HRN hfold HF1 HN1 HN2 F0 hf3 a0
        go_wp2
        exact ⟨rfl, HF⟩
      · obtain ⟨q1, q2⟩ := q
        simp only at hq hlen2 hw3
        subst hq
        have HWK3 := hide hw3
        have HFR3 : Hid (Frm W1 w3 p (.slice wao way.length wcap) ev) := (unhide HF1).trans hf3 (unhide HN1) (unhide HN2)
        have HNN1 : Hid (NewOr W1 (.slice wao way.length wcap) wv3) := (unhide HN1).trans hn3 hszw
        have HNN2 : Hid (NewOr W1 ev ev3) := (unhide HN2).trans hm3 hszw
        clear KD hw3 hf3 hn3 hm3 HF1 HN1 HN2 a0
        go_wp2
        go_roundw
        case rel => exact ⟨k + 1, q1, wv3, ev3, by go_num, by omega, hlen2, hfold, HWK3, HFR3, HNN1, HNN2⟩
        case measure => simp [intOf]; omega
    · obtain rfl : k = zs.length := by omega
      have hr : r = (o, 0) := by
        have := unhide HR
        rw [List.drop_length] at this
        exact this.symm
      subst hr
      have hwk := unhide HWK
      obtain ⟨ao5, cap5, rfl, _, _⟩ := hwk.w.sk.shape
      have HEND : Hid (∀ n, DownB w0.heap.size W p (.func (.func g) fa cb) way (.slice wao way.length wcap) ev (o, 0) (.returned (.tuple #[])) ((wr.drewN n).setCell ⟨p, 1, none⟩ (.slice ao5 way.length cap5))) := fun n => by
        have hb := drewB (w := wr) ⟨n, rfl⟩
        obtain ⟨u1, u2, u3⟩ := (hwk.below hb).up
        have g1 : Frm W1 (wr.drewN n) p (.slice wao way.length wcap) ev := (unhide HF1).trans (Frm.of_below hb) (unhide HN1) (unhide HN2)
        have s1 := (unhide HF1).size
        have s2 := hb.size
        have s0 := (unhide F0).size
        refine ⟨(unhide F0).trans (g1.trans u2 (unhide HN1) (unhide HN2)) (NewOr.refl _ _) (NewOr.refl _ _), .inr ⟨rfl, rfl, _, ev', u1, ?_, ?_⟩⟩
        · exact ((unhide HN1).trans u3 (by omega)).trans_left s0
        · exact (unhide HN2).trans_left s0
      have y1 : wr.cell? ⟨p, 1, none⟩ = some (.slice ao5 (way ++ [c]).length cap5) := cell_of (j := 1) hwk.blk (by show 1 < 3; omega)
      have yf := frozen_of (j := 1) hwk.blk
      have hcap5 : way.length + 1 ≤ cap5 := by
        obtain ⟨_, _, e, h5, _⟩ := hwk.w.sk.shape
        simp at e h5
        omega
      rw [show (way ++ [c]).length = way.length + 1 by simp] at y1
      clear HS HAP HW1 H1 IH HLEN HSTEP HSTUCK HRN HR HF1 HN1 HN2 F0 HWK hwk
      go_wp2
      go_region
      go_wp2
      go_end0
      exact (unhide HEND) _
theorem down_any (g : Nat) (fa cb : Array Value) (rs : List Rec) (w0 : World) (hO : Opens g fa cb rs w0) (eg : ∀ args w, (callFunc g args).run Tryz.prog w = .ok (.enter g args) w) (hlen : ∀ c, (Cn.opn rs c).length ≤ 1000000000) : ∀ f, DownC g fa cb rs w0 f := by
  intro f
  induction f with
  | zero =>
    intro way c out W p wv ev hf hol hc hW h
    by_cases hop : Cn.opn rs c = []
    · rw [Cn.walk_leaf hop]
      exact down_leaf g fa cb rs w0 hO eg way c out W p wv ev hol hop hc hW h
    · by_cases hin : c ∈ way
      · rw [Cn.walk_loop hop _ hin]
        exact down_loop g fa cb rs w0 hO eg hlen way c out W p wv ev (by omega) hop hin hc hW h
      · rw [Cn.walk_deep hop hin]
        exact down_deep g fa cb rs w0 hO eg hlen way c out W p wv ev (by omega) hop hin hc hW h
  | succ f ih =>
    intro way c out W p wv ev hf hol hc hW h
    by_cases hop : Cn.opn rs c = []
    · rw [Cn.walk_leaf hop]
      exact down_leaf g fa cb rs w0 hO eg way c out W p wv ev hol hop hc hW h
    · by_cases hin : c ∈ way
      · rw [Cn.walk_loop hop _ hin]
        exact down_loop g fa cb rs w0 hO eg hlen way c out W p wv ev (by omega) hop hin hc hW h
      · rw [Cn.walk_go hop f hin]
        exact down_go g fa cb rs w0 hO eg hlen way c out W p wv ev f ih (by omega) hol hop hin hc hW h
end Go.Proofs.YtloocceakfmnoaaGreatDoor
/- full: the walk's giving up is caught. -/
namespace Go.Proofs.YtloocceakfmnoaaGreatDoor
open Go.RowKit

theorem ta_nil (w : World) : (Instr.typeAssert .nilIface 20 24 true).run Tryz.prog w = .ok (.tuple #[.int .i64 0, .bool false]) w := by kernel_rfl
theorem ta_ok (n : Int) (w : World) : (Instr.typeAssert (.iface 24 (.int .i64 n)) 20 24 true).run Tryz.prog w = .ok (.tuple #[.int .i64 n, .bool true]) w := by kernel_rfl
set_option maxRecDepth 8000 in
theorem catch_idle (p q : Addr) (w : World) : CallsD Tryz.prog 135 #[.pointer (some p), .pointer (some q)] .returning w fun e u' w' => e = .returned (.tuple #[]) ∧ u' = .returning ∧ w' = w := by
  refine callsD_of_wpS Tryz.func135 rfl fun c₀ cs hu => ?_
  apply wpS_seq
  apply wpS_region
  simp [wpOpsS, go_sem, recoverD, hu, Tryz.ntmps135, Exit.thenS, ta_nil]
  apply wpS_seq
  apply wpS_region
  simp [wpOpsS, go_sem, Exit.thenS]
  refine wpS_cond (t := false) (by simp [Act.eval, Array.replicate]) ?_
  simp only [Bool.false_eq_true, if_false]
  refine wpS_of_wp (wp_skip ?_)
  cases c₀
  simp_all [bodyPostS, results, Tryz.results135]
set_option maxRecDepth 8000 in
theorem catch_gave (p q : Addr) (n : Int) (x y : Value) (older : List PanicEntry) (w : World) (hp : w.cell? p = some x) (hpz : w.frozen? p = false) (hq : (w.setCell p (.slice none 0 0)).cell? q = some y) (hqz : (w.setCell p (.slice none 0 0)).frozen? q = false) :
    CallsD Tryz.prog 135 #[.pointer (some p), .pointer (some q)] (.panicking ({ v := .iface 24 (.int .i64 n), recovered := false } :: older)) w fun e u' w' =>
      e = .returned (.tuple #[]) ∧ u' = .panicking ({ v := .iface 24 (.int .i64 n), recovered := true } :: older) ∧ w' = (w.setCell p (.slice none 0 0)).setCell q (.int .i64 n) := by
  refine callsD_of_wpS Tryz.func135 rfl fun c₀ cs hu => ?_
  apply wpS_seq
  apply wpS_region
  simp [wpOpsS, go_sem, recoverD, hu, Tryz.ntmps135, Exit.thenS, ta_ok]
  apply wpS_seq
  apply wpS_region
  simp [wpOpsS, go_sem, Exit.thenS]
  refine wpS_cond (t := true) (by simp [Act.eval, Array.replicate]) ?_
  simp only [if_true]
  apply wpS_region
  simp [wpOpsS, go_sem, hp, hpz, hq, hqz, bodyPostS, results, Tryz.results135]
/-- The two results and the walk, new. -/
def fw (w : World) (fv : Value) : World := ((w.alloc (.cells #[.slice none 0 0] 38)).alloc (.cells #[.int .i64 0] 24)).alloc (.cells #[fv, .slice none 0 0, .slice none 0 0] 176)
theorem fw_at (w : World) (fv : Value) : (fw w fv).heap[w.heap.size]? = some (.cells #[.slice none 0 0] 38 (0, 0)) ∧ (fw w fv).heap[w.heap.size + 1]? = some (.cells #[.int .i64 0] 24 (0, 0)) ∧ (fw w fv).heap[w.heap.size + 2]? = some (.cells #[fv, .slice none 0 0, .slice none 0 0] 176 (0, 0)) ∧ (fw w fv).heap.size = w.heap.size + 3 := by
  have e : (fw w fv).heap = ((w.heap.push (.cells #[.slice none 0 0] 38 (0, 0))).push (.cells #[.int .i64 0] 24 (0, 0))).push (.cells #[fv, .slice none 0 0, .slice none 0 0] 176 (0, 0)) := rfl
  rw [e]
  refine ⟨?_, ?_, ?_, by simp⟩
  · rw [Array.getElem?_push, Array.getElem?_push, Array.getElem?_push]; simp; omega
  · rw [Array.getElem?_push, Array.getElem?_push]; simp
  · rw [Array.getElem?_push]; simp
theorem fw_wk (w : World) (fv : Value) : Wk w.heap.size (fw w fv) (w.heap.size + 2) fv [] [] (.slice none 0 0) (.slice none 0 0) :=
  ⟨(fw_at w fv).2.2.1, by omega, Ok.nil _ _ _ _, Ok.nil _ _ _ _, fun g h => by simp [Value.ownBlock] at h⟩
theorem fw_below (w : World) (fv : Value) : Below w.heap.size w (fw w fv) := (((Below.refl _ _).alloc (Nat.le_refl _) _).alloc (by simp) _).alloc (by simp; omega) _
/-- The results' stores, where it was walked to the end. -/
theorem full_end {w w1 : World} {fv v : Value} {out : List Int} {n : Int} (hf : Frm (fw w fv) w1 (w.heap.size + 2) (.slice none 0 0) (.slice none 0 0)) (hv : Ok .i32 21 w1 w.heap.size v out) :
    w1.heap[w.heap.size]? = some (.cells #[.slice none 0 0] 38 (0, 0)) ∧ w1.heap[w.heap.size + 1]? = some (.cells #[.int .i64 0] 24 (0, 0)) ∧
    (∀ u, ((w1.setCell ⟨w.heap.size, 0, none⟩ u).setCell ⟨w.heap.size + 1, 0, none⟩ (.int .i64 n)).heap[w.heap.size]? = some (.cells #[u] 38 (0, 0)) ∧
     ((w1.setCell ⟨w.heap.size, 0, none⟩ u).setCell ⟨w.heap.size + 1, 0, none⟩ (.int .i64 n)).heap[w.heap.size + 1]? = some (.cells #[.int .i64 n] 24 (0, 0)) ∧
     (w1.setCell ⟨w.heap.size, 0, none⟩ u).heap[w.heap.size + 1]? = some (.cells #[.int .i64 0] 24 (0, 0)) ∧
     Below w.heap.size w ((w1.setCell ⟨w.heap.size, 0, none⟩ u).setCell ⟨w.heap.size + 1, 0, none⟩ (.int .i64 n)) ∧
     Ok .i32 21 ((w1.setCell ⟨w.heap.size, 0, none⟩ u).setCell ⟨w.heap.size + 1, 0, none⟩ (.int .i64 n)) w.heap.size v out) := by
  obtain ⟨a0, a1, a2, a3⟩ := fw_at w fv
  have k0 : w1.heap[w.heap.size]? = some (.cells #[.slice none 0 0] 38 (0, 0)) := by rw [hf.keep _ (by omega) (by omega) (by simp [Value.ownBlock]) (by simp [Value.ownBlock])]; exact a0
  have k1 : w1.heap[w.heap.size + 1]? = some (.cells #[.int .i64 0] 24 (0, 0)) := by rw [hf.keep _ (by omega) (by omega) (by simp [Value.ownBlock]) (by simp [Value.ownBlock])]; exact a1
  refine ⟨k0, k1, fun u => ?_⟩
  have m1 : (w1.setCell ⟨w.heap.size, 0, none⟩ u).heap[w.heap.size + 1]? = some (.cells #[.int .i64 0] 24 (0, 0)) := by rw [set_other _ (by omega)]; exact k1
  refine ⟨?_, ?_, m1, ?_, ?_⟩
  · rw [set_other _ (by omega), set_block k0]; rfl
  · rw [set_block m1]; rfl
  · have hb : Below w.heap.size w w1 := (fw_below w fv).trans (hf.below (fw_wk w fv) (by omega))
    exact below_set (below_set hb (Nat.le_refl _) u) (by omega) _
  · refine hv.keep fun g h1 => ?_
    obtain ⟨cur, hc⟩ := ok_tag hv h1
    have g0 : g ≠ w.heap.size := fun e => by subst e; rw [k0] at hc; simp at hc
    have g1 : g ≠ w.heap.size + 1 := fun e => by subst e; rw [k1] at hc; simp at hc
    rw [set_other _ g1, set_other _ g0]
set_option maxRecDepth 8000 in
set_option maxHeartbeats 4000000 in
theorem fullK (g : Nat) (fa cb : Array Value) (rs : List Rec) (w : World) (hO : Opens g fa cb rs w) (eg : ∀ args w, (callFunc g args).run Tryz.prog w = .ok (.enter g args) w) (hlen : ∀ c, (Cn.opn rs c).length ≤ 1000000000) (c : Int) (hc : Rune c) :
    Calls Tryz.prog 95 #[.func (.func g) fa cb, .int .i32 c] w (FullB w (Cn.full rs c)) := by
  have K := hide (down_any g fa cb rs w hO eg hlen 16 [] c [] (fw w (.func (.func g) fa cb)) (w.heap.size + 2) _ _ (by simp) (by simp) hc (fw_below w _) (fw_wk w _))
  have hmf : ∀ (fn : Fn) (first cap : Array Value) (w : World), (Instr.makeFunc fn first cap).run Tryz.prog w = .ok (.func fn first cap) w := fun _ _ _ _ => rfl
  have hlen32 := Cn.full_len rs c
  have hwe := Cn.walk_err rs 16 [] c []
  change Hid (Calls _ _ _ _ (DownB _ _ _ _ _ _ _ (Cn.full rs c))) at K
  change (Cn.full rs c).2 ≠ 0 → (Cn.full rs c).1 = [] at hwe
  clear hO hlen
  generalize Cn.full rs c = r at *
  have HE : Hid (r.2 ≠ 0 → r.1 = []) := hwe
  clear hwe
  go_enter_defers Tryz.func95, Tryz.ntmps95
  go_wp2_with fail
  refine (unhide K).mono ?_
  rintro e1 w1 ⟨hf, ⟨hne, hgv⟩ | ⟨h0, rfl, wv', ev', hwk, hn1, hn2⟩⟩
  · unfold Gave at hgv
    subst hgv
    obtain ⟨k0, k1, kk⟩ := full_end (n := r.2) hf (Ok.nil _ _ _ _)
    obtain ⟨m0, m1, m2, m3, m4⟩ := kk (.slice none 0 0)
    have HF : FullB w r (.returned (.tuple #[.slice none 0 0, .int .i64 r.2])) ((w1.setCell ⟨w.heap.size, 0, none⟩ (.slice none 0 0)).setCell ⟨w.heap.size + 1, 0, none⟩ (.int .i64 r.2)) := ⟨_, rfl, by rw [(unhide HE) hne]; exact m4, m3⟩
    have z0 := cell_of (j := 0) m0 (by show 0 < 1; omega)
    have z1 := cell_of (j := 0) m1 (by show 0 < 1; omega)
    refine leaves_cons (f := 135) (args := #[.pointer (some ⟨w.heap.size, 0, none⟩), .pointer (some ⟨w.heap.size + 1, 0, none⟩)]) (by simp) (by simp [go_sem]) ?_
    refine (catch_gave ⟨w.heap.size, 0, none⟩ ⟨w.heap.size + 1, 0, none⟩ r.2 _ _ [] w1 (cell_of (j := 0) k0 (by show 0 < 1; omega)) (frozen_of k0) (cell_of (j := 0) m2 (by show 0 < 1; omega)) (frozen_of m2)).mono ?_
    rintro e u' w2 ⟨rfl, rfl, rfl⟩
    clear K hf k0 k1 kk m0 m1 m2 m3 m4
    generalize (w1.setCell ⟨w.heap.size, 0, none⟩ (.slice none 0 0)).setCell ⟨w.heap.size + 1, 0, none⟩ (.int .i64 r.2) = w9 at *
    have z0' : w9.cell? ⟨w.heap.size, 0, none⟩ = some (.slice none 0 0) := z0
    have z1' : w9.cell? ⟨w.heap.size + 1, 0, none⟩ = some (.int .i64 r.2) := z1
    clear z0 z1
    simp [Leaves, settle, results, Tryz.results95, go_sem, z0', z1']
    exact HF
  · obtain ⟨ao, cap, rfl, _, _⟩ := hwk.e.sk.shape
    obtain ⟨k0, k1, kk⟩ := full_end (n := 0) hf hwk.e
    obtain ⟨m0, m1, m2, m3, m4⟩ := kk (.slice ao r.1.length cap)
    have HF : FullB w r (.returned (.tuple #[.slice ao r.1.length cap, .int .i64 0])) ((w1.setCell ⟨w.heap.size, 0, none⟩ (.slice ao r.1.length cap)).setCell ⟨w.heap.size + 1, 0, none⟩ (.int .i64 0)) := ⟨_, by rw [h0], m4, m3⟩
    have x2 : w1.cell? ⟨w.heap.size + 1 + 1, 2, none⟩ = some (.slice ao r.1.length cap) := cell_of (j := 2) hwk.blk (by show 2 < 3; omega)
    have y0 : w1.cell? ⟨w.heap.size, 0, none⟩ = some (.slice none 0 0) := cell_of (j := 0) k0 (by show 0 < 1; omega)
    have y1 : w1.cell? ⟨w.heap.size + 1, 0, none⟩ = some (.int .i64 0) := cell_of (j := 0) k1 (by show 0 < 1; omega)
    have f0 := frozen_of (j := 0) k0
    have f1 := frozen_of (j := 0) k1
    have q1 : (w1.setCell ⟨w.heap.size, 0, none⟩ (.slice ao r.1.length cap)).cell? ⟨w.heap.size + 1, 0, none⟩ = some (.int .i64 0) := cell_of (j := 0) m2 (by show 0 < 1; omega)
    have qf := frozen_of (j := 0) m2
    have z0 : ((w1.setCell ⟨w.heap.size, 0, none⟩ (.slice ao r.1.length cap)).setCell ⟨w.heap.size + 1, 0, none⟩ (.int .i64 0)).cell? ⟨w.heap.size, 0, none⟩ = some (.slice ao r.1.length cap) := cell_of (j := 0) m0 (by show 0 < 1; omega)
    have z1 : ((w1.setCell ⟨w.heap.size, 0, none⟩ (.slice ao r.1.length cap)).setCell ⟨w.heap.size + 1, 0, none⟩ (.int .i64 0)).cell? ⟨w.heap.size + 1, 0, none⟩ = some (.int .i64 0) := cell_of (j := 0) m1 (by show 0 < 1; omega)
    have Z0 := hide z0
    have Z1 := hide z1
    clear K hf k0 k1 kk m0 m1 m2 m3 m4 hwk hn1 hn2 z0 z1
    go_wp2
    refine leaves_cons (f := 135) (args := #[.pointer (some ⟨w.heap.size, 0, none⟩), .pointer (some ⟨w.heap.size + 1, 0, none⟩)]) (by simp) (by simp [go_sem]) ?_
    refine (catch_idle ⟨w.heap.size, 0, none⟩ ⟨w.heap.size + 1, 0, none⟩ _).mono ?_
    rintro e u' w2 ⟨rfl, rfl, rfl⟩
    have z0 := unhide Z0
    have z1 := unhide Z1
    clear Z0 Z1 q1 qf
    generalize (w1.setCell ⟨w.heap.size, 0, none⟩ (.slice ao r.1.length cap)).setCell ⟨w.heap.size + 1, 0, none⟩ (.int .i64 0) = w9 at *
    simp [Leaves, settle, results, Tryz.results95, go_sem, z0, z1]
    exact HF
set_option maxHeartbeats 1000000 in
/-- The closure that Full hands on. -/
theorem fullOpens (v : Value) (rs : List Rec) (w w0 : World) (b : Nat) (hw : Below w.heap.size w w0) (hg : Glob w) (hv : Rcs w v rs) (hb : w0.cell? ⟨b, 0, none⟩ = some v) : Opens 96 #[] #[.pointer (some ⟨b, 0, none⟩)] rs w0 := by
  intro c W hW hc
  have hWw : Below w.heap.size w W := hw.trans (hW.mono hw.size)
  have K := hide (opened_any v rs c w0 W (hg.on hWw) (hv.below hw) hW hc)
  have x : W.cell? ⟨b, 0, none⟩ = some v := by rw [hW.cell (lt_of_cell? hb)]; exact hb
  obtain ⟨ao, cap, rfl, _, _⟩ := hv.shape
  clear hg hv hb hWw hW hw
  generalize Cn.opn rs c = zs at *
  show Calls Tryz.prog 96 #[.int .i32 c, .pointer (some ⟨b, 0, none⟩)] W (OpB w0 W zs)
  go_enter Tryz.func96, Tryz.ntmps96
  go_wp2_with fail
  refine (unhide K).mono ?_
  rintro e w1 ⟨v1, rfl, h1, h2⟩
  have HF : OpB w0 W zs (.returned v1) w1 := ⟨v1, rfl, h1, h2⟩
  clear K h1 h2
  go_wp2
  go_ret
  exact HF
set_option maxHeartbeats 1000000 in
theorem fullC : FullC := by
  intro v rs c w hg hv hc
  have hb : Below w.heap.size w (w.alloc (.cells #[v] 22)) := (Below.refl _ _).alloc (Nat.le_refl _) _
  have eg : ∀ args w, (callFunc 96 args).run Tryz.prog w = .ok (.enter 96 args) w := enters_of Tryz.func96 (by kernel_rfl) rfl
  have hx : (w.alloc (.cells #[v] 22)).cell? ⟨w.heap.size, 0, none⟩ = some v := by simp
  have K := hide (fullK 96 #[] #[.pointer (some ⟨w.heap.size, 0, none⟩)] rs (w.alloc (.cells #[v] 22)) (fullOpens v rs w _ w.heap.size hb hg hv hx) eg (fun c => copn_len hv c) c hc)
  have hmf : ∀ (fn : Fn) (first cap : Array Value) (w : World), (Instr.makeFunc fn first cap).run Tryz.prog w = .ok (.func fn first cap) w := fun _ _ _ _ => rfl
  obtain ⟨ao, cap, rfl, _, _⟩ := hv.shape
  clear hg hv hc eg hx
  generalize Cn.full rs c = r at *
  go_enter Tryz.func53, Tryz.ntmps53
  go_wp2_with fail
  refine (unhide K).mono ?_
  rintro e w1 ⟨v1, rfl, h1, h2⟩
  have HF : FullB w r (.returned (.tuple #[v1, .int .i64 r.2])) w1 := ⟨v1, rfl, h1.lower (by simp), bthen hb h2⟩
  clear K h1 h2
  go_wp2
  go_ret2
  exact HF
end Go.Proofs.YtloocceakfmnoaaGreatDoor
