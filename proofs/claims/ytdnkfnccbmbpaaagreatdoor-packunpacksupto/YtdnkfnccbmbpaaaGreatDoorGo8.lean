import Derived.Test.YtdnkfnccbmbpaaaGreatDoorMPd8
import Derived.Deep.QuietTactic
import Derived.BigQuiet
import Derived.Shelf.Abstract
/- The closures that write a record's parts. -/
namespace Go.Proofs.YtdnkfnccbmbpaaaGreatDoor
open Go.RowKit
open Wi

def TellB (w : World) (x : Int) (e : Ending) (w' : World) : Prop := e = .returned (.int .i64 x) ∧ Below w.heap.size w w'
def SayB (w : World) (s : ByteArray) (e : Ending) (w' : World) : Prop := e = .returned (.string s) ∧ Below w.heap.size w w'
/-- Bytes, in memory of the call's own. -/
def WrB (w : World) (zs : List Int) (e : Ending) (w' : World) : Prop := ∃ v, e = .returned v ∧ Own w' w.heap.size v zs ∧ Below w.heap.size w w'
theorem Wi.Own.lower {w : World} {B B' : Nat} {v : Value} {zs : List Int} (h : Own w B v zs) (hB : B' ≤ B) : Own w B' v zs := by
  refine ⟨h.1, h.2.1, h.2.2.1, ?_⟩
  rcases h.2.2.2 with h2 | ⟨g, cap, cur, hv, hg, r⟩
  · exact .inl h2
  · exact .inr ⟨g, cap, cur, hv, by omega, r⟩
theorem Wi.Own.below {w w' : World} {B : Nat} {v : Value} {zs : List Int} (h : Own w B v zs) (hb : Below w.heap.size w w') : Own w' B v zs :=
  ⟨h.1, h.2.1, own_keep h.2.2 fun g hg => hb.block g (h.2.2.lt g hg).2⟩
theorem TellB.drewN {w : World} {x : Int} (n : Nat) : TellB w x (.returned (.int .i64 x)) (w.drewN n) := ⟨rfl, ⟨rfl, rfl, rfl, Nat.le_refl _, fun _ _ => rfl⟩⟩
set_option maxHeartbeats 400000 in
theorem span1_tell (p b : Nat) (r : Rec) (w : World) (hb : w.cell? ⟨b, 0, none⟩ = some (.pointer (some ⟨p, 0, none⟩))) (hr : RecAt w p 0 r) : Calls Tryz.prog 72 #[.pointer (some ⟨b, 0, none⟩)] w (TellB w r.lo) := by
  have x1 : w.cell? ⟨p, 1, none⟩ = some (.int .i64 r.lo) := by simpa using hr.lo
  clear hr
  generalize r.lo = z at *
  go_enter Tryz.func72, Tryz.ntmps72
  go_wp2
  go_ret
  exact ⟨rfl, Below.refl _ _⟩
set_option maxHeartbeats 400000 in
theorem alone1_tell (p b : Nat) (r : Rec) (w : World) (hb : w.cell? ⟨b, 0, none⟩ = some (.pointer (some ⟨p, 0, none⟩))) (hr : RecAt w p 0 r) : Calls Tryz.prog 83 #[.pointer (some ⟨b, 0, none⟩)] w (TellB w r.lo) := by
  have x1 : w.cell? ⟨p, 1, none⟩ = some (.int .i64 r.lo) := by simpa using hr.lo
  clear hr
  generalize r.lo = z at *
  go_enter Tryz.func83, Tryz.ntmps83
  go_wp2
  go_ret
  exact ⟨rfl, Below.refl _ _⟩
set_option maxHeartbeats 400000 in
theorem plain1_tell (p b : Nat) (r : Rec) (w : World) (hb : w.cell? ⟨b, 0, none⟩ = some (.pointer (some ⟨p, 0, none⟩))) (hr : RecAt w p 0 r) : Calls Tryz.prog 79 #[.pointer (some ⟨b, 0, none⟩)] w (TellB w r.n) := by
  have x1 : w.cell? ⟨p, 3, none⟩ = some (.int .i64 r.n) := by simpa using hr.n
  clear hr
  generalize r.n = z at *
  go_enter Tryz.func79, Tryz.ntmps79
  go_wp2
  go_ret
  exact ⟨rfl, Below.refl _ _⟩
set_option maxHeartbeats 1000000 in
theorem span3_tell (p b : Nat) (r : Rec) (w : World) (hb : w.cell? ⟨b, 0, none⟩ = some (.pointer (some ⟨p, 0, none⟩))) (hr : RecAt w p 0 r) (h0 : 0 ≤ r.lo) (h1 : r.lo ≤ 1114111) (h2 : 0 ≤ r.hi) (h3 : r.hi ≤ 1114111) : Calls Tryz.prog 74 #[.pointer (some ⟨b, 0, none⟩)] w (TellB w (r.hi - r.lo)) := by
  have x1 : w.cell? ⟨p, 1, none⟩ = some (.int .i64 r.lo) := by simpa using hr.lo
  have x2 : w.cell? ⟨p, 2, none⟩ = some (.int .i64 r.hi) := by simpa using hr.hi
  clear hr
  generalize r.lo = z at *
  generalize r.hi = y at *
  have HF := hide (fun n => TellB.drewN (w := w) (x := y - z) n)
  go_enter Tryz.func74, Tryz.ntmps74
  go_wp2
  go_quiet (fail)
  go_wp2
  go_ret
  exact (unhide HF) _
set_option maxHeartbeats 400000 in
theorem target1_tell (p b : Nat) (r : Rec) (w : World) (hb : w.cell? ⟨b, 0, none⟩ = some (.pointer (some ⟨p, 0, none⟩))) (hr : RecAt w p 0 r) (hl : 0 < r.to.length) : Calls Tryz.prog 81 #[.pointer (some ⟨b, 0, none⟩)] w (TellB w (r.to.getD 0 0)) := by
  obtain ⟨vt, x4, hv⟩ := hr.to
  have x4 : w.cell? ⟨p, 4, none⟩ = some vt := by simpa using x4
  obtain ⟨tb, toff, tcap, rfl, h1, h2, hc⟩ := hv.place hl
  have c0 : w.cell? ⟨tb, toff, none⟩ = some (.int .i32 (r.to.getD 0 0)) := hc 0 hl
  have hru := hv.1.i32at 0
  have hll := hv.len
  clear hr hv hc
  generalize r.to.getD 0 0 = z at *
  generalize r.to.length = m at *
  go_enter Tryz.func81, Tryz.ntmps81
  go_wp2
  go_ret
  exact ⟨rfl, Below.refl _ _⟩
set_option maxHeartbeats 400000 in
theorem name1_say (p b : Nat) (r : Rec) (w : World) (hb : w.cell? ⟨b, 0, none⟩ = some (.pointer (some ⟨p, 0, none⟩))) (hr : RecAt w p 0 r) : Calls Tryz.prog 86 #[.pointer (some ⟨b, 0, none⟩)] w (SayB w r.name) := by
  have x1 : w.cell? ⟨p, 5, none⟩ = some (.string r.name) := by simpa using hr.name
  clear hr
  generalize r.name = z at *
  go_enter Tryz.func86, Tryz.ntmps86
  go_wp2
  go_ret
  exact ⟨rfl, Below.refl _ _⟩
set_option maxHeartbeats 400000 in
theorem other1_say (p b : Nat) (r : Rec) (w : World) (hb : w.cell? ⟨b, 0, none⟩ = some (.pointer (some ⟨p, 0, none⟩))) (hr : RecAt w p 0 r) : Calls Tryz.prog 92 #[.pointer (some ⟨b, 0, none⟩)] w (SayB w r.other) := by
  have x1 : w.cell? ⟨p, 6, none⟩ = some (.string r.other) := by simpa using hr.other
  clear hr
  generalize r.other = z at *
  go_enter Tryz.func92, Tryz.ntmps92
  go_wp2
  go_ret
  exact ⟨rfl, Below.refl _ _⟩
set_option maxHeartbeats 400000 in
theorem num_write (t b b2 : Nat) (x : Int) (w : World) (eg : ∀ args w, (callFunc t args).run Tryz.prog w = .ok (.enter t args) w) (hb : w.cell? ⟨b, 0, none⟩ = some (.func (.func t) #[] #[.pointer (some ⟨b2, 0, none⟩)])) (K : Calls Tryz.prog t #[.pointer (some ⟨b2, 0, none⟩)] w (TellB w x)) (hx : x ≤ 9223372036854775807) :
    Calls Tryz.prog 103 #[.pointer (some ⟨b, 0, none⟩)] w (WrB w (Ref.uint x)) := by
  have K := hide K
  have K2 := hide (fun W => uint_any x W hx)
  go_enter Tryz.func103, Tryz.ntmps103
  go_wp2_with fail
  refine (unhide K).mono ?_
  rintro e1 w1 ⟨rfl, hb1⟩
  go_wp2_with fail
  refine ((unhide K2) w1).mono ?_
  rintro e2 w2 ⟨v, rfl, hv, hb2⟩
  have HF : WrB w (Ref.uint x) (.returned v) w2 := ⟨v, rfl, hv.lower hb1.size, bthen hb1 hb2⟩
  clear K K2 hv hb1 hb2
  go_wp2
  go_ret
  exact HF
set_option maxHeartbeats 400000 in
theorem text_write (t b b2 : Nat) (s : ByteArray) (w : World) (eg : ∀ args w, (callFunc t args).run Tryz.prog w = .ok (.enter t args) w) (hb : w.cell? ⟨b, 0, none⟩ = some (.func (.func t) #[] #[.pointer (some ⟨b2, 0, none⟩)])) (K : Calls Tryz.prog t #[.pointer (some ⟨b2, 0, none⟩)] w (SayB w s)) (hx : s.size ≤ 140737488351232) :
    Calls Tryz.prog 105 #[.pointer (some ⟨b, 0, none⟩)] w (WrB w (Ref.uint s.size ++ nums s)) := by
  have K := hide K
  have K2 := hide (fun W => text_any s W hx)
  generalize Ref.uint s.size ++ nums s = zs at *
  go_enter Tryz.func105, Tryz.ntmps105
  go_wp2_with fail
  refine (unhide K).mono ?_
  rintro e1 w1 ⟨rfl, hb1⟩
  go_wp2_with fail
  refine ((unhide K2) w1).mono ?_
  rintro e2 w2 ⟨v, rfl, hv, hb2⟩
  have HF : WrB w zs (.returned v) w2 := ⟨v, rfl, hv.lower hb1.size, bthen hb1 hb2⟩
  clear K K2 hv hb1 hb2
  go_wp2
  go_ret
  exact HF
set_option maxHeartbeats 400000 in
theorem weight_write (p b : Nat) (r : Rec) (w : World) (hb : w.cell? ⟨b, 0, none⟩ = some (.pointer (some ⟨p, 0, none⟩))) (hr : RecAt w p 0 r) : Calls Tryz.prog 88 #[.pointer (some ⟨b, 0, none⟩)] w (WrB w (Ref.fl r.wt)) := by
  have x7 : w.cell? ⟨p, 7, none⟩ = some (.float .f64 r.wt) := by simpa using hr.wt
  clear hr
  have K2 := hide (fun W => float_any r.wt W)
  generalize r.wt = u at *
  go_enter Tryz.func88, Tryz.ntmps88
  go_wp2_with fail
  refine ((unhide K2) w).mono ?_
  rintro e2 w2 ⟨v, rfl, hv, hb2⟩
  have HF : WrB w (Ref.fl u) (.returned v) w2 := ⟨v, rfl, hv, hb2⟩
  clear K2 hv hb2
  go_wp2
  go_ret
  exact HF
theorem flat_step (zs : List Int) (k : Nat) (hk : k < zs.length) : (zs.take (k + 1)).flatMap Ref.uint = (zs.take k).flatMap Ref.uint ++ Ref.uint (zs.getD k 0) := by
  rw [List.take_succ_eq_append_getElem hk, List.flatMap_append]
  simp [List.getD, hk]
theorem flat_len (zs : List Int) : (zs.flatMap Ref.uint).length ≤ 9 * zs.length := by
  induction zs with
  | nil => simp
  | cons z zs ih =>
    have := uint_len z
    simp only [List.flatMap_cons, List.length_append, List.length_cons]
    omega
set_option maxRecDepth 8000 in
set_option maxHeartbeats 2000000 in
theorem list_write (p b : Nat) (r : Rec) (w : World) (hb : w.cell? ⟨b, 0, none⟩ = some (.pointer (some ⟨p, 0, none⟩))) (hr : RecAt w p 0 r) (hl : r.to.length ≤ 1000000000) : Calls Tryz.prog 76 #[.pointer (some ⟨b, 0, none⟩)] w (WrB w (Ref.uint r.to.length ++ r.to.flatMap Ref.uint)) := by
  obtain ⟨i0, hi, hz0, hz1, hz2⟩ := info_parts Tryz.info5
  obtain ⟨vt, x4, hv⟩ := hr.to
  have x4 : w.cell? ⟨p, 4, none⟩ = some vt := by simpa using x4
  have KU := hide (fun (n : Int) W h => uint_any n W h)
  clear hr
  generalize r.to = zs at *
  have hul := uint_len zs.length
  rcases Nat.eq_zero_or_pos zs.length with h0 | h0
  · obtain ⟨ao, cap, rfl, _, _⟩ := hv.shape
    obtain rfl : zs = [] := List.eq_nil_of_length_eq_zero h0
    clear hv h0
    go_enter Tryz.func76, Tryz.ntmps76
    go_wp2_with fail
    refine ((unhide KU) _ w (by omega)).mono ?_
    rintro e1 w1 ⟨v1, rfl, hown, hb1⟩
    have y4 : w1.cell? ⟨p, 4, none⟩ = some (.slice ao 0 cap) := by rw [hb1.cell (lt_of_cell? x4)]; exact x4
    have yb : w1.cell? ⟨b, 0, none⟩ = some (.pointer (some ⟨p, 0, none⟩)) := by rw [hb1.cell (lt_of_cell? hb)]; exact hb
    have HF : WrB w (Ref.uint (([] : List Int).length : Int) ++ ([] : List Int).flatMap Ref.uint) (.returned v1) w1 := ⟨v1, rfl, by simpa using hown, hb1⟩
    clear KU hown hb1
    go_wp2
    refine wp_loop_rounds 1 ?_
    rw [rounds_succ]
    go_wp2
    go_ret
    exact HF
  · obtain ⟨tb, toff, tcap, rfl, h1, h2, hc⟩ := hv.place h0
    have HC : Hid (∀ i, i < zs.length → ∀ W, Below w.heap.size w W → W.cell? ⟨tb, toff + i, none⟩ = some (.int .i32 (zs.getD i 0))) := fun i hi W hW => by
      rw [hW.cell (lt_of_cell? (hc i hi))]; exact hc i hi
    have HR : Hid (∀ i, -2147483648 ≤ zs.getD i 0 ∧ zs.getD i 0 ≤ 2147483647) := fun i => hv.1.i32at i
    have X4 := hide x4
    have HB := hide hb
    clear hv hc
    go_enter Tryz.func76, Tryz.ntmps76
    go_wp2_with fail
    refine ((unhide KU) _ w (by omega)).mono ?_
    rintro e1 w1 ⟨v1, rfl, hown, hb1⟩
    have y4 : w1.cell? ⟨p, 4, none⟩ = some (.slice (some ⟨tb, toff, none⟩) zs.length tcap) := by rw [hb1.cell (lt_of_cell? (unhide X4))]; exact unhide X4
    have yb : w1.cell? ⟨b, 0, none⟩ = some (.pointer (some ⟨p, 0, none⟩)) := by rw [hb1.cell (lt_of_cell? (unhide HB))]; exact unhide HB
    clear X4 HB x4 hb
    go_wp2
    clear y4 yb
    go_loopw [2, 4, 16] (fun bv _ iv wr => ∃ k : Nat, iv = .int .i64 k ∧ k ≤ zs.length ∧ Own wr w.heap.size bv (Ref.uint zs.length ++ (zs.take k).flatMap Ref.uint) ∧ Below w.heap.size w wr) (fun _ _ iv _ => zs.length - (intOf iv).toNat)
    case atStart => exact ⟨0, rfl, by omega, by simpa using hown, hb1⟩
    case round =>
      obtain ⟨k, rfl, hk, hown2, hb2⟩ := hrel
      by_cases hlt : k < zs.length
      · have a0 := (unhide HC) k hlt wr hb2
        have hru := (unhide HR) k
        have hst := flat_step zs k hlt
        have hfl := flat_len (zs.take k)
        have htl : (zs.take k).length ≤ k := List.length_take_le _ _
        have HST := hide hst
        clear hst hown hb1
        generalize zs.getD k 0 = c at *
        have hpre : (Ref.uint zs.length ++ (zs.take k).flatMap Ref.uint).length ≤ 20000000000 := by rw [List.length_append]; omega
        have HPRE : Hid (Ref.uint zs.length ++ (zs.take (k + 1)).flatMap Ref.uint = (Ref.uint zs.length ++ (zs.take k).flatMap Ref.uint) ++ Ref.uint c) := by
          show _ = _
          rw [unhide HST, List.append_assoc]
        clear HST hfl
        generalize Ref.uint zs.length ++ (zs.take k).flatMap Ref.uint = xs at *
        go_wp2_with fail
        refine ((unhide KU) c wr (by omega)).mono ?_
        rintro e3 w3 ⟨v3, rfl, hown3, hb3⟩
        have hcl := uint_len c
        have hm := hown2.below hb3
        have hs3 := hb3.size
        have hs2 := hb2.size
        have HMORE : Hid (∀ v4 w4, w4.ownsRow w.heap.size 5 1 v4 (xs.length + (Ref.uint c).length) (xs.map (Value.int .u8) ++ (Ref.uint c).map (Value.int .u8)) → w3.grownBy w4 u2.ownBlock → Own w4 w.heap.size v4 (xs ++ Ref.uint c) ∧ Below w.heap.size w w4) := fun v4 w4 hr hg =>
          ⟨⟨hown2.1.append hown3.1, by rw [List.length_append]; omega, by rw [List.length_append, List.map_append]; exact hr⟩, (bthen hb2 hb3).grown hg (by omega) (fun g hg' => (hm.2.2.lt g hg').1)⟩
        have HM := hide hm.2.2
        clear KU HC HR a0
        rcases hown3.sl.src with ⟨hnil, rfl⟩ | ⟨ad, cap3, rfl, hsrc⟩
        · have HMORE2 : Hid (∀ v4 w4, w4.ownsRow w.heap.size 5 1 v4 xs.length (xs.map (Value.int .u8)) → w3.grownBy w4 u2.ownBlock → Own w4 w.heap.size v4 (xs ++ Ref.uint c) ∧ Below w.heap.size w w4) := fun v4 w4 hr hg => (unhide HMORE) v4 w4 (by rw [hnil]; simpa using hr) hg
          have R : Hid (Own w3 w.heap.size u2 (xs ++ Ref.uint c) ∧ Below w.heap.size w w3) := ⟨by rw [hnil, List.append_nil]; exact hm, bthen hb2 hb3⟩
          clear HMORE HMORE2 hown2 hown3 hm hb2 hb3
          go_wp2_with (at_builtin; refine wpList_append_own_none rfl (.tmp 20) (.tmp 23) 24 rfl w.heap.size 5 i0 1 Tryz.underlying24 hi _ _ _ rfl (unhide HM) rfl ?_)
          exact ⟨⟨k + 1, by go_num, by omega, by rw [unhide HPRE]; exact (unhide R).1, (unhide R).2⟩, by simp [intOf]; omega⟩
        · have HS := hide hsrc
          clear hown2 hown3 hm hb2 hb3 hsrc
          have hmp : ((Ref.uint c).map (Value.int .u8)).length = (Ref.uint c).length := List.length_map _
          have H1 := hide (ints_one .u8 (Ref.uint c))
          generalize (Ref.uint c).map (Value.int .u8) = us at *
          generalize (Ref.uint c).length = m at *
          go_wp2_with (at_builtin; refine wpList_append_own _ rfl (.tmp 20) (.tmp 23) 24 rfl w.heap.size 5 i0 (.int .u8 0) 1 1 Tryz.underlying24 hi hz0 hz1 hz2 rfl (by decide) _ _ _ rfl (unhide HM) ad m cap3 us rfl (by rw [hmp]; simp) (unhide HS) (unhide H1) (by unfold maxLen; omega) (by omega) (by omega) ?_)
          intro v4 w4 hr4 hg4 _
          have R := (unhide HMORE) v4 w4 (by simpa using hr4) hg4
          have HR := hide R
          clear HMORE HM HS hr4 hg4 R
          go_wp2
          go_roundw
          case rel => exact ⟨k + 1, by go_num, by omega, by rw [unhide HPRE]; exact (unhide HR).1, (unhide HR).2⟩
          case measure => simp [intOf]; omega
      · obtain rfl : k = zs.length := by omega
        rw [List.take_length] at hown2
        have HF : WrB w (Ref.uint zs.length ++ zs.flatMap Ref.uint) (.returned u2) wr := ⟨u2, rfl, hown2, hb2⟩
        clear hown hown2 KU HC HR hb1
        generalize Ref.uint zs.length ++ zs.flatMap Ref.uint = xs at *
        go_wp2
        go_ret
        exact HF
end Go.Proofs.YtdnkfnccbmbpaaaGreatDoor
/- A part written, whatever it is; the state of the loops of written. -/
namespace Go.Proofs.YtdnkfnccbmbpaaaGreatDoor
open Go.RowKit
open Wi

/-- What a part wants of its record to be written. -/
def Wok (r : Rec) : Nat → Prop
  | 0 => 0 ≤ r.lo ∧ r.lo ≤ 1114111
  | 1 => 0 ≤ r.lo ∧ r.lo ≤ r.hi ∧ r.hi ≤ 1114111
  | 2 => 0 ≤ r.lo ∧ r.lo ≤ 1114111
  | 3 => 0 ≤ r.n ∧ r.n ≤ 1114111
  | 4 => 0 < r.to.length ∧ 0 ≤ r.to.getD 0 0 ∧ r.to.getD 0 0 ≤ 1114111
  | 5 => r.name.size ≤ 1000
  | 6 => r.other.size ≤ 1000
  | 7 => r.to.length ≤ 1000
  | _ => True
def Ent (k : Nat) : Prop := ∀ args W, (callFunc k args).run Tryz.prog W = .ok (.enter k args) W
theorem write_any {w : World} {p f : Nat} {x : Value × Value} {r : Rec} (hf : Fd w p f x) (hr : RecAt w p 0 r) (hw : Wok r f) :
    ∃ k b, x.1 = .func (.func k) #[] #[.pointer (some ⟨b, 0, none⟩)] ∧ Ent k ∧ Calls Tryz.prog k #[.pointer (some ⟨b, 0, none⟩)] w (WrB w (Pk.fb r f)) := by
  match f, hf, hw with
  | 0, ⟨⟨b, hx, u, hu, ⟨b2, hq, h2⟩⟩, _⟩, hw => subst hq; exact ⟨_, b, hx, enters_of Tryz.func103 (by kernel_rfl) rfl, num_write _ b b2 _ w (enters_of Tryz.func72 (by kernel_rfl) rfl) hu.cell (span1_tell p b2 r w h2.cell hr) (by have h9 : 0 ≤ r.lo ∧ r.lo ≤ 1114111 := hw; omega)⟩
  | 1, ⟨⟨b, hx, u, hu, ⟨b2, hq, h2⟩⟩, _⟩, hw => subst hq; exact ⟨_, b, hx, enters_of Tryz.func103 (by kernel_rfl) rfl, num_write _ b b2 _ w (enters_of Tryz.func74 (by kernel_rfl) rfl) hu.cell (span3_tell p b2 r w h2.cell hr hw.1 (Int.le_trans hw.2.1 hw.2.2) (Int.le_trans hw.1 hw.2.1) hw.2.2) (by have h9 : 0 ≤ r.lo ∧ r.lo ≤ r.hi ∧ r.hi ≤ 1114111 := hw; omega)⟩
  | 2, ⟨⟨b, hx, u, hu, ⟨b2, hq, h2⟩⟩, _⟩, hw => subst hq; exact ⟨_, b, hx, enters_of Tryz.func103 (by kernel_rfl) rfl, num_write _ b b2 _ w (enters_of Tryz.func83 (by kernel_rfl) rfl) hu.cell (alone1_tell p b2 r w h2.cell hr) (by have h9 : 0 ≤ r.lo ∧ r.lo ≤ 1114111 := hw; omega)⟩
  | 3, ⟨⟨b, hx, u, hu, ⟨b2, hq, h2⟩⟩, _⟩, hw => subst hq; exact ⟨_, b, hx, enters_of Tryz.func103 (by kernel_rfl) rfl, num_write _ b b2 _ w (enters_of Tryz.func79 (by kernel_rfl) rfl) hu.cell (plain1_tell p b2 r w h2.cell hr) (by have h9 : 0 ≤ r.n ∧ r.n ≤ 1114111 := hw; omega)⟩
  | 4, ⟨⟨b, hx, u, hu, ⟨b2, hq, h2⟩⟩, _⟩, hw => subst hq; exact ⟨_, b, hx, enters_of Tryz.func103 (by kernel_rfl) rfl, num_write _ b b2 _ w (enters_of Tryz.func81 (by kernel_rfl) rfl) hu.cell (target1_tell p b2 r w h2.cell hr hw.1) (by have h9 : 0 < r.to.length ∧ 0 ≤ r.to.getD 0 0 ∧ r.to.getD 0 0 ≤ 1114111 := hw; omega)⟩
  | 5, ⟨⟨b, hx, u, hu, ⟨b2, hq, h2⟩⟩, _⟩, hw => subst hq; exact ⟨_, b, hx, enters_of Tryz.func105 (by kernel_rfl) rfl, text_write _ b b2 _ w (enters_of Tryz.func86 (by kernel_rfl) rfl) hu.cell (name1_say p b2 r w h2.cell hr) (by have h9 : r.name.size ≤ 1000 := hw; omega)⟩
  | 6, ⟨⟨b, hx, u, hu, ⟨b2, hq, h2⟩⟩, _⟩, hw => subst hq; exact ⟨_, b, hx, enters_of Tryz.func105 (by kernel_rfl) rfl, text_write _ b b2 _ w (enters_of Tryz.func92 (by kernel_rfl) rfl) hu.cell (other1_say p b2 r w h2.cell hr) (by have h9 : r.other.size ≤ 1000 := hw; omega)⟩
  | 7, ⟨⟨b, hx, hu⟩, _⟩, hw => exact ⟨_, b, hx, enters_of Tryz.func76 (by kernel_rfl) rfl, list_write p b r w hu.cell hr (by have h9 : r.to.length ≤ 1000 := hw; omega)⟩
  | n + 8, ⟨⟨b, hx, hu⟩, _⟩, _ => exact ⟨_, b, hx, enters_of Tryz.func88 (by kernel_rfl) rfl, weight_write p b r w hu.cell hr⟩
/-- The record under way: in its block, its list in the old memory; its parts; the bytes so far. -/
structure Wst (w wr : World) (p : Nat) (vt vf : Value) (fs : List Nat) (r : Rec) (bv : Value) (xs : List Int) : Prop where
  own : Own wr w.heap.size bv xs
  bel : Below w.heap.size w wr
  blk : wr.heap[p]? = some (.cells (rarr r vt) 46 (0, 0))
  at_ : w.heap.size ≤ p
  to : Sk .i32 w vt r.to
  fds : Fds wr w.heap.size p vf fs
theorem Wst.ra {w wr : World} {p : Nat} {vt vf : Value} {fs : List Nat} {r : Rec} {bv : Value} {xs : List Int} (h : Wst w wr p vt vf fs r bv xs) : RecAt wr p 0 r :=
  ⟨cell_of (j := 0) h.blk (by show _ < 8; omega), cell_of (j := 1) h.blk (by show _ < 8; omega), cell_of (j := 2) h.blk (by show _ < 8; omega), cell_of (j := 3) h.blk (by show _ < 8; omega), ⟨vt, cell_of (j := 4) h.blk (by show _ < 8; omega), h.to.below h.bel⟩, cell_of (j := 5) h.blk (by show _ < 8; omega), cell_of (j := 6) h.blk (by show _ < 8; omega), cell_of (j := 7) h.blk (by show _ < 8; omega)⟩
theorem Wst.lt {w wr : World} {p : Nat} {vt vf : Value} {fs : List Nat} {r : Rec} {bv : Value} {xs : List Int} (h : Wst w wr p vt vf fs r bv xs) : p < wr.heap.size := lt_of_cell? h.ra.kind
theorem Wst.below {w wr w' : World} {p : Nat} {vt vf : Value} {fs : List Nat} {r : Rec} {bv : Value} {xs : List Int} (h : Wst w wr p vt vf fs r bv xs) (hb : Below wr.heap.size wr w') : Wst w w' p vt vf fs r bv xs := by
  refine ⟨h.own.below hb, bthen h.bel hb, by rw [hb.block p h.lt]; exact h.blk, h.at_, h.to, ?_⟩
  obtain ⟨ys, h1, h2, h3⟩ := h.fds
  exact ⟨ys, h1, own_keep h2 fun g hg => hb.block g (h2.lt g hg).2, fun i hi => (h3 i hi).below hb⟩
theorem own_tag {w : World} {B e sz n : Nat} {v : Value} {us : List Value} (h : w.ownsRow B e sz v n us) {g : Nat} (hg : v.ownBlock = some g) : ∃ cur, w.heap[g]? = some (.cells cur e (0, 0)) := by
  rcases h.2 with ⟨rfl, _⟩ | ⟨k, cap, cur, rfl, _, hh, _⟩
  · cases hg
  · simp [Value.ownBlock] at hg
    subst hg
    exact ⟨cur, hh⟩
theorem Wst.more {w wr w' : World} {p : Nat} {vt vf : Value} {fs : List Nat} {r : Rec} {bv bv' : Value} {xs ys : List Int} (h : Wst w wr p vt vf fs r bv xs) (hg : wr.grownBy w' bv.ownBlock) (ho : Own w' w.heap.size bv' ys) : Wst w w' p vt vf fs r bv' ys := by
  have hk : ∀ g, g < wr.heap.size → bv.ownBlock ≠ some g → w'.heap[g]? = wr.heap[g]? := fun g h1 h2 => hg.block g h1 (fun e => h2 e.symm)
  have hkeep := Bxs.grown_row h.own.2.2 (by decide) hg
  refine ⟨ho, h.bel.grown hg h.bel.size (fun k hk => (h.own.2.2.lt k hk).1), ?_, h.at_, h.to, ?_⟩
  · rw [hk p h.lt (fun e => ?_)]
    · exact h.blk
    · obtain ⟨cur, hc⟩ := own_tag h.own.2.2 e
      rw [h.blk] at hc; simp at hc
  · obtain ⟨zs, h1, h2, h3⟩ := h.fds
    refine ⟨zs, h1, own_keep h2 fun g hg' => hk g (h2.lt g hg').2 (fun e => ?_), fun i hi => (h3 i hi).keep hkeep⟩
    obtain ⟨cur, hc⟩ := own_tag h.own.2.2 e
    obtain ⟨cur', hc'⟩ := own_tag h2 hg'
    rw [hc] at hc'; simp at hc'
/-- The parts as they are loaded. -/
theorem Fds.place {w : World} {B p : Nat} {v : Value} {fs : List Nat} (h : Fds w B p v fs) (hne : 0 < fs.length) : ∃ g cap, v = .slice (some ⟨g, 0, none⟩) fs.length cap ∧ fs.length ≤ cap ∧ cap ≤ 9223372036854775807 ∧ ∀ i, i < fs.length → ∃ x, Fd w p (fs.getD i 0) x ∧ w.cell? ⟨g, i * 2, none⟩ = some x.1 ∧ w.cell? ⟨g, i * 2 + 1, none⟩ = some x.2 := by
  obtain ⟨xs, h1, h2, h3⟩ := h
  have h2' := h2
  rcases h2.2 with ⟨rfl, h0⟩ | ⟨g, cap, cur, rfl, hg, hh, hn, hcap, hsz, htake⟩
  · omega
  · refine ⟨g, cap, by rw [h1], by omega, by unfold maxLen at hcap; omega, fun i hi => ⟨_, h3 i hi, ?_, ?_⟩⟩
    · have e := h2'.cells (g := g) rfl (i * 2 + 0) _ (by rw [fcells_at xs i 0 (by omega) (by omega)]; rfl)
      rw [addr_add, Nat.zero_add] at e
      exact e
    · have e := h2'.cells (g := g) rfl (i * 2 + 1) _ (by rw [fcells_at xs i 1 (by omega) (by omega)]; rfl)
      rw [addr_add, Nat.zero_add] at e
      exact e
theorem write_at {w : World} {p f k b : Nat} {y : Value} {r : Rec} (hf : Fd w p f (.func (.func k) #[] #[.pointer (some ⟨b, 0, none⟩)], y)) (hr : RecAt w p 0 r) (hw : Wok r f) : Ent k ∧ Calls Tryz.prog k #[.pointer (some ⟨b, 0, none⟩)] w (WrB w (Pk.fb r f)) := by
  obtain ⟨k', b', e, h1, h2⟩ := write_any hf hr hw
  simp only [Value.func.injEq, Fn.func.injEq, true_and, Array.mk.injEq, List.cons.injEq, Value.pointer.injEq, Option.some.injEq, Addr.mk.injEq, and_true] at e
  obtain ⟨rfl, rfl⟩ := e
  exact ⟨h1, h2⟩
theorem ub_ne (f : Nat) (n : Int) : Ref.ub f n ≠ [] := by
  cases f with
  | zero => simp [Ref.ub]
  | succ f => simp only [Ref.ub]; split <;> simp
theorem uint_ne {n : Int} (h : 0 ≤ n) : Ref.uint n ≠ [] := by
  unfold Ref.uint
  rw [if_neg (by omega)]
  exact ub_ne 8 n
theorem fb_ne {r : Rec} {f : Nat} (h : Wok r f) : Pk.fb r f ≠ [] := by
  match f, h with
  | 0, h => exact uint_ne h.1
  | 1, h => exact uint_ne (by have := h.2.1; omega)
  | 2, h => exact uint_ne h.1
  | 3, h => exact uint_ne h.1
  | 4, h => exact uint_ne h.2.1
  | 5, _ => simp only [Pk.fb]; intro e; exact uint_ne (n := (r.name.size : Int)) (by omega) (List.append_eq_nil_iff.1 e).1
  | 6, _ => simp only [Pk.fb]; intro e; exact uint_ne (n := (r.other.size : Int)) (by omega) (List.append_eq_nil_iff.1 e).1
  | 7, _ => simp only [Pk.fb]; intro e; exact uint_ne (n := (r.to.length : Int)) (by omega) (List.append_eq_nil_iff.1 e).1
  | n + 8, _ => simp only [Pk.fb]; intro e; have := congrArg List.length e; rw [Ref.fl_length] at this; simp at this
theorem fb_len {r : Rec} {f : Nat} (h : Wok r f) : (Pk.fb r f).length ≤ 10000 := by
  match f, h with
  | 0, _ => have := uint_len r.lo; simp only [Pk.fb]; omega
  | 1, _ => have := uint_len (r.hi - r.lo); simp only [Pk.fb]; omega
  | 2, _ => have := uint_len r.lo; simp only [Pk.fb]; omega
  | 3, _ => have := uint_len r.n; simp only [Pk.fb]; omega
  | 4, _ => have := uint_len (r.to.getD 0 0); simp only [Pk.fb]; omega
  | 5, h => have := uint_len r.name.size; have h9 : r.name.size ≤ 1000 := h; simp only [Pk.fb, List.length_append, nums_length]; omega
  | 6, h => have := uint_len r.other.size; have h9 : r.other.size ≤ 1000 := h; simp only [Pk.fb, List.length_append, nums_length]; omega
  | 7, h => have := uint_len r.to.length; have h9 : r.to.length ≤ 1000 := h; have := flat_len r.to; simp only [Pk.fb, List.length_append]; omega
  | n + 8, _ => simp only [Pk.fb]; rw [Ref.fl_length]; omega
theorem fbs_len {r : Rec} (fs : List Nat) (h : ∀ f ∈ fs, Wok r f) : (fs.flatMap (Pk.fb r)).length ≤ 10000 * fs.length := by
  induction fs with
  | nil => simp
  | cons f fs ih =>
    have h1 := fb_len (h f (by simp))
    have h2 := ih (fun g hg => h g (by simp [hg]))
    simp only [List.flatMap_cons, List.length_append, List.length_cons]
    omega
theorem form_len (k : Int) : (Pk.form k).length ≤ 4 := by
  unfold Pk.form
  repeat (first | (split; · simp) | simp)
/-- A record that may be written. -/
def Rok (r : Rec) : Prop := Cn.fam r.kind ≠ 0 ∧ ∀ f ∈ Pk.form r.kind, Wok r f
theorem rb_len {r : Rec} (h : Rok r) : (Pk.rb r).length ≤ 40001 := by
  have h1 := fbs_len (Pk.form r.kind) h.2
  have h2 := form_len r.kind
  simp only [Pk.rb, List.length_cons]
  omega
theorem rbs_len (l : List Rec) (h : ∀ r ∈ l, Rok r) : (l.flatMap Pk.rb).length ≤ 40001 * l.length := by
  induction l with
  | nil => simp
  | cons r l ih =>
    have h1 := rb_len (h r (by simp))
    have h2 := ih (fun g hg => h g (by simp [hg]))
    simp only [List.flatMap_cons, List.length_append, List.length_cons]
    omega
end Go.Proofs.YtdnkfnccbmbpaaaGreatDoor
