/- The contract of the document's own Full: a function that calls itself. -/
import Derived.Test.YtloocceakfmnoaaGreatDoorGc9
import Derived.Test.YtloocceakfmnoaaGreatDoorGe9
import Derived.Deep.AppendLies
import Derived.Laws.AppendOwnNone
namespace Go.Proofs.YtloocceakfmnoaaGreatDoor
open Go.RowKit

theorem grow_of {w w1 : World} (h : Below w.heap.size w w1) (r : Option Nat) : w.grownBy w1 r := ⟨h.os, h.tape, h.output, h.size, fun k hk _ => h.block k hk⟩
theorem grow_trans {w w1 w2 : World} {r r' : Option Nat} (h : w.grownBy w1 r) (k : w1.grownBy w2 r') (hr : r' = r ∨ ∃ g, r' = some g ∧ w.heap.size ≤ g) : w.grownBy w2 r := by
  refine ⟨k.os.trans h.os, k.tape.trans h.tape, k.output.trans h.output, Nat.le_trans h.size k.size, fun x hx hne => ?_⟩
  rw [k.block x (Nat.lt_of_lt_of_le hx h.size) ?_, h.block x hx hne]
  rcases hr with rfl | ⟨g, rfl, hg⟩
  · exact hne
  · intro e
    have : x = g := Option.some.inj e
    omega
theorem cell_one_new (w : World) (e : TypeId) (v : Value) : ∀ j u, [v][j]? = some u → (w.alloc (.cells #[v] e)).cell? ((⟨w.heap.size, 0, none⟩ : Addr).add j) = some u := by
  intro j u hj
  match j, hj with
  | 0, hj => simp at hj; subst hj; simp [World.cell?, World.alloc, Addr.add, -World.alloc_eq]
  | j + 1, hj => simp at hj
/-- append(nil, v...): a list of the call's own. -/
theorem wpList_append_nil {w : World} {ops : Array Oper} {rest : List Oper} {o : Oper} {a : Act} {Q : Exit → Act → World → Prop} (hgd : o.guard = none) (s x : Operand)
    (ho : o.op = .call { callee := .builtin .append, args := #[s, x], argTypes := #[38, 38] }) (v : Value) (zs : List Int) (hs : a.eval s = .slice none 0 0) (hx : a.eval x = v) (hv : Sk .i32 w v zs) (hl : zs.length ≤ 1000)
    (h : ∀ v' w', Ok .i32 21 w' w.heap.size v' zs → Below w.heap.size w w' → wpList Tryz.prog ops Q rest (a.put o.dst v') w') : wpList Tryz.prog ops Q (o :: rest) a w := by
  obtain ⟨i0, hi, hz0, hz1, hz2⟩ := info_parts Tryz.info21
  rcases hv.2.src with ⟨hn, rfl⟩ | ⟨ad, cap, rfl, hsrc⟩
  · obtain rfl : zs = [] := by simpa using hn
    exact wpList_append_own_none hgd s x 38 ho w.heap.size 21 i0 1 Tryz.underlying38 hi _ _ _ hs (World.ownsRow_nil _ _ _ _) hx (h _ _ (Ok.nil _ _ _ _) (Below.refl _ _))
  · refine wpList_append_own _ hgd s x 38 ho w.heap.size 21 i0 (.int .i32 0) 1 4 Tryz.underlying38 hi hz0 hz1 hz2 rfl (by decide) _ _ _ hs (World.ownsRow_nil _ _ _ _) ad _ cap (zs.map (Value.int .i32)) hx (by simp) hsrc (ints_one .i32 zs) (by simp [maxLen]; omega) (by simp; omega) (Nat.le_refl _) ?_
    intro v' w' hrow hg _
    exact h v' w' (Ok.of hv.1 (by omega) hrow (by simp) (by simp)) (below_append0 (e := 21) (Nat.le_refl _) (World.ownsRow_nil _ _ _ _) (Below.refl _ _) hg)
/-- What a step of the way down leaves. -/
def WalkB (w : World) (B : Nat) (vo : Value) (r : List Int × Int) (e : Ending) (w' : World) : Prop :=
  ∃ v, e = .returned (.tuple #[v, .int .i64 r.2]) ∧ w.grownBy w' vo.ownBlock ∧ ((r.2 = 0 ∧ Ok .i32 21 w' B v r.1 ∧ (v.ownBlock = vo.ownBlock ∨ ∃ g, v.ownBlock = some g ∧ w.heap.size ≤ g)) ∨ (r.2 ≠ 0 ∧ v = .slice none 0 0))
/-- Where the loop over what a number opens to stands. -/
def WIn (w : World) (B : Nat) (vout vx vd : Value) (xs down : List Int) (rs : List Rec) (f : Nat) (res : List Int × Int) (k : Nat) (vo : Value) (wr : World) : Prop :=
  ∃ outk, Ok .i32 21 wr B vo outk ∧ outk.length ≤ 32 ∧ (xs.drop k).foldl (Cn.stepW rs f down) (outk, 0) = res ∧ Ok .i32 21 wr w.heap.size vx xs ∧ Ok .i32 21 wr w.heap.size vd down ∧
    (∀ g, vo.ownBlock = some g → vx.ownBlock ≠ some g ∧ vd.ownBlock ≠ some g) ∧ w.grownBy wr vout.ownBlock ∧ (vo.ownBlock = vout.ownBlock ∨ ∃ g, vo.ownBlock = some g ∧ w.heap.size ≤ g)
theorem WIn.next {w wr w' : World} {B : Nat} {vout vx vd vo v' : Value} {xs down : List Int} {rs : List Rec} {f : Nat} {res : List Int × Int} {k : Nat} {outk : List Int} (hk : k < xs.length)
    (h2 : outk.length ≤ 32) (h3 : (xs.drop k).foldl (Cn.stepW rs f down) (outk, 0) = res) (hx : Ok .i32 21 wr w.heap.size vx xs) (hd : Ok .i32 21 wr w.heap.size vd down)
    (hne : ∀ g, vo.ownBlock = some g → vx.ownBlock ≠ some g ∧ vd.ownBlock ≠ some g) (hg : w.grownBy wr vout.ownBlock) (hv : vo.ownBlock = vout.ownBlock ∨ ∃ g, vo.ownBlock = some g ∧ w.heap.size ≤ g)
    (hg2 : wr.grownBy w' vo.ownBlock) (hr0 : (Cn.walk rs f down (xs.getD k 0) outk).2 = 0) (hok : Ok .i32 21 w' B v' (Cn.walk rs f down (xs.getD k 0) outk).1) (hv2 : v'.ownBlock = vo.ownBlock ∨ ∃ g, v'.ownBlock = some g ∧ wr.heap.size ≤ g) :
    WIn w B vout vx vd xs down rs f res (k + 1) v' w' := by
  have hkeep : ∀ g, g < wr.heap.size → vo.ownBlock ≠ some g → w'.heap[g]? = wr.heap[g]? := fun g a b => hg2.block g a (fun e => b e.symm)
  refine ⟨(Cn.walk rs f down (xs.getD k 0) outk).1, hok, Cn.walk_len _ _ _ _ _ h2, ?_, hx.keep (fun g h => hkeep g (hx.2.2.lt g h).2 (fun e => (hne g e).1 h)), hd.keep (fun g h => hkeep g (hd.2.2.lt g h).2 (fun e => (hne g e).2 h)), fun g h => ?_, grow_trans hg hg2 ?_, ?_⟩
  · rw [← h3, Cn.fold_step hk]
    congr 1
    exact Prod.ext rfl hr0.symm
  · rcases hv2 with e | ⟨g', e, hg'⟩
    · exact hne g (e ▸ h)
    · rw [e] at h
      obtain rfl := Option.some.inj h
      exact ⟨fun e' => by have := (hx.2.2.lt g' e').2; omega, fun e' => by have := (hd.2.2.lt g' e').2; omega⟩
  · exact hv
  · rcases hv2 with e | ⟨g', e, hg'⟩
    · rcases hv with hv | ⟨g, hv, hvg⟩
      · exact .inl (e.trans hv)
      · exact .inr ⟨g, e.trans hv, hvg⟩
    · exact .inr ⟨g', e, Nat.le_trans hg.size hg'⟩
/-- The loop begins. -/
theorem WIn.start {w wr : World} {B : Nat} {vout vx vd : Value} {xs down out : List Int} {rs : List Rec} {f : Nat} (ho : Ok .i32 21 w B vout out) (hl : out.length ≤ 32) (hx : Ok .i32 21 wr w.heap.size vx xs) (hd : Ok .i32 21 wr w.heap.size vd down) (hb : Below w.heap.size w wr) :
    WIn w B vout vx vd xs down rs f (xs.foldl (Cn.stepW rs f down) (out, 0)) 0 vout wr := by
  refine ⟨out, ho.below hb, hl, by rw [List.drop_zero], hx, hd, fun g h => ?_, grow_of hb _, .inl rfl⟩
  have hlt := (ho.2.2.lt g h).2
  exact ⟨fun e => by have := (hx.2.2.lt g e).1; omega, fun e => by have := (hd.2.2.lt g e).1; omega⟩

set_option maxRecDepth 8000 in
set_option maxHeartbeats 8000000 in
theorem refWalk_any (w0 : World) (vl : Value) (rs : List Rec) (hR : ∀ W, Below w0.heap.size w0 W → Rcs W vl rs) : ∀ (f : Nat) (way : List Int) (c : Int) (out : List Int) (w : World) (vway vout : Value), f + way.length = 16 → Rune c → Below w0.heap.size w0 w → Sk .i32 w vway way → Ok .i32 21 w w0.heap.size vout out → out.length ≤ 32 →
    Calls Tryz.prog 132 #[vl, .int .i32 c, vway, vout] w (WalkB w w0.heap.size vout (Cn.walk rs f way c out)) := by
  intro f
  induction f with
  | zero =>
    intro way c out w vway vout hfw hc hbel hway hout hlen
    obtain ⟨i0, hi, hz0, hz1, hz2⟩ := info_parts Tryz.info21
    have hB := hbel.size
    have K1 := hide (refOpen_any vl rs c w (hR w hbel) hc)
    have hlr := (hR w hbel).1
    obtain ⟨lo, lcap, rfl, _, _⟩ := (hR w hbel).shape
    obtain ⟨c0, c1⟩ := hc
    obtain ⟨wo, wcap, rfl, hw1, hw2⟩ := hway.shape
    by_cases hop : Cn.opn rs c = []
    · have hwk := Cn.walk_leaf hop 0 way out
      rw [hop] at K1
      have HPOS : Hid (32 ≤ out.length → Cn.walk rs 0 way c out = ([], 2)) := fun h => by rw [hwk, if_pos h]
      have HNEG : Hid (¬ 32 ≤ out.length → Cn.walk rs 0 way c out = (out ++ [c], 0)) := fun h => by rw [hwk, if_neg h]
      generalize Cn.walk rs 0 way c out = res at *
      clear hwk
      go_enter Tryz.func132, Tryz.ntmps132
      go_wp2_with fail
      refine (unhide K1).mono ?_
      rintro e w1 ⟨vx, rfl, okx, hb1⟩
      obtain ⟨xo, xcap, rfl, _, _⟩ := okx.sk.shape
      have hout1 := hout.below hb1
      have hrow1 := hout1.row
      have hlen0 : ([] : List Int).length = 0 := rfl
      rw [hlen0]
      have hs1 := hb1.size
      clear K1 okx hway hlen0
      by_cases h32 : 32 ≤ out.length
      · obtain rfl := (unhide HPOS) h32
        clear HPOS HNEG
        go_wp2_with (at_builtin; refine wpList_append_lies _ rfl (.tmp 21) (.tmp 23) 38 rfl w0.heap.size 21 i0 (.int .i32 0) 1 4 Tryz.underlying38 hi hz0 hz1 hz2 rfl (by decide) _ _ _ rfl (hrow1.alloc _) ⟨w1.heap.size, 0, none⟩ 1 1 [.int .i32 c] rfl rfl (cell_one_new _ _ _) (int_one .i32 _) (by omega) (by unfold maxLen; omega) (by omega) (by simp; omega) (w1.heap.size + 1) (by simp) ?_)
        all_goals try (go_ret2; exact ⟨_, rfl, grow_of hb1 _, .inr ⟨by decide, rfl⟩⟩)
        intro g cap9 w9 hrow9 hg9 hgg _
        have hgw : w.grownBy w9 vout.ownBlock := grow_trans (grow_of (hb1.alloc hs1 _) _) hg9 (.inl rfl)
        have hok9 : Ok .i32 21 w9 w0.heap.size (.slice (some ⟨g, 0, none⟩) (out.length + 1) cap9) (out ++ [c]) := Ok.of (fun z hz => by rcases List.mem_append.1 hz with hz | hz; exact hout.1 z hz; (simp at hz; subst hz; simp [IntKind.min, IntKind.max, IntKind.signed, IntKind.bits]; omega)) (by simp; omega) hrow9 (by simp) (by simp)
        have hnew : (Value.slice (some ⟨g, 0, none⟩) (out.length + 1) cap9).ownBlock = vout.ownBlock ∨ ∃ g', (Value.slice (some ⟨g, 0, none⟩) (out.length + 1) cap9).ownBlock = some g' ∧ w.heap.size ≤ g' := by
          rcases hgg with h | h
          · exact .inl h.symm
          · exact .inr ⟨g, rfl, by omega⟩
        have HF : WalkB w w0.heap.size vout ([], 2) (.returned (.tuple #[.slice none 0 0, .int .i64 2])) w9 := ⟨_, rfl, hgw, .inr ⟨by decide, rfl⟩⟩
        clear hrow9 hg9 hgg hok9 hnew hgw hrow1 hout1 hout hb1 hbel
        go_wp2
        go_ret2
        exact HF
      · obtain rfl := (unhide HNEG) h32
        clear HPOS HNEG
        go_wp2_with (at_builtin; refine wpList_append_lies _ rfl (.tmp 21) (.tmp 23) 38 rfl w0.heap.size 21 i0 (.int .i32 0) 1 4 Tryz.underlying38 hi hz0 hz1 hz2 rfl (by decide) _ _ _ rfl (hrow1.alloc _) ⟨w1.heap.size, 0, none⟩ 1 1 [.int .i32 c] rfl rfl (cell_one_new _ _ _) (int_one .i32 _) (by omega) (by unfold maxLen; omega) (by omega) (by simp; omega) (w1.heap.size + 1) (by simp) ?_)
        intro g cap9 w9 hrow9 hg9 hgg _
        have hgw : w.grownBy w9 vout.ownBlock := grow_trans (grow_of (hb1.alloc hs1 _) _) hg9 (.inl rfl)
        have hok9 : Ok .i32 21 w9 w0.heap.size (.slice (some ⟨g, 0, none⟩) (out.length + 1) cap9) (out ++ [c]) := Ok.of (fun z hz => by rcases List.mem_append.1 hz with hz | hz; exact hout.1 z hz; (simp at hz; subst hz; simp [IntKind.min, IntKind.max, IntKind.signed, IntKind.bits]; omega)) (by simp; omega) hrow9 (by simp) (by simp)
        have hnew : (Value.slice (some ⟨g, 0, none⟩) (out.length + 1) cap9).ownBlock = vout.ownBlock ∨ ∃ g', (Value.slice (some ⟨g, 0, none⟩) (out.length + 1) cap9).ownBlock = some g' ∧ w.heap.size ≤ g' := by
          rcases hgg with h | h
          · exact .inl h.symm
          · exact .inr ⟨g, rfl, by omega⟩
        have HF : WalkB w w0.heap.size vout (out ++ [c], 0) (.returned (.tuple #[.slice (some ⟨g, 0, none⟩) (out.length + 1) cap9, .int .i64 0])) w9 := ⟨_, rfl, hgw, .inl ⟨rfl, hok9, hnew⟩⟩
        clear hrow9 hg9 hgg hok9 hnew hgw hrow1 hout1 hout hb1 hbel
        go_wp2
        go_ret2
        exact HF
    · have hxl : 0 < (Cn.opn rs c).length := List.length_pos_iff.2 hop
      have HLOOP : Hid (c ∈ way → Cn.walk rs 0 way c out = ([], 72)) := fun h => Cn.walk_loop hop 0 h out
      have HDEEP : Hid (¬ c ∈ way → Cn.walk rs 0 way c out = ([], 73)) := fun h => Cn.walk_deep hop h out
      generalize Cn.walk rs 0 way c out = res at *
      clear hop
      generalize Cn.opn rs c = xs at *
      go_enter Tryz.func132, Tryz.ntmps132
      go_wp2_with fail
      refine (unhide K1).mono ?_
      rintro e w1 ⟨vx, rfl, okx, hb1⟩
      obtain ⟨xo, xcap, rfl, hx1, hx2⟩ := okx.sk.shape
      have hs1 := hb1.size
      have qx : ((xs.length : Int) == 0) = false := beq_eq_false_iff_ne.2 (by omega)
      have hway1 := hway.below hb1
      have HWC : Hid (∀ j, j < way.length → ∃ b off, wo = some ⟨b, off, none⟩ ∧ w1.cell? ⟨b, off + j, none⟩ = some (.int .i32 (way.getD j 0))) := by
        intro j hj
        obtain ⟨b, off, cap', he, _, _, hcc⟩ := hway1.place (by omega)
        obtain ⟨rfl, rfl⟩ : wo = some ⟨b, off, none⟩ ∧ wcap = cap' := by simpa using he
        exact ⟨b, off, rfl, hcc j hj⟩
      have OKX := hide okx
      have HW1 := hide hway1
      have HB1 := hide hb1
      have HOUT := hide hout
      clear K1 okx hway hway1 hb1 hout
      go_wp2
      go_loop [11] (fun iv => ∃ k : Nat, iv = .int .i64 k ∧ k ≤ way.length ∧ ∀ j, j < k → way.getD j 0 ≠ c) (fun iv => way.length - (intOf iv).toNat)
      case atStart => exact ⟨0, rfl, by omega, fun j hj => absurd hj (Nat.not_lt_zero _)⟩
      case round =>
        obtain ⟨k, rfl, hk, hno⟩ := hrel
        have HNO := hide hno
        clear hno
        by_cases hlt : k < way.length
        · obtain ⟨b, off, rfl, hcell⟩ := (unhide HWC) k hlt
          by_cases heq : way.getD k 0 = c
          · have hmem : c ∈ way := by rw [← heq]; simp [List.getD, hlt]
            obtain rfl := (unhide HLOOP) hmem
            rw [heq] at hcell
            have qc : (c == c) = true := beq_self_eq_true _
            have HF : WalkB w w0.heap.size vout ([], 72) (.returned (.tuple #[.slice none 0 0, .int .i64 72])) w1 := ⟨_, rfl, grow_of (unhide HB1) _, .inr ⟨by decide, rfl⟩⟩
            clear HWC HLOOP HNO heq hmem OKX HW1 HB1 HOUT
            clear HDEEP
            go_wp2
            go_ret2
            exact HF
          · have qc : (way.getD k 0 == c) = false := beq_eq_false_iff_ne.2 heq
            have HN2 : Hid (∀ j, j < k + 1 → way.getD j 0 ≠ c) := fun j hj => by
              rcases Nat.lt_or_ge j k with h | h
              · exact (unhide HNO) j h
              · obtain rfl : j = k := by omega
                exact heq
            clear HWC HLOOP HNO heq OKX HW1 HB1 HOUT
            clear HDEEP
            generalize way.getD k 0 = z at *
            go_wp2
            go_round
            case rel => exact ⟨k + 1, by go_num, by omega, unhide HN2⟩
            case measure => simp [intOf]; omega
        · obtain rfl : k = way.length := by omega
          have hnm : ¬ c ∈ way := fun h => by
            obtain ⟨j, hj, he⟩ := List.getElem_of_mem h
            exact (unhide HNO) j hj (by simp [List.getD, hj, he])
          obtain rfl := (unhide HDEEP) hnm
          have h16 : way.length = 16 := by omega
          have q16 : ((way.length : Int) == 16) = true := by rw [h16]; rfl
          have HF : WalkB w w0.heap.size vout ([], 73) (.returned (.tuple #[.slice none 0 0, .int .i64 73])) w1 := ⟨_, rfl, grow_of (unhide HB1) _, .inr ⟨by decide, rfl⟩⟩
          clear HWC HLOOP HNO HDEEP hnm OKX HW1 HB1 HOUT h16
          go_wp2
          go_ret2
          exact HF
  | succ f ih =>
    intro way c out w vway vout hfw hc hbel hway hout hlen
    obtain ⟨i0, hi, hz0, hz1, hz2⟩ := info_parts Tryz.info21
    have hB := hbel.size
    have K1 := hide (refOpen_any vl rs c w (hR w hbel) hc)
    have hlr := (hR w hbel).1
    obtain ⟨lo, lcap, rfl, _, _⟩ := (hR w hbel).shape
    have IH := hide ih
    obtain ⟨c0, c1⟩ := hc
    obtain ⟨wo, wcap, rfl, hw1, hw2⟩ := hway.shape
    by_cases hop : Cn.opn rs c = []
    · have hwk := Cn.walk_leaf hop (f + 1) way out
      rw [hop] at K1
      have HPOS : Hid (32 ≤ out.length → Cn.walk rs (f + 1) way c out = ([], 2)) := fun h => by rw [hwk, if_pos h]
      have HNEG : Hid (¬ 32 ≤ out.length → Cn.walk rs (f + 1) way c out = (out ++ [c], 0)) := fun h => by rw [hwk, if_neg h]
      generalize Cn.walk rs (f + 1) way c out = res at *
      clear hwk
      clear IH ih
      go_enter Tryz.func132, Tryz.ntmps132
      go_wp2_with fail
      refine (unhide K1).mono ?_
      rintro e w1 ⟨vx, rfl, okx, hb1⟩
      obtain ⟨xo, xcap, rfl, _, _⟩ := okx.sk.shape
      have hout1 := hout.below hb1
      have hrow1 := hout1.row
      have hlen0 : ([] : List Int).length = 0 := rfl
      rw [hlen0]
      have hs1 := hb1.size
      clear K1 okx hway hlen0
      by_cases h32 : 32 ≤ out.length
      · obtain rfl := (unhide HPOS) h32
        clear HPOS HNEG
        go_wp2_with (at_builtin; refine wpList_append_lies _ rfl (.tmp 21) (.tmp 23) 38 rfl w0.heap.size 21 i0 (.int .i32 0) 1 4 Tryz.underlying38 hi hz0 hz1 hz2 rfl (by decide) _ _ _ rfl (hrow1.alloc _) ⟨w1.heap.size, 0, none⟩ 1 1 [.int .i32 c] rfl rfl (cell_one_new _ _ _) (int_one .i32 _) (by omega) (by unfold maxLen; omega) (by omega) (by simp; omega) (w1.heap.size + 1) (by simp) ?_)
        all_goals try (go_ret2; exact ⟨_, rfl, grow_of hb1 _, .inr ⟨by decide, rfl⟩⟩)
        intro g cap9 w9 hrow9 hg9 hgg _
        have hgw : w.grownBy w9 vout.ownBlock := grow_trans (grow_of (hb1.alloc hs1 _) _) hg9 (.inl rfl)
        have hok9 : Ok .i32 21 w9 w0.heap.size (.slice (some ⟨g, 0, none⟩) (out.length + 1) cap9) (out ++ [c]) := Ok.of (fun z hz => by rcases List.mem_append.1 hz with hz | hz; exact hout.1 z hz; (simp at hz; subst hz; simp [IntKind.min, IntKind.max, IntKind.signed, IntKind.bits]; omega)) (by simp; omega) hrow9 (by simp) (by simp)
        have hnew : (Value.slice (some ⟨g, 0, none⟩) (out.length + 1) cap9).ownBlock = vout.ownBlock ∨ ∃ g', (Value.slice (some ⟨g, 0, none⟩) (out.length + 1) cap9).ownBlock = some g' ∧ w.heap.size ≤ g' := by
          rcases hgg with h | h
          · exact .inl h.symm
          · exact .inr ⟨g, rfl, by omega⟩
        have HF : WalkB w w0.heap.size vout ([], 2) (.returned (.tuple #[.slice none 0 0, .int .i64 2])) w9 := ⟨_, rfl, hgw, .inr ⟨by decide, rfl⟩⟩
        clear hrow9 hg9 hgg hok9 hnew hgw hrow1 hout1 hout hb1 hbel
        go_wp2
        go_ret2
        exact HF
      · obtain rfl := (unhide HNEG) h32
        clear HPOS HNEG
        go_wp2_with (at_builtin; refine wpList_append_lies _ rfl (.tmp 21) (.tmp 23) 38 rfl w0.heap.size 21 i0 (.int .i32 0) 1 4 Tryz.underlying38 hi hz0 hz1 hz2 rfl (by decide) _ _ _ rfl (hrow1.alloc _) ⟨w1.heap.size, 0, none⟩ 1 1 [.int .i32 c] rfl rfl (cell_one_new _ _ _) (int_one .i32 _) (by omega) (by unfold maxLen; omega) (by omega) (by simp; omega) (w1.heap.size + 1) (by simp) ?_)
        intro g cap9 w9 hrow9 hg9 hgg _
        have hgw : w.grownBy w9 vout.ownBlock := grow_trans (grow_of (hb1.alloc hs1 _) _) hg9 (.inl rfl)
        have hok9 : Ok .i32 21 w9 w0.heap.size (.slice (some ⟨g, 0, none⟩) (out.length + 1) cap9) (out ++ [c]) := Ok.of (fun z hz => by rcases List.mem_append.1 hz with hz | hz; exact hout.1 z hz; (simp at hz; subst hz; simp [IntKind.min, IntKind.max, IntKind.signed, IntKind.bits]; omega)) (by simp; omega) hrow9 (by simp) (by simp)
        have hnew : (Value.slice (some ⟨g, 0, none⟩) (out.length + 1) cap9).ownBlock = vout.ownBlock ∨ ∃ g', (Value.slice (some ⟨g, 0, none⟩) (out.length + 1) cap9).ownBlock = some g' ∧ w.heap.size ≤ g' := by
          rcases hgg with h | h
          · exact .inl h.symm
          · exact .inr ⟨g, rfl, by omega⟩
        have HF : WalkB w w0.heap.size vout (out ++ [c], 0) (.returned (.tuple #[.slice (some ⟨g, 0, none⟩) (out.length + 1) cap9, .int .i64 0])) w9 := ⟨_, rfl, hgw, .inl ⟨rfl, hok9, hnew⟩⟩
        clear hrow9 hg9 hgg hok9 hnew hgw hrow1 hout1 hout hb1 hbel
        go_wp2
        go_ret2
        exact HF
    · have hxl : 0 < (Cn.opn rs c).length := List.length_pos_iff.2 hop
      have HLOOP : Hid (c ∈ way → Cn.walk rs (f + 1) way c out = ([], 72)) := fun h => Cn.walk_loop hop (f + 1) h out
      have HGO : Hid (¬ c ∈ way → Cn.walk rs (f + 1) way c out = (Cn.opn rs c).foldl (Cn.stepW rs f (way ++ [c])) (out, 0)) := fun h => Cn.walk_go hop f h out
      generalize Cn.walk rs (f + 1) way c out = res at *
      clear hop
      clear ih
      generalize Cn.opn rs c = xs at *
      go_enter Tryz.func132, Tryz.ntmps132
      go_wp2_with fail
      refine (unhide K1).mono ?_
      rintro e w1 ⟨vx, rfl, okx, hb1⟩
      obtain ⟨xo, xcap, rfl, hx1, hx2⟩ := okx.sk.shape
      have hs1 := hb1.size
      have qx : ((xs.length : Int) == 0) = false := beq_eq_false_iff_ne.2 (by omega)
      have hway1 := hway.below hb1
      have HWC : Hid (∀ j, j < way.length → ∃ b off, wo = some ⟨b, off, none⟩ ∧ w1.cell? ⟨b, off + j, none⟩ = some (.int .i32 (way.getD j 0))) := by
        intro j hj
        obtain ⟨b, off, cap', he, _, _, hcc⟩ := hway1.place (by omega)
        obtain ⟨rfl, rfl⟩ : wo = some ⟨b, off, none⟩ ∧ wcap = cap' := by simpa using he
        exact ⟨b, off, rfl, hcc j hj⟩
      have OKX := hide okx
      have HW1 := hide hway1
      have HB1 := hide hb1
      have HOUT := hide hout
      clear K1 okx hway hway1 hb1 hout
      go_wp2
      go_loop [11] (fun iv => ∃ k : Nat, iv = .int .i64 k ∧ k ≤ way.length ∧ ∀ j, j < k → way.getD j 0 ≠ c) (fun iv => way.length - (intOf iv).toNat)
      case atStart => exact ⟨0, rfl, by omega, fun j hj => absurd hj (Nat.not_lt_zero _)⟩
      case round =>
        obtain ⟨k, rfl, hk, hno⟩ := hrel
        have HNO := hide hno
        clear hno
        by_cases hlt : k < way.length
        · obtain ⟨b, off, rfl, hcell⟩ := (unhide HWC) k hlt
          by_cases heq : way.getD k 0 = c
          · have hmem : c ∈ way := by rw [← heq]; simp [List.getD, hlt]
            obtain rfl := (unhide HLOOP) hmem
            rw [heq] at hcell
            have qc : (c == c) = true := beq_self_eq_true _
            have HF : WalkB w w0.heap.size vout ([], 72) (.returned (.tuple #[.slice none 0 0, .int .i64 72])) w1 := ⟨_, rfl, grow_of (unhide HB1) _, .inr ⟨by decide, rfl⟩⟩
            clear HWC HLOOP HNO heq hmem OKX HW1 HB1 HOUT
            clear HGO IH
            go_wp2
            go_ret2
            exact HF
          · have qc : (way.getD k 0 == c) = false := beq_eq_false_iff_ne.2 heq
            have HN2 : Hid (∀ j, j < k + 1 → way.getD j 0 ≠ c) := fun j hj => by
              rcases Nat.lt_or_ge j k with h | h
              · exact (unhide HNO) j h
              · obtain rfl : j = k := by omega
                exact heq
            clear HWC HLOOP HNO heq OKX HW1 HB1 HOUT
            clear HGO IH
            generalize way.getD k 0 = z at *
            go_wp2
            go_round
            case rel => exact ⟨k + 1, by go_num, by omega, unhide HN2⟩
            case measure => simp [intOf]; omega
        · obtain rfl : k = way.length := by omega
          have hnm : ¬ c ∈ way := fun h => by
            obtain ⟨j, hj, he⟩ := List.getElem_of_mem h
            exact (unhide HNO) j hj (by simp [List.getD, hj, he])
          obtain rfl := (unhide HGO) hnm
          have q16 : ((way.length : Int) == 16) = false := beq_eq_false_iff_ne.2 (by omega)
          clear HLOOP HGO HNO hnm HWC
          have HQ1 := (unhide HW1)
          have hfu : way.length ≤ 1000 := by omega
          have h15 : way.length ≤ 15 := by omega
          go_wp2_with (at_builtin; refine wpList_append_nil rfl (.tmp 44) (.tmp 45) rfl _ way rfl rfl HQ1 hfu ?_)
          intro vd2 w2 okd2 hb2
          have hrow2 := okd2.row
          have hs2 := hb2.size
          clear HQ1 HW1
          go_wp2_with (at_builtin; refine wpList_append_lies _ rfl (.tmp 47) (.tmp 49) 38 rfl w1.heap.size 21 i0 (.int .i32 0) 1 4 Tryz.underlying38 hi hz0 hz1 hz2 rfl (by decide) _ _ _ rfl (hrow2.alloc _) ⟨w2.heap.size, 0, none⟩ 1 1 [.int .i32 c] rfl rfl (cell_one_new _ _ _) (int_one .i32 _) (by omega) (by unfold maxLen; omega) (by omega) (by simp; omega) (w2.heap.size + 1) (by simp) ?_)
          intro g cap3 w3 hrow3 hg3 hgg hglt
          have hfit : Fit .i32 (way ++ [c]) := Fit.snoc okd2.1 (i32_fit ⟨c0, c1⟩)
          have okd : Ok .i32 21 w3 w1.heap.size (.slice (some ⟨g, 0, none⟩) (way.length + 1) cap3) (way ++ [c]) := Ok.of hfit (by simp; omega) hrow3 (by simp) (by simp)
          have hb3 : Below w1.heap.size w1 w3 := below_append hs2 hrow2 hb2 hg3
          have HW := hide (WIn.start (rs := rs) (f := f) (unhide HOUT) hlen ((unhide OKX).below hb3) (okd.lower hs1) (bthen (unhide HB1) hb3))
          have hdl : f + (way ++ [c]).length = 16 := by simp; omega
          have hxf : Hid (∀ k, k < xs.length → Rune (xs.getD k 0)) := fun k hk => rune_of (unhide OKX).sk hk
          have hbw : Hid (∀ wr, w.grownBy wr vout.ownBlock → Below w0.heap.size w0 wr) := fun wr hg => hbel.grown hg hB (fun k hk => ((unhide HOUT).2.2.lt k hk).1)
          clear okd2 hb2 hrow2 hrow3 hg3 hgg hglt hfit okd hb3 OKX HB1 hbel
          have HLEN : Hid (way.length + 1 = (way ++ [c]).length) := by show way.length + 1 = _; simp
          generalize xs.foldl (Cn.stepW rs f (way ++ [c])) (out, 0) = res at *
          generalize way ++ [c] = down at *
          go_wp2
          go_loopw [3, 13, 14] (fun vo iv _ wr => ∃ k : Nat, iv = .int .i64 k ∧ k ≤ xs.length ∧ WIn w w0.heap.size vout (.slice xo xs.length xcap) (.slice (some ⟨g, 0, none⟩) (way.length + 1) cap3) xs down rs f res k vo wr) (fun _ iv _ _ => xs.length - (intOf iv).toNat)
          case atStart => exact ⟨0, rfl, by omega, unhide HW⟩
          case round =>
            obtain ⟨k2, rfl, hk2, outk, ok0, hol, hfold, okx2, okd2, hne, hgr, hob⟩ := hrel
            clear HW
            by_cases hlt2 : k2 < xs.length
            · obtain ⟨b, off, cap', he, _, _, hcc⟩ := okx2.sk.place (by omega)
              obtain ⟨rfl, rfl⟩ : xo = some ⟨b, off, none⟩ ∧ xcap = cap' := by simpa using he
              have hcell := hcc k2 hlt2
              have KC := hide ((unhide IH) down (xs.getD k2 0) outk wr _ _ hdl ((unhide hxf) k2 hlt2) ((unhide hbw) wr hgr) okd2.sk ok0 hol)
              have HNEXT : Hid (∀ w' v', wr.grownBy w' u3.ownBlock → (Cn.walk rs f down (xs.getD k2 0) outk).2 = 0 → Ok .i32 21 w' w0.heap.size v' (Cn.walk rs f down (xs.getD k2 0) outk).1 → (v'.ownBlock = u3.ownBlock ∨ ∃ g, v'.ownBlock = some g ∧ wr.heap.size ≤ g) → WIn w w0.heap.size vout (.slice (some ⟨b, off, none⟩) xs.length xcap) (.slice (some ⟨g, 0, none⟩) (way.length + 1) cap3) xs down rs f res (k2 + 1) v' w') := fun w' v' a b c d => WIn.next hlt2 hol hfold okx2 okd2 hne hgr hob a b c d
              have HERR : Hid (∀ w', wr.grownBy w' u3.ownBlock → (Cn.walk rs f down (xs.getD k2 0) outk).2 ≠ 0 → WalkB w w0.heap.size vout res (.returned (.tuple #[.slice none 0 0, .int .i64 (Cn.walk rs f down (xs.getD k2 0) outk).2])) w') := fun w' hg hn => by
                rw [Cn.fold_step hlt2, Cn.fold_stuck _ _ _ _ _ hn] at hfold
                rw [← hfold]
                exact ⟨_, rfl, grow_trans hgr hg hob, .inr ⟨hn, rfl⟩⟩
              clear hfold okx2 okd2 hne hgr hob ok0 hol hcc he IH hxf hbw HLEN HOUT hdl
              generalize Cn.walk rs f down (xs.getD k2 0) outk = q at *
              generalize xs.getD k2 0 = z at *
              obtain ⟨q1, q2⟩ := q
              go_wp2_with fail
              refine (unhide KC).mono ?_
              rintro e w5 ⟨v5, rfl, hg5, h5⟩
              clear KC
              rcases h5 with ⟨he0, hok5, hob5⟩ | ⟨hne5, rfl⟩
              · have HN := hide ((unhide HNEXT) w5 v5 hg5 he0 hok5 hob5)
                clear HNEXT HERR hg5 hok5 hob5
                obtain rfl : q2 = 0 := he0
                go_wp2
                go_round
                case rel => exact ⟨k2 + 1, by go_num, by omega, unhide HN⟩
                case measure => simp [intOf]; omega
              · have HF := hide ((unhide HERR) w5 hg5 hne5)
                have hq : (q2 == 0) = false := beq_eq_false_iff_ne.2 hne5
                clear HNEXT HERR hg5 hne5
                go_wp2
                go_ret2
                exact unhide HF
            · obtain rfl : k2 = xs.length := by omega
              rw [List.drop_length, List.foldl_nil] at hfold
              have HF : Hid (WalkB w w0.heap.size vout res (.returned (.tuple #[u3, .int .i64 0])) wr) := by rw [← hfold]; exact ⟨_, rfl, hgr, .inl ⟨rfl, ok0, hob⟩⟩
              clear hfold okx2 okd2 hne hgr hob ok0 hol IH hxf hbw HLEN HOUT hdl
              go_wp2
              go_ret2
              exact unhide HF

set_option maxRecDepth 8000 in
set_option maxHeartbeats 1000000 in
theorem refFull_any : RFullC := by
  intro v rs c w hv hc
  have KC := hide (refWalk_any w v rs (fun W h => hv.below h) 16 [] c [] w (.slice none 0 0) (.slice none 0 0) rfl hc (Below.refl _ _) (Sk.nil _ _) (Ok.nil _ _ _ _) (by simp))
  have HE := hide (Cn.walk_err rs 16 [] c [])
  have HB : Hid (∀ w', w.grownBy w' (Value.slice none 0 0).ownBlock → Below w.heap.size w w') := fun w' h => (Below.refl _ _).grown h (Nat.le_refl _) (fun k e => by cases e)
  rw [show Cn.full rs c = Cn.walk rs 16 [] c [] from rfl]
  generalize Cn.walk rs 16 [] c [] = q at *
  obtain ⟨q1, q2⟩ := q
  obtain ⟨vo, vcap, rfl, _, _⟩ := hv.shape
  clear hv
  go_enter Tryz.func92, Tryz.ntmps92
  go_wp2_with fail
  refine (unhide KC).mono ?_
  rintro e w5 ⟨v5, rfl, hg5, h5⟩
  have HF : Hid (FullB w (q1, q2) (.returned (.tuple #[v5, .int .i64 q2])) w5) := by
    rcases h5 with ⟨_, hok, _⟩ | ⟨hn, rfl⟩
    · exact ⟨_, rfl, hok, (unhide HB) w5 hg5⟩
    · obtain rfl : q1 = [] := (unhide HE) hn
      exact ⟨_, rfl, Ok.nil _ _ _ _, (unhide HB) w5 hg5⟩
  clear KC HE HB hg5 h5
  go_wp2
  go_ret2
  exact unhide HF
end Go.Proofs.YtloocceakfmnoaaGreatDoor
