import Derived.Test.YtceflkeaenepcaaGreatDoorN4
import Derived.Deep.AppendLies
import Derived.Laws.AppendOwnNone
namespace Go.Proofs.YtceflkeaenepcaaGreatDoor
open Go.RowKit
theorem grow_of {w w1 : World} (h : Below w.heap.size w w1) (r : Option Nat) : w.grownBy w1 r := ⟨h.os, h.tape, h.output, h.size, fun k hk _ => h.block k hk⟩
theorem grow_trans {w w1 w2 : World} {r r' : Option Nat} (h : w.grownBy w1 r) (k : w1.grownBy w2 r') (hr : r' = r ∨ ∃ g, r' = some g ∧ w.heap.size ≤ g) : w.grownBy w2 r := by
  refine ⟨k.os.trans h.os, k.tape.trans h.tape, k.output.trans h.output, Nat.le_trans h.size k.size, fun x hx hne => ?_⟩
  rw [k.block x (Nat.lt_of_lt_of_le hx h.size) ?_, h.block x hx hne]
  rcases hr with rfl | ⟨g, rfl, hg⟩
  · exact hne
  · intro e
    have : x = g := Option.some.inj e
    omega
theorem cell_one_new (w : World) (e : TypeId) (v : Value) : ∀ j u, [v][j]? = some u → (w.alloc (.cells #[v] e)).cell? ((⟨w.heap.size, 0, none⟩ : Addr).add j) = some u := by
  intro j u hj
  match j, hj with
  | 0, hj => simp at hj; subst hj; simp [World.cell?, World.alloc, Addr.add, -World.alloc_eq]
  | j + 1, hj => simp at hj
theorem wpList_append_nil {w : World} {ops : Array Oper} {rest : List Oper} {o : Oper} {a : Act} {Q : Exit → Act → World → Prop} (hgd : o.guard = none) (s x : Operand)
    (ho : o.op = .call { callee := .builtin .append, args := #[s, x], argTypes := #[26, 26] }) (v : Value) (zs : List Int) (hs : a.eval s = .slice none 0 0) (hx : a.eval x = v) (hv : Sk .i32 w v zs) (hl : zs.length ≤ 1000)
    (h : ∀ v' w', Ok .i32 21 w' w.heap.size v' zs → Below w.heap.size w w' → wpList Tryz.prog ops Q rest (a.put o.dst v') w') : wpList Tryz.prog ops Q (o :: rest) a w := by
  obtain ⟨i0, hi, hz0, hz1, hz2⟩ := info_parts Tryz.info21
  rcases hv.2.src with ⟨hn, rfl⟩ | ⟨ad, cap, rfl, hsrc⟩
  · obtain rfl : zs = [] := by simpa using hn
    exact wpList_append_own_none hgd s x 26 ho w.heap.size 21 i0 1 Tryz.underlying26 hi _ _ _ hs (World.ownsRow_nil _ _ _ _) hx (h _ _ (Ok.nil _ _ _ _) (Below.refl _ _))
  · refine wpList_append_own _ hgd s x 26 ho w.heap.size 21 i0 (.int .i32 0) 1 4 Tryz.underlying26 hi hz0 hz1 hz2 rfl (by decide) _ _ _ hs (World.ownsRow_nil _ _ _ _) ad _ cap (zs.map (Value.int .i32)) hx (by simp) hsrc (ints_one .i32 zs) (by simp [maxLen]; omega) (by simp; omega) (Nat.le_refl _) ?_
    intro v' w' hrow hg _
    exact h v' w' (Ok.of hv.1 (by omega) hrow (by simp) (by simp)) (below_append0 (e := 21) (Nat.le_refl _) (World.ownsRow_nil _ _ _ _) (Below.refl _ _) hg)
def WalkB (w : World) (B : Nat) (vo : Value) (r : List Int × Int) (e : Ending) (w' : World) : Prop :=
  ∃ v, e = .returned (.tuple #[v, .int .i64 r.2]) ∧ w.grownBy w' vo.ownBlock ∧ ((r.2 = 0 ∧ Ok .i32 21 w' B v r.1 ∧ (v.ownBlock = vo.ownBlock ∨ ∃ g, v.ownBlock = some g ∧ w.heap.size ≤ g)) ∨ (r.2 ≠ 0 ∧ v = .slice none 0 0))
def WIn (w : World) (B : Nat) (vout vx vd : Value) (xs down : List Int) (rs : List Rec) (f : Nat) (res : List Int × Int) (k : Nat) (vo : Value) (wr : World) : Prop :=
  ∃ outk, Ok .i32 21 wr B vo outk ∧ outk.length ≤ 32 ∧ (xs.drop k).foldl (Cn.stepW rs f down) (outk, 0) = res ∧ Ok .i32 21 wr w.heap.size vx xs ∧ Ok .i32 21 wr w.heap.size vd down ∧
    (∀ g, vo.ownBlock = some g → vx.ownBlock ≠ some g ∧ vd.ownBlock ≠ some g) ∧ w.grownBy wr vout.ownBlock ∧ (vo.ownBlock = vout.ownBlock ∨ ∃ g, vo.ownBlock = some g ∧ w.heap.size ≤ g)
theorem WIn.next {w wr w' : World} {B : Nat} {vout vx vd vo v' : Value} {xs down : List Int} {rs : List Rec} {f : Nat} {res : List Int × Int} {k : Nat} {outk : List Int} (hk : k < xs.length)
    (h2 : outk.length ≤ 32) (h3 : (xs.drop k).foldl (Cn.stepW rs f down) (outk, 0) = res) (hx : Ok .i32 21 wr w.heap.size vx xs) (hd : Ok .i32 21 wr w.heap.size vd down)
    (hne : ∀ g, vo.ownBlock = some g → vx.ownBlock ≠ some g ∧ vd.ownBlock ≠ some g) (hg : w.grownBy wr vout.ownBlock) (hv : vo.ownBlock = vout.ownBlock ∨ ∃ g, vo.ownBlock = some g ∧ w.heap.size ≤ g)
    (hg2 : wr.grownBy w' vo.ownBlock) (hr0 : (Cn.walk rs f down (xs.getD k 0) outk).2 = 0) (hok : Ok .i32 21 w' B v' (Cn.walk rs f down (xs.getD k 0) outk).1) (hv2 : v'.ownBlock = vo.ownBlock ∨ ∃ g, v'.ownBlock = some g ∧ wr.heap.size ≤ g) :
    WIn w B vout vx vd xs down rs f res (k + 1) v' w' := by
  have hkeep : ∀ g, g < wr.heap.size → vo.ownBlock ≠ some g → w'.heap[g]? = wr.heap[g]? := fun g a b => hg2.block g a (fun e => b e.symm)
  refine ⟨(Cn.walk rs f down (xs.getD k 0) outk).1, hok, Cn.walk_len _ _ _ _ _ h2, ?_, hx.keep (fun g h => hkeep g (hx.2.2.lt g h).2 (fun e => (hne g e).1 h)), hd.keep (fun g h => hkeep g (hd.2.2.lt g h).2 (fun e => (hne g e).2 h)), fun g h => ?_, grow_trans hg hg2 ?_, ?_⟩
  · rw [← h3, Cn.fold_step hk]
    congr 1
    exact Prod.ext rfl hr0.symm
  · rcases hv2 with e | ⟨g', e, hg'⟩
    · exact hne g (e ▸ h)
    · rw [e] at h
      obtain rfl := Option.some.inj h
      exact ⟨fun e' => by have := (hx.2.2.lt g' e').2; omega, fun e' => by have := (hd.2.2.lt g' e').2; omega⟩
  · exact hv
  · rcases hv2 with e | ⟨g', e, hg'⟩
    · rcases hv with hv | ⟨g, hv, hvg⟩
      · exact .inl (e.trans hv)
      · exact .inr ⟨g, e.trans hv, hvg⟩
    · exact .inr ⟨g', e, Nat.le_trans hg.size hg'⟩
theorem WIn.start {w wr : World} {B : Nat} {vout vx vd : Value} {xs down out : List Int} {rs : List Rec} {f : Nat} (ho : Ok .i32 21 w B vout out) (hl : out.length ≤ 32) (hx : Ok .i32 21 wr w.heap.size vx xs) (hd : Ok .i32 21 wr w.heap.size vd down) (hb : Below w.heap.size w wr) :
    WIn w B vout vx vd xs down rs f (xs.foldl (Cn.stepW rs f down) (out, 0)) 0 vout wr := by
  refine ⟨out, ho.below hb, hl, by rw [List.drop_zero], hx, hd, fun g h => ?_, grow_of hb _, .inl rfl⟩
  have hlt := (ho.2.2.lt g h).2
  exact ⟨fun e => by have := (hx.2.2.lt g e).1; omega, fun e => by have := (hd.2.2.lt g e).1; omega⟩
end Go.Proofs.YtceflkeaenepcaaGreatDoor
