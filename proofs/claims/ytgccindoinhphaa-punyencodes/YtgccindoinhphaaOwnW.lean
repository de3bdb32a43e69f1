/- Appends that stand behind a guard; rows of the call's own that another row's store or growth leaves alone. -/
import Derived.Test.YtgccindoinhphaaSeq
namespace Go.Proofs.Ytgccindoinhphaa
open Go.RowKit

theorem own_apart {w : World} {B n : Nat} {e : TypeId} {v u : Value} {xs : List Value} (h : w.ownsRow B e 1 v n xs) (hu : ∀ k, u.ownBlock = some k → k < B) : v.ownBlock = none ∨ v.ownBlock ≠ u.ownBlock := by
  cases h' : v.ownBlock with
  | none => exact .inl rfl
  | some k =>
    refine .inr ?_
    intro e
    have h1 := h.lt k h'
    have h2 := hu k e.symm
    omega

theorem wpList_append_own_w {P : Program} (w : World) {ops : Array Oper} {rest : List Oper} {o : Oper} {a : Act} {Q : Exit → Act → World → Prop} (hw : Region.wanted o (yielded ops a.tmps) = true) (s x : Operand) (t : TypeId)
    (ho : o.op = .call { callee := .builtin .append, args := #[s, x], argTypes := #[t, t] })
    (base : Nat) (e : TypeId) (i : TypeInfo) (z : Value) (size bytes : Nat) (ht : P.underlying t = some (.slice e)) (hi : P.info? e = some i) (hz : i.zero = some z)
    (hsize : i.size = size) (hby : i.bytes = bytes) (hzs : z.cells.size = size) (hsz : 0 < size)
    (v : Value) (n : Nat) (xs : List Value) (hs : a.eval s = v) (hown : w.ownsRow base e size v n xs)
    (ad : Addr) (m c : Nat) (news : List Value) (hx : a.eval x = .slice (some ad) m c) (hl : news.length = m * size) (hnews : ∀ j u, news[j]? = some u → w.cell? (ad.add j) = some u) (h1 : ∀ u ∈ news, u.oneCell' = true)
    (h63 : n + m ≤ maxLen) (hbytes : (n + m) * bytes ≤ 140737488355328) (hbase : base ≤ w.heap.size)
    (h : ∀ v' w', w'.ownsRow base e size v' (n + m) (xs ++ news) → w.grownBy w' v.ownBlock → (v' = .slice none 0 0 ↔ v = .slice none 0 0 ∧ m = 0) → wpList P ops Q rest (a.put o.dst v') w') : wpList P ops Q (o :: rest) a w :=
  wpList_step fun _ hK => by
    rw [if_pos hw]
    exact wp_append_own w s x t ho base e i z size bytes ht hi hz hsize hby hzs hsz v n xs hs hown ad m c news hx hl hnews h1 h63 hbytes hbase fun v' w' h2 h3 h4 => hK _ _ (h v' w' h2 h3 h4)

theorem Ok.set {K : IntKind} {e : TypeId} {w : World} {B : Nat} {v : Value} {zs : List Int} (h : Ok K e w B v zs) {a : Addr} (ha : a.block < B) (u : Value) : Ok K e (w.setCell a u) B v zs :=
  ⟨h.1, h.2.1, ownsRow_setCell_below h.2.2 ha u⟩
theorem Ok.kept {K : IntKind} {e : TypeId} {w w' : World} {B : Nat} {v u : Value} {zs : List Int} {o : Obj} (h : Ok K e w B v zs) (hg : (w.alloc o).grownBy w' u.ownBlock) (hu : ∀ k, u.ownBlock = some k → k < B) : Ok K e w' B v zs :=
  ⟨h.1, h.2.1, (h.2.2.alloc o).kept hg (own_apart h.2.2 hu)⟩

theorem wpList_append_own_none_w {P : Program} {w : World} {ops : Array Oper} {rest : List Oper} {o : Oper} {a : Act} {Q : Exit → Act → World → Prop} (hw : Region.wanted o (yielded ops a.tmps) = true) (s x : Operand) (t : TypeId)
    (ho : o.op = .call { callee := .builtin .append, args := #[s, x], argTypes := #[t, t] })
    (base : Nat) (e : TypeId) (i : TypeInfo) (size : Nat) (ht : P.underlying t = some (.slice e)) (hi : P.info? e = some i)
    (v : Value) (n : Nat) (xs : List Value) (hs : a.eval s = v) (hown : w.ownsRow base e size v n xs) (hx : a.eval x = .slice none 0 0)
    (h : wpList P ops Q rest (a.put o.dst v) w) : wpList P ops Q (o :: rest) a w := by
  refine wpList_step fun K hK => ?_
  rw [if_pos hw]
  have hrun := run_append_owned_none (P := P) (w := w) base t o.type e i size ht hi v n xs hown
  unfold Oper.wp
  simp [execOp, ho, resolve, invoke, builtin, hs, hx, hrun, Result.andThen]
  exact hK _ _ h

theorem Ok.kept0 {K : IntKind} {e : TypeId} {w w' : World} {B : Nat} {v u : Value} {zs : List Int} (h : Ok K e w B v zs) (hg : w.grownBy w' u.ownBlock) (hu : ∀ k, u.ownBlock = some k → k < B) : Ok K e w' B v zs :=
  ⟨h.1, h.2.1, h.2.2.kept hg (own_apart h.2.2 hu)⟩
end Go.Proofs.Ytgccindoinhphaa
