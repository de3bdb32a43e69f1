/- An append onto a row of the call's own, whatever is appended. -/
import Derived.Test.YtcnmmghkjblemaaDoorNv20
namespace Go.Proofs.YtcnmmghkjblemaaDoor
open Go.RowKit

theorem wp_app20 {w : World} {ops : Array Oper} {rest : List Oper} {o : Oper} {a : Act} {Q : Exit → Act → World → Prop} (hgd : o.guard = none) (s x : Operand) (t : TypeId)
    (ho : o.op = .call { callee := .builtin .append, args := #[s, x], argTypes := #[t, t] }) (base : Nat) (e : TypeId) (i : TypeInfo) (z : Value) (bytes : Nat) (ht : Tryd.prog.underlying t = some (.slice e)) (hi : Tryd.prog.info? e = some i) (hz : i.zero = some z)
    (hsize : i.size = 1) (hby : i.bytes = bytes) (hzs : z.cells.size = 1) (v v2 : Value) (us ys : List Value) (hs : a.eval s = v) (hown : Ow e w base v us) (hx : a.eval x = v2) (hsrc : Sv w v2 ys) (h1 : ∀ u ∈ ys, u.oneCell' = true)
    (hl1 : us.length + ys.length ≤ 1000000000) (hb : bytes ≤ 16) (hbase : base ≤ w.heap.size)
    (h : ∀ v' w', Ow e w' base v' (us ++ ys) → (∀ w0, Below base w0 w → Below base w0 w') → wpList Tryd.prog ops Q rest (a.put o.dst v') w') : wpList Tryd.prog ops Q (o :: rest) a w := by
  have hbytes : (us.length + ys.length) * bytes ≤ 140737488355328 := by
    have := Nat.mul_le_mul hl1 hb
    omega
  rcases hsrc.src with ⟨rfl, rfl⟩ | ⟨ad, cap, rfl, hc⟩
  · refine wpList_append_own_none hgd s x t ho base e i 1 ht hi v us.length us hs hown.2 hx (h v w ?_ fun _ h => h)
    rw [List.append_nil]; exact hown
  · refine wpList_append_own w hgd s x t ho base e i z 1 bytes ht hi hz hsize hby hzs (by decide) v us.length us hs hown.2 ad ys.length cap ys hx (by simp) hc h1 (by unfold maxLen; omega) hbytes hbase ?_
    intro v' w' hrow hg _
    refine h v' w' ⟨by rw [List.length_append]; omega, by rw [List.length_append]; exact hrow⟩ fun w0 hb0 => ?_
    exact below_append0 hbase hown.2 hb0 hg
theorem strs_one20 (ss : List ByteArray) : ∀ u ∈ ss.map Value.string, u.oneCell' = true := by
  intro u hu
  obtain ⟨z, _, rfl⟩ := List.mem_map.1 hu
  rfl
end Go.Proofs.YtcnmmghkjblemaaDoor
