import Derived.Test.YtbbmaokeibafkaaGreatDoorN18
import Derived.Deep.AppendLies
import Derived.Laws.AppendOwnNone
namespace Go.Proofs.YtbbmaokeibafkaaGreatDoor
open Go.RowKit
theorem grow_of {w w1 : World} (h : Below w.heap.size w w1) (r : Option Nat) : w.grownBy w1 r := ⟨h.os, h.tape, h.output, h.size, fun k hk _ => h.block k hk⟩
theorem grow_trans {w w1 w2 : World} {r r' : Option Nat} (h : w.grownBy w1 r) (k : w1.grownBy w2 r') (hr : r' = r ∨ ∃ g, r' = some g ∧ w.heap.size ≤ g) : w.grownBy w2 r := by
  refine ⟨k.os.trans h.os, k.tape.trans h.tape, k.output.trans h.output, Nat.le_trans h.size k.size, fun x hx hne => ?_⟩
  rw [k.block x (Nat.lt_of_lt_of_le hx h.size) ?_, h.block x hx hne]
  rcases hr with rfl | ⟨g, rfl, hg⟩
  · exact hne
  · intro e
    have : x = g := Option.some.inj e
    omega
theorem cell_one_new (w : World) (e : TypeId) (v : Value) : ∀ j u, [v][j]? = some u → (w.alloc (.cells #[v] e)).cell? ((⟨w.heap.size, 0, none⟩ : Addr).add j) = some u := by
  intro j u hj
  match j, hj with
  | 0, hj => simp at hj; subst hj; simp [World.cell?, World.alloc, Addr.add, -World.alloc_eq]
  | j + 1, hj => simp at hj
theorem wpList_append_nil {w : World} {ops : Array Oper} {rest : List Oper} {o : Oper} {a : Act} {Q : Exit → Act → World → Prop} (hgd : o.guard = none) (s x : Operand)
    (ho : o.op = .call { callee := .builtin .append, args := #[s, x], argTypes := #[32, 32] }) (v : Value) (zs : List Int) (hs : a.eval s = .slice none 0 0) (hx : a.eval x = v) (hv : Sk .i32 w v zs) (hl : zs.length ≤ 1000)
    (h : ∀ v' w', Ok .i32 21 w' w.heap.size v' zs → Below w.heap.size w w' → wpList Tryz.prog ops Q rest (a.put o.dst v') w') : wpList Tryz.prog ops Q (o :: rest) a w := by
  obtain ⟨i0, hi, hz0, hz1, hz2⟩ := info_parts Tryz.info21
  rcases hv.2.src with ⟨hn, rfl⟩ | ⟨ad, cap, rfl, hsrc⟩
  · obtain rfl : zs = [] := by simpa using hn
    exact wpList_append_own_none hgd s x 32 ho w.heap.size 21 i0 1 Tryz.underlying32 hi _ _ _ hs (World.ownsRow_nil _ _ _ _) hx (h _ _ (Ok.nil _ _ _ _) (Below.refl _ _))
  · refine wpList_append_own _ hgd s x 32 ho w.heap.size 21 i0 (.int .i32 0) 1 4 Tryz.underlying32 hi hz0 hz1 hz2 rfl (by decide) _ _ _ hs (World.ownsRow_nil _ _ _ _) ad _ cap (zs.map (Value.int .i32)) hx (by simp) hsrc (ints_one .i32 zs) (by simp [maxLen]; omega) (by simp; omega) (Nat.le_refl _) ?_
    intro v' w' hrow hg _
    exact h v' w' (Ok.of hv.1 (by omega) hrow (by simp) (by simp)) (below_append0 (e := 21) (Nat.le_refl _) (World.ownsRow_nil _ _ _ _) (Below.refl _ _) hg)
def WalkB (w : World) (B : Nat) (vo : Value) (r : List Int × Int) (e : Ending) (w' : World) : Prop :=
  ∃ v, e = .returned (.tuple #[v, .int .i64 r.2]) ∧ w.grownBy w' vo.ownBlock ∧ ((r.2 = 0 ∧ Ok .i32 21 w' B v r.1 ∧ (v.ownBlock = vo.ownBlock ∨ ∃ g, v.ownBlock = some g ∧ w.heap.size ≤ g)) ∨ (r.2 ≠ 0 ∧ v = .slice none 0 0))
def WIn (w : World) (B : Nat) (vout vx vd : Value) (xs down : List Int) (rs : List Rec) (f : Nat) (res : List Int × Int) (k : Nat) (vo : Value) (wr : World) : Prop :=
  ∃ outk, Ok .i32 21 wr B vo outk ∧ outk.length ≤ 32 ∧ (xs.drop k).foldl (Cn.stepW rs f down) (outk, 0) = res ∧ Ok .i32 21 wr w.heap.size vx xs ∧ Ok .i32 21 wr w.heap.size vd down ∧
    (∀ g, vo.ownBlock = some g → vx.ownBlock ≠ some g ∧ vd.ownBlock ≠ some g) ∧ w.grownBy wr vout.ownBlock ∧ (vo.ownBlock = vout.ownBlock ∨ ∃ g, vo.ownBlock = some g ∧ w.heap.size ≤ g)
theorem WIn.next {w wr w' : World} {B : Nat} {vout vx vd vo v' : Value} {xs down : List Int} {rs : List Rec} {f : Nat} {res : List Int × Int} {k : Nat} {outk : List Int} (hk : k < xs.length)
    (h2 : outk.length ≤ 32) (h3 : (xs.drop k).foldl (Cn.stepW rs f down) (outk, 0) = res) (hx : Ok .i32 21 wr w.heap.size vx xs) (hd : Ok .i32 21 wr w.heap.size vd down)
    (hne : ∀ g, vo.ownBlock = some g → vx.ownBlock ≠ some g ∧ vd.ownBlock ≠ some g) (hg : w.grownBy wr vout.ownBlock) (hv : vo.ownBlock = vout.ownBlock ∨ ∃ g, vo.ownBlock = some g ∧ w.heap.size ≤ g)
    (hg2 : wr.grownBy w' vo.ownBlock) (hr0 : (Cn.walk rs f down (xs.getD k 0) outk).2 = 0) (hok : Ok .i32 21 w' B v' (Cn.walk rs f down (xs.getD k 0) outk).1) (hv2 : v'.ownBlock = vo.ownBlock ∨ ∃ g, v'.ownBlock = some g ∧ wr.heap.size ≤ g) :
    WIn w B vout vx vd xs down rs f res (k + 1) v' w' := by
  have hkeep : ∀ g, g < wr.heap.size → vo.ownBlock ≠ some g → w'.heap[g]? = wr.heap[g]? := fun g a b => hg2.block g a (fun e => b e.symm)
  refine ⟨(Cn.walk rs f down (xs.getD k 0) outk).1, hok, Cn.walk_len _ _ _ _ _ h2, ?_, hx.keep (fun g h => hkeep g (hx.2.2.lt g h).2 (fun e => (hne g e).1 h)), hd.keep (fun g h => hkeep g (hd.2.2.lt g h).2 (fun e => (hne g e).2 h)), fun g h => ?_, grow_trans hg hg2 ?_, ?_⟩
  · rw [← h3, Cn.fold_step hk]
    congr 1
    exact Prod.ext rfl hr0.symm
  · rcases hv2 with e | ⟨g', e, hg'⟩
    · exact hne g (e ▸ h)
    · rw [e] at h
      obtain rfl := Option.some.inj h
      exact ⟨fun e' => by have := (hx.2.2.lt g' e').2; omega, fun e' => by have := (hd.2.2.lt g' e').2; omega⟩
  · exact hv
  · rcases hv2 with e | ⟨g', e, hg'⟩
    · rcases hv with hv | ⟨g, hv, hvg⟩
      · exact .inl (e.trans hv)
      · exact .inr ⟨g, e.trans hv, hvg⟩
    · exact .inr ⟨g', e, Nat.le_trans hg.size hg'⟩
theorem WIn.start {w wr : World} {B : Nat} {vout vx vd : Value} {xs down out : List Int} {rs : List Rec} {f : Nat} (ho : Ok .i32 21 w B vout out) (hl : out.length ≤ 32) (hx : Ok .i32 21 wr w.heap.size vx xs) (hd : Ok .i32 21 wr w.heap.size vd down) (hb : Below w.heap.size w wr) :
    WIn w B vout vx vd xs down rs f (xs.foldl (Cn.stepW rs f down) (out, 0)) 0 vout wr := by
  refine ⟨out, ho.below hb, hl, by rw [List.drop_zero], hx, hd, fun g h => ?_, grow_of hb _, .inl rfl⟩
  have hlt := (ho.2.2.lt g h).2
  exact ⟨fun e => by have := (hx.2.2.lt g e).1; omega, fun e => by have := (hd.2.2.lt g e).1; omega⟩
end Go.Proofs.YtbbmaokeibafkaaGreatDoor
namespace Go.Proofs.YtbbmaokeibafkaaGreatDoor
open Go.RowKit
end Go.Proofs.YtbbmaokeibafkaaGreatDoor
namespace Go.Proofs.YtbbmaokeibafkaaGreatDoor
open Go.RowKit
def dips (l : List Rec) (x : List Int) (j : Nat) : Prop := Cn.cls l (x.getD j 0) ≠ 0 ∧ Cn.cls l (x.getD j 0) < Cn.cls l (x.getD (j - 1) 0)
theorem falls_iff (l : List Rec) : ∀ x : List Int, Cn.fallsA l x = true ↔ ∃ j, 1 ≤ j ∧ j < x.length ∧ dips l x j
  | [] => by simp [Cn.fallsA]
  | [a] => by
    simp only [Cn.fallsA]
    constructor
    · intro h; cases h
    · rintro ⟨j, h1, h2, _⟩
      simp at h2
      omega
  | a :: b :: r => by
    rw [Cn.fallsA, Bool.or_eq_true, falls_iff l (b :: r), decide_eq_true_iff]
    constructor
    · rintro (h | ⟨j, h1, h2, h3⟩)
      · exact ⟨1, by omega, by simp, by simpa [dips] using h⟩
      · refine ⟨j + 1, by omega, by simp at h2 ⊢; omega, ?_⟩
        obtain ⟨j, rfl⟩ : ∃ i, j = i + 1 := ⟨j - 1, by omega⟩
        simpa [dips] using h3
    · rintro ⟨j, h1, h2, h3⟩
      obtain ⟨j, rfl⟩ : ∃ i, j = i + 1 := ⟨j - 1, by omega⟩
      cases j with
      | zero => exact .inl (by simpa [dips] using h3)
      | succ j => exact .inr ⟨j + 1, by omega, by simp at h2 ⊢; omega, by simpa [dips] using h3⟩
theorem falls_at {l : List Rec} {x : List Int} {j : Nat} (h1 : 1 ≤ j) (h2 : j < x.length) (h : dips l x j) : Cn.fallsA l x = true := (falls_iff l x).2 ⟨j, h1, h2, h⟩
theorem falls_not {l : List Rec} {x : List Int} (h : ∀ j, 1 ≤ j → j < x.length → ¬ dips l x j) : Cn.fallsA l x = false := by
  rcases hb : Cn.fallsA l x with _ | _
  · rfl
  · obtain ⟨j, a, b, c⟩ := (falls_iff l x).1 hb
    exact absurd c (h j a b)
theorem cls_fit {w : World} {v : Value} {rs : List Rec} (hv : Rcs w v rs) (c : Int) : I64 (Cn.cls rs c) := by
  rcases hit_at hv 2 c with ⟨_, h2⟩ | ⟨k, _, _, _, _, _, h2, _, _, _, _, hf⟩
  · unfold Cn.cls; rw [h2]; exact ⟨by decide, by decide⟩
  · unfold Cn.cls; rw [h2]; exact hf.n
def FaIn (w : World) (v u : Value) (rs : List Rec) (xs : List Int) (k : Nat) (wr : World) : Prop := Rcs wr v rs ∧ Sk .i32 wr u xs ∧ Below w.heap.size w wr ∧ ∀ j, 1 ≤ j → j < k → j < xs.length → ¬ dips rs xs j
end Go.Proofs.YtbbmaokeibafkaaGreatDoor
namespace Go.Proofs.YtbbmaokeibafkaaGreatDoor
open Go.RowKit
theorem refValid_any (c : Int) (w : World) (h : Rune c) : Calls Tryz.prog 40 #[.int .i32 c] w fun e w' => e = .returned (.bool (Cn.scalar c)) ∧ w' = w := by
  obtain ⟨h1, h2⟩ := h
  by_cases a1 : 0 ≤ c
  · by_cases a2 : c ≤ 55295
    · have hs : Cn.scalar c = true := by unfold Cn.scalar; simp; omega
      rw [hs]
      clear hs
      go_enter Tryz.func40, Tryz.ntmps40
      go_wp2
      go_ret
      exact ⟨rfl, rfl⟩
    · by_cases a3 : 57344 ≤ c
      · by_cases a4 : c ≤ 1114111
        · have hs : Cn.scalar c = true := by unfold Cn.scalar; simp; omega
          rw [hs]
          clear hs
          go_enter Tryz.func40, Tryz.ntmps40
          go_wp2
          go_ret
          exact ⟨rfl, rfl⟩
        · have hs : Cn.scalar c = false := by unfold Cn.scalar; simp; omega
          rw [hs]
          clear hs
          go_enter Tryz.func40, Tryz.ntmps40
          go_wp2
          go_ret
          exact ⟨rfl, rfl⟩
      · have hs : Cn.scalar c = false := by unfold Cn.scalar; simp; omega
        rw [hs]
        clear hs
        go_enter Tryz.func40, Tryz.ntmps40
        go_wp2
        go_ret
        exact ⟨rfl, rfl⟩
  · have a3 : ¬ 57344 ≤ c := by omega
    have hs : Cn.scalar c = false := by unfold Cn.scalar; simp; omega
    rw [hs]
    clear hs
    go_enter Tryz.func40, Tryz.ntmps40
    go_wp2
    go_ret
    exact ⟨rfl, rfl⟩
theorem all_false {x : List Int} {f : Int → Bool} {k : Nat} (hk : k < x.length) (h : f (x.getD k 0) = false) : x.all f = false := by
  rw [List.all_eq_false]
  exact ⟨x.getD k 0, by simp [List.getD, hk], by rw [h]; simp⟩
theorem all_true {x : List Int} {f : Int → Bool} (h : ∀ j, j < x.length → f (x.getD j 0) = true) : x.all f = true := by
  rw [List.all_eq_true]
  intro y hy
  obtain ⟨j, hj, rfl⟩ := List.getElem_of_mem hy
  have := h j hj
  simpa [List.getD, hj] using this
theorem refSound_any (u : Value) (xs : List Int) (w : World) (hu : Sk .i32 w u xs) (hl : xs.length ≤ 1000000000) : Calls Tryz.prog 54 #[u] w fun e w' => e = .returned (.bool (xs.all Cn.scalar)) ∧ w' = w := by
  have HAT : Hid (∀ k, k < xs.length → Cn.scalar (xs.getD k 0) = false → xs.all Cn.scalar = false) := fun k => all_false
  have HNO : Hid ((∀ j, j < xs.length → Cn.scalar (xs.getD j 0) = true) → xs.all Cn.scalar = true) := all_true
  generalize xs.all Cn.scalar = res at *
  have HS := hide hu
  obtain ⟨uo, ucap, rfl, hu1, hu2⟩ := hu.shape
  clear hu
  go_enter Tryz.func54, Tryz.ntmps54
  go_wp2
  go_loop [3] (fun iv => ∃ k : Nat, iv = .int .i64 k ∧ k ≤ xs.length ∧ ∀ j, j < k → Cn.scalar (xs.getD j 0) = true) (fun iv => xs.length - (intOf iv).toNat)
  case atStart => exact ⟨0, rfl, by omega, fun j hj => absurd hj (Nat.not_lt_zero _)⟩
  case round =>
    obtain ⟨k, rfl, hk, hno⟩ := hrel
    by_cases hlt : k < xs.length
    · obtain ⟨b, off, cap', he, _, _, hcc⟩ := (unhide HS).place (by omega)
      obtain ⟨rfl, rfl⟩ : uo = some ⟨b, off, none⟩ ∧ ucap = cap' := by simpa using he
      have hcell := hcc k hlt
      have K := hide (refValid_any (xs.getD k 0) w (rune_of (unhide HS) hlt))
      have HT := hide ((unhide HAT) k hlt)
      have HN : Hid (Cn.scalar (xs.getD k 0) = true → ∀ j, j < k + 1 → Cn.scalar (xs.getD j 0) = true) := fun h j hj => by
        rcases Nat.lt_or_ge j k with h' | h'
        · exact hno j h'
        · obtain rfl : j = k := by omega
          exact h
      clear hcc he HS HAT HNO hno
      generalize hy : Cn.scalar (xs.getD k 0) = y at HT HN K
      clear hy
      generalize xs.getD k 0 = z at *
      go_wp2_with fail
      refine (unhide K).mono ?_
      rintro e w1 ⟨rfl, rfl⟩
      clear K hcell
      cases y with
      | false =>
        obtain rfl := (unhide HT) rfl
        clear HT HN
        go_wp2
        go_ret
        exact ⟨rfl, rfl⟩
      | true =>
        have HN2 := hide ((unhide HN) rfl)
        clear HT HN
        go_wp2
        go_round
        case rel => exact ⟨k + 1, by go_num, by omega, unhide HN2⟩
        case measure => simp [intOf]; omega
    · obtain rfl : k = xs.length := by omega
      obtain rfl := (unhide HNO) hno
      clear HNO HAT hno HS
      go_wp2
      go_ret
      exact ⟨rfl, rfl⟩
theorem refList_any (u : Value) (xs : List Int) (a b : Nat) (w : World) (hu : Sk .i32 w u xs) (hl : xs.length ≤ 1000000000) : Calls Tryz.prog 41 #[u, .int .i64 a, .int .i64 b] w fun e w' => e = .returned (.bool (Cn.list xs a b)) ∧ w' = w := by
  have K := hide (refSound_any u xs w hu hl)
  obtain ⟨uo, ucap, rfl, hu1, hu2⟩ := hu.shape
  clear hu
  unfold Cn.list
  generalize xs.all Cn.scalar = y at *
  by_cases h1 : a ≤ xs.length
  · by_cases h2 : xs.length ≤ b
    · rw [decide_eq_true ⟨h1, h2⟩, Bool.true_and]
      go_enter Tryz.func41, Tryz.ntmps41
      go_wp2_with fail
      refine (unhide K).mono ?_
      rintro e w1 ⟨rfl, rfl⟩
      clear K
      go_wp2
      go_ret
      exact ⟨rfl, rfl⟩
    · rw [decide_eq_false (fun h => h2 h.2), Bool.false_and]
      clear K
      go_enter Tryz.func41, Tryz.ntmps41
      go_wp2
      go_ret
      exact ⟨rfl, rfl⟩
  · rw [decide_eq_false (fun h => h1 h.1), Bool.false_and]
    clear K
    go_enter Tryz.func41, Tryz.ntmps41
    go_wp2
    go_ret
    exact ⟨rfl, rfl⟩
end Go.Proofs.YtbbmaokeibafkaaGreatDoor
