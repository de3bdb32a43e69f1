/- The contract of puny's read. (The frames and the ways by program: genpd11.py.) -/
import Derived.Test.YtgccindoinhphaaPuC11
import Derived.Test.YtgccindoinhphaaPuJ11
import Derived.Test.YtgccindoinhphaaPuR11
import Derived.Test.YtgccindoinhphaaScE
import Derived.Test.YtgccindoinhphaaJumps
namespace Go.Proofs.Ytgccindoinhphaa
open Go.RowKit

theorem plist_lit (l : List Value) (n : Nat) (h : l.length = n) : l = (List.range n).map (fun i => l.getD i undef) := by
  apply List.ext_getElem
  · simp [h]
  · intro i h1 h2
    simp [List.getD, h1]

def F0 (s : ByteArray) (v : Value) (k b : Nat) (a : Act) : Prop := a.defers = [] ∧ a.tmps.size = 79 ∧ a.tmps.getD 0 undef = v ∧ a.tmps.getD 1 undef = .string s ∧ a.tmps.getD 4 undef = .slice none 0 0 ∧ a.tmps.getD 5 undef = .int .i64 0 ∧ a.tmps.getD 6 undef = .int .i64 (k : Int) ∧ a.tmps.getD 15 undef = .pointer (some ⟨b, 0, none⟩)
theorem F0.open {s : ByteArray} {v : Value} {k b : Nat} {a : Act} (h : F0 s v k b a) : ∃ U : Nat → Value, a = ({ tmps := #[v, .string s, U 2, U 3, .slice none 0 0, .int .i64 0, .int .i64 (k : Int), U 7, U 8, U 9, U 10, U 11, U 12, U 13, U 14, .pointer (some ⟨b, 0, none⟩), U 16, U 17, U 18, U 19, U 20, U 21, U 22, U 23, U 24, U 25, U 26, U 27, U 28, U 29, U 30, U 31, U 32, U 33, U 34, U 35, U 36, U 37, U 38, U 39, U 40, U 41, U 42, U 43, U 44, U 45, U 46, U 47, U 48, U 49, U 50, U 51, U 52, U 53, U 54, U 55, U 56, U 57, U 58, U 59, U 60, U 61, U 62, U 63, U 64, U 65, U 66, U 67, U 68, U 69, U 70, U 71, U 72, U 73, U 74, U 75, U 76, U 77, U 78], defers := [] } : Act) := by
  obtain ⟨t, df⟩ := a
  obtain ⟨h1, h2, q0, q1, q4, q5, q6, q15⟩ := h
  refine ⟨fun i => t.getD i undef, ?_⟩
  simp only at h1 h2 q0 q1 q4 q5 q6 q15
  subst h1
  congr 1
  rw [← q0, ← q1, ← q4, ← q5, ← q6, ← q15]
  obtain ⟨l⟩ := t
  have hl : l.length = 79 := by simpa using h2
  apply congrArg Array.mk
  have e := plist_lit l 79 hl
  rw [show (List.range 79).map (fun i => l.getD i undef) = [l.getD 0 undef, l.getD 1 undef, l.getD 2 undef, l.getD 3 undef, l.getD 4 undef, l.getD 5 undef, l.getD 6 undef, l.getD 7 undef, l.getD 8 undef, l.getD 9 undef, l.getD 10 undef, l.getD 11 undef, l.getD 12 undef, l.getD 13 undef, l.getD 14 undef, l.getD 15 undef, l.getD 16 undef, l.getD 17 undef, l.getD 18 undef, l.getD 19 undef, l.getD 20 undef, l.getD 21 undef, l.getD 22 undef, l.getD 23 undef, l.getD 24 undef, l.getD 25 undef, l.getD 26 undef, l.getD 27 undef, l.getD 28 undef, l.getD 29 undef, l.getD 30 undef, l.getD 31 undef, l.getD 32 undef, l.getD 33 undef, l.getD 34 undef, l.getD 35 undef, l.getD 36 undef, l.getD 37 undef, l.getD 38 undef, l.getD 39 undef, l.getD 40 undef, l.getD 41 undef, l.getD 42 undef, l.getD 43 undef, l.getD 44 undef, l.getD 45 undef, l.getD 46 undef, l.getD 47 undef, l.getD 48 undef, l.getD 49 undef, l.getD 50 undef, l.getD 51 undef, l.getD 52 undef, l.getD 53 undef, l.getD 54 undef, l.getD 55 undef, l.getD 56 undef, l.getD 57 undef, l.getD 58 undef, l.getD 59 undef, l.getD 60 undef, l.getD 61 undef, l.getD 62 undef, l.getD 63 undef, l.getD 64 undef, l.getD 65 undef, l.getD 66 undef, l.getD 67 undef, l.getD 68 undef, l.getD 69 undef, l.getD 70 undef, l.getD 71 undef, l.getD 72 undef, l.getD 73 undef, l.getD 74 undef, l.getD 75 undef, l.getD 76 undef, l.getD 77 undef, l.getD 78 undef] from rfl] at e
  have g : ∀ i, (Array.mk l).getD i undef = l.getD i undef := fun i => by rw [Array.getD_eq_getD_getElem?, List.getD_eq_getElem?_getD]; simp
  simp only [g]
  exact e

def F1 (s : ByteArray) (v : Value) (k b : Nat) (kk vl wt : Int) (a : Act) : Prop := a.defers = [] ∧ a.tmps.size = 79 ∧ a.tmps.getD 0 undef = v ∧ a.tmps.getD 1 undef = .string s ∧ a.tmps.getD 4 undef = .slice none 0 0 ∧ a.tmps.getD 5 undef = .int .i64 0 ∧ a.tmps.getD 6 undef = .int .i64 (k : Int) ∧ a.tmps.getD 15 undef = .pointer (some ⟨b, 0, none⟩) ∧ a.tmps.getD 8 undef = .int .i64 kk ∧ a.tmps.getD 10 undef = .int .i64 vl ∧ a.tmps.getD 11 undef = .int .i64 wt
theorem F1.open {s : ByteArray} {v : Value} {k b : Nat} {kk vl wt : Int} {a : Act} (h : F1 s v k b kk vl wt a) : ∃ U : Nat → Value, a = ({ tmps := #[v, .string s, U 2, U 3, .slice none 0 0, .int .i64 0, .int .i64 (k : Int), U 7, .int .i64 kk, U 9, .int .i64 vl, .int .i64 wt, U 12, U 13, U 14, .pointer (some ⟨b, 0, none⟩), U 16, U 17, U 18, U 19, U 20, U 21, U 22, U 23, U 24, U 25, U 26, U 27, U 28, U 29, U 30, U 31, U 32, U 33, U 34, U 35, U 36, U 37, U 38, U 39, U 40, U 41, U 42, U 43, U 44, U 45, U 46, U 47, U 48, U 49, U 50, U 51, U 52, U 53, U 54, U 55, U 56, U 57, U 58, U 59, U 60, U 61, U 62, U 63, U 64, U 65, U 66, U 67, U 68, U 69, U 70, U 71, U 72, U 73, U 74, U 75, U 76, U 77, U 78], defers := [] } : Act) := by
  obtain ⟨t, df⟩ := a
  obtain ⟨h1, h2, q0, q1, q4, q5, q6, q15, q8, q10, q11⟩ := h
  refine ⟨fun i => t.getD i undef, ?_⟩
  simp only at h1 h2 q0 q1 q4 q5 q6 q15 q8 q10 q11
  subst h1
  congr 1
  rw [← q0, ← q1, ← q4, ← q5, ← q6, ← q15, ← q8, ← q10, ← q11]
  obtain ⟨l⟩ := t
  have hl : l.length = 79 := by simpa using h2
  apply congrArg Array.mk
  have e := plist_lit l 79 hl
  rw [show (List.range 79).map (fun i => l.getD i undef) = [l.getD 0 undef, l.getD 1 undef, l.getD 2 undef, l.getD 3 undef, l.getD 4 undef, l.getD 5 undef, l.getD 6 undef, l.getD 7 undef, l.getD 8 undef, l.getD 9 undef, l.getD 10 undef, l.getD 11 undef, l.getD 12 undef, l.getD 13 undef, l.getD 14 undef, l.getD 15 undef, l.getD 16 undef, l.getD 17 undef, l.getD 18 undef, l.getD 19 undef, l.getD 20 undef, l.getD 21 undef, l.getD 22 undef, l.getD 23 undef, l.getD 24 undef, l.getD 25 undef, l.getD 26 undef, l.getD 27 undef, l.getD 28 undef, l.getD 29 undef, l.getD 30 undef, l.getD 31 undef, l.getD 32 undef, l.getD 33 undef, l.getD 34 undef, l.getD 35 undef, l.getD 36 undef, l.getD 37 undef, l.getD 38 undef, l.getD 39 undef, l.getD 40 undef, l.getD 41 undef, l.getD 42 undef, l.getD 43 undef, l.getD 44 undef, l.getD 45 undef, l.getD 46 undef, l.getD 47 undef, l.getD 48 undef, l.getD 49 undef, l.getD 50 undef, l.getD 51 undef, l.getD 52 undef, l.getD 53 undef, l.getD 54 undef, l.getD 55 undef, l.getD 56 undef, l.getD 57 undef, l.getD 58 undef, l.getD 59 undef, l.getD 60 undef, l.getD 61 undef, l.getD 62 undef, l.getD 63 undef, l.getD 64 undef, l.getD 65 undef, l.getD 66 undef, l.getD 67 undef, l.getD 68 undef, l.getD 69 undef, l.getD 70 undef, l.getD 71 undef, l.getD 72 undef, l.getD 73 undef, l.getD 74 undef, l.getD 75 undef, l.getD 76 undef, l.getD 77 undef, l.getD 78 undef] from rfl] at e
  have g : ∀ i, (Array.mk l).getD i undef = l.getD i undef := fun i => by rw [Array.getD_eq_getD_getElem?, List.getD_eq_getElem?_getD]; simp
  simp only [g]
  exact e

/-- Memory while numbers are read: the sequence in a row of its own, the state in block b. -/
structure Rm (X0 : Nat) (B b : Nat) (w0 : World) (k : Nat) (st : Pu.St) (v : Value) (wr : World) : Prop where
  row : Ok .i32 21 wr B v st.xs
  state : StAt wr b (st.xs.length : Int) st.n st.i st.bias st.first
  bel : Below B w0 wr
  hB : B ≤ b
  lt : b < wr.heap.size
  ne : v.ownBlock ≠ some b
  len : st.xs.length ≤ X0 + k
  n : 0 ≤ st.n ∧ st.n ≤ 1114111
  i : 0 ≤ st.i ∧ st.i ≤ st.xs.length
  bias : 0 ≤ st.bias ∧ st.bias ≤ 468

def RdPost (B : Nat) (w : World) (r : List Int × Int) (e : Ending) (w' : World) : Prop :=
  (∃ v, e = .returned (.tuple #[v, .int .i64 0]) ∧ r = (r.1, 0) ∧ Ok .i32 21 w' B v r.1 ∧ Below B w w') ∨ (r.1 = [] ∧ r.2 ≠ 0 ∧ e = .returned (.tuple #[.slice none 0 0, .int .i64 r.2]) ∧ Below B w w')
theorem RdPost.no {B : Nat} {w w' : World} {r : List Int × Int} {c : Int} (h : r = ([], c)) (hc : c ≠ 0) (hb : Below B w w') : RdPost B w r (.returned (.tuple #[.slice none 0 0, .int .i64 c])) w' := by
  subst h; exact .inr ⟨rfl, hc, rfl, hb⟩
theorem RdPost.yes {B : Nat} {w w' : World} {r : List Int × Int} {v : Value} {xs : List Int} (h : r = (xs, 0)) (hv : Ok .i32 21 w' B v xs) (hb : Below B w w') : RdPost B w r (.returned (.tuple #[v, .int .i64 0])) w' := by
  subst h; exact .inl ⟨v, rfl, rfl, hv, hb⟩

/-- What holds at a jump to each label. -/
def Jq (X0 B b : Nat) (s : ByteArray) (zs : List Int) (r : List Int × Int) (w : World) : Nat → Act → World → Prop
  | 0, a, wr => ∃ (k : Nat) (st : Pu.St) (v : Value), F0 s v k b a ∧ k ≤ s.size ∧ Rm X0 B b w k st v wr ∧ r = Pu.rdW (zs.drop k) st
  | 1, a, wr => ∃ (k : Nat) (st : Pu.St) (v : Value) (kk vl wt : Int), F1 s v k b kk vl wt a ∧ k ≤ s.size ∧ Rm X0 B b w k st v wr ∧ (1 ≤ kk ∧ kk ≤ k + 1) ∧ (0 ≤ vl ∧ vl ≤ 75161927680 * k) ∧ (1 ≤ wt ∧ wt ≤ 2147483648) ∧ r = Pu.after st (Pu.rdN st.bias (zs.drop k) kk vl wt)
  | 2, a, wr => ∃ (k : Nat) (st : Pu.St) (v : Value) (kk vl wt : Int), F1 s v k b kk vl wt a ∧ k ≤ s.size ∧ 1 ≤ k ∧ Rm X0 B b w (k - 1) st v wr ∧ (0 ≤ vl ∧ vl ≤ 75161927680 * k) ∧ r = Pu.after st (0, vl, zs.drop k)
  | _, _, _ => False

theorem Rm.later {X0 B b : Nat} {w0 : World} {k k' : Nat} {st : Pu.St} {v : Value} {wr : World} (h : Rm X0 B b w0 k st v wr) (hk : k ≤ k') : Rm X0 B b w0 k' st v wr :=
  { h with len := by have := h.len; omega }

theorem ok_grown {K : IntKind} {e : TypeId} {w w' : World} {B : Nat} {v : Value} {zs : List Int} {row : Option Nat} (h : Ok K e w B v zs) (hg : w.grownBy w' row) (hne : v.ownBlock = none ∨ v.ownBlock ≠ row) : Ok K e w' B v zs := ⟨h.1, h.2.1, h.2.2.kept hg hne⟩
theorem ok_alloc {K : IntKind} {e : TypeId} {w : World} {B : Nat} {v : Value} {zs : List Int} (h : Ok K e w B v zs) (o : Obj) : Ok K e (w.alloc o) B v zs := ⟨h.1, h.2.1, h.2.2.alloc o⟩
theorem alloc_size (w : World) (o : Obj) : (w.alloc o).heap.size = w.heap.size + 1 := by show (w.heap.push o).size = _; rw [Array.size_push]

theorem Rm.step {X0 B b : Nat} {w0 : World} {k : Nat} {st : Pu.St} {v : Value} {wr wq w2 : World} {d : Int} {e : Ending} (h : Rm X0 B b w0 (k - 1) st v wr) (hk : 1 ≤ k)
    (hd : 0 ≤ d ∧ d ≤ 2147483647) (hok : Utf.okc (Pu.stepN st d)) (hq : StAt wq b ((st.xs.length : Int) + 1) (Pu.stepN st d) (Pu.stepP st d + 1) (Pu.adapt d ((st.xs.length : Int) + 1) st.first) false) (hg : wr.grownBy wq (some b)) (hsz : wq.heap.size = wr.heap.size)
    (hi : InsPost B v (wq.alloc (.cells #[.int .i32 (Pu.stepN st d)] 21)) (Pu.ins st.xs (Pu.stepP st d).toNat (Pu.stepN st d)) e w2) : ∃ v', e = .returned v' ∧ Rm X0 B b w0 k (Pu.step st d) v' w2 := by
  obtain ⟨v', rfl, hok', hgr, hown⟩ := hi
  have hlen : (Pu.step st d).xs.length = st.xs.length + 1 := ins_len _ _ _
  have hr0 : 0 ≤ Pu.stepP st d := Int.emod_nonneg _ (by omega)
  have hr1 : Pu.stepP st d < (st.xs.length : Int) + 1 := Int.emod_lt_of_pos _ (by omega)
  have hs := alloc_size wq (.cells #[.int .i32 (Pu.stepN st d)] 21)
  have hvb : ∀ g, v.ownBlock = some g → B ≤ g ∧ g < wr.heap.size := fun g hh => h.row.row.lt g hh
  refine ⟨v', rfl, ⟨hok', ?_, ?_, h.hB, ?_, ?_, ?_, ?_, ?_, ?_⟩⟩
  · rw [hlen]
    show StAt w2 b ((st.xs.length + 1 : Nat) : Int) (Pu.stepN st d) (Pu.stepP st d + 1) (Pu.adapt d ((st.xs.length : Int) + 1) st.first) false
    rw [show ((st.xs.length + 1 : Nat) : Int) = (st.xs.length : Int) + 1 by omega]
    unfold StAt at hq ⊢
    rw [hgr.block b (by have := h.lt; omega) (fun hh => h.ne hh.symm), heap_alloc_old _ _ (by have := h.lt; omega)]
    exact hq
  · have h1 := h.bel.grown hg (by have := h.lt; have := h.hB; omega) (fun g hh => by simp at hh; have := h.hB; omega)
    have h2 := h1.alloc (by have := h.lt; have := h.hB; omega) (.cells #[.int .i32 (Pu.stepN st d)] 21)
    exact h2.grown hgr (by have := h.lt; have := h.hB; omega) (fun g hh => (hvb g hh).1)
  · have := hgr.size; have := h.lt; omega
  · intro hh
    rcases hown b hh with h3 | h3
    · exact h.ne h3
    · have := h.lt; omega
  · rw [hlen]; have := h.len; omega
  · show 0 ≤ Pu.stepN st d ∧ Pu.stepN st d ≤ 1114111
    rcases hok with h3 | h3 <;> omega
  · rw [hlen]
    show 0 ≤ Pu.stepP st d + 1 ∧ Pu.stepP st d + 1 ≤ ((st.xs.length + 1 : Nat) : Int)
    omega
  · exact Pu.adapt_bounds d _ st.first (by omega)

theorem Rm.ins {X0 B b : Nat} {w0 : World} {k : Nat} {st : Pu.St} {v : Value} {wr wq : World} {d : Int} (h : Rm X0 B b w0 (k - 1) st v wr) (hX : X0 + k ≤ 1000000) (hok : Utf.okc (Pu.stepN st d)) (hg : wr.grownBy wq (some b)) (hsz : wq.heap.size = wr.heap.size) (p : Nat) (hp : Pu.stepP st d = p) :
    Calls Try.prog 44 #[v, .int .i64 p, .slice (some ⟨wq.heap.size, 0, none⟩) 1 1] (wq.alloc (.cells #[.int .i32 (Pu.stepN st d)] 21)) (InsPost B v (wq.alloc (.cells #[.int .i32 (Pu.stepN st d)] 21)) (Pu.ins st.xs (Pu.stepP st d).toNat (Pu.stepN st d))) := by
  have hr1 : Pu.stepP st d < (st.xs.length : Int) + 1 := Int.emod_lt_of_pos _ (by omega)
  have hs := alloc_size wq (.cells #[.int .i32 (Pu.stepN st d)] 21)
  have hl := h.len
  have := h.lt
  have := h.hB
  rw [show (Pu.stepP st d).toNat = p by omega]
  refine insert_any B v st.xs p (Pu.stepN st d) _ wq.heap.size (ok_alloc (ok_grown h.row hg (.inr h.ne)) _) (by omega) (by omega) (by omega) (heap_alloc_new wq _) (fun hh => ?_) (by rcases hok with h3 | h3 <;> omega)
  have := (h.row.row.lt _ hh).2
  omega

def pmes (N l : Nat) (a : Act) : Nat := 2 * (N - (intOf (a.tmps.getD 6 undef)).toNat) + (if l = 2 then 1 else 0)
theorem pmes_lt {N l l2 k k2 : Nat} {a a2 : Act} (h : a.tmps.getD 6 undef = .int .i64 (k : Int)) (h2 : a2.tmps.getD 6 undef = .int .i64 (k2 : Int)) (hm : 2 * (N - k2) + (if l2 = 2 then 1 else 0) < 2 * (N - k) + (if l = 2 then 1 else 0)) : pmes N l2 a2 < pmes N l a := by
  unfold pmes
  rw [h, h2]
  exact hm

theorem wt_bounds {d wt : Int} (h0 : 0 ≤ d ∧ d ≤ 35) (h1 : 1 ≤ wt ∧ wt ≤ 2147483648) : 0 ≤ d * wt ∧ d * wt ≤ 75161927680 := by
  refine ⟨Int.mul_nonneg h0.1 (by omega), ?_⟩
  calc d * wt ≤ 35 * wt := Int.mul_le_mul_of_nonneg_right h0.2 (by omega)
    _ ≤ 75161927680 := by omega
theorem wt_next {t wt : Int} (h0 : 1 ≤ t ∧ t ≤ 26) (h1 : 1 ≤ wt ∧ wt ≤ 2147483648) : 1 ≤ wt * (36 - t) ∧ wt * (36 - t) ≤ 75161927680 := by
  constructor
  · calc 1 ≤ wt := h1.1
      _ = wt * 1 := by omega
      _ ≤ wt * (36 - t) := Int.mul_le_mul_of_nonneg_left (by omega) (by omega)
  · calc wt * (36 - t) ≤ wt * 35 := Int.mul_le_mul_of_nonneg_left (by omega) (by omega)
      _ ≤ 75161927680 := by omega

end Go.Proofs.Ytgccindoinhphaa
