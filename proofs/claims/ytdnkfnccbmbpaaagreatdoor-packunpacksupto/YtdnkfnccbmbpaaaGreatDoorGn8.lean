import Derived.Test.YtdnkfnccbmbpaaaGreatDoorGc8
import Derived.Test.YtdnkfnccbmbpaaaGreatDoorGm8
import Derived.Test.YtdnkfnccbmbpaaaGreatDoorGa8
import Derived.Test.YtdnkfnccbmbpaaaGreatDoorGb8
/- A table as bytes: plain functions. -/
namespace Go.Proofs.YtdnkfnccbmbpaaaGreatDoor
namespace Pk
open Wi

/-- What a kind has behind it: its parts: Lo 0, the reach 1, Lo alone 2, N 3, the target 4, Name 5, Other 6, the list 7, the weight 8. -/
def form (k : Int) : List Nat :=
  if k = 1 ∨ k = 2 ∨ k = 11 then [0, 1]
  else if k = 3 then [0, 1, 7]
  else if k = 4 then [0, 1, 3, 4]
  else if k = 5 ∨ k = 7 ∨ k = 8 ∨ k = 13 then [2, 7]
  else if k = 6 ∨ k = 9 ∨ k = 10 then [0, 1, 3]
  else if k = 12 then [0, 1, 5]
  else if k = 14 then [0, 1, 8]
  else if k = 15 then [5, 6, 8]
  else []
/-- A part's bytes. -/
def fb (r : Rec) : Nat → List Int
  | 0 => Ref.uint r.lo
  | 1 => Ref.uint (r.hi - r.lo)
  | 2 => Ref.uint r.lo
  | 3 => Ref.uint r.n
  | 4 => Ref.uint (r.to.getD 0 0)
  | 5 => Ref.uint r.name.size ++ nums r.name
  | 6 => Ref.uint r.other.size ++ nums r.other
  | 7 => Ref.uint r.to.length ++ r.to.flatMap Ref.uint
  | _ => Ref.fl r.wt
def rb (r : Rec) : List Int := (r.kind % 256) :: (form r.kind).flatMap (fb r)
def head : List Int := [101, 110, 100, 111, 1]
/-- All that stands ahead of the sum. -/
def body (l : List Rec) : List Int := head ++ Ref.uint l.length ++ l.flatMap rb
def le4 (s : Nat) : List Int := [((s % 256 : Nat) : Int), ((s / 256 % 256 : Nat) : Int), ((s / 65536 % 256 : Nat) : Int), ((s / 16777216 % 256 : Nat) : Int)]
def sum4 (zs : List Int) : List Int := le4 (Crc.sum zs)
/-- 8.1. -/
def pack (l : List Rec) : List Int × Nat × Int :=
  if (Cn.check6 l).2 ≠ 0 then ([], (Cn.check6 l).1, (Cn.check6 l).2)
  else if 262144 < (body l).length + 4 then ([], 0, 2)
  else (body l ++ sum4 (body l), 0, 0)
/-- A number of at most so much: it, the place behind it or of the fault, the error. -/
def ru (zs : List Int) (at_ most : Int) : Int × Int × Int :=
  if (Ref.rd zs at_).2.2 ≠ 0 then (0, at_, (Ref.rd zs at_).2.2)
  else if most < (Ref.rd zs at_).1 then (0, at_, 61)
  else ((Ref.rd zs at_).1, (Ref.rd zs at_).2.1, 0)
/-- So many numbers more. -/
def rl (zs : List Int) : Nat → Int → List Int → List Int × Int × Int
  | 0, at_, acc => (acc, at_, 0)
  | k + 1, at_, acc => if (ru zs at_ 1114111).2.2 ≠ 0 then (acc, at_, (ru zs at_ 1114111).2.2) else rl zs k (ru zs at_ 1114111).2.1 (acc ++ [(ru zs at_ 1114111).1])
/-- A number, and what it does to the record. -/
def rn (zs : List Int) (at_ : Int) (r : Rec) (g : Int → Rec) : Rec × Int × Int :=
  if (ru zs at_ 1114111).2.2 ≠ 0 then (r, at_, (ru zs at_ 1114111).2.2) else (g (ru zs at_ 1114111).1, (ru zs at_ 1114111).2.1, 0)
def rs (zs : List Int) (at_ : Int) (r : Rec) (g : ByteArray → Rec) : Rec × Int × Int :=
  if (Ref.rt zs at_ 4).2.2 ≠ 0 then (r, at_, (Ref.rt zs at_ 4).2.2) else (g (strOfNums (Ref.rt zs at_ 4).1), (Ref.rt zs at_ 4).2.1, 0)
/-- A part read: the record with it, the place behind it or of the fault, the error. -/
def fr (zs : List Int) (at_ : Int) (r : Rec) : Nat → Rec × Int × Int
  | 0 => rn zs at_ r fun n => { r with lo := n }
  | 1 => rn zs at_ r fun n => { r with hi := r.lo + n }
  | 2 => rn zs at_ r fun n => { r with lo := n, hi := n }
  | 3 => rn zs at_ r fun n => { r with n := n }
  | 4 => rn zs at_ r fun n => { r with to := [n] }
  | 5 => rs zs at_ r fun s => { r with name := s }
  | 6 => rs zs at_ r fun s => { r with other := s }
  | 7 => if (ru zs at_ 24).2.2 ≠ 0 then (r, at_, (ru zs at_ 24).2.2)
    else ({ r with to := (rl zs (ru zs at_ 24).1.toNat (ru zs at_ 24).2.1 r.to).1 }, (rl zs (ru zs at_ 24).1.toNat (ru zs at_ 24).2.1 r.to).2)
  | _ => if (Ref.rf zs at_).2.2 ≠ 0 then (r, at_, (Ref.rf zs at_).2.2) else ({ r with wt := (Ref.rf zs at_).1.toNat }, (Ref.rf zs at_).2.1, 0)
def frs (zs : List Int) : List Nat → Int → Rec → Rec × Int × Int
  | [], at_, r => (r, at_, 0)
  | f :: fs, at_, r => if (fr zs at_ r f).2.2 ≠ 0 then fr zs at_ r f else frs zs fs (fr zs at_ r f).2.1 (fr zs at_ r f).1
/-- A record read. -/
def rr (zs : List Int) (at_ : Int) : Rec × Int × Int :=
  if at_ = zs.length then (Cn.none, at_, 10)
  else if Cn.fam (zs.getD at_.toNat 0) = 0 then (Cn.none, at_, 60)
  else if (frs zs (form (zs.getD at_.toNat 0)) (at_ + 1) { Cn.none with kind := zs.getD at_.toNat 0 }).2.2 ≠ 0 then (Cn.none, (frs zs (form (zs.getD at_.toNat 0)) (at_ + 1) { Cn.none with kind := zs.getD at_.toNat 0 }).2)
  else frs zs (form (zs.getD at_.toNat 0)) (at_ + 1) { Cn.none with kind := zs.getD at_.toNat 0 }
/-- So many records more, and where each begins. -/
def rrs (zs : List Int) : Nat → Int → List Rec → List Int → (List Rec × List Int) × Int × Int
  | 0, at_, l, bs => ((l, bs), at_, 0)
  | k + 1, at_, l, bs => if (rr zs at_).2.2 ≠ 0 then (([], []), (rr zs at_).2) else rrs zs k (rr zs at_).2.1 (l ++ [(rr zs at_).1]) (bs ++ [at_])
/-- What stands ahead of the sum, read. -/
def read (zs : List Int) : (List Rec × List Int) × Int × Int :=
  if (Ref.rd zs 5).2.2 ≠ 0 then (([], []), 5, (Ref.rd zs 5).2.2)
  else if 4096 < (Ref.rd zs 5).1 then (([], []), 5, 3)
  else if (rrs zs (Ref.rd zs 5).1.toNat (Ref.rd zs 5).2.1 [] []).2.2 ≠ 0 then rrs zs (Ref.rd zs 5).1.toNat (Ref.rd zs 5).2.1 [] []
  else if (rrs zs (Ref.rd zs 5).1.toNat (Ref.rd zs 5).2.1 [] []).2.1 < zs.length then (([], []), (rrs zs (Ref.rd zs 5).1.toNat (Ref.rd zs 5).2.1 [] []).2.1, 14)
  else rrs zs (Ref.rd zs 5).1.toNat (Ref.rd zs 5).2.1 [] []
/-- What can be asked ahead of the records. -/
def framed (zs : List Int) : Int × Int :=
  if 262144 < zs.length then (0, 2)
  else if zs.length < 10 then ((zs.length : Int), 10)
  else if zs.drop (zs.length - 4) ≠ sum4 (zs.take (zs.length - 4)) then ((zs.length : Int) - 4, 13)
  else if zs.take 4 ≠ [101, 110, 100, 111] then (0, 12)
  else if zs.getD 4 0 ≠ 1 then (4, 12)
  else (0, 0)
/-- 8.2. -/
def unpack (zs : List Int) : List Rec × Int × Int :=
  if (framed zs).2 ≠ 0 then ([], framed zs)
  else if (read (zs.take (zs.length - 4))).2.2 ≠ 0 then ([], (read (zs.take (zs.length - 4))).2)
  else if (Cn.check6 (read (zs.take (zs.length - 4))).1.1).2 ≠ 0 then ([], (read (zs.take (zs.length - 4))).1.2.getD (Cn.check6 (read (zs.take (zs.length - 4))).1.1).1 0, (Cn.check6 (read (zs.take (zs.length - 4))).1.1).2)
  else ((read (zs.take (zs.length - 4))).1.1, 0, 0)
end Pk
end Go.Proofs.YtdnkfnccbmbpaaaGreatDoor
/- Closures over a record: how they lie in memory; what makes them. -/
namespace Go.Proofs.YtdnkfnccbmbpaaaGreatDoor
open Go.RowKit

theorem cell_old {w : World} {b j : Nat} {v : Value} (o : Obj) (h : w.cell? ⟨b, j, none⟩ = some v) : (w.alloc o).cell? ⟨b, j, none⟩ = some v := by
  rw [Below.cell ((Below.refl w.heap.size w).alloc (Nat.le_refl _) o) (lt_of_cell? h)]; exact h
theorem cell_new (w : World) (v : Value) (T : TypeId) (n : Nat) (h : n = w.heap.size) : (w.alloc (.cells #[v] T)).cell? ⟨n, 0, none⟩ = some v := by
  subst h; simp
/-- The types of variables that closures hold on to. -/
def bx : List Nat := [57, 109, 117, 104, 120]
/-- A variable of its own, that a closure holds on to. -/
def Box (w : World) (b : Nat) (v : Value) : Prop := ∃ T, T ∈ bx ∧ w.heap[b]? = some (.cells #[v] T (0, 0))
theorem Box.cell {w : World} {b : Nat} {v : Value} (h : Box w b v) : w.cell? ⟨b, 0, none⟩ = some v := by
  obtain ⟨T, _, h⟩ := h
  exact cell_of (j := 0) h (by show 0 < 1; omega)
theorem Box.lt {w : World} {b : Nat} {v : Value} (h : Box w b v) : b < w.heap.size := lt_of_cell? h.cell
theorem Box.new (w : World) (v : Value) (T : TypeId) (n : Nat) (h : n = w.heap.size) (hT : T ∈ bx) : Box (w.alloc (.cells #[v] T)) n v := by
  subst h
  refine ⟨T, hT, ?_⟩
  show (w.heap.push _)[w.heap.size]? = _
  simp
/-- Such variables stay. -/
def Bxs (w w' : World) : Prop := ∀ b v, Box w b v → Box w' b v
theorem Bxs.refl (w : World) : Bxs w w := fun _ _ h => h
theorem Bxs.trans {a b c : World} (h : Bxs a b) (k : Bxs b c) : Bxs a c := fun x v hx => k x v (h x v hx)
theorem Bxs.below {w w' : World} (hb : Below w.heap.size w w') : Bxs w w' := fun b v h => by
  obtain ⟨T, hT, he⟩ := h
  exact ⟨T, hT, by rw [hb.block b (Box.lt ⟨T, hT, he⟩)]; exact he⟩
theorem Bxs.alloc (w : World) (o : Obj) : Bxs w (w.alloc o) := Bxs.below ((Below.refl _ _).alloc (Nat.le_refl _) o)
/-- What writes into one block of another type leaves them. -/
theorem Bxs.grown {w w' : World} {row : Option Nat} (hg : w.grownBy w' row) (hr : ∀ k, row = some k → ∃ C T m, T ∉ bx ∧ w.heap[k]? = some (.cells C T m)) : Bxs w w' := fun b v h => by
  have hlt := h.lt
  obtain ⟨T, hT, he⟩ := h
  refine ⟨T, hT, ?_⟩
  rw [hg.block b hlt (fun e => ?_)]
  · exact he
  · obtain ⟨C, T', m, hT', he'⟩ := hr b e.symm
    rw [he] at he'
    simp only [Option.some.injEq, Obj.cells.injEq] at he'
    exact hT' (he'.2.1 ▸ hT)
theorem Bxs.grown_row {w w' : World} {B e sz n : Nat} {v : Value} {us : List Value} (h : w.ownsRow B e sz v n us) (he : e ∉ bx) (hg : w.grownBy w' v.ownBlock) : Bxs w w' := Bxs.grown hg fun k hk => by
  rcases h.2 with ⟨rfl, _⟩ | ⟨g, cap, cur, rfl, _, hh, _⟩
  · cases hk
  · simp [Value.ownBlock] at hk
    subst hk
    exact ⟨cur, e, (0, 0), he, hh⟩
theorem Bxs.set {w : World} {p j : Nat} {C : Array Value} {T : TypeId} {m : Nat × Nat} (h : w.heap[p]? = some (.cells C T m)) (hT : T ∉ bx) (v : Value) : Bxs w (w.setCell ⟨p, j, none⟩ v) := fun b u hb => by
  obtain ⟨T', hT', he⟩ := hb
  refine ⟨T', hT', ?_⟩
  rw [set_other v (fun e => ?_)]
  · exact he
  · subst e
    rw [he] at h
    simp only [Option.some.injEq, Obj.cells.injEq] at h
    exact hT (h.2.1 ▸ hT')
/-- A closure over the pointer to the record in block p. -/
def Cl1 (w : World) (p k : Nat) (v : Value) : Prop := ∃ b, v = .func (.func k) #[] #[.pointer (some ⟨b, 0, none⟩)] ∧ Box w b (.pointer (some ⟨p, 0, none⟩))
/-- A closure over such a closure. -/
def Cl2 (w : World) (p k t : Nat) (v : Value) : Prop := ∃ b, v = .func (.func k) #[] #[.pointer (some ⟨b, 0, none⟩)] ∧ ∃ u, Box w b u ∧ Cl1 w p t u
theorem Cl1.keep {w w' : World} {p k : Nat} {v : Value} (h : Cl1 w p k v) (hk : Bxs w w') : Cl1 w' p k v := by
  obtain ⟨b, h2, h3⟩ := h
  exact ⟨b, h2, hk _ _ h3⟩
theorem Cl2.keep {w w' : World} {p k t : Nat} {v : Value} (h : Cl2 w p k t v) (hk : Bxs w w') : Cl2 w' p k t v := by
  obtain ⟨b, h2, u, h3, h4⟩ := h
  exact ⟨b, h2, u, hk _ _ h3, h4.keep hk⟩
/-- A part's two closures: how it is written, how it is read. -/
def Fd (w : World) (p : Nat) : Nat → Value × Value → Prop
  | 0, x => Cl2 w p 103 72 x.1 ∧ Cl2 w p 104 73 x.2
  | 1, x => Cl2 w p 103 74 x.1 ∧ Cl2 w p 104 75 x.2
  | 2, x => Cl2 w p 103 83 x.1 ∧ Cl2 w p 104 84 x.2
  | 3, x => Cl2 w p 103 79 x.1 ∧ Cl2 w p 104 80 x.2
  | 4, x => Cl2 w p 103 81 x.1 ∧ Cl2 w p 104 82 x.2
  | 5, x => Cl2 w p 105 86 x.1 ∧ Cl2 w p 107 87 x.2
  | 6, x => Cl2 w p 105 92 x.1 ∧ Cl2 w p 107 93 x.2
  | 7, x => Cl1 w p 76 x.1 ∧ Cl1 w p 77 x.2
  | _, x => Cl1 w p 88 x.1 ∧ Cl1 w p 90 x.2
theorem Fd.keep {w w' : World} {p : Nat} {f : Nat} {x : Value × Value} (h : Fd w p f x) (hk : Bxs w w') : Fd w' p f x := by
  match f, h with
  | 0, h => exact ⟨h.1.keep hk, h.2.keep hk⟩
  | 1, h => exact ⟨h.1.keep hk, h.2.keep hk⟩
  | 2, h => exact ⟨h.1.keep hk, h.2.keep hk⟩
  | 3, h => exact ⟨h.1.keep hk, h.2.keep hk⟩
  | 4, h => exact ⟨h.1.keep hk, h.2.keep hk⟩
  | 5, h => exact ⟨h.1.keep hk, h.2.keep hk⟩
  | 6, h => exact ⟨h.1.keep hk, h.2.keep hk⟩
  | 7, h => exact ⟨h.1.keep hk, h.2.keep hk⟩
  | n + 8, h => exact ⟨Cl1.keep h.1 hk, Cl1.keep h.2 hk⟩
theorem Fd.below {w w' : World} {p : Nat} {f : Nat} {x : Value × Value} (h : Fd w p f x) (hb : Below w.heap.size w w') : Fd w' p f x := h.keep (Bxs.below hb)
/-- A part's closures are function values. -/
theorem Fd.shape {w : World} {p : Nat} {f : Nat} {x : Value × Value} (h : Fd w p f x) : ∃ k1 b1 k2 b2, x = (.func (.func k1) #[] #[.pointer (some ⟨b1, 0, none⟩)], .func (.func k2) #[] #[.pointer (some ⟨b2, 0, none⟩)]) := by
  obtain ⟨x1, x2⟩ := x
  match f, h with
  | 0, ⟨⟨b1, h1, _⟩, ⟨b2, h2, _⟩⟩ => exact ⟨_, b1, _, b2, Prod.ext h1 h2⟩
  | 1, ⟨⟨b1, h1, _⟩, ⟨b2, h2, _⟩⟩ => exact ⟨_, b1, _, b2, Prod.ext h1 h2⟩
  | 2, ⟨⟨b1, h1, _⟩, ⟨b2, h2, _⟩⟩ => exact ⟨_, b1, _, b2, Prod.ext h1 h2⟩
  | 3, ⟨⟨b1, h1, _⟩, ⟨b2, h2, _⟩⟩ => exact ⟨_, b1, _, b2, Prod.ext h1 h2⟩
  | 4, ⟨⟨b1, h1, _⟩, ⟨b2, h2, _⟩⟩ => exact ⟨_, b1, _, b2, Prod.ext h1 h2⟩
  | 5, ⟨⟨b1, h1, _⟩, ⟨b2, h2, _⟩⟩ => exact ⟨_, b1, _, b2, Prod.ext h1 h2⟩
  | 6, ⟨⟨b1, h1, _⟩, ⟨b2, h2, _⟩⟩ => exact ⟨_, b1, _, b2, Prod.ext h1 h2⟩
  | 7, ⟨⟨b1, h1, _⟩, ⟨b2, h2, _⟩⟩ => exact ⟨_, b1, _, b2, Prod.ext h1 h2⟩
  | n + 8, ⟨⟨b1, h1, _⟩, ⟨b2, h2, _⟩⟩ => exact ⟨_, b1, _, b2, Prod.ext h1 h2⟩
/-- A part told: the closures, in new memory. -/
def OneB (w : World) (p f : Nat) (e : Ending) (w' : World) : Prop := ∃ x : Value × Value, e = .returned (.agg #[x.1, x.2]) ∧ Fd w' p f x ∧ Below w.heap.size w w'

def NumB (w : World) (k1 k2 : Nat) (tv kv : Value) (e : Ending) (w' : World) : Prop := ∃ b1 b2, e = .returned (.agg #[.func (.func k1) #[] #[.pointer (some ⟨b1, 0, none⟩)], .func (.func k2) #[] #[.pointer (some ⟨b2, 0, none⟩)]]) ∧ w.heap.size ≤ b1 ∧ w.heap.size ≤ b2 ∧ Box w' b1 tv ∧ Box w' b2 kv ∧ Below w.heap.size w w'
set_option maxHeartbeats 1000000 in
theorem number_any (t k : Nat) (a b : Array Value) (w : World) : Calls Tryz.prog 71 #[.func (.func t) #[] a, .func (.func k) #[] b] w (NumB w 103 104 (.func (.func t) #[] a) (.func (.func k) #[] b)) := by
  have hmf : ∀ (fn : Fn) (first cap : Array Value) (w : World), (Instr.makeFunc fn first cap).run Tryz.prog w = .ok (.func fn first cap) w := fun _ _ _ _ => rfl
  have hst : ∀ W a m fn x y, (store a (.func fn x y) m).run Tryz.prog W = stored Tryz.prog W a (.func fn x y) m := fun W a m fn x y => run_store Tryz.prog W a _ m rfl
  go_enter Tryz.func71, Tryz.ntmps71
  go_wp2
  refine bodyPost_ret (v := .agg #[.func (.func 103) #[] #[.pointer (some ⟨w.heap.size, 0, none⟩)], .func (.func 104) #[] #[.pointer (some ⟨w.heap.size + 1, 0, none⟩)]]) (by simp [results, Tryz.results71, go_sem]) rfl ⟨w.heap.size, w.heap.size + 1, rfl, Nat.le_refl _, by omega, ?_, ?_, ?_⟩
  · exact Bxs.alloc _ _ _ _ (Bxs.alloc _ _ _ _ (Box.new _ _ _ _ rfl (by decide)))
  · exact Bxs.alloc _ _ _ _ (Box.new _ _ _ _ (by simp) (by decide))
  · exact (((Below.refl _ _).alloc (Nat.le_refl _) _).alloc (by simp) _).alloc (by simp; omega) _
set_option maxHeartbeats 1000000 in
theorem text_mk (t k : Nat) (a b : Array Value) (w : World) : Calls Tryz.prog 85 #[.func (.func t) #[] a, .func (.func k) #[] b] w (NumB w 105 107 (.func (.func t) #[] a) (.func (.func k) #[] b)) := by
  have hmf : ∀ (fn : Fn) (first cap : Array Value) (w : World), (Instr.makeFunc fn first cap).run Tryz.prog w = .ok (.func fn first cap) w := fun _ _ _ _ => rfl
  have hst : ∀ W a m fn x y, (store a (.func fn x y) m).run Tryz.prog W = stored Tryz.prog W a (.func fn x y) m := fun W a m fn x y => run_store Tryz.prog W a _ m rfl
  go_enter Tryz.func85, Tryz.ntmps85
  go_wp2
  refine bodyPost_ret (v := .agg #[.func (.func 105) #[] #[.pointer (some ⟨w.heap.size, 0, none⟩)], .func (.func 107) #[] #[.pointer (some ⟨w.heap.size + 1, 0, none⟩)]]) (by simp [results, Tryz.results85, go_sem]) rfl ⟨w.heap.size, w.heap.size + 1, rfl, Nat.le_refl _, by omega, ?_, ?_, ?_⟩
  · exact Bxs.alloc _ _ _ _ (Bxs.alloc _ _ _ _ (Box.new _ _ _ _ rfl (by decide)))
  · exact Bxs.alloc _ _ _ _ (Box.new _ _ _ _ (by simp) (by decide))
  · exact (((Below.refl _ _).alloc (Nat.le_refl _) _).alloc (by simp) _).alloc (by simp; omega) _
end Go.Proofs.YtdnkfnccbmbpaaaGreatDoor
/- The makers of a record's parts. -/
namespace Go.Proofs.YtdnkfnccbmbpaaaGreatDoor
open Go.RowKit

theorem bcell {W w1 : World} (hb : Below W.heap.size W w1) : (∀ b o, b < W.heap.size → w1.cell? ⟨b, o, none⟩ = W.cell? ⟨b, o, none⟩) ∧ (∀ b o, b < W.heap.size → w1.frozen? ⟨b, o, none⟩ = W.frozen? ⟨b, o, none⟩) :=
  ⟨fun b o h => hb.cell (p := ⟨b, o, none⟩) h, fun b o h => hb.frozen (p := ⟨b, o, none⟩) h⟩
theorem cell_kept {w w' : World} {b j : Nat} (h : w'.heap[b]? = w.heap[b]?) : w'.cell? ⟨b, j, none⟩ = w.cell? ⟨b, j, none⟩ := World.cell?_of_block (a := ⟨b, j, none⟩) h
/-- Behind the two stores of the result: the closures as they lie. -/
theorem num_close {w w1 w2 : World} {p k1 k2 t1 t2 b1 b2 : Nat} {o : Obj} {u1 u2 : Value} {C : Array Value}
    (c1 : Box w1 b1 (.func (.func t1) #[] #[.pointer (some ⟨w.heap.size, 0, none⟩)])) (c2 : Box w1 b2 (.func (.func t2) #[] #[.pointer (some ⟨w.heap.size, 0, none⟩)])) (ho : o = .cells C 61 (0, 0))
    (hb : Below ((w.alloc (.cells #[.pointer (some ⟨p, 0, none⟩)] 57)).alloc o).heap.size ((w.alloc (.cells #[.pointer (some ⟨p, 0, none⟩)] 57)).alloc o) w1)
    (hw : w2 = (w1.setCell ⟨w.heap.size + 1, 0, none⟩ u1).setCell ⟨w.heap.size + 1, 1, none⟩ u2) :
    Cl2 w2 p k1 t1 (.func (.func k1) #[] #[.pointer (some ⟨b1, 0, none⟩)]) ∧ Cl2 w2 p k2 t2 (.func (.func k2) #[] #[.pointer (some ⟨b2, 0, none⟩)]) ∧ Below w.heap.size w w2 := by
  have hf : w1.heap[w.heap.size + 1]? = some (.cells C 61 (0, 0)) := by
    rw [hb.block _ (by simp), ho]
    show ((w.heap.push _).push _)[w.heap.size + 1]? = _
    rw [Array.getElem?_push]; simp
  have hk : Bxs w1 w2 := by
    subst hw
    exact (Bxs.set hf (by decide) u1).trans (Bxs.set (set_block hf u1) (by decide) u2)
  have hbox : Box w2 w.heap.size (.pointer (some ⟨p, 0, none⟩)) := hk _ _ (Bxs.below hb _ _ (Bxs.alloc _ _ _ _ (Box.new _ _ _ _ rfl (by decide))))
  refine ⟨⟨b1, rfl, _, hk _ _ c1, ⟨w.heap.size, rfl, hbox⟩⟩, ⟨b2, rfl, _, hk _ _ c2, ⟨w.heap.size, rfl, hbox⟩⟩, ?_⟩
  subst hw
  have e0 : Below w.heap.size w ((w.alloc (.cells #[.pointer (some ⟨p, 0, none⟩)] 57)).alloc o) := ((Below.refl _ _).alloc (Nat.le_refl _) _).alloc (by simp) _
  exact below_set (below_set (e0.trans (hb.mono (by simp; omega))) (by omega) _) (by omega) _
set_option maxHeartbeats 1000000 in
theorem plain_mk (p : Nat) (w : World) : Calls Tryz.prog 44 #[.pointer (some ⟨p, 0, none⟩)] w (OneB w p 3) := by
  have hmf : ∀ (fn : Fn) (first cap : Array Value) (w : World), (Instr.makeFunc fn first cap).run Tryz.prog w = .ok (.func fn first cap) w := fun _ _ _ _ => rfl
  have hst : ∀ W a m fn x y, (store a (.func fn x y) m).run Tryz.prog W = stored Tryz.prog W a (.func fn x y) m := fun W a m fn x y => run_store Tryz.prog W a _ m rfl
  have K := hide (fun W => number_any 79 80 #[.pointer (some ⟨w.heap.size, 0, none⟩)] #[.pointer (some ⟨w.heap.size, 0, none⟩)] W)
  go_enter Tryz.func44, Tryz.ntmps44
  go_wp2_with fail
  refine ((unhide K) _).mono ?_
  rintro e w1 ⟨b1, b2, rfl, h1, h2, c1, c2, hb⟩
  have hcl := fun w2 hw => num_close (k1 := 103) (k2 := 104) (w2 := w2) (u1 := .func (.func 103) #[] #[.pointer (some ⟨b1, 0, none⟩)]) (u2 := .func (.func 104) #[] #[.pointer (some ⟨b2, 0, none⟩)]) c1 c2 rfl hb hw
  have HCL := hide hcl
  obtain ⟨hc, hf⟩ := bcell hb
  have hz : w.heap.size + 1 < w1.heap.size := by have := hb.size; simp at this; omega
  clear hcl K h1 h2 c1 c2 hb
  go_wp2
  have R := (unhide HCL) _ rfl
  refine bodyPost_ret (v := .agg #[.func (.func 103) #[] #[.pointer (some ⟨b1, 0, none⟩)], .func (.func 104) #[] #[.pointer (some ⟨b2, 0, none⟩)]]) (by simp [results, Tryz.results44, go_sem, hc]) rfl ⟨(_, _), rfl, ⟨R.1, R.2.1⟩, R.2.2⟩
set_option maxHeartbeats 1000000 in
theorem target_mk (p : Nat) (w : World) : Calls Tryz.prog 45 #[.pointer (some ⟨p, 0, none⟩)] w (OneB w p 4) := by
  have hmf : ∀ (fn : Fn) (first cap : Array Value) (w : World), (Instr.makeFunc fn first cap).run Tryz.prog w = .ok (.func fn first cap) w := fun _ _ _ _ => rfl
  have hst : ∀ W a m fn x y, (store a (.func fn x y) m).run Tryz.prog W = stored Tryz.prog W a (.func fn x y) m := fun W a m fn x y => run_store Tryz.prog W a _ m rfl
  have K := hide (fun W => number_any 81 82 #[.pointer (some ⟨w.heap.size, 0, none⟩)] #[.pointer (some ⟨w.heap.size, 0, none⟩)] W)
  go_enter Tryz.func45, Tryz.ntmps45
  go_wp2_with fail
  refine ((unhide K) _).mono ?_
  rintro e w1 ⟨b1, b2, rfl, h1, h2, c1, c2, hb⟩
  have hcl := fun w2 hw => num_close (k1 := 103) (k2 := 104) (w2 := w2) (u1 := .func (.func 103) #[] #[.pointer (some ⟨b1, 0, none⟩)]) (u2 := .func (.func 104) #[] #[.pointer (some ⟨b2, 0, none⟩)]) c1 c2 rfl hb hw
  have HCL := hide hcl
  obtain ⟨hc, hf⟩ := bcell hb
  have hz : w.heap.size + 1 < w1.heap.size := by have := hb.size; simp at this; omega
  clear hcl K h1 h2 c1 c2 hb
  go_wp2
  have R := (unhide HCL) _ rfl
  refine bodyPost_ret (v := .agg #[.func (.func 103) #[] #[.pointer (some ⟨b1, 0, none⟩)], .func (.func 104) #[] #[.pointer (some ⟨b2, 0, none⟩)]]) (by simp [results, Tryz.results45, go_sem, hc]) rfl ⟨(_, _), rfl, ⟨R.1, R.2.1⟩, R.2.2⟩
set_option maxHeartbeats 1000000 in
theorem alone_mk (p : Nat) (w : World) : Calls Tryz.prog 46 #[.pointer (some ⟨p, 0, none⟩)] w (OneB w p 2) := by
  have hmf : ∀ (fn : Fn) (first cap : Array Value) (w : World), (Instr.makeFunc fn first cap).run Tryz.prog w = .ok (.func fn first cap) w := fun _ _ _ _ => rfl
  have hst : ∀ W a m fn x y, (store a (.func fn x y) m).run Tryz.prog W = stored Tryz.prog W a (.func fn x y) m := fun W a m fn x y => run_store Tryz.prog W a _ m rfl
  have K := hide (fun W => number_any 83 84 #[.pointer (some ⟨w.heap.size, 0, none⟩)] #[.pointer (some ⟨w.heap.size, 0, none⟩)] W)
  go_enter Tryz.func46, Tryz.ntmps46
  go_wp2_with fail
  refine ((unhide K) _).mono ?_
  rintro e w1 ⟨b1, b2, rfl, h1, h2, c1, c2, hb⟩
  have hcl := fun w2 hw => num_close (k1 := 103) (k2 := 104) (w2 := w2) (u1 := .func (.func 103) #[] #[.pointer (some ⟨b1, 0, none⟩)]) (u2 := .func (.func 104) #[] #[.pointer (some ⟨b2, 0, none⟩)]) c1 c2 rfl hb hw
  have HCL := hide hcl
  obtain ⟨hc, hf⟩ := bcell hb
  have hz : w.heap.size + 1 < w1.heap.size := by have := hb.size; simp at this; omega
  clear hcl K h1 h2 c1 c2 hb
  go_wp2
  have R := (unhide HCL) _ rfl
  refine bodyPost_ret (v := .agg #[.func (.func 103) #[] #[.pointer (some ⟨b1, 0, none⟩)], .func (.func 104) #[] #[.pointer (some ⟨b2, 0, none⟩)]]) (by simp [results, Tryz.results46, go_sem, hc]) rfl ⟨(_, _), rfl, ⟨R.1, R.2.1⟩, R.2.2⟩
set_option maxHeartbeats 1000000 in
theorem name_mk (p : Nat) (w : World) : Calls Tryz.prog 47 #[.pointer (some ⟨p, 0, none⟩)] w (OneB w p 5) := by
  have hmf : ∀ (fn : Fn) (first cap : Array Value) (w : World), (Instr.makeFunc fn first cap).run Tryz.prog w = .ok (.func fn first cap) w := fun _ _ _ _ => rfl
  have hst : ∀ W a m fn x y, (store a (.func fn x y) m).run Tryz.prog W = stored Tryz.prog W a (.func fn x y) m := fun W a m fn x y => run_store Tryz.prog W a _ m rfl
  have K := hide (fun W => text_mk 86 87 #[.pointer (some ⟨w.heap.size, 0, none⟩)] #[.pointer (some ⟨w.heap.size, 0, none⟩)] W)
  go_enter Tryz.func47, Tryz.ntmps47
  go_wp2_with fail
  refine ((unhide K) _).mono ?_
  rintro e w1 ⟨b1, b2, rfl, h1, h2, c1, c2, hb⟩
  have hcl := fun w2 hw => num_close (k1 := 105) (k2 := 107) (w2 := w2) (u1 := .func (.func 105) #[] #[.pointer (some ⟨b1, 0, none⟩)]) (u2 := .func (.func 107) #[] #[.pointer (some ⟨b2, 0, none⟩)]) c1 c2 rfl hb hw
  have HCL := hide hcl
  obtain ⟨hc, hf⟩ := bcell hb
  have hz : w.heap.size + 1 < w1.heap.size := by have := hb.size; simp at this; omega
  clear hcl K h1 h2 c1 c2 hb
  go_wp2
  have R := (unhide HCL) _ rfl
  refine bodyPost_ret (v := .agg #[.func (.func 105) #[] #[.pointer (some ⟨b1, 0, none⟩)], .func (.func 107) #[] #[.pointer (some ⟨b2, 0, none⟩)]]) (by simp [results, Tryz.results47, go_sem, hc]) rfl ⟨(_, _), rfl, ⟨R.1, R.2.1⟩, R.2.2⟩
set_option maxHeartbeats 1000000 in
theorem other_mk (p : Nat) (w : World) : Calls Tryz.prog 49 #[.pointer (some ⟨p, 0, none⟩)] w (OneB w p 6) := by
  have hmf : ∀ (fn : Fn) (first cap : Array Value) (w : World), (Instr.makeFunc fn first cap).run Tryz.prog w = .ok (.func fn first cap) w := fun _ _ _ _ => rfl
  have hst : ∀ W a m fn x y, (store a (.func fn x y) m).run Tryz.prog W = stored Tryz.prog W a (.func fn x y) m := fun W a m fn x y => run_store Tryz.prog W a _ m rfl
  have K := hide (fun W => text_mk 92 93 #[.pointer (some ⟨w.heap.size, 0, none⟩)] #[.pointer (some ⟨w.heap.size, 0, none⟩)] W)
  go_enter Tryz.func49, Tryz.ntmps49
  go_wp2_with fail
  refine ((unhide K) _).mono ?_
  rintro e w1 ⟨b1, b2, rfl, h1, h2, c1, c2, hb⟩
  have hcl := fun w2 hw => num_close (k1 := 105) (k2 := 107) (w2 := w2) (u1 := .func (.func 105) #[] #[.pointer (some ⟨b1, 0, none⟩)]) (u2 := .func (.func 107) #[] #[.pointer (some ⟨b2, 0, none⟩)]) c1 c2 rfl hb hw
  have HCL := hide hcl
  obtain ⟨hc, hf⟩ := bcell hb
  have hz : w.heap.size + 1 < w1.heap.size := by have := hb.size; simp at this; omega
  clear hcl K h1 h2 c1 c2 hb
  go_wp2
  have R := (unhide HCL) _ rfl
  refine bodyPost_ret (v := .agg #[.func (.func 105) #[] #[.pointer (some ⟨b1, 0, none⟩)], .func (.func 107) #[] #[.pointer (some ⟨b2, 0, none⟩)]]) (by simp [results, Tryz.results49, go_sem, hc]) rfl ⟨(_, _), rfl, ⟨R.1, R.2.1⟩, R.2.2⟩
set_option maxHeartbeats 1000000 in
theorem list_mk (p : Nat) (w : World) : Calls Tryz.prog 43 #[.pointer (some ⟨p, 0, none⟩)] w (OneB w p 7) := by
  have hmf : ∀ (fn : Fn) (first cap : Array Value) (w : World), (Instr.makeFunc fn first cap).run Tryz.prog w = .ok (.func fn first cap) w := fun _ _ _ _ => rfl
  have hst : ∀ W a m fn x y, (store a (.func fn x y) m).run Tryz.prog W = stored Tryz.prog W a (.func fn x y) m := fun W a m fn x y => run_store Tryz.prog W a _ m rfl
  go_enter Tryz.func43, Tryz.ntmps43
  go_wp2
  refine bodyPost_ret (v := .agg #[.func (.func 76) #[] #[.pointer (some ⟨w.heap.size, 0, none⟩)], .func (.func 77) #[] #[.pointer (some ⟨w.heap.size, 0, none⟩)]]) (by simp [results, Tryz.results43, go_sem]) rfl ⟨(_, _), rfl, ⟨⟨w.heap.size, rfl, ?_⟩, ⟨w.heap.size, rfl, ?_⟩⟩, ?_⟩
  · exact Bxs.alloc _ _ _ _ (Box.new _ _ _ _ rfl (by decide))
  · exact Bxs.alloc _ _ _ _ (Box.new _ _ _ _ rfl (by decide))
  · exact ((Below.refl _ _).alloc (Nat.le_refl _) _).alloc (by simp) _
set_option maxHeartbeats 1000000 in
theorem weight_mk (p : Nat) (w : World) : Calls Tryz.prog 48 #[.pointer (some ⟨p, 0, none⟩)] w (OneB w p 8) := by
  have hmf : ∀ (fn : Fn) (first cap : Array Value) (w : World), (Instr.makeFunc fn first cap).run Tryz.prog w = .ok (.func fn first cap) w := fun _ _ _ _ => rfl
  have hst : ∀ W a m fn x y, (store a (.func fn x y) m).run Tryz.prog W = stored Tryz.prog W a (.func fn x y) m := fun W a m fn x y => run_store Tryz.prog W a _ m rfl
  go_enter Tryz.func48, Tryz.ntmps48
  go_wp2
  refine bodyPost_ret (v := .agg #[.func (.func 88) #[] #[.pointer (some ⟨w.heap.size, 0, none⟩)], .func (.func 90) #[] #[.pointer (some ⟨w.heap.size, 0, none⟩)]]) (by simp [results, Tryz.results48, go_sem]) rfl ⟨(_, _), rfl, ⟨⟨w.heap.size, rfl, ?_⟩, ⟨w.heap.size, rfl, ?_⟩⟩, ?_⟩
  · exact Bxs.alloc _ _ _ _ (Box.new _ _ _ _ rfl (by decide))
  · exact Bxs.alloc _ _ _ _ (Box.new _ _ _ _ rfl (by decide))
  · exact ((Below.refl _ _).alloc (Nat.le_refl _) _).alloc (by simp) _
end Go.Proofs.YtdnkfnccbmbpaaaGreatDoor
/- A span's two parts. -/
namespace Go.Proofs.YtdnkfnccbmbpaaaGreatDoor
open Go.RowKit

theorem Tryz.info61 : (Tryz.prog.info? 61).map (fun i => (i.size, i.bytes)) = some (2, 16) := by kernel_rfl
def fcell (x : Value × Value) : List Value := [x.1, x.2]
def fcells (xs : List (Value × Value)) : List Value := xs.flatMap fcell
theorem fcells_length (xs : List (Value × Value)) : (fcells xs).length = xs.length * 2 := by
  induction xs with
  | nil => rfl
  | cons p ps ih =>
    rw [fcells, List.flatMap_cons, List.length_append] at *
    rw [ih]
    simp [fcell]; omega
theorem fcells_app (xs ys : List (Value × Value)) : fcells xs ++ fcells ys = fcells (xs ++ ys) := by
  rw [fcells, fcells, fcells, List.flatMap_append]
theorem fcells_at : ∀ (ps : List (Value × Value)) (i j : Nat), i < ps.length → j < 2 → (fcells ps)[i * 2 + j]? = (fcell (ps.getD i (undef, undef)))[j]?
  | [], i, j, h, _ => by simp at h
  | p :: ps, 0, j, _, hj => by
    rw [fcells, List.flatMap_cons, List.getElem?_append_left (by simp [fcell]; omega)]; simp
  | p :: ps, i + 1, j, h, hj => by
    have ih := fcells_at ps i j (by simpa using h) hj
    rw [fcells, List.flatMap_cons, List.getElem?_append_right (by simp [fcell]; omega)]
    have e : (i + 1) * 2 + j - (fcell p).length = i * 2 + j := by simp [fcell]; omega
    rw [e]
    exact ih
/-- The parts fs of the record in block p, in memory of the call's own. -/
def Fds (w : World) (B p : Nat) (v : Value) (fs : List Nat) : Prop := ∃ xs : List (Value × Value), xs.length = fs.length ∧ w.ownsRow B 61 2 v xs.length (fcells xs) ∧ ∀ i, i < fs.length → Fd w p (fs.getD i 0) (xs.getD i (undef, undef))
def FdsB (w : World) (p : Nat) (fs : List Nat) (e : Ending) (w' : World) : Prop := ∃ v, e = .returned v ∧ Fds w' w.heap.size p v fs ∧ Below w.heap.size w w'
/-- A new row of fields. -/
theorem row_new (w : World) (B n g : Nat) (hg : g = w.heap.size) (xs : List (Value × Value)) (C : Array Value) (hB : B ≤ w.heap.size) (hn : xs.length = n) (h0 : 0 < n) (hC : C.toList = fcells xs) (hl : n ≤ 10) : (w.alloc (.cells C 61)).ownsRow B 61 2 (.slice (some ⟨g, 0, none⟩) n n) n (fcells xs) := by
  subst hg
  have hsz : C.size = n * 2 := by rw [← Array.length_toList, hC, fcells_length, hn]
  refine ⟨by rw [fcells_length, hn], .inr ⟨w.heap.size, n, C, rfl, hB, ?_, Nat.le_refl _, by unfold maxLen; omega, hsz, ?_⟩⟩
  · show (w.heap.push _)[w.heap.size]? = _
    simp
  · rw [hC, List.take_of_length_le (by rw [fcells_length, hn]; exact Nat.le_refl _)]
set_option maxHeartbeats 2000000 in
theorem span_mk (p : Nat) (w : World) : Calls Tryz.prog 42 #[.pointer (some ⟨p, 0, none⟩)] w (FdsB w p [0, 1]) := by
  have hmf : ∀ (fn : Fn) (first cap : Array Value) (w : World), (Instr.makeFunc fn first cap).run Tryz.prog w = .ok (.func fn first cap) w := fun _ _ _ _ => rfl
  have hst : ∀ W a m fn x y, (store a (.func fn x y) m).run Tryz.prog W = stored Tryz.prog W a (.func fn x y) m := fun W a m fn x y => run_store Tryz.prog W a _ m rfl
  have K1 := hide (fun W => number_any 72 73 #[.pointer (some ⟨w.heap.size, 0, none⟩)] #[.pointer (some ⟨w.heap.size, 0, none⟩)] W)
  have K2 := hide (fun W => number_any 74 75 #[.pointer (some ⟨w.heap.size, 0, none⟩)] #[.pointer (some ⟨w.heap.size, 0, none⟩)] W)
  go_enter Tryz.func42, Tryz.ntmps42
  go_wp2_with fail
  refine ((unhide K1) _).mono ?_
  rintro e1 w1 ⟨b1, b2, rfl, h1, h2, c1, c2, hb1⟩
  go_wp2_with fail
  refine ((unhide K2) _).mono ?_
  rintro e2 w2 ⟨b3, b4, rfl, h3, h4, c3, c4, hb2⟩
  have hs1 : w.heap.size + 1 ≤ w1.heap.size := by simpa using hb1.size
  have hs2 : w1.heap.size + 1 ≤ w2.heap.size := by simpa using hb2.size
  obtain ⟨hc, hf⟩ := bcell hb2
  simp only [World.size_alloc] at h1 h2 h3 h4 hc
  have x0 : ∀ o, (w2.alloc o).cell? ⟨w1.heap.size, 0, none⟩ = some (.func (.func 103) #[] #[.pointer (some ⟨b1, 0, none⟩)]) := fun o => cell_old o (by rw [hc _ _ (by omega)]; simp)
  have x1 : ∀ o, (w2.alloc o).cell? ⟨w1.heap.size, 1, none⟩ = some (.func (.func 104) #[] #[.pointer (some ⟨b2, 0, none⟩)]) := fun o => cell_old o (by rw [hc _ _ (by omega)]; simp)
  have HF : Hid (∀ (o : Obj) (v : Value) (w3 : World), w3.ownsRow w.heap.size 61 2 v 2 (fcells [(.func (.func 103) #[] #[.pointer (some ⟨b1, 0, none⟩)], .func (.func 104) #[] #[.pointer (some ⟨b2, 0, none⟩)]), (.func (.func 103) #[] #[.pointer (some ⟨b3, 0, none⟩)], .func (.func 104) #[] #[.pointer (some ⟨b4, 0, none⟩)])]) → Below (w2.alloc o).heap.size (w2.alloc o) w3 → FdsB w p [0, 1] (.returned v) w3) := by
    intro o v w3 hrow hb3
    have b0 : Below w.heap.size w (w.alloc (.cells #[.pointer (some ⟨p, 0, none⟩)] 57)) := (Below.refl _ _).alloc (Nat.le_refl _) _
    have hB2 : Below w1.heap.size w1 w2 := ((Below.refl w1.heap.size w1).alloc (Nat.le_refl _) _).trans (hb2.mono (by simp))
    have hB3 : Below w2.heap.size w2 w3 := ((Below.refl w2.heap.size w2).alloc (Nat.le_refl _) _).trans (hb3.mono (by simp))
    have hbox : Box w1 w.heap.size (.pointer (some ⟨p, 0, none⟩)) := Bxs.below hb1 _ _ (Box.new _ _ _ _ rfl (by decide))
    have k12 : Bxs w1 w3 := (Bxs.below hB2).trans (Bxs.below hB3)
    refine ⟨v, rfl, ⟨_, rfl, hrow, fun i hi => ?_⟩, bthen (bthen (bthen b0 hb1) hB2) hB3⟩
    match i, hi with
    | 0, _ => exact ⟨⟨b1, rfl, _, k12 _ _ c1, w.heap.size, rfl, k12 _ _ hbox⟩, ⟨b2, rfl, _, k12 _ _ c2, w.heap.size, rfl, k12 _ _ hbox⟩⟩
    | 1, _ => exact ⟨⟨b3, rfl, _, Bxs.below hB3 _ _ c3, w.heap.size, rfl, k12 _ _ hbox⟩, ⟨b4, rfl, _, Bxs.below hB3 _ _ c4, w.heap.size, rfl, k12 _ _ hbox⟩⟩
  clear K1 K2 hb1 hb2 c1 c2 c3 c4 hc hf
  go_wp2
  go_ret
  refine (unhide HF) _ (.slice (some ⟨w2.heap.size + 1, 0, none⟩) 2 2) _ ?_ ((Below.refl _ _).alloc (Nat.le_refl _) _)
  refine row_new _ _ 2 _ (by rw [World.size_alloc]) _ _ ?_ rfl (by omega) ?_ (by omega)
  · rw [World.size_alloc]; omega
  · rfl
end Go.Proofs.YtdnkfnccbmbpaaaGreatDoor
