/- There: what is packed is unpacked as it was: plain. -/
import Derived.Test.YtlmcmlbmnnjjpaaGreatDoorQb8
namespace Go.Proofs.YtlmcmlbmnnjjpaaGreatDoor
open Wi

theorem ru_there (pre rest : List Int) (n most : Int) (h0 : 0 ≤ n) (h1 : n ≤ most) (h2 : most ≤ 9223372036854775807) : Pk.ru (pre ++ (Ref.uint n ++ rest)) pre.length most = (n, (pre.length : Int) + (Ref.uint n).length, 0) := by
  unfold Pk.ru
  rw [rd_at pre rest n h0 (by omega)]
  simp only [ne_eq, not_true_eq_false, if_false]
  rw [if_neg (by omega)]
theorem rt_there (pre rest : List Int) (s : ByteArray) (most : Int) (hs : (s.size : Int) ≤ most) (hm : most ≤ 1000) : Ref.rt (pre ++ ((Ref.uint s.size ++ Wi.nums s) ++ rest)) pre.length most = (Wi.nums s, (pre.length : Int) + (Ref.uint s.size ++ Wi.nums s).length, 0) := by
  have hr := rd_at pre (Wi.nums s ++ rest) s.size (by omega) (by omega)
  rw [show Ref.uint (s.size : Int) ++ (Wi.nums s ++ rest) = Ref.uint (s.size : Int) ++ Wi.nums s ++ rest from (List.append_assoc _ _ _).symm] at hr
  rw [Ref.rt, if_neg (by omega), hr]
  simp only [ne_eq, not_true_eq_false, if_false]
  rw [if_neg (by omega), if_neg (by simp [Wi.nums_length]; omega)]
  have e1 : ((pre.length : Int) + (Ref.uint s.size).length).toNat = (pre ++ Ref.uint s.size).length := by rw [List.length_append]; omega
  have e2 : pre ++ (Ref.uint s.size ++ Wi.nums s ++ rest) = (pre ++ Ref.uint s.size) ++ (Wi.nums s ++ rest) := by simp
  rw [e1, e2, List.drop_left', Int.toNat_natCast, List.take_left' (Wi.nums_length s)]
  · simp [Wi.nums_length, Int.add_assoc]
  · rfl
theorem fval_fl (u : Nat) (h : u < 18446744073709551616) : Ref.fval (Ref.fl u) = (u : Int) := by
  simp only [Ref.fl, List.range, List.range.loop, List.map_cons, List.map_nil, Ref.fval, Ref.byteAt]
  omega
theorem rf_there (pre rest : List Int) (u : Nat) (h : u < 18446744073709551616) : Ref.rf (pre ++ (Ref.fl u ++ rest)) pre.length = ((u : Int), (pre.length : Int) + 8, 0) := by
  have hl := Ref.fl_length u
  unfold Ref.rf
  rw [if_neg (by simp; omega), if_neg (by simp [hl]; omega), Int.toNat_natCast, List.drop_left', List.take_left' hl, fval_fl u h]
  · rfl
theorem rl_there : ∀ (l pre rest acc : List Int), (∀ c ∈ l, 0 ≤ c ∧ c ≤ 1114111) → Pk.rl (pre ++ (l.flatMap Ref.uint ++ rest)) l.length pre.length acc = (acc ++ l, (pre.length : Int) + (l.flatMap Ref.uint).length, 0)
  | [], pre, rest, acc, _ => by simp [Pk.rl]
  | c :: l, pre, rest, acc, h => by
    have hc := h c (by simp)
    have e : pre ++ ((c :: l).flatMap Ref.uint ++ rest) = pre ++ (Ref.uint c ++ (l.flatMap Ref.uint ++ rest)) := by simp
    have hr := ru_there pre (l.flatMap Ref.uint ++ rest) c 1114111 hc.1 hc.2 (by omega)
    rw [e, List.length_cons, rl_step _ _ _ _ (by rw [hr]), hr]
    have e2 : pre ++ (Ref.uint c ++ (l.flatMap Ref.uint ++ rest)) = (pre ++ Ref.uint c) ++ (l.flatMap Ref.uint ++ rest) := by simp
    have ih := rl_there l (pre ++ Ref.uint c) rest (acc ++ [c]) (fun d hd => h d (by simp [hd]))
    rw [e2]
    simp only
    rw [show ((pre.length : Int) + (Ref.uint c).length) = ((pre ++ Ref.uint c).length : Int) by rw [List.length_append]; omega, ih]
    simp [Int.add_assoc]
/-- What a part is read into. -/
def updr (r : Rec) (x : Rec) : Nat → Rec
  | 0 => { x with lo := r.lo }
  | 1 => { x with hi := x.lo + (r.hi - r.lo) }
  | 2 => { x with lo := r.lo, hi := r.lo }
  | 3 => { x with n := r.n }
  | 4 => reTo x [r.to.getD 0 0]
  | 5 => { x with name := r.name }
  | 6 => { x with other := r.other }
  | 7 => reTo x (x.to ++ r.to)
  | _ => { x with wt := r.wt }
/-- What a part wants of a record to come back. -/
def Cok (r : Rec) : Nat → Prop
  | 0 => 0 ≤ r.lo ∧ r.lo ≤ 1114111
  | 1 => 0 ≤ r.lo ∧ r.lo ≤ r.hi ∧ r.hi ≤ 1114111
  | 2 => 0 ≤ r.lo ∧ r.lo ≤ 1114111
  | 3 => 0 ≤ r.n ∧ r.n ≤ 1114111
  | 4 => 0 ≤ r.to.getD 0 0 ∧ r.to.getD 0 0 ≤ 1114111
  | 5 => r.name.size ≤ 4
  | 6 => r.other.size ≤ 4
  | 7 => r.to.length ≤ 24 ∧ ∀ c ∈ r.to, 0 ≤ c ∧ c ≤ 1114111
  | _ => r.wt < 18446744073709551616
theorem rn_there (pre rest : List Int) (x : Rec) (g : Int → Rec) (n : Int) (h0 : 0 ≤ n) (h1 : n ≤ 1114111) : Pk.rn (pre ++ (Ref.uint n ++ rest)) pre.length x g = (g n, (pre.length : Int) + (Ref.uint n).length, 0) := by
  unfold Pk.rn
  rw [ru_there pre rest n 1114111 h0 h1 (by omega)]
  simp
theorem rs_there (pre rest : List Int) (x : Rec) (g : ByteArray → Rec) (s : ByteArray) (h : s.size ≤ 4) : Pk.rs (pre ++ ((Ref.uint s.size ++ Wi.nums s) ++ rest)) pre.length x g = (g s, (pre.length : Int) + (Ref.uint s.size ++ Wi.nums s).length, 0) := by
  unfold Pk.rs
  rw [rt_there pre rest s 4 (by omega) (by omega)]
  simp [Wi.strOf_nums]
theorem fr_there (pre rest : List Int) (r x : Rec) (f : Nat) (h : Cok r f) : Pk.fr (pre ++ (Pk.fb r f ++ rest)) pre.length x f = (updr r x f, (pre.length : Int) + (Pk.fb r f).length, 0) := by
  match f, h with
  | 0, h => exact rn_there pre rest x (fun n => { x with lo := n }) r.lo h.1 h.2
  | 1, h => exact rn_there pre rest x (fun n => { x with hi := x.lo + n }) (r.hi - r.lo) (by have := h.2.1; omega) (by have := h.1; have := h.2.2; omega)
  | 2, h => exact rn_there pre rest x (fun n => { x with lo := n, hi := n }) r.lo h.1 h.2
  | 3, h => exact rn_there pre rest x (fun n => { x with n := n }) r.n h.1 h.2
  | 4, h => exact rn_there pre rest x (fun n => reTo x [n]) (r.to.getD 0 0) h.1 h.2
  | 5, h => exact rs_there pre rest x (fun s => { x with name := s }) r.name h
  | 6, h => exact rs_there pre rest x (fun s => { x with other := s }) r.other h
  | 7, h =>
    have hl : (r.to.length : Int) ≤ 24 := by have := h.1; omega
    have e1 : pre ++ (Pk.fb r 7 ++ rest) = pre ++ (Ref.uint r.to.length ++ (r.to.flatMap Ref.uint ++ rest)) := by simp [Pk.fb]
    have e2 : pre ++ (Ref.uint r.to.length ++ (r.to.flatMap Ref.uint ++ rest)) = (pre ++ Ref.uint r.to.length) ++ (r.to.flatMap Ref.uint ++ rest) := by simp
    rw [fr7, e1, ru_there pre (r.to.flatMap Ref.uint ++ rest) r.to.length 24 (by omega) hl (by omega)]
    simp only [ne_eq, not_true_eq_false, if_false, Int.toNat_natCast]
    rw [e2, show ((pre.length : Int) + (Ref.uint (r.to.length : Int)).length) = ((pre ++ Ref.uint (r.to.length : Int)).length : Int) by rw [List.length_append]; omega, rl_there r.to _ rest x.to h.2]
    simp [updr, Pk.fb, Int.add_assoc]
  | n + 8, h =>
    rw [fr8, show Pk.fb r (n + 8) = Ref.fl r.wt from rfl, rf_there pre rest r.wt h, Ref.fl_length]
    simp [updr]
theorem frs_there (r : Rec) : ∀ (fs : List Nat) (pre rest : List Int) (x : Rec), (∀ f ∈ fs, Cok r f) → Pk.frs (pre ++ (fs.flatMap (Pk.fb r) ++ rest)) fs pre.length x = (fs.foldl (updr r) x, (pre.length : Int) + (fs.flatMap (Pk.fb r)).length, 0)
  | [], pre, rest, x, _ => by simp [Pk.frs]
  | f :: fs, pre, rest, x, h => by
    have e : pre ++ ((f :: fs).flatMap (Pk.fb r) ++ rest) = pre ++ (Pk.fb r f ++ (fs.flatMap (Pk.fb r) ++ rest)) := by simp
    have e2 : pre ++ (Pk.fb r f ++ (fs.flatMap (Pk.fb r) ++ rest)) = (pre ++ Pk.fb r f) ++ (fs.flatMap (Pk.fb r) ++ rest) := by simp
    have hr := fr_there pre (fs.flatMap (Pk.fb r) ++ rest) r x f (h f (by simp))
    have ih := frs_there r fs (pre ++ Pk.fb r f) rest (updr r x f) (fun g hg => h g (by simp [hg]))
    rw [e, Pk.frs, hr]
    simp only [ne_eq, not_true_eq_false, if_false]
    rw [e2, show ((pre.length : Int) + (Pk.fb r f).length) = ((pre ++ Pk.fb r f).length : Int) by rw [List.length_append]; omega, ih]
    simp [Int.add_assoc]
end Go.Proofs.YtlmcmlbmnnjjpaaGreatDoor
