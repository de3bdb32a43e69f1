import Derived.Test.YtceflkeaenepcaaGreatDoorN1
import Derived.Handy
import Derived.KernelRfl
namespace Go.Proofs.YtceflkeaenepcaaGreatDoor
structure Rec where
  kind : Int
  lo : Int
  hi : Int
  n : Int
  to : List Int
  name : ByteArray
  other : ByteArray
  wt : Nat
namespace Cn
def none : Rec := ⟨0, 0, 0, 0, [], ⟨#[]⟩, ⟨#[]⟩, 0⟩
def fam (k : Int) : Int :=
  if k < 1 ∨ 15 < k then 0 else if k ≤ 5 then 1 else if k = 6 then 2 else if k ≤ 8 then 3 else k - 5
def step (r : Rec) : Int := if r.kind = 4 then max r.n 0 else 1
def speaks (r : Rec) (c : Int) : Bool := decide (r.kind ≠ 15 ∧ 0 < step r ∧ 0 ≤ c ∧ c ≤ 1114111 ∧ r.lo ≤ c ∧ c ≤ r.hi ∧ (c - r.lo) % step r = 0)
def findA (f c : Int) : Nat → List Rec → Int
  | _, [] => -1
  | i, r :: l => if fam r.kind = f ∧ speaks r c = true then (i : Int) else findA f c (i + 1) l
def find (l : List Rec) (f c : Int) : Int := if f = 10 ∨ f = 0 then -1 else findA f c 0 l
def hit (l : List Rec) (f c : Int) : Option Rec := if find l f c < 0 then Option.none else some (l.getD (find l f c).toNat none)
def cls (l : List Rec) (c : Int) : Int := match hit l 2 c with | some r => r.n | Option.none => 0
def syl (c : Int) : Bool := decide (44032 ≤ c ∧ c ≤ 55203)
def opn (l : List Rec) (c : Int) : List Int :=
  if syl c then (if (c - 44032) % 28 = 0 then [4352 + (c - 44032) / 588, 4449 + (c - 44032) / 28 % 21] else [c - (c - 44032) % 28, 4519 + (c - 44032) % 28])
  else match hit l 3 c with | some r => r.to | Option.none => []
def prim (l : List Rec) (c : Int) : Option (Int × Int) :=
  if syl c then some ((opn l c).getD 0 0, (opn l c).getD 1 0)
  else match hit l 3 c with
    | some r => if r.kind = 7 ∧ r.to.length = 2 then some (r.to.getD 0 0, r.to.getD 1 0) else Option.none
    | Option.none => Option.none
theorem fam_small (k : Int) : 0 ≤ fam k ∧ fam k ≤ 10 := by
  unfold fam
  split
  · omega
  · split
    · omega
    · split
      · omega
      · split <;> omega
theorem findA_step {l : List Rec} {f c : Int} {k : Nat} (hk : k < l.length) : findA f c k (l.drop k) = if fam (l.getD k none).kind = f ∧ speaks (l.getD k none) c = true then (k : Int) else findA f c (k + 1) (l.drop (k + 1)) := by
  rw [List.drop_eq_getElem_cons hk, findA]
  simp [List.getD, hk]
theorem findA_bound (f c : Int) : ∀ (l : List Rec) (k : Nat), findA f c k l = -1 ∨ ((k : Int) ≤ findA f c k l ∧ findA f c k l < k + l.length)
  | [], _ => .inl rfl
  | r :: l, k => by
    rw [findA]
    split
    · exact .inr ⟨by omega, by simp; omega⟩
    · rcases findA_bound f c l (k + 1) with h | ⟨h1, h2⟩
      · exact .inl h
      · exact .inr ⟨by omega, by simp; omega⟩
theorem find_bound (l : List Rec) (f c : Int) : find l f c = -1 ∨ (0 ≤ find l f c ∧ find l f c < l.length) := by
  unfold find
  split
  · exact .inl rfl
  · rcases findA_bound f c l 0 with h | ⟨h1, h2⟩
    · exact .inl h
    · exact .inr ⟨by omega, by omega⟩
end Cn
end Go.Proofs.YtceflkeaenepcaaGreatDoor
namespace Go.Proofs.YtceflkeaenepcaaGreatDoor
open Go.RowKit
def I64 (n : Int) : Prop := -9223372036854775808 ≤ n ∧ n ≤ 9223372036854775807
structure RecFit (r : Rec) : Prop where
  kind : I64 r.kind
  lo : I64 r.lo
  hi : I64 r.hi
  n : I64 r.n
  len : r.to.length ≤ 1000000000
  wt : r.wt < 18446744073709551616
structure RecAt (w : World) (b o : Nat) (r : Rec) : Prop where
  kind : w.cell? ⟨b, o, none⟩ = some (.int .i64 r.kind)
  lo : w.cell? ⟨b, o + 1, none⟩ = some (.int .i64 r.lo)
  hi : w.cell? ⟨b, o + 2, none⟩ = some (.int .i64 r.hi)
  n : w.cell? ⟨b, o + 3, none⟩ = some (.int .i64 r.n)
  to : ∃ v, w.cell? ⟨b, o + 4, none⟩ = some v ∧ Sk .i32 w v r.to
  name : w.cell? ⟨b, o + 5, none⟩ = some (.string r.name)
  other : w.cell? ⟨b, o + 6, none⟩ = some (.string r.other)
  wt : w.cell? ⟨b, o + 7, none⟩ = some (.float .f64 r.wt)
theorem RecAt.below {w w' : World} {b o : Nat} {r : Rec} (h : RecAt w b o r) (hb : Below w.heap.size w w') : RecAt w' b o r := by
  obtain ⟨h0, h1, h2, h3, ⟨v, h4, h5⟩, h6, h7, h8⟩ := h
  exact ⟨by rw [hb.cell (lt_of_cell? h0)]; exact h0, by rw [hb.cell (lt_of_cell? h1)]; exact h1, by rw [hb.cell (lt_of_cell? h2)]; exact h2, by rw [hb.cell (lt_of_cell? h3)]; exact h3,
    ⟨v, by rw [hb.cell (lt_of_cell? h4)]; exact h4, h5.below hb⟩, by rw [hb.cell (lt_of_cell? h6)]; exact h6, by rw [hb.cell (lt_of_cell? h7)]; exact h7, by rw [hb.cell (lt_of_cell? h8)]; exact h8⟩
def Rcs (w : World) (v : Value) (rs : List Rec) : Prop := rs.length ≤ 1000000000 ∧ (∀ r ∈ rs, RecFit r) ∧
  ((rs = [] ∧ ∃ ao cap, v = .slice ao 0 cap ∧ cap ≤ 9223372036854775807) ∨
    ∃ b off cap, v = .slice (some ⟨b, off, none⟩) rs.length cap ∧ rs.length ≤ cap ∧ cap ≤ 9223372036854775807 ∧ ∀ i, i < rs.length → RecAt w b (off + i * 8) (rs.getD i Cn.none))
theorem Rcs.below {w w' : World} {v : Value} {rs : List Rec} (h : Rcs w v rs) (hb : Below w.heap.size w w') : Rcs w' v rs := by
  obtain ⟨h1, h2, h3⟩ := h
  refine ⟨h1, h2, ?_⟩
  rcases h3 with h3 | ⟨b, off, cap, hv, hl, hm, hc⟩
  · exact .inl h3
  · exact .inr ⟨b, off, cap, hv, hl, hm, fun i hi => (hc i hi).below hb⟩
theorem Rcs.shape {w : World} {v : Value} {rs : List Rec} (h : Rcs w v rs) : ∃ ao cap, v = .slice ao rs.length cap ∧ rs.length ≤ cap ∧ cap ≤ 9223372036854775807 := by
  rcases h.2.2 with ⟨rfl, ao, cap, hv, hm⟩ | ⟨b, off, cap, hv, hl, hm, _⟩
  · exact ⟨ao, cap, hv, by simp, hm⟩
  · exact ⟨_, cap, hv, hl, hm⟩
theorem Rcs.place {w : World} {v : Value} {rs : List Rec} (h : Rcs w v rs) (hne : 0 < rs.length) : ∃ b off cap, v = .slice (some ⟨b, off, none⟩) rs.length cap ∧ rs.length ≤ cap ∧ cap ≤ 9223372036854775807 ∧ ∀ i, i < rs.length → RecAt w b (off + i * 8) (rs.getD i Cn.none) := by
  rcases h.2.2 with ⟨rfl, _⟩ | h
  · simp at hne
  · exact h
theorem Rcs.fit {w : World} {v : Value} {rs : List Rec} (h : Rcs w v rs) {i : Nat} (hi : i < rs.length) : RecFit (rs.getD i Cn.none) := h.2.1 _ (by simp [List.getD, hi])
theorem Rcs.head {w : World} {ao : Option Addr} {len cap k : Nat} {rs : List Rec} (h : Rcs w (.slice ao len cap) rs) (hk : k ≤ len) : Rcs w (.slice ao k cap) (rs.take k) := by
  obtain ⟨h1, h2, h3⟩ := h
  refine ⟨by simp; omega, fun r hr => h2 r (List.mem_of_mem_take hr), ?_⟩
  rcases h3 with ⟨rfl, ao', cap', hv, hm⟩ | ⟨b, off, cap', hv, hl, hm, hc⟩
  · simp only [Value.slice.injEq] at hv
    obtain ⟨rfl, rfl, rfl⟩ := hv
    obtain rfl : k = 0 := by omega
    exact .inl ⟨by simp, _, _, rfl, hm⟩
  · simp only [Value.slice.injEq] at hv
    obtain ⟨rfl, rfl, rfl⟩ := hv
    have hkl : (rs.take k).length = k := by simp; omega
    refine .inr ⟨b, off, cap, by rw [hkl], by omega, hm, fun i hi => ?_⟩
    rw [hkl] at hi
    have := hc i (by omega)
    rw [show (rs.take k).getD i Cn.none = rs.getD i Cn.none by simp [List.getD, List.getElem?_take_of_lt hi]]
    exact this
end Go.Proofs.YtceflkeaenepcaaGreatDoor
namespace Go.Proofs.YtceflkeaenepcaaGreatDoor
open Go.RowKit
def recV (r : Rec) (vt : Value) : Value := .agg #[.int .i64 r.kind, .int .i64 r.lo, .int .i64 r.hi, .int .i64 r.n, vt, .string r.name, .string r.other, .float .f64 r.wt]
def IntB (w : World) (n : Int) (e : Ending) (w' : World) : Prop := e = .returned (.int .i64 n) ∧ Below w.heap.size w w'
def BoolB (w : World) (b : Bool) (e : Ending) (w' : World) : Prop := e = .returned (.bool b) ∧ Below w.heap.size w w'
def famsV : Value := .agg #[.int .i64 0, .int .i64 1, .int .i64 1, .int .i64 1, .int .i64 1, .int .i64 1, .int .i64 2, .int .i64 3, .int .i64 3, .int .i64 4, .int .i64 5, .int .i64 6, .int .i64 7, .int .i64 8, .int .i64 9, .int .i64 10]
theorem u64_diff {c lo : Int} (h0 : 0 ≤ c) (h1 : c ≤ 1114111) (h2 : lo ≤ c) (h3 : -9223372036854775808 ≤ lo) : ∃ L, IntKind.u64.wrap lo = L ∧ IntKind.u64.wrap (c - L) = c - lo := by
  refine ⟨_, rfl, ?_⟩
  by_cases hn : 0 ≤ lo
  · rw [IntWalk.u64_in lo ⟨by omega, by omega⟩, IntWalk.u64_in _ ⟨by omega, by omega⟩]
  · have e : IntKind.u64.wrap lo = lo + 18446744073709551616 := by
      unfold IntKind.wrap
      have hb : (2 : Int) ^ IntKind.u64.bits = 18446744073709551616 := by decide
      rw [hb]
      simp [IntKind.signed]
      omega
    rw [e]
    unfold IntKind.wrap
    have hb : (2 : Int) ^ IntKind.u64.bits = 18446744073709551616 := by decide
    rw [hb]
    simp [IntKind.signed]
    omega
end Go.Proofs.YtceflkeaenepcaaGreatDoor
namespace Go.Proofs.YtceflkeaenepcaaGreatDoor
open Go.RowKit
structure Row9 where
  word : ByteArray
  fam : Int
  least : Int
  most : Int
  low : Int
  high : Int
  said : ByteArray
  scr : Int
  wei : Bool
namespace Cn
def txt (s : String) : ByteArray := s.toUTF8
def rowT : Nat → Row9
  | 1 => ⟨txt "valid", 1, 0, 0, 0, 0, ⟨#[]⟩, 0, false⟩
  | 2 => ⟨txt "ignored", 1, 0, 0, 0, 0, ⟨#[]⟩, 0, false⟩
  | 3 => ⟨txt "mapped", 1, 1, 24, 0, 0, ⟨#[]⟩, 0, false⟩
  | 4 => ⟨txt "shift", 1, 1, 1, 1, 64, ⟨#[]⟩, 0, false⟩
  | 5 => ⟨txt "deviation", 1, 0, 24, 0, 0, ⟨#[]⟩, 0, false⟩
  | 6 => ⟨txt "class", 2, 0, 0, 1, 254, ⟨#[]⟩, 0, false⟩
  | 7 => ⟨txt "decomp", 3, 2, 2, 0, 0, ⟨#[]⟩, 0, false⟩
  | 8 => ⟨txt "opens", 3, 1, 2, 0, 0, ⟨#[]⟩, 0, false⟩
  | 9 => ⟨txt "bidi", 4, 0, 0, 0, 10, txt "L R AL AN EN ES CS ET ON BN NSM", 0, false⟩
  | 10 => ⟨txt "join", 5, 0, 0, 0, 5, txt "U R L D C T", 0, false⟩
  | 11 => ⟨txt "mark", 6, 0, 0, 0, 0, ⟨#[]⟩, 0, false⟩
  | 12 => ⟨txt "script", 7, 0, 0, 0, 0, ⟨#[]⟩, 1, false⟩
  | 13 => ⟨txt "looks", 8, 1, 24, 0, 0, ⟨#[]⟩, 0, false⟩
  | 14 => ⟨txt "weight", 9, 0, 0, 0, 0, ⟨#[]⟩, 0, true⟩
  | 15 => ⟨txt "mix", 10, 0, 0, 0, 0, ⟨#[]⟩, 2, true⟩
  | _ => ⟨⟨#[]⟩, 0, 0, 0, 0, 0, ⟨#[]⟩, 0, false⟩
def rowK (k : Int) : Row9 := if k < 0 ∨ 16 ≤ k then rowT 0 else rowT k.toNat
theorem rowK_fam (k : Int) : (rowK k).fam = fam k := by
  unfold rowK
  split
  · next h =>
    unfold fam
    rw [if_pos (by omega)]
    rfl
  · next h =>
    obtain ⟨n, rfl⟩ : ∃ n : Nat, k = n := ⟨k.toNat, by omega⟩
    have hn : n < 16 := by omega
    rw [Int.toNat_natCast]
    have : ∀ n, n < 16 → (rowT n).fam = fam n := by decide
    exact this n hn
end Cn
structure RowAt (w : World) (o : Nat) (r : Row9) : Prop where
  c0 : w.cell? ⟨0, o, none⟩ = some (.string r.word)
  c1 : w.cell? ⟨0, o + 1, none⟩ = some (.int .i64 r.fam)
  c2 : w.cell? ⟨0, o + 2, none⟩ = some (.int .i64 r.least)
  c3 : w.cell? ⟨0, o + 3, none⟩ = some (.int .i64 r.most)
  c4 : w.cell? ⟨0, o + 4, none⟩ = some (.int .i64 r.low)
  c5 : w.cell? ⟨0, o + 5, none⟩ = some (.int .i64 r.high)
  c6 : w.cell? ⟨0, o + 6, none⟩ = some (.string r.said)
  c7 : w.cell? ⟨0, o + 7, none⟩ = some (.int .i64 r.scr)
  c8 : w.cell? ⟨0, o + 8, none⟩ = some (.bool r.wei)
def Glob (w : World) : Prop := ∀ k, k < 16 → RowAt w (k * 9) (Cn.rowT k)
theorem Glob.on {w w' : World} (h : Glob w) (hb : Below w.heap.size w w') : Glob w' := fun k hk => by
  obtain ⟨h0, h1, h2, h3, h4, h5, h6, h7, h8⟩ := h k hk
  exact ⟨by rw [hb.cell (lt_of_cell? h0)]; exact h0, by rw [hb.cell (lt_of_cell? h1)]; exact h1, by rw [hb.cell (lt_of_cell? h2)]; exact h2, by rw [hb.cell (lt_of_cell? h3)]; exact h3, by rw [hb.cell (lt_of_cell? h4)]; exact h4,
    by rw [hb.cell (lt_of_cell? h5)]; exact h5, by rw [hb.cell (lt_of_cell? h6)]; exact h6, by rw [hb.cell (lt_of_cell? h7)]; exact h7, by rw [hb.cell (lt_of_cell? h8)]; exact h8⟩
def rowV (r : Row9) : Value := .agg #[.string r.word, .int .i64 r.fam, .int .i64 r.least, .int .i64 r.most, .int .i64 r.low, .int .i64 r.high, .string r.said, .int .i64 r.scr, .bool r.wei]
def shV (k : Int) : Value := .agg #[.int .i64 k]
set_option maxRecDepth 8000 in
set_option maxHeartbeats 2000000 in
theorem row_any (k : Int) (w : World) (hg : Glob w) (hk : I64 k) : Calls Tryz.prog 41 #[shV k] w (fun e w' => e = .returned (rowV (Cn.rowK k)) ∧ Below w.heap.size w w') := by
  obtain ⟨k0, k1⟩ := hk
  have hb : Below w.heap.size w ((w.alloc (.cells #[.int .i64 k] 60)).alloc (.cells #[.string ⟨#[]⟩, .int .i64 0, .int .i64 0, .int .i64 0, .int .i64 0, .int .i64 0, .string ⟨#[]⟩, .int .i64 0, .bool false] 99)) := ((Below.refl _ _).alloc (Nat.le_refl _) _).alloc (by simp) _
  unfold shV Cn.rowK
  by_cases h : k < 0
  · rw [if_pos (.inl h)]
    clear hg
    go_enter Tryz.func41, Tryz.ntmps41
    go_wp2
    go_returns
    exact ⟨rfl, hb⟩
  · by_cases h2 : 16 ≤ k
    · rw [if_pos (.inr h2)]
      clear hg
      go_enter Tryz.func41, Tryz.ntmps41
      go_wp2
      go_returns
      exact ⟨rfl, hb⟩
    · rw [if_neg (by omega)]
      obtain ⟨n, rfl⟩ : ∃ n : Nat, k = n := ⟨k.toNat, by omega⟩
      rw [Int.toNat_natCast]
      have hn : n < 16 := by omega
      have hb2 := Below.refl w.heap.size w
      obtain ⟨x0, x1, x2, x3, x4, x5, x6, x7, x8⟩ := (hg.on hb) n hn
      clear hg
      generalize Cn.rowT n = r at *
      have HF : ∀ W, Below w.heap.size w W → Below w.heap.size w W := fun W h => h
      go_enter Tryz.func41, Tryz.ntmps41
      go_wp2
      go_returns
      exact ⟨rfl, ((Below.refl _ _).alloc (Nat.le_refl _) _).alloc (by simp) _⟩
theorem fld1 (r : Row9) (w : World) : (Instr.field 99 (.agg #[.string r.word, .int .i64 r.fam, .int .i64 r.least, .int .i64 r.most, .int .i64 r.low, .int .i64 r.high, .string r.said, .int .i64 r.scr, .bool r.wei]) 1).run Tryz.prog w = .ok (.int .i64 r.fam) w := by kernel_rfl
theorem fld2 (r : Row9) (w : World) : (Instr.field 99 (.agg #[.string r.word, .int .i64 r.fam, .int .i64 r.least, .int .i64 r.most, .int .i64 r.low, .int .i64 r.high, .string r.said, .int .i64 r.scr, .bool r.wei]) 2).run Tryz.prog w = .ok (.int .i64 r.least) w := by kernel_rfl
theorem fld3 (r : Row9) (w : World) : (Instr.field 99 (.agg #[.string r.word, .int .i64 r.fam, .int .i64 r.least, .int .i64 r.most, .int .i64 r.low, .int .i64 r.high, .string r.said, .int .i64 r.scr, .bool r.wei]) 3).run Tryz.prog w = .ok (.int .i64 r.most) w := by kernel_rfl
theorem fld4 (r : Row9) (w : World) : (Instr.field 99 (.agg #[.string r.word, .int .i64 r.fam, .int .i64 r.least, .int .i64 r.most, .int .i64 r.low, .int .i64 r.high, .string r.said, .int .i64 r.scr, .bool r.wei]) 4).run Tryz.prog w = .ok (.int .i64 r.low) w := by kernel_rfl
theorem fld5 (r : Row9) (w : World) : (Instr.field 99 (.agg #[.string r.word, .int .i64 r.fam, .int .i64 r.least, .int .i64 r.most, .int .i64 r.low, .int .i64 r.high, .string r.said, .int .i64 r.scr, .bool r.wei]) 5).run Tryz.prog w = .ok (.int .i64 r.high) w := by kernel_rfl
theorem fld7 (r : Row9) (w : World) : (Instr.field 99 (.agg #[.string r.word, .int .i64 r.fam, .int .i64 r.least, .int .i64 r.most, .int .i64 r.low, .int .i64 r.high, .string r.said, .int .i64 r.scr, .bool r.wei]) 7).run Tryz.prog w = .ok (.int .i64 r.scr) w := by kernel_rfl
theorem fld8 (r : Row9) (w : World) : (Instr.field 99 (.agg #[.string r.word, .int .i64 r.fam, .int .i64 r.least, .int .i64 r.most, .int .i64 r.low, .int .i64 r.high, .string r.said, .int .i64 r.scr, .bool r.wei]) 8).run Tryz.prog w = .ok (.bool r.wei) w := by kernel_rfl
set_option maxRecDepth 8000 in
set_option maxHeartbeats 1000000 in
theorem sharedFam_any (k : Int) (w : World) (hg : Glob w) (hk : I64 k) : Calls Tryz.prog 27 #[shV k] w (IntB w (Cn.fam k)) := by
  have hb : Below w.heap.size w (w.alloc (.cells #[.int .i64 k] 60)) := (Below.refl _ _).alloc (Nat.le_refl _) _
  have K := hide (row_any k (w.alloc (.cells #[.int .i64 k] 60)) (hg.on hb) hk)
  rw [← Cn.rowK_fam]
  generalize Cn.rowK k = r at *
  have f1 := fld1 r
  clear hg
  unfold shV rowV at *
  go_enter Tryz.func27, Tryz.ntmps27
  go_wp2_with fail
  refine (unhide K).mono ?_
  rintro e w1 ⟨rfl, hb1⟩
  have HF : IntB w r.fam (.returned (.int .i64 r.fam)) w1 := ⟨rfl, bthen hb hb1⟩
  clear K hb hb1
  go_wp2
  go_ret
  exact HF
set_option maxRecDepth 8000 in
set_option maxHeartbeats 1000000 in
theorem family_any (k : Int) (w : World) (hg : Glob w) (hk : I64 k) : Calls Tryz.prog 14 #[.int .i64 k] w (IntB w (Cn.fam k)) := by
  have K := hide (sharedFam_any k w hg hk)
  generalize Cn.fam k = f at *
  unfold shV at K
  clear hg
  go_enter Tryz.func14, Tryz.ntmps14
  go_wp2_with fail
  refine (unhide K).mono ?_
  rintro e w1 ⟨rfl, hb1⟩
  clear K
  go_wp2
  go_ret
  exact ⟨rfl, hb1⟩
def shape (k : Int) : Value := .iface (if k = 4 then 75 else if k = 5 ∨ k = 7 ∨ k = 8 ∨ k = 13 then 76 else if k = 15 then 77 else 73) (shV k)
set_option maxHeartbeats 2000000 in
theorem shapeOf_any (k : Int) (w : World) (hk : I64 k) : Calls Tryz.prog 22 #[.int .i64 k] w (fun e w' => e = .returned (shape k) ∧ Below w.heap.size w w') := by
  have hb : Below w.heap.size w (w.alloc (.cells #[.int .i64 k] 60)) := (Below.refl _ _).alloc (Nat.le_refl _) _
  unfold shape shV
  obtain ⟨k0, k1⟩ := hk
  by_cases h4 : k = 4
  · subst h4
    go_enter Tryz.func22, Tryz.ntmps22
    go_wp2
    go_ret
    exact ⟨rfl, hb⟩
  · by_cases h5 : k = 5 ∨ k = 7 ∨ k = 8 ∨ k = 13
    · rcases h5 with rfl | rfl | rfl | rfl
      all_goals
        go_enter Tryz.func22, Tryz.ntmps22
        go_wp2
        go_ret
        exact ⟨rfl, hb⟩
    · by_cases h15 : k = 15
      · subst h15
        go_enter Tryz.func22, Tryz.ntmps22
        go_wp2
        go_ret
        exact ⟨rfl, hb⟩
      · rw [if_neg h4, if_neg h5, if_neg h15]
        have q4 : (k == 4) = false := beq_eq_false_iff_ne.2 h4
        have q5 : (k == 5) = false := beq_eq_false_iff_ne.2 (by omega)
        have q7 : (k == 7) = false := beq_eq_false_iff_ne.2 (by omega)
        have q8 : (k == 8) = false := beq_eq_false_iff_ne.2 (by omega)
        have q13 : (k == 13) = false := beq_eq_false_iff_ne.2 (by omega)
        have q15 : (k == 15) = false := beq_eq_false_iff_ne.2 h15
        clear h4 h5 h15
        go_enter Tryz.func22, Tryz.ntmps22
        go_wp2
        go_ret
        exact ⟨rfl, hb⟩
/-! What a call through a kind's shape comes to. -/
theorem mFamilyShifted (k : Int) (w : World) : (method 543 75 (.agg #[.int .i64 k]) "endonym/table.family").run Tryz.prog w = .ok (27, .agg #[.int .i64 k]) w := by kernel_rfl
theorem mPlacedShifted (k : Int) (w : World) : (method 543 75 (.agg #[.int .i64 k]) "endonym/table.placed").run Tryz.prog w = .ok (381, .agg #[.int .i64 k]) w := by kernel_rfl
theorem mTargetedShifted (k : Int) (w : World) : (method 543 75 (.agg #[.int .i64 k]) "endonym/table.targeted").run Tryz.prog w = .ok (126, .agg #[.int .i64 k]) w := by kernel_rfl
theorem mNumberedShifted (k : Int) (w : World) : (method 543 75 (.agg #[.int .i64 k]) "endonym/table.numbered").run Tryz.prog w = .ok (123, .agg #[.int .i64 k]) w := by kernel_rfl
theorem mNamedShifted (k : Int) (w : World) : (method 543 75 (.agg #[.int .i64 k]) "endonym/table.named").run Tryz.prog w = .ok (121, .agg #[.int .i64 k]) w := by kernel_rfl
theorem mWeighedShifted (k : Int) (w : World) : (method 543 75 (.agg #[.int .i64 k]) "endonym/table.weighed").run Tryz.prog w = .ok (127, .agg #[.int .i64 k]) w := by kernel_rfl
theorem mSpokenShifted (k : Int) (w : World) : (method 543 75 (.agg #[.int .i64 k]) "endonym/table.spoken").run Tryz.prog w = .ok (382, .agg #[.int .i64 k]) w := by kernel_rfl
theorem mFamilySingle (k : Int) (w : World) : (method 543 76 (.agg #[.int .i64 k]) "endonym/table.family").run Tryz.prog w = .ok (27, .agg #[.int .i64 k]) w := by kernel_rfl
theorem mPlacedSingle (k : Int) (w : World) : (method 543 76 (.agg #[.int .i64 k]) "endonym/table.placed").run Tryz.prog w = .ok (385, .agg #[.int .i64 k]) w := by kernel_rfl
theorem mTargetedSingle (k : Int) (w : World) : (method 543 76 (.agg #[.int .i64 k]) "endonym/table.targeted").run Tryz.prog w = .ok (126, .agg #[.int .i64 k]) w := by kernel_rfl
theorem mNumberedSingle (k : Int) (w : World) : (method 543 76 (.agg #[.int .i64 k]) "endonym/table.numbered").run Tryz.prog w = .ok (123, .agg #[.int .i64 k]) w := by kernel_rfl
theorem mNamedSingle (k : Int) (w : World) : (method 543 76 (.agg #[.int .i64 k]) "endonym/table.named").run Tryz.prog w = .ok (121, .agg #[.int .i64 k]) w := by kernel_rfl
theorem mWeighedSingle (k : Int) (w : World) : (method 543 76 (.agg #[.int .i64 k]) "endonym/table.weighed").run Tryz.prog w = .ok (127, .agg #[.int .i64 k]) w := by kernel_rfl
theorem mSpokenSingle (k : Int) (w : World) : (method 543 76 (.agg #[.int .i64 k]) "endonym/table.spoken").run Tryz.prog w = .ok (125, .agg #[.int .i64 k]) w := by kernel_rfl
theorem mFamilyPaired (k : Int) (w : World) : (method 543 77 (.agg #[.int .i64 k]) "endonym/table.family").run Tryz.prog w = .ok (27, .agg #[.int .i64 k]) w := by kernel_rfl
theorem mPlacedPaired (k : Int) (w : World) : (method 543 77 (.agg #[.int .i64 k]) "endonym/table.placed").run Tryz.prog w = .ok (389, .agg #[.int .i64 k]) w := by kernel_rfl
theorem mTargetedPaired (k : Int) (w : World) : (method 543 77 (.agg #[.int .i64 k]) "endonym/table.targeted").run Tryz.prog w = .ok (126, .agg #[.int .i64 k]) w := by kernel_rfl
theorem mNumberedPaired (k : Int) (w : World) : (method 543 77 (.agg #[.int .i64 k]) "endonym/table.numbered").run Tryz.prog w = .ok (123, .agg #[.int .i64 k]) w := by kernel_rfl
theorem mNamedPaired (k : Int) (w : World) : (method 543 77 (.agg #[.int .i64 k]) "endonym/table.named").run Tryz.prog w = .ok (121, .agg #[.int .i64 k]) w := by kernel_rfl
theorem mWeighedPaired (k : Int) (w : World) : (method 543 77 (.agg #[.int .i64 k]) "endonym/table.weighed").run Tryz.prog w = .ok (127, .agg #[.int .i64 k]) w := by kernel_rfl
theorem mSpokenPaired (k : Int) (w : World) : (method 543 77 (.agg #[.int .i64 k]) "endonym/table.spoken").run Tryz.prog w = .ok (125, .agg #[.int .i64 k]) w := by kernel_rfl
theorem mFamilySpanned (k : Int) (w : World) : (method 543 73 (.agg #[.int .i64 k]) "endonym/table.family").run Tryz.prog w = .ok (27, .agg #[.int .i64 k]) w := by kernel_rfl
theorem mPlacedSpanned (k : Int) (w : World) : (method 543 73 (.agg #[.int .i64 k]) "endonym/table.placed").run Tryz.prog w = .ok (376, .agg #[.int .i64 k]) w := by kernel_rfl
theorem mTargetedSpanned (k : Int) (w : World) : (method 543 73 (.agg #[.int .i64 k]) "endonym/table.targeted").run Tryz.prog w = .ok (126, .agg #[.int .i64 k]) w := by kernel_rfl
theorem mNumberedSpanned (k : Int) (w : World) : (method 543 73 (.agg #[.int .i64 k]) "endonym/table.numbered").run Tryz.prog w = .ok (123, .agg #[.int .i64 k]) w := by kernel_rfl
theorem mNamedSpanned (k : Int) (w : World) : (method 543 73 (.agg #[.int .i64 k]) "endonym/table.named").run Tryz.prog w = .ok (121, .agg #[.int .i64 k]) w := by kernel_rfl
theorem mWeighedSpanned (k : Int) (w : World) : (method 543 73 (.agg #[.int .i64 k]) "endonym/table.weighed").run Tryz.prog w = .ok (127, .agg #[.int .i64 k]) w := by kernel_rfl
theorem mSpokenSpanned (k : Int) (w : World) : (method 543 73 (.agg #[.int .i64 k]) "endonym/table.spoken").run Tryz.prog w = .ok (125, .agg #[.int .i64 k]) w := by kernel_rfl
end Go.Proofs.YtceflkeaenepcaaGreatDoor
