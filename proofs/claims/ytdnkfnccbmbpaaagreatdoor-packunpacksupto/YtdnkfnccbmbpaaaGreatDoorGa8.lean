import Derived.WalkKit
import Derived.WalkSpells
import Derived.WalkLawsBesides
import Derived.OpenShut
import Derived.Laws.BytesArg
import Derived.Laws.AppendOwnNone
import Derived.Test.YtdnkfnccbmbpaaaGreatDoorProg
import Derived.Handy
import Derived.KernelRfl
/- Records, and what the document says of them, as plain functions. -/
namespace Go.Proofs.YtdnkfnccbmbpaaaGreatDoor

structure Rec where
  kind : Int
  lo : Int
  hi : Int
  n : Int
  to : List Int
  name : ByteArray
  other : ByteArray
  wt : Nat
namespace Cn
def none : Rec := ⟨0, 0, 0, 0, [], ⟨#[]⟩, ⟨#[]⟩, 0⟩
/-- 6.2. -/
def fam (k : Int) : Int :=
  if k < 1 ∨ 15 < k then 0 else if k ≤ 5 then 1 else if k = 6 then 2 else if k ≤ 8 then 3 else k - 5
def step (r : Rec) : Int := if r.kind = 4 then max r.n 0 else 1
/-- Does the record speak of the number? -/
def speaks (r : Rec) (c : Int) : Bool := decide (r.kind ≠ 15 ∧ 0 < step r ∧ 0 ≤ c ∧ c ≤ 1114111 ∧ r.lo ≤ c ∧ c ≤ r.hi ∧ (c - r.lo) % step r = 0)
def findA (f c : Int) : Nat → List Rec → Int
  | _, [] => -1
  | i, r :: l => if fam r.kind = f ∧ speaks r c = true then (i : Int) else findA f c (i + 1) l
def find (l : List Rec) (f c : Int) : Int := if f = 10 ∨ f = 0 then -1 else findA f c 0 l
/-- The record that Find tells, if there is one. -/
def hit (l : List Rec) (f c : Int) : Option Rec := if find l f c < 0 then Option.none else some (l.getD (find l f c).toNat none)
/-- 7.1. -/
def cls (l : List Rec) (c : Int) : Int := match hit l 2 c with | some r => r.n | Option.none => 0
def syl (c : Int) : Bool := decide (44032 ≤ c ∧ c ≤ 55203)
def opn (l : List Rec) (c : Int) : List Int :=
  if syl c then (if (c - 44032) % 28 = 0 then [4352 + (c - 44032) / 588, 4449 + (c - 44032) / 28 % 21] else [c - (c - 44032) % 28, 4519 + (c - 44032) % 28])
  else match hit l 3 c with | some r => r.to | Option.none => []
def prim (l : List Rec) (c : Int) : Option (Int × Int) :=
  if syl c then some ((opn l c).getD 0 0, (opn l c).getD 1 0)
  else match hit l 3 c with
    | some r => if r.kind = 7 ∧ r.to.length = 2 then some (r.to.getD 0 0, r.to.getD 1 0) else Option.none
    | Option.none => Option.none
theorem fam_small (k : Int) : 0 ≤ fam k ∧ fam k ≤ 10 := by
  unfold fam
  split
  · omega
  · split
    · omega
    · split
      · omega
      · split <;> omega
theorem findA_step {l : List Rec} {f c : Int} {k : Nat} (hk : k < l.length) : findA f c k (l.drop k) = if fam (l.getD k none).kind = f ∧ speaks (l.getD k none) c = true then (k : Int) else findA f c (k + 1) (l.drop (k + 1)) := by
  rw [List.drop_eq_getElem_cons hk, findA]
  simp [List.getD, hk]
theorem findA_bound (f c : Int) : ∀ (l : List Rec) (k : Nat), findA f c k l = -1 ∨ ((k : Int) ≤ findA f c k l ∧ findA f c k l < k + l.length)
  | [], _ => .inl rfl
  | r :: l, k => by
    rw [findA]
    split
    · exact .inr ⟨by omega, by simp; omega⟩
    · rcases findA_bound f c l (k + 1) with h | ⟨h1, h2⟩
      · exact .inl h
      · exact .inr ⟨by omega, by simp; omega⟩
theorem find_bound (l : List Rec) (f c : Int) : find l f c = -1 ∨ (0 ≤ find l f c ∧ find l f c < l.length) := by
  unfold find
  split
  · exact .inl rfl
  · rcases findA_bound f c l 0 with h | ⟨h1, h2⟩
    · exact .inl h
    · exact .inr ⟨by omega, by omega⟩
end Cn
end Go.Proofs.YtdnkfnccbmbpaaaGreatDoor
/- Values in memory. 'Sv w v us': the slice value v holds the values us in the world w. 'Sk K w v zs': they are integers of kind K. 'Ow e w B v us': they lie in memory from block B on, of element type e, from the memory's beginning. -/
namespace Go.Proofs.YtdnkfnccbmbpaaaGreatDoor
open Go.RowKit

theorem hide {p : Prop} (h : p) : Hid p := h
theorem unhide {p : Prop} (h : Hid p) : p := h

theorem bthen {a b c : World} (h : Below a.heap.size a b) (k : Below b.heap.size b c) : Below a.heap.size a c := h.trans (k.mono h.size)

theorem lt_of_cell? {w : World} {b o : Nat} {v : Value} (h : w.cell? ⟨b, o, none⟩ = some v) : b < w.heap.size := World.block_lt_of_cell? w _ h

theorem addr_add (b off j : Nat) : (⟨b, off, none⟩ : Addr).add j = ⟨b, off + j, none⟩ := by unfold Addr.add; split <;> simp_all

/-- The slice value v holds the values us. -/
def Sv (w : World) (v : Value) (us : List Value) : Prop :=
  us.length ≤ 140737488355328 ∧
    ((us = [] ∧ ∃ ao cap, v = .slice ao 0 cap ∧ cap ≤ 9223372036854775807 ∧ (ao = none → cap = 0)) ∨
      ∃ b off cap, v = .slice (some ⟨b, off, none⟩) us.length cap ∧ us.length ≤ cap ∧ cap ≤ 9223372036854775807 ∧ ∀ i, i < us.length → w.cell? ⟨b, off + i, none⟩ = some (us.getD i undef))

theorem Sv.nil (w : World) : Sv w (.slice none 0 0) [] := ⟨by simp, .inl ⟨rfl, none, 0, rfl, by omega, fun _ => rfl⟩⟩

/-- What a call keeps it keeps of the values that were there. -/
theorem Sv.below {w w' : World} {v : Value} {us : List Value} (h : Sv w v us) (hb : Below w.heap.size w w') : Sv w' v us := by
  obtain ⟨h2, h3⟩ := h
  refine ⟨h2, ?_⟩
  rcases h3 with h3 | ⟨b, off, cap, hv, hl, hm, hc⟩
  · exact .inl h3
  · refine .inr ⟨b, off, cap, hv, hl, hm, fun i hi => ?_⟩
    rw [hb.cell (lt_of_cell? (hc i hi))]
    exact hc i hi

theorem Sv.shape {w : World} {v : Value} {us : List Value} (h : Sv w v us) : ∃ ao cap, v = .slice ao us.length cap ∧ us.length ≤ cap ∧ cap ≤ 9223372036854775807 := by
  rcases h.2 with ⟨rfl, ao, cap, hv, hm, _⟩ | ⟨b, off, cap, hv, hl, hm, _⟩
  · exact ⟨ao, cap, hv, by simp, hm⟩
  · exact ⟨_, cap, hv, hl, hm⟩

theorem Sv.place {w : World} {v : Value} {us : List Value} (h : Sv w v us) (hne : 0 < us.length) :
    ∃ b off cap, v = .slice (some ⟨b, off, none⟩) us.length cap ∧ us.length ≤ cap ∧ cap ≤ 9223372036854775807 ∧ ∀ i, i < us.length → w.cell? ⟨b, off + i, none⟩ = some (us.getD i undef) := by
  rcases h.2 with ⟨rfl, _⟩ | h
  · simp at hne
  · exact h

/-- A part of the values, cut by a slice expression. -/
theorem Sv.cut {w : World} {ao : Option Addr} {len cap l h m : Nat} {us : List Value} (hs : Sv w (.slice ao len cap) us) (h1 : l ≤ h) (h2 : h ≤ len) (h3 : h ≤ m) (h4 : m ≤ cap) :
    Sv w (sliced ao l h m 1) ((us.drop l).take (h - l)) := by
  obtain ⟨b2, b3⟩ := hs
  rcases b3 with ⟨rfl, ao', cap', hv, hm, hnil⟩ | ⟨b, off, cap', hv, hl, hm, hc⟩
  · simp only [Value.slice.injEq] at hv
    obtain ⟨rfl, rfl, rfl⟩ := hv
    refine ⟨by simp, .inl ⟨by simp, (if m = l then ao else ao.map (·.add (l * 1))), m - l, ?_, by omega, fun hn => ?_⟩⟩
    · have : h - l = 0 := by omega
      simp only [sliced, this]
    · split at hn
      · omega
      · have := hnil (by simpa using hn)
        omega
  · simp only [Value.slice.injEq] at hv
    obtain ⟨rfl, rfl, rfl⟩ := hv
    have hlen : ((us.drop l).take (h - l)).length = h - l := by simp; omega
    refine ⟨by omega, ?_⟩
    by_cases he : h = l
    · refine .inl ⟨by rw [he]; simp, (if m = l then some ⟨b, off, none⟩ else (some ⟨b, off, none⟩ : Option Addr).map (·.add (l * 1))), m - l, ?_, by omega, fun hn => ?_⟩
      · have : h - l = 0 := by omega
        simp only [sliced, this]
      · split at hn <;> simp at hn
    · refine .inr ⟨b, off + l, m - l, ?_, by omega, by omega, fun i hi => ?_⟩
      · rw [hlen]
        have : ¬ m = l := by omega
        simp only [sliced, this, if_false, Option.map_some, Nat.mul_one, addr_add]
      · rw [Nat.add_assoc, hc (l + i) (by omega)]
        simp [List.getD, List.getElem?_take_of_lt (show i < h - l by omega), List.getElem?_drop]

theorem Sv.head {w : World} {ao : Option Addr} {len cap k : Nat} {us : List Value} (hs : Sv w (.slice ao len cap) us) (hk : k ≤ len) (hl : len ≤ cap) : Sv w (.slice ao k cap) (us.take k) := by
  have h := hs.cut (l := 0) (h := k) (m := cap) (by omega) (by omega) (by omega) (by omega)
  have e : sliced ao 0 k cap 1 = .slice ao k cap := by
    unfold sliced
    congr 1
    split
    · rfl
    · cases ao <;> simp [Addr.add]
  rw [e] at h
  simpa using h

/-- The slice as the source of an append. -/
theorem Sv.src {w : World} {v : Value} {us : List Value} (h : Sv w v us) : (us = [] ∧ v = .slice none 0 0) ∨
    ∃ ad cap, v = .slice (some ad) us.length cap ∧ ∀ j u, us[j]? = some u → w.cell? (ad.add j) = some u := by
  rcases h.2 with ⟨rfl, ao, cap, rfl, _, hnil⟩ | ⟨b, off, cap, rfl, hl, hm, hc⟩
  · cases ao with
    | none => exact .inl ⟨rfl, by rw [hnil rfl]⟩
    | some ad => exact .inr ⟨ad, cap, rfl, fun j u hj => by simp at hj⟩
  · refine .inr ⟨_, cap, rfl, fun j u hj => ?_⟩
    have hjl := (List.getElem?_eq_some_iff.1 hj).1
    rw [addr_add, hc j hjl]
    simp [List.getD, hj]

/-- Integers of a kind. -/
def Fit (K : IntKind) (zs : List Int) : Prop := ∀ z ∈ zs, K.min ≤ z ∧ z ≤ K.max

theorem Fit.nil (K : IntKind) : Fit K [] := by intro z h; cases h
theorem Fit.snoc {K : IntKind} {zs : List Int} (h : Fit K zs) {c : Int} (h0 : K.min ≤ c ∧ c ≤ K.max) : Fit K (zs ++ [c]) := by
  intro z hz
  rcases List.mem_append.1 hz with hz | hz
  · exact h z hz
  · simp at hz; subst hz; exact h0
theorem Fit.app {K : IntKind} {zs ys : List Int} (h : Fit K zs) (k : Fit K ys) : Fit K (zs ++ ys) := by
  intro z hz
  rcases List.mem_append.1 hz with hz | hz
  · exact h z hz
  · exact k z hz
theorem Fit.take {K : IntKind} {zs : List Int} (h : Fit K zs) (n : Nat) : Fit K (zs.take n) := fun z hz => h z (List.mem_of_mem_take hz)
theorem Fit.drop {K : IntKind} {zs : List Int} (h : Fit K zs) (n : Nat) : Fit K (zs.drop n) := fun z hz => h z (List.mem_of_mem_drop hz)
theorem Fit.at {K : IntKind} {zs : List Int} (h : Fit K zs) (i : Nat) (hK : K.min ≤ 0 ∧ 0 ≤ K.max) : K.min ≤ zs.getD i 0 ∧ zs.getD i 0 ≤ K.max := by
  rcases Nat.lt_or_ge i zs.length with hi | hi
  · simp only [List.getD, List.getElem?_eq_getElem hi, Option.getD_some]; exact h _ (List.getElem_mem hi)
  · simpa [List.getD, List.getElem?_eq_none hi] using hK
theorem fit_i32 {z : Int} (h : IntKind.i32.min ≤ z ∧ z ≤ IntKind.i32.max) : -2147483648 ≤ z ∧ z ≤ 2147483647 := by
  simpa [IntKind.min, IntKind.max, IntKind.signed, IntKind.bits] using h
theorem i32_fit {z : Int} (h : -2147483648 ≤ z ∧ z ≤ 2147483647) : IntKind.i32.min ≤ z ∧ z ≤ IntKind.i32.max := by
  simpa [IntKind.min, IntKind.max, IntKind.signed, IntKind.bits] using h
theorem fit_u8 {z : Int} (h : IntKind.u8.min ≤ z ∧ z ≤ IntKind.u8.max) : 0 ≤ z ∧ z ≤ 255 := by
  simpa [IntKind.min, IntKind.max, IntKind.signed, IntKind.bits] using h
theorem u8_fit {z : Int} (h : 0 ≤ z ∧ z ≤ 255) : IntKind.u8.min ≤ z ∧ z ≤ IntKind.u8.max := by
  simpa [IntKind.min, IntKind.max, IntKind.signed, IntKind.bits] using h
theorem Fit.i32at {zs : List Int} (h : Fit .i32 zs) (i : Nat) : -2147483648 ≤ zs.getD i 0 ∧ zs.getD i 0 ≤ 2147483647 := fit_i32 (h.at i (i32_fit (by omega)))
theorem Fit.u8at {zs : List Int} (h : Fit .u8 zs) (i : Nat) : 0 ≤ zs.getD i 0 ∧ zs.getD i 0 ≤ 255 := fit_u8 (h.at i (u8_fit (by omega)))

/-- The slice value v holds the integers zs. -/
def Sk (K : IntKind) (w : World) (v : Value) (zs : List Int) : Prop := Fit K zs ∧ Sv w v (zs.map (Value.int K))

theorem Sk.len {K : IntKind} {w : World} {v : Value} {zs : List Int} (h : Sk K w v zs) : zs.length ≤ 140737488355328 := by simpa using h.2.1
theorem Sk.nil (K : IntKind) (w : World) : Sk K w (.slice none 0 0) [] := ⟨Fit.nil K, Sv.nil w⟩
theorem Sk.below {K : IntKind} {w w' : World} {v : Value} {zs : List Int} (h : Sk K w v zs) (hb : Below w.heap.size w w') : Sk K w' v zs := ⟨h.1, h.2.below hb⟩
theorem Sk.shape {K : IntKind} {w : World} {v : Value} {zs : List Int} (h : Sk K w v zs) : ∃ ao cap, v = .slice ao zs.length cap ∧ zs.length ≤ cap ∧ cap ≤ 9223372036854775807 := by simpa using h.2.shape
theorem map_getD (K : IntKind) (zs : List Int) (i : Nat) (hi : i < zs.length) : (zs.map (Value.int K)).getD i undef = .int K (zs.getD i 0) := by simp [List.getD, hi]
theorem Sk.place {K : IntKind} {w : World} {v : Value} {zs : List Int} (h : Sk K w v zs) (hne : 0 < zs.length) :
    ∃ b off cap, v = .slice (some ⟨b, off, none⟩) zs.length cap ∧ zs.length ≤ cap ∧ cap ≤ 9223372036854775807 ∧ ∀ i, i < zs.length → w.cell? ⟨b, off + i, none⟩ = some (.int K (zs.getD i 0)) := by
  obtain ⟨b, off, cap, h1, h2, h3, h4⟩ := h.2.place (by simpa using hne)
  simp only [List.length_map] at h1 h2 h4
  exact ⟨b, off, cap, h1, h2, h3, fun i hi => by rw [h4 i hi, map_getD K zs i hi]⟩
theorem Sk.cut {K : IntKind} {w : World} {ao : Option Addr} {len cap l h m : Nat} {zs : List Int} (hs : Sk K w (.slice ao len cap) zs) (h1 : l ≤ h) (h2 : h ≤ len) (h3 : h ≤ m) (h4 : m ≤ cap) :
    Sk K w (sliced ao l h m 1) ((zs.drop l).take (h - l)) := ⟨(hs.1.drop l).take _, by simpa using hs.2.cut h1 h2 h3 h4⟩
theorem Sk.head {K : IntKind} {w : World} {ao : Option Addr} {len cap k : Nat} {zs : List Int} (hs : Sk K w (.slice ao len cap) zs) (hk : k ≤ len) (hl : len ≤ cap) : Sk K w (.slice ao k cap) (zs.take k) :=
  ⟨hs.1.take k, by simpa using hs.2.head hk hl⟩

theorem ints_one (K : IntKind) (zs : List Int) : ∀ u ∈ zs.map (Value.int K), u.oneCell' = true := by
  intro u hu
  obtain ⟨z, _, rfl⟩ := List.mem_map.1 hu
  rfl
theorem int_one (K : IntKind) (c : Int) : ∀ u ∈ [Value.int K c], u.oneCell' = true := by intro u hu; simp at hu; subst hu; rfl

/-- Values in memory of the call's own. -/
def Ow (e : TypeId) (w : World) (B : Nat) (v : Value) (us : List Value) : Prop := us.length ≤ 140737488355328 ∧ w.ownsRow B e 1 v us.length us

theorem Ow.nil (e : TypeId) (w : World) (B : Nat) : Ow e w B (.slice none 0 0) [] := ⟨by simp, World.ownsRow_nil _ _ _ _⟩

theorem Ow.sv {e : TypeId} {w : World} {B : Nat} {v : Value} {us : List Value} (h : Ow e w B v us) : Sv w v us := by
  obtain ⟨h2, h3⟩ := h
  have h3' := h3
  obtain ⟨_, hcase⟩ := h3
  refine ⟨h2, ?_⟩
  rcases hcase with ⟨rfl, h0⟩ | ⟨g, cap, cur, hv, hg, hh, hn, hcap, hsz, htake⟩
  · exact .inl ⟨List.eq_nil_of_length_eq_zero h0, none, 0, rfl, by omega, fun _ => rfl⟩
  · refine .inr ⟨g, 0, cap, hv, hn, by unfold maxLen at hcap; omega, fun i hi => ?_⟩
    subst hv
    have := h3'.cellAt i (by omega)
    rw [Nat.zero_add, this]
    simp [List.getD, hi]

theorem Ow.below {e : TypeId} {w w' : World} {B : Nat} {v : Value} {us : List Value} (h : Ow e w B v us) (hb : Below w.heap.size w w') : Ow e w' B v us := by
  refine ⟨h.1, h.2.kept (row := none) ⟨hb.os, hb.tape, hb.output, hb.size, fun k hk _ => hb.block k hk⟩ ?_⟩
  cases h' : v.ownBlock with
  | none => exact .inl rfl
  | some k => exact .inr (by simp)

theorem Ow.lower {e : TypeId} {w : World} {B B' : Nat} {v : Value} {us : List Value} (h : Ow e w B v us) (hB : B' ≤ B) : Ow e w B' v us := by
  refine ⟨h.1, h.2.1, ?_⟩
  rcases h.2.2 with h2 | ⟨g, cap, cur, hv, hg, r⟩
  · exact .inl h2
  · exact .inr ⟨g, cap, cur, hv, by omega, r⟩

/-- Integers in memory of the call's own. -/
def Ok (K : IntKind) (e : TypeId) (w : World) (B : Nat) (v : Value) (zs : List Int) : Prop := Fit K zs ∧ Ow e w B v (zs.map (Value.int K))

theorem Ok.sk {K : IntKind} {e : TypeId} {w : World} {B : Nat} {v : Value} {zs : List Int} (h : Ok K e w B v zs) : Sk K w v zs := ⟨h.1, h.2.sv⟩
theorem Ok.below {K : IntKind} {e : TypeId} {w w' : World} {B : Nat} {v : Value} {zs : List Int} (h : Ok K e w B v zs) (hb : Below w.heap.size w w') : Ok K e w' B v zs := ⟨h.1, h.2.below hb⟩
theorem Ok.lower {K : IntKind} {e : TypeId} {w : World} {B B' : Nat} {v : Value} {zs : List Int} (h : Ok K e w B v zs) (hB : B' ≤ B) : Ok K e w B' v zs := ⟨h.1, h.2.lower hB⟩
theorem Ok.nil (K : IntKind) (e : TypeId) (w : World) (B : Nat) : Ok K e w B (.slice none 0 0) [] := ⟨Fit.nil K, Ow.nil e w B⟩
theorem Ok.row {K : IntKind} {e : TypeId} {w : World} {B : Nat} {v : Value} {zs : List Int} (h : Ok K e w B v zs) : w.ownsRow B e 1 v zs.length (zs.map (Value.int K)) := by simpa using h.2.2
theorem Ok.of {K : IntKind} {e : TypeId} {w : World} {B n : Nat} {v : Value} {zs : List Int} {us : List Value} (hf : Fit K zs) (hl : zs.length ≤ 140737488355328) (h : w.ownsRow B e 1 v n us) (hn : n = zs.length) (hu : us = zs.map (Value.int K)) : Ok K e w B v zs := by
  subst hu; subst hn
  exact ⟨hf, by simpa using hl, by simpa using h⟩

theorem below_append {e : TypeId} {w wr w1 : World} {v : Value} {us : List Value} {n : Nat} {o : Obj} {B : Nat} (hB : B ≤ wr.heap.size) (hown : wr.ownsRow B e 1 v n us)
    (hbel : Below B w wr) (hg : (wr.alloc o).grownBy w1 v.ownBlock) : Below B w w1 :=
  (hbel.alloc hB o).grown hg (by simp; omega) (fun k hk => (hown.lt k hk).1)
theorem below_append0 {e : TypeId} {w wr w1 : World} {v : Value} {us : List Value} {n : Nat} {B : Nat} (hB : B ≤ wr.heap.size) (hown : wr.ownsRow B e 1 v n us)
    (hbel : Below B w wr) (hg : wr.grownBy w1 v.ownBlock) : Below B w w1 :=
  hbel.grown hg hB (fun k hk => (hown.lt k hk).1)

theorem own_shape {e : TypeId} {w : World} {B n : Nat} {v : Value} {us : List Value} (h : w.ownsRow B e 1 v n us) (hn : 0 < n) : ∃ g cap, v = .slice (some ⟨g, 0, none⟩) n cap ∧ n ≤ cap ∧ cap ≤ 9223372036854775807 := by
  rcases h.2 with ⟨_, h0⟩ | ⟨g, cap, cur, hv, hg, hh, hn', hcap, hsz, htake⟩
  · omega
  · exact ⟨g, cap, hv, hn', by unfold maxLen at hcap; omega⟩

/-- An argument as it is read: the integers that it holds. -/
theorem plain_of_cell {w : World} {x : Addr} {v : Value} (h : w.cell? x = some v) : x = ⟨x.block, x.off, none⟩ := by
  obtain ⟨b, o, s⟩ := x
  cases s with
  | none => rfl
  | some s =>
    unfold World.cell? at h
    split at h <;> simp at h

theorem fit_of_wf {K : IntKind} {zs : List Int} (h : ∀ n ∈ zs, (Lit.int K n).wf = true) : Fit K zs := by
  intro z hz
  have := h z hz
  simpa [Lit.wf] using this

theorem sk_of_row {K : IntKind} {w : World} {a : Option Addr} {len cap : Nat} {zs : List Int} (h : (a = none ∧ len = 0 ∧ cap = 0 ∧ zs = []) ∨
    ∃ x, a = some x ∧ len ≤ cap ∧ cap ≤ maxLen ∧ zs.length = cap ∧ (∀ i, i < zs.length → w.cell? (x.add i) = some (.int K (zs.getD i 0))) ∧ ∀ n ∈ zs, (Lit.int K n).wf = true) (hl : len ≤ 140737488351232) :
    Sk K w (.slice a len cap) (zs.take len) := by
  rcases h with ⟨rfl, rfl, rfl, rfl⟩ | ⟨x, rfl, h1, h2, h3, h4, h5⟩
  · exact Sk.nil K w
  · unfold maxLen at h2
    have hb : Fit K (zs.take len) := (fit_of_wf h5).take len
    have hlen : (zs.take len).length = len := by simp; omega
    refine ⟨hb, by simp; omega, ?_⟩
    rcases Nat.eq_zero_or_pos len with h0 | h0
    · subst h0
      exact .inl ⟨by simp, some x, cap, rfl, by omega, fun h => by cases h⟩
    · have hx := h4 0 (by omega)
      have hx0 : x.add 0 = x := by simp [Addr.add]
      rw [hx0] at hx
      have hp := plain_of_cell hx
      generalize x.block = b at *
      generalize x.off = o at *
      subst hp
      refine .inr ⟨b, o, cap, by rw [List.length_map, hlen], by simp; omega, by omega, fun i hi => ?_⟩
      simp only [List.length_map] at hi
      rw [← addr_add, h4 i (by omega), map_getD K _ i hi]
      simp [List.getD, List.getElem?_take_of_lt (show i < len by omega)]
end Go.Proofs.YtdnkfnccbmbpaaaGreatDoor
/- Records in memory. -/
namespace Go.Proofs.YtdnkfnccbmbpaaaGreatDoor
open Go.RowKit

/-- A number that an int holds. -/
def I64 (n : Int) : Prop := -9223372036854775808 ≤ n ∧ n ≤ 9223372036854775807
structure RecFit (r : Rec) : Prop where
  kind : I64 r.kind
  lo : I64 r.lo
  hi : I64 r.hi
  n : I64 r.n
  len : r.to.length ≤ 1000000000
  wt : r.wt < 18446744073709551616
/-- The eight cells of a record. -/
structure RecAt (w : World) (b o : Nat) (r : Rec) : Prop where
  kind : w.cell? ⟨b, o, none⟩ = some (.int .i64 r.kind)
  lo : w.cell? ⟨b, o + 1, none⟩ = some (.int .i64 r.lo)
  hi : w.cell? ⟨b, o + 2, none⟩ = some (.int .i64 r.hi)
  n : w.cell? ⟨b, o + 3, none⟩ = some (.int .i64 r.n)
  to : ∃ v, w.cell? ⟨b, o + 4, none⟩ = some v ∧ Sk .i32 w v r.to
  name : w.cell? ⟨b, o + 5, none⟩ = some (.string r.name)
  other : w.cell? ⟨b, o + 6, none⟩ = some (.string r.other)
  wt : w.cell? ⟨b, o + 7, none⟩ = some (.float .f64 r.wt)
theorem RecAt.below {w w' : World} {b o : Nat} {r : Rec} (h : RecAt w b o r) (hb : Below w.heap.size w w') : RecAt w' b o r := by
  obtain ⟨h0, h1, h2, h3, ⟨v, h4, h5⟩, h6, h7, h8⟩ := h
  exact ⟨by rw [hb.cell (lt_of_cell? h0)]; exact h0, by rw [hb.cell (lt_of_cell? h1)]; exact h1, by rw [hb.cell (lt_of_cell? h2)]; exact h2, by rw [hb.cell (lt_of_cell? h3)]; exact h3,
    ⟨v, by rw [hb.cell (lt_of_cell? h4)]; exact h4, h5.below hb⟩, by rw [hb.cell (lt_of_cell? h6)]; exact h6, by rw [hb.cell (lt_of_cell? h7)]; exact h7, by rw [hb.cell (lt_of_cell? h8)]; exact h8⟩
/-- The slice value v holds the records rs. -/
def Rcs (w : World) (v : Value) (rs : List Rec) : Prop := rs.length ≤ 1000000000 ∧ (∀ r ∈ rs, RecFit r) ∧
  ((rs = [] ∧ ∃ ao cap, v = .slice ao 0 cap ∧ cap ≤ 9223372036854775807) ∨
    ∃ b off cap, v = .slice (some ⟨b, off, none⟩) rs.length cap ∧ rs.length ≤ cap ∧ cap ≤ 9223372036854775807 ∧ ∀ i, i < rs.length → RecAt w b (off + i * 8) (rs.getD i Cn.none))
theorem Rcs.below {w w' : World} {v : Value} {rs : List Rec} (h : Rcs w v rs) (hb : Below w.heap.size w w') : Rcs w' v rs := by
  obtain ⟨h1, h2, h3⟩ := h
  refine ⟨h1, h2, ?_⟩
  rcases h3 with h3 | ⟨b, off, cap, hv, hl, hm, hc⟩
  · exact .inl h3
  · exact .inr ⟨b, off, cap, hv, hl, hm, fun i hi => (hc i hi).below hb⟩
theorem Rcs.shape {w : World} {v : Value} {rs : List Rec} (h : Rcs w v rs) : ∃ ao cap, v = .slice ao rs.length cap ∧ rs.length ≤ cap ∧ cap ≤ 9223372036854775807 := by
  rcases h.2.2 with ⟨rfl, ao, cap, hv, hm⟩ | ⟨b, off, cap, hv, hl, hm, _⟩
  · exact ⟨ao, cap, hv, by simp, hm⟩
  · exact ⟨_, cap, hv, hl, hm⟩
theorem Rcs.place {w : World} {v : Value} {rs : List Rec} (h : Rcs w v rs) (hne : 0 < rs.length) : ∃ b off cap, v = .slice (some ⟨b, off, none⟩) rs.length cap ∧ rs.length ≤ cap ∧ cap ≤ 9223372036854775807 ∧ ∀ i, i < rs.length → RecAt w b (off + i * 8) (rs.getD i Cn.none) := by
  rcases h.2.2 with ⟨rfl, _⟩ | h
  · simp at hne
  · exact h
theorem Rcs.fit {w : World} {v : Value} {rs : List Rec} (h : Rcs w v rs) {i : Nat} (hi : i < rs.length) : RecFit (rs.getD i Cn.none) := h.2.1 _ (by simp [List.getD, hi])
/-- The first of them. -/
theorem Rcs.head {w : World} {ao : Option Addr} {len cap k : Nat} {rs : List Rec} (h : Rcs w (.slice ao len cap) rs) (hk : k ≤ len) : Rcs w (.slice ao k cap) (rs.take k) := by
  obtain ⟨h1, h2, h3⟩ := h
  refine ⟨by simp; omega, fun r hr => h2 r (List.mem_of_mem_take hr), ?_⟩
  rcases h3 with ⟨rfl, ao', cap', hv, hm⟩ | ⟨b, off, cap', hv, hl, hm, hc⟩
  · simp only [Value.slice.injEq] at hv
    obtain ⟨rfl, rfl, rfl⟩ := hv
    obtain rfl : k = 0 := by omega
    exact .inl ⟨by simp, _, _, rfl, hm⟩
  · simp only [Value.slice.injEq] at hv
    obtain ⟨rfl, rfl, rfl⟩ := hv
    have hkl : (rs.take k).length = k := by simp; omega
    refine .inr ⟨b, off, cap, by rw [hkl], by omega, hm, fun i hi => ?_⟩
    rw [hkl] at hi
    have := hc i (by omega)
    rw [show (rs.take k).getD i Cn.none = rs.getD i Cn.none by simp [List.getD, List.getElem?_take_of_lt hi]]
    exact this
end Go.Proofs.YtdnkfnccbmbpaaaGreatDoor
/- The contracts of the document's own Family, Speaks, Find. -/
namespace Go.Proofs.YtdnkfnccbmbpaaaGreatDoor
open Go.RowKit

/-- A record as a value, its list a value. -/
def recV (r : Rec) (vt : Value) : Value := .agg #[.int .i64 r.kind, .int .i64 r.lo, .int .i64 r.hi, .int .i64 r.n, vt, .string r.name, .string r.other, .float .f64 r.wt]
/-- An int; what was there stays. -/
def IntB (w : World) (n : Int) (e : Ending) (w' : World) : Prop := e = .returned (.int .i64 n) ∧ Below w.heap.size w w'
def BoolB (w : World) (b : Bool) (e : Ending) (w' : World) : Prop := e = .returned (.bool b) ∧ Below w.heap.size w w'

def famsV : Value := .agg #[.int .i64 0, .int .i64 1, .int .i64 1, .int .i64 1, .int .i64 1, .int .i64 1, .int .i64 2, .int .i64 3, .int .i64 3, .int .i64 4, .int .i64 5, .int .i64 6, .int .i64 7, .int .i64 8, .int .i64 9, .int .i64 10]
theorem fams_at (k : Int) (h0 : 1 ≤ k) (h1 : k ≤ 15) (w : World) : (Instr.index 124 famsV (.int .i64 k)).run Tryz.prog w = .ok (.int .i64 (Cn.fam k)) w := by
  have h : k = 1 ∨ k = 2 ∨ k = 3 ∨ k = 4 ∨ k = 5 ∨ k = 6 ∨ k = 7 ∨ k = 8 ∨ k = 9 ∨ k = 10 ∨ k = 11 ∨ k = 12 ∨ k = 13 ∨ k = 14 ∨ k = 15 := by omega
  rcases h with rfl | rfl | rfl | rfl | rfl | rfl | rfl | rfl | rfl | rfl | rfl | rfl | rfl | rfl | rfl <;>
    (simp [famsV, Instr.index, run_underlying Tryz.underlying124, asIntOf, go_sem, Tryz.sizeOf3, Tryz.isAgg3, Cn.fam])
theorem refFamily_any (k : Int) (w : World) (hk : I64 k) : Calls Tryz.prog 51 #[.int .i64 k] w fun e w' => e = .returned (.int .i64 (Cn.fam k)) ∧ w' = w := by
  obtain ⟨k0, k1⟩ := hk
  by_cases a1 : k < 1
  · have hf : Cn.fam k = 0 := by unfold Cn.fam; rw [if_pos (.inl a1)]
    rw [hf]
    go_enter Tryz.func51, Tryz.ntmps51
    go_wp2
    go_ret
    exact ⟨rfl, rfl⟩
  · by_cases a2 : 15 < k
    · have hf : Cn.fam k = 0 := by unfold Cn.fam; rw [if_pos (.inr a2)]
      rw [hf]
      go_enter Tryz.func51, Tryz.ntmps51
      go_wp2
      go_ret
      exact ⟨rfl, rfl⟩
    · have hidx := fams_at k (by omega) (by omega)
      unfold famsV at hidx
      generalize Cn.fam k = f at *
      go_enter Tryz.func51, Tryz.ntmps51
      go_wp2
      go_ret
      exact ⟨rfl, rfl⟩
theorem refStep_any (r : Rec) (vt : Value) (w : World) (hf : RecFit r) : Calls Tryz.prog 57 #[recV r vt] w (IntB w (Cn.step r)) := by
  unfold recV Cn.step
  have hn := hf.n
  have hk := hf.kind
  generalize r.kind = kd at *
  generalize r.n = n at *
  generalize r.lo = lo
  generalize r.hi = hi
  generalize r.name = nm
  generalize r.other = ot
  generalize r.wt = wt
  obtain ⟨n0, n1⟩ := hn
  obtain ⟨k0, k1⟩ := hk
  clear hf
  by_cases h4 : kd = 4
  · subst h4
    rw [if_pos rfl]
    by_cases hp : 0 ≤ n
    · have hm : max n 0 = n := by omega
      rw [hm]
      go_enter Tryz.func57, Tryz.ntmps57
      go_wp2
      go_ret
      exact ⟨rfl, (Below.refl _ _).alloc (Nat.le_refl _) _⟩
    · have hm : max n 0 = 0 := by omega
      rw [hm]
      go_enter Tryz.func57, Tryz.ntmps57
      go_wp2
      go_ret
      exact ⟨rfl, (Below.refl _ _).alloc (Nat.le_refl _) _⟩
  · rw [if_neg h4]
    have q : (kd == 4) = false := beq_eq_false_iff_ne.2 h4
    go_enter Tryz.func57, Tryz.ntmps57
    go_wp2
    go_ret
    exact ⟨rfl, (Below.refl _ _).alloc (Nat.le_refl _) _⟩
theorem u64_diff {c lo : Int} (h0 : 0 ≤ c) (h1 : c ≤ 1114111) (h2 : lo ≤ c) (h3 : -9223372036854775808 ≤ lo) : ∃ L, IntKind.u64.wrap lo = L ∧ IntKind.u64.wrap (c - L) = c - lo := by
  refine ⟨_, rfl, ?_⟩
  by_cases hn : 0 ≤ lo
  · rw [IntWalk.u64_in lo ⟨by omega, by omega⟩, IntWalk.u64_in _ ⟨by omega, by omega⟩]
  · have e : IntKind.u64.wrap lo = lo + 18446744073709551616 := by
      unfold IntKind.wrap
      have hb : (2 : Int) ^ IntKind.u64.bits = 18446744073709551616 := by decide
      rw [hb]
      simp [IntKind.signed]
      omega
    rw [e]
    unfold IntKind.wrap
    have hb : (2 : Int) ^ IntKind.u64.bits = 18446744073709551616 := by decide
    rw [hb]
    simp [IntKind.signed]
    omega
set_option maxHeartbeats 2000000 in
theorem refSpeaks_any (r : Rec) (vt : Value) (c : Int) (w : World) (hf : RecFit r) (hc : -2147483648 ≤ c ∧ c ≤ 2147483647) : Calls Tryz.prog 58 #[recV r vt, .int .i64 c] w (BoolB w (Cn.speaks r c)) := by
  have K := hide (fun w => refStep_any r vt w hf)
  have hst : Cn.step r ≤ 9223372036854775807 := by
    unfold Cn.step
    have := hf.n
    unfold I64 at this
    split <;> omega
  have hsp : Cn.speaks r c = decide (r.kind ≠ 15 ∧ 0 < Cn.step r ∧ 0 ≤ c ∧ c ≤ 1114111 ∧ r.lo ≤ c ∧ c ≤ r.hi ∧ (c - r.lo) % Cn.step r = 0) := rfl
  rw [hsp]
  clear hsp
  have hk := hf.kind
  have hl := hf.lo
  have hh := hf.hi
  unfold recV at *
  generalize Cn.step r = st at *
  clear hf
  generalize r.kind = kd at *
  generalize r.n = n at *
  generalize r.lo = lo at *
  generalize r.hi = hi at *
  generalize r.name = nm at *
  generalize r.other = ot at *
  generalize r.wt = wt at *
  obtain ⟨k0, k1⟩ := hk
  obtain ⟨l0, l1⟩ := hl
  obtain ⟨m0, m1⟩ := hh
  obtain ⟨c0, c1⟩ := hc
  have hcell : ∀ W, Below (w.heap.size + 1) (w.alloc (.cells #[.int .i64 kd, .int .i64 lo, .int .i64 hi, .int .i64 n, vt, .string nm, .string ot, .float .f64 wt] 46)) W → W.cell? ⟨w.heap.size, 0, none⟩ = some (.int .i64 kd) ∧ W.cell? ⟨w.heap.size, 1, none⟩ = some (.int .i64 lo) ∧ W.cell? ⟨w.heap.size, 2, none⟩ = some (.int .i64 hi) := by
    intro W hb
    refine ⟨?_, ?_, ?_⟩ <;> (rw [hb.cell (by simp)]; simp [World.cell?, World.alloc, -World.alloc_eq])
  have HC := hide hcell
  clear hcell
  by_cases a1 : kd = 15
  · have y0 : (kd != 15) = false := by simp [a1]
    rw [decide_eq_false (fun h => h.1 a1)]
    subst a1
    go_enter Tryz.func58, Tryz.ntmps58
    go_wp2_with fail
    refine ((unhide K) _).mono ?_
    rintro e w1 ⟨rfl, hb⟩
    obtain ⟨x0, x1, x2⟩ := (unhide HC) w1 (by simpa using hb)
    have HF : BoolB w false (.returned (.bool false)) w1 := ⟨rfl, ((Below.refl _ _).alloc (Nat.le_refl _) _).trans (hb.mono (by simp))⟩
    clear K HC hb
    go_wp2
    go_ret
    exact HF
  · have y0 : (kd != 15) = true := by simp [a1]
    by_cases b0 : 0 < st
    rotate_left
    · rw [decide_eq_false (by omega)]
      go_enter Tryz.func58, Tryz.ntmps58
      go_wp2_with fail
      refine ((unhide K) _).mono ?_
      rintro e w1 ⟨rfl, hb⟩
      obtain ⟨x0, x1, x2⟩ := (unhide HC) w1 (by simpa using hb)
      have HF : BoolB w false (.returned (.bool false)) w1 := ⟨rfl, ((Below.refl _ _).alloc (Nat.le_refl _) _).trans (hb.mono (by simp))⟩
      clear K HC hb
      go_wp2
      go_ret
      exact HF
    by_cases b1 : 0 ≤ c
    rotate_left
    · rw [decide_eq_false (by omega)]
      go_enter Tryz.func58, Tryz.ntmps58
      go_wp2_with fail
      refine ((unhide K) _).mono ?_
      rintro e w1 ⟨rfl, hb⟩
      obtain ⟨x0, x1, x2⟩ := (unhide HC) w1 (by simpa using hb)
      have HF : BoolB w false (.returned (.bool false)) w1 := ⟨rfl, ((Below.refl _ _).alloc (Nat.le_refl _) _).trans (hb.mono (by simp))⟩
      clear K HC hb
      go_wp2
      go_ret
      exact HF
    by_cases b2 : c ≤ 1114111
    rotate_left
    · rw [decide_eq_false (by omega)]
      go_enter Tryz.func58, Tryz.ntmps58
      go_wp2_with fail
      refine ((unhide K) _).mono ?_
      rintro e w1 ⟨rfl, hb⟩
      obtain ⟨x0, x1, x2⟩ := (unhide HC) w1 (by simpa using hb)
      have HF : BoolB w false (.returned (.bool false)) w1 := ⟨rfl, ((Below.refl _ _).alloc (Nat.le_refl _) _).trans (hb.mono (by simp))⟩
      clear K HC hb
      go_wp2
      go_ret
      exact HF
    by_cases b3 : lo ≤ c
    rotate_left
    · rw [decide_eq_false (by omega)]
      go_enter Tryz.func58, Tryz.ntmps58
      go_wp2_with fail
      refine ((unhide K) _).mono ?_
      rintro e w1 ⟨rfl, hb⟩
      obtain ⟨x0, x1, x2⟩ := (unhide HC) w1 (by simpa using hb)
      have HF : BoolB w false (.returned (.bool false)) w1 := ⟨rfl, ((Below.refl _ _).alloc (Nat.le_refl _) _).trans (hb.mono (by simp))⟩
      clear K HC hb
      go_wp2
      go_ret
      exact HF
    by_cases b4 : c ≤ hi
    rotate_left
    · rw [decide_eq_false (by omega)]
      go_enter Tryz.func58, Tryz.ntmps58
      go_wp2_with fail
      refine ((unhide K) _).mono ?_
      rintro e w1 ⟨rfl, hb⟩
      obtain ⟨x0, x1, x2⟩ := (unhide HC) w1 (by simpa using hb)
      have HF : BoolB w false (.returned (.bool false)) w1 := ⟨rfl, ((Below.refl _ _).alloc (Nat.le_refl _) _).trans (hb.mono (by simp))⟩
      clear K HC hb
      go_wp2
      go_ret
      exact HF
    obtain ⟨Lw, e1, e2⟩ := u64_diff b1 b2 b3 l0
    have e0 : IntKind.u64.wrap c = c := IntWalk.u64_in c ⟨by omega, by omega⟩
    have e3 : IntKind.u64.wrap st = st := IntWalk.u64_in st ⟨by omega, by omega⟩
    obtain ⟨q, hq⟩ : ∃ q, (c - lo).tmod st = q := ⟨_, rfl⟩
    have hq2 : (c - lo) % st = q := by rw [← hq, Int.tmod_eq_emod_of_nonneg (by omega)]
    have est : (st == 0) = false := beq_eq_false_iff_ne.2 (by omega)
    by_cases g : q = 0
    · rw [decide_eq_true ⟨a1, b0, b1, b2, b3, b4, hq2.trans g⟩]
      subst g
      clear hq2
      go_enter Tryz.func58, Tryz.ntmps58
      go_wp2_with fail
      refine ((unhide K) _).mono ?_
      rintro e w1 ⟨rfl, hb⟩
      obtain ⟨x0, x1, x2⟩ := (unhide HC) w1 (by simpa using hb)
      have HF : BoolB w true (.returned (.bool true)) w1 := ⟨rfl, ((Below.refl _ _).alloc (Nat.le_refl _) _).trans (hb.mono (by simp))⟩
      clear K HC hb
      go_wp2
      go_ret
      exact HF
    · have gq : (q == 0) = false := beq_eq_false_iff_ne.2 g
      rw [decide_eq_false (fun h => g (hq2.symm.trans h.2.2.2.2.2.2))]
      clear hq2
      go_enter Tryz.func58, Tryz.ntmps58
      go_wp2_with fail
      refine ((unhide K) _).mono ?_
      rintro e w1 ⟨rfl, hb⟩
      obtain ⟨x0, x1, x2⟩ := (unhide HC) w1 (by simpa using hb)
      have HF : BoolB w false (.returned (.bool false)) w1 := ⟨rfl, ((Below.refl _ _).alloc (Nat.le_refl _) _).trans (hb.mono (by simp))⟩
      clear K HC hb
      go_wp2
      go_ret
      exact HF
end Go.Proofs.YtdnkfnccbmbpaaaGreatDoor
/- What table's calls read of its package-level table of rows; families, shapes. -/
namespace Go.Proofs.YtdnkfnccbmbpaaaGreatDoor
open Go.RowKit

structure Row9 where
  word : ByteArray
  fam : Int
  least : Int
  most : Int
  low : Int
  high : Int
  said : ByteArray
  scr : Int
  wei : Bool
namespace Cn
def txt (s : String) : ByteArray := s.toUTF8
/-- The document's table of kinds. -/
def rowT : Nat → Row9
  | 1 => ⟨txt "valid", 1, 0, 0, 0, 0, ⟨#[]⟩, 0, false⟩
  | 2 => ⟨txt "ignored", 1, 0, 0, 0, 0, ⟨#[]⟩, 0, false⟩
  | 3 => ⟨txt "mapped", 1, 1, 24, 0, 0, ⟨#[]⟩, 0, false⟩
  | 4 => ⟨txt "shift", 1, 1, 1, 1, 64, ⟨#[]⟩, 0, false⟩
  | 5 => ⟨txt "deviation", 1, 0, 24, 0, 0, ⟨#[]⟩, 0, false⟩
  | 6 => ⟨txt "class", 2, 0, 0, 1, 254, ⟨#[]⟩, 0, false⟩
  | 7 => ⟨txt "decomp", 3, 2, 2, 0, 0, ⟨#[]⟩, 0, false⟩
  | 8 => ⟨txt "opens", 3, 1, 2, 0, 0, ⟨#[]⟩, 0, false⟩
  | 9 => ⟨txt "bidi", 4, 0, 0, 0, 10, txt "L R AL AN EN ES CS ET ON BN NSM", 0, false⟩
  | 10 => ⟨txt "join", 5, 0, 0, 0, 5, txt "U R L D C T", 0, false⟩
  | 11 => ⟨txt "mark", 6, 0, 0, 0, 0, ⟨#[]⟩, 0, false⟩
  | 12 => ⟨txt "script", 7, 0, 0, 0, 0, ⟨#[]⟩, 1, false⟩
  | 13 => ⟨txt "looks", 8, 1, 24, 0, 0, ⟨#[]⟩, 0, false⟩
  | 14 => ⟨txt "weight", 9, 0, 0, 0, 0, ⟨#[]⟩, 0, true⟩
  | 15 => ⟨txt "mix", 10, 0, 0, 0, 0, ⟨#[]⟩, 2, true⟩
  | _ => ⟨⟨#[]⟩, 0, 0, 0, 0, 0, ⟨#[]⟩, 0, false⟩
/-- The row of a kind; of what is no kind the empty one. -/
def rowK (k : Int) : Row9 := if k < 0 ∨ 16 ≤ k then rowT 0 else rowT k.toNat
theorem rowK_fam (k : Int) : (rowK k).fam = fam k := by
  unfold rowK
  split
  · next h =>
    unfold fam
    rw [if_pos (by omega)]
    rfl
  · next h =>
    obtain ⟨n, rfl⟩ : ∃ n : Nat, k = n := ⟨k.toNat, by omega⟩
    have hn : n < 16 := by omega
    rw [Int.toNat_natCast]
    have : ∀ n, n < 16 → (rowT n).fam = fam n := by decide
    exact this n hn
end Cn
/-- A row of the table, in its nine cells. -/
structure RowAt (w : World) (o : Nat) (r : Row9) : Prop where
  c0 : w.cell? ⟨1, o, none⟩ = some (.string r.word)
  c1 : w.cell? ⟨1, o + 1, none⟩ = some (.int .i64 r.fam)
  c2 : w.cell? ⟨1, o + 2, none⟩ = some (.int .i64 r.least)
  c3 : w.cell? ⟨1, o + 3, none⟩ = some (.int .i64 r.most)
  c4 : w.cell? ⟨1, o + 4, none⟩ = some (.int .i64 r.low)
  c5 : w.cell? ⟨1, o + 5, none⟩ = some (.int .i64 r.high)
  c6 : w.cell? ⟨1, o + 6, none⟩ = some (.string r.said)
  c7 : w.cell? ⟨1, o + 7, none⟩ = some (.int .i64 r.scr)
  c8 : w.cell? ⟨1, o + 8, none⟩ = some (.bool r.wei)
/-- The package-level variable that the calls read. -/
def Glob (w : World) : Prop := ∀ k, k < 16 → RowAt w (k * 9) (Cn.rowT k)
theorem Glob.on {w w' : World} (h : Glob w) (hb : Below w.heap.size w w') : Glob w' := fun k hk => by
  obtain ⟨h0, h1, h2, h3, h4, h5, h6, h7, h8⟩ := h k hk
  exact ⟨by rw [hb.cell (lt_of_cell? h0)]; exact h0, by rw [hb.cell (lt_of_cell? h1)]; exact h1, by rw [hb.cell (lt_of_cell? h2)]; exact h2, by rw [hb.cell (lt_of_cell? h3)]; exact h3, by rw [hb.cell (lt_of_cell? h4)]; exact h4,
    by rw [hb.cell (lt_of_cell? h5)]; exact h5, by rw [hb.cell (lt_of_cell? h6)]; exact h6, by rw [hb.cell (lt_of_cell? h7)]; exact h7, by rw [hb.cell (lt_of_cell? h8)]; exact h8⟩
def rowV (r : Row9) : Value := .agg #[.string r.word, .int .i64 r.fam, .int .i64 r.least, .int .i64 r.most, .int .i64 r.low, .int .i64 r.high, .string r.said, .int .i64 r.scr, .bool r.wei]
def shV (k : Int) : Value := .agg #[.int .i64 k]
set_option maxRecDepth 8000 in
set_option maxHeartbeats 2000000 in
theorem row_any (k : Int) (w : World) (hg : Glob w) (hk : I64 k) : Calls Tryz.prog 114 #[shV k] w (fun e w' => e = .returned (rowV (Cn.rowK k)) ∧ Below w.heap.size w w') := by
  obtain ⟨k0, k1⟩ := hk
  have hb : Below w.heap.size w ((w.alloc (.cells #[.int .i64 k] 132)).alloc (.cells #[.string ⟨#[]⟩, .int .i64 0, .int .i64 0, .int .i64 0, .int .i64 0, .int .i64 0, .string ⟨#[]⟩, .int .i64 0, .bool false] 150)) := ((Below.refl _ _).alloc (Nat.le_refl _) _).alloc (by simp) _
  unfold shV Cn.rowK
  by_cases h : k < 0
  · rw [if_pos (.inl h)]
    clear hg
    go_enter Tryz.func114, Tryz.ntmps114
    go_wp2
    go_returns
    exact ⟨rfl, hb⟩
  · by_cases h2 : 16 ≤ k
    · rw [if_pos (.inr h2)]
      clear hg
      go_enter Tryz.func114, Tryz.ntmps114
      go_wp2
      go_returns
      exact ⟨rfl, hb⟩
    · rw [if_neg (by omega)]
      obtain ⟨n, rfl⟩ : ∃ n : Nat, k = n := ⟨k.toNat, by omega⟩
      rw [Int.toNat_natCast]
      have hn : n < 16 := by omega
      have hb2 := Below.refl w.heap.size w
      obtain ⟨x0, x1, x2, x3, x4, x5, x6, x7, x8⟩ := (hg.on hb) n hn
      clear hg
      generalize Cn.rowT n = r at *
      have HF : ∀ W, Below w.heap.size w W → Below w.heap.size w W := fun W h => h
      go_enter Tryz.func114, Tryz.ntmps114
      go_wp2
      go_returns
      exact ⟨rfl, ((Below.refl _ _).alloc (Nat.le_refl _) _).alloc (by simp) _⟩
/-- The fields of a row. -/
theorem fld1 (r : Row9) (w : World) : (Instr.field 150 (.agg #[.string r.word, .int .i64 r.fam, .int .i64 r.least, .int .i64 r.most, .int .i64 r.low, .int .i64 r.high, .string r.said, .int .i64 r.scr, .bool r.wei]) 1).run Tryz.prog w = .ok (.int .i64 r.fam) w := by kernel_rfl
theorem fld2 (r : Row9) (w : World) : (Instr.field 150 (.agg #[.string r.word, .int .i64 r.fam, .int .i64 r.least, .int .i64 r.most, .int .i64 r.low, .int .i64 r.high, .string r.said, .int .i64 r.scr, .bool r.wei]) 2).run Tryz.prog w = .ok (.int .i64 r.least) w := by kernel_rfl
theorem fld3 (r : Row9) (w : World) : (Instr.field 150 (.agg #[.string r.word, .int .i64 r.fam, .int .i64 r.least, .int .i64 r.most, .int .i64 r.low, .int .i64 r.high, .string r.said, .int .i64 r.scr, .bool r.wei]) 3).run Tryz.prog w = .ok (.int .i64 r.most) w := by kernel_rfl
theorem fld4 (r : Row9) (w : World) : (Instr.field 150 (.agg #[.string r.word, .int .i64 r.fam, .int .i64 r.least, .int .i64 r.most, .int .i64 r.low, .int .i64 r.high, .string r.said, .int .i64 r.scr, .bool r.wei]) 4).run Tryz.prog w = .ok (.int .i64 r.low) w := by kernel_rfl
theorem fld5 (r : Row9) (w : World) : (Instr.field 150 (.agg #[.string r.word, .int .i64 r.fam, .int .i64 r.least, .int .i64 r.most, .int .i64 r.low, .int .i64 r.high, .string r.said, .int .i64 r.scr, .bool r.wei]) 5).run Tryz.prog w = .ok (.int .i64 r.high) w := by kernel_rfl
theorem fld7 (r : Row9) (w : World) : (Instr.field 150 (.agg #[.string r.word, .int .i64 r.fam, .int .i64 r.least, .int .i64 r.most, .int .i64 r.low, .int .i64 r.high, .string r.said, .int .i64 r.scr, .bool r.wei]) 7).run Tryz.prog w = .ok (.int .i64 r.scr) w := by kernel_rfl
theorem fld8 (r : Row9) (w : World) : (Instr.field 150 (.agg #[.string r.word, .int .i64 r.fam, .int .i64 r.least, .int .i64 r.most, .int .i64 r.low, .int .i64 r.high, .string r.said, .int .i64 r.scr, .bool r.wei]) 8).run Tryz.prog w = .ok (.bool r.wei) w := by kernel_rfl
set_option maxRecDepth 8000 in
set_option maxHeartbeats 1000000 in
theorem sharedFam_any (k : Int) (w : World) (hg : Glob w) (hk : I64 k) : Calls Tryz.prog 99 #[shV k] w (IntB w (Cn.fam k)) := by
  have hb : Below w.heap.size w (w.alloc (.cells #[.int .i64 k] 132)) := (Below.refl _ _).alloc (Nat.le_refl _) _
  have K := hide (row_any k (w.alloc (.cells #[.int .i64 k] 132)) (hg.on hb) hk)
  rw [← Cn.rowK_fam]
  generalize Cn.rowK k = r at *
  have f1 := fld1 r
  clear hg
  unfold shV rowV at *
  go_enter Tryz.func99, Tryz.ntmps99
  go_wp2_with fail
  refine (unhide K).mono ?_
  rintro e w1 ⟨rfl, hb1⟩
  have HF : IntB w r.fam (.returned (.int .i64 r.fam)) w1 := ⟨rfl, bthen hb hb1⟩
  clear K hb hb1
  go_wp2
  go_ret
  exact HF
set_option maxRecDepth 8000 in
set_option maxHeartbeats 1000000 in
theorem family_any (k : Int) (w : World) (hg : Glob w) (hk : I64 k) : Calls Tryz.prog 68 #[.int .i64 k] w (IntB w (Cn.fam k)) := by
  have K := hide (sharedFam_any k w hg hk)
  generalize Cn.fam k = f at *
  unfold shV at K
  clear hg
  go_enter Tryz.func68, Tryz.ntmps68
  go_wp2_with fail
  refine (unhide K).mono ?_
  rintro e w1 ⟨rfl, hb1⟩
  clear K
  go_wp2
  go_ret
  exact ⟨rfl, hb1⟩
/-- A kind's shape, as an interface value. -/
def shape (k : Int) : Value := .iface (if k = 4 then 136 else if k = 5 ∨ k = 7 ∨ k = 8 ∨ k = 13 then 137 else if k = 15 then 138 else 134) (shV k)
set_option maxHeartbeats 2000000 in
theorem shapeOf_any (k : Int) (w : World) (hk : I64 k) : Calls Tryz.prog 66 #[.int .i64 k] w (fun e w' => e = .returned (shape k) ∧ Below w.heap.size w w') := by
  have hb : Below w.heap.size w (w.alloc (.cells #[.int .i64 k] 132)) := (Below.refl _ _).alloc (Nat.le_refl _) _
  unfold shape shV
  obtain ⟨k0, k1⟩ := hk
  by_cases h4 : k = 4
  · subst h4
    go_enter Tryz.func66, Tryz.ntmps66
    go_wp2
    go_ret
    exact ⟨rfl, hb⟩
  · by_cases h5 : k = 5 ∨ k = 7 ∨ k = 8 ∨ k = 13
    · rcases h5 with rfl | rfl | rfl | rfl
      all_goals
        go_enter Tryz.func66, Tryz.ntmps66
        go_wp2
        go_ret
        exact ⟨rfl, hb⟩
    · by_cases h15 : k = 15
      · subst h15
        go_enter Tryz.func66, Tryz.ntmps66
        go_wp2
        go_ret
        exact ⟨rfl, hb⟩
      · rw [if_neg h4, if_neg h5, if_neg h15]
        have q4 : (k == 4) = false := beq_eq_false_iff_ne.2 h4
        have q5 : (k == 5) = false := beq_eq_false_iff_ne.2 (by omega)
        have q7 : (k == 7) = false := beq_eq_false_iff_ne.2 (by omega)
        have q8 : (k == 8) = false := beq_eq_false_iff_ne.2 (by omega)
        have q13 : (k == 13) = false := beq_eq_false_iff_ne.2 (by omega)
        have q15 : (k == 15) = false := beq_eq_false_iff_ne.2 h15
        clear h4 h5 h15
        go_enter Tryz.func66, Tryz.ntmps66
        go_wp2
        go_ret
        exact ⟨rfl, hb⟩
/-! What a call through a kind's shape comes to. -/
theorem mFamilyShifted (k : Int) (w : World) : (method 282 136 (.agg #[.int .i64 k]) "endonym/table.family").run Tryz.prog w = .ok (99, .agg #[.int .i64 k]) w := by kernel_rfl
theorem mPlacedShifted (k : Int) (w : World) : (method 282 136 (.agg #[.int .i64 k]) "endonym/table.placed").run Tryz.prog w = .ok (155, .agg #[.int .i64 k]) w := by kernel_rfl
theorem mTargetedShifted (k : Int) (w : World) : (method 282 136 (.agg #[.int .i64 k]) "endonym/table.targeted").run Tryz.prog w = .ok (139, .agg #[.int .i64 k]) w := by kernel_rfl
theorem mNumberedShifted (k : Int) (w : World) : (method 282 136 (.agg #[.int .i64 k]) "endonym/table.numbered").run Tryz.prog w = .ok (136, .agg #[.int .i64 k]) w := by kernel_rfl
theorem mNamedShifted (k : Int) (w : World) : (method 282 136 (.agg #[.int .i64 k]) "endonym/table.named").run Tryz.prog w = .ok (134, .agg #[.int .i64 k]) w := by kernel_rfl
theorem mWeighedShifted (k : Int) (w : World) : (method 282 136 (.agg #[.int .i64 k]) "endonym/table.weighed").run Tryz.prog w = .ok (140, .agg #[.int .i64 k]) w := by kernel_rfl
theorem mSpokenShifted (k : Int) (w : World) : (method 282 136 (.agg #[.int .i64 k]) "endonym/table.spoken").run Tryz.prog w = .ok (156, .agg #[.int .i64 k]) w := by kernel_rfl
theorem mFamilySingle (k : Int) (w : World) : (method 282 137 (.agg #[.int .i64 k]) "endonym/table.family").run Tryz.prog w = .ok (99, .agg #[.int .i64 k]) w := by kernel_rfl
theorem mPlacedSingle (k : Int) (w : World) : (method 282 137 (.agg #[.int .i64 k]) "endonym/table.placed").run Tryz.prog w = .ok (159, .agg #[.int .i64 k]) w := by kernel_rfl
theorem mTargetedSingle (k : Int) (w : World) : (method 282 137 (.agg #[.int .i64 k]) "endonym/table.targeted").run Tryz.prog w = .ok (139, .agg #[.int .i64 k]) w := by kernel_rfl
theorem mNumberedSingle (k : Int) (w : World) : (method 282 137 (.agg #[.int .i64 k]) "endonym/table.numbered").run Tryz.prog w = .ok (136, .agg #[.int .i64 k]) w := by kernel_rfl
theorem mNamedSingle (k : Int) (w : World) : (method 282 137 (.agg #[.int .i64 k]) "endonym/table.named").run Tryz.prog w = .ok (134, .agg #[.int .i64 k]) w := by kernel_rfl
theorem mWeighedSingle (k : Int) (w : World) : (method 282 137 (.agg #[.int .i64 k]) "endonym/table.weighed").run Tryz.prog w = .ok (140, .agg #[.int .i64 k]) w := by kernel_rfl
theorem mSpokenSingle (k : Int) (w : World) : (method 282 137 (.agg #[.int .i64 k]) "endonym/table.spoken").run Tryz.prog w = .ok (138, .agg #[.int .i64 k]) w := by kernel_rfl
theorem mFamilyPaired (k : Int) (w : World) : (method 282 138 (.agg #[.int .i64 k]) "endonym/table.family").run Tryz.prog w = .ok (99, .agg #[.int .i64 k]) w := by kernel_rfl
theorem mPlacedPaired (k : Int) (w : World) : (method 282 138 (.agg #[.int .i64 k]) "endonym/table.placed").run Tryz.prog w = .ok (162, .agg #[.int .i64 k]) w := by kernel_rfl
theorem mTargetedPaired (k : Int) (w : World) : (method 282 138 (.agg #[.int .i64 k]) "endonym/table.targeted").run Tryz.prog w = .ok (139, .agg #[.int .i64 k]) w := by kernel_rfl
theorem mNumberedPaired (k : Int) (w : World) : (method 282 138 (.agg #[.int .i64 k]) "endonym/table.numbered").run Tryz.prog w = .ok (136, .agg #[.int .i64 k]) w := by kernel_rfl
theorem mNamedPaired (k : Int) (w : World) : (method 282 138 (.agg #[.int .i64 k]) "endonym/table.named").run Tryz.prog w = .ok (134, .agg #[.int .i64 k]) w := by kernel_rfl
theorem mWeighedPaired (k : Int) (w : World) : (method 282 138 (.agg #[.int .i64 k]) "endonym/table.weighed").run Tryz.prog w = .ok (140, .agg #[.int .i64 k]) w := by kernel_rfl
theorem mSpokenPaired (k : Int) (w : World) : (method 282 138 (.agg #[.int .i64 k]) "endonym/table.spoken").run Tryz.prog w = .ok (138, .agg #[.int .i64 k]) w := by kernel_rfl
theorem mFamilySpanned (k : Int) (w : World) : (method 282 134 (.agg #[.int .i64 k]) "endonym/table.family").run Tryz.prog w = .ok (99, .agg #[.int .i64 k]) w := by kernel_rfl
theorem mPlacedSpanned (k : Int) (w : World) : (method 282 134 (.agg #[.int .i64 k]) "endonym/table.placed").run Tryz.prog w = .ok (154, .agg #[.int .i64 k]) w := by kernel_rfl
theorem mTargetedSpanned (k : Int) (w : World) : (method 282 134 (.agg #[.int .i64 k]) "endonym/table.targeted").run Tryz.prog w = .ok (139, .agg #[.int .i64 k]) w := by kernel_rfl
theorem mNumberedSpanned (k : Int) (w : World) : (method 282 134 (.agg #[.int .i64 k]) "endonym/table.numbered").run Tryz.prog w = .ok (136, .agg #[.int .i64 k]) w := by kernel_rfl
theorem mNamedSpanned (k : Int) (w : World) : (method 282 134 (.agg #[.int .i64 k]) "endonym/table.named").run Tryz.prog w = .ok (134, .agg #[.int .i64 k]) w := by kernel_rfl
theorem mWeighedSpanned (k : Int) (w : World) : (method 282 134 (.agg #[.int .i64 k]) "endonym/table.weighed").run Tryz.prog w = .ok (140, .agg #[.int .i64 k]) w := by kernel_rfl
theorem mSpokenSpanned (k : Int) (w : World) : (method 282 134 (.agg #[.int .i64 k]) "endonym/table.spoken").run Tryz.prog w = .ok (138, .agg #[.int .i64 k]) w := by kernel_rfl
end Go.Proofs.YtdnkfnccbmbpaaaGreatDoor
