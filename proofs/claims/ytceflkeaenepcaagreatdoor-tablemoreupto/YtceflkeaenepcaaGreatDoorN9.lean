import Derived.Test.YtceflkeaenepcaaGreatDoorN1
import Derived.Test.YtceflkeaenepcaaGreatDoorN10
import Derived.Deep.Cut
import Derived.Laws.BytesArg
import Derived.Laws.AppendOwnNone
import Derived.Deep.QuietTactic
import Derived.BigQuiet
import Derived.Test.YtceflkeaenepcaaGreatDoorN11
import Derived.Lib.OthersKept
import Derived.Lib.DecodeN
namespace Go.Proofs.YtceflkeaenepcaaGreatDoor
open Go.RowKit
def Byt (zs : List Int) : Prop := ∀ z ∈ zs, 0 ≤ z ∧ z ≤ 255
theorem Byt.at {zs : List Int} (h : Byt zs) (k : Nat) : 0 ≤ zs.getD k 0 ∧ zs.getD k 0 ≤ 255 := by
  rcases Nat.lt_or_ge k zs.length with hk | hk
  · simp only [List.getD, List.getElem?_eq_getElem hk, Option.getD_some]; exact h _ (List.getElem_mem hk)
  · simp [List.getD, List.getElem?_eq_none hk]
def nums (s : ByteArray) : List Int := s.data.toList.map fun b => (b.toNat : Int)
theorem nums_length (s : ByteArray) : (nums s).length = s.size := by
  rw [nums, List.length_map, Array.length_toList]; rfl
theorem nums_byt (s : ByteArray) : Byt (nums s) := by
  intro z hz
  obtain ⟨b, _, rfl⟩ := List.mem_map.1 hz
  have := b.toNat_lt
  omega
theorem nums_at (s : ByteArray) (k : Nat) (hk : k < s.size) : ((s[k]'hk).toNat : Int) = (nums s).getD k 0 := by
  have h : k < s.data.size := hk
  have e : (nums s)[k]? = some ((s.data[k]'h).toNat : Int) := by
    rw [nums, List.getElem?_map, Array.getElem?_toList, Array.getElem?_eq_getElem h]; rfl
  rw [List.getD, e]; rfl
theorem run_at (s : ByteArray) (i : Int) (k : Nat) (hi : i = k) (hk : k < s.size) (w : World) : (Instr.index 9 (.string s) (.int .i64 i)).run Tryz.prog w = .ok (.int .u8 ((nums s).getD k 0)) w := by
  subst hi
  rw [run_index_string w 9 s .i64 (k : Int) Tryz.underlying9, dif_pos (by omega), ← nums_at s k hk]
  simp
theorem nums_cut (s : ByteArray) (a b : Nat) : nums (s.extract a b) = ((nums s).drop a).take (b - a) := by
  rw [nums, nums, ByteArray.data_extract, Array.toList_extract, List.extract_eq_take_drop, List.map_take, List.map_drop]
theorem nums_append (a b : ByteArray) : nums (a ++ b) = nums a ++ nums b := by
  rw [nums, nums, nums, ByteArray.data_append, Array.toList_append, List.map_append]
theorem nums_inj {a b : ByteArray} (h : nums a = nums b) : a = b := by
  apply ByteArray.ext
  apply Array.toList_inj.1
  exact List.map_inj_right (fun x y e => by
    have : x.toNat = y.toNat := by omega
    exact UInt8.toNat_inj.1 this) |>.1 h
end Go.Proofs.YtceflkeaenepcaaGreatDoor
namespace Go.Proofs.YtceflkeaenepcaaGreatDoor.Sn
open Go.RowKit
def CodeIs (w : World) (r : Int × Bool) (e : Ending) (w' : World) : Prop := e = .returned (.tuple #[.int .i32 r.1, .bool r.2]) ∧ w' = w
end Go.Proofs.YtceflkeaenepcaaGreatDoor.Sn
namespace Go.Proofs.YtceflkeaenepcaaGreatDoor.Sn
open Go.RowKit
def BoolIs (w : World) (b : Bool) (e : Ending) (w' : World) : Prop := e = .returned (.bool b) ∧ w' = w
theorem BoolIs.mk {w : World} {b c : Bool} (h : c = b) : BoolIs w b (.returned (.bool c)) w := by subst h; exact ⟨rfl, rfl⟩
def SpanIs (w : World) (r : Option (Int × Int)) (e : Ending) (w' : World) : Prop := e = .returned (.tuple #[.int .i32 ((r.map (·.1)).getD 0), .int .i32 ((r.map (·.2)).getD 0), .bool r.isSome]) ∧ w' = w
theorem SpanIs.no {w : World} {r : Option (Int × Int)} (h : r = none) : SpanIs w r (.returned (.tuple #[.int .i32 0, .int .i32 0, .bool false])) w := by subst h; exact ⟨rfl, rfl⟩
theorem SpanIs.yes {w : World} {r : Option (Int × Int)} {a b : Int} (h : r = some (a, b)) : SpanIs w r (.returned (.tuple #[.int .i32 a, .int .i32 b, .bool true])) w := by subst h; exact ⟨rfl, rfl⟩
end Go.Proofs.YtceflkeaenepcaaGreatDoor.Sn
namespace Go.Proofs.YtceflkeaenepcaaGreatDoor.Sn
open Go.RowKit
def WholeIs (w : World) (r : Int × Bool) (e : Ending) (w' : World) : Prop := e = .returned (.tuple #[.int .i64 r.1, .bool r.2]) ∧ w' = w
theorem WholeIs.no {w : World} {o : Option Int} (h : o = none) : WholeIs w (Scn.told o) (.returned (.tuple #[.int .i64 0, .bool false])) w := by subst h; exact ⟨rfl, rfl⟩
theorem WholeIs.yes {w : World} {o : Option Int} {n : Int} (h : o = some n) : WholeIs w (Scn.told o) (.returned (.tuple #[.int .i64 n, .bool true])) w := by subst h; exact ⟨rfl, rfl⟩
theorem nums_nought {s : ByteArray} : nums s = [48] ↔ s = ⟨#[48]⟩ := by
  constructor
  · intro h
    apply nums_inj
    rw [h]; rfl
  · intro h; subst h; rfl
theorem eq_nought {s : ByteArray} (h : s = ⟨#[48]⟩) : (s.toList == [48]) = true := by subst h; simp
theorem ne_nought {s : ByteArray} (h : ¬ s = ⟨#[48]⟩) : (s.toList == [48]) = false := by
  refine beq_eq_false_iff_ne.2 fun e => h (nums_nought.1 ?_)
  rw [ByteArray.toList_eq] at e
  rw [nums, e]; rfl
end Go.Proofs.YtceflkeaenepcaaGreatDoor.Sn
namespace Go.Proofs.YtceflkeaenepcaaGreatDoor.Sn
open Go.RowKit
def TextIs (w : World) (zs : List Int) (e : Ending) (w' : World) : Prop := ∃ t : ByteArray, nums t = zs ∧ e = .returned (.string t) ∧ w' = w
theorem hexsign (d : Int) (h1 : 0 ≤ d) (h2 : d < 16) : nums ((⟨#[48, 49, 50, 51, 52, 53, 54, 55, 56, 57, 65, 66, 67, 68, 69, 70]⟩ : ByteArray).extract d.toNat (d + 1).toNat) = [Scn.hexc d] := by
  have h : d = 0 ∨ d = 1 ∨ d = 2 ∨ d = 3 ∨ d = 4 ∨ d = 5 ∨ d = 6 ∨ d = 7 ∨ d = 8 ∨ d = 9 ∨ d = 10 ∨ d = 11 ∨ d = 12 ∨ d = 13 ∨ d = 14 ∨ d = 15 := by omega
  rw [nums_cut]
  rcases h with rfl | rfl | rfl | rfl | rfl | rfl | rfl | rfl | rfl | rfl | rfl | rfl | rfl | rfl | rfl | rfl <;> rfl
end Go.Proofs.YtceflkeaenepcaaGreatDoor.Sn
namespace Go.Proofs.YtceflkeaenepcaaGreatDoor.Sn
open Go.RowKit
def TextNew (w : World) (zs : List Int) (e : Ending) (w' : World) : Prop := ∃ t : ByteArray, nums t = zs ∧ e = .returned (.string t) ∧ Below w.heap.size w w'
theorem TextIs.new {w w' : World} {zs : List Int} {e : Ending} (h : TextIs w zs e w') : TextNew w zs e w' := by
  obtain ⟨t, h1, h2, rfl⟩ := h
  exact ⟨t, h1, h2, Below.refl _ _⟩
theorem nums_strOf {zs : List Int} (h : Byt zs) : nums (strOfNums zs) = zs := by
  rw [nums, strOfNums_data, List.map_map]
  refine (List.map_congr_left fun z hz => ?_).trans (List.map_id zs)
  have := h z hz
  simp only [Function.comp, id]
  rw [UInt8.toNat_ofNat']
  omega
theorem conv_one (w : World) (b : Int) : (convert 88 9 (.slice (some ⟨w.heap.size, 0, none⟩) 1 1)).run Tryz.prog (w.alloc (.cells #[.int .u8 b] 5)) = .ok (.string (strOfNums [b])) (w.alloc (.cells #[.int .u8 b] 5)) := by
  refine run_convert_bytes_arg _ 88 5 Tryz.underlying88 Tryz.underlying5 w.heap.size 0 1 1 [b] rfl ?_ 9 Tryz.underlying9
  intro i hi
  obtain rfl : i = 0 := by simp at hi; omega
  simp [World.cell?, World.alloc, -World.alloc_eq]
end Go.Proofs.YtceflkeaenepcaaGreatDoor.Sn
namespace Go.Proofs.YtceflkeaenepcaaGreatDoor.Sn
open Go.RowKit
theorem Tryz.info9 : (Tryz.prog.info? 9).map (fun i => (i.zero, i.size, i.bytes)) = some (some (.string ⟨#[]⟩), 1, 16) := by kernel_rfl
theorem strOf_nums (s : ByteArray) : strOfNums (nums s) = s := nums_inj (nums_strOf (nums_byt s))
def txts (ls : List (List Int)) : List Value := ls.map fun l => Value.string (strOfNums l)
theorem txts_snoc (ls : List (List Int)) (s : ByteArray) {l : List Int} (h : nums s = l) : txts ls ++ [.string s] = txts (ls ++ [l]) := by
  rw [txts, txts, List.map_append, ← h, List.map_singleton, strOf_nums]
theorem string_one (s : ByteArray) : ∀ u ∈ [Value.string s], u.oneCell' = true := by intro u hu; simp at hu; subst hu; rfl
def TextsNew (w : World) (ls : List (List Int)) (e : Ending) (w' : World) : Prop := ∃ v, e = .returned v ∧ Ow 9 w' w.heap.size v (txts ls) ∧ Below w.heap.size w w'
end Go.Proofs.YtceflkeaenepcaaGreatDoor.Sn
namespace Go.Proofs.YtceflkeaenepcaaGreatDoor.Sn
open Go.RowKit
def wvals (ws : List (List Int × Nat)) : List Value := ws.flatMap fun p => [Value.string (strOfNums p.1), Value.int .i64 (p.2 : Int)]
theorem wvals_snoc (ws : List (List Int × Nat)) (s : ByteArray) (a : Nat) {l : List Int} (h : nums s = l) : wvals ws ++ [.string s, .int .i64 (a : Int)] = wvals (ws ++ [(l, a)]) := by
  rw [wvals, wvals, List.flatMap_append, ← h]
  simp [strOf_nums]
theorem word_one (s : ByteArray) (a : Int) : ∀ u ∈ [Value.string s, Value.int .i64 a], u.oneCell' = true := by
  intro u hu
  simp at hu
  rcases hu with rfl | rfl <;> rfl
theorem word_new (w : World) (e : TypeId) (s : ByteArray) (a : Int) : ∀ j u, [Value.string s, Value.int .i64 a][j]? = some u → (w.alloc (.cells #[.string s, .int .i64 a] e)).cell? ((⟨w.heap.size, 0, none⟩ : Addr).add j) = some u := by
  intro j u hj
  match j, hj with
  | 0, hj => simp at hj; subst hj; simp [World.cell?, World.alloc, Addr.add, -World.alloc_eq]
  | 1, hj => simp at hj; subst hj; simp [World.cell?, World.alloc, Addr.add, -World.alloc_eq]
  | j + 2, hj => simp at hj
theorem below_append2 {e : TypeId} {sz : Nat} {w wr w1 : World} {v : Value} {us : List Value} {n : Nat} {o : Obj} {B : Nat} (hB : B ≤ wr.heap.size) (hown : wr.ownsRow B e sz v n us)
    (hbel : Below B w wr) (hg : (wr.alloc o).grownBy w1 v.ownBlock) : Below B w w1 :=
  (hbel.alloc hB o).grown hg (by simp; omega) (fun k hk => (hown.lt k hk).1)
def WordsNew (t : TypeId) (w : World) (ws : List (List Int × Nat)) (n : Nat) (e : Ending) (w' : World) : Prop := ∃ v, e = .returned (.tuple #[v, .int .i64 (n : Int)]) ∧ w'.ownsRow w.heap.size t 2 v ws.length (wvals ws) ∧ Below w.heap.size w w'
end Go.Proofs.YtceflkeaenepcaaGreatDoor.Sn
namespace Go.Proofs.YtceflkeaenepcaaGreatDoor.Sn
open Go.RowKit
end Go.Proofs.YtceflkeaenepcaaGreatDoor.Sn
namespace Go.Proofs.YtceflkeaenepcaaGreatDoor.Sn
open Go.RowKit
def Draws (w : World) (b : Bool) (e : Ending) (w' : World) : Prop := e = .returned (.bool b) ∧ ∃ m, w' = w.drewN m
theorem drew0 (w : World) : ∃ m, w = w.drewN m := ⟨0, rfl⟩
theorem drews {w w' : World} (h : ∃ m, w' = w.drewN m) (n : Nat) : ∃ m, w'.drewN n = w.drewN m := by
  obtain ⟨m, rfl⟩ := h
  exact ⟨m + n, by rw [World.drewN_drewN]⟩
theorem drewB {w w' : World} (h : ∃ m, w' = w.drewN m) : Below w.heap.size w w' := by
  obtain ⟨m, rfl⟩ := h
  exact below_drewN (Below.refl _ _) m
theorem self_beq (t : ByteArray) : (t.toList == t.toList) = true := beq_self_eq_true _
theorem txts_length (ls : List (List Int)) : (txts ls).length = ls.length := List.length_map _
theorem txts_at {ls : List (List Int)} {i : Nat} (h : i < ls.length) : (txts ls).getD i undef = .string (strOfNums (ls.getD i [])) := by simp [txts, List.getD, h]
end Go.Proofs.YtceflkeaenepcaaGreatDoor.Sn
namespace Go.Proofs.YtceflkeaenepcaaGreatDoor.Sn
open Go.RowKit
abbrev Wrd := List Int × Nat
theorem wvals_length (ws : List Wrd) : (wvals ws).length = ws.length * 2 := by
  induction ws with
  | nil => rfl
  | cons p ws ih =>
    rw [wvals, List.flatMap_cons, List.length_append] at *
    simp only [List.length_cons, List.length_nil]
    rw [ih]; omega
theorem wvals_at : ∀ (ws : List Wrd) (i : Nat), i < ws.length → (wvals ws)[i * 2]? = some (.string (strOfNums (ws.getD i ([], 0)).1)) ∧ (wvals ws)[i * 2 + 1]? = some (.int .i64 ((ws.getD i ([], 0)).2 : Int))
  | [], i, h => by simp at h
  | p :: ws, 0, _ => ⟨rfl, rfl⟩
  | p :: ws, i + 1, h => by
    have := wvals_at ws i (by simpa using h)
    rw [show (i + 1) * 2 = i * 2 + 2 by omega]
    exact this
def Wd (w : World) (v : Value) (ws : List Wrd) : Prop := (ws = [] ∧ ∃ ao cap, v = .slice ao 0 cap ∧ cap ≤ 9223372036854775807) ∨
  ∃ b off cap, v = .slice (some ⟨b, off, none⟩) ws.length cap ∧ ws.length ≤ cap ∧ cap ≤ 9223372036854775807 ∧ ∀ i, i < ws.length → w.cell? ⟨b, off + i * 2, none⟩ = some (.string (strOfNums (ws.getD i ([], 0)).1)) ∧ w.cell? ⟨b, off + i * 2 + 1, none⟩ = some (.int .i64 ((ws.getD i ([], 0)).2 : Int))
theorem Wd.own {w : World} {B : Nat} {t : TypeId} {v : Value} {ws : List Wrd} (h : w.ownsRow B t 2 v ws.length (wvals ws)) : Wd w v ws := by
  have h3' := h
  obtain ⟨_, hcase⟩ := h
  rcases hcase with ⟨rfl, h0⟩ | ⟨g, cap, cur, hv, hg, hh, hn, hcap, hsz, htake⟩
  · exact .inl ⟨List.eq_nil_of_length_eq_zero h0, none, 0, rfl, by omega⟩
  · refine .inr ⟨g, 0, cap, hv, hn, by unfold maxLen at hcap; omega, fun i hi => ?_⟩
    obtain ⟨h1, h2⟩ := wvals_at ws i hi
    have e1 := h3'.cells (g := g) (by rw [hv]; rfl) _ _ h1
    have e2 := h3'.cells (g := g) (by rw [hv]; rfl) _ _ h2
    rw [addr_add] at e1 e2
    exact ⟨e1, e2⟩
theorem Wd.below {w w' : World} {v : Value} {ws : List Wrd} (h : Wd w v ws) (hb : Below w.heap.size w w') : Wd w' v ws := by
  rcases h with h | ⟨b, off, cap, h1, h2, h3, h4⟩
  · exact .inl h
  · refine .inr ⟨b, off, cap, h1, h2, h3, fun i hi => ?_⟩
    obtain ⟨a, c⟩ := h4 i hi
    exact ⟨by rw [hb.cell (lt_of_cell? a)]; exact a, by rw [hb.cell (lt_of_cell? c)]; exact c⟩
theorem Wd.shape {w : World} {v : Value} {ws : List Wrd} (h : Wd w v ws) : ∃ ao cap, v = .slice ao ws.length cap ∧ cap ≤ 9223372036854775807 := by
  rcases h with ⟨rfl, ao, cap, h1, h2⟩ | ⟨b, off, cap, h1, h2, h3, h4⟩
  · exact ⟨ao, cap, h1, h2⟩
  · exact ⟨_, cap, h1, h3⟩
theorem Wd.place {w : World} {v : Value} {ws : List Wrd} (h : Wd w v ws) (hp : 0 < ws.length) : ∃ b off cap, v = .slice (some ⟨b, off, none⟩) ws.length cap ∧ ws.length ≤ cap ∧ cap ≤ 9223372036854775807 ∧ ∀ i, i < ws.length → w.cell? ⟨b, off + i * 2, none⟩ = some (.string (strOfNums (ws.getD i ([], 0)).1)) ∧ w.cell? ⟨b, off + i * 2 + 1, none⟩ = some (.int .i64 ((ws.getD i ([], 0)).2 : Int)) := by
  rcases h with ⟨rfl, _⟩ | h
  · simp at hp
  · exact h
end Go.Proofs.YtceflkeaenepcaaGreatDoor.Sn
namespace Go.Proofs.YtceflkeaenepcaaGreatDoor.Sn
open Go.RowKit
def Glob (w : World) : Prop := (∃ m, w.cell? ⟨2, 0, none⟩ = some (.int .i64 m)) ∧ Lib.TabIs Tryz.prog w "internal/strconv.uint64pow10" .u64 Lib.pow10Tab ∧ w.cell? ⟨8, 15, none⟩ = some (.int .u8 4)
theorem tab_on {P : Program} {w w' : World} {name : String} {k : IntKind} {zs : List Int} (h : Lib.TabIs P w name k zs) (hb : Below w.heap.size w w') : Lib.TabIs P w' name k zs := by
  unfold Lib.TabIs World.var? at *
  cases hg : P.globalNamed name with
  | none => simp [hg] at h
  | some g =>
    simp only [hg, Option.bind_some] at h ⊢
    have hlt : g < w.heap.size := by
      rcases Nat.lt_or_ge g w.heap.size with h' | h'
      · exact h'
      · rw [Array.getElem?_eq_none h'] at h; simp at h
    rw [hb.block g hlt]
    exact h
theorem Glob.on {w w' : World} (h : Glob w) (hb : Below w.heap.size w w') : Glob w' := by
  obtain ⟨⟨m, h1⟩, h2, h3⟩ := h
  refine ⟨⟨m, ?_⟩, tab_on h2 hb, ?_⟩
  · rw [hb.cell (lt_of_cell? h1)]; exact h1
  · rw [hb.cell (lt_of_cell? h3)]; exact h3
theorem below_drewN (w : World) (n : Nat) : Below w.heap.size w (w.drewN n) := ⟨rfl, rfl, rfl, Nat.le_refl _, fun _ _ => rfl⟩
theorem below_grow (w : World) (n : Nat) (os : Array Obj) : Below w.heap.size w (Sort.grow (w.drewN n) os) := by
  refine ⟨rfl, rfl, rfl, ?_, fun k hk => ?_⟩
  · show w.heap.size ≤ (w.heap ++ os).size
    simp
  · show (w.heap ++ os)[k]? = w.heap[k]?
    rw [Array.getElem?_append_left hk]
end Go.Proofs.YtceflkeaenepcaaGreatDoor.Sn
namespace Go.Proofs.YtceflkeaenepcaaGreatDoor.Sn
open Go.RowKit
def CodeB (w : World) (r : Int × Bool) (e : Ending) (w' : World) : Prop := e = .returned (.tuple #[.int .i32 r.1, .bool r.2]) ∧ Below w.heap.size w w'
def SpanB (w : World) (r : Option (Int × Int)) (e : Ending) (w' : World) : Prop := e = .returned (.tuple #[.int .i32 ((r.map (·.1)).getD 0), .int .i32 ((r.map (·.2)).getD 0), .bool r.isSome]) ∧ Below w.heap.size w w'
def WholeB (w : World) (r : Int × Bool) (e : Ending) (w' : World) : Prop := e = .returned (.tuple #[.int .i64 r.1, .bool r.2]) ∧ Below w.heap.size w w'
def Tells (w : World) (b : Bool) (e : Ending) (w' : World) : Prop := e = .returned (.bool b) ∧ Below w.heap.size w w'
def LinesC : Prop := ∀ (s : ByteArray) (w : World), Glob w → s.size ≤ 1000000000 → Calls Tryz.prog 24 #[.string s] w (TextsNew w (Scn.lines (nums s)))
def WordsC : Prop := ∀ (s : ByteArray) (w : World), Glob w → s.size ≤ 1000000000 → Calls Tryz.prog 35 #[.string s] w (WordsNew 84 w (Scn.words (nums s)) (Scn.endA (nums s)))
def CodeC : Prop := ∀ (s : ByteArray) (w : World), Glob w → s.size ≤ 1000000000 → Calls Tryz.prog 142 #[.string s] w (CodeB w (Scn.told (Scn.code (nums s))))
def SpanC : Prop := ∀ (s : ByteArray) (w : World), Glob w → s.size ≤ 1000000000 → Calls Tryz.prog 378 #[.string s] w (SpanB w (Scn.span (nums s)))
def WholeC : Prop := ∀ (s : ByteArray) (w : World), Glob w → s.size ≤ 1000000000 → Calls Tryz.prog 145 #[.string s] w (WholeB w (Scn.told (Scn.whole (nums s))))
def NameC : Prop := ∀ (s : ByteArray) (w : World), Glob w → s.size ≤ 1000000000 → Calls Tryz.prog 135 #[.string s] w (Tells w (Scn.name (nums s)))
def PCodeC : Prop := ∀ (c : Int) (w : World), Glob w → (-2147483648 ≤ c ∧ c ≤ 2147483647) → Calls Tryz.prog 63 #[.int .i32 c] w (TextNew w (Scn.pcode c))
def PSpanC : Prop := ∀ (a b : Int) (w : World), Glob w → (-2147483648 ≤ a ∧ a ≤ 2147483647) → (-2147483648 ≤ b ∧ b ≤ 2147483647) → Calls Tryz.prog 134 #[.int .i32 a, .int .i32 b] w (TextNew w (Scn.pspan a b))
def PWholeC : Prop := ∀ (n : Int) (w : World), Glob w → (-9223372036854775808 ≤ n ∧ n ≤ 9223372036854775807) → Calls Tryz.prog 148 #[.int .i64 n] w (TextNew w (Scn.pwhole n))
end Go.Proofs.YtceflkeaenepcaaGreatDoor.Sn
namespace Go.Proofs.YtceflkeaenepcaaGreatDoor
open Go.RowKit
theorem get_num (s : ByteArray) (k : Nat) : (((s.get! k).toNat : Nat) : Int) = (nums s).getD k 0 := by
  rcases Nat.lt_or_ge k s.size with h | h
  · rw [← nums_at s k h]
    have e : s.get! k = s[k]'h := by
      simp [ByteArray.get!, getElem!_pos, h]
      rfl
    rw [e]
  · have h2 : ¬ k < s.data.size := by have : s.size = s.data.size := rfl; omega
    have e : s.get! k = default := by
      simp only [ByteArray.get!]
      exact getElem!_neg s.data k h2
    rw [e, List.getD, List.getElem?_eq_none (by rw [nums_length]; exact h)]
    rfl
theorem dec_low (s : ByteArray) (pos : Nat) (h : pos < s.size) (ha : (nums s).getD pos 0 < 128) : ((Utf8.decode s pos).1 : Int) = (nums s).getD pos 0 ∧ (Utf8.decode s pos).2 = 1 := by
  have e := nums_at s pos h
  rw [decode_ascii s pos h (by omega)]
  exact ⟨by omega, rfl⟩
theorem dec_high (s : ByteArray) (pos : Nat) (h : pos < s.size) (ha : 128 ≤ (nums s).getD pos 0) :
    128 ≤ ((Utf8.decode s pos).1 : Int) ∧ 1 ≤ (Utf8.decode s pos).2 ∧ pos + (Utf8.decode s pos).2 ≤ s.size ∧ ∀ j, pos ≤ j → j < pos + (Utf8.decode s pos).2 → 128 ≤ (nums s).getD j 0 := by
  have e := nums_at s pos h
  obtain ⟨h1, h2⟩ := decode_high s pos h (by omega)
  refine ⟨by omega, h2, ?_⟩
  have g0 := get_num s pos
  have g1 := get_num s (pos + 1)
  have g2 := get_num s (pos + 2)
  have g3 := get_num s (pos + 3)
  rw [Lib.decode_at]
  generalize (s.get! pos).toNat = b0 at *
  generalize (s.get! (pos + 1)).toNat = b1 at *
  generalize (s.get! (pos + 2)).toNat = b2 at *
  generalize (s.get! (pos + 3)).toNat = b3 at *
  have key : ∀ n, (n = 1 ∨ (n = 2 ∧ 1 < s.size - pos ∧ b1 / 64 = 2) ∨ (n = 3 ∧ 2 < s.size - pos ∧ b1 / 64 = 2 ∧ b2 / 64 = 2) ∨ (n = 4 ∧ 3 < s.size - pos ∧ b1 / 64 = 2 ∧ b2 / 64 = 2 ∧ b3 / 64 = 2)) → pos + n ≤ s.size ∧ ∀ j, pos ≤ j → j < pos + n → 128 ≤ (nums s).getD j 0 := by
    intro n hn
    refine ⟨by omega, fun j j1 j2 => ?_⟩
    obtain rfl | rfl | rfl | rfl : j = pos ∨ j = pos + 1 ∨ j = pos + 2 ∨ j = pos + 3 := by omega
    · exact ha
    · omega
    · omega
    · omega
  apply key
  unfold Lib.decodeN
  repeat' split
  all_goals simp_all
theorem dec_top (s : ByteArray) (pos : Nat) : ((Utf8.decode s pos).1 : Int) ≤ 2147483647 := by
  have := decode_le s pos
  omega
namespace Scn
theorem endA_run {l : List Int} {k n : Nat} (h : ∀ j, k ≤ j → j < k + n → l.getD j 0 ≠ 35) (hl : k + n ≤ l.length) : endA (l.drop k) = n + endA (l.drop (k + n)) := by
  induction n generalizing k with
  | zero => simp
  | succ n ih =>
    rw [endA_step (by omega), if_neg (h k (by omega) (by omega)), ih (k := k + 1) (fun j a b => h j (by omega) (by omega)) (by omega), show k + 1 + n = k + (n + 1) by omega]
    omega
theorem wordsA_run {l : List Int} {a k n : Nat} (ha : a ≤ k) (h : ∀ j, k ≤ j → j < k + n → isBlank (l.getD j 0) = false) (hl : k + n ≤ l.length) :
    wordsA k (cut l a k) (l.drop k) = wordsA (k + n) (cut l a (k + n)) (l.drop (k + n)) := by
  induction n generalizing k with
  | zero => simp
  | succ n ih =>
    rw [wordsA_go ha (by omega) (h k (by omega) (by omega)), ih (k := k + 1) (by omega) (fun j a b => h j (by omega) (by omega)) (by omega), show k + 1 + n = k + (n + 1) by omega]
theorem isBlank_high {c : Int} (h : 128 ≤ c) : isBlank c = false := by
  unfold isBlank
  rw [beq_eq_false_iff_ne.2 (by omega : c ≠ 32), beq_eq_false_iff_ne.2 (by omega : c ≠ 9), beq_eq_false_iff_ne.2 (by omega : c ≠ 13)]
  rfl
end Scn
end Go.Proofs.YtceflkeaenepcaaGreatDoor
namespace Go.Proofs.YtceflkeaenepcaaGreatDoor.Sn
open Go.RowKit
theorem Tryz.info84 : (Tryz.prog.info? 84).map (fun i => (i.zero, i.size, i.bytes)) = some (some (.agg #[.string ⟨#[]⟩, .int .i64 0]), 2, 24) := by kernel_rfl
theorem withWord_none (v : Value) (s : ByteArray) (k : Int) (w : World) : Calls Tryz.prog 59 #[v, .string s, .int .i64 (-1), .int .i64 k] w fun e w' => e = .returned v ∧ w' = w := by
  go_enter Tryz.func59, Tryz.ntmps59
  go_wp2
  go_ret
  exact ⟨rfl, rfl⟩
set_option maxHeartbeats 1000000 in
theorem withWord_more (B : Nat) (v : Value) (ws : List (List Int × Nat)) (s : ByteArray) (j k : Nat) (w : World) (how : w.ownsRow B 84 2 v ws.length (wvals ws)) (hB : B ≤ w.heap.size) (hjk : j ≤ k) (hk : k ≤ s.size) (hwl : ws.length ≤ 1000000000) :
    Calls Tryz.prog 59 #[v, .string s, .int .i64 (j : Int), .int .i64 (k : Int)] w fun e w' => ∃ v', e = .returned v' ∧ w'.ownsRow B 84 2 v' (ws ++ [(Scn.cut (nums s) j k, j)]).length (wvals (ws ++ [(Scn.cut (nums s) j k, j)])) ∧ Below B w w' := by
  obtain ⟨i0, hi, hz0, hz1, hz2⟩ := info_parts Tryz.info84
  have hne : (((j : Int)) == -1) = false := beq_eq_false_iff_ne.2 (by omega)
  go_enter Tryz.func59, Tryz.ntmps59
  go_wp2_with (at_builtin; refine wpList_append_own _ rfl (.tmp 12) (.tmp 19) 80 rfl B 84 i0 (.agg #[.string ⟨#[]⟩, .int .i64 0]) 2 24 Tryz.underlying80 hi hz0 hz1 hz2 rfl (by decide) _ _ _ rfl (how.alloc _) ⟨w.heap.size, 0, none⟩ 1 1 [.string (s.extract j k), .int .i64 (j : Int)] rfl rfl (word_new _ _ _ _) (word_one _ _) (by unfold maxLen; omega) (by omega) (by simp; omega) ?_)
  intro v9 w9 hrow9 hg9 _
  have hb9 : Below B w w9 := below_append2 hB how (Below.refl _ _) hg9
  rw [wvals_snoc ws _ j (nums_cut s j k)] at hrow9
  have HF : ∃ v', Ending.returned v9 = .returned v' ∧ w9.ownsRow B 84 2 v' (ws ++ [(Scn.cut (nums s) j k, j)]).length (wvals (ws ++ [(Scn.cut (nums s) j k, j)])) ∧ Below B w w9 := ⟨v9, rfl, by simpa [Scn.cut] using hrow9, hb9⟩
  clear hrow9 hg9 how hb9
  go_wp2
  go_ret
  exact HF
end Go.Proofs.YtceflkeaenepcaaGreatDoor.Sn
namespace Go.Proofs.YtceflkeaenepcaaGreatDoor.Sn
open Go.RowKit
theorem bool_beq (b : Bool) : (b == b) = true := beq_self_eq_true _
theorem int_beq (b : Int) : (b == b) = true := beq_self_eq_true _
end Go.Proofs.YtceflkeaenepcaaGreatDoor.Sn
