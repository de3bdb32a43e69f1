/- What the calls of package scalar and the document's own answer, as posts; strings as numbers; the contracts that the statements lean on. -/
import Derived.Test.YtgccindoinhphaaSameC
import Derived.Test.YtgccindoinhphaaUtfD
import Derived.Test.YtgccindoinhphaaSpl
namespace Go.Proofs.Ytgccindoinhphaa
open Go.RowKit

theorem Try.info21 : (Try.prog.info? 21).map (fun i => (i.zero, i.size, i.bytes)) = some (some (.int .i32 0), 1, 4) := by kernel_rfl

theorem Sk.lit (K : IntKind) (e : TypeId) (w : World) (g : Nat) (hg : g = w.heap.size) (zs : List Int) (n : Nat) (hn : zs.length = n) (C : Array Value) (hC : C = (zs.map (Value.int K)).toArray) (m : Nat × Nat) (hb : Fit K zs) (hl : zs.length ≤ 1000) :
    Sk K (w.alloc (.cells C e m)) (.slice (some ⟨g, 0, none⟩) n n) zs := by
  subst hC; subst hn; subst hg
  refine ⟨hb, by simp; omega, .inr ⟨w.heap.size, 0, zs.length, by simp, by simp, by omega, fun i hi => ?_⟩⟩
  rw [World.cell?_alloc_mark, Nat.zero_add]
  simp only [List.length_map] at hi
  simp [List.getD, hi]

theorem fit_u8_of {zs : List Int} (h : Utf.Byt zs) : Fit .u8 zs := fun z hz => u8_fit (h z hz)

/-- Are all of them so? -/
def allb (p : Int → Bool) (xs : List Int) : Bool := xs.all p
theorem allb_no {p : Int → Bool} {xs : List Int} {k : Nat} (hk : k < xs.length) (h : p (xs.getD k 0) = false) : allb p xs = false := by
  rw [allb, List.all_eq_false]
  refine ⟨xs[k], List.getElem_mem hk, ?_⟩
  simpa [List.getD, hk] using h
theorem allb_yes {p : Int → Bool} {xs : List Int} (h : ∀ k, k < xs.length → p (xs.getD k 0) = true) : allb p xs = true := by
  rw [allb, List.all_eq_true]
  intro x hx
  obtain ⟨i, hi, rfl⟩ := List.getElem_of_mem hx
  simpa [List.getD, hi] using h i hi

def okb (c : Int) : Bool := decide (Utf.okc c)
def ascb (c : Int) : Bool := decide (0 ≤ c ∧ c ≤ 127)

theorem Sk.src {K : IntKind} {w : World} {v : Value} {zs : List Int} (h : Sk K w v zs) : (zs = [] ∧ v = .slice none 0 0) ∨
    ∃ ad cap, v = .slice (some ad) zs.length cap ∧ ∀ j u, (zs.map (Value.int K))[j]? = some u → w.cell? (ad.add j) = some u := by
  rcases h.2.src with ⟨h1, h2⟩ | ⟨ad, cap, h1, h2⟩
  · exact .inl ⟨by simpa using h1, h2⟩
  · exact .inr ⟨ad, cap, by simpa using h1, h2⟩

/-- What Encode answers. -/
def EncPost (w : World) (r : List Int × Int × Int) (e : Ending) (w' : World) : Prop :=
  e = .returned (.tuple #[.string (strOfNums r.1), .int .i64 r.2.1, .int .i64 r.2.2]) ∧ Below w.heap.size w w'
theorem EncPost.mk {w w' : World} {r : List Int × Int × Int} {a : List Int} {b c : Int} (h : r = (a, b, c)) (hb : Below w.heap.size w w') : EncPost w r (.returned (.tuple #[.string (strOfNums a), .int .i64 b, .int .i64 c])) w' := by
  subst h; exact ⟨rfl, hb⟩
theorem EncPost.no {w w' : World} {r : List Int × Int × Int} {b c : Int} (h : r = ([], b, c)) (hb : Below w.heap.size w w') : EncPost w r (.returned (.tuple #[.string ⟨#[]⟩, .int .i64 b, .int .i64 c])) w' := EncPost.mk h hb

theorem drop_next {xs : List Int} {k : Nat} (hk : k < xs.length) : xs.drop k = xs.getD k 0 :: xs.drop (k + 1) := by
  rw [List.drop_eq_getElem_cons hk]
  simp [List.getD, hk]

theorem strOfNums_size (l : List Int) : (strOfNums l).size = l.length := by simp [strOfNums, ByteArray.size]

/-- What Bytes answers. -/
def cnt (r : List Int × Int × Int) : Int := if r.2.2 = 0 then (r.1.length : Int) else -1

def nums (s : ByteArray) : List Int := s.data.toList.map fun b => (b.toNat : Int)
theorem nums_length (s : ByteArray) : (nums s).length = s.size := by
  rw [nums, List.length_map, Array.length_toList]; rfl
theorem nums_byt (s : ByteArray) : Utf.Byt (nums s) := by
  intro z hz
  obtain ⟨b, _, rfl⟩ := List.mem_map.1 hz
  have := b.toNat_lt
  omega

theorem nums_at (s : ByteArray) (k : Nat) (hk : k < s.size) : ((s[k]'hk).toNat : Int) = (nums s).getD k 0 := by
  have h : k < s.data.size := hk
  have e : (nums s)[k]? = some ((s.data[k]'h).toNat : Int) := by
    rw [nums, List.getElem?_map, Array.getElem?_toList, Array.getElem?_eq_getElem h]; rfl
  rw [List.getD, e]; rfl

theorem run_at (s : ByteArray) (i : Int) (k : Nat) (hi : i = k) (hk : k < s.size) (w : World) : (Instr.index 9 (.string s) (.int .i64 i)).run Try.prog w = .ok (.int .u8 ((nums s).getD k 0)) w := by
  subst hi
  rw [run_index_string w 9 s .i64 (k : Int) Try.underlying9, dif_pos (by omega), ← nums_at s k hk]
  simp

/-- What Decode answers: the numbers, in memory of the call's own. -/
def DecPost (w : World) (r : List Int × Int × Int) (e : Ending) (w' : World) : Prop :=
  ∃ v, e = .returned (.tuple #[v, .int .i64 r.2.1, .int .i64 r.2.2]) ∧ Ok .i32 21 w' w.heap.size v r.1 ∧ Below w.heap.size w w'
theorem DecPost.err {w w' : World} {r : List Int × Int × Int} {p : Int} (h : r = ([], p, 30)) (hb : Below w.heap.size w w') : DecPost w r (.returned (.tuple #[.slice none 0 0, .int .i64 p, .int .i64 30])) w' := by
  subst h; exact ⟨_, rfl, Ok.nil _ _ _ _, hb⟩
theorem DecPost.end {w w' : World} {r : List Int × Int × Int} {v : Value} {xs : List Int} (h : r = (xs, 0, 0)) (hv : Ok .i32 21 w' w.heap.size v xs) (hb : Below w.heap.size w w') : DecPost w r (.returned (.tuple #[v, .int .i64 0, .int .i64 0])) w' := by
  subst h; exact ⟨_, rfl, hv, hb⟩

theorem nums_extract (s : ByteArray) (q : Nat) : nums (s.extract 0 q) = (nums s).take q := by
  rw [nums, nums, ByteArray.data_extract, Array.toList_extract, List.map_take]
  simp
theorem nums_append (a b : ByteArray) : nums (a ++ b) = nums a ++ nums b := by
  rw [nums, nums, nums, ByteArray.data_append, Array.toList_append, List.map_append]
theorem strOf_nums (s : ByteArray) : strOfNums (nums s) = s := by
  apply ByteArray.ext
  apply Array.toList_inj.1
  rw [strOfNums, nums, List.map_map]
  conv => rhs; rw [← List.map_id s.data.toList]
  apply List.map_congr_left
  intro x _
  simp
theorem nums_strOf {a : List Int} (h : Utf.Byt a) : nums (strOfNums a) = a := by
  rw [nums, strOfNums, List.map_map]
  conv => rhs; rw [← List.map_id a]
  apply List.map_congr_left
  intro x hx
  have := h x hx
  simp only [Function.comp, id, UInt8.toNat_ofNat']
  omega

/-- The slice value v holds lists of numbers. -/
def Rws (w : World) (v : Value) (xss : List (List Int)) : Prop :=
  ∃ us : List Value, us.length = xss.length ∧ Sv w v us ∧ ∀ i, i < xss.length → Sk .i32 w (us.getD i undef) (xss.getD i [])
theorem Rws.below {w w' : World} {v : Value} {xss : List (List Int)} (h : Rws w v xss) (hb : Below w.heap.size w w') : Rws w' v xss := by
  obtain ⟨us, h1, h2, h3⟩ := h
  exact ⟨us, h1, h2.below hb, fun i hi => (h3 i hi).below hb⟩
theorem Rws.shape {w : World} {v : Value} {xss : List (List Int)} (h : Rws w v xss) : ∃ ao cap, v = .slice ao xss.length cap ∧ xss.length ≤ cap ∧ cap ≤ 9223372036854775807 := by
  obtain ⟨us, h1, h2, h3⟩ := h
  rw [← h1]; exact h2.shape
theorem Rws.nil (w : World) : Rws w (.slice none 0 0) [] := ⟨[], rfl, Sv.nil w, fun i hi => by simp at hi⟩

def ValC : Prop := ∀ (c : Int) (w : World), -2147483648 ≤ c → c ≤ 2147483647 → Calls Try.prog 43 #[.int .i32 c] w (Tells w (okb c))
def SplPost (w : World) (xss : List (List Int)) (e : Ending) (w' : World) : Prop := ∃ v, e = .returned v ∧ Rws w' v xss ∧ Below w.heap.size w w'
end Go.Proofs.Ytgccindoinhphaa
