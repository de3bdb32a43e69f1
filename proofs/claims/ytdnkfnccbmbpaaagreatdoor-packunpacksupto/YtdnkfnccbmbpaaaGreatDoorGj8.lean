import Derived.Test.YtdnkfnccbmbpaaaGreatDoorGa8
import Derived.Lib.OthersKept
import Derived.Lib.DecodeN
import Derived.Test.YtdnkfnccbmbpaaaGreatDoorGd8
import Derived.WalkMore
/- What scan reads and writes, as plain functions. -/
namespace Go.Proofs.YtdnkfnccbmbpaaaGreatDoor.Scn

def hexd (c : Int) : Int := if 48 ≤ c ∧ c ≤ 57 then c - 48 else if 65 ≤ c ∧ c ≤ 70 then c - 55 else -1
def hexA : Int → List Int → Option Int
  | n, [] => some n
  | n, c :: r => if hexd c < 0 then none else hexA (16 * n + hexd c) r
def cap : Option Int → Option Int
  | some n => if 1114111 < n then none else some n
  | none => none
/-- A code point, or none. -/
def code (l : List Int) : Option Int :=
  if l.length < 1 ∨ 6 < l.length ∨ (1 < l.length ∧ l.getD 0 0 = 48) then none else cap (hexA 0 l)
def told (o : Option Int) : Int × Bool := match o with | some n => (n, true) | none => (0, false)

def decA : Int → List Int → Option Int
  | n, [] => some n
  | n, c :: r => if c < 48 ∨ 57 < c then none else decA (10 * n + (c - 48)) r
def digs (l : List Int) : Option Int := if l.length < 1 ∨ 9 < l.length ∨ l.getD 0 0 = 48 then none else decA 0 l
/-- A whole number, or none. -/
def whole (l : List Int) : Option Int :=
  if l = [48] then some 0
  else if 0 < l.length ∧ l.getD 0 0 = 45 then (digs (l.drop 1)).map fun n => -n
  else digs l
abbrev small (c : Int) : Prop := 97 ≤ c ∧ c ≤ 122
def name (l : List Int) : Bool := decide (l.length = 4 ∧ 65 ≤ l.getD 0 0 ∧ l.getD 0 0 ≤ 90 ∧ small (l.getD 1 0) ∧ small (l.getD 2 0) ∧ small (l.getD 3 0))

/-- Two code points, or one twice, or none: the first two full stops part the text. -/
def both : Option Int → Option Int → Option (Int × Int)
  | some a, some b => if a < b then some (a, b) else none
  | _, _ => none
def spanA (l : List Int) : Nat → Nat → Option (Int × Int)
  | 0, _ => (code l).map fun a => (a, a)
  | fuel + 1, k => if k + 1 < l.length then (if l.getD k 0 = 46 ∧ l.getD (k + 1) 0 = 46 then both (code (l.take k)) (code (l.drop (k + 2))) else spanA l fuel (k + 1)) else (code l).map fun a => (a, a)
def span (l : List Int) : Option (Int × Int) := spanA l l.length 0
theorem hexd_bound (c : Int) : -1 ≤ hexd c ∧ hexd c ≤ 15 := by unfold hexd; split <;> (try split) <;> omega
theorem hexA_step {n : Int} {l : List Int} {k : Nat} (hk : k < l.length) : hexA n (l.drop k) = if hexd (l.getD k 0) < 0 then none else hexA (16 * n + hexd (l.getD k 0)) (l.drop (k + 1)) := by
  rw [List.drop_eq_getElem_cons hk, hexA]
  simp [List.getD, hk]
theorem decA_step {n : Int} {l : List Int} {k : Nat} (hk : k < l.length) : decA n (l.drop k) = if l.getD k 0 < 48 ∨ 57 < l.getD k 0 then none else decA (10 * n + (l.getD k 0 - 48)) (l.drop (k + 1)) := by
  rw [List.drop_eq_getElem_cons hk, decA]
  simp [List.getD, hk]
end Go.Proofs.YtdnkfnccbmbpaaaGreatDoor.Scn
/- What scan writes, as plain functions. -/
namespace Go.Proofs.YtdnkfnccbmbpaaaGreatDoor.Scn

def hexc (d : Int) : Int := if d < 10 then 48 + d else 55 + d
def hexW : Nat → Int → List Int → List Int
  | 0, _, a => a
  | f + 1, n, a => if 0 < n ∨ a = [] then hexW f (n / 16) (hexc (n % 16) :: a) else a
/-- How a code point is written. -/
def pcode (c : Int) : List Int := if c < 0 ∨ 1114111 < c then [] else hexW 8 c []
def decW : Nat → Int → List Int → List Int
  | 0, _, a => a
  | f + 1, n, a => if 0 < n then decW f (n / 10) ((48 + n % 10) :: a) else a
/-- How a whole number is written. -/
def pwhole (n : Int) : List Int := if n = 0 then [48] else if n < 0 then 45 :: decW 20 (-n) [] else decW 20 n []
/-- How two code points are written. -/
def pspan (a b : Int) : List Int := if a = b then pcode a else if a < 0 ∨ b < a ∨ 1114111 < b then [] else pcode a ++ [46, 46] ++ pcode b
theorem hexW_length (f : Nat) (n : Int) (a : List Int) : (hexW f n a).length ≤ f + a.length := by
  induction f generalizing n a with
  | zero => simp [hexW]
  | succ f ih =>
    rw [hexW]
    split
    · have := ih (n / 16) (hexc (n % 16) :: a)
      rw [List.length_cons] at this
      omega
    · omega
theorem pcode_length (c : Int) : (pcode c).length ≤ 8 := by
  unfold pcode
  split
  · simp
  · exact hexW_length 8 c []
theorem decW_length (f : Nat) (n : Int) (a : List Int) : (decW f n a).length ≤ f + a.length := by
  induction f generalizing n a with
  | zero => simp [decW]
  | succ f ih =>
    rw [decW]
    split
    · have := ih (n / 10) ((48 + n % 10) :: a)
      rw [List.length_cons] at this
      omega
    · omega
theorem pwhole_length (n : Int) : (pwhole n).length ≤ 21 := by
  unfold pwhole
  split
  · simp
  · split
    · have := decW_length 20 (-n) []
      rw [List.length_cons]
      simp at this
      omega
    · have := decW_length 20 n []
      simp at this
      omega
theorem pspan_length (a b : Int) : (pspan a b).length ≤ 18 := by
  have := pcode_length a
  have := pcode_length b
  unfold pspan
  split
  · omega
  · split
    · simp
    · simp only [List.length_append, List.length_cons, List.length_nil]; omega
end Go.Proofs.YtdnkfnccbmbpaaaGreatDoor.Scn
/- Lines and words, as plain functions. -/
namespace Go.Proofs.YtdnkfnccbmbpaaaGreatDoor.Scn

def linesA : List Int → List Int → List (List Int)
  | cur, [] => if cur = [] then [] else [cur]
  | cur, c :: r => if c = 10 then cur :: linesA [] r else linesA (cur ++ [c]) r
/-- The lines of a text. -/
def lines (l : List Int) : List (List Int) := linesA [] l
/-- A piece of a list. -/
def cut (l : List Int) (a b : Nat) : List Int := (l.drop a).take (b - a)
theorem cut_same (l : List Int) (a : Nat) : cut l a a = [] := by simp [cut]
theorem cut_snoc {l : List Int} {a k : Nat} (h1 : a ≤ k) (h2 : k < l.length) : cut l a (k + 1) = cut l a k ++ [l.getD k 0] := by
  unfold cut
  rw [show k + 1 - a = (k - a) + 1 by omega, List.take_add_one]
  congr 1
  rw [List.getElem?_drop, show a + (k - a) = k by omega]
  simp [List.getD, h2]
theorem cut_length {l : List Int} {a b : Nat} (h1 : a ≤ b) (h2 : b ≤ l.length) : (cut l a b).length = b - a := by
  simp [cut]; omega
theorem linesA_step {l : List Int} {cur : List Int} {k : Nat} (hk : k < l.length) : linesA cur (l.drop k) = if l.getD k 0 = 10 then cur :: linesA [] (l.drop (k + 1)) else linesA (cur ++ [l.getD k 0]) (l.drop (k + 1)) := by
  rw [List.drop_eq_getElem_cons hk, linesA]
  simp [List.getD, hk]

def isBlank (c : Int) : Bool := c == 32 || c == 9 || c == 13
/-- Where the remark of a line begins, or its end. -/
def endA : List Int → Nat
  | [] => 0
  | c :: r => if c = 35 then 0 else endA r + 1
/-- The words of what lies ahead of the remark: cur is a word that goes on, at its place. -/
def wordsA : Nat → List Int → List Int → List (List Int × Nat)
  | k, cur, [] => if cur = [] then [] else [(cur, k - cur.length)]
  | k, cur, c :: r => if isBlank c then (if cur = [] then wordsA (k + 1) [] r else (cur, k - cur.length) :: wordsA (k + 1) [] r) else wordsA (k + 1) (cur ++ [c]) r
/-- The words of a line, and where they end. -/
def words (l : List Int) : List (List Int × Nat) := wordsA 0 [] (l.take (endA l))
theorem wordsA_step {l : List Int} {cur : List Int} {k j : Nat} (hk : k < l.length) : wordsA j cur (l.drop k) = if isBlank (l.getD k 0) then (if cur = [] then wordsA (j + 1) [] (l.drop (k + 1)) else (cur, j - cur.length) :: wordsA (j + 1) [] (l.drop (k + 1))) else wordsA (j + 1) (cur ++ [l.getD k 0]) (l.drop (k + 1)) := by
  rw [List.drop_eq_getElem_cons hk, wordsA]
  simp [List.getD, hk]
theorem endA_step {l : List Int} {k : Nat} (hk : k < l.length) : endA (l.drop k) = if l.getD k 0 = 35 then 0 else endA (l.drop (k + 1)) + 1 := by
  rw [List.drop_eq_getElem_cons hk, endA]
  simp [List.getD, hk]
theorem endA_le (l : List Int) : endA l ≤ l.length := by
  induction l with
  | nil => simp [endA]
  | cons c r ih => rw [endA]; split <;> simp; omega
theorem take_at {l : List Int} {e k : Nat} (h : k < e) : (l.take e).getD k 0 = l.getD k 0 := by
  simp [List.getD, List.getElem?_take_of_lt h]
theorem cut_take {l : List Int} {a k e : Nat} (h : k ≤ e) : cut (l.take e) a k = cut l a k := by
  unfold cut
  rw [List.drop_take, List.take_take, Nat.min_eq_left (by omega)]
/-- A blank ahead of a word. -/
theorem wordsA_blank {l : List Int} {k : Nat} (hk : k < l.length) (h : isBlank (l.getD k 0) = true) : wordsA k [] (l.drop k) = wordsA (k + 1) [] (l.drop (k + 1)) := by
  rw [wordsA_step hk, if_pos h, if_pos rfl]
/-- A sign of a word. -/
theorem wordsA_go {l : List Int} {a k : Nat} (ha : a ≤ k) (hk : k < l.length) (h : isBlank (l.getD k 0) = false) : wordsA k (cut l a k) (l.drop k) = wordsA (k + 1) (cut l a (k + 1)) (l.drop (k + 1)) := by
  rw [wordsA_step hk, if_neg (by rw [h]; exact Bool.false_ne_true), cut_snoc ha hk]
/-- A word's end. -/
theorem wordsA_done {l : List Int} {a k : Nat} (ha : a < k) (hk : k ≤ l.length) (h : k < l.length → isBlank (l.getD k 0) = true) : wordsA k (cut l a k) (l.drop k) = (cut l a k, a) :: wordsA k [] (l.drop k) := by
  have hl := cut_length (l := l) (a := a) (b := k) (by omega) hk
  have hne : ¬ cut l a k = [] := fun e => by rw [e] at hl; simp at hl; omega
  rcases Nat.lt_or_ge k l.length with h1 | h1
  · rw [wordsA_blank h1 (h h1), wordsA_step h1, if_pos (h h1), if_neg hne, hl, show k - (k - a) = a by omega]
  · rw [List.drop_eq_nil_of_le h1, wordsA, wordsA, if_neg hne, if_pos rfl, hl, show k - (k - a) = a by omega]
end Go.Proofs.YtdnkfnccbmbpaaaGreatDoor.Scn
/- Strings as lists of numbers. -/
namespace Go.Proofs.YtdnkfnccbmbpaaaGreatDoor
open Go.RowKit

def Byt (zs : List Int) : Prop := ∀ z ∈ zs, 0 ≤ z ∧ z ≤ 255
theorem Byt.at {zs : List Int} (h : Byt zs) (k : Nat) : 0 ≤ zs.getD k 0 ∧ zs.getD k 0 ≤ 255 := by
  rcases Nat.lt_or_ge k zs.length with hk | hk
  · simp only [List.getD, List.getElem?_eq_getElem hk, Option.getD_some]; exact h _ (List.getElem_mem hk)
  · simp [List.getD, List.getElem?_eq_none hk]
def nums (s : ByteArray) : List Int := s.data.toList.map fun b => (b.toNat : Int)
theorem nums_length (s : ByteArray) : (nums s).length = s.size := by
  rw [nums, List.length_map, Array.length_toList]; rfl
theorem nums_byt (s : ByteArray) : Byt (nums s) := by
  intro z hz
  obtain ⟨b, _, rfl⟩ := List.mem_map.1 hz
  have := b.toNat_lt
  omega
theorem nums_at (s : ByteArray) (k : Nat) (hk : k < s.size) : ((s[k]'hk).toNat : Int) = (nums s).getD k 0 := by
  have h : k < s.data.size := hk
  have e : (nums s)[k]? = some ((s.data[k]'h).toNat : Int) := by
    rw [nums, List.getElem?_map, Array.getElem?_toList, Array.getElem?_eq_getElem h]; rfl
  rw [List.getD, e]; rfl
theorem run_at (s : ByteArray) (i : Int) (k : Nat) (hi : i = k) (hk : k < s.size) (w : World) : (Instr.index 9 (.string s) (.int .i64 i)).run Tryz.prog w = .ok (.int .u8 ((nums s).getD k 0)) w := by
  subst hi
  rw [run_index_string w 9 s .i64 (k : Int) Tryz.underlying9, dif_pos (by omega), ← nums_at s k hk]
  simp
theorem nums_cut (s : ByteArray) (a b : Nat) : nums (s.extract a b) = ((nums s).drop a).take (b - a) := by
  rw [nums, nums, ByteArray.data_extract, Array.toList_extract, List.extract_eq_take_drop, List.map_take, List.map_drop]
theorem nums_append (a b : ByteArray) : nums (a ++ b) = nums a ++ nums b := by
  rw [nums, nums, nums, ByteArray.data_append, Array.toList_append, List.map_append]
theorem nums_inj {a b : ByteArray} (h : nums a = nums b) : a = b := by
  apply ByteArray.ext
  apply Array.toList_inj.1
  exact List.map_inj_right (fun x y e => by
    have : x.toNat = y.toNat := by omega
    exact UInt8.toNat_inj.1 this) |>.1 h
end Go.Proofs.YtdnkfnccbmbpaaaGreatDoor
/- Runes of a string by their bytes; runs of signs that are no blanks. -/
namespace Go.Proofs.YtdnkfnccbmbpaaaGreatDoor
open Go.RowKit

theorem get_num (s : ByteArray) (k : Nat) : (((s.get! k).toNat : Nat) : Int) = (nums s).getD k 0 := by
  rcases Nat.lt_or_ge k s.size with h | h
  · rw [← nums_at s k h]
    have e : s.get! k = s[k]'h := by
      simp [ByteArray.get!, getElem!_pos, h]
      rfl
    rw [e]
  · have h2 : ¬ k < s.data.size := by have : s.size = s.data.size := rfl; omega
    have e : s.get! k = default := by
      simp only [ByteArray.get!]
      exact getElem!_neg s.data k h2
    rw [e, List.getD, List.getElem?_eq_none (by rw [nums_length]; exact h)]
    rfl
theorem dec_low (s : ByteArray) (pos : Nat) (h : pos < s.size) (ha : (nums s).getD pos 0 < 128) : ((Utf8.decode s pos).1 : Int) = (nums s).getD pos 0 ∧ (Utf8.decode s pos).2 = 1 := by
  have e := nums_at s pos h
  rw [decode_ascii s pos h (by omega)]
  exact ⟨by omega, rfl⟩
theorem dec_high (s : ByteArray) (pos : Nat) (h : pos < s.size) (ha : 128 ≤ (nums s).getD pos 0) :
    128 ≤ ((Utf8.decode s pos).1 : Int) ∧ 1 ≤ (Utf8.decode s pos).2 ∧ pos + (Utf8.decode s pos).2 ≤ s.size ∧ ∀ j, pos ≤ j → j < pos + (Utf8.decode s pos).2 → 128 ≤ (nums s).getD j 0 := by
  have e := nums_at s pos h
  obtain ⟨h1, h2⟩ := decode_high s pos h (by omega)
  refine ⟨by omega, h2, ?_⟩
  have g0 := get_num s pos
  have g1 := get_num s (pos + 1)
  have g2 := get_num s (pos + 2)
  have g3 := get_num s (pos + 3)
  rw [Lib.decode_at]
  generalize (s.get! pos).toNat = b0 at *
  generalize (s.get! (pos + 1)).toNat = b1 at *
  generalize (s.get! (pos + 2)).toNat = b2 at *
  generalize (s.get! (pos + 3)).toNat = b3 at *
  have key : ∀ n, (n = 1 ∨ (n = 2 ∧ 1 < s.size - pos ∧ b1 / 64 = 2) ∨ (n = 3 ∧ 2 < s.size - pos ∧ b1 / 64 = 2 ∧ b2 / 64 = 2) ∨ (n = 4 ∧ 3 < s.size - pos ∧ b1 / 64 = 2 ∧ b2 / 64 = 2 ∧ b3 / 64 = 2)) → pos + n ≤ s.size ∧ ∀ j, pos ≤ j → j < pos + n → 128 ≤ (nums s).getD j 0 := by
    intro n hn
    refine ⟨by omega, fun j j1 j2 => ?_⟩
    obtain rfl | rfl | rfl | rfl : j = pos ∨ j = pos + 1 ∨ j = pos + 2 ∨ j = pos + 3 := by omega
    · exact ha
    · omega
    · omega
    · omega
  apply key
  unfold Lib.decodeN
  repeat' split
  all_goals simp_all
theorem dec_top (s : ByteArray) (pos : Nat) : ((Utf8.decode s pos).1 : Int) ≤ 2147483647 := by
  have := decode_le s pos
  omega
namespace Scn
theorem endA_run {l : List Int} {k n : Nat} (h : ∀ j, k ≤ j → j < k + n → l.getD j 0 ≠ 35) (hl : k + n ≤ l.length) : endA (l.drop k) = n + endA (l.drop (k + n)) := by
  induction n generalizing k with
  | zero => simp
  | succ n ih =>
    rw [endA_step (by omega), if_neg (h k (by omega) (by omega)), ih (k := k + 1) (fun j a b => h j (by omega) (by omega)) (by omega), show k + 1 + n = k + (n + 1) by omega]
    omega
theorem wordsA_run {l : List Int} {a k n : Nat} (ha : a ≤ k) (h : ∀ j, k ≤ j → j < k + n → isBlank (l.getD j 0) = false) (hl : k + n ≤ l.length) :
    wordsA k (cut l a k) (l.drop k) = wordsA (k + n) (cut l a (k + n)) (l.drop (k + n)) := by
  induction n generalizing k with
  | zero => simp
  | succ n ih =>
    rw [wordsA_go ha (by omega) (h k (by omega) (by omega)), ih (k := k + 1) (by omega) (fun j a b => h j (by omega) (by omega)) (by omega), show k + 1 + n = k + (n + 1) by omega]
theorem isBlank_high {c : Int} (h : 128 ≤ c) : isBlank c = false := by
  unfold isBlank
  rw [beq_eq_false_iff_ne.2 (by omega : c ≠ 32), beq_eq_false_iff_ne.2 (by omega : c ≠ 9), beq_eq_false_iff_ne.2 (by omega : c ≠ 13)]
  rfl
end Scn
end Go.Proofs.YtdnkfnccbmbpaaaGreatDoor
/- The contract of scan's Name (out of ScN5). -/
namespace Go.Proofs.YtdnkfnccbmbpaaaGreatDoor
open Go.RowKit

/-- The sign at place k may stand in a name. -/
def okAt (k : Nat) (c : Int) : Prop := if k = 0 then 65 ≤ c ∧ c ≤ 90 else 97 ≤ c ∧ c ≤ 122
theorem name_iff (l : List Int) : Scn.name l = true ↔ (l.length = 4 ∧ ∀ k, k < 4 → okAt k (l.getD k 0)) := by
  unfold Scn.name
  rw [decide_eq_true_iff]
  constructor
  · rintro ⟨h0, h1, h2, h3, h4, h5⟩
    refine ⟨h0, fun k hk => ?_⟩
    unfold okAt
    obtain rfl | rfl | rfl | rfl : k = 0 ∨ k = 1 ∨ k = 2 ∨ k = 3 := by omega
    · exact ⟨h1, h2⟩
    · exact h3
    · exact h4
    · exact h5
  · rintro ⟨h0, h⟩
    exact ⟨h0, (h 0 (by omega)).1, (h 0 (by omega)).2, h 1 (by omega), h 2 (by omega), h 3 (by omega)⟩
set_option maxHeartbeats 2000000 in
theorem scanName_any (s : ByteArray) (w : World) : Calls Tryz.prog 141 #[.string s] w (BoolB w (Scn.name (nums s))) := by
  have hlen := nums_length s
  by_cases h4 : s.size = 4
  · have HT : Hid ((∀ k, k < 4 → okAt k ((nums s).getD k 0)) → ∀ w', Below w.heap.size w w' → BoolB w (Scn.name (nums s)) (.returned (.bool true)) w') := fun h w' hb => ⟨by rw [(name_iff _).2 ⟨by omega, h⟩], hb⟩
    have HFa : Hid (∀ k, k < 4 → ¬ okAt k ((nums s).getD k 0) → ∀ w', Below w.heap.size w w' → BoolB w (Scn.name (nums s)) (.returned (.bool false)) w') := fun k hk h w' hb => by
      have : Scn.name (nums s) = false := by
        cases hn : Scn.name (nums s) with
        | false => rfl
        | true => exact absurd (((name_iff _).1 hn).2 k hk) h
      exact ⟨by rw [this], hb⟩
    have HByt := hide (fun k => (nums_byt s).at k)
    have q4 : ((s.size : Int) != 4) = false := by rw [h4]; rfl
    clear hlen
    generalize Scn.name (nums s) = res at *
    go_enter Tryz.func141, Tryz.ntmps141
    go_wp2
    go_loopw [3, 4] (fun _ _ wr => ∃ k : Nat, wr = w.iter s k ∧ k ≤ 4 ∧ ∀ j, j < k → okAt j ((nums s).getD j 0)) (fun _ _ wr => 4 - wr.iterPos w.heap.size)
    case atStart => exact ⟨0, rfl, by omega, fun j hj => absurd hj (Nat.not_lt_zero _)⟩
    case round =>
      obtain ⟨k, rfl, hk, hok⟩ := hrel
      have HOK := hide hok
      clear hok
      by_cases hlt : k < 4
      · have hnx := fun ty => run_next_any (P := Tryz.prog) w s k ty (by omega)
        obtain ⟨c1, c2⟩ := (unhide HByt) k
        rcases Int.lt_or_le ((nums s).getD k 0) 128 with hlo | hhi
        · obtain ⟨d1, d2⟩ := dec_low s k (by omega) hlo
          rw [d1, d2] at hnx
          clear d1 d2
          have HF2 := hide ((unhide HFa) k hlt)
          have HO2 : Hid (okAt k ((nums s).getD k 0) → ∀ j, j < k + 1 → okAt j ((nums s).getD j 0)) := fun h j hj => by
            rcases Nat.lt_or_ge j k with hj2 | hj2
            · exact (unhide HOK) j hj2
            · obtain rfl : j = k := by omega
              exact h
          clear HFa HOK
          have hmo : 4 - (k + 1) < 4 - (w.iter s k).iterPos w.heap.size := by rw [World.iterPos_iter]; omega
          generalize hcg : (nums s).getD k 0 = c at hnx c1 c2 hlo HF2 HO2
          clear hcg h4 q4
          by_cases hk0 : k = 0
          · subst hk0
            by_cases g1 : 65 ≤ c
            · by_cases g2 : c ≤ 90
              · have HX := hide ((unhide HO2) ⟨g1, g2⟩)
                clear HO2 HF2 HT
                go_wp2
                go_roundw
                case rel => exact ⟨0 + 1, rfl, by omega, unhide HX⟩
                case measure => rw [World.iterPos_iter]; exact hmo
              · have HF := (unhide HF2) (fun h => g2 h.2) (w.iter s (0 + 1)) ((Below.refl _ _).alloc (Nat.le_refl _) _)
                clear HO2 HF2 HT
                go_wp2
                go_ret
                exact HF
            · have HF := (unhide HF2) (fun h => g1 h.1) (w.iter s (0 + 1)) ((Below.refl _ _).alloc (Nat.le_refl _) _)
              clear HO2 HF2 HT
              go_wp2
              go_ret
              exact HF
          · have hk1 : ((k : Int) == 0) = false := beq_eq_false_iff_ne.2 (by omega)
            have eok : okAt k c = (97 ≤ c ∧ c ≤ 122) := by unfold okAt; rw [if_neg hk0]
            rw [eok] at HF2 HO2
            clear eok
            by_cases g1 : 97 ≤ c
            · by_cases g2 : c ≤ 122
              · have HX := hide ((unhide HO2) ⟨g1, g2⟩)
                clear HO2 HF2 HT
                go_wp2
                go_roundw
                case rel => exact ⟨k + 1, rfl, by omega, unhide HX⟩
                case measure => rw [World.iterPos_iter]; exact hmo
              · have HF := (unhide HF2) (fun h => g2 h.2) (w.iter s (k + 1)) ((Below.refl _ _).alloc (Nat.le_refl _) _)
                clear HO2 HF2 HT
                go_wp2
                go_ret
                exact HF
            · have HF := (unhide HF2) (fun h => g1 h.1) (w.iter s (k + 1)) ((Below.refl _ _).alloc (Nat.le_refl _) _)
              clear HO2 HF2 HT
              go_wp2
              go_ret
              exact HF
        · obtain ⟨d1, d2, d3, d4⟩ := dec_high s k (by omega) hhi
          have d5 := dec_top s k
          have HF := (unhide HFa) k hlt (fun h => by unfold okAt at h; split at h <;> omega) (w.iter s (k + (Utf8.decode s k).2)) ((Below.refl _ _).alloc (Nat.le_refl _) _)
          clear HFa HT HOK d2 d3 d4 h4 q4
          generalize (Utf8.decode s k).2 = n2 at *
          generalize ((Utf8.decode s k).1 : Int) = c at *
          by_cases hk0 : k = 0
          · subst hk0
            rw [Nat.zero_add] at HF hnx
            go_wp2
            go_ret
            exact HF
          · have hk1 : ((k : Int) == 0) = false := beq_eq_false_iff_ne.2 (by omega)
            go_wp2
            go_ret
            exact HF
      · obtain rfl : k = 4 := by omega
        have hnx := fun ty => run_next_end (P := Tryz.prog) w s 4 ty (by omega)
        have HF := (unhide HT) (unhide HOK) (w.iter s 4) ((Below.refl _ _).alloc (Nat.le_refl _) _)
        clear HFa HT HOK
        go_wp2
        go_ret
        exact HF
  · have HF : BoolB w (Scn.name (nums s)) (.returned (.bool false)) w := by
      have : Scn.name (nums s) = false := by
        cases hn : Scn.name (nums s) with
        | false => rfl
        | true => exact absurd ((name_iff _).1 hn).1 (by omega)
      exact ⟨by rw [this], Below.refl _ _⟩
    have q4 : ((s.size : Int) != 4) = true := by simp; omega
    go_enter Tryz.func141, Tryz.ntmps141
    go_wp2
    go_ret
    exact HF

end Go.Proofs.YtdnkfnccbmbpaaaGreatDoor
