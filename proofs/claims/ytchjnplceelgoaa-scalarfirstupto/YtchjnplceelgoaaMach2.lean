/- The contract of scalar's read. (The frames and the ways by program: genread.py.) -/
import Derived.Test.YtchjnplceelgoaaMach
namespace Go.Proofs.Ytchjnplceelgoaa
open Go.RowKit

/-- Between two numbers. -/
def S0 (s : ByteArray) (zs : List Int) (r : List Int × Int × Int) (w : World) (k : Nat) (xs : List Int) (v : Value) (wr : World) : Prop :=
  k ≤ s.size ∧ Ok .i32 21 wr w.heap.size v xs ∧ xs.length ≤ k ∧ Below w.heap.size w wr ∧ r = Utf.glue xs (Utf.dec k (zs.drop k))
/-- The greatest that a number may be that wants n bytes more. -/
def mx : Nat → Int
  | 3 => 7
  | 2 => 511
  | 1 => 32767
  | _ => 2097151
/-- In a number that wants n bytes more. -/
def Sn (s : ByteArray) (zs : List Int) (r : List Int × Int × Int) (w : World) (n k : Nat) (xs : List Int) (v : Value) (c lo hi : Int) (wr : World) : Prop :=
  k ≤ s.size ∧ Ok .i32 21 wr w.heap.size v xs ∧ xs.length + 1 ≤ k ∧ Below w.heap.size w wr ∧ 0 ≤ c ∧ c ≤ mx n ∧ r = Utf.fin xs zs (Utf.conts n lo hi c k (zs.drop k))

/-- The frame at a label. -/
def Fr (s : ByteArray) (v : Value) (k : Nat) (a : Act) : Prop := a.defers = [] ∧ a.tmps.size = 110 ∧ a.tmps.getD 0 undef = .string s ∧ a.tmps.getD 1 undef = undef ∧ a.tmps.getD 2 undef = v ∧ a.tmps.getD 3 undef = .int .i64 (k : Int) ∧ a.tmps.getD 4 undef = .bool false
def Fc (c : Int) (a : Act) : Prop := a.tmps.getD 5 undef = .int .i32 c
def Fb (lo hi : Int) (a : Act) : Prop := a.tmps.getD 7 undef = .int .u8 lo ∧ a.tmps.getD 8 undef = .int .u8 hi

theorem list_lit (l : List Value) (n : Nat) (h : l.length = n) : l = (List.range n).map (fun i => l.getD i undef) := by
  apply List.ext_getElem
  · simp [h]
  · intro i h1 h2
    simp [List.getD, h1]
theorem Fr.open {s : ByteArray} {v : Value} {k : Nat} {a : Act} (h : Fr s v k a) : ∃ U : Nat → Value, (∀ i, a.tmps.getD i undef = U i) ∧ a = ({ tmps := #[.string s, undef, v, .int .i64 (k : Int), .bool false, U 5, U 6, U 7, U 8, U 9, U 10, U 11, U 12, U 13, U 14, U 15, U 16, U 17, U 18, U 19, U 20, U 21, U 22, U 23, U 24, U 25, U 26, U 27, U 28, U 29, U 30, U 31, U 32, U 33, U 34, U 35, U 36, U 37, U 38, U 39, U 40, U 41, U 42, U 43, U 44, U 45, U 46, U 47, U 48, U 49, U 50, U 51, U 52, U 53, U 54, U 55, U 56, U 57, U 58, U 59, U 60, U 61, U 62, U 63, U 64, U 65, U 66, U 67, U 68, U 69, U 70, U 71, U 72, U 73, U 74, U 75, U 76, U 77, U 78, U 79, U 80, U 81, U 82, U 83, U 84, U 85, U 86, U 87, U 88, U 89, U 90, U 91, U 92, U 93, U 94, U 95, U 96, U 97, U 98, U 99, U 100, U 101, U 102, U 103, U 104, U 105, U 106, U 107, U 108, U 109], defers := [] } : Act) := by
  obtain ⟨t, d⟩ := a
  obtain ⟨h1, h2, h3, h4, h5, h6, h7⟩ := h
  refine ⟨fun i => t.getD i undef, fun i => rfl, ?_⟩
  simp only at h1 h2 h3 h4 h5 h6 h7
  subst h1
  congr 1
  rw [← h3, ← h5, ← h6, ← h7]
  obtain ⟨l⟩ := t
  have hl : l.length = 110 := by simpa using h2
  apply congrArg Array.mk
  have e := list_lit l 110 hl
  rw [show (List.range 110).map (fun i => l.getD i undef) = [l.getD 0 undef, l.getD 1 undef, l.getD 2 undef, l.getD 3 undef, l.getD 4 undef, l.getD 5 undef, l.getD 6 undef, l.getD 7 undef, l.getD 8 undef, l.getD 9 undef, l.getD 10 undef, l.getD 11 undef, l.getD 12 undef, l.getD 13 undef, l.getD 14 undef, l.getD 15 undef, l.getD 16 undef, l.getD 17 undef, l.getD 18 undef, l.getD 19 undef, l.getD 20 undef, l.getD 21 undef, l.getD 22 undef, l.getD 23 undef, l.getD 24 undef, l.getD 25 undef, l.getD 26 undef, l.getD 27 undef, l.getD 28 undef, l.getD 29 undef, l.getD 30 undef, l.getD 31 undef, l.getD 32 undef, l.getD 33 undef, l.getD 34 undef, l.getD 35 undef, l.getD 36 undef, l.getD 37 undef, l.getD 38 undef, l.getD 39 undef, l.getD 40 undef, l.getD 41 undef, l.getD 42 undef, l.getD 43 undef, l.getD 44 undef, l.getD 45 undef, l.getD 46 undef, l.getD 47 undef, l.getD 48 undef, l.getD 49 undef, l.getD 50 undef, l.getD 51 undef, l.getD 52 undef, l.getD 53 undef, l.getD 54 undef, l.getD 55 undef, l.getD 56 undef, l.getD 57 undef, l.getD 58 undef, l.getD 59 undef, l.getD 60 undef, l.getD 61 undef, l.getD 62 undef, l.getD 63 undef, l.getD 64 undef, l.getD 65 undef, l.getD 66 undef, l.getD 67 undef, l.getD 68 undef, l.getD 69 undef, l.getD 70 undef, l.getD 71 undef, l.getD 72 undef, l.getD 73 undef, l.getD 74 undef, l.getD 75 undef, l.getD 76 undef, l.getD 77 undef, l.getD 78 undef, l.getD 79 undef, l.getD 80 undef, l.getD 81 undef, l.getD 82 undef, l.getD 83 undef, l.getD 84 undef, l.getD 85 undef, l.getD 86 undef, l.getD 87 undef, l.getD 88 undef, l.getD 89 undef, l.getD 90 undef, l.getD 91 undef, l.getD 92 undef, l.getD 93 undef, l.getD 94 undef, l.getD 95 undef, l.getD 96 undef, l.getD 97 undef, l.getD 98 undef, l.getD 99 undef, l.getD 100 undef, l.getD 101 undef, l.getD 102 undef, l.getD 103 undef, l.getD 104 undef, l.getD 105 undef, l.getD 106 undef, l.getD 107 undef, l.getD 108 undef, l.getD 109 undef] from rfl] at e
  have g : ∀ i, (Array.mk l).getD i undef = l.getD i undef := fun i => by rw [Array.getD_eq_getD_getElem?, List.getD_eq_getElem?_getD]; simp
  have h4' : l.getD 1 undef = undef := by rw [← g]; exact h4
  simp only [g]
  rw [h4'] at e
  exact e

/-- What holds at a jump to each label. -/
def Jf (s : ByteArray) (zs : List Int) (r : List Int × Int × Int) (w : World) : Nat → Act → World → Prop
  | 0, a, wr => ∃ (k : Nat) (xs : List Int) (v : Value), Fr s v k a ∧ S0 s zs r w k xs v wr
  | 1, a, wr => ∃ (k : Nat) (xs : List Int) (v : Value) (c lo hi : Int), Fr s v k a ∧ Fc c a ∧ Sn s zs r w 0 k xs v c lo hi wr
  | 2, a, wr => ∃ (k : Nat) (xs : List Int) (v : Value) (c lo hi : Int), Fr s v k a ∧ Fc c a ∧ Fb lo hi a ∧ Sn s zs r w 1 k xs v c lo hi wr
  | 3, a, wr => ∃ (k : Nat) (xs : List Int) (v : Value) (c lo hi : Int), Fr s v k a ∧ Fc c a ∧ Fb lo hi a ∧ Sn s zs r w 2 k xs v c lo hi wr
  | 4, a, wr => ∃ (k : Nat) (xs : List Int) (v : Value) (c lo hi : Int), Fr s v k a ∧ Fc c a ∧ Fb lo hi a ∧ Sn s zs r w 3 k xs v c lo hi wr
  | 5, a, wr => ∃ (k : Nat) (v : Value), Fr s v k a ∧ k ≤ s.size ∧ r = ([], (k : Int), 30) ∧ Below w.heap.size w wr
  | _, _, _ => False


def mes (N l : Nat) (a : Act) : Nat := if l = 5 then 0 else 2 * (N - (intOf (a.tmps.getD 3 undef)).toNat) + (if l = 0 then 0 else 1)

def mez (N l k : Nat) : Nat := if l = 5 then 0 else 2 * (N - k) + (if l = 0 then 0 else 1)
theorem mes_lt {N l l2 k k2 : Nat} {a a2 : Act} (h : a.tmps.getD 3 undef = .int .i64 (k : Int)) (h2 : a2.tmps.getD 3 undef = .int .i64 (k2 : Int)) (hm : mez N l2 k2 < mez N l k) : mes N l2 a2 < mes N l a := by
  unfold mes
  rw [h, h2]
  exact hm

/-- What read answers. -/
def ReadPost (w : World) (r : List Int × Int × Int) (e : Ending) (w' : World) : Prop :=
  (∃ v p xs, e = .returned (.tuple #[v, .int .i64 p, .bool true]) ∧ Ok .i32 21 w' w.heap.size v xs ∧ r = (xs, 0, 0) ∧ Below w.heap.size w w') ∨
    (∃ p, r = ([], p, 30) ∧ e = .returned (.tuple #[.slice none 0 0, .int .i64 p, .bool false]) ∧ Below w.heap.size w w')

theorem ways (b : Int) : (b ≤ 127 ∧ Utf.lead b = some (0, 0, 0, b)) ∨ ((194 ≤ b ∧ b ≤ 223) ∧ Utf.lead b = some (1, (bnd b).1, (bnd b).2, b % 32)) ∨ ((224 ≤ b ∧ b ≤ 239) ∧ Utf.lead b = some (2, (bnd b).1, (bnd b).2, b % 16)) ∨
    ((240 ≤ b ∧ b ≤ 244) ∧ Utf.lead b = some (3, (bnd b).1, (bnd b).2, b % 8)) ∨ ((128 ≤ b ∧ b < 194) ∧ Utf.lead b = none) ∨ (244 < b ∧ Utf.lead b = none) := by
  by_cases h1 : b ≤ 127
  · exact .inl ⟨h1, by unfold Utf.lead; rw [if_pos (by omega)]⟩
  · by_cases h2 : 194 ≤ b ∧ b ≤ 223
    · refine .inr (.inl ⟨h2, ?_⟩)
      rw [Utf.lead2 h2]; unfold bnd
      rw [if_neg (by omega), if_neg (by omega), if_neg (by omega), if_neg (by omega)]
    · by_cases h3 : 224 ≤ b ∧ b ≤ 239
      · refine .inr (.inr (.inl ⟨h3, ?_⟩))
        rw [Utf.lead3 h3]; unfold bnd
        by_cases e1 : b = 224
        · subst e1; simp
        · by_cases e2 : b = 237
          · subst e2; simp
          · rw [if_neg e1, if_neg e2, if_neg e1, if_neg e2, if_neg (by omega), if_neg (by omega)]
      · by_cases h4 : 240 ≤ b ∧ b ≤ 244
        · refine .inr (.inr (.inr (.inl ⟨h4, ?_⟩)))
          rw [Utf.lead4 h4]; unfold bnd
          by_cases e1 : b = 240
          · subst e1; simp
          · by_cases e2 : b = 244
            · subst e2; simp
            · rw [if_neg e1, if_neg e2, if_neg (by omega), if_neg (by omega), if_neg e1, if_neg e2]
        · have hn : Utf.lead b = none := by
            unfold Utf.lead
            rw [if_neg (by omega), if_neg h2, if_neg (by omega), if_neg (by omega), if_neg (by omega), if_neg (by omega), if_neg (by omega), if_neg (by omega)]
          by_cases h5 : b < 194
          · exact .inr (.inr (.inr (.inr (.inl ⟨⟨by omega, h5⟩, hn⟩))))
          · exact .inr (.inr (.inr (.inr (.inr ⟨by omega, hn⟩))))

theorem Sn.first {s : ByteArray} {zs : List Int} {r : List Int × Int × Int} {w : World} {k n : Nat} {xs : List Int} {v : Value} {wr : World} {lo hi c : Int} (h : S0 s zs r w k xs v wr) (hz : zs.length = s.size) (hk : k < s.size) (hl : Utf.lead (zs.getD k 0) = some (n, lo, hi, c)) (h0 : 0 ≤ c) (h1 : c ≤ mx n) : Sn s zs r w n (k + 1) xs v c lo hi wr := by
  obtain ⟨a1, a2, a3, a4, a5⟩ := h
  have := Utf.begin_step (by omega) a5
  rw [hl] at this
  exact ⟨by omega, a2, by omega, a4, h0, h1, this⟩
theorem S0.none {s : ByteArray} {zs : List Int} {r : List Int × Int × Int} {w : World} {k : Nat} {xs : List Int} {v : Value} {wr : World} (h : S0 s zs r w k xs v wr) (hz : zs.length = s.size) (hk : k < s.size) (hl : Utf.lead (zs.getD k 0) = none) : r = ([], (k : Int), 30) := by
  have := Utf.begin_step (by omega) h.2.2.2.2
  rw [hl] at this
  exact this
theorem mx_next {n : Nat} {c : Int} (hn : n ≤ 2) (h0 : 0 ≤ c) (h1 : c ≤ mx (n + 1)) (y : Int) : 0 ≤ c * 64 + y % 64 ∧ c * 64 + y % 64 ≤ mx n := by
  match n, hn with
  | 0, _ => simp only [mx] at h1 ⊢; omega
  | 1, _ => simp only [mx] at h1 ⊢; omega
  | 2, _ => simp only [mx] at h1 ⊢; omega
theorem mx_le {n : Nat} {c : Int} (hn : n ≤ 2) (h1 : c ≤ mx (n + 1)) : c ≤ 32767 := by
  match n, hn with
  | 0, _ => simp only [mx] at h1; omega
  | 1, _ => simp only [mx] at h1; omega
  | 2, _ => simp only [mx] at h1; omega
theorem onb_iff {zs : List Int} {k : Nat} {lo hi : Int} : onb zs k lo hi = true ↔ k < zs.length ∧ lo ≤ zs.getD k 0 ∧ zs.getD k 0 ≤ hi := by unfold onb; exact decide_eq_true_iff
theorem Sn.next {s : ByteArray} {zs : List Int} {r : List Int × Int × Int} {w : World} {k n : Nat} {xs : List Int} {v : Value} {wr : World} {lo hi c : Int} (h : Sn s zs r w (n + 1) k xs v c lo hi wr) (hn : n ≤ 2) (hz : zs.length = s.size) (ho : onb zs k lo hi = true) :
    Sn s zs r w n (k + 1) xs v (c * 64 + zs.getD k 0 % 64) 128 191 wr := by
  obtain ⟨a1, a2, a3, a4, a5, a6, a7⟩ := h
  obtain ⟨b1, b2, b3⟩ := onb_iff.1 ho
  have := mx_next hn a5 a6 (zs.getD k 0)
  exact ⟨by omega, a2, by omega, a4, this.1, this.2, Utf.more_step b1 b2 b3 a7⟩
theorem Sn.bad {s : ByteArray} {zs : List Int} {r : List Int × Int × Int} {w : World} {k n : Nat} {xs : List Int} {v : Value} {wr : World} {lo hi c : Int} (h : Sn s zs r w (n + 1) k xs v c lo hi wr) (hz : zs.length = s.size) (ho : onb zs k lo hi = false) : r = ([], (k : Int), 30) := by
  obtain ⟨a1, a2, a3, a4, a5, a6, a7⟩ := h
  have hno : ¬ (k < zs.length ∧ lo ≤ zs.getD k 0 ∧ zs.getD k 0 ≤ hi) := fun h => by rw [onb_iff.2 h] at ho; cases ho
  rcases Nat.lt_or_ge k zs.length with h1 | h1
  · exact Utf.more_bad h1 (by omega) a7
  · exact Utf.more_end (by omega) a7


set_option maxRecDepth 40000 in
set_option maxHeartbeats 20000000 in
theorem read_any (s : ByteArray) (w : World) (hs : s.size ≤ 1000000000) : Calls Try.prog 30 #[.string s] w (ReadPost w (Utf.dec 0 (nums s))) := by
  obtain ⟨i0, hi0, hz0, hz1, hz2⟩ := info_parts Try.info21
  have hn0 := nums_length s
  have hr0 := r_begin' (nums s)
  generalize Utf.dec 0 (nums s) = r at *
  obtain ⟨zs, hzs⟩ : ∃ zs, nums s = zs := ⟨_, rfl⟩
  rw [hzs] at hn0 hr0
  have HR0 := hide hr0
  have hzs' := hide hzs
  have hn := hide hn0
  clear hr0 hzs hn0
  go_enter Try.func30, Try.ntmps30
  go_wp2
  refine wp_scope_labels' (Jf s zs r w) (fun l a _ => mes s.size l a) ?hf ?first ?pass
  case hf =>
    intro l a wr h
    match l, h with
    | 0, _ => rfl
    | 1, _ => rfl
    | 2, _ => rfl
    | 3, _ => rfl
    | 4, _ => rfl
    | 5, _ => rfl
    | (l + 6), h => exact h.elim
  case first =>
    have hS : S0 s zs r w 0 [] (.slice none 0 0) w := ⟨by omega, Ok.nil _ _ _ _, by simp, Below.refl _ _, unhide HR0⟩
    go_wp2
    go_step3
    obtain ⟨hk, hok, hxl, hbel, hr⟩ := id hS
    by_cases hlt : 0 < s.size
    · have hx := fun w => run_at s (0 : Int) 0 rfl hlt w
      have hb0 := (fit_u8_of (nums_byt s)).u8at 0
      rw [unhide hzs'] at hx hb0
      have HB := fun w => hide (secondBounds_any (zs.getD 0 0) w hb0.1 hb0.2)
      have hne : ((0 : Int) == (s.size : Int)) = false := by simp; omega
      have hn' := unhide hn
      rcases ways (zs.getD 0 0) with ⟨q, hl⟩ | ⟨⟨q1, q2⟩, hl⟩ | ⟨⟨q1, q2⟩, hl⟩ | ⟨⟨q1, q2⟩, hl⟩ | ⟨⟨q1, q2⟩, hl⟩ | ⟨q, hl⟩
      · have HT := hide (Sn.first hS hn' hlt hl (by omega) (by simp only [mx]; omega))
        clear hS hr hok hl hn'
        generalize bnd (zs.getD 0 0) = bq at *
        obtain ⟨blo, bhi⟩ := bq
        generalize zs.getD 0 0 = b at *
        go_wp2_with fail
        refine (unhide (HB _)).mono ?_
        rintro e w ⟨rfl, rfl⟩
        clear HB hx
        go_wp2
        go_step3
        show Jf s zs r w 1 _ _
        exact ⟨1, [], .slice none 0 0, b, 0, 0, ⟨rfl, rfl, rfl, rfl, rfl, rfl, rfl⟩, rfl, unhide HT⟩
      · have HT := hide (Sn.first hS hn' hlt hl (by omega) (by simp only [mx]; omega))
        clear hS hr hok hl hn'
        generalize bnd (zs.getD 0 0) = bq at *
        obtain ⟨blo, bhi⟩ := bq
        generalize zs.getD 0 0 = b at *
        go_wp2_with fail
        refine (unhide (HB _)).mono ?_
        rintro e w ⟨rfl, rfl⟩
        clear HB hx
        go_wp2
        go_step3
        show Jf s zs r w 2 _ _
        exact ⟨1, [], .slice none 0 0, b % 32, blo, bhi, ⟨rfl, rfl, rfl, rfl, rfl, rfl, rfl⟩, rfl, ⟨rfl, rfl⟩, unhide HT⟩
      · have HT := hide (Sn.first hS hn' hlt hl (by omega) (by simp only [mx]; omega))
        clear hS hr hok hl hn'
        generalize bnd (zs.getD 0 0) = bq at *
        obtain ⟨blo, bhi⟩ := bq
        generalize zs.getD 0 0 = b at *
        go_wp2_with fail
        refine (unhide (HB _)).mono ?_
        rintro e w ⟨rfl, rfl⟩
        clear HB hx
        go_wp2
        go_step3
        show Jf s zs r w 3 _ _
        exact ⟨1, [], .slice none 0 0, b % 16, blo, bhi, ⟨rfl, rfl, rfl, rfl, rfl, rfl, rfl⟩, rfl, ⟨rfl, rfl⟩, unhide HT⟩
      · have HT := hide (Sn.first hS hn' hlt hl (by omega) (by simp only [mx]; omega))
        clear hS hr hok hl hn'
        generalize bnd (zs.getD 0 0) = bq at *
        obtain ⟨blo, bhi⟩ := bq
        generalize zs.getD 0 0 = b at *
        go_wp2_with fail
        refine (unhide (HB _)).mono ?_
        rintro e w ⟨rfl, rfl⟩
        clear HB hx
        go_wp2
        go_step3
        show Jf s zs r w 4 _ _
        exact ⟨1, [], .slice none 0 0, b % 8, blo, bhi, ⟨rfl, rfl, rfl, rfl, rfl, rfl, rfl⟩, rfl, ⟨rfl, rfl⟩, unhide HT⟩
      · have HT := hide (S0.none hS hn' hlt hl)
        clear hS hr hok hl hn'
        generalize bnd (zs.getD 0 0) = bq at *
        obtain ⟨blo, bhi⟩ := bq
        generalize zs.getD 0 0 = b at *
        go_wp2_with fail
        refine (unhide (HB _)).mono ?_
        rintro e w ⟨rfl, rfl⟩
        clear HB hx
        go_wp2
        go_step3
        show Jf s zs r w 5 _ _
        exact ⟨0, .slice none 0 0, ⟨rfl, rfl, rfl, rfl, rfl, rfl, rfl⟩, hk, unhide HT, hbel⟩
      · have HT := hide (S0.none hS hn' hlt hl)
        clear hS hr hok hl hn'
        generalize bnd (zs.getD 0 0) = bq at *
        obtain ⟨blo, bhi⟩ := bq
        generalize zs.getD 0 0 = b at *
        go_wp2_with fail
        refine (unhide (HB _)).mono ?_
        rintro e w ⟨rfl, rfl⟩
        clear HB hx
        go_wp2
        go_step3
        show Jf s zs r w 5 _ _
        exact ⟨0, .slice none 0 0, ⟨rfl, rfl, rfl, rfl, rfl, rfl, rfl⟩, hk, unhide HT, hbel⟩
    · have hz0 : s.size = 0 := by omega
      have hq := Utf.begin_end (by have := unhide hn; omega) hr
      have HF : ReadPost w r (.returned (.tuple #[.slice none 0 0, .int .i64 0, .bool true])) w := .inl ⟨_, _, [], rfl, hok, hq, hbel⟩
      clear hS hr hok hq
      go_wp2
      go_ret3
      exact HF
  case pass =>
    intro l a wr h
    match l, h with
    | (l + 6), h => exact h.elim
    | 0, h =>
      obtain ⟨k, xs, v, hF, hS⟩ := h
      obtain ⟨U, hU, rfl⟩ := hF.open
      clear hF hU
      conv => arg 2; whnf
      obtain ⟨hk, hok, hxl, hbel, hr⟩ := id hS
      by_cases hlt : k < s.size
      · have hx := fun w => run_at s (k : Int) k rfl hlt w
        have hb0 := (fit_u8_of (nums_byt s)).u8at k
        rw [unhide hzs'] at hx hb0
        have HB := fun w => hide (secondBounds_any (zs.getD k 0) w hb0.1 hb0.2)
        have hne : ((k : Int) == (s.size : Int)) = false := by simp; omega
        have hn' := unhide hn
        rcases ways (zs.getD k 0) with ⟨q, hl⟩ | ⟨⟨q1, q2⟩, hl⟩ | ⟨⟨q1, q2⟩, hl⟩ | ⟨⟨q1, q2⟩, hl⟩ | ⟨⟨q1, q2⟩, hl⟩ | ⟨q, hl⟩
        · have HT := hide (Sn.first hS hn' hlt hl (by omega) (by simp only [mx]; omega))
          clear hS hr hok hl hn'
          generalize bnd (zs.getD k 0) = bq at *
          obtain ⟨blo, bhi⟩ := bq
          generalize zs.getD k 0 = b at *
          go_wp2_with fail
          refine (unhide (HB _)).mono ?_
          rintro e wr ⟨rfl, rfl⟩
          clear HB hx
          go_wp2
          go_step3
          show Jf s zs r w 1 _ _ ∧ _
          exact ⟨⟨k + 1, xs, v, b, 0, 0, ⟨rfl, rfl, rfl, rfl, rfl, rfl, rfl⟩, rfl, unhide HT⟩, mes_lt (k := k) (k2 := k + 1) rfl rfl (by simp [mez] <;> omega)⟩
        · have HT := hide (Sn.first hS hn' hlt hl (by omega) (by simp only [mx]; omega))
          clear hS hr hok hl hn'
          generalize bnd (zs.getD k 0) = bq at *
          obtain ⟨blo, bhi⟩ := bq
          generalize zs.getD k 0 = b at *
          go_wp2_with fail
          refine (unhide (HB _)).mono ?_
          rintro e wr ⟨rfl, rfl⟩
          clear HB hx
          go_wp2
          go_step3
          show Jf s zs r w 2 _ _ ∧ _
          exact ⟨⟨k + 1, xs, v, b % 32, blo, bhi, ⟨rfl, rfl, rfl, rfl, rfl, rfl, rfl⟩, rfl, ⟨rfl, rfl⟩, unhide HT⟩, mes_lt (k := k) (k2 := k + 1) rfl rfl (by simp [mez] <;> omega)⟩
        · have HT := hide (Sn.first hS hn' hlt hl (by omega) (by simp only [mx]; omega))
          clear hS hr hok hl hn'
          generalize bnd (zs.getD k 0) = bq at *
          obtain ⟨blo, bhi⟩ := bq
          generalize zs.getD k 0 = b at *
          go_wp2_with fail
          refine (unhide (HB _)).mono ?_
          rintro e wr ⟨rfl, rfl⟩
          clear HB hx
          go_wp2
          go_step3
          show Jf s zs r w 3 _ _ ∧ _
          exact ⟨⟨k + 1, xs, v, b % 16, blo, bhi, ⟨rfl, rfl, rfl, rfl, rfl, rfl, rfl⟩, rfl, ⟨rfl, rfl⟩, unhide HT⟩, mes_lt (k := k) (k2 := k + 1) rfl rfl (by simp [mez] <;> omega)⟩
        · have HT := hide (Sn.first hS hn' hlt hl (by omega) (by simp only [mx]; omega))
          clear hS hr hok hl hn'
          generalize bnd (zs.getD k 0) = bq at *
          obtain ⟨blo, bhi⟩ := bq
          generalize zs.getD k 0 = b at *
          go_wp2_with fail
          refine (unhide (HB _)).mono ?_
          rintro e wr ⟨rfl, rfl⟩
          clear HB hx
          go_wp2
          go_step3
          show Jf s zs r w 4 _ _ ∧ _
          exact ⟨⟨k + 1, xs, v, b % 8, blo, bhi, ⟨rfl, rfl, rfl, rfl, rfl, rfl, rfl⟩, rfl, ⟨rfl, rfl⟩, unhide HT⟩, mes_lt (k := k) (k2 := k + 1) rfl rfl (by simp [mez] <;> omega)⟩
        · have HT := hide (S0.none hS hn' hlt hl)
          clear hS hr hok hl hn'
          generalize bnd (zs.getD k 0) = bq at *
          obtain ⟨blo, bhi⟩ := bq
          generalize zs.getD k 0 = b at *
          go_wp2_with fail
          refine (unhide (HB _)).mono ?_
          rintro e wr ⟨rfl, rfl⟩
          clear HB hx
          go_wp2
          go_step3
          show Jf s zs r w 5 _ _ ∧ _
          exact ⟨⟨k, v, ⟨rfl, rfl, rfl, rfl, rfl, rfl, rfl⟩, hk, unhide HT, hbel⟩, mes_lt (k := k) (k2 := k) rfl rfl (by simp [mez] <;> omega)⟩
        · have HT := hide (S0.none hS hn' hlt hl)
          clear hS hr hok hl hn'
          generalize bnd (zs.getD k 0) = bq at *
          obtain ⟨blo, bhi⟩ := bq
          generalize zs.getD k 0 = b at *
          go_wp2_with fail
          refine (unhide (HB _)).mono ?_
          rintro e wr ⟨rfl, rfl⟩
          clear HB hx
          go_wp2
          go_step3
          show Jf s zs r w 5 _ _ ∧ _
          exact ⟨⟨k, v, ⟨rfl, rfl, rfl, rfl, rfl, rfl, rfl⟩, hk, unhide HT, hbel⟩, mes_lt (k := k) (k2 := k) rfl rfl (by simp [mez] <;> omega)⟩
      · obtain rfl : k = s.size := by omega
        have hq := Utf.begin_end (by have := unhide hn; omega) hr
        have HF : ReadPost w r (.returned (.tuple #[v, .int .i64 (s.size : Int), .bool true])) wr := .inl ⟨v, _, xs, rfl, hok, hq, hbel⟩
        clear hS hr hok hq
        go_wp2
        go_ret3
        exact HF
    | 1, h =>
      obtain ⟨k, xs, v, c, lo, hi, hF, hc, hS⟩ := h
      obtain ⟨U, hU, rfl⟩ := hF.open
      have hc5 : U 5 = .int .i32 c := (hU 5).symm.trans hc
      rw [hc5]
      clear hF hU hc hc5
      conv => arg 2; whnf
      obtain ⟨hk, hok, hxl, hbel, hc0, hc1, hr⟩ := id hS
      have hr2 := hide (Utf.more_done hr)
      have hsz := hbel.size
      simp only [mx] at hc1
      clear hS hr
      go_wp2_with (at_builtin; refine wpList_append_own _ rfl (.tmp 105) (.tmp 107) 22 rfl w.heap.size 21 i0 (.int .i32 0) 1 4 Try.underlying22 hi0 hz0 hz1 hz2 rfl (by decide) _ _ _ rfl (hok.row.alloc _) ⟨wr.heap.size, 0, none⟩ 1 1 [.int .i32 c] rfl rfl (cell_one_new _ _ _) (int_one .i32 c) (by unfold maxLen; omega) (by omega) (by simp; omega) ?_)
      intro v9 w9 hrow9 hg9 _
      have ok9 : Ok .i32 21 w9 w.heap.size v9 (xs ++ [c]) := Ok.of (hok.1.snoc (i32_fit (by omega))) (by simp; omega) hrow9 (by simp) (by simp)
      have hb9 : Below w.heap.size w w9 := below_append hsz hok.row hbel hg9
      clear hrow9 hg9 hok hbel
      go_wp2
      go_step3
      show Jf s zs r w 0 _ _ ∧ _
      exact ⟨⟨k, xs ++ [c], v9, ⟨rfl, rfl, rfl, rfl, rfl, rfl, rfl⟩, ⟨hk, ok9, by simp; omega, hb9, unhide hr2⟩⟩, mes_lt (k := k) (k2 := k) rfl rfl (by simp [mez] <;> omega)⟩
    | 2, h =>
      obtain ⟨k, xs, v, c, lo, hi, hF, hc, ⟨hb7, hb8⟩, hS⟩ := h
      obtain ⟨U, hU, rfl⟩ := hF.open
      have hc5 : U 5 = .int .i32 c := (hU 5).symm.trans hc
      have hc7 : U 7 = .int .u8 lo := (hU 7).symm.trans hb7
      have hc8 : U 8 = .int .u8 hi := (hU 8).symm.trans hb8
      rw [hc5, hc7, hc8]
      clear hF hU hc hc5 hb7 hb8 hc7 hc8
      conv => arg 2; whnf
      have HG := fun w => hide (goesOn_any s k lo hi w hS.1)
      rw [unhide hzs'] at HG
      cases ho : onb zs k lo hi with
      | false =>
        have HT := hide (Sn.bad hS (unhide hn) ho)
        have hk := hS.1
        have hbel := hS.2.2.2.1
        rw [ho] at HG
        clear hS ho
        go_wp2_with fail
        refine (unhide (HG _)).mono ?_
        rintro e wr ⟨rfl, rfl⟩
        clear HG
        go_wp2
        go_step3
        show Jf s zs r w 5 _ _ ∧ _
        exact ⟨⟨k, v, ⟨rfl, rfl, rfl, rfl, rfl, rfl, rfl⟩, hk, unhide HT, hbel⟩, mes_lt (k := k) (k2 := k) rfl rfl (by simp [mez] <;> omega)⟩
      | true =>
        have HT := hide (Sn.next hS (by omega) (unhide hn) ho)
        have hlt : k < s.size := by have := (onb_iff.1 ho).1; have := unhide hn; omega
        have hx := fun w => run_at s (k : Int) k rfl hlt w
        have hb0 := (fit_u8_of (nums_byt s)).u8at k
        rw [unhide hzs'] at hx hb0
        have HW := fun w => hide (withSixBits_any c (zs.getD k 0) w hS.2.2.2.2.1 (mx_le (n := 0) (by omega) hS.2.2.2.2.2.1) hb0.1 hb0.2)
        rw [ho] at HG
        clear hS ho
        generalize zs.getD k 0 = b at *
        go_wp2_with fail
        refine (unhide (HG _)).mono ?_
        rintro e wr ⟨rfl, rfl⟩
        clear HG
        go_wp2_with fail
        refine (unhide (HW _)).mono ?_
        rintro e wr ⟨rfl, rfl⟩
        clear HW hx
        go_wp2
        go_step3
        have hS := unhide HT
        clear HT hb0
        have e1 : (k : Int) + 1 = ((k + 1 : Nat) : Int) := by omega
        rw [e1]
        obtain ⟨c1, hcc⟩ : ∃ c' : Int, c * 64 + b % 64 = c' := ⟨_, rfl⟩
        rw [hcc] at hS ⊢
        obtain ⟨k1, hkk⟩ : ∃ k', k + 1 = k' := ⟨_, rfl⟩
        rw [hkk] at hS e1 ⊢
        have hk1 := hide hkk
        clear e1 hkk hlt hcc
        obtain ⟨hk, hok, hxl, hbel, hc0, hc1, hr⟩ := id hS
        have hr2 := hide (Utf.more_done hr)
        have hsz := hbel.size
        simp only [mx] at hc1
        clear hS hr
        go_wp2_with (at_builtin; refine wpList_append_own _ rfl (.tmp 105) (.tmp 107) 22 rfl w.heap.size 21 i0 (.int .i32 0) 1 4 Try.underlying22 hi0 hz0 hz1 hz2 rfl (by decide) _ _ _ rfl (hok.row.alloc _) ⟨wr.heap.size, 0, none⟩ 1 1 [.int .i32 c1] rfl rfl (cell_one_new _ _ _) (int_one .i32 c1) (by unfold maxLen; omega) (by omega) (by simp; omega) ?_)
        intro v9 w9 hrow9 hg9 _
        have ok9 : Ok .i32 21 w9 w.heap.size v9 (xs ++ [c1]) := Ok.of (hok.1.snoc (i32_fit (by omega))) (by simp; omega) hrow9 (by simp) (by simp)
        have hb9 : Below w.heap.size w w9 := below_append hsz hok.row hbel hg9
        clear hrow9 hg9 hok hbel
        go_wp2
        go_step3
        show Jf s zs r w 0 _ _ ∧ _
        exact ⟨⟨k1, xs ++ [c1], v9, ⟨rfl, rfl, rfl, rfl, rfl, rfl, rfl⟩, ⟨hk, ok9, by simp; omega, hb9, unhide hr2⟩⟩, mes_lt (k := k) (k2 := k1) rfl rfl (by have := unhide hk1; simp [mez] <;> omega)⟩
    | 3, h =>
      obtain ⟨k, xs, v, c, lo, hi, hF, hc, ⟨hb7, hb8⟩, hS⟩ := h
      obtain ⟨U, hU, rfl⟩ := hF.open
      have hc5 : U 5 = .int .i32 c := (hU 5).symm.trans hc
      have hc7 : U 7 = .int .u8 lo := (hU 7).symm.trans hb7
      have hc8 : U 8 = .int .u8 hi := (hU 8).symm.trans hb8
      rw [hc5, hc7, hc8]
      clear hF hU hc hc5 hb7 hb8 hc7 hc8
      conv => arg 2; whnf
      have HG := fun w => hide (goesOn_any s k lo hi w hS.1)
      rw [unhide hzs'] at HG
      cases ho : onb zs k lo hi with
      | false =>
        have HT := hide (Sn.bad hS (unhide hn) ho)
        have hk := hS.1
        have hbel := hS.2.2.2.1
        rw [ho] at HG
        clear hS ho
        go_wp2_with fail
        refine (unhide (HG _)).mono ?_
        rintro e wr ⟨rfl, rfl⟩
        clear HG
        go_wp2
        go_step3
        show Jf s zs r w 5 _ _ ∧ _
        exact ⟨⟨k, v, ⟨rfl, rfl, rfl, rfl, rfl, rfl, rfl⟩, hk, unhide HT, hbel⟩, mes_lt (k := k) (k2 := k) rfl rfl (by simp [mez] <;> omega)⟩
      | true =>
        have HT := hide (Sn.next hS (by omega) (unhide hn) ho)
        have hlt : k < s.size := by have := (onb_iff.1 ho).1; have := unhide hn; omega
        have hx := fun w => run_at s (k : Int) k rfl hlt w
        have hb0 := (fit_u8_of (nums_byt s)).u8at k
        rw [unhide hzs'] at hx hb0
        have HW := fun w => hide (withSixBits_any c (zs.getD k 0) w hS.2.2.2.2.1 (mx_le (n := 1) (by omega) hS.2.2.2.2.2.1) hb0.1 hb0.2)
        rw [ho] at HG
        clear hS ho
        generalize zs.getD k 0 = b at *
        go_wp2_with fail
        refine (unhide (HG _)).mono ?_
        rintro e wr ⟨rfl, rfl⟩
        clear HG
        go_wp2_with fail
        refine (unhide (HW _)).mono ?_
        rintro e wr ⟨rfl, rfl⟩
        clear HW hx
        go_wp2
        go_step3
        have hS := unhide HT
        clear HT hb0
        have e1 : (k : Int) + 1 = ((k + 1 : Nat) : Int) := by omega
        rw [e1]
        obtain ⟨c1, hcc⟩ : ∃ c' : Int, c * 64 + b % 64 = c' := ⟨_, rfl⟩
        rw [hcc] at hS ⊢
        obtain ⟨k1, hkk⟩ : ∃ k', k + 1 = k' := ⟨_, rfl⟩
        rw [hkk] at hS e1 ⊢
        have hk1 := hide hkk
        clear e1 hkk hlt hcc
        have HG := fun w => hide (goesOn_any s k1 128 191 w hS.1)
        rw [unhide hzs'] at HG
        cases ho : onb zs k1 128 191 with
        | false =>
          have HT := hide (Sn.bad hS (unhide hn) ho)
          have hk := hS.1
          have hbel := hS.2.2.2.1
          rw [ho] at HG
          clear hS ho
          go_wp2_with fail
          refine (unhide (HG _)).mono ?_
          rintro e wr ⟨rfl, rfl⟩
          clear HG
          go_wp2
          go_step3
          show Jf s zs r w 5 _ _ ∧ _
          exact ⟨⟨k1, v, ⟨rfl, rfl, rfl, rfl, rfl, rfl, rfl⟩, hk, unhide HT, hbel⟩, mes_lt (k := k) (k2 := k1) rfl rfl (by have := unhide hk1; simp [mez] <;> omega)⟩
        | true =>
          have HT := hide (Sn.next hS (by omega) (unhide hn) ho)
          have hlt : k1 < s.size := by have := (onb_iff.1 ho).1; have := unhide hn; omega
          have hx := fun w => run_at s (k1 : Int) k1 rfl hlt w
          have hb0 := (fit_u8_of (nums_byt s)).u8at k1
          rw [unhide hzs'] at hx hb0
          have HW := fun w => hide (withSixBits_any c1 (zs.getD k1 0) w hS.2.2.2.2.1 (mx_le (n := 0) (by omega) hS.2.2.2.2.2.1) hb0.1 hb0.2)
          rw [ho] at HG
          clear hS ho
          generalize zs.getD k1 0 = b at *
          go_wp2_with fail
          refine (unhide (HG _)).mono ?_
          rintro e wr ⟨rfl, rfl⟩
          clear HG
          go_wp2_with fail
          refine (unhide (HW _)).mono ?_
          rintro e wr ⟨rfl, rfl⟩
          clear HW hx
          go_wp2
          go_step3
          have hS := unhide HT
          clear HT hb0
          have e1 : (k1 : Int) + 1 = ((k1 + 1 : Nat) : Int) := by omega
          rw [e1]
          obtain ⟨c2, hcc⟩ : ∃ c' : Int, c1 * 64 + b % 64 = c' := ⟨_, rfl⟩
          rw [hcc] at hS ⊢
          obtain ⟨k2, hkk⟩ : ∃ k', k1 + 1 = k' := ⟨_, rfl⟩
          rw [hkk] at hS e1 ⊢
          have hk2 := hide hkk
          clear e1 hkk hlt hcc
          obtain ⟨hk, hok, hxl, hbel, hc0, hc1, hr⟩ := id hS
          have hr2 := hide (Utf.more_done hr)
          have hsz := hbel.size
          simp only [mx] at hc1
          clear hS hr
          go_wp2_with (at_builtin; refine wpList_append_own _ rfl (.tmp 105) (.tmp 107) 22 rfl w.heap.size 21 i0 (.int .i32 0) 1 4 Try.underlying22 hi0 hz0 hz1 hz2 rfl (by decide) _ _ _ rfl (hok.row.alloc _) ⟨wr.heap.size, 0, none⟩ 1 1 [.int .i32 c2] rfl rfl (cell_one_new _ _ _) (int_one .i32 c2) (by unfold maxLen; omega) (by omega) (by simp; omega) ?_)
          intro v9 w9 hrow9 hg9 _
          have ok9 : Ok .i32 21 w9 w.heap.size v9 (xs ++ [c2]) := Ok.of (hok.1.snoc (i32_fit (by omega))) (by simp; omega) hrow9 (by simp) (by simp)
          have hb9 : Below w.heap.size w w9 := below_append hsz hok.row hbel hg9
          clear hrow9 hg9 hok hbel
          go_wp2
          go_step3
          show Jf s zs r w 0 _ _ ∧ _
          exact ⟨⟨k2, xs ++ [c2], v9, ⟨rfl, rfl, rfl, rfl, rfl, rfl, rfl⟩, ⟨hk, ok9, by simp; omega, hb9, unhide hr2⟩⟩, mes_lt (k := k) (k2 := k2) rfl rfl (by have := unhide hk1; have := unhide hk2; simp [mez] <;> omega)⟩
    | 4, h =>
      obtain ⟨k, xs, v, c, lo, hi, hF, hc, ⟨hb7, hb8⟩, hS⟩ := h
      obtain ⟨U, hU, rfl⟩ := hF.open
      have hc5 : U 5 = .int .i32 c := (hU 5).symm.trans hc
      have hc7 : U 7 = .int .u8 lo := (hU 7).symm.trans hb7
      have hc8 : U 8 = .int .u8 hi := (hU 8).symm.trans hb8
      rw [hc5, hc7, hc8]
      clear hF hU hc hc5 hb7 hb8 hc7 hc8
      conv => arg 2; whnf
      have HG := fun w => hide (goesOn_any s k lo hi w hS.1)
      rw [unhide hzs'] at HG
      cases ho : onb zs k lo hi with
      | false =>
        have HT := hide (Sn.bad hS (unhide hn) ho)
        have hk := hS.1
        have hbel := hS.2.2.2.1
        rw [ho] at HG
        clear hS ho
        go_wp2_with fail
        refine (unhide (HG _)).mono ?_
        rintro e wr ⟨rfl, rfl⟩
        clear HG
        go_wp2
        go_step3
        show Jf s zs r w 5 _ _ ∧ _
        exact ⟨⟨k, v, ⟨rfl, rfl, rfl, rfl, rfl, rfl, rfl⟩, hk, unhide HT, hbel⟩, mes_lt (k := k) (k2 := k) rfl rfl (by simp [mez] <;> omega)⟩
      | true =>
        have HT := hide (Sn.next hS (by omega) (unhide hn) ho)
        have hlt : k < s.size := by have := (onb_iff.1 ho).1; have := unhide hn; omega
        have hx := fun w => run_at s (k : Int) k rfl hlt w
        have hb0 := (fit_u8_of (nums_byt s)).u8at k
        rw [unhide hzs'] at hx hb0
        have HW := fun w => hide (withSixBits_any c (zs.getD k 0) w hS.2.2.2.2.1 (mx_le (n := 2) (by omega) hS.2.2.2.2.2.1) hb0.1 hb0.2)
        rw [ho] at HG
        clear hS ho
        generalize zs.getD k 0 = b at *
        go_wp2_with fail
        refine (unhide (HG _)).mono ?_
        rintro e wr ⟨rfl, rfl⟩
        clear HG
        go_wp2_with fail
        refine (unhide (HW _)).mono ?_
        rintro e wr ⟨rfl, rfl⟩
        clear HW hx
        go_wp2
        go_step3
        have hS := unhide HT
        clear HT hb0
        have e1 : (k : Int) + 1 = ((k + 1 : Nat) : Int) := by omega
        rw [e1]
        obtain ⟨c1, hcc⟩ : ∃ c' : Int, c * 64 + b % 64 = c' := ⟨_, rfl⟩
        rw [hcc] at hS ⊢
        obtain ⟨k1, hkk⟩ : ∃ k', k + 1 = k' := ⟨_, rfl⟩
        rw [hkk] at hS e1 ⊢
        have hk1 := hide hkk
        clear e1 hkk hlt hcc
        have HG := fun w => hide (goesOn_any s k1 128 191 w hS.1)
        rw [unhide hzs'] at HG
        cases ho : onb zs k1 128 191 with
        | false =>
          have HT := hide (Sn.bad hS (unhide hn) ho)
          have hk := hS.1
          have hbel := hS.2.2.2.1
          rw [ho] at HG
          clear hS ho
          go_wp2_with fail
          refine (unhide (HG _)).mono ?_
          rintro e wr ⟨rfl, rfl⟩
          clear HG
          go_wp2
          go_step3
          show Jf s zs r w 5 _ _ ∧ _
          exact ⟨⟨k1, v, ⟨rfl, rfl, rfl, rfl, rfl, rfl, rfl⟩, hk, unhide HT, hbel⟩, mes_lt (k := k) (k2 := k1) rfl rfl (by have := unhide hk1; simp [mez] <;> omega)⟩
        | true =>
          have HT := hide (Sn.next hS (by omega) (unhide hn) ho)
          have hlt : k1 < s.size := by have := (onb_iff.1 ho).1; have := unhide hn; omega
          have hx := fun w => run_at s (k1 : Int) k1 rfl hlt w
          have hb0 := (fit_u8_of (nums_byt s)).u8at k1
          rw [unhide hzs'] at hx hb0
          have HW := fun w => hide (withSixBits_any c1 (zs.getD k1 0) w hS.2.2.2.2.1 (mx_le (n := 1) (by omega) hS.2.2.2.2.2.1) hb0.1 hb0.2)
          rw [ho] at HG
          clear hS ho
          generalize zs.getD k1 0 = b at *
          go_wp2_with fail
          refine (unhide (HG _)).mono ?_
          rintro e wr ⟨rfl, rfl⟩
          clear HG
          go_wp2_with fail
          refine (unhide (HW _)).mono ?_
          rintro e wr ⟨rfl, rfl⟩
          clear HW hx
          go_wp2
          go_step3
          have hS := unhide HT
          clear HT hb0
          have e1 : (k1 : Int) + 1 = ((k1 + 1 : Nat) : Int) := by omega
          rw [e1]
          obtain ⟨c2, hcc⟩ : ∃ c' : Int, c1 * 64 + b % 64 = c' := ⟨_, rfl⟩
          rw [hcc] at hS ⊢
          obtain ⟨k2, hkk⟩ : ∃ k', k1 + 1 = k' := ⟨_, rfl⟩
          rw [hkk] at hS e1 ⊢
          have hk2 := hide hkk
          clear e1 hkk hlt hcc
          have HG := fun w => hide (goesOn_any s k2 128 191 w hS.1)
          rw [unhide hzs'] at HG
          cases ho : onb zs k2 128 191 with
          | false =>
            have HT := hide (Sn.bad hS (unhide hn) ho)
            have hk := hS.1
            have hbel := hS.2.2.2.1
            rw [ho] at HG
            clear hS ho
            go_wp2_with fail
            refine (unhide (HG _)).mono ?_
            rintro e wr ⟨rfl, rfl⟩
            clear HG
            go_wp2
            go_step3
            show Jf s zs r w 5 _ _ ∧ _
            exact ⟨⟨k2, v, ⟨rfl, rfl, rfl, rfl, rfl, rfl, rfl⟩, hk, unhide HT, hbel⟩, mes_lt (k := k) (k2 := k2) rfl rfl (by have := unhide hk1; have := unhide hk2; simp [mez] <;> omega)⟩
          | true =>
            have HT := hide (Sn.next hS (by omega) (unhide hn) ho)
            have hlt : k2 < s.size := by have := (onb_iff.1 ho).1; have := unhide hn; omega
            have hx := fun w => run_at s (k2 : Int) k2 rfl hlt w
            have hb0 := (fit_u8_of (nums_byt s)).u8at k2
            rw [unhide hzs'] at hx hb0
            have HW := fun w => hide (withSixBits_any c2 (zs.getD k2 0) w hS.2.2.2.2.1 (mx_le (n := 0) (by omega) hS.2.2.2.2.2.1) hb0.1 hb0.2)
            rw [ho] at HG
            clear hS ho
            generalize zs.getD k2 0 = b at *
            go_wp2_with fail
            refine (unhide (HG _)).mono ?_
            rintro e wr ⟨rfl, rfl⟩
            clear HG
            go_wp2_with fail
            refine (unhide (HW _)).mono ?_
            rintro e wr ⟨rfl, rfl⟩
            clear HW hx
            go_wp2
            go_step3
            have hS := unhide HT
            clear HT hb0
            have e1 : (k2 : Int) + 1 = ((k2 + 1 : Nat) : Int) := by omega
            rw [e1]
            obtain ⟨c3, hcc⟩ : ∃ c' : Int, c2 * 64 + b % 64 = c' := ⟨_, rfl⟩
            rw [hcc] at hS ⊢
            obtain ⟨k3, hkk⟩ : ∃ k', k2 + 1 = k' := ⟨_, rfl⟩
            rw [hkk] at hS e1 ⊢
            have hk3 := hide hkk
            clear e1 hkk hlt hcc
            obtain ⟨hk, hok, hxl, hbel, hc0, hc1, hr⟩ := id hS
            have hr2 := hide (Utf.more_done hr)
            have hsz := hbel.size
            simp only [mx] at hc1
            clear hS hr
            go_wp2_with (at_builtin; refine wpList_append_own _ rfl (.tmp 105) (.tmp 107) 22 rfl w.heap.size 21 i0 (.int .i32 0) 1 4 Try.underlying22 hi0 hz0 hz1 hz2 rfl (by decide) _ _ _ rfl (hok.row.alloc _) ⟨wr.heap.size, 0, none⟩ 1 1 [.int .i32 c3] rfl rfl (cell_one_new _ _ _) (int_one .i32 c3) (by unfold maxLen; omega) (by omega) (by simp; omega) ?_)
            intro v9 w9 hrow9 hg9 _
            have ok9 : Ok .i32 21 w9 w.heap.size v9 (xs ++ [c3]) := Ok.of (hok.1.snoc (i32_fit (by omega))) (by simp; omega) hrow9 (by simp) (by simp)
            have hb9 : Below w.heap.size w w9 := below_append hsz hok.row hbel hg9
            clear hrow9 hg9 hok hbel
            go_wp2
            go_step3
            show Jf s zs r w 0 _ _ ∧ _
            exact ⟨⟨k3, xs ++ [c3], v9, ⟨rfl, rfl, rfl, rfl, rfl, rfl, rfl⟩, ⟨hk, ok9, by simp; omega, hb9, unhide hr2⟩⟩, mes_lt (k := k) (k2 := k3) rfl rfl (by have := unhide hk1; have := unhide hk2; have := unhide hk3; simp [mez] <;> omega)⟩
    | 5, h =>
      obtain ⟨k, v, hF, hk, hq, hbel⟩ := h
      obtain ⟨U, hU, rfl⟩ := hF.open
      clear hF hU
      conv => arg 2; whnf
      have HF : ReadPost w r (.returned (.tuple #[.slice none 0 0, .int .i64 (k : Int), .bool false])) wr := .inr ⟨_, hq, rfl, hbel⟩
      clear hq hbel
      go_wp2
      go_ret3
      exact HF

set_option maxHeartbeats 400000 in
theorem decC : DecC := by
  intro s w hs
  have H := hide (read_any s w hs)
  generalize Utf.dec 0 (nums s) = r at *
  go_enter Try.func9, Try.ntmps9
  go_wp2_with fail
  refine (unhide H).mono ?_
  clear H
  rintro e w1 (⟨v, p, xs, rfl, hok, hq, hb⟩ | ⟨p, hq, rfl, hb⟩)
  · have HF := DecPost.end (w := w) hq hok hb
    clear hok hq
    go_wp2
    go_ret3
    exact HF
  · have HF := DecPost.err (w := w) hq hb
    clear hq
    go_wp2
    go_ret3
    exact HF
end Go.Proofs.Ytchjnplceelgoaa
