/- How long a packed table of few records is; a packed table with turned bits. Plain. -/
import Derived.Test.YtlmcmlbmnnjjpaaGreatDoorQd8
import Derived.Test.YtlmcmlbmnnjjpaaGreatDoorCrcF8
namespace Go.Proofs.YtlmcmlbmnnjjpaaGreatDoor
open Wi

theorem uint_len3 {n : Int} (h0 : 0 ≤ n) (h1 : n ≤ 1114111) : (Ref.uint n).length ≤ 3 := by
  unfold Ref.uint
  rw [if_neg (by omega)]
  by_cases a : n < 128
  · rw [ub_stop _ _ a]; simp
  rw [ub_step _ _ a]
  by_cases b : n / 128 < 128
  · rw [ub_stop _ _ b]; simp
  rw [ub_step _ _ b, ub_stop _ _ (show n / 128 / 128 < 128 by omega)]
  simp
def wl : Nat → Nat
  | 0 => 3
  | 1 => 3
  | 2 => 3
  | 3 => 3
  | 4 => 3
  | 5 => 7
  | 6 => 7
  | 7 => 75
  | _ => 8
theorem flat3 : ∀ (l : List Int), (∀ c ∈ l, 0 ≤ c ∧ c ≤ 1114111) → (l.flatMap Ref.uint).length ≤ 3 * l.length
  | [], _ => by simp
  | c :: l, h => by
    have h1 := uint_len3 (h c (by simp)).1 (h c (by simp)).2
    have h2 := flat3 l (fun d hd => h d (by simp [hd]))
    simp only [List.flatMap_cons, List.length_append, List.length_cons]
    omega
theorem fb_len3 {r : Rec} {f : Nat} (h : Cok r f) : (Pk.fb r f).length ≤ wl f := by
  match f, h with
  | 0, h => exact uint_len3 h.1 h.2
  | 1, h => exact uint_len3 (by have := h.2.1; omega) (by have := h.1; have := h.2.2; omega)
  | 2, h => exact uint_len3 h.1 h.2
  | 3, h => exact uint_len3 h.1 h.2
  | 4, h => exact uint_len3 h.1 h.2
  | 5, h =>
    have h9 : r.name.size ≤ 4 := h
    have := uint_len3 (n := (r.name.size : Int)) (by omega) (by omega)
    simp only [Pk.fb, List.length_append, Wi.nums_length, wl]; omega
  | 6, h =>
    have h9 : r.other.size ≤ 4 := h
    have := uint_len3 (n := (r.other.size : Int)) (by omega) (by omega)
    simp only [Pk.fb, List.length_append, Wi.nums_length, wl]; omega
  | 7, h =>
    have := uint_len3 (n := (r.to.length : Int)) (by omega) (by have := h.1; omega)
    have h3 := flat3 r.to h.2
    have h4 := h.1
    simp only [Pk.fb, List.length_append, wl]; omega
  | n + 8, _ => simp only [Pk.fb, wl]; rw [Ref.fl_length]; omega
theorem fbs_len3 {r : Rec} : ∀ (fs : List Nat), (∀ f ∈ fs, Cok r f) → (fs.flatMap (Pk.fb r)).length ≤ (fs.map wl).sum
  | [], _ => by simp
  | f :: fs, h => by
    have h1 := fb_len3 (h f (by simp))
    have h2 := fbs_len3 fs (fun g hg => h g (by simp [hg]))
    simp only [List.flatMap_cons, List.length_append, List.map_cons, List.sum_cons]
    omega
theorem form_wl {k : Int} (hf : Cn.fam k ≠ 0) : ((Pk.form k).map wl).sum ≤ 81 := by
  rcases kinds15 hf with rfl | rfl | rfl | rfl | rfl | rfl | rfl | rfl | rfl | rfl | rfl | rfl | rfl | rfl | rfl <;> decide
theorem rbs_len3 : ∀ (l : List Rec), (∀ r ∈ l, Cn.right r = 0) → (l.flatMap Pk.rb).length ≤ 82 * l.length
  | [], _ => by simp
  | r :: l, h => by
    obtain ⟨h1, _, _, _, h5⟩ := right_back (h r (by simp))
    have h2 := fbs_len3 (Pk.form r.kind) h1
    have h3 := form_wl h5
    have h4 := rbs_len3 l (fun x hx => h x (by simp [hx]))
    simp only [List.flatMap_cons, List.length_append, List.length_cons, Pk.rb]
    omega
theorem pack_len {l : List Rec} (h : (Pk.pack l).2.2 = 0) (hl : l.length ≤ 60) : (Pk.pack l).1.length ≤ 5000 := by
  obtain ⟨hp, hc, h10, hle⟩ := pack_ok h
  have hall := Cn.check6_all hc
  have h1 := rbs_len3 l hall.2
  have h2 := uint_len l.length
  rw [hp]
  show (Pk.body l ++ Pk.sum4 (Pk.body l)).length ≤ 5000
  rw [List.length_append, sum4_len]
  unfold Pk.body
  rw [List.length_append, List.length_append, show Pk.head.length = 5 from rfl]
  omega
theorem pack_sealed {l : List Rec} (h : (Pk.pack l).2.2 = 0) : (Pk.pack l).1.drop ((Pk.pack l).1.length - 4) = Pk.sum4 ((Pk.pack l).1.take ((Pk.pack l).1.length - 4)) := by
  obtain ⟨hp, hc, h10, hle⟩ := pack_ok h
  rw [hp]
  show (Pk.body l ++ Pk.sum4 (Pk.body l)).drop ((Pk.body l ++ Pk.sum4 (Pk.body l)).length - 4) = Pk.sum4 ((Pk.body l ++ Pk.sum4 (Pk.body l)).take ((Pk.body l ++ Pk.sum4 (Pk.body l)).length - 4))
  have hl : (Pk.body l ++ Pk.sum4 (Pk.body l)).length - 4 = (Pk.body l).length := by rw [List.length_append, sum4_len]; omega
  rw [hl, List.take_left', List.drop_left'] <;> rfl
/-- Bytes whose sum is another than that of a packed table's are refused. -/
theorem turned_no {bs ys : List Int} (hb : Byt bs) (hy : Byt ys) (hs : bs.drop (bs.length - 4) = Pk.sum4 (bs.take (bs.length - 4))) (hne : Crc.sum ys ≠ Crc.sum bs) : ∃ a e, e ≠ 0 ∧ Pk.unpack ys = ([], a, e) :=
  unpack_no (.inr fun h => hne (Crc.sum_sealed hy hb h hs))
end Go.Proofs.YtlmcmlbmnnjjpaaGreatDoor
