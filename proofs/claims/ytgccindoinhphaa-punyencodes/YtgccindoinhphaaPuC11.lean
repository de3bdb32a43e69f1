/- The contracts of the state's steps, of isBasic, of the last hyphen. -/
import Derived.Test.YtgccindoinhphaaPuB11
import Derived.Test.YtgccindoinhphaaPuM11
import Derived.Deep.RegionHeld3
namespace Go.Proofs.Ytgccindoinhphaa
open Go.RowKit

/-- A state as it lies in memory. -/
def StAt (w : World) (b : Nat) (p n i bias : Int) (f : Bool) : Prop := w.heap[b]? = some (.cells #[.int .i64 p, .int .i64 n, .int .i64 i, .int .i64 bias, .bool f] 57 (0, 0))

theorem StAt.cells {w : World} {b : Nat} {p n i bias : Int} {f : Bool} (h : StAt w b p n i bias f) :
    w.cell? ⟨b, 0, none⟩ = some (.int .i64 p) ∧ w.cell? ⟨b, 1, none⟩ = some (.int .i64 n) ∧ w.cell? ⟨b, 2, none⟩ = some (.int .i64 i) ∧ w.cell? ⟨b, 3, none⟩ = some (.int .i64 bias) ∧ w.cell? ⟨b, 4, none⟩ = some (.bool f) ∧
      w.frozen? ⟨b, 0, none⟩ = false ∧ w.frozen? ⟨b, 1, none⟩ = false ∧ w.frozen? ⟨b, 2, none⟩ = false ∧ w.frozen? ⟨b, 3, none⟩ = false ∧ w.frozen? ⟨b, 4, none⟩ = false := by
  unfold StAt at h
  simp [World.cell?, World.frozen?, h]

theorem StAt.drew {w : World} {b : Nat} {p n i bias : Int} {f : Bool} (h : StAt w b p n i bias f) : StAt w.drew b p n i bias f := h

theorem drew_size (w : World) : w.drew.heap.size = w.heap.size := rfl

def StepPost (w : World) (b : Nat) (p n i bias : Int) (pl : Int) (e : Ending) (w' : World) : Prop :=
  e = .returned (.tuple #[.int .i64 n, .int .i64 pl]) ∧ StAt w' b p n i bias false ∧ w.grownBy w' (some b) ∧ w'.heap.size = w.heap.size

theorem grown_setc {w w' : World} {g j : Nat} (h : w.grownBy w' (some g)) (v : Value) : w.grownBy (w'.setCell ⟨g, j, none⟩ v) (some g) :=
  ⟨h.os, h.tape, h.output, by rw [setc_size]; exact h.size, fun k hk hne => by rw [setc_other (fun hh => hne (by rw [hh])), h.block k hk hne]⟩

theorem step_close {w : World} {b : Nat} {p n i bias : Int} {f : Bool} (h : StAt w b p n i bias f) (p' n' i' a pl : Int) :
    StepPost w b p' n' i' a pl (.returned (.tuple #[.int .i64 n', .int .i64 pl])) (((((w.setCell ⟨b, 0, none⟩ (.int .i64 p')).setCell ⟨b, 1, none⟩ (.int .i64 n')).setCell ⟨b, 3, none⟩ (.int .i64 a)).setCell ⟨b, 4, none⟩ (.bool false)).setCell ⟨b, 2, none⟩ (.int .i64 i')).drew.drew.drew := by
  refine ⟨rfl, ?_, ?_, ?_⟩
  · have h0 : StAt (w.setCell ⟨b, 0, none⟩ (.int .i64 p')) b p' n i bias f := setc_block (j := 0) h (.int .i64 p')
    have h1 : StAt ((w.setCell ⟨b, 0, none⟩ (.int .i64 p')).setCell ⟨b, 1, none⟩ (.int .i64 n')) b p' n' i bias f := setc_block (j := 1) h0 (.int .i64 n')
    generalize (w.setCell ⟨b, 0, none⟩ (.int .i64 p')).setCell ⟨b, 1, none⟩ (.int .i64 n') = w1 at *
    have h2 : StAt (w1.setCell ⟨b, 3, none⟩ (.int .i64 a)) b p' n' i a f := setc_block (j := 3) h1 (.int .i64 a)
    generalize w1.setCell ⟨b, 3, none⟩ (.int .i64 a) = w2 at *
    have h3 : StAt (w2.setCell ⟨b, 4, none⟩ (.bool false)) b p' n' i a false := setc_block (j := 4) h2 (.bool false)
    generalize w2.setCell ⟨b, 4, none⟩ (.bool false) = w3 at *
    have h4 : StAt (w3.setCell ⟨b, 2, none⟩ (.int .i64 i')) b p' n' i' a false := setc_block (j := 2) h3 (.int .i64 i')
    exact h4.drew.drew.drew
  · exact grown_drew (grown_drew (grown_drew (grown_setc (grown_setc (grown_setc (grown_setc (grown_setc (grown_refl w _) _) _) _) _) _)))
  · rw [drew_size, drew_size, drew_size, setc_size, setc_size, setc_size, setc_size, setc_size]

set_option maxHeartbeats 4000000 in
theorem step_any (b : Nat) (p n i bias d : Int) (f : Bool) (w : World) (h : StAt w b p n i bias f) (hp : 0 ≤ p ∧ p ≤ 1000000) (hn : 0 ≤ n ∧ n ≤ 10000000) (hi : 0 ≤ i ∧ i ≤ 10000000) (hd : 0 ≤ d ∧ d ≤ 2147483647) :
    Calls Try.prog 38 #[.pointer (some ⟨b, 0, none⟩), .int .i64 d] w (StepPost w b (p + 1) (n + (i + d) / (p + 1)) ((i + d) % (p + 1) + 1) (Pu.adapt d (p + 1) f) ((i + d) % (p + 1))) := by
  obtain ⟨c0, c1, c2, c3, c4, f0, f1, f2, f3, f4⟩ := h.cells
  have hq0 : 0 ≤ (i + d) / (p + 1) := Int.ediv_nonneg (by omega) (by omega)
  have hq1 : (i + d) / (p + 1) ≤ i + d := Int.ediv_le_self _ (by omega)
  have hr0 : 0 ≤ (i + d) % (p + 1) := Int.emod_nonneg _ (by omega)
  have hr1 : (i + d) % (p + 1) < p + 1 := Int.emod_lt_of_pos _ (by omega)
  have HK : ∀ W, Hid (Calls Try.prog 16 #[.int .i64 d, .int .i64 (p + 1), .bool f] W (IntPost W (Pu.adapt d (p + 1) f))) := fun W => adapt_any d (p + 1) f W (by omega) (by omega)
  generalize Pu.adapt d (p + 1) f = a at *
  go_enter Try.func38, Try.ntmps38
  go_wp2
  go_region
  go_wp2
  go_region
  go_wp2
  go_region_with (go_at_call 16; refine (unhide (HK _)).mono ?_; rintro e wq ⟨rfl, rfl⟩)
  go_wp2
  all_goals
    go_ret2
    exact step_close h _ _ _ _ _

set_option maxHeartbeats 1000000 in
theorem begun_any (p : Int) (w : World) : Calls Try.prog 33 #[.int .i64 p] w fun e w' => e = .returned (.agg #[.int .i64 p, .int .i64 128, .int .i64 0, .int .i64 72, .bool true]) ∧ Below w.heap.size w w' := by
  have hbl : Below w.heap.size w (w.alloc (.cells #[.int .i64 p, .int .i64 128, .int .i64 0, .int .i64 72, .bool true] 57)) := (Below.refl _ _).alloc (Nat.le_refl _) _
  have z : ∀ j v, #[Value.int .i64 p, .int .i64 128, .int .i64 0, .int .i64 72, .bool true][j]? = some v → (w.alloc (.cells #[.int .i64 p, .int .i64 128, .int .i64 0, .int .i64 72, .bool true] 57)).cell? ⟨w.heap.size, j, none⟩ = some v := fun j v h => by
    rw [World.cell?_alloc_at (w := w) _ _ w.heap.size j rfl]; exact h
  have z0 := z 0 _ rfl
  have z1 := z 1 _ rfl
  have z2 := z 2 _ rfl
  have z3 := z 3 _ rfl
  have z4 := z 4 _ rfl
  go_enter Try.func33, Try.ntmps33
  go_wp2
  refine bodyPost_ret (v := .agg #[.int .i64 p, .int .i64 128, .int .i64 0, .int .i64 72, .bool true]) (by simp [results, Try.results33, go_sem, z0, z1, z2, z3, z4]) rfl ⟨rfl, hbl⟩

theorem basicB_next {zs : List Int} {k : Nat} (hk : k < zs.length) (h : Pu.basicB zs = Pu.basicB (zs.drop k)) (hz : zs.getD k 0 < 128) : Pu.basicB zs = Pu.basicB (zs.drop (k + 1)) := by
  rw [h, drop_next hk]; generalize zs.getD k 0 = z at *; simp [Pu.basicB, hz]
theorem basicB_no {zs : List Int} {k : Nat} (hk : k < zs.length) (h : Pu.basicB zs = Pu.basicB (zs.drop k)) (hz : ¬ zs.getD k 0 < 128) : Pu.basicB zs = false := by
  rw [h, drop_next hk]; generalize zs.getD k 0 = z at *; simp [Pu.basicB, hz]
theorem basicB_end {zs : List Int} {k : Nat} (hk : zs.length ≤ k) (h : Pu.basicB zs = Pu.basicB (zs.drop k)) : Pu.basicB zs = true := by
  rw [h, List.drop_eq_nil_of_le hk]; rfl

def BoolPost (w : World) (b : Bool) (e : Ending) (w' : World) : Prop := e = .returned (.bool b) ∧ w' = w
theorem BoolPost.mk {w : World} {b c : Bool} (h : c = b) : BoolPost w b (.returned (.bool c)) w := by subst h; exact ⟨rfl, rfl⟩

set_option maxHeartbeats 1000000 in
theorem isBasic_any (s : ByteArray) (w : World) (hs : s.size ≤ 1000000000) : Calls Try.prog 24 #[.string s] w (BoolPost w (Pu.basicB (nums s))) := by
  have hn := nums_length s
  have HR0 : Hid (Pu.basicB (nums s) = Pu.basicB ((nums s).drop 0)) := by rw [List.drop_zero]; exact rfl
  have HAT := hide (run_at s)
  have HB := hide (nums_byt s)
  generalize hr : Pu.basicB (nums s) = r at *
  have HRr := hide hr
  clear hr
  generalize hz : nums s = zs at *
  clear hz
  go_enter Try.func24, Try.ntmps24
  go_wp2
  go_loop [3, 6, 7, 8, 9, 10, 11, 12, 13] (fun _ i _ _ _ _ _ _ _ => ∃ k : Nat, i = .int .i64 k ∧ k ≤ zs.length ∧ r = Pu.basicB (zs.drop k)) (fun _ i _ _ _ _ _ _ _ => zs.length - (intOf i).toNat)
  case atStart => exact ⟨0, rfl, by omega, unhide HR0⟩
  case round =>
    obtain ⟨k, rfl, hk, hrk⟩ := hrel
    by_cases hlt : k < zs.length
    · have hat := unhide HAT (k : Int) k rfl (by omega)
      have hq : Pu.basicB zs = Pu.basicB (zs.drop k) := (unhide HRr).trans hrk
      have hrg : 0 ≤ zs.getD k 0 ∧ zs.getD k 0 ≤ 255 := by
        rw [List.getD, List.getElem?_eq_getElem hlt]; exact unhide HB _ (List.getElem_mem hlt)
      by_cases hz : zs.getD k 0 < 128
      · have HN := hide (((unhide HRr).symm).trans (basicB_next hlt hq hz))
        clear hrk hq HRr HR0 HAT HB
        generalize zs.getD k 0 = z at *
        go_wp2
        go_round
        case rel => exact ⟨k + 1, by go_num, by omega, unhide HN⟩
        case measure => simp [intOf]; omega
      · have HN := hide (((unhide HRr).symm).trans (basicB_no hlt hq hz))
        clear hrk hq HRr HR0 HAT HB
        generalize zs.getD k 0 = z at *
        go_wp2
        go_ret
        exact BoolPost.mk (unhide HN).symm
    · have hq : Pu.basicB zs = Pu.basicB (zs.drop k) := (unhide HRr).trans hrk
      have HN := hide (((unhide HRr).symm).trans (basicB_end (by omega) hq))
      clear hrk hq HRr HR0 HAT HB
      go_wp2
      go_ret
      exact BoolPost.mk (unhide HN).symm
end Go.Proofs.Ytgccindoinhphaa
