/- The contracts of Encode and of told. -/
import Derived.Test.YtgccindoinhphaaPwF11
namespace Go.Proofs.Ytgccindoinhphaa
open Go.RowKit

namespace Pu
def ordOf (xs : List Int) : List Nat := sortF xs (idx xs highq)
def encode (xs : List Int) : List Int × Int := if allb okb xs = false then ([], 31) else write xs (ordOf xs)
def t1Of (xs : List Int) : List Int := (wr1 xs (idx xs lowq) (List.replicate (xs.length + 1) 0) []).1
/-- Whether the writer's steps are numbers from 0 on. -/
def fine (xs : List Int) : Prop := (∀ a ∈ ordOf xs, a < xs.length) ∧ (idx xs lowq).length + (ordOf xs).length ≤ 2000 ∧ wok xs (ordOf xs) (t1Of xs) ((idx xs lowq).length : Int) 128 0 = true
end Pu

theorem psound_any (v : Value) (xs : List Int) (w : World) (hv : Sk .i32 w v xs) : Calls Try.prog 21 #[v] w (BoolPost w (allb okb xs)) := by
  have H := hide (firstUnsound_any v xs w hv)
  have hq : allb okb xs = decide (fb (fun c => !okb c) 0 xs < 0) := by rw [fb_all]; simp [allb]
  rw [hq]
  clear hv hq
  generalize fb (fun c => !okb c) 0 xs = r at *
  go_enter Try.func21, Try.ntmps21
  go_wp2_with fail
  refine (unhide H).mono ?_
  rintro e w ⟨rfl, rfl⟩
  clear H
  go_wp2
  go_ret
  exact BoolPost.mk rfl

theorem okb_range {xs : List Int} (h : allb okb xs = true) : ∀ z ∈ xs, 0 ≤ z ∧ z ≤ 1114111 := by
  intro z hz
  have := List.all_eq_true.1 h z hz
  have h2 : Utf.okc z := of_decide_eq_true this
  rcases h2 with h3 | h3 <;> omega

set_option maxHeartbeats 1000000 in
theorem encode_any (m : Nat) (HS : SortC m) (v : Value) (xs : List Int) (w : World) (hv : Sk .i32 w v xs) (hl : xs.length ≤ 2000) (hm : (Pu.idx xs Pu.highq).length ≤ m) (hf : allb okb xs = true → Pu.fine xs) :
    Calls Try.prog 10 #[v] w (WrP w (Pu.encode xs)) := by
  have HSN := hide (psound_any v xs w hv)
  obtain ⟨ao, cap, hvv, hc1, hc2⟩ := hv.shape
  cases hb : allb okb xs with
  | false =>
    have HF : Hid (WrP w (Pu.encode xs) (.returned (.tuple #[.string ⟨#[]⟩, .int .i64 31])) w) := by
      refine ⟨?_, Below.refl _ _⟩
      unfold Pu.encode; rw [if_pos hb]; rfl
    rw [hb] at HSN
    subst hvv
    clear hv hf hb hm HS
    generalize Pu.encode xs = R at *
    go_enter Try.func10, Try.ntmps10
    go_wp2_with (go_at_call 21; refine (unhide HSN).mono ?_; rintro e wq ⟨rfl, rfl⟩; clear HSN)
    go_ret2
    exact unhide HF
  | true =>
    obtain ⟨f1, f2, f3⟩ := hf hb
    have HW := hide (write_any m HS v xs w hv hl hm (okb_range hb) (Pu.ordOf xs) rfl f1 f2 f3)
    have hE : Pu.encode xs = Pu.write xs (Pu.ordOf xs) := by unfold Pu.encode; rw [if_neg (by rw [hb]; simp)]
    rw [hE]
    rw [hb] at HSN
    subst hvv
    clear hv hf hb hm HS f1 f2 f3 hE
    generalize Pu.write xs (Pu.ordOf xs) = R at *
    go_enter Try.func10, Try.ntmps10
    go_wp2_with (go_at_call 21; refine (unhide HSN).mono ?_; rintro e wq ⟨rfl, rfl⟩; clear HSN)
    refine (unhide HW).mono ?_
    rintro e w2 ⟨rfl, hb2⟩
    have HF : Hid (WrP wq R (.returned (.tuple #[.string (strOfNums R.1), .int .i64 R.2])) w2) := ⟨rfl, hb2⟩
    clear HW hb2
    generalize strOfNums R.1 = so at *
    generalize R.2 = ro at *
    go_wp2
    go_ret2
    exact unhide HF

theorem told_idx : Pu.idx [102, 97, 223] Pu.highq = [2] := by decide
theorem told_ord : Pu.ordOf [102, 97, 223] = [2] := by unfold Pu.ordOf; rw [told_idx]; exact Pu.sortF_one _ (by decide)
theorem told_fine : Pu.fine [102, 97, 223] := by
  unfold Pu.fine
  rw [told_ord]
  refine ⟨by decide, by decide, by decide +kernel⟩
theorem told_enc : Pu.encode [102, 97, 223] = ([102, 97, 45, 104, 105, 97], 0) := by
  unfold Pu.encode
  rw [told_ord, if_neg (by decide)]
  decide +kernel
theorem told_dec1 : Pu.decode (nums ⟨#[98, 99, 104, 101, 114, 45, 107, 118, 97]⟩) = ([98, 252, 99, 104, 101, 114], 0) := by decide +kernel
theorem told_dec2 : Pu.decode (nums ⟨#[57, 57, 57, 57, 57, 57, 57, 57, 97]⟩) = ([], 113) := by decide +kernel
theorem told_ad : Pu.adapt 19853 1 true = 21 := by decide +kernel
theorem told_str : strOfNums [102, 97, 45, 104, 105, 97] = ⟨#[102, 97, 45, 104, 105, 97]⟩ := rfl

set_option maxHeartbeats 4000000 in
theorem told_any (w : World) : Calls Try.prog 12 #[] w (Tells w true) := by
  have HE : ∀ W, Hid (Calls Try.prog 10 #[.slice (some ⟨W.heap.size, 0, none⟩) 3 3] (W.alloc (.cells #[.int .i32 102, .int .i32 97, .int .i32 223] 21)) (fun e w' => e = .returned (.tuple #[.string ⟨#[102, 97, 45, 104, 105, 97]⟩, .int .i64 0]) ∧ Below W.heap.size W w')) := fun W => by
    have hsk : Sk .i32 (W.alloc (.cells #[.int .i32 102, .int .i32 97, .int .i32 223] 21)) (.slice (some ⟨W.heap.size, 0, none⟩) 3 3) [102, 97, 223] := Sk.lit .i32 21 W W.heap.size rfl [102, 97, 223] 3 rfl _ rfl (0, 0) (fun z hz => by simp at hz; rcases hz with rfl | rfl | rfl <;> exact i32_fit (by omega)) (by decide)
    refine (encode_any 1 sort1C _ [102, 97, 223] _ hsk (by decide) (by rw [told_idx]; decide) (fun _ => told_fine)).mono ?_
    rintro e w' ⟨rfl, hb⟩
    rw [told_enc]
    exact ⟨rfl, ((Below.refl _ _).alloc (Nat.le_refl _) _).trans (hb.mono (by rw [alloc_size]; omega))⟩
  have HD1 := fun W => hide (decode_any ⟨#[98, 99, 104, 101, 114, 45, 107, 118, 97]⟩ W (by decide))
  have HD2 := fun W => hide (decode_any ⟨#[57, 57, 57, 57, 57, 57, 57, 57, 97]⟩ W (by decide))
  have HA := fun W => hide (adapt_any 19853 1 true W (by decide) (by decide))
  rw [told_dec1] at HD1
  rw [told_dec2] at HD2
  rw [told_ad] at HA
  go_enter Try.func12, Try.ntmps12
  go_wp2_with fail
  refine (unhide (HE _)).mono ?_
  rintro e w1 ⟨rfl, hb1⟩
  clear HE
  go_wp2_with fail
  refine (unhide (HD1 _)).mono ?_
  rintro e w2 (⟨v2, rfl, _, hok, hb2⟩ | ⟨h1, h2, _⟩)
  · obtain ⟨g, off, cap, hv, hc1, hc2, hcl⟩ := hok.sk.place (by decide)
    have hc := hcl 1 (by decide)
    have hv' : v2 = .slice (some ⟨g, off, none⟩) 6 cap := hv
    subst hv'
    have hbb := bthen hb1 hb2
    have HC : Hid (∀ W, Below w2.heap.size w2 W → W.cell? ⟨g, off + 1, none⟩ = some (.int .i32 252)) := fun W hW => by rw [hW.cell (lt_of_cell? hc)]; exact hc
    clear HD1 hok hcl hc hb1 hb2 hv
    go_wp2_with fail
    refine (unhide (HD2 _)).mono ?_
    rintro e w3 (⟨v3, _, h0, _⟩ | ⟨_, _, rfl, hb3⟩)
    · simp at h0
    · have hc3 := unhide HC w3 hb3
      have HB := hide (bthen hbb hb3)
      clear HD2 HC hbb hb3
      have hc6 : (6 : Int) ≤ cap := by have h6 : 6 ≤ cap := hc1; omega
      go_wp2_with (go_at_call 16; refine (unhide (HA _)).mono ?_; rintro e wq ⟨rfl, rfl⟩; clear HA)
      go_ret
      exact ⟨rfl, unhide HB⟩
  · exact absurd h2 (by decide)
end Go.Proofs.Ytgccindoinhphaa
