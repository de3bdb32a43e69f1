/- The contract of wire.ReadText. -/
import Derived.Test.YtmdbdfigpccbpaaConv
namespace Go.Proofs.Ytmdbdfigpccbpaa.Ref
/-- ReadText. -/
def rt (zs : List Int) (at_ most : Int) : List Int × Int × Int :=
  if most < 0 then ([], 0, 1)
  else if (rd zs at_).2.2 ≠ 0 then ([], 0, (rd zs at_).2.2)
  else if most < (rd zs at_).1 then ([], 0, 3)
  else if (zs.length : Int) - (rd zs at_).2.1 < (rd zs at_).1 then ([], 0, 10)
  else ((zs.drop (rd zs at_).2.1.toNat).take (rd zs at_).1.toNat, (rd zs at_).2.1 + (rd zs at_).1, 0)
end Go.Proofs.Ytmdbdfigpccbpaa.Ref
namespace Go.Proofs.Ytmdbdfigpccbpaa
open Go.RowKit

theorem rd_ok (zs : List Int) (at_ : Int) (h : (Ref.rd zs at_).2.2 = 0) : 0 ≤ at_ ∧ at_ < (Ref.rd zs at_).2.1 ∧ (Ref.rd zs at_).2.1 ≤ zs.length ∧ 0 ≤ (Ref.rd zs at_).1 ∧ (Ref.rd zs at_).1 ≤ 9223372036854775807 := by
  unfold Ref.rd at *
  by_cases hb : at_ < 0 ∨ (zs.length : Int) < at_
  · rw [if_pos hb] at h; simp at h
  · rw [if_neg hb] at h ⊢
    by_cases h2 : (Ref.num 0 (zs.drop at_.toNat)).2 = 0
    · rw [if_pos h2]
      have h3 := Ref.num_bytes (zs.drop at_.toNat) 0 (by omega)
      have h4 := Ref.num_le (zs.drop at_.toNat) 0
      have h5 := h3.2.1 h2
      have h6 := val_bound ((zs.drop at_.toNat).take (Ref.num 0 (zs.drop at_.toNat)).1)
      simp only [List.length_drop] at h4
      have h7 : ((zs.drop at_.toNat).take (Ref.num 0 (zs.drop at_.toNat)).1).length ≤ 9 := by
        rw [List.length_take]; omega
      have h8 : (128 : Int) ^ ((zs.drop at_.toNat).take (Ref.num 0 (zs.drop at_.toNat)).1).length ≤ 128 ^ 9 := by
        exact_mod_cast Nat.pow_le_pow_right (n := 128) (by decide) h7
      generalize (128 : Int) ^ ((zs.drop at_.toNat).take (Ref.num 0 (zs.drop at_.toNat)).1).length = q at *
      simp only
      omega
    · rw [if_neg h2] at h; exact absurd h h2

/-- What ReadText answers. -/
def RtPost (w : World) (r : List Int × Int × Int) (e : Ending) (w' : World) : Prop :=
  e = .returned (.tuple #[.string (strOfNums r.1), .int .i64 r.2.1, .int .i64 r.2.2]) ∧ w' = w

theorem RtPost.mk {w : World} {r : List Int × Int × Int} {a : List Int} {b c : Int} (h : r = (a, b, c)) : RtPost w r (.returned (.tuple #[.string (strOfNums a), .int .i64 b, .int .i64 c])) w := by
  subst h; exact ⟨rfl, rfl⟩

theorem RtPost.no {w : World} {r : List Int × Int × Int} {c : Int} (h : r = ([], 0, c)) : RtPost w r (.returned (.tuple #[.string ⟨#[]⟩, .int .i64 0, .int .i64 c])) w := RtPost.mk h

set_option maxHeartbeats 1000000 in
theorem readText_any (v : Value) (zs : List Int) (at_ most : Int) (w : World) (hs : Sl w v zs) :
    Calls Try.prog 17 #[v, .int .i64 at_, .int .i64 most] w (RtPost w (Ref.rt zs at_ most)) := by
  have hl := hs.len
  have HR := hide (readUint_any v zs at_ w hs)
  by_cases hm : most < 0
  · have HF := RtPost.no (w := w) (show Ref.rt zs at_ most = ([], 0, 1) by simp [Ref.rt, hm])
    generalize Ref.rt zs at_ most = r at *
    obtain ⟨ao, cap, rfl, hc1, hc2⟩ := hs.shape
    clear HR
    go_enter Try.func17, Try.ntmps17
    go_wp2
    go_ret3
    exact HF
  · by_cases he : (Ref.rd zs at_).2.2 ≠ 0
    · have HF := RtPost.no (w := w) (show Ref.rt zs at_ most = ([], 0, (Ref.rd zs at_).2.2) by simp [Ref.rt, hm, he])
      have hne : ((Ref.rd zs at_).2.2 != 0) = true := by simpa using he
      generalize Ref.rt zs at_ most = r at *
      clear he
      obtain ⟨ao, cap, rfl, hc1, hc2⟩ := hs.shape
      generalize Ref.rd zs at_ = q at *
      go_enter Try.func17, Try.ntmps17
      go_wp2_with fail
      refine (unhide HR).mono ?_
      rintro e w' ⟨rfl, rfl⟩
      go_wp2
      go_ret3
      exact HF
    · have he' : (Ref.rd zs at_).2.2 = 0 := by simpa using he
      have hok := rd_ok zs at_ he'
      have hne : ((Ref.rd zs at_).2.2 != 0) = false := by simp [he']
      have hrt : Ref.rt zs at_ most = if most < (Ref.rd zs at_).1 then ([], 0, 3) else if (zs.length : Int) - (Ref.rd zs at_).2.1 < (Ref.rd zs at_).1 then ([], 0, 10) else ((zs.drop (Ref.rd zs at_).2.1.toNat).take (Ref.rd zs at_).1.toNat, (Ref.rd zs at_).2.1 + (Ref.rd zs at_).1, 0) := by
        rw [Ref.rt, if_neg hm, if_neg he]
      clear he he'
      have HT := hide hrt
      clear hrt
      generalize Ref.rd zs at_ = q at *
      by_cases hmany : most < q.1
      · have HF := RtPost.no (w := w) ((unhide HT).trans (if_pos hmany))
        generalize Ref.rt zs at_ most = r at *
        obtain ⟨ao, cap, rfl, hc1, hc2⟩ := hs.shape
        clear HT
        go_enter Try.func17, Try.ntmps17
        go_wp2_with fail
        refine (unhide HR).mono ?_
        rintro e w' ⟨rfl, rfl⟩
        go_wp2
        go_ret3
        exact HF
      · have HT2 := hide ((unhide HT).trans (if_neg hmany))
        by_cases hsh : (zs.length : Int) - q.2.1 < q.1
        · have HF := RtPost.no (w := w) ((unhide HT2).trans (if_pos hsh))
          have HP := hide (piece_no v zs q.2.1 q.1 w hs (by omega) (by omega) hsh)
          generalize Ref.rt zs at_ most = r at *
          obtain ⟨ao, cap, rfl, hc1, hc2⟩ := hs.shape
          clear HT HT2
          go_enter Try.func17, Try.ntmps17
          go_wp2_with fail
          refine (unhide HR).mono ?_
          rintro e w' ⟨rfl, rfl⟩
          go_wp2_with fail
          refine (unhide HP).mono ?_
          rintro e w' ⟨rfl, rfl⟩
          go_wp2
          go_ret3
          exact HF
        · have HF := RtPost.mk (w := w) ((unhide HT2).trans (if_neg hsh))
          have HP := hide (piece_yes v zs q.2.1 q.1 w hs (by omega) (by omega) (by omega) (by omega))
          generalize (zs.drop q.2.1.toNat).take q.1.toNat = ys at *
          generalize Ref.rt zs at_ most = r at *
          obtain ⟨ao, cap, rfl, hc1, hc2⟩ := hs.shape
          clear HT HT2
          go_enter Try.func17, Try.ntmps17
          go_wp2_with fail
          refine (unhide HR).mono ?_
          rintro e w' ⟨rfl, rfl⟩
          go_wp2_with fail
          refine (unhide HP).mono ?_
          rintro e w' ⟨v', rfl, rfl, hv'⟩
          have hcv := hv'.conv
          obtain ⟨ao2, cap2, rfl, _, _⟩ := hv'.shape
          clear HP HR
          go_wp2
          go_ret3
          exact HF
end Go.Proofs.Ytmdbdfigpccbpaa
