/- The contracts of the document's own Form, Encode, Bytes. -/
import Derived.Test.YtgccindoinhphaaRefE
namespace Go.Proofs.Ytgccindoinhphaa
open Go.RowKit

theorem conv_zero (w : World) (ad : Addr) (c : Nat) : (convert 40 9 (.slice (some ad) 0 c)).run Try.prog w = .ok (.string (strOfNums [])) w := by
  rw [run_convert_bytes_string w 40 9 5 _ 0 c Try.underlying40 Try.underlying5 Try.underlying9, run_bytesToString w ad 0 c [] (run_loadCells_list (P := Try.prog) w ad [] (fun j v hj => by simp at hj))]
  rfl

theorem Sk.conv {w : World} {v : Value} {zs : List Int} (h : Sk .u8 w v zs) : (convert 40 9 v).run Try.prog w = .ok (.string (strOfNums zs)) w := by
  rcases Nat.eq_zero_or_pos zs.length with h0 | h0
  · obtain rfl := List.eq_nil_of_length_eq_zero h0
    obtain ⟨ao, cap, rfl, _, _⟩ := h.shape
    cases ao with
    | none => rw [List.length_nil, run_convert_bytes_nil w 40 5 Try.underlying40 Try.underlying5 0 cap 9 Try.underlying9]; rfl
    | some ad => exact conv_zero w ad cap
  · obtain ⟨b, off, cap, rfl, hl, hm, hc⟩ := h.place h0
    exact run_convert_bytes_arg w 40 5 Try.underlying40 Try.underlying5 b off zs.length cap zs rfl hc 9 Try.underlying9

/-- New values. -/
def NewB (w : World) (zs : List Int) (e : Ending) (w' : World) : Prop := ∃ v, e = .returned v ∧ Sk .u8 w' v zs ∧ Below w.heap.size w w'

theorem NewB.lit {w : World} {zs r : List Int} {n : Nat} {C : Array Value} {m : Nat × Nat} {g : Nat} (hr : r = zs) (hg : g = w.heap.size) (hn : zs.length = n) (hC : C = (zs.map (Value.int .u8)).toArray) (hb : Utf.Byt r) (hl : zs.length ≤ 1000) :
    NewB w r (.returned (.slice (some ⟨g, 0, none⟩) n n)) (w.alloc (.cells C 5 m)) := by
  subst hr
  exact ⟨_, rfl, Sk.lit .u8 5 w g hg r n hn C hC m (fit_u8_of hb) hl, (Below.refl _ _).alloc (Nat.le_refl _) _⟩

theorem enc_step {xs ys : List Int} {k : Nat} {r : List Int × Int × Int} (hk : k < xs.length) (h : r = Utf.glue ys (Utf.encA k (xs.drop k))) (hc : Utf.okc (xs.getD k 0)) :
    r = Utf.glue (ys ++ Utf.form (xs.getD k 0)) (Utf.encA (k + 1) (xs.drop (k + 1))) := by
  rw [h, drop_next hk]
  simp only [Utf.encA, if_pos hc, Utf.glue_glue]
theorem enc_stop {xs ys : List Int} {k : Nat} {r : List Int × Int × Int} (hk : k < xs.length) (h : r = Utf.glue ys (Utf.encA k (xs.drop k))) (hc : ¬ Utf.okc (xs.getD k 0)) :
    r = ([], (k : Int), 31) := by
  rw [h, drop_next hk]
  simp only [Utf.encA, if_neg hc]
  simp [Utf.glue]
theorem enc_end {xs ys : List Int} {k : Nat} {r : List Int × Int × Int} (hk : k = xs.length) (h : r = Utf.glue ys (Utf.encA k (xs.drop k))) : r = (ys, 0, 0) := by
  subst hk
  rw [h, List.drop_length]
  simp [Utf.encA, Utf.glue]

end Go.Proofs.Ytgccindoinhphaa
