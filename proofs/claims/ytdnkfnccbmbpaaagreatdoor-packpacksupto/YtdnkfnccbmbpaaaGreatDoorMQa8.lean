/- The statements' own told and few. -/
import Derived.Test.YtdnkfnccbmbpaaaGreatDoorGt8
import Derived.KernelRfl
namespace Go.Proofs.YtdnkfnccbmbpaaaGreatDoor
open Go.RowKit
open Wi

def Tells8 (w : World) (b : Bool) (e : Ending) (w' : World) : Prop := e = .returned (.bool b) ∧ Below w.heap.size w w'
namespace Pk
def t0 : Rec := ⟨1, 97, 122, 0, [], ⟨#[]⟩, ⟨#[]⟩, 0⟩
def b13 : List Int := [101, 110, 100, 111, 1, 1, 1, 97, 25, 195, 174, 235, 120]
theorem pack_t0 : pack [t0] = (b13, 0, 0) := by kernel_rfl
theorem unpack_b13 : unpack b13 = ([t0], 0, 0) := by kernel_rfl
theorem str9 : strOfNums (b13.take 9) = ⟨#[101, 110, 100, 111, 1, 1, 1, 97, 25]⟩ := rfl
end Pk
theorem t0_fit : RecFit Pk.t0 := ⟨by unfold I64 Pk.t0; decide, by unfold I64 Pk.t0; decide, by unfold I64 Pk.t0; decide, by unfold I64 Pk.t0; decide, by decide, by decide⟩
theorem t0_rcs (w : World) : Rcs (w.alloc (.cells #[.int .i64 1, .int .i64 97, .int .i64 122, .int .i64 0, .slice none 0 0, .string ⟨#[]⟩, .string ⟨#[]⟩, .float .f64 0] 46)) (.slice (some ⟨w.heap.size, 0, none⟩) 1 1) [Pk.t0] := by
  have hb : (w.alloc (.cells #[.int .i64 1, .int .i64 97, .int .i64 122, .int .i64 0, .slice none 0 0, .string ⟨#[]⟩, .string ⟨#[]⟩, .float .f64 0] 46)).heap[w.heap.size]? = some (.cells #[.int .i64 1, .int .i64 97, .int .i64 122, .int .i64 0, .slice none 0 0, .string ⟨#[]⟩, .string ⟨#[]⟩, .float .f64 0] 46 (0, 0)) := by
    show (w.heap.push _)[w.heap.size]? = _
    simp
  obtain ⟨z0, z1, z2, z3, z4, z5, z6, z7⟩ := cells8 hb
  refine ⟨by simp, fun r hr => ?_, .inr ⟨w.heap.size, 0, 1, rfl, by simp, by omega, fun i hi => ?_⟩⟩
  · simp only [List.mem_singleton] at hr; subst hr; exact t0_fit
  · match i, hi with
    | 0, _ => exact ⟨z0, z1, z2, z3, ⟨_, z4, Sk.nil _ _⟩, z5, z6, z7⟩
set_option maxRecDepth 8000 in
set_option maxHeartbeats 2000000 in
theorem told8_any (w : World) (hgl : Glob w) : Calls Tryz.prog 8 #[] w (Tells8 w true) := by
  have b0 : Below w.heap.size w (w.alloc (.cells #[.int .i64 1, .int .i64 97, .int .i64 122, .int .i64 0, .slice none 0 0, .string ⟨#[]⟩, .string ⟨#[]⟩, .float .f64 0] 46)) := (Below.refl _ _).alloc (Nat.le_refl _) _
  have HRC := hide (t0_rcs w)
  have K1 := pack_any _ [Pk.t0] _ (hgl.on b0) (t0_rcs w)
  rw [Pk.pack_t0] at K1
  have K1 := hide K1
  have HGL : Hid (∀ W, Below w.heap.size w W → Glob W) := fun W h => hgl.on h
  have hfl : ∀ W a m, (store a (.float .f64 0) m).run Tryz.prog W = stored Tryz.prog W a (.float .f64 0) m := fun W a m => run_store Tryz.prog W a _ m rfl
  clear hgl
  go_enter Tryz.func8, Tryz.ntmps8
  go_wp2_with fail
  refine (unhide K1).mono ?_
  rintro e1 w1 ⟨v1, rfl, hown, hb1⟩
  have hB1 : Below w.heap.size w w1 := bthen b0 hb1
  have K2 := unpack_any v1 Pk.b13 w1 ((unhide HGL) w1 hB1) hown.sl
  rw [Pk.unpack_b13] at K2
  have K2 := hide K2
  obtain ⟨ao, cap, hve, hcl, hcm⟩ := hown.sl.shape
  have hve2 : v1 = .slice ao 13 cap := hve
  have HSL := hide hown.sl
  have hc13 : 13 ≤ cap := hcl
  subst hve2
  clear K1 hown hve hcl
  go_wp2_with fail
  refine (unhide K2).mono ?_
  rintro e2 w2 ⟨v2, ps, rfl, hR, hps, hb2⟩
  have hB2 : Below w.heap.size w w2 := bthen hB1 hb2
  have hcv := (((unhide HSL).below hb2).head (k := 9) (by decide) hc13).conv
  rw [Pk.str9] at hcv
  have hcv2 : (convert 24 9 (.slice ao 9 cap)).run Tryz.prog w2 = .ok (.string ⟨#[101, 110, 100, 111, 1, 1, 1, 97, 25]⟩) w2 := hcv
  replace hps : ps.map (·.1) = [Pk.t0] := hps
  have hrc2 : Rcs w2 v2 [Pk.t0] := by
    rw [← hps]
    refine hR.rcs ?_ (fun p hp => ?_)
    · have := congrArg List.length hps
      rw [List.length_map] at this
      rw [this]; simp
    · have : p.1 ∈ ps.map (·.1) := List.mem_map.2 ⟨p, hp, rfl⟩
      rw [hps] at this
      simp only [List.mem_singleton] at this
      rw [this]; exact t0_fit
  have hrc1 := ((unhide HRC).below hb1).below hb2
  have K3 := hide (sameRecs_eq _ v2 [Pk.t0] w2 hrc1 hrc2)
  obtain ⟨lao, lcap, hvl, _⟩ := hR.shape
  subst hvl
  clear K2 HSL HRC hR hps hcv hrc1 hrc2
  go_wp2_with fail
  refine (unhide K3).mono ?_
  rintro e3 w3 ⟨rfl, hb3⟩
  have HF : Tells8 w true (.returned (.bool true)) w3 := ⟨rfl, bthen hB2 hb3⟩
  clear K3 hb3 hB2 hB1 hb1 hb2 b0 hcv2
  go_wp2
  go_ret
  exact HF
/-- At most so many records, in memory of their own. -/
theorem few8_any (v : Value) (rs : List Rec) (m : Nat) (w : World) (hv : Rcs w v rs) (hm : m ≤ 1000) : Calls Tryz.prog 5 #[v, .int .i64 (m : Int)] w (RecsNew w (rs.take m)) := by
  have hlen := hv.1
  obtain ⟨ao, cap, rfl, h1, h2⟩ := hv.shape
  by_cases hle : rs.length ≤ m
  · have hmn : min (rs.length : Int) (m : Int) = (rs.length : Int) := by omega
    have ht : rs.take m = rs.take rs.length := by rw [List.take_of_length_le hle, List.take_length]
    have K := hide (refCopied_any _ _ w (hv.head (Nat.le_refl _)))
    rw [ht]
    clear hv ht
    go_enter Tryz.func5, Tryz.ntmps5
    go_wp2_with fail
    refine (unhide K).mono ?_
    rintro e w1 ⟨v1, ps, rfl, a1, a2, a3⟩
    have HF : RecsNew w (rs.take rs.length) (.returned v1) w1 := ⟨v1, ps, rfl, a1, a2, a3⟩
    clear K a1 a2 a3
    go_wp2
    go_ret
    exact HF
  · have hmn : min (rs.length : Int) (m : Int) = (m : Int) := by omega
    have K := hide (refCopied_any _ _ w (hv.head (k := m) (by omega)))
    clear hv
    go_enter Tryz.func5, Tryz.ntmps5
    go_wp2_with fail
    refine (unhide K).mono ?_
    rintro e w1 ⟨v1, ps, rfl, a1, a2, a3⟩
    have HF : RecsNew w (rs.take m) (.returned v1) w1 := ⟨v1, ps, rfl, a1, a2, a3⟩
    clear K a1 a2 a3
    go_wp2
    go_ret
    exact HF
end Go.Proofs.YtdnkfnccbmbpaaaGreatDoor
