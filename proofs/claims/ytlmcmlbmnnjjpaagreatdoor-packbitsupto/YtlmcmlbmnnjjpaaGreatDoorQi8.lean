/- PackBits, whole. -/
import Derived.Test.YtlmcmlbmnnjjpaaGreatDoorQh8
namespace Go.Proofs.YtlmcmlbmnnjjpaaGreatDoor
open Go.RowKit
open Wi

set_option maxRecDepth 8000 in
set_option maxHeartbeats 8000000 in
/-- What was not packed. -/
theorem bits_no (v : Value) (rs : List Rec) (i j k : Int) (pat : Nat) (w : World) (hgl : Glob w) (hv : Rcs w v rs) (he : (Pk.pack (rs.take 60)).2.2 ≠ 0) : Calls Tryz.prog 6 #[v, .int .i64 i, .int .i64 j, .int .i64 k, .int .u32 (pat : Int)] w (Tells8 w true) := by
  have HGL : Hid (∀ W, Below w.heap.size w W → Glob W) := fun W h => hgl.on h
  have K1 := hide (few8_any v rs 60 w hv (by omega))
  have HFIT : Hid (∀ r ∈ rs.take 60, RecFit r) := fun r hr => hv.2.1 r (List.mem_of_mem_take hr)
  have KT : Hid (∀ W, Below w.heap.size w W → Calls Tryz.prog 11 #[] W (Tells8 W true)) := fun W h => told8_any W (hgl.on h)
  obtain ⟨ao0, cap0, rfl, _, _⟩ := hv.shape
  have hl60 : (rs.take 60).length ≤ 60 := List.length_take_le _ _
  clear hgl hv
  have KP : Hid (∀ W v1 ps, Below w.heap.size w W → Rown W w.heap.size v1 ps → ps.map (·.1) = rs.take 60 → Calls Tryz.prog 9 #[v1] W (PackB W (Pk.pack (rs.take 60)))) := fun W v1 ps hW hR he => by
    refine pack_any v1 _ W ((unhide HGL) W hW) ?_
    rw [← he]
    have hpl : ps.length = (rs.take 60).length := by rw [← he, List.length_map]
    refine hR.rcs (by omega) (fun p hp => (unhide HFIT) _ ?_)
    rw [← he]
    exact List.mem_map.2 ⟨p, hp, rfl⟩
  clear HGL HFIT
  generalize Pk.pack (rs.take 60) = q at *
  have hne : (q.2.2 != 0) = true := by simpa using he
  clear he
  go_enter Tryz.func6, Tryz.ntmps6
  go_wp2_with fail
  refine (unhide K1).mono ?_
  rintro e1 w1 ⟨v1, ps, rfl, hps, hR, hb1⟩
  have K2 := hide ((unhide KP) w1 v1 ps hb1 hR hps)
  obtain ⟨lao, lcap, hvl, _⟩ := hR.shape
  subst hvl
  clear K1 KP hR hps
  go_wp2_with fail
  refine (unhide K2).mono ?_
  rintro e2 w2 ⟨v2, rfl, hown, hb2⟩
  have hB2 := bthen hb1 hb2
  have KT2 := hide ((unhide KT) w2 hB2)
  clear K2 KT hown
  go_wp2_with fail
  refine (unhide KT2).mono ?_
  rintro e4 w4 ⟨rfl, hb4⟩
  have HF : Tells8 w true (.returned (.bool true)) w4 := ⟨rfl, bthen hB2 hb4⟩
  clear KT2 hb4
  go_wp2
  go_ret
  exact HF
theorem bne_same {a b : Nat} (h : a = b) : (((a : Nat) : Int) != ((b : Nat) : Int)) = false := by rw [h]; exact bne_self_eq_false _
/-- 8.4: a packed table with one to three bits turned, or with bits turned within 32 neighbours, is not unpacked. -/
theorem pbits_any (v : Value) (rs : List Rec) (i j k : Int) (pat : Nat) (hpat : pat < 4294967296) (w : World) (hgl : Glob w) (hv : Rcs w v rs) : Calls Tryz.prog 6 #[v, .int .i64 i, .int .i64 j, .int .i64 k, .int .u32 (pat : Int)] w (Tells8 w true) := by
  by_cases he : (Pk.pack (rs.take 60)).2.2 = 0
  · have hok := pack_ok he
    have h10 : 10 ≤ (Pk.pack (rs.take 60)).1.length := by rw [hok.1]; exact hok.2.2.1
    obtain ⟨ci, hci, pi, _⟩ := and_forty i
    obtain ⟨cj, hcj, pj, _⟩ := and_forty j
    obtain ⟨ck, hck, pk, _⟩ := and_forty k
    obtain ⟨I, hI, lI⟩ := mod_bits ci (Pk.pack (rs.take 60)).1.length (by omega)
    obtain ⟨J, hJ, lJ⟩ := mod_bits cj (Pk.pack (rs.take 60)).1.length (by omega)
    obtain ⟨K, hK, lK⟩ := mod_bits ck (Pk.pack (rs.take 60)).1.length (by omega)
    by_cases hJI : J = I
    · by_cases hKI : K = I
      · exact bits_e v rs i j k pat hpat w hgl hv he _ rfl ci cj ck hci hcj hck pi pj pk I J K hI hJ hK lI lJ lK (bne_same hJI) (bne_same hKI)
      · exact bits_d v rs i j k pat hpat w hgl hv he _ rfl ci cj ck hci hcj hck pi pj pk I J K hI hJ hK lI lJ lK (by omega) (bne_same hJI) (nat_ne hKI) (nat_ne (by omega))
    · by_cases hKI : K = I
      · exact bits_b v rs i j k pat hpat w hgl hv he _ rfl ci cj ck hci hcj hck pi pj pk I J K hI hJ hK lI lJ lK (by omega) (nat_ne hJI) (bne_same hKI)
      · by_cases hKJ : K = J
        · exact bits_c v rs i j k pat hpat w hgl hv he _ rfl ci cj ck hci hcj hck pi pj pk I J K hI hJ hK lI lJ lK (by omega) (nat_ne hJI) (nat_ne hKI) (bne_same hKJ)
        · exact bits_a v rs i j k pat hpat w hgl hv he _ rfl ci cj ck hci hcj hck pi pj pk I J K hI hJ hK lI lJ lK (nat_ne hJI) (nat_ne hKI) (nat_ne hKJ)
  · exact bits_no v rs i j k pat w hgl hv he
/-- The same, the pattern as a whole number. -/
theorem bits_all (v : Value) (rs : List Rec) (i j k p : Int) (w : World) (hgl : Glob w) (hv : Rcs w v rs) (hp : 0 ≤ p ∧ p ≤ 4294967295) : Calls Tryz.prog 6 #[v, .int .i64 i, .int .i64 j, .int .i64 k, .int .u32 p] w (Tells8 w true) := by
  obtain ⟨pat, rfl⟩ := Int.eq_ofNat_of_zero_le hp.1
  exact pbits_any v rs i j k pat (by omega) w hgl hv
end Go.Proofs.YtlmcmlbmnnjjpaaGreatDoor
