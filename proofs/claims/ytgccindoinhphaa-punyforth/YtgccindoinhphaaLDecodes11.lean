/- The walk of PunyDecodes. -/
import Derived.Test.YtgccindoinhphaaLAdapts11
namespace Go.Proofs.Ytgccindoinhphaa
open Go.RowKit

/-- A number of a row written over. -/
theorem Ok.setAt {K : IntKind} {e : TypeId} {w : World} {B g n cap : Nat} {zs : List Int} (h : Ok K e w B (.slice (some ⟨g, 0, none⟩) n cap) zs) (k : Nat) (z : Int) (hk : k < zs.length) (hz : Fit K [z]) :
    Ok K e (w.setCell ⟨g, k, none⟩ (.int K z)) B (.slice (some ⟨g, 0, none⟩) n cap) (zs.set k z) ∧ w.cell? ⟨g, k, none⟩ ≠ none ∧ w.frozen? ⟨g, k, none⟩ = false := by
  have hrow := h.row
  rcases hrow.2 with ⟨h0, _⟩ | ⟨g', cap', cur, hv, hb, hh, hn, hcap, hsz, htake⟩
  · cases h0
  · simp only [Value.slice.injEq, Option.some.injEq, Addr.mk.injEq] at hv
    obtain ⟨⟨rfl, _⟩, hnn, rfl⟩ := hv
    refine ⟨Ok.of (n := zs.length) (us := (zs.set k z).map (Value.int K)) ?_ (by simpa using h.sk.len) ⟨by simp, .inr ⟨g, cap, cur.setIfInBounds k (.int K z), by rw [hnn], hb, setc_block hh _, hn, hcap, by simpa using hsz, ?_⟩⟩ (by simp) rfl, ?_, ?_⟩
    · intro y hy
      rcases List.mem_or_eq_of_mem_set hy with hy | hy
      · exact h.1 y hy
      · subst hy; exact hz _ (by simp)
    · rw [Nat.mul_one] at htake ⊢
      rw [Array.toList_setIfInBounds, List.take_set, htake, ← List.map_set]
    · simp [World.cell?, hh]; omega
    · simp [World.frozen?, hh]

theorem rd_same {B B' : Nat} {w w1 w' w1' : World} {r : List Int × Int} {e e' : Ending} (h : RdPost B w r e w1) (h' : RdPost B' w' r e' w1') :
    (∃ v v', e = .returned (.tuple #[v, .int .i64 0]) ∧ e' = .returned (.tuple #[v', .int .i64 0]) ∧ Ok .i32 21 w1 B v r.1 ∧ Ok .i32 21 w1' B' v' r.1 ∧ Below B w w1 ∧ Below B' w' w1') ∨
    (r.1 = [] ∧ r.2 ≠ 0 ∧ e = .returned (.tuple #[.slice none 0 0, .int .i64 r.2]) ∧ e' = .returned (.tuple #[.slice none 0 0, .int .i64 r.2]) ∧ Below B w w1 ∧ Below B' w' w1') := by
  rcases h with ⟨v, h1, h2, h3, h4⟩ | ⟨h1, h2, h3, h4⟩
  · rcases h' with ⟨v', k1, k2, k3, k4⟩ | ⟨k1, k2, k3, k4⟩
    · exact .inl ⟨v, v', h1, k1, h3, k3, h4, k4⟩
    · exact absurd (congrArg Prod.snd h2) k2
  · rcases h' with ⟨v', k1, k2, k3, k4⟩ | ⟨k1, k2, k3, k4⟩
    · exact absurd (congrArg Prod.snd k2) h2
    · exact .inr ⟨h1, h2, h3, k3, h4, k4⟩

/-- What an answer of either reader is, as one thing: a row that holds the sequence, and its error. -/
def Ans (B : Nat) (w : World) (r : List Int × Int) (e : Ending) (w' : World) : Prop := ∃ v, e = .returned (.tuple #[v, .int .i64 r.2]) ∧ Ok .i32 21 w' B v r.1 ∧ Below B w w'
theorem Ans.of {B : Nat} {w w' : World} {r : List Int × Int} {e : Ending} (h : RdPost B w r e w') : Ans B w r e w' := by
  rcases h with ⟨v, h1, h2, h3, h4⟩ | ⟨h1, h2, h3, h4⟩
  · refine ⟨v, ?_, h3, h4⟩
    rw [h1, congrArg Prod.snd h2]
  · refine ⟨_, h3, ?_, h4⟩
    rw [h1]; exact Ok.nil _ _ _ _

namespace Pu
theorem rdAll_len (f : Nat) (zs : List Int) (s : St) : (rdAll f zs s).1.length ≤ s.xs.length + zs.length := by
  induction f generalizing zs s with
  | zero => simp [rdAll]
  | succ f ih =>
    rw [rdAll]
    split
    · simp
    · split
      · simp
      · split
        · simp
        · split
          · simp
          · rename_i h0 h1 _ _
            have hl := rdN_len s.bias zs 1 0 1 (by simpa using h1)
            have := ih (rdN s.bias zs 1 0 1).2.2 (step s (rdN s.bias zs 1 0 1).2.1)
            have hs : (step s (rdN s.bias zs 1 0 1).2.1).xs.length = s.xs.length + 1 := ins_len _ _ _
            omega
theorem decode_len (zs : List Int) : (decode zs).1.length ≤ 2 * zs.length := by
  rw [decode_eq]
  split
  · simp
  · split
    · simp
    · have := rdAll_len (tail zs).length (tail zs) (begin (zs.take (lastH zs 0 0)))
      have h1 : (begin (zs.take (lastH zs 0 0))).xs.length ≤ zs.length := by show (zs.take _).length ≤ _; rw [List.length_take]; omega
      have h2 : (tail zs).length ≤ zs.length := by
        unfold tail; split
        · exact Nat.le_refl _
        · rw [List.length_drop]; omega
      unfold rdW
      omega
end Pu

theorem sameT (xs : List Int) : decide (xs = xs) = true := decide_eq_true rfl

set_option maxRecDepth 20000 in
set_option maxHeartbeats 8000000 in
theorem decodes_any (s0 : ByteArray) (w : World) (hs0 : s0.size ≤ 140737488355328) :
    Calls Try.prog 4 #[.string s0] w (Tells w true) := by
  obtain ⟨s, hs⟩ : ∃ s, s0.extract 0 (min (s0.size : Int) 1200).toNat = s := ⟨_, rfl⟩
  have hss : s.size ≤ 1200 := by rw [← hs, ByteArray.size_extract]; omega
  have HD := fun W => hide (decode_any s W (by omega))
  have HR := fun W => hide (refDecode_any s W (by omega))
  have hrl : (Pu.decode (nums s)).1.length ≤ 5000 := by have := Pu.decode_len (nums s); rw [nums_length] at this; omega
  generalize Pu.decode (nums s) = r at *
  go_enter Try.func4, Try.ntmps4
  go_wp2_with fail
  refine (unhide (HD _)).mono ?_
  intro e w1 h1
  obtain ⟨v1, rfl, ok1, b1⟩ := Ans.of h1
  clear h1
  obtain ⟨a1, c1, hv1, hl1, hm1⟩ := ok1.sk.shape
  have OK1 := hide ok1
  have B1 := hide b1
  clear ok1 b1
  subst hv1
  go_wp2_with fail
  refine (unhide (HR _)).mono ?_
  intro e w2 h2
  obtain ⟨v2, rfl, ok2, b2⟩ := Ans.of h2
  clear h2 HR
  obtain ⟨a2, c2, hv2, hl2, hm2⟩ := ok2.sk.shape
  have OK2 := hide ok2
  have B2 := hide b2
  clear ok2 b2
  subst hv2
  go_wp2_with fail
  refine (unhide (HD _)).mono ?_
  intro e w3 h3
  obtain ⟨v3, rfl, ok3, b3⟩ := Ans.of h3
  clear h3 HD
  obtain ⟨a3, c3, hv3, hl3, hm3⟩ := ok3.sk.shape
  have OK3 := hide ok3
  have B3 := hide b3
  clear ok3 b3
  subst hv3
  have HT := hide (told_any w3)
  go_wp2_with fail
  refine (unhide HT).mono ?_
  rintro e w4 ⟨rfl, b4⟩
  have k1 := ((((unhide OK1).below (unhide B2)).below (unhide B3)).below b4)
  have k2 := (((unhide OK2).below (unhide B3)).below b4)
  have k3 := ((unhide OK3).below b4)
  have K1 := hide k1
  have K2 := hide k2
  have K3 := hide k3
  have L1 := fun g hg => ((unhide OK1).row.lt g hg)
  have hsz1 := (unhide B2).size
  have hsz2 := (unhide B3).size
  have hsz3 := b4.size
  have B5 := hide (bthen (bthen (bthen (unhide B1) (unhide B2)) (unhide B3)) b4)
  have LL1 : Hid (∀ g, (Value.slice a1 r.1.length c1).ownBlock = some g → w.heap.size ≤ g ∧ g < w1.heap.size) := L1
  clear L1 k1 k2 k3 OK1 OK2 OK3 B1 B2 B3 b4 HT
  have HSM := hide (same_any _ _ r.1 r.1 w4 (unhide K1).sk (unhide K2).sk)
  rw [sameT] at HSM
  generalize hr1 : r.1 = xs at *
  have hxl : xs.length ≤ 5000 := hrl
  clear hrl
  generalize r.2 = er at *
  clear hr1
  go_wp2_with (go_at_call 13; refine (unhide HSM).mono ?_; rintro e w5 ⟨rfl, b5⟩; clear HSM)
  have k1 := (unhide K1).below b5
  have k2 := (unhide K2).below b5
  have k3 := (unhide K3).below b5
  have hsz5 := b5.size
  have B6 := hide (bthen (unhide B5) b5)
  have HR2 := hide k2
  have HR3 := hide k3
  have HR1 := hide k1
  clear k1 k2 k3 K1 K2 K3 B5 b5
  go_loopw [9] (fun i wr => ∃ (k : Nat) (zs : List Int), i = .int .i64 k ∧ k ≤ xs.length ∧ zs.length = xs.length ∧ Ok .i32 21 wr w.heap.size (.slice a1 xs.length c1) zs ∧ Ok .i32 21 wr w1.heap.size (.slice a2 xs.length c2) xs ∧ Ok .i32 21 wr w2.heap.size (.slice a3 xs.length c3) xs ∧ Below w.heap.size w wr ∧ w4.heap.size ≤ wr.heap.size) (fun i _ => xs.length - (intOf i).toNat)
  case atStart => exact ⟨0, xs, rfl, by omega, rfl, unhide HR1, unhide HR2, unhide HR3, unhide B6, hsz5⟩
  case round =>
    clear HR1 HR2 HR3 B6
    obtain ⟨k, zs, rfl, hk, hzl, hx, hy, hz, hbel, hszr⟩ := hrel
    by_cases hlt : k < xs.length
    · obtain ⟨g, cap, hv, _, _⟩ := own_shape hx.row (by omega)
      simp only [Value.slice.injEq] at hv
      obtain ⟨rfl, h9, rfl⟩ := hv
      clear h9
      obtain ⟨hg1, hg2⟩ := unhide LL1 g rfl
      obtain ⟨hset, hcn, hfz⟩ := hx.setAt k (-9) (by omega) (fun y hy => by simp at hy; subst hy; exact i32_fit (by omega))
      obtain ⟨cv, hcell⟩ : ∃ cv, wr.cell? ⟨g, k, none⟩ = some cv := by
        cases hq : wr.cell? ⟨g, k, none⟩ with
        | none => exact absurd hq hcn
        | some cv => exact ⟨cv, rfl⟩
      have hgr := grown_setc (j := k) (grown_refl wr (some g)) (.int .i32 (-9))
      have HX := hide hset
      have HY := hide (ok_grown hy hgr (.inr (fun hh => by have := (hy.row.lt _ hh).1; omega)))
      have HZ := hide (ok_grown hz hgr (.inr (fun hh => by have := (hz.row.lt _ hh).1; omega)))
      have HB : Hid (Below w.heap.size w (wr.setCell ⟨g, k, none⟩ (.int .i32 (-9)))) := hbel.setCell hg1 _
      have HSZ : Hid (w4.heap.size ≤ (wr.setCell ⟨g, k, none⟩ (.int .i32 (-9))).heap.size) := by show _ ≤ _; rw [setc_size]; exact hszr
      have HZL : Hid ((zs.set k (-9)).length = xs.length) := by show _ = _; rw [List.length_set]; exact hzl
      clear hset hcn hgr hx hy hz hbel hzl
      generalize zs.set k (-9) = zs2 at *
      go_wp2
      go_roundw
      case rel => exact ⟨k + 1, zs2, by go_num, by omega, unhide HZL, unhide HX, unhide HY, unhide HZ, unhide HB, unhide HSZ⟩
      case measure => simp [intOf]; omega
    · have HAPP : Hid (Ok .i32 21 (wr.alloc (.cells #[.int .i32 (-9)] 21)) w.heap.size (.slice a1 xs.length c1) zs) := ok_alloc hx _
      have HONE := hide (Sk.one wr (-9) (by omega))
      have hs6 := alloc_size wr (.cells #[.int .i32 (-9)] 21)
      have HS6 := hide hs6
      have hbw := hbel.size
      have HYA := hide (ok_alloc hy (.cells #[.int .i32 (-9)] 21))
      have HZA := hide (ok_alloc hz (.cells #[.int .i32 (-9)] 21))
      have HBA := hide (hbel.alloc hbw (.cells #[.int .i32 (-9)] 21))
      have HZL := hide hzl
      have hzs : zs.length + [(-9 : Int)].length ≤ 1000000000 := by rw [hzl]; simp; omega
      have HZS := hide hzs
      clear hs6 hx hy hz hbel hzs hzl
      go_wp2_with (at_builtin; refine wpList_append_sk rfl (.tmp 52) (.tmp 53) rfl w.heap.size _ _ zs [-9] rfl rfl (unhide HAPP) (unhide HONE) (unhide HZS) (by have := unhide HS6; omega) ?_)
      intro v6 w6 ok6 gr6
      obtain ⟨a6, c6, hv6, _, _⟩ := ok6.sk.shape
      have hl6 : (zs ++ [-9]).length = xs.length + 1 := by rw [List.length_append, unhide HZL]; rfl
      rw [hl6] at hv6
      subst hv6
      have hLx : ∀ g, (Value.slice a1 xs.length c1).ownBlock = some g → g < w1.heap.size := fun g hg => (unhide LL1 g hg).2
      have hne : ∀ {u : Value} {us : List Int} {Bx : Nat} {W : World}, Ok .i32 21 W Bx u us → w1.heap.size ≤ Bx → (u.ownBlock = none ∨ u.ownBlock ≠ (Value.slice a1 xs.length c1).ownBlock) := fun {u us Bx W} hu hB => by
        cases hq : u.ownBlock with
        | none => exact .inl rfl
        | some g => exact .inr (fun hh => by have h1 := hLx g hh.symm; have h2 := (hu.row.lt g hq).1; omega)
      have y6 := ok_grown (unhide HYA) gr6 (hne (unhide HYA) (Nat.le_refl _))
      have z6 := ok_grown (unhide HZA) gr6 (hne (unhide HZA) hsz1)
      have b6 := (unhide HBA).grown gr6 (by have := unhide HS6; omega) (fun g hg => (unhide LL1 g hg).1)
      have HSM := hide (same_any _ _ xs xs w6 z6.sk y6.sk)
      rw [sameT] at HSM
      have B6 := hide b6
      clear ok6 gr6 y6 z6 b6 hl6 hLx hne HYA HZA HBA HAPP HONE HS6 HZS HZL
      go_wp2_with (go_at_call 13; refine (unhide HSM).mono ?_; rintro e w7 ⟨rfl, b7⟩; clear HSM)
      go_ret
      exact ⟨rfl, bthen (unhide B6) b7⟩
end Go.Proofs.Ytgccindoinhphaa
