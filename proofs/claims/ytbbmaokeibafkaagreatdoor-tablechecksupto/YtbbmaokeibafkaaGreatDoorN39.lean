import Derived.Test.YtbbmaokeibafkaaGreatDoorN38
import Derived.Test.YtbbmaokeibafkaaGreatDoorP0
import Derived.Test.YtbbmaokeibafkaaGreatDoorN2
import Derived.Deep.RegionWith
namespace Go.Proofs.YtbbmaokeibafkaaGreatDoor
open Go.RowKit
def BoolIs (w : World) (b : Bool) (e : Ending) (w' : World) : Prop := e = .returned (.bool b) ∧ w' = w
theorem BoolIs.mk {w : World} {b c : Bool} (h : c = b) : BoolIs w b (.returned (.bool c)) w := by subst h; exact ⟨rfl, rfl⟩
set_option maxHeartbeats 1000000 in
theorem refName_any (s : ByteArray) (w : World) : Calls Tryz.prog 38 #[.string s] w (BoolIs w (Scn.name (nums s))) := by
  have hlen := nums_length s
  have hat := fun i k hi hk w => run_at s i k hi hk w
  have hbyt := fun k => (nums_byt s).at k
  have HF0 : Hid (¬ s.size = 4 → BoolIs w (Scn.name (nums s)) (.returned (.bool false)) w) := fun h => BoolIs.mk (by unfold Scn.name; rw [decide_eq_false]; omega)
  have HF1 : Hid (¬ (65 ≤ (nums s).getD 0 0 ∧ (nums s).getD 0 0 ≤ 90) → BoolIs w (Scn.name (nums s)) (.returned (.bool false)) w) := fun h => BoolIs.mk (by unfold Scn.name; rw [decide_eq_false]; exact fun x => h ⟨x.2.1, x.2.2.1⟩)
  have HF2 : Hid (∀ k, 1 ≤ k → k < 4 → ¬ (97 ≤ (nums s).getD k 0 ∧ (nums s).getD k 0 ≤ 122) → BoolIs w (Scn.name (nums s)) (.returned (.bool false)) w) := fun k h1 h2 h => BoolIs.mk (by
    unfold Scn.name; rw [decide_eq_false]
    intro x
    obtain ⟨_, _, _, x1, x2, x3⟩ := x
    have : k = 1 ∨ k = 2 ∨ k = 3 := by omega
    rcases this with e | e | e <;> subst e
    · exact h x1
    · exact h x2
    · exact h x3)
  have HT : Hid (s.size = 4 → 65 ≤ (nums s).getD 0 0 → (nums s).getD 0 0 ≤ 90 → (∀ k, 1 ≤ k → k < 4 → 97 ≤ (nums s).getD k 0 ∧ (nums s).getD k 0 ≤ 122) → BoolIs w (Scn.name (nums s)) (.returned (.bool true)) w) := fun h1 h2 h3 h4 => BoolIs.mk (by
    unfold Scn.name; rw [decide_eq_true]
    exact ⟨by omega, h2, h3, h4 1 (by omega) (by omega), h4 2 (by omega) (by omega), h4 3 (by omega) (by omega)⟩)
  by_cases a1 : s.size = 4
  · have h0 := hat 0 0 rfl (by omega)
    obtain ⟨z1, z2⟩ := hbyt 0
    have HAt := hide hat
    have HByt := hide hbyt
    have HT2 := hide ((unhide HT) a1)
    have hne : ((s.size : Int) != 4) = false := by simp [a1]
    clear hat hbyt HF0 HT
    generalize (nums s).getD 0 0 = c0 at *
    by_cases a2 : c0 < 65
    · have HF := (unhide HF1) (by omega)
      clear HF1 HF2 HT2
      go_enter Tryz.func38, Tryz.ntmps38
      go_wp2
      go_ret
      exact HF
    · by_cases a3 : 90 < c0
      · have HF := (unhide HF1) (by omega)
        clear HF1 HF2 HT2
        go_enter Tryz.func38, Tryz.ntmps38
        go_wp2
        go_ret
        exact HF
      · have HT3 := hide ((unhide HT2) (by omega) (by omega))
        clear HF1 HT2
        go_enter Tryz.func38, Tryz.ntmps38
        go_wp2
        go_loop [3] (fun i => ∃ k : Nat, i = .int .i64 k ∧ 1 ≤ k ∧ k ≤ 4 ∧ ∀ j, 1 ≤ j → j < k → 97 ≤ (nums s).getD j 0 ∧ (nums s).getD j 0 ≤ 122) (fun i => 4 - (intOf i).toNat)
        case atStart => exact ⟨1, rfl, by omega, by omega, fun j h1 h2 => by omega⟩
        case round =>
          clear h0 z1 z2
          obtain ⟨k, rfl, k1, k2, hall⟩ := hrel
          by_cases hlt : k < 4
          · have hk := (unhide HAt) (k : Int) k rfl (by omega)
            obtain ⟨b1, b2⟩ := (unhide HByt) k
            have HNx : Hid (97 ≤ (nums s).getD k 0 → (nums s).getD k 0 ≤ 122 → ∀ j, 1 ≤ j → j < k + 1 → 97 ≤ (nums s).getD j 0 ∧ (nums s).getD j 0 ≤ 122) := fun h1 h2 j j1 j2 => by
              by_cases e : j = k
              · subst e; exact ⟨h1, h2⟩
              · exact hall j j1 (by omega)
            have HFk := hide ((unhide HF2) k k1 hlt)
            clear hall
            generalize (nums s).getD k 0 = c at *
            by_cases b3 : c < 97
            · have HF := (unhide HFk) (by omega)
              clear HFk HNx HF2 HT3
              go_wp2
              go_ret
              exact HF
            · by_cases b4 : 122 < c
              · have HF := (unhide HFk) (by omega)
                clear HFk HNx HF2 HT3
                go_wp2
                go_ret
                exact HF
              · have HX := hide ((unhide HNx) (by omega) (by omega))
                clear HFk HNx HF2 HT3
                go_wp2
                go_round
                case rel => exact ⟨k + 1, by go_num, by omega, by omega, unhide HX⟩
                case measure => simp [intOf]; omega
          · obtain rfl : k = 4 := by omega
            have HF := (unhide HT3) hall
            clear HF2 HT3 hall
            go_wp2
            go_ret
            exact HF
  · have HF := (unhide HF0) a1
    have hne : ((s.size : Int) != 4) = true := by simp; omega
    clear HF0 HF1 HF2 HT hat hbyt
    go_enter Tryz.func38, Tryz.ntmps38
    go_wp2
    go_ret
    exact HF
theorem name_eq (s : ByteArray) : Cn.nameL s = Scn.name (nums s) := by
  unfold Cn.nameL Scn.name nums Scn.small
  generalize s.data.toList = l
  match l with
  | [] => rfl
  | [_] => rfl
  | [_, _] => rfl
  | [_, _, _] => rfl
  | [a, b, c, d] =>
    simp only [List.map_cons, List.map_nil, List.length_cons, List.length_nil, List.getD_cons_zero, List.getD_cons_succ]
    rw [decide_eq_decide]
    constructor
    · intro h
      exact ⟨trivial, (show 65 ≤ (a.toNat : Int) by omega), (show (a.toNat : Int) ≤ 90 by omega), ⟨(show 97 ≤ (b.toNat : Int) by omega), (show (b.toNat : Int) ≤ 122 by omega)⟩, ⟨(show 97 ≤ (c.toNat : Int) by omega), (show (c.toNat : Int) ≤ 122 by omega)⟩, (show 97 ≤ (d.toNat : Int) by omega), (show (d.toNat : Int) ≤ 122 by omega)⟩
    · rintro ⟨_, h1, h2, ⟨h3, h4⟩, ⟨h5, h6⟩, h7, h8⟩
      have g1 : 65 ≤ (a.toNat : Int) := h1
      have g2 : (a.toNat : Int) ≤ 90 := h2
      have g3 : 97 ≤ (b.toNat : Int) := h3
      have g4 : (b.toNat : Int) ≤ 122 := h4
      have g5 : 97 ≤ (c.toNat : Int) := h5
      have g6 : (c.toNat : Int) ≤ 122 := h6
      have g7 : 97 ≤ (d.toNat : Int) := h7
      have g8 : (d.toNat : Int) ≤ 122 := h8
      omega
  | _ :: _ :: _ :: _ :: _ :: _ =>
    simp only [List.map_cons, List.length_cons]
    symm
    rw [decide_eq_false_iff_not]
    omega
theorem refNameL_any (s : ByteArray) (w : World) : Calls Tryz.prog 38 #[.string s] w fun e w' => e = .returned (.bool (Cn.nameL s)) ∧ w' = w := by
  rw [name_eq]
  exact refName_any s w
end Go.Proofs.YtbbmaokeibafkaaGreatDoor
namespace Go.Proofs.YtbbmaokeibafkaaGreatDoor
open Go.RowKit
namespace Cn
def tailR (rs : List Rec) (k : Nat) : Nat × Int := match recordA rs k (rs.drop k) with
  | some x => x
  | Option.none => if baseA rs 78 45 then (0, 0) else (rs.length, 70)
theorem tail_hit {rs : List Rec} {k : Nat} (hk : k < rs.length) (h : record rs k (rs.getD k none) ≠ 0) : tailR rs k = (k, record rs k (rs.getD k none)) := by
  have e : rs.getD k none = rs[k] := by simp [List.getD, hk]
  rw [e] at h ⊢
  unfold tailR
  rw [List.drop_eq_getElem_cons hk, recordA, if_neg h]
theorem tail_next {rs : List Rec} {k : Nat} (hk : k < rs.length) (h : record rs k (rs.getD k none) = 0) : tailR rs k = tailR rs (k + 1) := by
  have e : rs.getD k none = rs[k] := by simp [List.getD, hk]
  rw [e] at h
  unfold tailR
  rw [List.drop_eq_getElem_cons hk, recordA, if_pos h]
def baseR (rs : List Rec) (c : Nat) : Nat × Int := if baseA rs (123 - c) c then (0, 0) else (rs.length, 70)
theorem tail_end (rs : List Rec) : tailR rs rs.length = baseR rs 45 := by
  unfold tailR
  rw [List.drop_length, recordA]
  rfl
theorem base_end {rs : List Rec} {c : Nat} (h : 123 ≤ c) : baseR rs c = (0, 0) := by
  unfold baseR
  rw [show 123 - c = 0 by omega, baseA, if_pos rfl]
theorem base_no {rs : List Rec} {c : Nat} (h : c ≤ 122) (h1 : baseOf c = true) (h2 : plain rs c = false) : baseR rs c = (rs.length, 70) := by
  unfold baseR
  rw [show 123 - c = (122 - c) + 1 by omega, baseA, h1, h2]
  rfl
theorem base_next {rs : List Rec} {c : Nat} (h : c ≤ 122) (h1 : baseOf c = false ∨ plain rs c = true) : baseR rs c = baseR rs (c + 1) := by
  unfold baseR
  rw [show 123 - c = (123 - (c + 1)) + 1 by omega, baseA]
  have : (!baseOf (c : Int) || plain rs (c : Int)) = true := by rcases h1 with e | e <;> simp [e]
  rw [this, Bool.true_and, Int.natCast_add]
  rfl
theorem check_err {rs : List Rec} (h : (check6 rs).2 ≠ 0) : check rs = check6 rs := by unfold check; rw [if_pos h]
theorem check_ok {rs : List Rec} (h : (check6 rs).2 = 0) : check rs = tailR rs 0 := by unfold check tailR; rw [if_neg (fun e => e h)]; rfl
end Cn
def Check6R : Prop := ∀ (v : Value) (rs : List Rec) (w : World), Rcs w v rs → Calls Tryz.prog 10 #[v] w (CheckB w (Cn.check6 rs))
def ChIn (w : World) (v : Value) (rs : List Rec) (wr : World) : Prop := Rcs wr v rs ∧ Below w.heap.size w wr
theorem ChIn.on {w wr w' : World} {v : Value} {rs : List Rec} (h : ChIn w v rs wr) (hb : Below wr.heap.size wr w') : ChIn w v rs w' := ⟨h.1.below hb, bthen h.2 hb⟩
end Go.Proofs.YtbbmaokeibafkaaGreatDoor
namespace Go.Proofs.YtbbmaokeibafkaaGreatDoor
open Go.RowKit
namespace Cn
def tailT (rs : List Rec) (i : Nat) : Nat × Int := match twiceA rs i (rs.drop i) with
  | some i => (i, 62)
  | Option.none => (0, 0)
def tailQ (rs : List Rec) (k : Nat) : Nat × Int := match rightA k (rs.drop k) with
  | some x => x
  | Option.none => tailT rs 0
theorem q_hit {rs : List Rec} {k : Nat} (hk : k < rs.length) (h : right (rs.getD k none) ≠ 0) : tailQ rs k = (k, right (rs.getD k none)) := by
  have e : rs.getD k none = rs[k] := by simp [List.getD, hk]
  rw [e] at h ⊢
  unfold tailQ
  rw [List.drop_eq_getElem_cons hk, rightA, if_neg h]
theorem q_next {rs : List Rec} {k : Nat} (hk : k < rs.length) (h : right (rs.getD k none) = 0) : tailQ rs k = tailQ rs (k + 1) := by
  have e : rs.getD k none = rs[k] := by simp [List.getD, hk]
  rw [e] at h
  unfold tailQ
  rw [List.drop_eq_getElem_cons hk, rightA, if_pos h]
theorem q_end (rs : List Rec) : tailQ rs rs.length = tailT rs 0 := by
  unfold tailQ
  rw [List.drop_length, rightA]
theorem t_hit {rs : List Rec} {i k : Nat} (hi : i < rs.length) (hk : k < i) (h : clash (rs.getD k none) (rs.getD i none) = true) : tailT rs i = (i, 62) := by
  have e : rs.getD i none = rs[i] := by simp [List.getD, hi]
  have e2 : rs.getD k none = rs[k] := by simp [List.getD, Nat.lt_trans hk hi]
  rw [e, e2] at h
  unfold tailT
  rw [List.drop_eq_getElem_cons hi, twiceA, if_pos]
  rw [List.any_eq_true]
  exact ⟨rs[k], List.mem_take_iff_getElem.2 ⟨k, by omega, rfl⟩, h⟩
theorem t_next {rs : List Rec} {i : Nat} (hi : i < rs.length) (h : ∀ k, k < i → clash (rs.getD k none) (rs.getD i none) = false) : tailT rs i = tailT rs (i + 1) := by
  have e : rs.getD i none = rs[i] := by simp [List.getD, hi]
  unfold tailT
  rw [List.drop_eq_getElem_cons hi, twiceA, if_neg]
  rw [List.any_eq_true]
  rintro ⟨x, hx, hc⟩
  obtain ⟨k, hk, rfl⟩ := List.mem_take_iff_getElem.1 hx
  have := h k (by omega)
  rw [e, show rs.getD k none = rs[k] by simp [List.getD, show k < rs.length by omega]] at this
  rw [this] at hc
  cases hc
theorem t_end (rs : List Rec) : tailT rs rs.length = (0, 0) := by
  unfold tailT
  rw [List.drop_length, twiceA]
theorem check6_many {rs : List Rec} (h : 4096 < rs.length) : check6 rs = (0, 3) := by unfold check6; rw [if_pos h]
theorem check6_few {rs : List Rec} (h : ¬ 4096 < rs.length) : check6 rs = tailQ rs 0 := by
  unfold check6 tailQ tailT
  rw [if_neg h]
  rfl
end Cn
def RightR : Prop := ∀ (r : Rec) (vt : Value) (w : World), RecFit r → Sk .i32 w vt r.to → Calls Tryz.prog 22 #[recV r vt] w (IntB w (Cn.right r))
def ClashR : Prop := ∀ (a b : Rec) (va vb : Value) (w : World), RecFit a → RecFit b → Sk .i32 w va a.to → Sk .i32 w vb b.to → Cn.right a = 0 → Cn.right b = 0 → Calls Tryz.prog 23 #[recV a va, recV b vb] w (BoolB w (Cn.clash a b))
set_option maxRecDepth 8000 in
set_option maxHeartbeats 4000000 in
theorem refCheck6_any (HR : RightR) (HC : ClashR) : Check6R := by
  intro v rs w hv
  have HW : Hid (ChIn w v rs w) := ⟨hv, Below.refl _ _⟩
  have hlen := hv.1
  by_cases hbig : 4096 < rs.length
  · rw [Cn.check6_many hbig]
    obtain ⟨ao, cap, rfl, _, _⟩ := hv.shape
    clear hv HR HC HW
    go_enter Tryz.func10, Tryz.ntmps10
    go_wp2
    go_ret2
    exact ⟨rfl, Below.refl _ _⟩
  · have HRES := hide (Cn.check6_few hbig)
    generalize Cn.check6 rs = res at *
    obtain ⟨ao, cap, rfl, _, _⟩ := hv.shape
    have HR := hide HR
    have HC := hide HC
    clear hv
    go_enter Tryz.func10, Tryz.ntmps10
    go_wp2
    go_loopw [4, 5] (fun iv _ wr => ∃ k : Nat, iv = .int .i64 k ∧ k ≤ rs.length ∧ res = Cn.tailQ rs k ∧ (∀ j, j < k → Cn.right (rs.getD j Cn.none) = 0) ∧ ChIn w (.slice ao rs.length cap) rs wr) (fun iv _ _ => rs.length - (intOf iv).toNat)
    case atStart => exact ⟨0, rfl, by omega, unhide HRES, fun j hj => absurd hj (Nat.not_lt_zero _), unhide HW⟩
    case round =>
      obtain ⟨k, rfl, hk, hres, hall, hch⟩ := hrel
      clear HRES HW
      by_cases hlt : k < rs.length
      · have HHIT : Hid (Cn.right (rs.getD k Cn.none) ≠ 0 → res = (k, Cn.right (rs.getD k Cn.none))) := fun h => hres.trans (Cn.q_hit hlt h)
        have HNX : Hid (Cn.right (rs.getD k Cn.none) = 0 → res = Cn.tailQ rs (k + 1) ∧ ∀ j, j < k + 1 → Cn.right (rs.getD j Cn.none) = 0) := fun h => ⟨hres.trans (Cn.q_next hlt h), fun j hj => by
          rcases Nat.lt_or_ge j k with h' | h'
          · exact hall j h'
          · obtain rfl : j = k := by omega
            exact h⟩
        have HCH := hide hch
        have hf := hch.1.fit hlt
        obtain ⟨b, off, cap', he, hc1, hc2, hc⟩ := hch.1.place (by omega)
        obtain ⟨rfl, rfl⟩ : ao = some ⟨b, off, none⟩ ∧ cap = cap' := by simpa using he
        have hA := hc k hlt
        clear hc he hres hall hch
        obtain ⟨x0, x1, x2, x3, ⟨va, x4, ska⟩, x5, x6, x7⟩ := hA
        have KC := hide ((unhide HR) _ va wr hf ska)
        unfold recV at KC
        obtain ⟨to, tc, rfl, _, _⟩ := ska.shape
        clear HR HC hf ska
        generalize Cn.right (rs.getD k Cn.none) = y at *
        generalize rs.getD k Cn.none = r at *
        generalize r.kind = kd at *
        generalize r.n = n at *
        generalize r.lo = lo at *
        generalize r.hi = hi at *
        generalize r.name = nm at *
        generalize r.other = ot at *
        generalize r.wt = wt at *
        generalize r.to.length = tl at *
        go_wp2_with fail
        refine (unhide KC).mono ?_
        rintro e w2 ⟨rfl, hb2⟩
        clear KC x0 x1 x2 x3 x4 x5 x6 x7
        by_cases hy : y = 0
        · have HN := hide ((unhide HNX) hy)
          obtain rfl : y = 0 := hy
          have HC2 := hide ((unhide HCH).on hb2)
          clear HNX HHIT HCH hb2
          go_wp2
          go_round
          case rel => exact ⟨k + 1, by go_num, by omega, (unhide HN).1, (unhide HN).2, unhide HC2⟩
          case measure => simp [intOf]; omega
        · obtain rfl := (unhide HHIT) hy
          have hyb : (y == 0) = false := beq_eq_false_iff_ne.2 hy
          have HC2 := hide ((unhide HCH).on hb2).2
          clear HNX HHIT HCH hb2 hy
          go_wp2
          go_ret2
          exact ⟨rfl, unhide HC2⟩
      · obtain rfl : k = rs.length := by omega
        have HRES := hide (hres.trans (Cn.q_end rs))
        have HCH := hide hch
        have HALL := hide hall
        clear hres hch hall HR
        go_wp2
        go_loopw [6, 7] (fun iv _ wi => ∃ i : Nat, iv = .int .i64 i ∧ i ≤ rs.length ∧ res = Cn.tailT rs i ∧ ChIn w (.slice ao rs.length cap) rs wi) (fun iv _ _ => rs.length - (intOf iv).toNat)
        case atStart => exact ⟨0, rfl, by omega, unhide HRES, unhide HCH⟩
        case round =>
          obtain ⟨i, rfl, hi, hres, hch⟩ := hrel
          clear HRES HCH
          by_cases hlt2 : i < rs.length
          · have HHIT : Hid (∀ k, k < i → Cn.clash (rs.getD k Cn.none) (rs.getD i Cn.none) = true → res = (i, 62)) := fun k a h => hres.trans (Cn.t_hit hlt2 a h)
            have HNX : Hid ((∀ k, k < i → Cn.clash (rs.getD k Cn.none) (rs.getD i Cn.none) = false) → res = Cn.tailT rs (i + 1)) := fun h => hres.trans (Cn.t_next hlt2 h)
            have HCH := hide hch
            clear hres hch
            go_wp2
            go_loopw [7] (fun kv wj => ∃ k : Nat, kv = .int .i64 k ∧ k ≤ i ∧ (∀ j, j < k → Cn.clash (rs.getD j Cn.none) (rs.getD i Cn.none) = false) ∧ ChIn w (.slice ao rs.length cap) rs wj) (fun kv _ => i - (intOf kv).toNat)
            case atStart => exact ⟨0, rfl, by omega, fun j hj => absurd hj (Nat.not_lt_zero _), unhide HCH⟩
            case round =>
              obtain ⟨k, rfl, hk2, hno, hch⟩ := hrel
              clear HCH
              by_cases hlt3 : k < i
              · have HH := hide ((unhide HHIT) k hlt3)
                have HN : Hid (Cn.clash (rs.getD k Cn.none) (rs.getD i Cn.none) = false → ∀ j, j < k + 1 → Cn.clash (rs.getD j Cn.none) (rs.getD i Cn.none) = false) := fun h j hj => by
                  rcases Nat.lt_or_ge j k with h' | h'
                  · exact hno j h'
                  · obtain rfl : j = k := by omega
                    exact h
                have HCH := hide hch
                have hfk := hch.1.fit (i := k) (by omega)
                have hfi := hch.1.fit hlt2
                have hrk := (unhide HALL) k (by omega)
                have hri := (unhide HALL) i hlt2
                obtain ⟨b, off, cap', he, hc1, hc2, hc⟩ := hch.1.place (by omega)
                obtain ⟨rfl, rfl⟩ : ao = some ⟨b, off, none⟩ ∧ cap = cap' := by simpa using he
                have hA := hc k (by omega)
                have hB := hc i hlt2
                clear hc he hno hch HHIT HNX HALL
                obtain ⟨x0, x1, x2, x3, ⟨va, x4, ska⟩, x5, x6, x7⟩ := hA
                obtain ⟨y0, y1, y2, y3, ⟨vb, y4, skb⟩, y5, y6, y7⟩ := hB
                have KC : Hid (∀ n, Calls Tryz.prog 23 #[recV (rs.getD k Cn.none) va, recV (rs.getD i Cn.none) vb] (wr.drewN n) (BoolB (wr.drewN n) (Cn.clash (rs.getD k Cn.none) (rs.getD i Cn.none)))) := fun n => (unhide HC) _ _ va vb _ hfk hfi (sk_drew ska n) (sk_drew skb n) hrk hri
                unfold recV at KC
                obtain ⟨to, tc, rfl, _, _⟩ := ska.shape
                obtain ⟨uo, uc, rfl, _, _⟩ := skb.shape
                clear HC hfk hfi hrk hri ska skb
                generalize Cn.clash (rs.getD k Cn.none) (rs.getD i Cn.none) = y at HH KC HN
                generalize (rs.getD k Cn.none).kind = kind1 at *
                generalize (rs.getD k Cn.none).lo = lo1 at *
                generalize (rs.getD k Cn.none).hi = hi1 at *
                generalize (rs.getD k Cn.none).n = n1 at *
                generalize (rs.getD k Cn.none).name = name1 at *
                generalize (rs.getD k Cn.none).other = other1 at *
                generalize (rs.getD k Cn.none).wt = wt1 at *
                generalize (rs.getD k Cn.none).to.length = tl1 at *
                generalize (rs.getD i Cn.none).kind = kind2 at *
                generalize (rs.getD i Cn.none).lo = lo2 at *
                generalize (rs.getD i Cn.none).hi = hi2 at *
                generalize (rs.getD i Cn.none).n = n2 at *
                generalize (rs.getD i Cn.none).name = name2 at *
                generalize (rs.getD i Cn.none).other = other2 at *
                generalize (rs.getD i Cn.none).wt = wt2 at *
                generalize (rs.getD i Cn.none).to.length = tl2 at *
                go_wp2
                go_region_with (refine ((unhide KC) _).mono ?_; rintro e w1 ⟨rfl, hb1⟩)
                all_goals
                  have HC2 := hide ((unhide HCH).on (bthen (drewB ⟨_, rfl⟩) hb1))
                  clear hb1 HCH KC x0 x1 x2 x3 x4 x5 x6 x7 y0 y1 y2 y3 y4 y5 y6 y7
                  cases y with
                  | true =>
                    obtain rfl := (unhide HH) rfl
                    clear HH HN
                    go_wp2
                    go_ret2
                    exact ⟨rfl, (unhide HC2).2⟩
                  | false =>
                    have HN2 := hide ((unhide HN) rfl)
                    clear HH HN
                    go_wp2
                    go_roundw
                    case rel => exact ⟨k + 1, by go_num, by omega, unhide HN2, unhide HC2⟩
                    case measure => simp [intOf]; omega
              · obtain rfl : k = i := by omega
                have HN := hide ((unhide HNX) hno)
                have HCH := hide hch
                clear hno hch HNX HHIT
                go_wp2
                go_round
                case rel => exact ⟨k + 1, by go_num, by omega, unhide HN, unhide HCH⟩
                case measure => simp [intOf]; omega
          · obtain rfl : i = rs.length := by omega
            obtain rfl := hres.trans (Cn.t_end rs)
            have HF := hide hch.2
            clear hres hch HALL HC
            go_wp2
            go_ret2
            exact ⟨rfl, unhide HF⟩
end Go.Proofs.YtbbmaokeibafkaaGreatDoor
