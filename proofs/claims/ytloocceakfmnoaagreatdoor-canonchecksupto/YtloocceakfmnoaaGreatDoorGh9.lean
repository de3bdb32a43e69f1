import Derived.Test.YtloocceakfmnoaaGreatDoorGf9
import Derived.Test.YtloocceakfmnoaaGreatDoorGg9
import Derived.Shelf.SlSortCmp.WholeK
/- The search in what is sorted: near. -/
namespace Go.Proofs.YtloocceakfmnoaaGreatDoor
open Go.RowKit

theorem isNaNI_any (x : Int) (w : World) : Calls Tryz.prog 156 #[.int .i64 x] w fun e w' => e = .returned (.bool false) ∧ w' = w := by
  have hx : (x != x) = false := by simp
  go_enter Tryz.func156, Tryz.ntmps156
  go_wp2
  go_ret
  exact ⟨rfl, rfl⟩
theorem compareI_any (x y : Int) (w : World) : Calls Tryz.prog 115 #[.int .i64 x, .int .i64 y] w fun e w' => e = .returned (.int .i64 (Lib.compareInt x y)) ∧ w' = w := by
  have K := hide isNaNI_any
  have HF : ∀ r, r = Lib.compareInt x y → (Ending.returned (.int .i64 r) = .returned (.int .i64 (Lib.compareInt x y)) ∧ w = w) := fun r h => by subst h; exact ⟨rfl, rfl⟩
  have HF1 : x < y → Lib.compareInt x y = -1 := fun h => by unfold Lib.compareInt; rw [if_pos h]
  have HF2 : y < x → Lib.compareInt x y = 1 := fun h => by unfold Lib.compareInt; rw [if_neg (by omega), if_pos (by omega)]
  have HF3 : ¬ x < y → ¬ y < x → Lib.compareInt x y = 0 := fun h1 h2 => by unfold Lib.compareInt; rw [if_neg h1, if_neg (by omega)]
  by_cases h1 : x < y
  · rw [HF1 h1]
    clear HF HF1 HF2 HF3
    go_enter Tryz.func115, Tryz.ntmps115
    go_wp2_with (go_at_call 156; refine ((unhide K) _ _).mono ?_; rintro e w1 ⟨rfl, rfl⟩)
    go_ret
    exact ⟨rfl, rfl⟩
  · by_cases h2 : y < x
    · rw [HF2 h2]
      clear HF HF1 HF2 HF3
      go_enter Tryz.func115, Tryz.ntmps115
      go_wp2_with (go_at_call 156; refine ((unhide K) _ _).mono ?_; rintro e w1 ⟨rfl, rfl⟩)
      go_ret
      exact ⟨rfl, rfl⟩
    · rw [HF3 h1 h2]
      clear HF HF1 HF2 HF3
      go_enter Tryz.func115, Tryz.ntmps115
      go_wp2_with (go_at_call 156; refine ((unhide K) _ _).mono ?_; rintro e w1 ⟨rfl, rfl⟩)
      go_ret
      exact ⟨rfl, rfl⟩
theorem nearCmp_any (r : Rec) (vt : Value) (c : Int) (w : World) : Calls Tryz.prog 174 #[recV r vt, .int .i64 c] w fun e w' => e = .returned (.int .i64 (Lib.compareInt r.hi c)) ∧ Below w.heap.size w w' := by
  have K := hide (fun W => compareI_any r.hi c W)
  unfold recV
  have HB : ∀ o, Below w.heap.size w (w.alloc o) := fun o => (Below.refl _ _).alloc (Nat.le_refl _) _
  have HBB := hide HB
  clear HB
  generalize Lib.compareInt r.hi c = z at *
  go_enter Tryz.func174, Tryz.ntmps174
  go_wp2_with fail
  refine ((unhide K) _).mono ?_
  rintro e w1 ⟨rfl, rfl⟩
  clear K
  go_wp2
  go_ret
  exact ⟨rfl, (unhide HBB) _⟩
/-- All ahead of lo end ahead of c, none from hi on does. -/
def Bdry (s : List Rec) (c : Int) (lo hi : Nat) : Prop := (∀ t, t < lo → (s.getD t Cn.none).hi < c) ∧ (∀ t, hi ≤ t → t < s.length → ¬ (s.getD t Cn.none).hi < c)
def SearchB (w : World) (s : List Rec) (c : Int) (e : Ending) (w' : World) : Prop := ∃ (k : Nat) (b : Bool), e = .returned (.tuple #[.int .i64 k, .bool b]) ∧ Below w.heap.size w w' ∧ k ≤ s.length ∧ Bdry s c k k
set_option maxRecDepth 8000 in
set_option maxHeartbeats 4000000 in
theorem search_any (v : Value) (s : List Rec) (c : Int) (w : World) (hv : Rcs w v s) (hmono : ∀ a b, a ≤ b → b < s.length → (s.getD b Cn.none).hi < c → (s.getD a Cn.none).hi < c) :
    Calls Tryz.prog 173 #[v, .int .i64 c, .func (.func 174) #[] #[]] w (SearchB w s c) := by
  have eg : ∀ args w, (callFunc 174 args).run Tryz.prog w = .ok (.enter 174 args) w := enters_of Tryz.func174 (by kernel_rfl) rfl
  have KN := hide (fun r vt W => nearCmp_any r vt c W)
  have HM := hide hmono
  have hlen := hv.1
  rcases Nat.eq_zero_or_pos s.length with n0 | n0
  · obtain ⟨ao, cap, rfl, _, _⟩ := hv.shape
    have HE0 : SearchB w s c (.returned (.tuple #[.int .i64 0, .bool false])) w := ⟨0, false, rfl, Below.refl _ _, by omega, fun t ht => by omega, fun t _ ht => by omega⟩
    rw [n0]
    clear hv hmono
    go_enter Tryz.func173, Tryz.ntmps173
    go_wp2
    refine wp_loop_rounds 1 ?_
    rw [rounds_succ]
    go_wp2
    go_ret2
    exact HE0
  · obtain ⟨b, off, cap, rfl, hl1, hl2, hcells⟩ := hv.place n0
    have HC : Hid (∀ i, i < s.length → ∀ W, Below w.heap.size w W → RecAt W b (off + i * 8) (s.getD i Cn.none)) := fun i hi W hb => (hcells i hi).below hb
    clear hv hcells hmono
    go_enter Tryz.func173, Tryz.ntmps173
    go_wp2
    go_loopw [9, 10, 11] (fun i j _ wr => ∃ lo hi : Nat, i = .int .i64 lo ∧ j = .int .i64 hi ∧ lo ≤ hi ∧ hi ≤ s.length ∧ Below w.heap.size w wr ∧ Hid (Bdry s c lo hi)) (fun i j _ _ => (intOf j).toNat - (intOf i).toNat)
    case atStart => exact ⟨0, s.length, rfl, rfl, by omega, by omega, Below.refl _ _, ⟨fun t ht => by omega, fun t h1 h2 => by omega⟩⟩
    case round =>
      obtain ⟨lo, hi, rfl, rfl, hlh, hin, hbel, I⟩ := hrel
      by_cases hlt : lo < hi
      · have hmid : (lo + hi) / 2 < s.length := by omega
        have hrec := (unhide HC) ((lo + hi) / 2) hmid wr hbel
        obtain ⟨x0, x1, x2, x3, ⟨vt, x4, hsk⟩, x5, x6, x7⟩ := hrec
        obtain ⟨tao, tcap, rfl, _, _⟩ := hsk.shape
        have KC := hide ((unhide KN) (s.getD ((lo + hi) / 2) Cn.none) (.slice tao (s.getD ((lo + hi) / 2) Cn.none).to.length tcap) wr)
        unfold recV at KC
        have HI1 : Hid ((s.getD ((lo + hi) / 2) Cn.none).hi < c → Bdry s c ((lo + hi) / 2 + 1) hi) := fun h =>
          ⟨fun t ht => (unhide HM) t ((lo + hi) / 2) (by omega) hmid h, (unhide I).2⟩
        have HI2 : Hid (¬ (s.getD ((lo + hi) / 2) Cn.none).hi < c → Bdry s c lo ((lo + hi) / 2)) := fun h =>
          ⟨(unhide I).1, fun t ht htn h2 => h ((unhide HM) ((lo + hi) / 2) t ht htn h2)⟩
        have hcm : ∀ z, Lib.compareInt z c < 0 ↔ z < c := fun z => by unfold Lib.compareInt; split <;> (try split) <;> omega
        have hcz := hcm (s.getD ((lo + hi) / 2) Cn.none).hi
        generalize s.getD ((lo + hi) / 2) Cn.none = r at *
        clear HC KN HM I hsk hcm
        by_cases hz : r.hi < c
        · have hneg := hcz.2 hz
          have HI := hide ((unhide HI1) hz)
          clear HI1 HI2 hcz hz
          generalize Lib.compareInt r.hi c = z at *
          go_wp2_with fail
          refine (unhide KC).mono ?_
          rintro e w1 ⟨rfl, hb1⟩
          have hbel1 := bthen hbel hb1
          clear KC hb1 hbel x0 x1 x2 x3 x4 x5 x6 x7
          go_wp2
          go_roundw
          case rel => exact ⟨(lo + hi) / 2 + 1, hi, by go_num, rfl, by omega, by omega, hbel1, HI⟩
          case measure => simp [intOf]; omega
        · have hneg : ¬ Lib.compareInt r.hi c < 0 := fun h => hz (hcz.1 h)
          have HI := hide ((unhide HI2) hz)
          clear HI1 HI2 hcz hz
          generalize Lib.compareInt r.hi c = z at *
          go_wp2_with fail
          refine (unhide KC).mono ?_
          rintro e w1 ⟨rfl, hb1⟩
          have hbel1 := bthen hbel hb1
          clear KC hb1 hbel x0 x1 x2 x3 x4 x5 x6 x7
          go_wp2
          go_roundw
          case rel => exact ⟨lo, (lo + hi) / 2, rfl, by go_num, by omega, by omega, hbel1, HI⟩
          case measure => simp [intOf]; omega
      · obtain rfl : hi = lo := by omega
        have HEND : Hid (∀ (b : Bool) W, Below w.heap.size w W → SearchB w s c (.returned (.tuple #[.int .i64 (hi : Int), .bool b])) W) := fun b W h => ⟨hi, b, rfl, h, hin, unhide I⟩
        by_cases hn : hi < s.length
        · have hrec := (unhide HC) hi hn wr hbel
          obtain ⟨x0, x1, x2, x3, ⟨vt, x4, hsk⟩, x5, x6, x7⟩ := hrec
          obtain ⟨tao, tcap, rfl, _, _⟩ := hsk.shape
          have KC := hide ((unhide KN) (s.getD hi Cn.none) (.slice tao (s.getD hi Cn.none).to.length tcap) wr)
          unfold recV at KC
          generalize s.getD hi Cn.none = r at x0 x1 x2 x3 x4 x5 x6 x7 KC
          clear HC KN HM I hsk
          generalize Lib.compareInt r.hi c = z at *
          go_wp2_with fail
          refine (unhide KC).mono ?_
          rintro e w1 ⟨rfl, hb1⟩
          have hbel1 := bthen hbel hb1
          clear KC hb1 hbel x0 x1 x2 x3 x4 x5 x6 x7
          go_wp2
          go_ret2
          exact (unhide HEND) _ _ hbel1
        · clear HC KN HM I
          go_wp2
          go_ret2
          exact (unhide HEND) _ _ hbel
/-- The k-th record, or none. -/
theorem Rcs.sub {w : World} {ao : Option Addr} {len cap k : Nat} {s : List Rec} (h : Rcs w (.slice ao len cap) s) (hl : s.length = len) (hk : k < len) : ∃ b off, ao = some ⟨b, off, none⟩ ∧ Rcs w (.slice (some ⟨b, off + k * 8, none⟩) 1 (cap - k)) ((s.drop k).take 1) := by
  obtain ⟨h1, h2, h3⟩ := h
  rcases h3 with ⟨rfl, ao', cap', hv, hm⟩ | ⟨b, off, cap', hv, hl', hm, hc⟩
  · simp at hl; omega
  · simp only [Value.slice.injEq] at hv
    obtain ⟨rfl, e, rfl⟩ := hv
    have hone : ((s.drop k).take 1).length = 1 := by simp; omega
    refine ⟨b, off, rfl, by omega, fun r hr => h2 r (List.mem_of_mem_drop (List.mem_of_mem_take hr)), .inr ⟨b, off + k * 8, cap - k, by rw [hone], by omega, by omega, fun i hi => ?_⟩⟩
    obtain rfl : i = 0 := by omega
    have := hc k (by omega)
    rw [show ((s.drop k).take 1).getD 0 Cn.none = s.getD k Cn.none by simp [List.getD], Nat.zero_mul, Nat.add_zero]
    exact this
theorem bdry_ahead {s : List Rec} {c : Int} : ∀ {k : Nat}, k ≤ s.length → Bdry s c k k → Cn.ahead s c = k := by
  induction s with
  | nil => intro k hk _; simp at hk; subst hk; rfl
  | cons a s ih =>
    intro k hk ⟨h1, h2⟩
    cases k with
    | zero =>
      unfold Cn.ahead
      rw [List.countP_eq_zero]
      intro x hx
      obtain ⟨t, ht, rfl⟩ := List.getElem_of_mem hx
      have := h2 t (Nat.zero_le _) ht
      rw [show (a :: s).getD t Cn.none = (a :: s)[t] from by rw [List.getD_eq_getElem?_getD, List.getElem?_eq_getElem ht]; rfl] at this
      simpa using this
    | succ k =>
      have h0 : a.hi < c := by simpa using h1 0 (by omega)
      have : Cn.ahead s c = k := ih (by simpa using hk) ⟨fun t ht => by simpa using h1 (t + 1) (by omega), fun t ht htl => by simpa using h2 (t + 1) (by omega) (by simp; omega)⟩
      unfold Cn.ahead at this ⊢
      rw [List.countP_cons_of_pos (by simpa using h0), this]
theorem ordered_mono {f : Int} (hf : f = 2 ∨ f = 3) {s : List Rec} (ho : Cn.Ordered f s) (c : Int) : ∀ a b, a ≤ b → b < s.length → (s.getD b Cn.none).hi < c → (s.getD a Cn.none).hi < c := by
  intro a b hab hb h
  rcases Nat.lt_or_eq_of_le hab with hlt | rfl
  · have hp := List.pairwise_iff_getElem.1 ho.2 a b (by omega) hb hlt
    have eb : s.getD b Cn.none = s[b] := by simp [List.getD, hb]
    have ea : s.getD a Cn.none = s[a] := by simp [List.getD, show a < s.length by omega]
    rw [eb] at h
    rw [ea]
    obtain ⟨rb, fb⟩ := ho.1 s[b] (List.getElem_mem hb)
    obtain ⟨_, kb, _⟩ := Cn.step_one (r := s[b]) (by omega)
    have := Cn.right_span rb kb
    omega
  · exact h
def NearB (w0 w : World) (s : List Rec) (e : Ending) (w' : World) : Prop := ∃ v, e = .returned v ∧ Rcs w0 v s ∧ Below w.heap.size w w'
set_option maxRecDepth 8000 in
set_option maxHeartbeats 2000000 in
theorem near_any (v : Value) (s : List Rec) (c f : Int) (hf : f = 2 ∨ f = 3) (w0 w : World) (hv : Rcs w0 v s) (hw : Below w0.heap.size w0 w) (ho : Cn.Ordered f s) (hc : Rune c) : Calls Tryz.prog 157 #[v, .int .i32 c] w (NearB w0 w (Cn.near s c)) := by
  have K := hide (search_any v s c w (hv.below hw) (ordered_mono hf ho c))
  have hlen := hv.1
  obtain ⟨ao, cap, rfl, hl1, hl2⟩ := hv.shape
  obtain ⟨c0, c1⟩ := hc
  have HV := hide hv
  clear hv ho hw
  go_enter Tryz.func157, Tryz.ntmps157
  go_wp2_with fail
  refine (unhide K).mono ?_
  rintro e w1 ⟨k, b, rfl, hb1, hk, hbd⟩
  have ha := bdry_ahead hk hbd
  clear K hbd
  by_cases hlt : k < s.length
  · obtain ⟨bb, off, rfl, hsub⟩ := (unhide HV).sub rfl hlt
    have HF : NearB w0 w (Cn.near s c) (.returned (.slice (some ⟨bb, off + k * 8, none⟩) 1 (cap - k))) w1 := ⟨_, rfl, by unfold Cn.near; rw [ha]; exact hsub, hb1⟩
    have hmn : min ((k : Int) + 1) (s.length : Int) = (k : Int) + 1 := by omega
    have hck : ¬ cap - k = 0 := by omega
    clear HV hsub ha hb1
    go_wp2
    go_ret
    exact HF
  · obtain rfl : k = s.length := by omega
    have HF : ∀ ao' m, m ≤ 9223372036854775807 → NearB w0 w (Cn.near s c) (.returned (.slice ao' 0 m)) w1 := fun ao' m hm => ⟨_, rfl, by unfold Cn.near; rw [ha, List.drop_length]; exact ⟨by simp, fun _ h => (by cases h), .inl ⟨rfl, ao', _, rfl, hm⟩⟩, hb1⟩
    have hmn : min ((s.length : Int) + 1) (s.length : Int) = (s.length : Int) := by omega
    clear HV ha hb1
    go_wp2
    all_goals
      go_ret
      exact HF _ _ (by omega)
end Go.Proofs.YtloocceakfmnoaaGreatDoor
/- What an index tells of a number. -/
namespace Go.Proofs.YtloocceakfmnoaaGreatDoor
open Go.RowKit

/-- An index of a list that table's Check takes: its classes and its openings, in order. -/
structure Idx (l : List Rec) (w0 : World) (cv ov : Value) (cs os : List Rec) : Prop where
  rc : Rcs w0 cv cs
  ro : Rcs w0 ov os
  oc : Cn.Ordered 2 cs
  oo : Cn.Ordered 3 os
  mc : ∀ r, r ∈ cs ↔ r ∈ l ∧ Cn.fam r.kind = 2
  mo : ∀ r, r ∈ os ↔ r ∈ l ∧ Cn.fam r.kind = 3
  ok : (Cn.check6 l).2 = 0
theorem Idx.below {l : List Rec} {w0 w1 : World} {cv ov : Value} {cs os : List Rec} (h : Idx l w0 cv ov cs os) (hb : Below w0.heap.size w0 w1) : Idx l w1 cv ov cs os := { h with rc := h.rc.below hb, ro := h.ro.below hb }
def xV (cv ov mv : Value) : Value := .agg #[cv, ov, mv]
set_option maxHeartbeats 1000000 in
theorem xclass_any (l cs os : List Rec) (cv ov : Value) (mr : Nat) (c : Int) (w : World) (hg : Glob w) (h : Idx l w cv ov cs os) (hc : Rune c) : Calls Tryz.prog 120 #[xV cv ov (.map (some mr)), .int .i32 c] w (IntB w (Cn.cls l c)) := by
  obtain ⟨cao, ccap, rfl, _, _⟩ := h.rc.shape
  obtain ⟨oao, ocap, rfl, _, _⟩ := h.ro.shape
  have hb : Below w.heap.size w (w.alloc (.cells #[.slice cao cs.length ccap, .slice oao os.length ocap, .map (some mr)] 67)) := (Below.refl _ _).alloc (Nat.le_refl _) _
  have K := hide (near_any _ cs c 2 (.inl rfl) w _ h.rc hb h.oc hc)
  have K2 := hide (fun W v' (hb : Below w.heap.size w W) (hv : Rcs w v' (Cn.near cs c)) => classC v' (Cn.near cs c) c W (hg.on hb) (hv.below hb) hc)
  rw [Cn.near_cls h.ok h.oc h.mc] at K2
  generalize Cn.cls l c = z at *
  unfold xV
  clear h hg
  go_enter Tryz.func120, Tryz.ntmps120
  go_wp2_with fail
  refine (unhide K).mono ?_
  rintro e w1 ⟨v1, rfl, hv1, hb1⟩
  have KK := hide ((unhide K2) w1 v1 (bthen hb hb1) hv1)
  have hb2 := bthen hb hb1
  obtain ⟨nao, ncap, rfl, _, _⟩ := hv1.shape
  clear K K2 hv1 hb hb1
  go_wp2_with fail
  refine (unhide KK).mono ?_
  rintro e w2 ⟨rfl, hb3⟩
  have HF : IntB w z (.returned (.int .i64 z)) w2 := ⟨rfl, bthen hb2 hb3⟩
  clear KK hb2 hb3
  go_wp2
  go_ret
  exact HF
set_option maxHeartbeats 1000000 in
theorem xopen_any (l cs os : List Rec) (cv ov : Value) (mr : Nat) (c : Int) (w0 w : World) (hg : Glob w0) (h : Idx l w0 cv ov cs os) (hw : Below w0.heap.size w0 w) (hc : Rune c) : Calls Tryz.prog 119 #[xV cv ov (.map (some mr)), .int .i32 c] w (OpB w0 w (Cn.opn l c)) := by
  obtain ⟨cao, ccap, rfl, _, _⟩ := h.rc.shape
  obtain ⟨oao, ocap, rfl, _, _⟩ := h.ro.shape
  have hb : Below w.heap.size w (w.alloc (.cells #[.slice cao cs.length ccap, .slice oao os.length ocap, .map (some mr)] 67)) := (Below.refl _ _).alloc (Nat.le_refl _) _
  have K := hide (near_any _ os c 3 (.inr rfl) w0 _ h.ro (hw.trans (hb.mono hw.size)) h.oo hc)
  have K2 := hide (fun W v' (hb : Below w.heap.size w W) (hv : Rcs w0 v' (Cn.near os c)) => opened_any v' (Cn.near os c) c w0 W ((hg.on hw).on hb) hv (hw.trans (hb.mono hw.size)) hc)
  rw [Cn.near_opn h.ok h.oo h.mo] at K2
  generalize Cn.opn l c = z at *
  unfold xV
  clear h hg hw
  go_enter Tryz.func119, Tryz.ntmps119
  go_wp2_with fail
  refine (unhide K).mono ?_
  rintro e w1 ⟨v1, rfl, hv1, hb1⟩
  have KK := hide ((unhide K2) w1 v1 (bthen hb hb1) hv1)
  have hb2 := bthen hb hb1
  obtain ⟨nao, ncap, rfl, _, _⟩ := hv1.shape
  clear K K2 hv1 hb hb1
  go_wp2_with fail
  refine (unhide KK).mono ?_
  rintro e w2 ⟨v2, rfl, hk, hb3⟩
  have HF : OpB w0 w z (.returned v2) w2 := ⟨v2, rfl, hk.imp id (fun h => h.lower hb2.size), bthen hb2 hb3⟩
  clear KK hb2 hb3 hk
  go_wp2
  go_ret
  exact HF
set_option maxHeartbeats 1000000 in
theorem xprim_any (l cs os : List Rec) (cv ov : Value) (mr : Nat) (c : Int) (w : World) (hg : Glob w) (h : Idx l w cv ov cs os) (hc : Rune c) : Calls Tryz.prog 121 #[xV cv ov (.map (some mr)), .int .i32 c] w (BoolB w (Cn.prim l c).isSome) := by
  obtain ⟨cao, ccap, rfl, _, _⟩ := h.rc.shape
  obtain ⟨oao, ocap, rfl, _, _⟩ := h.ro.shape
  have hb : Below w.heap.size w (w.alloc (.cells #[.slice cao cs.length ccap, .slice oao os.length ocap, .map (some mr)] 67)) := (Below.refl _ _).alloc (Nat.le_refl _) _
  have K := hide (near_any _ os c 3 (.inr rfl) w _ h.ro hb h.oo hc)
  have K2 := hide (fun W v' (hb : Below w.heap.size w W) (hv : Rcs w v' (Cn.near os c)) => primC v' (Cn.near os c) c W (hg.on hb) (hv.below hb) hc)
  rw [Cn.near_prim h.ok h.oo h.mo] at K2
  generalize Cn.prim l c = z at *
  unfold xV
  clear h hg
  go_enter Tryz.func121, Tryz.ntmps121
  go_wp2_with fail
  refine (unhide K).mono ?_
  rintro e w1 ⟨v1, rfl, hv1, hb1⟩
  have KK := hide ((unhide K2) w1 v1 (bthen hb hb1) hv1)
  have hb2 := bthen hb hb1
  obtain ⟨nao, ncap, rfl, _, _⟩ := hv1.shape
  clear K K2 hv1 hb hb1
  go_wp2_with fail
  refine (unhide KK).mono ?_
  rintro e w2 ⟨rfl, hb3⟩
  have HF : BoolB w z.isSome (.returned (.bool z.isSome)) w2 := ⟨rfl, bthen hb2 hb3⟩
  clear KK hb2 hb3
  generalize z.isSome = zb at *
  generalize (z.map (·.1)).getD 0 = za at *
  generalize (z.map (·.2)).getD 0 = zc at *
  go_wp2
  go_ret
  exact HF
/-- What the walk is handed. -/
theorem xOpens (l cs os : List Rec) (cv ov : Value) (mr : Nat) (w : World) (hg : Glob w) (h : Idx l w cv ov cs os) : Opens 119 #[xV cv ov (.map (some mr))] #[] l w :=
  fun c W hW hc => xopen_any l cs os cv ov mr c w W hg h hW hc
theorem idx_len {l cs os : List Rec} {cv ov : Value} {w : World} (h : Idx l w cv ov cs os) (c : Int) : (Cn.opn l c).length ≤ 1000000000 := by
  rw [← Cn.near_opn h.ok h.oo h.mo]
  unfold Cn.opn
  split
  · split <;> simp
  · cases hh : Cn.hit (Cn.near os c) 3 c with
    | none => simp
    | some r =>
      obtain ⟨h1, _, _⟩ := Cn.hit_some hh
      exact (h.ro.2.1 r (Cn.near_mem h1)).len
theorem xfull_any (l cs os : List Rec) (cv ov : Value) (mr : Nat) (c : Int) (w : World) (hg : Glob w) (h : Idx l w cv ov cs os) (hc : Rune c) : Calls Tryz.prog 95 #[.func (.func 119) #[xV cv ov (.map (some mr))] #[], .int .i32 c] w (FullB w (Cn.full l c)) :=
  fullK 119 _ _ l w (xOpens l cs os cv ov mr w hg h) (enters_of Tryz.func119 (by kernel_rfl) rfl) (idx_len h) c hc
end Go.Proofs.YtloocceakfmnoaaGreatDoor
/- What is wrong with a full decomposition, with a pair, with Hangul. -/
namespace Go.Proofs.YtloocceakfmnoaaGreatDoor
open Go.RowKit

theorem hmeets_any (b : Nat) (r : Rec) (x y : Int) (w : World) (h1 : w.cell? ⟨b, 1, none⟩ = some (.int .i64 r.lo)) (h2 : w.cell? ⟨b, 2, none⟩ = some (.int .i64 r.hi)) : Calls Tryz.prog 116 #[.int .i64 x, .int .i64 y, .pointer (some ⟨b, 0, none⟩)] w fun e w' => e = .returned (.bool (Cn.covers r x y)) ∧ w' = w := by
  unfold Cn.covers
  by_cases q1 : r.lo ≤ y
  · by_cases q2 : x ≤ r.hi
    · rw [decide_eq_true ⟨q1, q2⟩]
      generalize r.lo = lo at *
      generalize r.hi = hi at *
      go_enter Tryz.func116, Tryz.ntmps116
      go_wp2
      go_ret
      exact ⟨rfl, rfl⟩
    · rw [decide_eq_false (fun h => q2 h.2)]
      have d2 : decide (x ≤ r.hi) = false := decide_eq_false q2
      generalize r.lo = lo at *
      generalize r.hi = hi at *
      go_enter Tryz.func116, Tryz.ntmps116
      go_wp2
      go_ret
      exact ⟨rfl, rfl⟩
  · rw [decide_eq_false (fun h => q1 h.1)]
    generalize r.lo = lo at *
    generalize r.hi = hi at *
    go_enter Tryz.func116, Tryz.ntmps116
    go_wp2
    go_ret
    exact ⟨rfl, rfl⟩
def touches (r : Rec) : Bool := Cn.covers r 4352 4370 || Cn.covers r 4449 4469 || Cn.covers r 4520 4546 || Cn.covers r 44032 55203
set_option maxRecDepth 8000 in
set_option maxHeartbeats 2000000 in
theorem touches_any (r : Rec) (ao : Option Addr) (len cap : Nat) (w : World) : Calls Tryz.prog 78 #[recV r (.slice ao len cap)] w (BoolB w (touches r)) := by
  have hb : Below w.heap.size w (w.alloc (.cells #[.int .i64 r.kind, .int .i64 r.lo, .int .i64 r.hi, .int .i64 r.n, .slice ao len cap, .string r.name, .string r.other, .float .f64 r.wt] 60)) := (Below.refl _ _).alloc (Nat.le_refl _) _
  have K := hide (fun x y => hmeets_any w.heap.size r x y (w.alloc (.cells #[.int .i64 r.kind, .int .i64 r.lo, .int .i64 r.hi, .int .i64 r.n, .slice ao len cap, .string r.name, .string r.other, .float .f64 r.wt] 60)) (by simp) (by simp))
  have eg : ∀ args w, (callFunc 116 args).run Tryz.prog w = .ok (.enter 116 args) w := enters_of Tryz.func116 (by kernel_rfl) rfl
  have hmf : ∀ (fn : Fn) (first cap : Array Value) (w : World), (Instr.makeFunc fn first cap).run Tryz.prog w = .ok (.func fn first cap) w := fun _ _ _ _ => rfl
  have HB := hide hb
  clear hb
  have K1 := hide ((unhide K) 4352 4370)
  have K2 := hide ((unhide K) 4449 4469)
  have K3 := hide ((unhide K) 4520 4546)
  have K4 := hide ((unhide K) 44032 55203)
  have e0 : touches r = (Cn.covers r 4352 4370 || Cn.covers r 4449 4469 || Cn.covers r 4520 4546 || Cn.covers r 44032 55203) := rfl
  rw [e0]
  clear K e0
  generalize Cn.covers r 4352 4370 = c1 at *
  generalize Cn.covers r 4449 4469 = c2 at *
  generalize Cn.covers r 4520 4546 = c3 at *
  generalize Cn.covers r 44032 55203 = c4 at *
  unfold recV
  cases c1
  · cases c2
    · cases c3
      · rw [show (false || false || false || c4) = c4 by simp]
        go_enter Tryz.func78, Tryz.ntmps78
        go_wp2_with fail
        refine (unhide K1).mono ?_
        rintro e w1 ⟨rfl, rfl⟩
        go_wp2_with fail
        refine (unhide K2).mono ?_
        rintro e w1 ⟨rfl, rfl⟩
        go_wp2_with fail
        refine (unhide K3).mono ?_
        rintro e w1 ⟨rfl, rfl⟩
        go_wp2_with fail
        refine (unhide K4).mono ?_
        rintro e w1 ⟨rfl, rfl⟩
        clear K1 K2 K3 K4
        go_wp2
        go_ret
        exact ⟨rfl, unhide HB⟩
      · rw [show (false || false || true || c4) = true by simp]
        go_enter Tryz.func78, Tryz.ntmps78
        go_wp2_with fail
        refine (unhide K1).mono ?_
        rintro e w1 ⟨rfl, rfl⟩
        go_wp2_with fail
        refine (unhide K2).mono ?_
        rintro e w1 ⟨rfl, rfl⟩
        go_wp2_with fail
        refine (unhide K3).mono ?_
        rintro e w1 ⟨rfl, rfl⟩
        clear K1 K2 K3 K4
        go_wp2
        go_ret
        exact ⟨rfl, unhide HB⟩
    · rw [show (false || true || c3 || c4) = true by simp]
      go_enter Tryz.func78, Tryz.ntmps78
      go_wp2_with fail
      refine (unhide K1).mono ?_
      rintro e w1 ⟨rfl, rfl⟩
      go_wp2_with fail
      refine (unhide K2).mono ?_
      rintro e w1 ⟨rfl, rfl⟩
      clear K1 K2 K3 K4
      go_wp2
      go_ret
      exact ⟨rfl, unhide HB⟩
  · rw [show (true || c2 || c3 || c4) = true by simp]
    go_enter Tryz.func78, Tryz.ntmps78
    go_wp2_with fail
    refine (unhide K1).mono ?_
    rintro e w1 ⟨rfl, rfl⟩
    clear K1 K2 K3 K4
    go_wp2
    go_ret
    exact ⟨rfl, unhide HB⟩
def makes (a b : Int) : Bool := (Cn.jl a && Cn.jv b) || (Cn.syl a && decide ((a - 44032) % 28 = 0) && Cn.jt b)
set_option maxHeartbeats 1000000 in
theorem makes_any (a b : Int) (w : World) : Calls Tryz.prog 79 #[.int .i32 a, .int .i32 b] w fun e w' => e = .returned (.bool (makes a b)) ∧ w' = w := by
  have K0 := hide (isSyl_any a w)
  by_cases hs : Cn.syl a = true
  · have hs2 : 44032 ≤ a ∧ a ≤ 55203 := by unfold Cn.syl at hs; simpa using hs
    rw [hs] at K0
    have K1 := hide (tail_any a w hs2)
    have K2 := hide (within_any b 4520 4546 w)
    have e : makes a b = (decide ((a - 44032) % 28 = 0) && decide (4520 ≤ b ∧ b ≤ 4546)) := by
      unfold makes
      rw [hs, show Cn.jl a = false by unfold Cn.jl; exact decide_eq_false (by omega)]
      simp [Cn.jt]
    rw [e]
    generalize decide (4520 ≤ b ∧ b ≤ 4546) = z at *
    clear e hs
    by_cases h0 : (a - 44032) % 28 = 0
    · rw [decide_eq_true h0, Bool.true_and]
      rw [h0] at K1
      go_enter Tryz.func79, Tryz.ntmps79
      go_wp2_with fail
      refine (unhide K0).mono ?_
      rintro e w1 ⟨rfl, hw1⟩
      subst w1
      go_wp2_with fail
      refine (unhide K1).mono ?_
      rintro e w1 ⟨rfl, hw1⟩
      subst w1
      go_wp2_with fail
      refine (unhide K2).mono ?_
      rintro e w1 ⟨rfl, hw1⟩
      subst w1
      clear K0 K1 K2
      go_wp2
      go_ret
      exact ⟨rfl, rfl⟩
    · rw [decide_eq_false h0, Bool.false_and]
      generalize (a - 44032) % 28 = t at *
      have ht : (t == 0) = false := beq_eq_false_iff_ne.2 h0
      clear h0
      go_enter Tryz.func79, Tryz.ntmps79
      go_wp2_with fail
      refine (unhide K0).mono ?_
      rintro e w1 ⟨rfl, hw1⟩
      subst w1
      go_wp2_with fail
      refine (unhide K1).mono ?_
      rintro e w1 ⟨rfl, hw1⟩
      subst w1
      clear K0 K1 K2
      go_wp2
      go_ret
      exact ⟨rfl, rfl⟩
  · have hs2 : Cn.syl a = false := by simpa using hs
    rw [hs2] at K0
    have K1 := hide (within_any a 4352 4370 w)
    have K2 := hide (within_any b 4449 4469 w)
    have e : makes a b = (decide (4352 ≤ a ∧ a ≤ 4370) && decide (4449 ≤ b ∧ b ≤ 4469)) := by
      unfold makes
      rw [hs2]
      simp [Cn.jl, Cn.jv]
    rw [e]
    generalize decide (4352 ≤ a ∧ a ≤ 4370) = y at *
    generalize decide (4449 ≤ b ∧ b ≤ 4469) = z at *
    clear e hs hs2
    cases y
    · rw [Bool.false_and]
      go_enter Tryz.func79, Tryz.ntmps79
      go_wp2_with fail
      refine (unhide K0).mono ?_
      rintro e w1 ⟨rfl, hw1⟩
      subst w1
      go_wp2_with fail
      refine (unhide K1).mono ?_
      rintro e w1 ⟨rfl, hw1⟩
      subst w1
      clear K0 K1 K2
      go_wp2
      go_ret
      exact ⟨rfl, rfl⟩
    · rw [Bool.true_and]
      go_enter Tryz.func79, Tryz.ntmps79
      go_wp2_with fail
      refine (unhide K0).mono ?_
      rintro e w1 ⟨rfl, hw1⟩
      subst w1
      go_wp2_with fail
      refine (unhide K1).mono ?_
      rintro e w1 ⟨rfl, hw1⟩
      subst w1
      go_wp2_with fail
      refine (unhide K2).mono ?_
      rintro e w1 ⟨rfl, hw1⟩
      subst w1
      clear K0 K1 K2
      go_wp2
      go_ret
      exact ⟨rfl, rfl⟩
end Go.Proofs.YtloocceakfmnoaaGreatDoor
/- What is wrong with a number's full decomposition. -/
namespace Go.Proofs.YtloocceakfmnoaaGreatDoor
namespace Cn
theorem right_class {r : Rec} (h : right r = 0) (h6 : r.kind = 6) : 1 ≤ r.n ∧ r.n ≤ 254 := by
  have hf := right_kind h
  unfold right at h
  rw [if_neg hf, if_neg (by omega)] at h
  have hc := if_zero h
  rw [Bool.and_eq_true, if_neg (by omega), if_neg (by omega), if_neg (by omega), if_neg (by omega), if_neg (by omega), if_pos h6] at hc
  have h2 := hc.2
  simp only [Bool.and_eq_true] at h2
  exact of_decide_eq_true h2.2
theorem cls_pos {l : List Rec} (h : (check6 l).2 = 0) (c : Int) : 0 ≤ cls l c := by
  unfold cls
  cases hh : hit l 2 c with
  | none => simp
  | some r =>
    obtain ⟨h1, h2, _⟩ := hit_some hh
    have hr := (check6_all h).2 r h1
    have hk : r.kind = 6 := by
      revert h2
      unfold fam
      split
      · intro e; omega
      · split
        · intro e; omega
        · split
          · intro _; assumption
          · split <;> (intro e; omega)
    have := right_class hr hk
    simp only
    omega
/-- Classes that fall, behind one of class a. -/
def fallsB (l : List Rec) : Int → List Int → Bool
  | _, [] => false
  | a, b :: r => decide (cls l b ≠ 0 ∧ cls l b < a) || fallsB l (cls l b) r
theorem falls_B (l : List Rec) : ∀ (a : Int) (r : List Int), fallsA l (a :: r) = fallsB l (cls l a) r
  | _, [] => rfl
  | a, b :: r => by rw [fallsA, fallsB, falls_B l b r]
theorem falls_0 {l : List Rec} (h : (check6 l).2 = 0) : ∀ x : List Int, fallsA l x = fallsB l 0 x
  | [] => rfl
  | a :: r => by
    rw [falls_B, fallsB, decide_eq_false (fun q => by have := cls_pos h a; omega), Bool.false_or]
theorem fallsB_step {l : List Rec} {a : Int} {x : List Int} {k : Nat} (hk : k < x.length) : fallsB l a (x.drop k) = (decide (cls l (x.getD k 0) ≠ 0 ∧ cls l (x.getD k 0) < a) || fallsB l (cls l (x.getD k 0)) (x.drop (k + 1))) := by
  rw [List.drop_eq_getElem_cons hk, fallsB]
  simp [List.getD, hk]
/-- What is wrong with a full decomposition. -/
def wfull (l : List Rec) (c : Int) : Int := if (full l c).2 ≠ 0 then (full l c).2 else if fallsA l (full l c).1 then 75 else 0
end Cn
open Go.RowKit
set_option maxRecDepth 8000 in
set_option maxHeartbeats 4000000 in
theorem wfull_any (l cs os : List Rec) (cv ov : Value) (mr : Nat) (c : Int) (w : World) (hg : Glob w) (h : Idx l w cv ov cs os) (hc : Rune c) : Calls Tryz.prog 80 #[xV cv ov (.map (some mr)), .int .i32 c] w (IntB w (Cn.wfull l c)) := by
  obtain ⟨cao, ccap, rfl, _, _⟩ := h.rc.shape
  obtain ⟨oao, ocap, rfl, _, _⟩ := h.ro.shape
  have hb : Below w.heap.size w (w.alloc (.cells #[.slice cao cs.length ccap, .slice oao os.length ocap, .map (some mr)] 67)) := (Below.refl _ _).alloc (Nat.le_refl _) _
  have K := hide (xfull_any l cs os _ _ mr c _ (hg.on hb) (h.below hb) hc)
  have KC := hide (fun W x (hW : Below w.heap.size w W) (hx : Rune x) => xclass_any l cs os _ _ mr x W (hg.on hW) (h.below hW) hx)
  have HX : Hid (∀ W, Below (w.heap.size + 1) (w.alloc (.cells #[.slice cao cs.length ccap, .slice oao os.length ocap, .map (some mr)] 67)) W → W.cell? ⟨w.heap.size, 0, none⟩ = some (.slice cao cs.length ccap) ∧ W.cell? ⟨w.heap.size, 1, none⟩ = some (.slice oao os.length ocap) ∧ W.cell? ⟨w.heap.size, 2, none⟩ = some (.map (some mr))) := fun W hW => by
    refine ⟨?_, ?_, ?_⟩
    all_goals
      rw [hW.cell (by show w.heap.size < _; omega)]
      simp
  have hmf : ∀ (fn : Fn) (first cap : Array Value) (w : World), (Instr.makeFunc fn first cap).run Tryz.prog w = .ok (.func fn first cap) w := fun _ _ _ _ => rfl
  have hf0 := Cn.falls_0 h.ok (Cn.full l c).1
  have hl32 := Cn.full_len l c
  have HR1 : Hid ((Cn.full l c).2 ≠ 0 → Cn.wfull l c = (Cn.full l c).2) := fun q => if_pos q
  have HR2 : Hid ((Cn.full l c).2 = 0 → Cn.wfull l c = if Cn.fallsB l 0 (Cn.full l c).1 then 75 else 0) := fun q => by unfold Cn.wfull; rw [if_neg (by omega), hf0]
  clear hf0 h hg
  generalize Cn.full l c = f at *
  generalize Cn.wfull l c = R at *
  obtain ⟨xs, er⟩ := f
  simp only at HR1 HR2 hl32
  unfold xV at *
  have hszb : (w.alloc (.cells #[.slice cao cs.length ccap, .slice oao os.length ocap, .map (some mr)] 67)).heap.size = w.heap.size + 1 := by simp
  go_enter Tryz.func80, Tryz.ntmps80
  go_wp2_with fail
  refine (unhide K).mono ?_
  rintro e w1 ⟨v1, rfl, hok, hb1⟩
  simp only at hok
  rw [hszb] at hb1 hok
  have hB1 : Below w.heap.size w w1 := hb.trans (hb1.mono (by omega))
  clear K
  by_cases he : er = 0
  · subst he
    have hR := (unhide HR2) rfl
    clear HR1 HR2
    rcases Nat.eq_zero_or_pos xs.length with n0 | n0
    · obtain rfl : xs = [] := List.eq_nil_of_length_eq_zero n0
      have HF : IntB w R (.returned (.int .i64 0)) w1 := by
        rw [hR]; exact ⟨rfl, hB1⟩
      obtain ⟨ao, cap, rfl, _, _⟩ := hok.sk.shape
      clear hR hok KC HX hb1 hB1
      go_wp2
      refine wp_loop_rounds 1 ?_
      rw [rounds_succ]
      go_wp2
      go_ret
      exact HF
    · have hsk := hok.sk
      obtain ⟨xb, xoff, xcap, rfl, hx1, hx2, hxc⟩ := hsk.place n0
      have HC : Hid (∀ W, Below (w.heap.size + 1) (w.alloc (.cells #[.slice cao cs.length ccap, .slice oao os.length ocap, .map (some mr)] 67)) W → Below w1.heap.size w1 W → ∀ i, i < xs.length → W.cell? ⟨xb, xoff + i, none⟩ = some (.int .i32 (xs.getD i 0))) := fun W _ hW i hi => by
        rw [hW.cell (lt_of_cell? (hxc i hi))]; exact hxc i hi
      have HRN := hide (fun k hk => rune_of hsk (i := k) hk)
      have HSTEP := hide (fun a k hk => Cn.fallsB_step (l := l) (a := a) (x := xs) (k := k) hk)
      have HRR := hide hR
      have HB1 := hide hb1
      have HBW := hide hB1
      clear hR hok hsk hxc hb1 hB1 hb
      go_wp2
      go_loopw [7, 9, 10, 23] (fun a _ _ i wr => ∃ (k : Nat) (z : Int), i = .int .i64 k ∧ a = .int .i64 z ∧ k ≤ xs.length ∧ Hid (Cn.fallsB l 0 xs = Cn.fallsB l z (xs.drop k)) ∧ Hid (Below w1.heap.size w1 wr)) (fun _ _ _ i _ => xs.length - (intOf i).toNat)
      case atStart => exact ⟨0, 0, rfl, rfl, by omega, by rw [List.drop_zero]; exact rfl, Below.refl _ _⟩
      case round =>
        obtain ⟨k, z, rfl, rfl, hk, HFB, HBR⟩ := hrel
        have hbr := unhide HBR
        have hb1r : Below (w.heap.size + 1) (w.alloc (.cells #[.slice cao cs.length ccap, .slice oao os.length ocap, .map (some mr)] 67)) wr := (unhide HB1).trans (hbr.mono (by have := (unhide HB1).size; simp at this; omega))
        have hbwr : Below w.heap.size w wr := bthen (unhide HBW) hbr
        by_cases hlt : k < xs.length
        · have a0 := (unhide HC) wr hb1r hbr k hlt
          obtain ⟨y0, y1, y2⟩ := (unhide HX) wr hb1r
          have KK := hide ((unhide KC) wr (xs.getD k 0) hbwr ((unhide HRN) k hlt))
          have hst := (unhide HSTEP) z k hlt
          rw [← unhide HFB] at hst
          have HST := hide hst
          clear hst HFB hbr hb1r hbwr
          generalize Cn.cls l (xs.getD k 0) = n at *
          generalize xs.getD k 0 = x at *
          go_wp2_with fail
          refine (unhide KK).mono ?_
          rintro e w2 ⟨rfl, hb2⟩
          have hB2 : Below w1.heap.size w1 w2 := bthen (unhide HBR) hb2
          have hBW2 : Below w.heap.size w w2 := bthen (unhide HBW) hB2
          clear KK a0 y0 y1 y2 hb2
          by_cases hcond : n ≠ 0 ∧ n < z
          · have HF : IntB w R (.returned (.int .i64 75)) w2 := by
              have e1 := unhide HRR
              rw [unhide HST, decide_eq_true hcond, Bool.true_or] at e1
              rw [e1]
              exact ⟨rfl, hBW2⟩
            obtain ⟨hn0, hnz⟩ := hcond
            have hq : (n != 0) = true := by simp [hn0]
            clear HC HRN HSTEP HRR HB1 HBW KC HX HST HBR hB2 hBW2
            go_wp2
            go_ret
            exact HF
          · have HFB2 : Hid (Cn.fallsB l 0 xs = Cn.fallsB l n (xs.drop (k + 1))) := by
              show _ = _
              rw [unhide HST, decide_eq_false hcond, Bool.false_or]
            have HB2 := hide hB2
            by_cases hnz : n < z
            · have hn0 : n = 0 := by
                rcases Int.decEq n 0 with h | h
                · exact absurd ⟨h, hnz⟩ hcond
                · exact h
              subst hn0
              clear HC HRN HSTEP HRR HB1 HBW KC HX HST HBR hB2 hBW2 hcond
              go_wp2
              go_roundw
              case rel => exact ⟨k + 1, 0, by go_num, rfl, by omega, HFB2, HB2⟩
              case measure => simp [intOf]; omega
            · clear HC HRN HSTEP HRR HB1 HBW KC HX HST HBR hB2 hBW2 hcond
              go_wp2
              go_roundw
              case rel => exact ⟨k + 1, n, by go_num, rfl, by omega, HFB2, HB2⟩
              case measure => simp [intOf]; omega
        · obtain rfl : k = xs.length := by omega
          have HF : IntB w R (.returned (.int .i64 0)) wr := by
            have e1 := unhide HRR
            rw [unhide HFB, List.drop_length] at e1
            rw [e1]
            exact ⟨rfl, hbwr⟩
          clear HC HRN HSTEP HRR HB1 HBW KC HX HFB HBR hbr hb1r hbwr
          go_wp2
          go_ret
          exact HF
  · obtain rfl := (unhide HR1) he
    have HF : IntB w R (.returned (.int .i64 R)) w1 := ⟨rfl, hB1⟩
    have hq : (R != 0) = true := by simp [he]
    obtain ⟨ao, cap, rfl, _, _⟩ := hok.sk.shape
    clear HR1 HR2 KC HX hok hb1 hB1
    go_wp2
    go_ret
    exact HF
end Go.Proofs.YtloocceakfmnoaaGreatDoor
