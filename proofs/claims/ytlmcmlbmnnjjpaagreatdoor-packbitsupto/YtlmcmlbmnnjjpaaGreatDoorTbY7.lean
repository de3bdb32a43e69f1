/- What a right record comes to in the ledger of right records. -/
import Derived.Test.YtlmcmlbmnnjjpaaGreatDoorTbX7
namespace Go.Proofs.YtlmcmlbmnnjjpaaGreatDoor
open Go.RowKit
open Go.Lib (minS maxS)

def ledF (l : List Rec) (f : Nat) : List Run := (l.filter fun r => decide (r.kind ≠ 15 ∧ Cn.fam r.kind = (f : Int))).map runR
def ledC : List Rec → ByteArray → ByteArray → Int
  | [], _, _ => 0
  | r :: l, a, b => (if r.kind = 15 ∧ minS r.name r.other = a ∧ maxS r.name r.other = b then 1 else 0) + ledC l a b
theorem ledC_app (r : Rec) (a b : ByteArray) : ∀ l : List Rec, ledC (l ++ [r]) a b = ledC l a b + (if r.kind = 15 ∧ minS r.name r.other = a ∧ maxS r.name r.other = b then 1 else 0)
  | [] => by simp [ledC]
  | x :: l => by simp only [List.cons_append, ledC, ledC_app r a b l]; omega
theorem ledC_bound (a b : ByteArray) : ∀ l : List Rec, 0 ≤ ledC l a b ∧ ledC l a b ≤ l.length
  | [] => by simp [ledC]
  | x :: l => by
    have := ledC_bound a b l
    simp only [ledC, List.length_cons]
    split <;> omega
theorem ledC_pos (a b : ByteArray) : ∀ l : List Rec, 0 < ledC l a b ↔ ∃ k ∈ l, k.kind = 15 ∧ minS k.name k.other = a ∧ maxS k.name k.other = b
  | [] => by simp [ledC]
  | x :: l => by
    have h0 := ledC_bound a b l
    have ih := ledC_pos a b l
    simp only [ledC]
    by_cases hx : x.kind = 15 ∧ minS x.name x.other = a ∧ maxS x.name x.other = b
    · rw [if_pos hx]
      exact ⟨fun _ => ⟨x, by simp, hx⟩, fun _ => by omega⟩
    · rw [if_neg hx, Int.zero_add, ih]
      constructor
      · rintro ⟨k, hk, h⟩; exact ⟨k, List.mem_cons_of_mem _ hk, h⟩
      · rintro ⟨k, hk, h⟩
        rcases List.mem_cons.1 hk with rfl | hk
        · exact absurd h hx
        · exact ⟨k, hk, h⟩
theorem ledF_app (l : List Rec) (r : Rec) (f : Nat) : ledF (l ++ [r]) f = ledF l f ++ (if r.kind ≠ 15 ∧ Cn.fam r.kind = (f : Int) then [runR r] else []) := by
  unfold ledF
  rw [List.filter_append, List.map_append]
  congr 1
  by_cases h : r.kind ≠ 15 ∧ Cn.fam r.kind = (f : Int)
  · rw [if_pos h]
    have : List.filter (fun r => decide (r.kind ≠ 15 ∧ Cn.fam r.kind = (f : Int))) [r] = [r] := by
      rw [List.filter_cons, if_pos (decide_eq_true h)]; rfl
    rw [this]; rfl
  · rw [if_neg h]
    have : List.filter (fun r => decide (r.kind ≠ 15 ∧ Cn.fam r.kind = (f : Int))) [r] = [] := by
      rw [List.filter_cons, if_neg (fun e => h (of_decide_eq_true e))]; rfl
    rw [this]; rfl
theorem ledF_len (l : List Rec) (f : Nat) : (ledF l f).length ≤ l.length := by
  unfold ledF
  rw [List.length_map]
  exact List.length_filter_le _ _
theorem ledF_mix {l : List Rec} {r : Rec} (h : r.kind = 15) : ledF (l ++ [r]) = ledF l := by
  funext f
  rw [ledF_app, if_neg (fun a => a.1 h), List.append_nil]
theorem ledC_mix {l : List Rec} {r : Rec} (h : r.kind = 15) : ledC (l ++ [r]) = incr (ledC l) (minS r.name r.other) (maxS r.name r.other) := by
  funext a b
  rw [ledC_app]
  unfold incr
  by_cases e : a = minS r.name r.other ∧ b = maxS r.name r.other
  · rw [if_pos ⟨h, e.1.symm, e.2.symm⟩, if_pos e, e.1, e.2]
  · rw [if_neg (fun x => e ⟨x.2.1.symm, x.2.2.symm⟩), if_neg e, Int.add_zero]
theorem ledF_run {l : List Rec} {r : Rec} {f : Nat} (h : r.kind ≠ 15) (hf : Cn.fam r.kind = (f : Int)) : ledF (l ++ [r]) = upd (ledF l) f (ledF l f ++ [runR r]) := by
  funext g
  rw [ledF_app]
  by_cases e : g = f
  · subst e
    rw [upd_same, if_pos ⟨h, hf⟩]
  · rw [upd_other _ _ e, if_neg (fun a => e (by omega)), List.append_nil]
theorem ledC_run {l : List Rec} {r : Rec} (h : r.kind ≠ 15) : ledC (l ++ [r]) = ledC l := by
  funext a b
  rw [ledC_app, if_neg (fun x => h x.1), Int.add_zero]
/-- A mix clashes with those of the same two. -/
theorem any_mix {l : List Rec} {r : Rec} (h : r.kind = 15) : decide (0 < ledC l (minS r.name r.other) (maxS r.name r.other)) = l.any fun k => Cn.clash k r := by
  rw [Bool.eq_iff_iff, decide_eq_true_eq, ledC_pos, List.any_eq_true]
  constructor
  · rintro ⟨k, hk, h1, h2, h3⟩
    refine ⟨k, hk, ?_⟩
    unfold Cn.clash
    rw [if_neg (by rw [h, h1]; simp), if_pos h1]
    exact decide_eq_true ((kp_iff _ _ _ _).1 ⟨h2, h3⟩)
  · rintro ⟨k, hk, hc⟩
    unfold Cn.clash at hc
    split at hc
    · cases hc
    · next hf =>
      have h1 : k.kind = 15 := Cn.fam_ten (by have := Decidable.not_not.1 hf; rw [this, h]; decide)
      rw [if_pos h1] at hc
      obtain ⟨h2, h3⟩ := (kp_iff _ _ _ _).2 (of_decide_eq_true hc)
      exact ⟨k, hk, h1, h2, h3⟩
theorem any_run {l : List Rec} {r : Rec} {f : Nat} (hl : ∀ k ∈ l, Cn.right k = 0) (hr : Cn.right r = 0) (h : r.kind ≠ 15) (hf : Cn.fam r.kind = (f : Int)) : ((ledF l f).any fun y => (runR r).meets y) = l.any fun k => Cn.clash k r := by
  rw [Bool.eq_iff_iff, List.any_eq_true, List.any_eq_true]
  unfold ledF
  constructor
  · rintro ⟨y, hy, hm⟩
    obtain ⟨k, hk, rfl⟩ := List.mem_map.1 hy
    rw [List.mem_filter, decide_eq_true_eq] at hk
    refine ⟨k, hk.1, ?_⟩
    rw [clash_meets (hl k hk.1) hr (hk.2.2.trans hf.symm) hk.2.1 h]
    exact hm
  · rintro ⟨k, hk, hc⟩
    have hfam : Cn.fam k.kind = Cn.fam r.kind := by
      unfold Cn.clash at hc
      split at hc
      · cases hc
      · next hh => exact Decidable.not_not.1 hh
    have hk15 : k.kind ≠ 15 := fun e => h (Cn.fam_ten (by rw [← hfam, e]; decide))
    rw [clash_meets (hl k hk) hr hfam hk15 h] at hc
    exact ⟨runR k, List.mem_map.2 ⟨k, List.mem_filter.2 ⟨hk, decide_eq_true ⟨hk15, hfam.trans hf⟩⟩, rfl⟩, hc⟩
theorem ledF_ok {l : List Rec} (hl : ∀ k ∈ l, Cn.right k = 0) {f : Nat} : ∀ y ∈ ledF l f, y.ok := by
  intro y hy
  unfold ledF at hy
  obtain ⟨k, hk, rfl⟩ := List.mem_map.1 hy
  rw [List.mem_filter, decide_eq_true_eq] at hk
  exact runR_ok (hl k hk.1) hk.2.1
/-- What a mix's names are like. -/
theorem mix_names {r : Rec} (h : Cn.right r = 0) (h15 : r.kind = 15) : Sh r.name ∧ Sh r.other := by
  have hn : ∀ s : ByteArray, Cn.nameL s = true → Sh s := fun s hs => by
    unfold Cn.nameL at hs
    split at hs
    · next a b c d e =>
      have : (s.data.toList.map (·.toNat)).length = 4 := by rw [e]; rfl
      rw [List.length_map] at this
      have h2 : s.size = 4 := by
        show s.data.size = 4
        rw [← Array.length_toList]
        exact this
      unfold Sh; omega
    · cases hs
  have hf := Cn.right_kind h
  unfold Cn.right at h
  rw [if_neg hf, if_pos h15] at h
  have hc := Cn.if_zero h
  exact ⟨hn _ hc.2.2.2.1, hn _ hc.2.2.2.2.1⟩
theorem enters_sp : ∀ args w, (callFunc 142 args).run Tryz.prog w = .ok (.enter 142 args) w := enters_of Tryz.func142 (by kernel_rfl) rfl
theorem enters_sp4 : ∀ args w, (callFunc 160 args).run Tryz.prog w = .ok (.enter 160 args) w := enters_of Tryz.func160 (by kernel_rfl) rfl
def TwA (w : World) (B L rr : Nat) (l : List Rec) (r : Rec) (e : Ending) (w' : World) : Prop := e = .returned (.bool (l.any fun k => Cn.clash k r)) ∧ (∃ vs', LG w' B L rr vs' (ledF (l ++ [r])) (ledC (l ++ [r]))) ∧ Below B w w'
theorem twice_any (r : Rec) (vt : Value) (w : World) (B L rr : Nat) (vs : Nat → Value) (l : List Rec) (hg : Glob w) (hlg : LG w B L rr vs (ledF l) (ledC l)) (hBw : B ≤ w.heap.size) (hfit : RecFit r) (hl : ∀ k ∈ l, Cn.right k = 0) (hr : Cn.right r = 0) (hlen : l.length ≤ 5000) :
    Calls Tryz.prog 49 #[.pointer (some ⟨L, 0, none⟩), recV r vt] w (TwA w B L rr l r) := by
  by_cases h15 : r.kind = 15
  · obtain ⟨s1, s2⟩ := mix_names hr h15
    refine (twiceMix_any r vt w B L rr vs _ _ hlg hBw h15 s1 s2 (fun x y => by have := ledC_bound x y l; omega)).mono ?_
    rintro e w' ⟨rfl, h2, h3⟩
    exact ⟨by rw [any_mix h15], by rw [ledF_mix h15, ledC_mix h15]; exact h2, h3⟩
  · obtain ⟨f, hf⟩ : ∃ f : Nat, Cn.fam r.kind = (f : Int) := ⟨(Cn.fam r.kind).toNat, by have := Cn.fam_small r.kind; omega⟩
    have hf11 : f < 11 := by have := Cn.fam_small r.kind; omega
    have hflen : (ledF l f).length < 100000 := by have := ledF_len l f; omega
    have key : ∀ (T fp : Nat), shape r.kind = .iface T (.agg #[.int .i64 r.kind]) → (∀ W, (method 286 T (.agg #[.int .i64 r.kind]) "endonym/table.spoken").run Tryz.prog W = .ok (fp, .agg #[.int .i64 r.kind]) W) → (∀ args W, (callFunc fp args).run Tryz.prog W = .ok (.enter fp args) W) → (∀ W, Calls Tryz.prog fp #[shV r.kind, recV r vt] W (fun e w' => e = .returned (runV r.lo r.hi (stepP r)) ∧ Below W.heap.size W w')) → Calls Tryz.prog 49 #[.pointer (some ⟨L, 0, none⟩), recV r vt] w (TwA w B L rr l r) := by
      intro T fp es hm eg KP
      refine (twice_core T fp r vt w B L rr f vs _ _ hlg hBw hf11 hflen h15 (runR_ok hr h15) (ledF_ok hl) (fun W h => hf ▸ family_any r.kind W (hg.on h) hfit.kind) (fun W => es ▸ shapeOf_any r.kind W hfit.kind) hm eg KP).mono ?_
      rintro e w' ⟨rfl, h2, h3⟩
      exact ⟨by rw [any_run hl hr h15 hf], by rw [ledF_run h15 hf, ledC_run h15]; exact h2, h3⟩
    by_cases h4 : r.kind = 4
    · refine key 144 160 (by unfold shape shV; rw [if_pos h4]) (mSpokenShifted _) enters_sp4 (fun W => ?_)
      have := spoken_any r.kind r vt W rfl
      unfold spokenF at this
      rwa [if_pos h4] at this
    · have hsp : ∀ W, Calls Tryz.prog 142 #[shV r.kind, recV r vt] W (fun e w' => e = .returned (runV r.lo r.hi (stepP r)) ∧ Below W.heap.size W w') := fun W => by
        have := spoken_any r.kind r vt W rfl
        unfold spokenF at this
        rwa [if_neg h4] at this
      by_cases h5 : r.kind = 5 ∨ r.kind = 7 ∨ r.kind = 8 ∨ r.kind = 13
      · exact key 145 142 (by unfold shape shV; rw [if_neg h4, if_pos h5]) (mSpokenSingle _) enters_sp hsp
      · exact key 142 142 (by unfold shape shV; rw [if_neg h4, if_neg h5, if_neg h15]) (mSpokenSpanned _) enters_sp hsp
end Go.Proofs.YtlmcmlbmnnjjpaaGreatDoor
