import Derived.Test.YtceflkeaenepcaaGreatDoorN35
import Derived.Test.YtceflkeaenepcaaGreatDoorN31
namespace Go.Proofs.YtceflkeaenepcaaGreatDoor
open Go.RowKit
open Go.Lib (minS maxS)
def ledF (l : List Rec) (f : Nat) : List Run := (l.filter fun r => decide (r.kind ≠ 15 ∧ Cn.fam r.kind = (f : Int))).map runR
def ledC : List Rec → ByteArray → ByteArray → Int
  | [], _, _ => 0
  | r :: l, a, b => (if r.kind = 15 ∧ minS r.name r.other = a ∧ maxS r.name r.other = b then 1 else 0) + ledC l a b
theorem ledC_app (r : Rec) (a b : ByteArray) : ∀ l : List Rec, ledC (l ++ [r]) a b = ledC l a b + (if r.kind = 15 ∧ minS r.name r.other = a ∧ maxS r.name r.other = b then 1 else 0)
  | [] => by simp [ledC]
  | x :: l => by simp only [List.cons_append, ledC, ledC_app r a b l]; omega
theorem ledC_bound (a b : ByteArray) : ∀ l : List Rec, 0 ≤ ledC l a b ∧ ledC l a b ≤ l.length
  | [] => by simp [ledC]
  | x :: l => by
    have := ledC_bound a b l
    simp only [ledC, List.length_cons]
    split <;> omega
theorem ledC_pos (a b : ByteArray) : ∀ l : List Rec, 0 < ledC l a b ↔ ∃ k ∈ l, k.kind = 15 ∧ minS k.name k.other = a ∧ maxS k.name k.other = b
  | [] => by simp [ledC]
  | x :: l => by
    have h0 := ledC_bound a b l
    have ih := ledC_pos a b l
    simp only [ledC]
    by_cases hx : x.kind = 15 ∧ minS x.name x.other = a ∧ maxS x.name x.other = b
    · rw [if_pos hx]
      exact ⟨fun _ => ⟨x, by simp, hx⟩, fun _ => by omega⟩
    · rw [if_neg hx, Int.zero_add, ih]
      constructor
      · rintro ⟨k, hk, h⟩; exact ⟨k, List.mem_cons_of_mem _ hk, h⟩
      · rintro ⟨k, hk, h⟩
        rcases List.mem_cons.1 hk with rfl | hk
        · exact absurd h hx
        · exact ⟨k, hk, h⟩
theorem ledF_app (l : List Rec) (r : Rec) (f : Nat) : ledF (l ++ [r]) f = ledF l f ++ (if r.kind ≠ 15 ∧ Cn.fam r.kind = (f : Int) then [runR r] else []) := by
  unfold ledF
  rw [List.filter_append, List.map_append]
  congr 1
  by_cases h : r.kind ≠ 15 ∧ Cn.fam r.kind = (f : Int)
  · rw [if_pos h]
    have : List.filter (fun r => decide (r.kind ≠ 15 ∧ Cn.fam r.kind = (f : Int))) [r] = [r] := by
      rw [List.filter_cons, if_pos (decide_eq_true h)]; rfl
    rw [this]; rfl
  · rw [if_neg h]
    have : List.filter (fun r => decide (r.kind ≠ 15 ∧ Cn.fam r.kind = (f : Int))) [r] = [] := by
      rw [List.filter_cons, if_neg (fun e => h (of_decide_eq_true e))]; rfl
    rw [this]; rfl
theorem ledF_len (l : List Rec) (f : Nat) : (ledF l f).length ≤ l.length := by
  unfold ledF
  rw [List.length_map]
  exact List.length_filter_le _ _
theorem ledF_mix {l : List Rec} {r : Rec} (h : r.kind = 15) : ledF (l ++ [r]) = ledF l := by
  funext f
  rw [ledF_app, if_neg (fun a => a.1 h), List.append_nil]
theorem ledC_mix {l : List Rec} {r : Rec} (h : r.kind = 15) : ledC (l ++ [r]) = incr (ledC l) (minS r.name r.other) (maxS r.name r.other) := by
  funext a b
  rw [ledC_app]
  unfold incr
  by_cases e : a = minS r.name r.other ∧ b = maxS r.name r.other
  · rw [if_pos ⟨h, e.1.symm, e.2.symm⟩, if_pos e, e.1, e.2]
  · rw [if_neg (fun x => e ⟨x.2.1.symm, x.2.2.symm⟩), if_neg e, Int.add_zero]
theorem ledF_run {l : List Rec} {r : Rec} {f : Nat} (h : r.kind ≠ 15) (hf : Cn.fam r.kind = (f : Int)) : ledF (l ++ [r]) = upd (ledF l) f (ledF l f ++ [runR r]) := by
  funext g
  rw [ledF_app]
  by_cases e : g = f
  · subst e
    rw [upd_same, if_pos ⟨h, hf⟩]
  · rw [upd_other _ _ e, if_neg (fun a => e (by omega)), List.append_nil]
theorem ledC_run {l : List Rec} {r : Rec} (h : r.kind ≠ 15) : ledC (l ++ [r]) = ledC l := by
  funext a b
  rw [ledC_app, if_neg (fun x => h x.1), Int.add_zero]
theorem any_mix {l : List Rec} {r : Rec} (h : r.kind = 15) : decide (0 < ledC l (minS r.name r.other) (maxS r.name r.other)) = l.any fun k => Cn.clash k r := by
  rw [Bool.eq_iff_iff, decide_eq_true_eq, ledC_pos, List.any_eq_true]
  constructor
  · rintro ⟨k, hk, h1, h2, h3⟩
    refine ⟨k, hk, ?_⟩
    unfold Cn.clash
    rw [if_neg (by rw [h, h1]; simp), if_pos h1]
    exact decide_eq_true ((kp_iff _ _ _ _).1 ⟨h2, h3⟩)
  · rintro ⟨k, hk, hc⟩
    unfold Cn.clash at hc
    split at hc
    · cases hc
    · next hf =>
      have h1 : k.kind = 15 := Cn.fam_ten (by have := Decidable.not_not.1 hf; rw [this, h]; decide)
      rw [if_pos h1] at hc
      obtain ⟨h2, h3⟩ := (kp_iff _ _ _ _).2 (of_decide_eq_true hc)
      exact ⟨k, hk, h1, h2, h3⟩
theorem any_run {l : List Rec} {r : Rec} {f : Nat} (hl : ∀ k ∈ l, Cn.right k = 0) (hr : Cn.right r = 0) (h : r.kind ≠ 15) (hf : Cn.fam r.kind = (f : Int)) : ((ledF l f).any fun y => (runR r).meets y) = l.any fun k => Cn.clash k r := by
  rw [Bool.eq_iff_iff, List.any_eq_true, List.any_eq_true]
  unfold ledF
  constructor
  · rintro ⟨y, hy, hm⟩
    obtain ⟨k, hk, rfl⟩ := List.mem_map.1 hy
    rw [List.mem_filter, decide_eq_true_eq] at hk
    refine ⟨k, hk.1, ?_⟩
    rw [clash_meets (hl k hk.1) hr (hk.2.2.trans hf.symm) hk.2.1 h]
    exact hm
  · rintro ⟨k, hk, hc⟩
    have hfam : Cn.fam k.kind = Cn.fam r.kind := by
      unfold Cn.clash at hc
      split at hc
      · cases hc
      · next hh => exact Decidable.not_not.1 hh
    have hk15 : k.kind ≠ 15 := fun e => h (Cn.fam_ten (by rw [← hfam, e]; decide))
    rw [clash_meets (hl k hk) hr hfam hk15 h] at hc
    exact ⟨runR k, List.mem_map.2 ⟨k, List.mem_filter.2 ⟨hk, decide_eq_true ⟨hk15, hfam.trans hf⟩⟩, rfl⟩, hc⟩
theorem ledF_ok {l : List Rec} (hl : ∀ k ∈ l, Cn.right k = 0) {f : Nat} : ∀ y ∈ ledF l f, y.ok := by
  intro y hy
  unfold ledF at hy
  obtain ⟨k, hk, rfl⟩ := List.mem_map.1 hy
  rw [List.mem_filter, decide_eq_true_eq] at hk
  exact runR_ok (hl k hk.1) hk.2.1
theorem mix_names {r : Rec} (h : Cn.right r = 0) (h15 : r.kind = 15) : Sh r.name ∧ Sh r.other := by
  have hn : ∀ s : ByteArray, Cn.nameL s = true → Sh s := fun s hs => by
    unfold Cn.nameL at hs
    split at hs
    · next a b c d e =>
      have : (s.data.toList.map (·.toNat)).length = 4 := by rw [e]; rfl
      rw [List.length_map] at this
      have h2 : s.size = 4 := by
        show s.data.size = 4
        rw [← Array.length_toList]
        exact this
      unfold Sh; omega
    · cases hs
  have hf := Cn.right_kind h
  unfold Cn.right at h
  rw [if_neg hf, if_pos h15] at h
  have hc := Cn.if_zero h
  exact ⟨hn _ hc.2.2.2.1, hn _ hc.2.2.2.2.1⟩
theorem enters_sp : ∀ args w, (callFunc 125 args).run Tryz.prog w = .ok (.enter 125 args) w := enters_of Tryz.func125 (by kernel_rfl) rfl
theorem enters_sp4 : ∀ args w, (callFunc 382 args).run Tryz.prog w = .ok (.enter 382 args) w := enters_of Tryz.func382 (by kernel_rfl) rfl
def TwA (w : World) (B L rr : Nat) (l : List Rec) (r : Rec) (e : Ending) (w' : World) : Prop := e = .returned (.bool (l.any fun k => Cn.clash k r)) ∧ (∃ vs', LG w' B L rr vs' (ledF (l ++ [r])) (ledC (l ++ [r]))) ∧ Below B w w'
theorem twice_any (r : Rec) (vt : Value) (w : World) (B L rr : Nat) (vs : Nat → Value) (l : List Rec) (hg : Glob w) (hlg : LG w B L rr vs (ledF l) (ledC l)) (hBw : B ≤ w.heap.size) (hfit : RecFit r) (hl : ∀ k ∈ l, Cn.right k = 0) (hr : Cn.right r = 0) (hlen : l.length ≤ 5000) :
    Calls Tryz.prog 32 #[.pointer (some ⟨L, 0, none⟩), recV r vt] w (TwA w B L rr l r) := by
  by_cases h15 : r.kind = 15
  · obtain ⟨s1, s2⟩ := mix_names hr h15
    refine (twiceMix_any r vt w B L rr vs _ _ hlg hBw h15 s1 s2 (fun x y => by have := ledC_bound x y l; omega)).mono ?_
    rintro e w' ⟨rfl, h2, h3⟩
    exact ⟨by rw [any_mix h15], by rw [ledF_mix h15, ledC_mix h15]; exact h2, h3⟩
  · obtain ⟨f, hf⟩ : ∃ f : Nat, Cn.fam r.kind = (f : Int) := ⟨(Cn.fam r.kind).toNat, by have := Cn.fam_small r.kind; omega⟩
    have hf11 : f < 11 := by have := Cn.fam_small r.kind; omega
    have hflen : (ledF l f).length < 100000 := by have := ledF_len l f; omega
    have key : ∀ (T fp : Nat), shape r.kind = .iface T (.agg #[.int .i64 r.kind]) → (∀ W, (method 543 T (.agg #[.int .i64 r.kind]) "endonym/table.spoken").run Tryz.prog W = .ok (fp, .agg #[.int .i64 r.kind]) W) → (∀ args W, (callFunc fp args).run Tryz.prog W = .ok (.enter fp args) W) → (∀ W, Calls Tryz.prog fp #[shV r.kind, recV r vt] W (fun e w' => e = .returned (runV r.lo r.hi (stepP r)) ∧ Below W.heap.size W w')) → Calls Tryz.prog 32 #[.pointer (some ⟨L, 0, none⟩), recV r vt] w (TwA w B L rr l r) := by
      intro T fp es hm eg KP
      refine (twice_core T fp r vt w B L rr f vs _ _ hlg hBw hf11 hflen h15 (runR_ok hr h15) (ledF_ok hl) (fun W h => hf ▸ family_any r.kind W (hg.on h) hfit.kind) (fun W => es ▸ shapeOf_any r.kind W hfit.kind) hm eg KP).mono ?_
      rintro e w' ⟨rfl, h2, h3⟩
      exact ⟨by rw [any_run hl hr h15 hf], by rw [ledF_run h15 hf, ledC_run h15]; exact h2, h3⟩
    by_cases h4 : r.kind = 4
    · refine key 75 382 (by unfold shape shV; rw [if_pos h4]) (mSpokenShifted _) enters_sp4 (fun W => ?_)
      have := spoken_any r.kind r vt W rfl
      unfold spokenF at this
      rwa [if_pos h4] at this
    · have hsp : ∀ W, Calls Tryz.prog 125 #[shV r.kind, recV r vt] W (fun e w' => e = .returned (runV r.lo r.hi (stepP r)) ∧ Below W.heap.size W w') := fun W => by
        have := spoken_any r.kind r vt W rfl
        unfold spokenF at this
        rwa [if_neg h4] at this
      by_cases h5 : r.kind = 5 ∨ r.kind = 7 ∨ r.kind = 8 ∨ r.kind = 13
      · exact key 76 125 (by unfold shape shV; rw [if_neg h4, if_pos h5]) (mSpokenSingle _) enters_sp hsp
      · exact key 73 125 (by unfold shape shV; rw [if_neg h4, if_neg h5, if_neg h15]) (mSpokenSpanned _) enters_sp hsp
end Go.Proofs.YtceflkeaenepcaaGreatDoor
namespace Go.Proofs.YtceflkeaenepcaaGreatDoor
open Go.RowKit
def idxT (rs : List Rec) (k : Nat) : Int := match Cn.twiceA rs k (rs.drop k) with
  | some i => (i : Int)
  | Option.none => -1
theorem idx_hit {rs : List Rec} {k : Nat} (hk : k < rs.length) (h : ((rs.take k).any fun j => Cn.clash j (rs.getD k Cn.none)) = true) : idxT rs k = (k : Int) := by
  have e : rs.getD k Cn.none = rs[k] := by simp [List.getD, hk]
  rw [e] at h
  unfold idxT
  rw [List.drop_eq_getElem_cons hk, Cn.twiceA, if_pos h]
theorem idx_next {rs : List Rec} {k : Nat} (hk : k < rs.length) (h : ((rs.take k).any fun j => Cn.clash j (rs.getD k Cn.none)) = false) : idxT rs k = idxT rs (k + 1) := by
  have e : rs.getD k Cn.none = rs[k] := by simp [List.getD, hk]
  rw [e] at h
  unfold idxT
  rw [List.drop_eq_getElem_cons hk, Cn.twiceA, if_neg (by rw [h]; decide)]
theorem idx_end (rs : List Rec) : idxT rs rs.length = -1 := by
  unfold idxT
  rw [List.drop_length, Cn.twiceA]
theorem take_next {rs : List Rec} {k : Nat} (hk : k < rs.length) : rs.take k ++ [rs.getD k Cn.none] = rs.take (k + 1) := by
  have e : rs.getD k Cn.none = rs[k] := by simp [List.getD, hk]
  rw [e, List.take_succ_eq_append_getElem hk]
theorem enters_twice : ∀ args w, (callFunc 32 args).run Tryz.prog w = .ok (.enter 32 args) w := enters_of Tryz.func32 (by kernel_rfl) rfl
def TIn (w0 : World) (L rr : Nat) (rs : List Rec) (k : Nat) (W : World) : Prop := (∃ vs, LG W w0.heap.size L rr vs (ledF (rs.take k)) (ledC (rs.take k))) ∧ Below w0.heap.size w0 W
set_option maxRecDepth 8000 in
set_option maxHeartbeats 4000000 in
theorem indexTwice_any (L rr : Nat) (v : Value) (rs : List Rec) (w0 w : World) (hg : Glob w0) (hv : Rcs w0 v rs) (hr : ∀ r ∈ rs, Cn.right r = 0) (hlen : rs.length ≤ 4096) (hin0 : TIn w0 L rr rs 0 w) :
    Calls Tryz.prog 20 #[v, .func (.func 32) #[.pointer (some ⟨L, 0, none⟩)] #[]] w (fun e w' => e = .returned (.int .i64 (idxT rs 0)) ∧ Below w0.heap.size w0 w') := by
  have eg := enters_twice
  have HI0 := hide hin0
  have HP : Hid (∀ (k : Nat) (vt : Value) (W : World), k < rs.length → TIn w0 L rr rs k W → Calls Tryz.prog 32 #[.pointer (some ⟨L, 0, none⟩), recV (rs.getD k Cn.none) vt] W (fun e w' => e = .returned (.bool ((rs.take k).any fun j => Cn.clash j (rs.getD k Cn.none))) ∧ TIn w0 L rr rs (k + 1) w')) := fun k vt W hk hin => by
    obtain ⟨⟨vs, hlg⟩, hb⟩ := hin
    refine (twice_any (rs.getD k Cn.none) vt W w0.heap.size L rr vs (rs.take k) (hg.on hb) hlg hb.size (hv.fit hk) (fun j hj => hr j (List.mem_of_mem_take hj)) (hr _ (by simp [List.getD, hk])) (by simp; omega)).mono ?_
    rintro e w' ⟨h1, h2, h3⟩
    rw [take_next hk] at h2
    exact ⟨h1, h2, hb.trans h3⟩
  have HC : Hid (∀ W k, TIn w0 L rr rs k W → Rcs W v rs) := fun W k h => hv.below h.2
  have HB : Hid (∀ W k, TIn w0 L rr rs k W → Below w0.heap.size w0 W) := fun W k h => h.2
  obtain ⟨ao, cap, rfl, h1, h2⟩ := hv.shape
  clear hv hr hg hin0
  generalize hq : idxT rs 0 = z at *
  have HR0 := hide hq.symm
  clear hq
  go_enter Tryz.func20, Tryz.ntmps20
  go_wp2
  go_loopw [5, 8] (fun _ i wr => ∃ k : Nat, i = .int .i64 k ∧ k ≤ rs.length ∧ z = idxT rs k ∧ TIn w0 L rr rs k wr) (fun _ i _ => rs.length - (intOf i).toNat)
  case atStart => exact ⟨0, rfl, by omega, unhide HR0, unhide HI0⟩
  case round =>
    obtain ⟨k, rfl, hk, hz, hin⟩ := hrel
    clear HR0 HI0
    by_cases hlt : k < rs.length
    · have hrc := (unhide HC) wr k hin
      obtain ⟨b, off, cap', he, hc1, hc2, hc⟩ := hrc.place (by omega)
      obtain ⟨rfl, rfl⟩ : ao = some ⟨b, off, none⟩ ∧ cap = cap' := by simpa using he
      obtain ⟨x0, x1, x2, x3, ⟨vt, x4, sk⟩, x5, x6, x7⟩ := hc k hlt
      have HV := hide ((unhide HP) k vt wr hlt hin)
      have HH : Hid (((rs.take k).any fun j => Cn.clash j (rs.getD k Cn.none)) = true → z = (k : Int)) := fun h => hz.trans (idx_hit hlt h)
      have HN : Hid (((rs.take k).any fun j => Cn.clash j (rs.getD k Cn.none)) = false → z = idxT rs (k + 1)) := fun h => hz.trans (idx_next hlt h)
      obtain ⟨tp, tc, rfl, _, _⟩ := sk.shape
      clear hz hin hc he sk HP hrc HC
      unfold recV at HV
      generalize ((rs.take k).any fun j => Cn.clash j (rs.getD k Cn.none)) = y at HV HH HN
      generalize (rs.getD k Cn.none).kind = kd at *
      generalize (rs.getD k Cn.none).lo = lo at *
      generalize (rs.getD k Cn.none).hi = hi at *
      generalize (rs.getD k Cn.none).n = n at *
      generalize (rs.getD k Cn.none).name = nm at *
      generalize (rs.getD k Cn.none).other = ot at *
      generalize (rs.getD k Cn.none).wt = wt at *
      generalize (rs.getD k Cn.none).to.length = tl at *
      cases y with
      | true =>
        obtain rfl := (unhide HH) rfl
        clear HH HN
        go_wp2_with (go_at_fn 32; refine (unhide HV).mono ?_; rintro e w1 ⟨rfl, hb1⟩)
        have HF := hide ((unhide HB) w1 _ hb1)
        clear HV HB
        go_ret
        exact ⟨rfl, unhide HF⟩
      | false =>
        have HN2 := hide ((unhide HN) rfl)
        clear HH HN HB
        go_wp2_with (go_at_fn 32; refine (unhide HV).mono ?_; rintro e w1 ⟨rfl, hb1⟩)
        have HF := hide hb1
        clear HV hb1
        go_round
        case rel => exact ⟨k + 1, by go_num, by omega, unhide HN2, unhide HF⟩
        case measure => simp [intOf]; omega
    · obtain rfl : k = rs.length := by omega
      obtain rfl := hz.trans (idx_end rs)
      have HF := hide hin.2
      clear hz hin HP HC HB
      go_wp2
      go_ret
      exact ⟨rfl, unhide HF⟩
theorem make_map (w : World) : (Instr.makeMap 67 none).run Tryz.prog w = .ok (.map (some w.heap.size)) (w.alloc (.map #[] 0)) := by kernel_rfl
def ledRow (r : Nat) : Array Value := #[.slice none 0 0, .slice none 0 0, .slice none 0 0, .slice none 0 0, .slice none 0 0, .slice none 0 0, .slice none 0 0, .slice none 0 0, .slice none 0 0, .slice none 0 0, .slice none 0 0, .map (some r)]
theorem led_new (w : World) : LG ((w.alloc (.map #[] 0)).alloc (.cells (ledRow w.heap.size) 71)) w.heap.size (w.heap.size + 1) w.heap.size (fun _ => .slice none 0 0) (ledF []) (ledC []) := by
  have h1 : ((w.alloc (.map #[] 0)).alloc (.cells (ledRow w.heap.size) 71)).heap[w.heap.size + 1]? = some (.cells (ledRow w.heap.size) 71 (0, 0)) := by
    show ((w.heap.push _).push _)[w.heap.size + 1]? = _
    rw [Array.getElem?_push]
    simp
  have h2 : ((w.alloc (.map #[] 0)).alloc (.cells (ledRow w.heap.size) 71)).heap[w.heap.size]? = some (.map #[] 0) := by
    show ((w.heap.push _).push _)[w.heap.size]? = _
    rw [Array.getElem?_push_lt (by simp)]
    simp
  refine ⟨by omega, Nat.le_refl _, by omega, ⟨ledRow w.heap.size, h1, rfl, fun f hf => ?_, rfl⟩, ⟨#[], 0, h2, ⟨MapKept.stamped_empty 0, fun x hx => by simp at hx, fun a b _ => rfl⟩⟩, fun f _ => ⟨by simp [ledF], World.ownsRow_nil _ _ _ _⟩, fun f _ k hk => (by cases hk), fun f g _ _ _ k hk => (by cases hk)⟩
  obtain rfl | rfl | rfl | rfl | rfl | rfl | rfl | rfl | rfl | rfl | rfl : f = 0 ∨ f = 1 ∨ f = 2 ∨ f = 3 ∨ f = 4 ∨ f = 5 ∨ f = 6 ∨ f = 7 ∨ f = 8 ∨ f = 9 ∨ f = 10 := by omega
  all_goals rfl
def firstT (rs : List Rec) : Nat × Int := match Cn.twiceA rs 0 rs with | some i => (i, 62) | Option.none => (0, 0)
set_option maxRecDepth 8000 in
set_option maxHeartbeats 4000000 in
theorem firstTwice_any (v : Value) (rs : List Rec) (w : World) (hg : Glob w) (hv : Rcs w v rs) (hr : ∀ r ∈ rs, Cn.right r = 0) (hlen : rs.length ≤ 4096) : Calls Tryz.prog 19 #[v] w (PairIB w (firstT rs)) := by
  have hmk := make_map
  have hb0 := below2 w (.map #[] 0) (.cells (ledRow w.heap.size) 71)
  have K := hide (indexTwice_any (w.heap.size + 1) w.heap.size v rs w _ hg hv hr hlen ⟨⟨_, led_new w⟩, hb0⟩)
  have HX : Hid (idxT rs 0 = match Cn.twiceA rs 0 rs with | some i => (i : Int) | Option.none => -1) := by
    show idxT rs 0 = _
    unfold idxT
    rw [List.drop_zero]
  obtain ⟨ao, cap, rfl, h1, h2⟩ := hv.shape
  clear hv hg hr
  unfold firstT
  generalize idxT rs 0 = z at *
  unfold ledRow at *
  cases ht : Cn.twiceA rs 0 rs with
  | some i =>
    rw [ht] at HX
    obtain rfl : z = (i : Int) := unhide HX
    clear HX ht
    go_enter Tryz.func19, Tryz.ntmps19
    go_wp2_with fail
    refine (unhide K).mono ?_
    rintro e w1 ⟨rfl, hb1⟩
    clear K
    go_wp2
    go_ret2
    exact ⟨rfl, hb1⟩
  | none =>
    rw [ht] at HX
    obtain rfl : z = -1 := unhide HX
    clear HX ht
    go_enter Tryz.func19, Tryz.ntmps19
    go_wp2_with fail
    refine (unhide K).mono ?_
    rintro e w1 ⟨rfl, hb1⟩
    clear K
    go_wp2
    go_ret2
    exact ⟨rfl, hb1⟩
def CheckT : Prop := ∀ (v : Value) (rs : List Rec) (w : World), Glob w → Rcs w v rs → Calls Tryz.prog 10 #[v] w (PairIB w (Cn.check6 rs))
theorem check6_parts (rs : List Rec) : Cn.check6 rs = if (firstW rs).2 ≠ 0 then firstW rs else firstT rs := by
  unfold Cn.check6 firstW firstT
  split
  · rfl
  · cases h : Cn.rightA 0 rs with
    | some x => simp only; rw [if_pos (Cn.rightA_err _ _ _ h)]
    | none => simp only; rw [if_neg (by simp)]; rfl
theorem firstW_ok {rs : List Rec} (h : (firstW rs).2 = 0) : (∀ r ∈ rs, Cn.right r = 0) ∧ rs.length ≤ 4096 := by
  unfold firstW at h
  split at h
  · exact absurd h (by decide)
  · next hl =>
    cases e : Cn.rightA 0 rs with
    | some x => rw [e] at h; exact absurd h (Cn.rightA_err _ _ _ e)
    | none => exact ⟨Cn.rightA_all _ _ e, by omega⟩
set_option maxRecDepth 8000 in
set_option maxHeartbeats 4000000 in
theorem check_any : CheckT := by
  intro v rs w hg hv
  have K1 := hide (firstWrong_any v rs w hg hv)
  have K2 : Hid ((firstW rs).2 = 0 → ∀ W, Below w.heap.size w W → Calls Tryz.prog 19 #[v] W (PairIB W (firstT rs))) := fun h W hb => firstTwice_any v rs W (hg.on hb) (hv.below hb) (firstW_ok h).1 (firstW_ok h).2
  rw [check6_parts]
  obtain ⟨ao, cap, rfl, h1, h2⟩ := hv.shape
  clear hv hg
  generalize firstW rs = x at *
  generalize firstT rs = y at *
  obtain ⟨xi, xe⟩ := x
  obtain ⟨yi, ye⟩ := y
  by_cases he : xe = 0
  · subst he
    rw [if_neg (by simp)]
    go_enter Tryz.func10, Tryz.ntmps10
    go_wp2_with fail
    refine (unhide K1).mono ?_
    rintro e w1 ⟨rfl, hb1⟩
    have J := hide ((unhide K2) trivial w1 hb1)
    clear K1 K2
    go_wp2_with fail
    refine (unhide J).mono ?_
    rintro e w2 ⟨rfl, hb2⟩
    have HF := hide (bthen hb1 hb2)
    clear J hb1 hb2
    go_wp2
    go_ret2
    exact ⟨rfl, unhide HF⟩
  · rw [if_pos (by simpa using he)]
    have d1 : (xe != 0) = true := by simp [he]
    have d2 : (xe == 0) = false := beq_eq_false_iff_ne.2 he
    clear K2
    go_enter Tryz.func10, Tryz.ntmps10
    go_wp2_with fail
    refine (unhide K1).mono ?_
    rintro e w1 ⟨rfl, hb1⟩
    clear K1
    go_wp2
    go_ret2
    exact ⟨rfl, hb1⟩
end Go.Proofs.YtceflkeaenepcaaGreatDoor
