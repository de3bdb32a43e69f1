/- Which record says what one ahead of it has said; table's Check. -/
import Derived.Test.YtlmcmlbmnnjjpaaGreatDoorTbY7
import Derived.Test.YtlmcmlbmnnjjpaaGreatDoorGc8
namespace Go.Proofs.YtlmcmlbmnnjjpaaGreatDoor
open Go.RowKit

def idxT (rs : List Rec) (k : Nat) : Int := match Cn.twiceA rs k (rs.drop k) with
  | some i => (i : Int)
  | Option.none => -1
theorem idx_hit {rs : List Rec} {k : Nat} (hk : k < rs.length) (h : ((rs.take k).any fun j => Cn.clash j (rs.getD k Cn.none)) = true) : idxT rs k = (k : Int) := by
  have e : rs.getD k Cn.none = rs[k] := by simp [List.getD, hk]
  rw [e] at h
  unfold idxT
  rw [List.drop_eq_getElem_cons hk, Cn.twiceA, if_pos h]
theorem idx_next {rs : List Rec} {k : Nat} (hk : k < rs.length) (h : ((rs.take k).any fun j => Cn.clash j (rs.getD k Cn.none)) = false) : idxT rs k = idxT rs (k + 1) := by
  have e : rs.getD k Cn.none = rs[k] := by simp [List.getD, hk]
  rw [e] at h
  unfold idxT
  rw [List.drop_eq_getElem_cons hk, Cn.twiceA, if_neg (by rw [h]; decide)]
theorem idx_end (rs : List Rec) : idxT rs rs.length = -1 := by
  unfold idxT
  rw [List.drop_length, Cn.twiceA]
theorem take_next {rs : List Rec} {k : Nat} (hk : k < rs.length) : rs.take k ++ [rs.getD k Cn.none] = rs.take (k + 1) := by
  have e : rs.getD k Cn.none = rs[k] := by simp [List.getD, hk]
  rw [e, List.take_succ_eq_append_getElem hk]
theorem enters_twice : ∀ args w, (callFunc 49 args).run Tryz.prog w = .ok (.enter 49 args) w := enters_of Tryz.func49 (by kernel_rfl) rfl
def TIn (w0 : World) (L rr : Nat) (rs : List Rec) (k : Nat) (W : World) : Prop := (∃ vs, LG W w0.heap.size L rr vs (ledF (rs.take k)) (ledC (rs.take k))) ∧ Below w0.heap.size w0 W
set_option maxRecDepth 8000 in
set_option maxHeartbeats 4000000 in
theorem indexTwice_any (L rr : Nat) (v : Value) (rs : List Rec) (w0 w : World) (hg : Glob w0) (hv : Rcs w0 v rs) (hr : ∀ r ∈ rs, Cn.right r = 0) (hlen : rs.length ≤ 4096) (hin0 : TIn w0 L rr rs 0 w) :
    Calls Tryz.prog 48 #[v, .func (.func 49) #[.pointer (some ⟨L, 0, none⟩)] #[]] w (fun e w' => e = .returned (.int .i64 (idxT rs 0)) ∧ Below w0.heap.size w0 w') := by
  have eg := enters_twice
  have HI0 := hide hin0
  have HP : Hid (∀ (k : Nat) (vt : Value) (W : World), k < rs.length → TIn w0 L rr rs k W → Calls Tryz.prog 49 #[.pointer (some ⟨L, 0, none⟩), recV (rs.getD k Cn.none) vt] W (fun e w' => e = .returned (.bool ((rs.take k).any fun j => Cn.clash j (rs.getD k Cn.none))) ∧ TIn w0 L rr rs (k + 1) w')) := fun k vt W hk hin => by
    obtain ⟨⟨vs, hlg⟩, hb⟩ := hin
    refine (twice_any (rs.getD k Cn.none) vt W w0.heap.size L rr vs (rs.take k) (hg.on hb) hlg hb.size (hv.fit hk) (fun j hj => hr j (List.mem_of_mem_take hj)) (hr _ (by simp [List.getD, hk])) (by simp; omega)).mono ?_
    rintro e w' ⟨h1, h2, h3⟩
    rw [take_next hk] at h2
    exact ⟨h1, h2, hb.trans h3⟩
  have HC : Hid (∀ W k, TIn w0 L rr rs k W → Rcs W v rs) := fun W k h => hv.below h.2
  have HB : Hid (∀ W k, TIn w0 L rr rs k W → Below w0.heap.size w0 W) := fun W k h => h.2
  obtain ⟨ao, cap, rfl, h1, h2⟩ := hv.shape
  clear hv hr hg hin0
  generalize hq : idxT rs 0 = z at *
  have HR0 := hide hq.symm
  clear hq
  go_enter Tryz.func48, Tryz.ntmps48
  go_wp2
  go_loopw [5, 8] (fun _ i wr => ∃ k : Nat, i = .int .i64 k ∧ k ≤ rs.length ∧ z = idxT rs k ∧ TIn w0 L rr rs k wr) (fun _ i _ => rs.length - (intOf i).toNat)
  case atStart => exact ⟨0, rfl, by omega, unhide HR0, unhide HI0⟩
  case round =>
    obtain ⟨k, rfl, hk, hz, hin⟩ := hrel
    clear HR0 HI0
    by_cases hlt : k < rs.length
    · have hrc := (unhide HC) wr k hin
      obtain ⟨b, off, cap', he, hc1, hc2, hc⟩ := hrc.place (by omega)
      obtain ⟨rfl, rfl⟩ : ao = some ⟨b, off, none⟩ ∧ cap = cap' := by simpa using he
      obtain ⟨x0, x1, x2, x3, ⟨vt, x4, sk⟩, x5, x6, x7⟩ := hc k hlt
      have HV := hide ((unhide HP) k vt wr hlt hin)
      have HH : Hid (((rs.take k).any fun j => Cn.clash j (rs.getD k Cn.none)) = true → z = (k : Int)) := fun h => hz.trans (idx_hit hlt h)
      have HN : Hid (((rs.take k).any fun j => Cn.clash j (rs.getD k Cn.none)) = false → z = idxT rs (k + 1)) := fun h => hz.trans (idx_next hlt h)
      obtain ⟨tp, tc, rfl, _, _⟩ := sk.shape
      clear hz hin hc he sk HP hrc HC
      unfold recV at HV
      generalize ((rs.take k).any fun j => Cn.clash j (rs.getD k Cn.none)) = y at HV HH HN
      generalize (rs.getD k Cn.none).kind = kd at *
      generalize (rs.getD k Cn.none).lo = lo at *
      generalize (rs.getD k Cn.none).hi = hi at *
      generalize (rs.getD k Cn.none).n = n at *
      generalize (rs.getD k Cn.none).name = nm at *
      generalize (rs.getD k Cn.none).other = ot at *
      generalize (rs.getD k Cn.none).wt = wt at *
      generalize (rs.getD k Cn.none).to.length = tl at *
      cases y with
      | true =>
        obtain rfl := (unhide HH) rfl
        clear HH HN
        go_wp2_with (go_at_fn 49; refine (unhide HV).mono ?_; rintro e w1 ⟨rfl, hb1⟩)
        have HF := hide ((unhide HB) w1 _ hb1)
        clear HV HB
        go_ret
        exact ⟨rfl, unhide HF⟩
      | false =>
        have HN2 := hide ((unhide HN) rfl)
        clear HH HN HB
        go_wp2_with (go_at_fn 49; refine (unhide HV).mono ?_; rintro e w1 ⟨rfl, hb1⟩)
        have HF := hide hb1
        clear HV hb1
        go_round
        case rel => exact ⟨k + 1, by go_num, by omega, unhide HN2, unhide HF⟩
        case measure => simp [intOf]; omega
    · obtain rfl : k = rs.length := by omega
      obtain rfl := hz.trans (idx_end rs)
      have HF := hide hin.2
      clear hz hin HP HC HB
      go_wp2
      go_ret
      exact ⟨rfl, unhide HF⟩
theorem make_map (w : World) : (Instr.makeMap 93 none).run Tryz.prog w = .ok (.map (some w.heap.size)) (w.alloc (.map #[] 0)) := by kernel_rfl
def ledRow (r : Nat) : Array Value := #[.slice none 0 0, .slice none 0 0, .slice none 0 0, .slice none 0 0, .slice none 0 0, .slice none 0 0, .slice none 0 0, .slice none 0 0, .slice none 0 0, .slice none 0 0, .slice none 0 0, .map (some r)]
theorem led_new (w : World) : LG ((w.alloc (.map #[] 0)).alloc (.cells (ledRow w.heap.size) 97)) w.heap.size (w.heap.size + 1) w.heap.size (fun _ => .slice none 0 0) (ledF []) (ledC []) := by
  have h1 : ((w.alloc (.map #[] 0)).alloc (.cells (ledRow w.heap.size) 97)).heap[w.heap.size + 1]? = some (.cells (ledRow w.heap.size) 97 (0, 0)) := by
    show ((w.heap.push _).push _)[w.heap.size + 1]? = _
    rw [Array.getElem?_push]
    simp
  have h2 : ((w.alloc (.map #[] 0)).alloc (.cells (ledRow w.heap.size) 97)).heap[w.heap.size]? = some (.map #[] 0) := by
    show ((w.heap.push _).push _)[w.heap.size]? = _
    rw [Array.getElem?_push_lt (by simp)]
    simp
  refine ⟨by omega, Nat.le_refl _, by omega, ⟨ledRow w.heap.size, h1, rfl, fun f hf => ?_, rfl⟩, ⟨#[], 0, h2, ⟨MapKept.stamped_empty 0, fun x hx => by simp at hx, fun a b _ => rfl⟩⟩, fun f _ => ⟨by simp [ledF], World.ownsRow_nil _ _ _ _⟩, fun f _ k hk => (by cases hk), fun f g _ _ _ k hk => (by cases hk)⟩
  obtain rfl | rfl | rfl | rfl | rfl | rfl | rfl | rfl | rfl | rfl | rfl : f = 0 ∨ f = 1 ∨ f = 2 ∨ f = 3 ∨ f = 4 ∨ f = 5 ∨ f = 6 ∨ f = 7 ∨ f = 8 ∨ f = 9 ∨ f = 10 := by omega
  all_goals rfl
def firstT (rs : List Rec) : Nat × Int := match Cn.twiceA rs 0 rs with | some i => (i, 62) | Option.none => (0, 0)
set_option maxRecDepth 8000 in
set_option maxHeartbeats 4000000 in
theorem firstTwice_any (v : Value) (rs : List Rec) (w : World) (hg : Glob w) (hv : Rcs w v rs) (hr : ∀ r ∈ rs, Cn.right r = 0) (hlen : rs.length ≤ 4096) : Calls Tryz.prog 32 #[v] w (PairIB w (firstT rs)) := by
  have hmk := make_map
  have hb0 := below2 w (.map #[] 0) (.cells (ledRow w.heap.size) 97)
  have K := hide (indexTwice_any (w.heap.size + 1) w.heap.size v rs w _ hg hv hr hlen ⟨⟨_, led_new w⟩, hb0⟩)
  have HX : Hid (idxT rs 0 = match Cn.twiceA rs 0 rs with | some i => (i : Int) | Option.none => -1) := by
    show idxT rs 0 = _
    unfold idxT
    rw [List.drop_zero]
  obtain ⟨ao, cap, rfl, h1, h2⟩ := hv.shape
  clear hv hg hr
  unfold firstT
  generalize idxT rs 0 = z at *
  unfold ledRow at *
  cases ht : Cn.twiceA rs 0 rs with
  | some i =>
    rw [ht] at HX
    obtain rfl : z = (i : Int) := unhide HX
    clear HX ht
    go_enter Tryz.func32, Tryz.ntmps32
    go_wp2_with fail
    refine (unhide K).mono ?_
    rintro e w1 ⟨rfl, hb1⟩
    clear K
    go_wp2
    go_ret2
    exact ⟨rfl, hb1⟩
  | none =>
    rw [ht] at HX
    obtain rfl : z = -1 := unhide HX
    clear HX ht
    go_enter Tryz.func32, Tryz.ntmps32
    go_wp2_with fail
    refine (unhide K).mono ?_
    rintro e w1 ⟨rfl, hb1⟩
    clear K
    go_wp2
    go_ret2
    exact ⟨rfl, hb1⟩
/-- 6.3. -/
def CheckT : Prop := ∀ (v : Value) (rs : List Rec) (w : World), Glob w → Rcs w v rs → Calls Tryz.prog 19 #[v] w (PairIB w (Cn.check6 rs))
theorem check6_parts (rs : List Rec) : Cn.check6 rs = if (firstW rs).2 ≠ 0 then firstW rs else firstT rs := by
  unfold Cn.check6 firstW firstT
  split
  · rfl
  · cases h : Cn.rightA 0 rs with
    | some x => simp only; rw [if_pos (Cn.rightA_err _ _ _ h)]
    | none => simp only; rw [if_neg (by simp)]; rfl
theorem firstW_ok {rs : List Rec} (h : (firstW rs).2 = 0) : (∀ r ∈ rs, Cn.right r = 0) ∧ rs.length ≤ 4096 := by
  unfold firstW at h
  split at h
  · exact absurd h (by decide)
  · next hl =>
    cases e : Cn.rightA 0 rs with
    | some x => rw [e] at h; exact absurd h (Cn.rightA_err _ _ _ e)
    | none => exact ⟨Cn.rightA_all _ _ e, by omega⟩
set_option maxRecDepth 8000 in
set_option maxHeartbeats 4000000 in
theorem check_any : CheckT := by
  intro v rs w hg hv
  have K1 := hide (firstWrong_any v rs w hg hv)
  have K2 : Hid ((firstW rs).2 = 0 → ∀ W, Below w.heap.size w W → Calls Tryz.prog 32 #[v] W (PairIB W (firstT rs))) := fun h W hb => firstTwice_any v rs W (hg.on hb) (hv.below hb) (firstW_ok h).1 (firstW_ok h).2
  rw [check6_parts]
  obtain ⟨ao, cap, rfl, h1, h2⟩ := hv.shape
  clear hv hg
  generalize firstW rs = x at *
  generalize firstT rs = y at *
  obtain ⟨xi, xe⟩ := x
  obtain ⟨yi, ye⟩ := y
  by_cases he : xe = 0
  · subst he
    rw [if_neg (by simp)]
    go_enter Tryz.func19, Tryz.ntmps19
    go_wp2_with fail
    refine (unhide K1).mono ?_
    rintro e w1 ⟨rfl, hb1⟩
    have J := hide ((unhide K2) trivial w1 hb1)
    clear K1 K2
    go_wp2_with fail
    refine (unhide J).mono ?_
    rintro e w2 ⟨rfl, hb2⟩
    have HF := hide (bthen hb1 hb2)
    clear J hb1 hb2
    go_wp2
    go_ret2
    exact ⟨rfl, unhide HF⟩
  · rw [if_pos (by simpa using he)]
    have d1 : (xe != 0) = true := by simp [he]
    have d2 : (xe == 0) = false := beq_eq_false_iff_ne.2 he
    clear K2
    go_enter Tryz.func19, Tryz.ntmps19
    go_wp2_with fail
    refine (unhide K1).mono ?_
    rintro e w1 ⟨rfl, hb1⟩
    clear K1
    go_wp2
    go_ret2
    exact ⟨rfl, hb1⟩
end Go.Proofs.YtlmcmlbmnnjjpaaGreatDoor
