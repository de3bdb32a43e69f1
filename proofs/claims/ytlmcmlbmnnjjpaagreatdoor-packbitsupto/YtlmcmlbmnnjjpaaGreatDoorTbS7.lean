/- Runs in memory; slices.ContainsFunc over them. -/
import Derived.Test.YtlmcmlbmnnjjpaaGreatDoorTbR7
namespace Go.Proofs.YtlmcmlbmnnjjpaaGreatDoor
open Go.RowKit

structure RnAt (w : World) (b o : Nat) (x : Run) : Prop where
  lo : w.cell? ⟨b, o, none⟩ = some (.int .i64 x.lo)
  hi : w.cell? ⟨b, o + 1, none⟩ = some (.int .i64 x.hi)
  s : w.cell? ⟨b, o + 2, none⟩ = some (.int .i64 x.s)
theorem RnAt.below {w w' : World} {b o : Nat} {x : Run} (h : RnAt w b o x) (hb : Below w.heap.size w w') : RnAt w' b o x :=
  ⟨by rw [hb.cell (lt_of_cell? h.lo)]; exact h.lo, by rw [hb.cell (lt_of_cell? h.hi)]; exact h.hi, by rw [hb.cell (lt_of_cell? h.s)]; exact h.s⟩
/-- The slice value v holds the runs xs. -/
def Rns (w : World) (v : Value) (xs : List Run) : Prop := xs.length ≤ 1000000000 ∧
  ((xs = [] ∧ ∃ ao cap, v = .slice ao 0 cap ∧ cap ≤ 9223372036854775807) ∨
    ∃ b off cap, v = .slice (some ⟨b, off, none⟩) xs.length cap ∧ xs.length ≤ cap ∧ cap ≤ 9223372036854775807 ∧ ∀ i, i < xs.length → RnAt w b (off + i * 3) (xs.getD i Run.none))
theorem Rns.below {w w' : World} {v : Value} {xs : List Run} (h : Rns w v xs) (hb : Below w.heap.size w w') : Rns w' v xs := by
  obtain ⟨h1, h3⟩ := h
  refine ⟨h1, ?_⟩
  rcases h3 with h3 | ⟨b, off, cap, hv, hl, hm, hc⟩
  · exact .inl h3
  · exact .inr ⟨b, off, cap, hv, hl, hm, fun i hi => (hc i hi).below hb⟩
theorem Rns.shape {w : World} {v : Value} {xs : List Run} (h : Rns w v xs) : ∃ ao cap, v = .slice ao xs.length cap ∧ xs.length ≤ cap ∧ cap ≤ 9223372036854775807 := by
  rcases h.2 with ⟨rfl, ao, cap, hv, hm⟩ | ⟨b, off, cap, hv, hl, hm, _⟩
  · exact ⟨ao, cap, hv, by simp, hm⟩
  · exact ⟨_, cap, hv, hl, hm⟩
theorem Rns.place {w : World} {v : Value} {xs : List Run} (h : Rns w v xs) (hne : 0 < xs.length) : ∃ b off cap, v = .slice (some ⟨b, off, none⟩) xs.length cap ∧ xs.length ≤ cap ∧ cap ≤ 9223372036854775807 ∧ ∀ i, i < xs.length → RnAt w b (off + i * 3) (xs.getD i Run.none) := by
  rcases h.2 with ⟨rfl, _⟩ | h
  · simp at hne
  · exact h
def fbN (p : Run → Bool) : Nat → List Run → Int
  | _, [] => -1
  | i, r :: l => if p r then (i : Int) else fbN p (i + 1) l
theorem fbN_hit {p : Run → Bool} {rs : List Run} {k : Nat} {x : Int} (hk : k < rs.length) (h : x = fbN p k (rs.drop k)) (hp : p (rs.getD k Run.none) = true) : x = (k : Int) := by
  rw [h, List.drop_eq_getElem_cons hk, fbN, if_pos]
  simpa [List.getD, hk] using hp
theorem fbN_next {p : Run → Bool} {rs : List Run} {k : Nat} {x : Int} (hk : k < rs.length) (h : x = fbN p k (rs.drop k)) (hp : p (rs.getD k Run.none) = false) : x = fbN p (k + 1) (rs.drop (k + 1)) := by
  rw [h, List.drop_eq_getElem_cons hk, fbN, if_neg]
  have : p rs[k] = false := by simpa [List.getD, hk] using hp
  simp [this]
theorem fbN_end {p : Run → Bool} {rs : List Run} {x : Int} (h : x = fbN p rs.length (rs.drop rs.length)) : x = -1 := by
  rw [h, List.drop_length, fbN]
theorem fbN_any (p : Run → Bool) : ∀ (l : List Run) (i : Nat), decide (0 ≤ fbN p i l) = l.any p
  | [], i => rfl
  | r :: l, i => by
    rw [fbN, List.any_cons]
    cases hp : p r with
    | true => simp
    | false => simpa using fbN_any p l (i + 1)
theorem enters_meets : ∀ args w, (callFunc 75 args).run Tryz.prog w = .ok (.enter 75 args) w := enters_of Tryz.func75 (by kernel_rfl) rfl
def NIn (w : World) (v : Value) (xs : List Run) (W : World) : Prop := Rns W v xs ∧ Below w.heap.size w W
theorem NIn.on {w W W' : World} {v : Value} {xs : List Run} (h : NIn w v xs W) (hb : Below W.heap.size W W') : NIn w v xs W' := ⟨h.1.below hb, h.2.trans (hb.mono h.2.size)⟩
set_option maxRecDepth 8000 in
set_option maxHeartbeats 4000000 in
theorem indexRuns_any (x : Run) (v : Value) (xs : List Run) (w : World) (hv : Rns w v xs) (hx : x.ok) (hxs : ∀ y ∈ xs, y.ok) :
    Calls Tryz.prog 107 #[v, .func (.func 75) #[x.val] #[]] w (IntB w (fbN (fun y => x.meets y) 0 xs)) := by
  have eg := enters_meets
  have HI0 : Hid (NIn w v xs w) := ⟨hv, Below.refl _ _⟩
  have HP : Hid (∀ k W, k < xs.length → Calls Tryz.prog 75 #[x.val, (xs.getD k Run.none).val] W (BoolB W (x.meets (xs.getD k Run.none)))) := fun k W hk => meets_any _ _ _ _ _ _ W hx (hxs _ (by simp [List.getD, hk]))
  have HR0 : Hid (fbN (fun y => x.meets y) 0 xs = fbN (fun y => x.meets y) 0 (xs.drop 0)) := by rw [List.drop_zero]; rfl
  have hlen := hv.1
  obtain ⟨ao, cap, rfl, h1, h2⟩ := hv.shape
  clear hv hx hxs
  unfold Run.val runV at *
  generalize hq : fbN (fun y => x.meets y) 0 xs = z at *
  clear hq
  go_enter Tryz.func107, Tryz.ntmps107
  go_wp2
  go_loopw [5, 8] (fun _ i wr => ∃ k : Nat, i = .int .i64 k ∧ k ≤ xs.length ∧ z = fbN (fun y => x.meets y) k (xs.drop k) ∧ NIn w (.slice ao xs.length cap) xs wr) (fun _ i _ => xs.length - (intOf i).toNat)
  case atStart => exact ⟨0, rfl, by omega, unhide HR0, unhide HI0⟩
  case round =>
    obtain ⟨k, rfl, hk, hr, hin⟩ := hrel
    clear HR0 HI0
    by_cases hlt : k < xs.length
    · obtain ⟨b, off, cap', he, hc1, hc2, hc⟩ := hin.1.place (by omega)
      obtain ⟨rfl, rfl⟩ : ao = some ⟨b, off, none⟩ ∧ cap = cap' := by simpa using he
      obtain ⟨x0, x1, x2⟩ := hc k hlt
      have HV := hide ((unhide HP) k wr hlt)
      have HH : Hid (x.meets (xs.getD k Run.none) = true → z = (k : Int)) := fun h => fbN_hit hlt hr h
      have HN : Hid (x.meets (xs.getD k Run.none) = false → z = fbN (fun y => x.meets y) (k + 1) (xs.drop (k + 1))) := fun h => fbN_next hlt hr h
      have HIN := hide hin
      clear hr hin hc he HP
      generalize x.meets (xs.getD k Run.none) = y at HV HH HN
      generalize (xs.getD k Run.none).lo = lo at *
      generalize (xs.getD k Run.none).hi = hi at *
      generalize (xs.getD k Run.none).s = st at *
      cases y with
      | true =>
        obtain rfl := (unhide HH) rfl
        clear HH HN
        go_wp2_with (go_at_fn 75; refine (unhide HV).mono ?_; rintro e w1 ⟨rfl, hb1⟩)
        have HF := hide ((unhide HIN).on hb1).2
        clear HV HIN
        go_ret
        exact ⟨rfl, unhide HF⟩
      | false =>
        have HN2 := hide ((unhide HN) rfl)
        clear HH HN
        go_wp2_with (go_at_fn 75; refine (unhide HV).mono ?_; rintro e w1 ⟨rfl, hb1⟩)
        have HF := hide ((unhide HIN).on hb1)
        clear HV HIN
        go_round
        case rel => exact ⟨k + 1, by go_num, by omega, unhide HN2, unhide HF⟩
        case measure => simp [intOf]; omega
    · obtain rfl : k = xs.length := by omega
      obtain rfl := fbN_end hr
      have HF := hide hin.2
      clear hr hin HP
      go_wp2
      go_ret
      exact ⟨rfl, unhide HF⟩
set_option maxRecDepth 8000 in
theorem containsRuns_any (x : Run) (v : Value) (xs : List Run) (w : World) (hv : Rns w v xs) (hx : x.ok) (hxs : ∀ y ∈ xs, y.ok) :
    Calls Tryz.prog 74 #[v, .func (.func 75) #[x.val] #[]] w (BoolB w (xs.any fun y => x.meets y)) := by
  have K := hide (indexRuns_any x v xs w hv hx hxs)
  rw [← fbN_any _ xs 0]
  obtain ⟨ao, cap, rfl, h1, h2⟩ := hv.shape
  clear hv hx hxs
  generalize fbN (fun y => x.meets y) 0 xs = z at *
  unfold Run.val runV at *
  go_enter Tryz.func74, Tryz.ntmps74
  go_wp2_with fail
  refine (unhide K).mono ?_
  rintro e w1 ⟨rfl, hb1⟩
  clear K
  go_wp2
  go_ret
  exact ⟨rfl, hb1⟩
end Go.Proofs.YtlmcmlbmnnjjpaaGreatDoor
