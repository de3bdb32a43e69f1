/- The contract of wire.Joined. -/
import Derived.Test.YtmdbdfigpccbpaaSum
import Derived.Test.YtmdbdfigpccbpaaConv
import Derived.Lib.AppendZerosOnto
namespace Go.Proofs.Ytmdbdfigpccbpaa
open Go.RowKit

theorem Pa.below {w w' : World} {v : Value} {ls : List (List Int)} (h : Pa w v ls) (hb : Below w.heap.size w w') : Pa w' v ls := by
  refine ⟨h.1, ?_⟩
  rcases h.2 with h2 | ⟨b, off, cap, hv, hl, hc⟩
  · exact .inl h2
  · refine .inr ⟨b, off, cap, hv, hl, fun i hi => ?_⟩
    obtain ⟨u, hu, hs⟩ := hc i hi
    exact ⟨u, by rw [hb.cell (lt_of_cell? hu)]; exact hu, hs.below hb⟩

/-- A built-in append whose run is known. -/
theorem wpList_append_run {P : Program} {w : World} {ops : Array Oper} {rest : List Oper} {o : Oper} {a : Act} {Q : Exit → Act → World → Prop} (hgd : o.guard = none) (s x : Operand) (t u : TypeId)
    (ho : o.op = .call { callee := .builtin .append, args := #[s, x], argTypes := #[t, u] }) (vs vx v' : Value) (w' : World) (hs : a.eval s = vs) (hx : a.eval x = vx)
    (hr : (Builtin.append_ #[t, u] o.type #[vs, vx]).run P w = .ok v' w') (h : wpList P ops Q rest (a.put o.dst v') w') : wpList P ops Q (o :: rest) a w := by
  refine wpList_plain hgd fun K hK => ?_
  unfold Oper.wp execOp
  simp only [ho, resolve, invoke, builtin, Sem.run_bind, Sem.run_pure, Result.andThen_ok, List.map_toArray, List.map_cons, List.map_nil, hs, hx, hr]
  exact hK _ _ h

set_option maxHeartbeats 1000000 in
theorem grow_nil (n : Nat) (w : World) (hn : n ≤ 140737488355328) :
    Calls Try.prog 38 #[.slice none 0 0, .int .i64 n] w fun e w' => ∃ v, e = .returned v ∧ w'.ownsRow w.heap.size 5 1 v 0 [] ∧ Below w.heap.size w w' := by
  rcases Nat.eq_zero_or_pos n with h0 | h0
  · subst h0
    go_enter Try.func38, Try.ntmps38
    go_wp2
    go_ret
    exact ⟨_, rfl, World.ownsRow_nil _ _ _ _, Below.refl _ _⟩
  · obtain ⟨i0, hi, hz0, hz1, hz2⟩ := info_parts Try.info5
    have hrz := fun ty => Lib.run_append_grow_zeros (P := Try.prog) w 22 3 ty 5 i0 (.int .u8 0) .i64 .i64 Try.underlying22 Try.underlying3 hi hz0 none 0 0 [] (run_firstCells_none w.drew i0.size 0 0 0) n h0 (by omega) (by omega) (by omega) (by rw [hz2]; omega) (by rw [hz2]; exact growslice_fits (by omega) (by omega))
    have hge := grownCap_ge w (0 + n) 0 5
    have hcm := grownCap_le_maxLen w (0 + n) 0 5 (by unfold maxLen; omega)
    have R : (w.drew.alloc (.cells (([] : List Value).toArray ++ Builtin.zeroCells (Value.int .u8 0).cells n ++ Builtin.zeroCells (Value.int .u8 0).cells (grownCap w (0 + n) 0 5 - (0 + n))) 5)).ownsRow w.heap.size 5 1 (.slice (some ⟨w.heap.size, 0, none⟩) 0 (grownCap w (0 + n) 0 5)) 0 [] := by
      refine World.ownsRow_made w.drew _ _ (Nat.le_refl _) hcm ?_
      have hz1 : (Value.int IntKind.u8 0).cells.size = 1 := rfl
      simp only [Array.size_append, List.size_toArray, size_zeroCells, hz1, List.length_nil]
      omega
    have R2 : Below w.heap.size w (w.drew.alloc (.cells (([] : List Value).toArray ++ Builtin.zeroCells (Value.int .u8 0).cells n ++ Builtin.zeroCells (Value.int .u8 0).cells (grownCap w (0 + n) 0 5 - (0 + n))) 5)) :=
      (Below.refl w.heap.size w).drew.alloc (Nat.le_refl _) _
    generalize w.drew.alloc (.cells (([] : List Value).toArray ++ Builtin.zeroCells (Value.int .u8 0).cells n ++ Builtin.zeroCells (Value.int .u8 0).cells (grownCap w (0 + n) 0 5 - (0 + n))) 5) = w1 at *
    generalize grownCap w (0 + n) 0 5 = cp at *
    simp only [Nat.zero_add] at hrz hge
    unfold maxLen at hcm
    clear hi hz0 hz1 hz2
    go_enter Try.func38, Try.ntmps38
    go_wp2_with (at_builtin; refine wpList_append_run rfl (.tmp 20) (.tmp 21) 22 3 rfl (.slice none 0 0) (.int .i64 n) _ _ rfl rfl (hrz _) ?_)
    all_goals
      go_ret
      exact ⟨_, rfl, R, R2⟩

theorem flat_le (ls : List (List Int)) (k : Nat) : (ls.take k).flatten.length ≤ ls.flatten.length := by
  have h : ls.flatten = (ls.take k).flatten ++ (ls.drop k).flatten := by rw [← List.flatten_append, List.take_append_drop]
  rw [h, List.length_append]; omega

set_option maxHeartbeats 400000 in
theorem concat_any (v : Value) (ls : List (List Int)) (w : World) (hs : Pa w v ls) (hby : ∀ l ∈ ls, Byt l) (htot : ls.flatten.length ≤ 140737488355328) :
    Calls Try.prog 37 #[v] w fun e w' => ∃ v', e = .returned v' ∧ Own w' w.heap.size v' ls.flatten ∧ Below w.heap.size w w' := by
  have hl := hs.1
  have hs0 := hs
  have htot0 := htot
  obtain ⟨i0, hi, hz0, hz1, hz2⟩ := info_parts Try.info5
  rcases hs.2 with ⟨rfl, ao, cap, rfl⟩ | ⟨b, off, cap, rfl, hcap, hc⟩
  · have HG := hide (grow_nil 0 w (by omega))
    go_enter Try.func37, Try.ntmps37
    go_wp2
    refine wp_loop_rounds 1 ?_
    rw [rounds_succ]
    go_wp2_with fail
    refine (unhide HG).mono ?_
    rintro e w1 ⟨v1, rfl, ho1, hb1⟩
    go_wp2
    refine wp_loop_rounds 1 ?_
    rw [rounds_succ]
    go_wp2
    go_ret
    exact ⟨_, rfl, ⟨Byt.nil, by simp, ho1⟩, hb1⟩
  · go_enter Try.func37, Try.ntmps37
    go_wp2
    go_loop [3, 11] (fun n i => ∃ k : Nat, k ≤ ls.length ∧ i = .int .i64 k ∧ n = .int .i64 ((ls.take k).flatten.length : Nat)) (fun _ i => ls.length - (intOf i).toNat)
    case atStart => exact ⟨0, by omega, rfl, rfl⟩
    case round =>
      obtain ⟨k, hk, rfl, rfl⟩ := hrel
      by_cases hlt : k < ls.length
      · obtain ⟨u, hcell, hu⟩ := hc k hlt
        have HS := hide (show (ls.take (k + 1)).flatten.length = (ls.take k).flatten.length + (ls.getD k []).length by rw [takes_snoc ls k hlt, List.length_append])
        have hb1 := flat_le ls (k + 1)
        rw [unhide HS] at hb1
        clear hc hby hs hs0
        generalize ls.getD k [] = zs at *
        generalize (ls.take k).flatten.length = m at *
        obtain ⟨ao2, cap2, rfl, _, _⟩ := hu.shape
        go_wp2
        go_round
        case rel => exact ⟨k + 1, by omega, by go_num, val_int (by rw [unhide HS]; omega)⟩
        case measure => simp [intOf]; omega
      · have hk' : ls.take k = ls := List.take_of_length_le (by omega)
        rw [hk']
        have HG := hide (grow_nil ls.flatten.length w htot)
        clear hk'
        generalize ls.flatten.length = T at HG ⊢
        go_wp2_with fail
        refine (unhide HG).mono ?_
        rintro e w1 ⟨v1, rfl, ho1, hb1⟩
        clear hc HG
        go_wp2
        go_loopw [6, 27] (fun v i wr => ∃ k : Nat, k ≤ ls.length ∧ i = .int .i64 k ∧ wr.ownsRow w.heap.size 5 1 v (ls.take k).flatten.length ((ls.take k).flatten.map (Value.int .u8)) ∧ Below w.heap.size w wr) (fun _ i _ => ls.length - (intOf i).toNat)
        case atStart => exact ⟨0, by omega, rfl, ho1, hb1⟩
        case round =>
          obtain ⟨k, hk, rfl, hown, hb⟩ := hrel
          have hsz := hb.size
          by_cases hlt2 : k < ls.length
          · obtain ⟨hq, hq2⟩ := hs0.below hb
            rcases hq2 with ⟨rfl, _⟩ | ⟨b', off', cap', hv', hcap', hc'⟩
            · simp at hlt2
            simp only [Value.slice.injEq, Option.some.injEq, Addr.mk.injEq, and_true, true_and] at hv'
            obtain ⟨⟨rfl, rfl⟩, rfl⟩ := hv'
            obtain ⟨u, hcell, hu⟩ := hc' k hlt2
            have HS := hide (takes_snoc ls k hlt2)
            have HT := flat_le ls (k + 1)
            rw [unhide HS, List.length_append] at HT
            have HR : ∀ (v' : Value) (w2 : World), w2.ownsRow w.heap.size 5 1 v' ((ls.take k).flatten.length + (ls.getD k []).length) ((ls.take k).flatten.map (Value.int .u8) ++ (ls.getD k []).map (Value.int .u8)) → w2.ownsRow w.heap.size 5 1 v' (ls.take (k + 1)).flatten.length ((ls.take (k + 1)).flatten.map (Value.int .u8)) := by
              intro v' w2 h
              rw [unhide HS, List.length_append, List.map_append]
              exact h
            have HRH := hide HR
            have hTB : (ls.take k).flatten.length + (ls.getD k []).length ≤ 140737488355328 := by
              have := htot0
              omega
            clear hc' hby hs hs0 HR HT HS
            generalize ls.getD k [] = zs at *
            have HRW := fun v' w2 => hide ((unhide HRH) v' w2)
            generalize (ls.take k).flatten = xs at *
            rcases hu.src with ⟨rfl, rfl⟩ | ⟨ad, cap2, rfl, hsrc⟩
            · have R := unhide (HRW _ wr) (by simpa using hown)
              go_wp2_with (at_builtin; refine wpList_append_own_none rfl (.tmp 31) (.tmp 32) 22 rfl w.heap.size 5 i0 1 Try.underlying22 hi _ _ _ rfl hown rfl ?_)
              go_roundw
              case rel => exact ⟨k + 1, by omega, by go_num, R, hb⟩
              case measure => simp [intOf]; omega
            · go_wp2_with (at_builtin; refine wpList_append_own _ rfl (.tmp 31) (.tmp 32) 22 rfl w.heap.size 5 i0 (.int .u8 0) 1 1 Try.underlying22 hi hz0 hz1 hz2 rfl (by decide) _ _ _ rfl hown ad zs.length cap2 (zs.map (Value.int .u8)) rfl (by simp) hsrc (ints_one zs) (by unfold maxLen; omega) (by omega) hsz ?_)
              intro v' w2 hown2 hg2 _
              have R := unhide (HRW _ w2) hown2
              have R2 : Below w.heap.size w w2 := hb.grown hg2 hsz (fun k hk => (hown.lt k hk).1)
              clear hown2 hg2 hown hb
              go_wp2
              go_roundw
              case rel => exact ⟨k + 1, by omega, by go_num, R, R2⟩
              case measure => simp [intOf]; omega
          · have hk2 : ls.take k = ls := List.take_of_length_le (by omega)
            rw [hk2] at hown
            have R : Own wr w.heap.size u6 ls.flatten := ⟨fun z hz => by
              obtain ⟨l, hl1, hl2⟩ := List.mem_flatten.1 hz
              exact hby l hl1 z hl2, htot0, hown⟩
            clear hown hk2
            go_wp2
            go_ret
            exact ⟨_, rfl, R, hb⟩

theorem joined_any (v : Value) (ls : List (List Int)) (w : World) (hs : Pa w v ls) (hby : ∀ l ∈ ls, Byt l) (htot : ls.flatten.length ≤ 140737488355328) :
    Calls Try.prog 28 #[v] w fun e w' => ∃ v', e = .returned v' ∧ Own w' w.heap.size v' ls.flatten ∧ Below w.heap.size w w' := by
  have HC := hide (concat_any v ls w hs hby htot)
  generalize ls.flatten = zs at *
  rcases hs.2 with ⟨rfl, ao, cap, rfl⟩ | ⟨b, off, cap, rfl, hcap, hc⟩
  · go_enter Try.func28, Try.ntmps28
    go_wp2_with fail
    refine (unhide HC).mono ?_
    rintro e w1 ⟨v1, rfl, ho, hb⟩
    go_wp2
    go_ret
    exact ⟨_, rfl, ho, hb⟩
  · clear hc
    go_enter Try.func28, Try.ntmps28
    go_wp2_with fail
    refine (unhide HC).mono ?_
    rintro e w1 ⟨v1, rfl, ho, hb⟩
    go_wp2
    go_ret
    exact ⟨_, rfl, ho, hb⟩
end Go.Proofs.Ytmdbdfigpccbpaa
