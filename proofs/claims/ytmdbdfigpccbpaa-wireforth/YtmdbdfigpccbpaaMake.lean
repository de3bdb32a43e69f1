/- The contracts of what makes bytes: wire.Uint and the document's Uint. -/
import Derived.Test.YtmdbdfigpccbpaaRead
import Derived.Lib.AppendStr
namespace Go.Proofs.Ytmdbdfigpccbpaa
open Go.RowKit

theorem Try.info5 : (Try.prog.info? 5).map (fun i => (i.zero, i.size, i.bytes)) = some (some (.int .u8 0), 1, 1) := by kernel_rfl

/-- The slice v, whose array the call has made (blocks from base on), holds the bytes zs. -/
def Own (w : World) (base : Nat) (v : Value) (zs : List Int) : Prop :=
  Byt zs ∧ zs.length ≤ 140737488355328 ∧ w.ownsRow base 5 1 v zs.length (zs.map (Value.int .u8))

theorem Own.sl {w : World} {base : Nat} {v : Value} {zs : List Int} (h : Own w base v zs) : Sl w v zs := by
  obtain ⟨h1, h2, h3⟩ := h
  have h3' := h3
  obtain ⟨_, hcase⟩ := h3
  refine ⟨h1, h2, ?_⟩
  rcases hcase with ⟨rfl, h0⟩ | ⟨g, cap, cur, hv, hg, hh, hn, hcap, hsz, htake⟩
  · exact .inl ⟨List.eq_nil_of_length_eq_zero h0, none, 0, rfl, by omega, fun _ => rfl⟩
  · refine .inr ⟨g, 0, cap, hv, hn, by unfold maxLen at hcap; omega, fun i hi => ?_⟩
    subst hv
    have := h3'.cellAt i (by omega)
    rw [Nat.zero_add]
    rw [this]
    simp [List.getD, hi]

theorem Byt.snoc {zs : List Int} (h : Byt zs) {c : Int} (h0 : 0 ≤ c) (h1 : c ≤ 255) : Byt (zs ++ [c]) := by
  intro z hz
  rcases List.mem_append.1 hz with hz | hz
  · exact h z hz
  · simp at hz; subst hz; exact ⟨h0, h1⟩

theorem Byt.nil : Byt [] := by intro z h; cases h

set_option maxRecDepth 100000 in
theorem u8_or128' (x : Int) : bits .or .u8 (x % 256) 128 = x % 128 + 128 := by
  rw [u8_or _ _ (by omega) (by omega) (by decide) (by decide)]
  have hx : (x % 256).toNat < 256 := by omega
  have : ∀ y : Nat, y < 256 → (y ||| 128 : Nat) = y % 128 + 128 := by decide
  show (((x % 256).toNat ||| 128 : Nat) : Int) = _
  rw [this _ hx]; omega

theorem one_u8 (c : Int) : ∀ u ∈ [Value.int .u8 c], u.oneCell' = true := by intro u hu; simp at hu; subst hu; rfl

theorem ub_step (f : Nat) (x : Int) (h : ¬ x < 128) : Ref.ub (f + 1) x = (x % 128 + 128) :: Ref.ub f (x / 128) := by simp [Ref.ub, h]
theorem ub_stop (f : Nat) (x : Int) (h : x < 128) : Ref.ub f x = [x] := by cases f <;> simp [Ref.ub, h]

theorem below_append {w wr w1 : World} {v : Value} {zs : List Int} {o : Obj} {B : Nat} (hB : B ≤ wr.heap.size) (hown : wr.ownsRow B 5 1 v zs.length (zs.map (Value.int .u8)))
    (hbel : Below B w wr) (hg : (wr.alloc o).grownBy w1 v.ownBlock) : Below B w w1 :=
  (hbel.alloc hB o).grown hg (by simp; omega) (fun k hk => (hown.lt k hk).1)

theorem uint_round {w wr w1 : World} {v v' : Value} {zs : List Int} {x n : Int} {o : Obj} (hge : 128 ≤ x) (hbt : Byt zs) (hz8 : zs.length ≤ 8) (hx : x < 2 ^ (7 * (9 - zs.length)))
    (hub : Ref.ub 8 n = zs ++ Ref.ub (8 - zs.length) x) (hxn : x ≤ n) (hsz : w.heap.size ≤ wr.heap.size) (hown : wr.ownsRow w.heap.size 5 1 v zs.length (zs.map (Value.int .u8))) (hbel : Below w.heap.size w wr)
    (hown' : w1.ownsRow w.heap.size 5 1 v' (zs.length + 1) (zs.map (Value.int .u8) ++ [.int .u8 (x % 128 + 128)])) (hg : (wr.alloc o).grownBy w1 v.ownBlock) :
    0 ≤ x / 128 ∧ x / 128 ≤ n ∧ (zs ++ [x % 128 + 128]).length ≤ 8 ∧ x / 128 < 2 ^ (7 * (9 - (zs ++ [x % 128 + 128]).length)) ∧
      w1.ownsRow w.heap.size 5 1 v' (zs ++ [x % 128 + 128]).length ((zs ++ [x % 128 + 128]).map (Value.int .u8)) ∧ Byt (zs ++ [x % 128 + 128]) ∧ Below w.heap.size w w1 ∧
      Ref.ub 8 n = (zs ++ [x % 128 + 128]) ++ Ref.ub (8 - (zs ++ [x % 128 + 128]).length) (x / 128) := by
  have h7 : zs.length ≤ 7 := by
    rcases Nat.lt_or_ge zs.length 8 with h | h
    · omega
    · have : zs.length = 8 := by omega
      rw [this] at hx
      simp at hx; omega
  have hl : (zs ++ [x % 128 + 128]).length = zs.length + 1 := by simp
  rw [hl]
  refine ⟨by omega, by omega, by omega, ?_, by simpa using hown', hbt.snoc (by omega) (by omega), below_append hsz hown hbel hg, ?_⟩
  · have e : 7 * (9 - zs.length) = 7 * (9 - (zs.length + 1)) + 7 := by omega
    rw [e, Int.pow_add] at hx
    generalize (2 : Int) ^ (7 * (9 - (zs.length + 1))) = q at *
    omega
  · rw [hub, show 8 - zs.length = (8 - (zs.length + 1)) + 1 by omega, ub_step _ _ (by omega)]
    simp

theorem uint_stop {w wr w1 : World} {v v' : Value} {zs : List Int} {x n : Int} {o : Obj} (hge : ¬ 128 ≤ x) (hx0 : 0 ≤ x) (hbt : Byt zs) (hz8 : zs.length ≤ 8)
    (hub : Ref.ub 8 n = zs ++ Ref.ub (8 - zs.length) x) (hsz : w.heap.size ≤ wr.heap.size) (hown : wr.ownsRow w.heap.size 5 1 v zs.length (zs.map (Value.int .u8))) (hbel : Below w.heap.size w wr)
    (hown' : w1.ownsRow w.heap.size 5 1 v' (zs.length + 1) (zs.map (Value.int .u8) ++ [.int .u8 x])) (hg : (wr.alloc o).grownBy w1 v.ownBlock) :
    Own w1 w.heap.size v' (Ref.ub 8 n) ∧ Below w.heap.size w w1 := by
  rw [hub, ub_stop _ _ (by omega)]
  exact ⟨⟨hbt.snoc (by omega) (by omega), by simp; omega, by simpa using hown'⟩, below_append hsz hown hbel hg⟩

set_option maxHeartbeats 1000000 in
theorem uint_any (n : Int) (w : World) (h63 : n ≤ 9223372036854775807) :
    Calls Try.prog 14 #[.int .i64 n] w fun e w' => ∃ v, e = .returned v ∧ Own w' w.heap.size v (Ref.uint n) ∧ Below w.heap.size w w' := by
  by_cases hneg : n < 0
  · have HU : Hid (Ref.uint n = []) := by simp [Hid, Ref.uint, hneg]
    go_enter Try.func14, Try.ntmps14
    go_wp2
    go_ret
    refine ⟨_, rfl, ?_, Below.refl _ _⟩
    rw [HU.out]
    exact ⟨Byt.nil, by simp, World.ownsRow_nil _ _ _ _⟩
  · have HU : Hid (Ref.uint n = Ref.ub 8 n) := by simp [Hid, Ref.uint, hneg]
    obtain ⟨i0, hi, hz0, hz1, hz2⟩ := info_parts Try.info5
    have hmk : ∀ w : World, (Instr.makeSlice 22 (.int .i64 0) (.int .i64 9)).run Try.prog w = .ok (.slice (some ⟨w.heap.size, 0, none⟩) 0 9) (w.alloc (.cells #[.int .u8 0, .int .u8 0, .int .u8 0, .int .u8 0, .int .u8 0, .int .u8 0, .int .u8 0, .int .u8 0, .int .u8 0] 5)) := fun _ => by kernel_rfl
    go_enter Try.func14, Try.ntmps14
    go_wp2
    go_loopw [0, 3] (fun x v wr => ∃ (x' : Int) (zs : List Int), x = .int .i64 x' ∧ 0 ≤ x' ∧ x' ≤ n ∧ zs.length ≤ 8 ∧ x' < 2 ^ (7 * (9 - zs.length)) ∧ wr.ownsRow w.heap.size 5 1 v zs.length (zs.map (Value.int .u8)) ∧ Byt zs ∧ Below w.heap.size w wr ∧ Ref.ub 8 n = zs ++ Ref.ub (8 - zs.length) x')
      (fun x _ _ => (intOf x).toNat)
    case atStart =>
      exact ⟨n, [], rfl, by omega, by omega, by simp, by simp; omega, World.ownsRow_made _ _ 9 (Nat.le_refl _) (by decide) (by simp), Byt.nil, (Below.refl _ _).alloc (Nat.le_refl _) _, by simp⟩
    case round =>
      obtain ⟨x, zs, rfl, hx0, hxn, hz8, hxp, hown, hbt, hbel, hub⟩ := hrel
      have HB := hide hub
      have HX := hide hxp
      clear hub hxp
      have hsz := hbel.size
      by_cases hge : 128 ≤ x
      · have hor := u8_or128' x
        go_wp2_with (first
          | (at_builtin; refine wpList_append_own _ rfl _ _ 22 rfl w.heap.size 5 i0 (.int .u8 0) 1 1 Try.underlying22 hi hz0 hz1 hz2 rfl (by decide) _ _ _ rfl (hown.alloc _) ⟨wr.heap.size, 0, none⟩ 1 1 [.int .u8 (x % 128 + 128)] rfl rfl (by rw [← hor]; exact cell_one_new _ _ _) (one_u8 _) (by unfold maxLen; omega) (by omega) (by simp; omega) ?_)
          | go_in)
        · intro v' w1 hown' hgrow _
          have R := uint_round hge hbt hz8 HX.out HB.out hxn hsz hown hbel hown' hgrow
          clear hown' hgrow hown hbel
          go_wp2
          go_roundw
          case rel => exact ⟨x / 128, zs ++ [x % 128 + 128], by go_num, R⟩
          case measure => simp [intOf]; omega
      · go_wp2_with (first
          | (at_builtin; refine wpList_append_own _ rfl _ _ 22 rfl w.heap.size 5 i0 (.int .u8 0) 1 1 Try.underlying22 hi hz0 hz1 hz2 rfl (by decide) _ _ _ rfl (hown.alloc _) ⟨wr.heap.size, 0, none⟩ 1 1 [.int .u8 x] rfl rfl (cell_one_new _ _ _) (one_u8 _) (by unfold maxLen; omega) (by omega) (by simp; omega) ?_)
          | go_in)
        · intro v' w1 hown' hgrow _
          have R := uint_stop (by omega) hx0 hbt hz8 HB.out hsz hown hbel hown' hgrow
          rw [← HU.out] at R
          clear hown' hgrow hown hbel
          go_wp2
          go_ret
          exact ⟨_, rfl, R⟩
end Go.Proofs.Ytmdbdfigpccbpaa
