/- What the statements of layer 4 lean on of package trie: its calls' contracts, over any predicate that says what a trie is. -/
import Derived.Test.YtehdeipeehaejaaRefN4
import Derived.Test.YtehdeipeehaejaaTriB
namespace Go.Proofs.Ytehdeipeehaejaa
open Go.RowKit

def IntPost (w : World) (n : Int) (e : Ending) (w' : World) : Prop := e = .returned (.int .i64 n) ∧ Below w.heap.size w w'

/-- A call that answers a number and only draws. -/
def IntDraws (w : World) (n : Int) (e : Ending) (w' : World) : Prop := e = .returned (.int .i64 n) ∧ ∃ m, w' = w.drewN m
theorem IntDraws.post {w w' : World} {n : Int} {e : Ending} (h : IntDraws w n e w') : IntPost w n e w' := by
  obtain ⟨h1, m, rfl⟩ := h
  exact ⟨h1, below_drewN (Below.refl _ _) m⟩

/-- What Build answers. -/
def BuildPost (T : World → Value → List Tri.Rg → Int → Prop) (w : World) (rs : List Tri.Rg) (d : Int) (e : Ending) (w' : World) : Prop :=
  Below w.heap.size w w' ∧ (((Tri.check d rs).2 = 0 ∧ ∃ a, e = .returned (.tuple #[.pointer (some a), .int .i64 0, .int .i64 0]) ∧ T w' (.pointer (some a)) rs d) ∨
    ((Tri.check d rs).2 ≠ 0 ∧ e = .returned (.tuple #[.pointer none, .int .i64 (Tri.check d rs).1, .int .i64 (Tri.check d rs).2])))

/-- What Index answers: the numbers, in memory of the call's own. -/
def IdxPost (w : World) (ns : List Nat) (e : Ending) (w' : World) : Prop := ∃ v, e = .returned v ∧ Ok .u16 47 w' w.heap.size v (ns.map fun n : Nat => (n : Int)) ∧ Below w.heap.size w w'
/-- The block of a number, or none. -/
def blkAt (bs : List (List Int)) (i : Int) : List Int × Bool := if 0 ≤ i ∧ i < bs.length then (bs.getD i.toNat [], true) else (List.replicate 64 0, false)
def BlkPost (w : World) (r : List Int × Bool) (e : Ending) (w' : World) : Prop := e = .returned (.tuple #[.agg (r.1.map (Value.int .u16)).toArray, .bool r.2]) ∧ Below w.heap.size w w'

structure TrieC (T : World → Value → List Tri.Rg → Int → Prop) : Prop where
  below : ∀ {w w' : World} {t : Value} {rs : List Tri.Rg} {d : Int}, T w t rs d → Below w.heap.size w w' → T w' t rs d
  build : ∀ (v : Value) (rs : List Tri.Rg) (d : Int) (w : World), Sr w v rs → rs.length ≤ 1000 → Fi d → Calls Try.prog 9 #[v, .int .i64 d] w (BuildPost T w rs d)
  get : ∀ (t : Value) (rs : List Tri.Rg) (d c : Int) (w : World), T w t rs d → Fi c → Calls Try.prog 13 #[t, .int .i64 c] w (IntDraws w (Tri.get d rs c))
  blocks : ∀ (t : Value) (rs : List Tri.Rg) (d : Int) (w : World), T w t rs d → Calls Try.prog 19 #[t] w (IntPost w ((Tri.bls (Tri.get d rs)).length : Nat))
  same : ∀ (t u : Value) (rs ms : List Tri.Rg) (d o : Int) (w : World), T w t rs d → T w u ms o → Calls Try.prog 22 #[t, u] w (Tells4 w (decide (d = o ∧ Tri.norm d rs = Tri.norm o ms)))
  default : ∀ (t : Value) (rs : List Tri.Rg) (d : Int) (w : World), T w t rs d → Calls Try.prog 15 #[t] w (IntPost w d)
  ranges : ∀ (t : Value) (rs : List Tri.Rg) (d : Int) (w : World), T w t rs d → Calls Try.prog 18 #[t] w (RgsPost w (Tri.norm d rs))
  index : ∀ (t : Value) (rs : List Tri.Rg) (d : Int) (w : World), T w t rs d → Calls Try.prog 17 #[t] w (IdxPost w (Tri.idx (Tri.get d rs)))
  block : ∀ (t : Value) (rs : List Tri.Rg) (d i : Int) (w : World), T w t rs d → Fi i → Calls Try.prog 21 #[t, .int .i64 i] w (BlkPost w (blkAt (Tri.bls (Tri.get d rs)) i))
  sameNil : ∀ (t : Value) (rs : List Tri.Rg) (d : Int) (w : World), T w t rs d → Calls Try.prog 22 #[t, .pointer none] w (Tells4 w false)

/-- The same with what a trie's memory is: blocks from B on, which nobody else writes. -/
structure TrieK (T : World → Nat → Value → List Tri.Rg → Int → Prop) : Prop where
  weak : TrieC (fun w t rs d => ∃ B, T w B t rs d)
  keep : ∀ {w w' : World} {B : Nat} {t : Value} {rs : List Tri.Rg} {d : Int}, T w B t rs d → w.heap.size ≤ w'.heap.size → (∀ k, B ≤ k → k < w.heap.size → w'.heap[k]? = w.heap[k]?) → T w' B t rs d
  build : ∀ (v : Value) (rs : List Tri.Rg) (d : Int) (w : World), Sr w v rs → rs.length ≤ 1000 → Fi d → Calls Try.prog 9 #[v, .int .i64 d] w (BuildPost (fun w' t rs d => T w' w.heap.size t rs d) w rs d)

theorem Sr.lit2 (w : World) (rs : List Tri.Rg) (hn : rs.length = 2) (C : Array Value) (hC : C = (rcells rs).toArray) (m : Nat × Nat) (hf : FitR rs) : Sr (w.alloc (.cells C 35 m)) (.slice (some ⟨w.heap.size, 0, none⟩) 2 2) rs := by
  subst hC
  refine ⟨hf, rcells_len rs, by omega, .inr ⟨w.heap.size, 0, 2, by rw [hn], by omega, by omega, fun i hi => ?_⟩⟩
  rw [World.cell?_alloc_mark, Nat.zero_add]
  have hl := rcells_len rs
  simp [List.getD, show i < (rcells rs).length by omega]

theorem told_check : Tri.check 0 [(0, 64, 5), (100, 200, 7)] = (0, 0) := by decide
theorem told_g1 : Tri.get 0 [(0, 64, 5), (100, 200, 7)] 64 = 5 := by decide
theorem told_g2 : Tri.get 0 [(0, 64, 5), (100, 200, 7)] 65 = 0 := by decide
theorem told_g3 : Tri.get 0 [(0, 64, 5), (100, 200, 7)] 150 = 7 := by decide

set_option maxHeartbeats 1000000 in
theorem told4_any {T : World → Value → List Tri.Rg → Int → Prop} (C : TrieC T) (w : World) : Calls Try.prog 11 #[] w (Tells4 w true) := by
  have H1 := fun (w : World) (m : Nat × Nat) => hide (C.build _ [(0, 64, 5), (100, 200, 7)] 0 _ (Sr.lit2 w [(0, 64, 5), (100, 200, 7)] rfl #[.int .i64 0, .int .i64 64, .int .i64 5, .int .i64 100, .int .i64 200, .int .i64 7] rfl m (by
    intro r hr
    simp only [List.mem_cons, List.mem_nil_iff, or_false] at hr
    rcases hr with rfl | rfl <;> simp [Fi, Tri.lo, Tri.hi, Tri.vl])) (by simp) (by simp [Fi]))
  have G1 := fun t w h => hide ((C.get t [(0, 64, 5), (100, 200, 7)] 0 64 w h (by simp [Fi])).mono fun _ _ h => h.post)
  have G2 := fun t w h => hide ((C.get t [(0, 64, 5), (100, 200, 7)] 0 65 w h (by simp [Fi])).mono fun _ _ h => h.post)
  have G3 := fun t w h => hide ((C.get t [(0, 64, 5), (100, 200, 7)] 0 150 w h (by simp [Fi])).mono fun _ _ h => h.post)
  have G4 := fun t w h => hide (C.blocks t [(0, 64, 5), (100, 200, 7)] 0 w h)
  have HB := @C.below
  rw [told_g1] at G1
  rw [told_g2] at G2
  rw [told_g3] at G3
  rw [Tri.told_blocks] at G4
  go_enter Try.func11, Try.ntmps11
  go_wp2_with fail
  refine (unhide (H1 _ _)).mono ?_
  rintro e w1 ⟨hb1, ⟨hc, a, rfl, hT⟩ | ⟨hc, _⟩⟩
  · have hb01 : Below w.heap.size w w1 := ((Below.refl _ _).alloc (Nat.le_refl _) _).trans (hb1.mono (by simp))
    clear hb1 H1 hc
    have K1 := G1 _ _ hT
    clear G1
    go_wp2_with fail
    refine (unhide K1).mono ?_
    rintro e w2 ⟨rfl, hb2⟩
    have hT := HB hT hb2
    have hb02 := bthen hb01 hb2
    have K2 := G2 _ _ hT
    clear G2 K1
    go_wp2_with fail
    refine (unhide K2).mono ?_
    rintro e w3 ⟨rfl, hb3⟩
    have hT := HB hT hb3
    have hb03 := bthen hb02 hb3
    have K3 := G3 _ _ hT
    clear G3 K2
    go_wp2_with fail
    refine (unhide K3).mono ?_
    rintro e w4 ⟨rfl, hb4⟩
    have hT := HB hT hb4
    have hb04 := bthen hb03 hb4
    have K4 := G4 _ _ hT
    clear G4 K3
    go_wp2_with fail
    refine (unhide K4).mono ?_
    rintro e w5 ⟨rfl, hb5⟩
    have hb05 := bthen hb04 hb5
    clear K4
    go_wp2
    go_ret
    exact ⟨rfl, hb05⟩
  · rw [told_check] at hc; exact absurd rfl hc
end Go.Proofs.Ytehdeipeehaejaa
