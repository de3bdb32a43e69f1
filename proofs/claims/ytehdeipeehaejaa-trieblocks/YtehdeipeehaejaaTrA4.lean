/- What a trie of the program's is: a block of three fields, its index and its blocks, in memory of its own; the contracts of Default, Blocks, Get. -/
import Derived.Test.YtehdeipeehaejaaRefB4
import Derived.Test.YtehdeipeehaejaaMet4
namespace Go.Proofs.Ytehdeipeehaejaa
open Go.RowKit

/-- Blocks of 64 numbers, one behind the other. -/
def bcells (bs : List (List Int)) : List Value := bs.flatten.map (Value.int .u16)
def AllGood (bs : List (List Int)) : Prop := ∀ b ∈ bs, Good b
theorem flat_len {bs : List (List Int)} (h : AllGood bs) : bs.flatten.length = bs.length * 64 := by
  induction bs with
  | nil => rfl
  | cons b bs ih =>
    simp only [List.flatten_cons, List.length_append, List.length_cons]
    rw [ih (fun c hc => h c (List.mem_cons_of_mem _ hc)), (h b (by simp)).1]; omega
theorem bcells_len {bs : List (List Int)} (h : AllGood bs) : (bcells bs).length = bs.length * 64 := by rw [bcells, List.length_map, flat_len h]
theorem flat_at {bs : List (List Int)} (h : AllGood bs) {i j : Nat} (hi : i < bs.length) (hj : j < 64) : bs.flatten.getD (i * 64 + j) 0 = (bs.getD i []).getD j 0 := by
  induction bs generalizing i with
  | nil => simp at hi
  | cons b bs ih =>
    have hb := (h b (by simp)).1
    cases i with
    | zero =>
      simp only [List.flatten_cons, Nat.zero_mul, Nat.zero_add, List.getD_cons_zero]
      simp [List.getD, List.getElem?_append_left (show j < b.length by omega)]
    | succ i =>
      have h1 := ih (fun c hc => h c (List.mem_cons_of_mem _ hc)) (i := i) (by simpa using hi)
      simp only [List.flatten_cons, List.getD_cons_succ]
      rw [← h1, List.getD, List.getD, List.getElem?_append_right (by omega)]
      congr 2; omega
theorem bcells_app (a b : List (List Int)) : bcells (a ++ b) = bcells a ++ bcells b := by simp [bcells]
theorem bcells_one (bs : List (List Int)) : ∀ u ∈ bcells bs, u.oneCell' = true := by
  intro u hu
  simp only [bcells, List.mem_map] at hu
  obtain ⟨z, _, rfl⟩ := hu
  rfl
theorem bcells_single (b : List Int) : bcells [b] = b.map (Value.int .u16) := by simp [bcells]

theorem bls_good {f : Int → Int} (h : ∀ c, 0 ≤ f c ∧ f c ≤ 65535) : AllGood (Tri.bls f) := by
  intro b hb
  have := Tri.bls_mem hb
  rw [Tri.pcs, List.mem_map] at this
  obtain ⟨p, _, rfl⟩ := this
  exact blk_good h p

/-- The blocks lie in memory of the call's own. -/
def Ob (e : TypeId) (w : World) (B : Nat) (v : Value) (bs : List (List Int)) : Prop := AllGood bs ∧ w.ownsRow B e 64 v bs.length (bcells bs)
/-- They can be read there. -/
def Sb (w : World) (v : Value) (bs : List (List Int)) : Prop := AllGood bs ∧
  ((bs = [] ∧ ∃ ao cap, v = .slice ao 0 cap ∧ cap ≤ 9223372036854775807) ∨
    ∃ b off cap, v = .slice (some ⟨b, off, none⟩) bs.length cap ∧ bs.length ≤ cap ∧ cap ≤ 9223372036854775807 ∧ ∀ i, i < bs.length → w.rangeAt b (off + i * 64) ((bs.getD i []).map (Value.int .u16)))

theorem Ob.sb {e : TypeId} {w : World} {B : Nat} {v : Value} {bs : List (List Int)} (h : Ob e w B v bs) : Sb w v bs := by
  obtain ⟨hg, h3⟩ := h
  have h3' := h3
  obtain ⟨_, hcase⟩ := h3
  refine ⟨hg, ?_⟩
  rcases hcase with ⟨rfl, h0⟩ | ⟨g, cap, cur, hv, hgB, hh, hn, hcap, hsz, htake⟩
  · exact .inl ⟨List.eq_nil_of_length_eq_zero h0, none, 0, rfl, by omega⟩
  · refine .inr ⟨g, 0, cap, hv, hn, by unfold maxLen at hcap; omega, fun i hi j x hx => ?_⟩
    have hl : j < 64 := by
      have h1 := (List.getElem?_eq_some_iff.1 hx).1
      have h2 := (hg _ (Tri.getD_in hi)).1
      rw [List.length_map, h2] at h1; exact h1
    have h64 := flat_len hg
    have hlt : i * 64 + j < bs.flatten.length := by omega
    have := h3'.cells (g := g) (by rw [hv]; rfl) (i * 64 + j) x (by
      rw [← hx, bcells, List.getElem?_map, List.getElem?_map]
      congr 1
      have h5 := flat_at hg hi hl
      have h6 := (hg _ (Tri.getD_in hi)).1
      simp only [List.getD, List.getElem?_eq_getElem hlt, Option.getD_some] at h5
      rw [List.getElem?_eq_getElem hlt, h5]
      simp only [List.getD] at h6 ⊢
      rw [List.getElem?_eq_getElem (by omega)]
      simp)
    rw [addr_add] at this
    rw [Nat.zero_add, ← this]
    simp
theorem Sb.below {w w' : World} {v : Value} {bs : List (List Int)} (h : Sb w v bs) (hb : Below w.heap.size w w') : Sb w' v bs := by
  refine ⟨h.1, ?_⟩
  rcases h.2 with h | ⟨b, off, cap, hv, hl, hm, hc⟩
  · exact .inl h
  · refine .inr ⟨b, off, cap, hv, hl, hm, fun i hi j x hx => ?_⟩
    have := hc i hi j x hx
    rw [hb.cell (lt_of_cell? this)]; exact this
theorem Sb.shape {w : World} {v : Value} {bs : List (List Int)} (h : Sb w v bs) : ∃ ao cap, v = .slice ao bs.length cap ∧ bs.length ≤ cap ∧ cap ≤ 9223372036854775807 := by
  rcases h.2 with ⟨rfl, ao, cap, hv, hm⟩ | ⟨b, off, cap, hv, hl, hm, _⟩
  · exact ⟨ao, cap, hv, by simp, hm⟩
  · exact ⟨_, cap, hv, hl, hm⟩
theorem Sb.place {w : World} {v : Value} {bs : List (List Int)} (h : Sb w v bs) (h0 : 0 < bs.length) : ∃ b off cap, v = .slice (some ⟨b, off, none⟩) bs.length cap ∧ bs.length ≤ cap ∧ cap ≤ 9223372036854775807 ∧ ∀ i, i < bs.length → w.rangeAt b (off + i * 64) ((bs.getD i []).map (Value.int .u16)) := by
  rcases h.2 with ⟨rfl, _⟩ | h
  · simp at h0
  · exact h

theorem row_keep {w w' : World} {B sz n : Nat} {e : TypeId} {v : Value} {xs : List Value} (h : w.ownsRow B e sz v n xs) (hk : ∀ k, B ≤ k → k < w.heap.size → w'.heap[k]? = w.heap[k]?) : w'.ownsRow B e sz v n xs := by
  obtain ⟨h1, h2 | ⟨g, cap, cur, hv, hg, hh, r⟩⟩ := h
  · exact ⟨h1, .inl h2⟩
  · refine ⟨h1, .inr ⟨g, cap, cur, hv, hg, ?_, r⟩⟩
    rw [hk g hg (Array.getElem?_eq_some_iff.1 hh).1]; exact hh

/-- What a trie is, from block B on. -/
def T4 (w : World) (B : Nat) (t : Value) (rs : List Tri.Rg) (d : Int) : Prop :=
  Tri.Val 0 rs ∧ (0 ≤ d ∧ d ≤ 65535) ∧ ∃ g iv bv, t = .pointer (some ⟨g, 0, none⟩) ∧ B ≤ g ∧ w.heap[g]? = some (.cells #[iv, bv, .int .i64 d] 59 (0, 0)) ∧
    Ok .u16 47 w B iv ((Tri.idx (Tri.get d rs)).map fun n : Nat => (n : Int)) ∧ Ob 60 w B bv (Tri.bls (Tri.get d rs))

theorem T4.keep {w w' : World} {B : Nat} {t : Value} {rs : List Tri.Rg} {d : Int} (h : T4 w B t rs d) (_ : w.heap.size ≤ w'.heap.size) (hk : ∀ k, B ≤ k → k < w.heap.size → w'.heap[k]? = w.heap[k]?) : T4 w' B t rs d := by
  obtain ⟨h1, h2, g, iv, bv, h3, h4, h5, h6, h7⟩ := h
  refine ⟨h1, h2, g, iv, bv, h3, h4, ?_, ⟨h6.1, h6.2.1, row_keep h6.2.2 hk⟩, ⟨h7.1, row_keep h7.2 hk⟩⟩
  rw [hk g h4 (Array.getElem?_eq_some_iff.1 h5).1]; exact h5
theorem T4.below {w w' : World} {B : Nat} {t : Value} {rs : List Tri.Rg} {d : Int} (h : T4 w B t rs d) (hb : Below w.heap.size w w') : T4 w' B t rs d := h.keep hb.size fun k _ hk => hb.block k hk

/-- A trie, opened. -/
theorem T4.parts {w : World} {B : Nat} {t : Value} {rs : List Tri.Rg} {d : Int} (h : T4 w B t rs d) : ∃ g iv bv, t = .pointer (some ⟨g, 0, none⟩) ∧
    w.cell? ⟨g, 0, none⟩ = some iv ∧ w.cell? ⟨g, 1, none⟩ = some bv ∧ w.cell? ⟨g, 2, none⟩ = some (.int .i64 d) ∧
    Sk .u16 w iv ((Tri.idx (Tri.get d rs)).map fun n : Nat => (n : Int)) ∧ Sb w bv (Tri.bls (Tri.get d rs)) := by
  obtain ⟨h1, h2, g, iv, bv, h3, h4, h5, h6, h7⟩ := h
  exact ⟨g, iv, bv, h3, by rw [cell_of_row _ _ _ _ _ _ h5]; rfl, by rw [cell_of_row _ _ _ _ _ _ h5]; rfl, by rw [cell_of_row _ _ _ _ _ _ h5]; rfl, h6.sk, h7.sb⟩
theorem T4.get_ok {w : World} {B : Nat} {t : Value} {rs : List Tri.Rg} {d : Int} (h : T4 w B t rs d) (c : Int) : 0 ≤ Tri.get d rs c ∧ Tri.get d rs c ≤ 65535 := Tri.get_range h.2.1 h.1

theorem default4 (t : Value) (rs : List Tri.Rg) (d : Int) (w : World) (h : ∃ B, T4 w B t rs d) : Calls Try.prog 15 #[t] w (IntPost w d) := by
  obtain ⟨B, h⟩ := h
  obtain ⟨g, iv, bv, rfl, c0, c1, c2, _, _⟩ := h.parts
  go_enter Try.func15, Try.ntmps15
  go_wp2
  go_ret
  exact ⟨rfl, Below.refl _ _⟩

theorem blocks4 (t : Value) (rs : List Tri.Rg) (d : Int) (w : World) (h : ∃ B, T4 w B t rs d) : Calls Try.prog 19 #[t] w (IntPost w ((Tri.bls (Tri.get d rs)).length : Nat)) := by
  obtain ⟨B, h⟩ := h
  obtain ⟨g, iv, bv, rfl, c0, c1, c2, _, hb⟩ := h.parts
  obtain ⟨ao, cap, rfl, _, _⟩ := hb.shape
  have hl := Tri.bls_len (Tri.get d rs)
  clear hb h
  generalize (Tri.bls (Tri.get d rs)).length = n at *
  go_enter Try.func19, Try.ntmps19
  go_wp2
  go_ret
  exact ⟨rfl, Below.refl _ _⟩

theorem nat_at (l : List Nat) (p : Nat) (hp : p < l.length) : ((l.map fun n : Nat => (n : Int)).getD p 0) = ((l.getD p 0 : Nat) : Int) := by
  simp [List.getD, hp]
theorem blk_cell (f : Int → Int) (n : Nat) : ((Tri.blk f (n / 64)).map (Value.int .u16))[n % 64]? = some (.int .u16 (f n)) := by
  have h1 := Tri.blk_at f (n / 64) (n % 64) (by omega)
  rw [show 64 * (n / 64) + n % 64 = n by omega] at h1
  have h2 := Tri.blk_len f (n / 64)
  have h3 : n % 64 < (Tri.blk f (n / 64)).length := by omega
  rw [← h1, List.getElem?_map, List.getElem?_eq_getElem h3]
  simp [List.getD, h3]
/-- A trie, read at a code point. -/
theorem T4.at {w : World} {B : Nat} {t : Value} {rs : List Tri.Rg} {d : Int} (h : T4 w B t rs d) (n : Nat) (hn : n < 1114112) : ∃ g bi oi L capi bb ob m capb z, t = .pointer (some ⟨g, 0, none⟩) ∧
    w.cell? ⟨g, 0, none⟩ = some (.slice (some ⟨bi, oi, none⟩) L capi) ∧ w.cell? ⟨g, 1, none⟩ = some (.slice (some ⟨bb, ob, none⟩) m capb) ∧ w.cell? ⟨g, 2, none⟩ = some (.int .i64 d) ∧
    n / 64 < L ∧ L ≤ 20000 ∧ L ≤ capi ∧ capi ≤ 9223372036854775807 ∧ z < m ∧ m ≤ 20000 ∧ m ≤ capb ∧ capb ≤ 9223372036854775807 ∧
    w.cell? ⟨bi, oi + n / 64, none⟩ = some (.int .u16 (z : Nat)) ∧ w.cell? ⟨bb, ob + z * 64 + n % 64, none⟩ = some (.int .u16 (Tri.get d rs n)) := by
  obtain ⟨g, iv, bv, ht, c0, c1, c2, hi, hb⟩ := h.parts
  have hlen : ((Tri.idx (Tri.get d rs)).map fun n : Nat => (n : Int)).length = (Tri.idx (Tri.get d rs)).length := List.length_map _
  have hil := Tri.idx_len (Tri.get d rs)
  have hbn := Tri.bls_len (Tri.get d rs)
  have hx := Tri.bls_idx (Tri.get d rs) (n / 64) (by omega)
  obtain ⟨hx1, hx2⟩ := hx
  obtain ⟨bi, oi, capi, rfl, hi1, hi2, hi3⟩ := hi.place (by omega)
  have hix := hi3 (n / 64) (by omega)
  rw [nat_at _ _ (by omega)] at hix
  obtain ⟨bb, ob, capb, rfl, hb1, hb2, hb3⟩ := hb.place (by omega)
  have hbl := hb3 _ hx2
  rw [hx1] at hbl
  have hcell := hbl (n % 64) _ (blk_cell _ n)
  exact ⟨g, bi, oi, _, capi, bb, ob, _, capb, _, ht, c0, c1, c2, by omega, by omega, hi1, hi2, hx2, by omega, hb1, hb2, hix, hcell⟩

theorem get4 (t : Value) (rs : List Tri.Rg) (d c : Int) (w : World) (h : ∃ B, T4 w B t rs d) (hc : Fi c) : Calls Try.prog 13 #[t, .int .i64 c] w (IntDraws w (Tri.get d rs c)) := by
  obtain ⟨B, h⟩ := h
  obtain ⟨hc1, hc2⟩ := hc
  by_cases hlo : c < 0
  · obtain ⟨g, iv, bv, rfl, c0, c1, c2, hi, hb⟩ := h.parts
    rw [Tri.get_below h.1 hlo]
    clear hi hb h
    go_enter Try.func13, Try.ntmps13
    go_wp2
    go_ret
    exact ⟨rfl, 0, rfl⟩
  · by_cases hhi : 1114111 < c
    · obtain ⟨g, iv, bv, rfl, c0, c1, c2, hi, hb⟩ := h.parts
      rw [Tri.get_above h.1 hhi]
      clear hi hb h
      go_enter Try.func13, Try.ntmps13
      go_wp2
      go_ret
      exact ⟨rfl, 0, rfl⟩
    · obtain ⟨n, rfl⟩ : ∃ n : Nat, c = (n : Int) := ⟨c.toNat, by omega⟩
      have htd : (n : Int).tdiv 64 = ((n / 64 : Nat) : Int) := by rw [Int.tdiv_eq_ediv_of_nonneg (by omega)]; omega
      have htr : (n : Int).tmod 64 = ((n % 64 : Nat) : Int) := by rw [Int.tmod_eq_emod_of_nonneg (by omega)]; omega
      obtain ⟨hr1, hr2⟩ := h.get_ok n
      obtain ⟨g, bi, oi, L, capi, bb, ob, m, capb, z, rfl, c0, c1, c2, x1, x2, x3, x4, x5, x6, x7, x8, hix, hcell⟩ := h.at n (by omega)
      clear h
      generalize Tri.get d rs n = v at *
      have hm64 : n % 64 < 64 := Nat.mod_lt _ (by omega)
      generalize n % 64 = j at *
      generalize n / 64 = q at *
      go_enter Try.func13, Try.ntmps13
      go_wp2
      go_quiet (fail)
      go_wp2
      go_ret
      exact ⟨rfl, nq, rfl⟩
end Go.Proofs.Ytehdeipeehaejaa
