import Derived.Test.YtdnkfnccbmbpaaaGreatDoorMPu8
import Derived.Test.YtdnkfnccbmbpaaaGreatDoorGc8
/- What is read stays in bounds: plain. -/
namespace Go.Proofs.YtdnkfnccbmbpaaaGreatDoor
open Wi

theorem rt_ok {zs : List Int} {at_ most : Int} (h : (Ref.rt zs at_ most).2.2 = 0) : 0 ≤ at_ ∧ at_ < (Ref.rt zs at_ most).2.1 ∧ (Ref.rt zs at_ most).2.1 ≤ zs.length := by
  unfold Ref.rt at h ⊢
  by_cases hm : most < 0
  · rw [if_pos hm] at h; simp at h
  rw [if_neg hm] at h ⊢
  by_cases he : (Ref.rd zs at_).2.2 ≠ 0
  · rw [if_pos he] at h; exact absurd h he
  rw [if_neg he] at h ⊢
  have hok := rd_ok zs at_ (by simpa using he)
  generalize Ref.rd zs at_ = q at *
  by_cases h3 : most < q.1
  · rw [if_pos h3] at h; simp at h
  rw [if_neg h3] at h ⊢
  by_cases h4 : (zs.length : Int) - q.2.1 < q.1
  · rw [if_pos h4] at h; simp at h
  rw [if_neg h4]
  simp only
  omega
theorem rf_ok {zs : List Int} {at_ : Int} (h : (Ref.rf zs at_).2.2 = 0) : 0 ≤ at_ ∧ at_ < (Ref.rf zs at_).2.1 ∧ (Ref.rf zs at_).2.1 ≤ zs.length ∧ (Ref.rf zs at_).1 = Ref.fval ((zs.drop at_.toNat).take 8) := by
  unfold Ref.rf at h ⊢
  by_cases h1 : at_ < 0 ∨ (zs.length : Int) < at_
  · rw [if_pos h1] at h; simp at h
  rw [if_neg h1] at h ⊢
  by_cases h2 : (zs.length : Int) - at_ < 8
  · rw [if_pos h2] at h; simp at h
  rw [if_neg h2]
  exact ⟨by show 0 ≤ at_; omega, by show at_ < at_ + 8; omega, by show at_ + 8 ≤ _; omega, rfl⟩
theorem rl_ok {zs : List Int} : ∀ (k : Nat) (a : Int) (acc : List Int), (Pk.rl zs k a acc).2.2 = 0 → a ≤ zs.length → a ≤ (Pk.rl zs k a acc).2.1 ∧ (Pk.rl zs k a acc).2.1 ≤ zs.length ∧ (Pk.rl zs k a acc).1.length = acc.length + k
  | 0, a, acc, _, ha => by simp [Pk.rl, ha]
  | k + 1, a, acc, h, ha => by
    by_cases he : (Pk.ru zs a 1114111).2.2 = 0
    · rw [rl_step zs k a acc he] at h ⊢
      have h1 := ru_ok zs a 1114111 he
      have h2 := rl_ok k _ _ h h1.2.2.2.2
      rw [List.length_append] at h2
      simp only [List.length_cons, List.length_nil] at h2
      omega
    · rw [rl_err zs k a acc he] at h
      exact absurd h he
theorem rn_bound {zs : List Int} {at_ : Int} {r : Rec} {g : Int → Rec} (h : (Pk.rn zs at_ r g).2.2 = 0) : at_ ≤ (Pk.rn zs at_ r g).2.1 ∧ (Pk.rn zs at_ r g).2.1 ≤ zs.length := by
  unfold Pk.rn at h ⊢
  by_cases h1 : (Pk.ru zs at_ 1114111).2.2 = 0
  · have := ru_ok zs at_ 1114111 h1
    rw [if_neg (by simpa using h1)]
    simp only
    omega
  · rw [if_pos (by simpa using h1)] at h
    exact absurd h h1
theorem rs_bound {zs : List Int} {at_ : Int} {r : Rec} {g : ByteArray → Rec} (h : (Pk.rs zs at_ r g).2.2 = 0) : at_ ≤ (Pk.rs zs at_ r g).2.1 ∧ (Pk.rs zs at_ r g).2.1 ≤ zs.length := by
  unfold Pk.rs at h ⊢
  by_cases h1 : (Ref.rt zs at_ 4).2.2 = 0
  · have := rt_ok h1
    rw [if_neg (by simpa using h1)]
    simp only
    omega
  · rw [if_pos (by simpa using h1)] at h
    exact absurd h h1
theorem fr7 (zs : List Int) (at_ : Int) (r : Rec) : Pk.fr zs at_ r 7 = if (Pk.ru zs at_ 24).2.2 ≠ 0 then (r, at_, (Pk.ru zs at_ 24).2.2) else (reTo r (Pk.rl zs (Pk.ru zs at_ 24).1.toNat (Pk.ru zs at_ 24).2.1 r.to).1, (Pk.rl zs (Pk.ru zs at_ 24).1.toNat (Pk.ru zs at_ 24).2.1 r.to).2) := rfl
theorem fr8 (zs : List Int) (at_ : Int) (r : Rec) (n : Nat) : Pk.fr zs at_ r (n + 8) = if (Ref.rf zs at_).2.2 ≠ 0 then (r, at_, (Ref.rf zs at_).2.2) else ({ r with wt := (Ref.rf zs at_).1.toNat }, (Ref.rf zs at_).2.1, 0) := rfl
theorem fr_bound {zs : List Int} {at_ : Int} {r : Rec} {f : Nat} (h : (Pk.fr zs at_ r f).2.2 = 0) : at_ ≤ (Pk.fr zs at_ r f).2.1 ∧ (Pk.fr zs at_ r f).2.1 ≤ zs.length := by
  match f, h with
  | 0, h => exact rn_bound h
  | 1, h => exact rn_bound h
  | 2, h => exact rn_bound h
  | 3, h => exact rn_bound h
  | 4, h => exact rn_bound h
  | 5, h => exact rs_bound h
  | 6, h => exact rs_bound h
  | 7, h =>
    rw [fr7] at h ⊢
    by_cases h1 : (Pk.ru zs at_ 24).2.2 = 0
    · have h2 := ru_ok zs at_ 24 h1
      rw [if_neg (by simpa using h1)] at h ⊢
      have h3 := rl_ok _ _ _ h h2.2.2.2.2
      simp only
      omega
    · rw [if_pos (by simpa using h1)] at h
      exact absurd h h1
  | n + 8, h =>
    rw [fr8] at h ⊢
    by_cases h1 : (Ref.rf zs at_).2.2 = 0
    · have h2 := rf_ok h1
      rw [if_neg (by simpa using h1)]
      simp only
      omega
    · rw [if_pos (by simpa using h1)] at h
      exact absurd h h1
theorem frs_bound {zs : List Int} : ∀ (fs : List Nat) (a : Int) (r : Rec), (Pk.frs zs fs a r).2.2 = 0 → a ≤ zs.length → a ≤ (Pk.frs zs fs a r).2.1 ∧ (Pk.frs zs fs a r).2.1 ≤ zs.length
  | [], a, r, _, ha => by simp [Pk.frs, ha]
  | f :: fs, a, r, h, ha => by
    by_cases he : (Pk.fr zs a r f).2.2 = 0
    · have h1 := fr_bound he
      rw [Pk.frs, if_neg (by simpa using he)] at h ⊢
      have h2 := frs_bound fs _ _ h h1.2
      omega
    · rw [Pk.frs, if_pos (by simpa using he)] at h
      exact absurd h he
theorem rr_ok {zs : List Int} {n : Nat} (h : (Pk.rr zs n).2.2 = 0) (hn : n ≤ zs.length) : n < zs.length ∧ Cn.fam (zs.getD n 0) ≠ 0 ∧ (Pk.frs zs (Pk.form (zs.getD n 0)) ((n : Int) + 1) { Cn.none with kind := zs.getD n 0 }).2.2 = 0 ∧ Pk.rr zs n = Pk.frs zs (Pk.form (zs.getD n 0)) ((n : Int) + 1) { Cn.none with kind := zs.getD n 0 } := by
  unfold Pk.rr at h ⊢
  rw [Int.toNat_natCast] at h ⊢
  by_cases h1 : (n : Int) = zs.length
  · rw [if_pos h1] at h; simp at h
  rw [if_neg h1] at h ⊢
  by_cases h2 : Cn.fam (zs.getD n 0) = 0
  · rw [if_pos h2] at h; simp at h
  rw [if_neg h2] at h ⊢
  by_cases h3 : (Pk.frs zs (Pk.form (zs.getD n 0)) ((n : Int) + 1) { Cn.none with kind := zs.getD n 0 }).2.2 = 0
  · rw [if_neg (by simpa using h3)]
    exact ⟨by omega, h2, h3, rfl⟩
  · rw [if_pos (by simpa using h3)] at h
    exact absurd h h3
theorem rr_bound {zs : List Int} {n : Nat} (h : (Pk.rr zs n).2.2 = 0) (hn : n ≤ zs.length) : ∃ m : Nat, (Pk.rr zs n).2.1 = (m : Int) ∧ n < m ∧ m ≤ zs.length := by
  obtain ⟨h1, h2, h3, h4⟩ := rr_ok h hn
  have h5 := frs_bound _ _ _ h3 (by omega)
  rw [h4]
  exact ⟨(Pk.frs zs (Pk.form (zs.getD n 0)) ((n : Int) + 1) { Cn.none with kind := zs.getD n 0 }).2.1.toNat, by omega, by omega, by omega⟩
theorem i64_of {n : Int} (h0 : 0 ≤ n) (h1 : n ≤ 1114111) : I64 n := ⟨by omega, by omega⟩
theorem fr_fit {zs : List Int} {at_ : Int} {r : Rec} {f : Nat} (hb : Byt zs) (hr : RecFit r) (hlo : 0 ≤ r.lo ∧ r.lo ≤ 1114111) (hto : f = 7 → r.to = []) (h : (Pk.fr zs at_ r f).2.2 = 0) : RecFit (Pk.fr zs at_ r f).1 := by
  obtain ⟨f1, f2, f3, f4, f5, f6⟩ := hr
  match f, h, hto with
  | 0, h, _ => obtain ⟨n, h0, h1, e⟩ := rn_ok h; rw [show (Pk.fr zs at_ r 0).1 = _ from e]; exact ⟨f1, (i64_of h0 h1), f3, f4, f5, f6⟩
  | 1, h, _ => obtain ⟨n, h0, h1, e⟩ := rn_ok h; rw [show (Pk.fr zs at_ r 1).1 = _ from e]; exact ⟨f1, f2, ⟨by show _ ≤ r.lo + n; omega, by show r.lo + n ≤ _; omega⟩, f4, f5, f6⟩
  | 2, h, _ => obtain ⟨n, h0, h1, e⟩ := rn_ok h; rw [show (Pk.fr zs at_ r 2).1 = _ from e]; exact ⟨f1, (i64_of h0 h1), (i64_of h0 h1), f4, f5, f6⟩
  | 3, h, _ => obtain ⟨n, h0, h1, e⟩ := rn_ok h; rw [show (Pk.fr zs at_ r 3).1 = _ from e]; exact ⟨f1, f2, f3, (i64_of h0 h1), f5, f6⟩
  | 4, h, _ => obtain ⟨n, h0, h1, e⟩ := rn_ok h; rw [show (Pk.fr zs at_ r 4).1 = _ from e]; exact ⟨f1, f2, f3, f4, by simp, f6⟩
  | 5, h, _ => obtain ⟨n, e⟩ := rs_ok h; rw [show (Pk.fr zs at_ r 5).1 = _ from e]; exact ⟨f1, f2, f3, f4, f5, f6⟩
  | 6, h, _ => obtain ⟨n, e⟩ := rs_ok h; rw [show (Pk.fr zs at_ r 6).1 = _ from e]; exact ⟨f1, f2, f3, f4, f5, f6⟩
  | 7, h, hto =>
    rw [fr7] at h ⊢
    by_cases h1 : (Pk.ru zs at_ 24).2.2 = 0
    · have h2 := ru_ok zs at_ 24 h1
      rw [if_neg (by simpa using h1)] at h ⊢
      have h3 := rl_ok _ _ _ h h2.2.2.2.2
      rw [hto rfl] at h3
      refine ⟨f1, f2, f3, f4, ?_, f6⟩
      show (Pk.rl zs _ _ r.to).1.length ≤ _
      rw [hto rfl]
      have h4 := h3.2.2
      rw [h4]
      simp only [List.length_nil]
      omega
    · rw [if_pos (by simpa using h1)] at h
      exact absurd h h1
  | n + 8, h, _ =>
    rw [fr8] at h ⊢
    by_cases h1 : (Ref.rf zs at_).2.2 = 0
    · have h2 := rf_ok h1
      rw [if_neg (by simpa using h1)]
      refine ⟨f1, f2, f3, f4, f5, ?_⟩
      show (Ref.rf zs at_).1.toNat < _
      rw [h2.2.2.2]
      have h3 := Ref.fval_bound ((zs.drop at_.toNat).take 8) (fun z hz => hb z (List.mem_of_mem_drop (List.mem_of_mem_take hz)))
      have h4 : ((zs.drop at_.toNat).take 8).length ≤ 8 := List.length_take_le _ _
      have h5 : (256 : Int) ^ ((zs.drop at_.toNat).take 8).length ≤ 18446744073709551616 := by
        have h7 : ∀ k, k < 9 → (256 : Int) ^ k ≤ 18446744073709551616 := by decide
        exact h7 _ (by omega)
      generalize (256 : Int) ^ ((zs.drop at_.toNat).take 8).length = q at *
      omega
    · rw [if_pos (by simpa using h1)] at h
      exact absurd h h1
theorem frs_fit {zs : List Int} (hb : Byt zs) : ∀ (fs : List Nat) (a : Int) (r : Rec), RecFit r → Riv r fs → Gd fs = true → (Pk.frs zs fs a r).2.2 = 0 → RecFit (Pk.frs zs fs a r).1
  | [], a, r, hr, _, _, _ => hr
  | f :: fs, a, r, hr, hi, hg, h => by
    by_cases he : (Pk.fr zs a r f).2.2 = 0
    · rw [Pk.frs, if_neg (by simpa using he)] at h ⊢
      refine frs_fit hb fs _ _ (fr_fit hb hr hi.1 (fun e => hi.2 (by simp [e])) he) (hi.on hg he) ?_ h
      simp only [Gd, Bool.and_eq_true] at hg
      exact hg.2
    · rw [Pk.frs, if_pos (by simpa using he)] at h
      exact absurd h he
theorem rr_fit {zs : List Int} {n : Nat} (hb : Byt zs) (h : (Pk.rr zs n).2.2 = 0) (hn : n ≤ zs.length) : RecFit (Pk.rr zs n).1 := by
  obtain ⟨h1, h2, h3, h4⟩ := rr_ok h hn
  rw [h4]
  have hk := hb.at n
  refine frs_fit hb _ _ _ ?_ ?_ (form_gd h2) h3
  · exact ⟨⟨by show _ ≤ zs.getD n 0; omega, by show zs.getD n 0 ≤ _; omega⟩, by unfold I64; show _ ≤ (0 : Int) ∧ (0 : Int) ≤ _; omega, by unfold I64; show _ ≤ (0 : Int) ∧ (0 : Int) ≤ _; omega, by unfold I64; show _ ≤ (0 : Int) ∧ (0 : Int) ≤ _; omega, by show (0 : Nat) ≤ _; omega, by show (0 : Nat) < _; omega⟩
  · exact ⟨⟨by show (0 : Int) ≤ 0; omega, by show (0 : Int) ≤ 1114111; omega⟩, fun _ => rfl⟩
theorem rightA_lt : ∀ (l : List Rec) (i : Nat) (x : Nat × Int), Cn.rightA i l = some x → x.1 < i + l.length
  | [], i, x, h => by simp [Cn.rightA] at h
  | r :: l, i, x, h => by
    rw [Cn.rightA] at h
    by_cases h1 : Cn.right r = 0
    · rw [if_pos h1] at h
      have := rightA_lt l (i + 1) x h
      simp only [List.length_cons]; omega
    · rw [if_neg h1] at h
      simp only [Option.some.injEq] at h
      subst h
      simp
theorem twiceA_lt (L : List Rec) : ∀ (l : List Rec) (i j : Nat), Cn.twiceA L i l = some j → j < i + l.length
  | [], i, j, h => by simp [Cn.twiceA] at h
  | r :: l, i, j, h => by
    rw [Cn.twiceA] at h
    split at h
    · simp only [Option.some.injEq] at h
      subst h
      simp
    · have := twiceA_lt L l (i + 1) j h
      simp only [List.length_cons]; omega
theorem check6_lt {l : List Rec} (h : (Cn.check6 l).2 ≠ 0) (hl : l.length ≤ 4096) : (Cn.check6 l).1 < l.length := by
  unfold Cn.check6 at h ⊢
  rw [if_neg (by omega)] at h ⊢
  split at h
  · next x hx =>
    have := rightA_lt l 0 x hx
    simpa using this
  · next hx =>
    split at h
    · next i hi =>
      have := twiceA_lt l l 0 i hi
      simpa using this
    · simp at h
end Go.Proofs.YtdnkfnccbmbpaaaGreatDoor
/- read: all records. -/
namespace Go.Proofs.YtdnkfnccbmbpaaaGreatDoor
open Go.RowKit
open Wi

/-- What read answers. -/
def RdB (w : World) (x : (List Rec × List Int) × Int × Int) (e : Ending) (w' : World) : Prop := ∃ vl vb ps, e = .returned (.tuple #[vl, vb, .int .i64 x.2.1, .int .i64 x.2.2]) ∧ Rown w' w.heap.size vl ps ∧ ps.map (·.1) = x.1.1 ∧ Ok .i64 3 w' w.heap.size vb x.1.2 ∧ Below w.heap.size w w'
theorem Rown.nil (w : World) (B : Nat) : Rown w B (.slice none 0 0) [] := ⟨World.ownsRow_nil _ _ _ _, fun _ h => (by cases h)⟩
theorem RdB.no (w w' : World) (a e : Int) (hb : Below w.heap.size w w') : RdB w (([], []), a, e) (.returned (.tuple #[.slice none 0 0, .slice none 0 0, .int .i64 a, .int .i64 e])) w' := ⟨_, _, [], rfl, Rown.nil _ _, rfl, Ok.nil _ _ _ _, hb⟩
theorem rrs_step (zs : List Int) (k : Nat) (a : Int) (l : List Rec) (bs : List Int) (h : (Pk.rr zs a).2.2 = 0) : Pk.rrs zs (k + 1) a l bs = Pk.rrs zs k (Pk.rr zs a).2.1 (l ++ [(Pk.rr zs a).1]) (bs ++ [a]) := by
  rw [Pk.rrs, if_neg (by simpa using h)]
theorem rrs_err (zs : List Int) (k : Nat) (a : Int) (l : List Rec) (bs : List Int) (h : (Pk.rr zs a).2.2 ≠ 0) : Pk.rrs zs (k + 1) a l bs = (([], []), (Pk.rr zs a).2) := by
  rw [Pk.rrs, if_pos h]
theorem Tryz.info3 : (Tryz.prog.info? 3).map (fun i => (i.zero, i.size, i.bytes)) = some (some (.int .i64 0), 1, 8) := by kernel_rfl
/-- A record more, and where it begins. -/
theorem rown_more {w wr w1 w2 : World} {vl vb v2 vt : Value} {ps : List (Rec × Value)} {bs : List Int} {r : Rec} {o1 o2 : Obj} (hr : Rown wr w.heap.size vl ps) (hk : Ok .i64 3 wr w.heap.size vb bs) (hb : Below w.heap.size w wr) (hb1 : Below wr.heap.size wr w1) (ht : Ok .i32 21 w1 wr.heap.size vt r.to)
    (hrow2 : w2.ownsRow w.heap.size 46 8 v2 (ps.length + 1) (rcells ps ++ rcell (r, vt))) (hg2 : ((w1.alloc o1).alloc o2).grownBy w2 vl.ownBlock) :
    Rown w2 w.heap.size v2 (ps ++ [(r, vt)]) ∧ Ok .i64 3 w2 w.heap.size vb bs ∧ Below w.heap.size w w2 := by
  have hs := hb.size
  have hs1 := hb1.size
  have k1 : ∀ g, g < w1.heap.size → vl.ownBlock ≠ some g → w2.heap[g]? = w1.heap[g]? := fun g h1 h2 => by
    rw [hg2.block g (by simp; omega) (fun e => h2 e.symm)]
    exact (((Below.refl w1.heap.size w1).alloc (Nat.le_refl _) o1).alloc (by simp) o2).block g h1
  have m1 : w1.ownsRow w.heap.size 46 8 vl ps.length (rcells ps) := own_keep hr.1 fun g hg => hb1.block g (hr.1.lt g hg).2
  refine ⟨⟨?_, fun p hp => ?_⟩, ?_, ?_⟩
  · rw [rcells_snoc] at hrow2
    simpa using hrow2
  · rcases List.mem_append.1 hp with hp | hp
    · have hop := hr.2 p hp
      refine hop.keep fun g h => ?_
      have hlt := (hop.2.2.lt g h).2
      rw [k1 g (by omega) (own_apart hop.2.2 hr.1 (by decide) h), hb1.block g hlt]
    · simp only [List.mem_singleton] at hp
      subst hp
      refine (ht.lower hs).keep fun g h => ?_
      exact k1 g (ht.2.2.lt g h).2 (own_apart ht.2.2 m1 (by decide) h)
  · refine hk.keep fun g h => ?_
    have hlt := (hk.2.2.lt g h).2
    rw [k1 g (by omega) (own_apart hk.2.2 hr.1 (by decide) h), hb1.block g hlt]
  · exact (((bthen hb hb1).alloc (by omega) o1).alloc (by simp; omega) o2).grown hg2 (by simp; omega) (fun k hk' => (hr.1.lt k hk').1)
theorem begins_more {w w2 w3 : World} {vl vb v3 : Value} {ps : List (Rec × Value)} {bs : List Int} {a : Int} {o : Obj} (hr : Rown w2 w.heap.size vl ps) (hk : Ok .i64 3 w2 w.heap.size vb bs) (hb : Below w.heap.size w w2) (hl : bs.length ≤ 4096) (ha : I64 a)
    (hrow3 : w3.ownsRow w.heap.size 3 1 v3 (bs.length + 1) (bs.map (Value.int .i64) ++ [.int .i64 a])) (hg3 : (w2.alloc o).grownBy w3 vb.ownBlock) :
    Rown w3 w.heap.size vl ps ∧ Ok .i64 3 w3 w.heap.size v3 (bs ++ [a]) ∧ Below w.heap.size w w3 := by
  have hs := hb.size
  have k1 : ∀ g, g < w2.heap.size → vb.ownBlock ≠ some g → w3.heap[g]? = w2.heap[g]? := fun g h1 h2 => by
    rw [hg3.block g (by simp; omega) (fun e => h2 e.symm)]
    exact ((Below.refl w2.heap.size w2).alloc (Nat.le_refl _) o).block g h1
  refine ⟨⟨own_keep hr.1 fun g hg => k1 g (hr.1.lt g hg).2 (own_apart hr.1 hk.2.2 (by decide) hg), fun p hp => ?_⟩, ?_, ?_⟩
  · have hop := hr.2 p hp
    exact hop.keep fun g h => k1 g (hop.2.2.lt g h).2 (own_apart hop.2.2 hk.2.2 (by decide) h)
  · refine Ok.of (hk.1.snoc ?_) (by simp; omega) hrow3 (by simp) (by simp)
    simpa [IntKind.min, IntKind.max, IntKind.signed, IntKind.bits, I64] using ha
  · exact (hb.alloc hs o).grown hg3 (by simp; omega) (fun k hk' => (hk.2.2.lt k hk').1)
end Go.Proofs.YtdnkfnccbmbpaaaGreatDoor
/- read, walked. -/
namespace Go.Proofs.YtdnkfnccbmbpaaaGreatDoor
open Go.RowKit
open Wi

set_option maxRecDepth 8000 in
set_option maxHeartbeats 8000000 in
theorem read_all (v : Value) (zs : List Int) (w : World) (hgl : Glob w) (hs : Sl w v zs) (hlen : zs.length ≤ 262144) : Calls Tryz.prog 35 #[v] w (RdB w (Pk.read zs)) := by
  have K := hide (pru_any v zs 5 w hs)
  have HSL : Hid (∀ W, Below w.heap.size w W → Sl W v zs) := fun W h => hs.below h
  have HGL : Hid (∀ W, Below w.heap.size w W → Glob W) := fun W h => hgl.on h
  have hok := rd_ok zs 5
  obtain ⟨ao, cap, rfl, hc1, hc2⟩ := hs.shape
  unfold Pk.r0 at K
  have HLEN := hide hlen
  have hlen2 : (zs.length : Int) ≤ 262144 := by omega
  clear hs hgl hc1 hc2 hlen
  unfold Pk.read
  generalize Ref.rd zs 5 = q0 at *
  by_cases he : q0.2.2 = 0
  · rw [if_neg (by simpa using he)] at K ⊢
    have hq0 := hok he
    obtain ⟨c0, a0, e0⟩ := q0
    simp only at he hq0 K ⊢
    clear hok he
    by_cases hm : 4096 < c0
    · rw [if_pos hm]
      have HF := RdB.no w w 5 3 (Below.refl _ _)
      clear HSL HGL hq0
      generalize zs.length = m at *
      go_enter Tryz.func35, Tryz.ntmps35
      go_wp2_with fail
      refine (unhide K).mono ?_
      rintro e w ⟨rfl, rfl⟩
      clear K
      go_wp2
      refine bodyPost_ret (v := .tuple #[.slice none 0 0, .slice none 0 0, .int .i64 5, .int .i64 3]) (by simp [results, Tryz.results35, go_sem]) rfl ?_
      exact HF
    · rw [if_neg hm]
      obtain ⟨cnt, hcnt⟩ : ∃ k : Nat, c0 = (k : Int) := ⟨c0.toNat, by omega⟩
      obtain ⟨n0, hn0⟩ : ∃ k : Nat, a0 = (k : Int) := ⟨a0.toNat, by omega⟩
      subst hcnt; subst hn0
      rw [Int.toNat_natCast]
      have hc4 : cnt ≤ 4096 := by omega
      have hn0 : n0 ≤ zs.length := by omega
      have hc4d : decide ((4096 : Int) < (cnt : Int)) = false := by rw [decide_eq_false_iff_not]; omega
      clear hq0 hm
      generalize hRES : Pk.rrs zs cnt n0 [] [] = RES
      have HRES := hide hRES
      clear hRES
      have HF1 : Hid (RES.2.2 ≠ 0 → (if RES.2.2 ≠ 0 then RES else if RES.2.1 < zs.length then (([], []), RES.2.1, 14) else RES) = RES) := fun h => if_pos h
      have HF2 : Hid (RES.2.2 = 0 → RES.2.1 < zs.length → (if RES.2.2 ≠ 0 then RES else if RES.2.1 < zs.length then (([], []), RES.2.1, 14) else RES) = (([], []), RES.2.1, 14)) := fun h h2 => by rw [if_neg (by simpa using h), if_pos h2]
      have HF3 : Hid (RES.2.2 = 0 → ¬ RES.2.1 < zs.length → (if RES.2.2 ≠ 0 then RES else if RES.2.1 < zs.length then (([], []), RES.2.1, 14) else RES) = RES) := fun h h2 => by rw [if_neg (by simpa using h), if_neg h2]
      generalize (if RES.2.2 ≠ 0 then RES else if RES.2.1 < zs.length then (([], []), RES.2.1, 14) else RES) = FIN at *
      obtain ⟨i1, hj, hy0, hy1, hy2⟩ := info_parts Tryz.info46
      obtain ⟨i2, hj2, hx0, hx1, hx2⟩ := info_parts Tryz.info3
      have KR : Hid (∀ (n : Nat) W, Below w.heap.size w W → n ≤ zs.length → Calls Tryz.prog 62 #[.slice ao zs.length cap, .int .i64 (n : Int)] W (RrB W (Pk.rr zs n))) := fun n W hb hn => rr_any _ zs n W ((unhide HGL) W hb) ((unhide HSL) W hb) hn
      have HRB : Hid (∀ n : Nat, (Pk.rr zs n).2.2 = 0 → n ≤ zs.length → ∃ m : Nat, (Pk.rr zs n).2.1 = (m : Int) ∧ n < m ∧ m ≤ zs.length) := fun n h hn => rr_bound h hn
      have HS1 : Hid (∀ (k : Nat) (a : Int) (l : List Rec) (bs : List Int), (Pk.rr zs a).2.2 = 0 → Pk.rrs zs (k + 1) a l bs = Pk.rrs zs k (Pk.rr zs a).2.1 (l ++ [(Pk.rr zs a).1]) (bs ++ [a])) := fun k a l bs h => rrs_step zs k a l bs h
      have HS2 : Hid (∀ (k : Nat) (a : Int) (l : List Rec) (bs : List Int), (Pk.rr zs a).2.2 ≠ 0 → Pk.rrs zs (k + 1) a l bs = (([], []), (Pk.rr zs a).2)) := fun k a l bs h => rrs_err zs k a l bs h
      have HS0 : Hid (∀ (a : Int) (l : List Rec) (bs : List Int), Pk.rrs zs 0 a l bs = ((l, bs), a, 0)) := fun a l bs => rfl
      clear HSL HGL
      go_enter Tryz.func35, Tryz.ntmps35
      go_wp2_with fail
      refine (unhide K).mono ?_
      rintro e w ⟨rfl, rfl⟩
      clear K
      go_wp2
      clear hc4d
      go_loopw [2, 3, 4, 7, 8, 9, 23] (fun lv bv av _ _ _ iv wr => ∃ (k a : Nat) (ps : List (Rec × Value)) (bs : List Int), iv = .int .i64 k ∧ av = .int .i64 a ∧ k ≤ cnt ∧ a ≤ zs.length ∧ ps.length = k ∧ bs.length = k ∧ Pk.rrs zs (cnt - k) a (ps.map (·.1)) bs = RES ∧ Rown wr w.heap.size lv ps ∧ Ok .i64 3 wr w.heap.size bv bs ∧ Below w.heap.size w wr) (fun _ _ _ _ _ _ iv _ => cnt - (intOf iv).toNat)
      case atStart => exact ⟨0, n0, [], [], rfl, rfl, by omega, hn0, rfl, rfl, unhide HRES, Rown.nil _ _, Ok.nil _ _ _ _, Below.refl _ _⟩
      case round =>
        obtain ⟨k, a, ps, bs, rfl, rfl, hk, ha, hpl, hbl, hrl, hrow, hok, hbel⟩ := hrel
        have hpl2 : ps.length ≤ 4096 := by omega
        have hbl2 : bs.length ≤ 4096 := by omega
        have HPL := hide hpl
        have HBL := hide hbl
        have hal : (a : Int) ≤ 262144 := by omega
        have hsz := hbel.size
        clear hpl hbl
        by_cases hlt : k < cnt
        · have KR2 := hide ((unhide KR) a wr hbel ha)
          have hrb := (unhide HRB) a
          obtain ⟨d, hd⟩ : ∃ d, cnt - k = d + 1 := ⟨cnt - k - 1, by omega⟩
          have hd2 : cnt - (k + 1) = d := by omega
          rw [hd] at hrl
          have hs1 := (unhide HS1) d a (ps.map (·.1)) bs
          have hs2 := (unhide HS2) d a (ps.map (·.1)) bs
          generalize Pk.rr zs a = q at *
          clear KR HRB HS1 HS2 HS0 HRES
          by_cases he : q.2.2 = 0
          · have hq : (q.2.2 != 0) = false := by simp [he]
            obtain ⟨m, hm1, hm2, hm3⟩ := hrb he ha
            have HNX : Hid (Pk.rrs zs (cnt - (k + 1)) m (ps.map (·.1) ++ [q.1]) (bs ++ [(a : Int)]) = RES) := by
              show _ = RES
              rw [hd2, ← hm1, ← hs1 he]; exact hrl
            obtain ⟨r, qa, qe⟩ := q
            simp only at hm1 hq HNX he KR2 ⊢
            subst hm1
            clear hs1 hs2 hrl hd hd2 hrb he
            have hfl : ∀ W a m, (store a (.float .f64 r.wt) m).run Tryz.prog W = stored Tryz.prog W a (.float .f64 r.wt) m := fun W a m => run_store Tryz.prog W a _ m rfl
            go_wp2_with fail
            refine (unhide KR2).mono ?_
            rintro e w1 ⟨vt, rfl, hvt, hb1⟩
            obtain ⟨tao, tcap, hvs, _, _⟩ := hvt.sk.shape
            have hs1 := hb1.size
            have HM : Hid (∀ o o2, ((w1.alloc o).alloc o2).ownsRow w.heap.size 46 8 u2 ps.length (rcells ps)) := fun o o2 => ((own_keep hrow.1 fun g hg => hb1.block g (hrow.1.lt g hg).2).alloc o).alloc o2
            have HMORE : Hid (∀ o1 o2 v2 w2, w2.ownsRow w.heap.size 46 8 v2 (ps.length + 1) (rcells ps ++ rcell (r, vt)) → ((w1.alloc o1).alloc o2).grownBy w2 u2.ownBlock → Rown w2 w.heap.size v2 (ps ++ [(r, vt)]) ∧ Ok .i64 3 w2 w.heap.size u3 bs ∧ Below w.heap.size w w2) := fun o1 o2 v2 w2 h1 h2 => rown_more hrow hok hbel hb1 hvt h1 h2
            subst hvs
            have HNEW : Hid (∀ o, ∀ j u, (rcell (r, .slice tao r.to.length tcap))[j]? = some u → ((w1.alloc o).alloc (.cells #[.int .i64 r.kind, .int .i64 r.lo, .int .i64 r.hi, .int .i64 r.n, .slice tao r.to.length tcap, .string r.name, .string r.other, .float .f64 r.wt] 46)).cell? ((⟨w1.heap.size + 1, 0, none⟩ : Addr).add j) = some u) := fun o => rec_new2 (w1.alloc o) (w1.heap.size + 1) (by simp) r _
            have HONE := hide (rec_one r (vt := .slice tao r.to.length tcap) rfl)
            clear KR2 hrow hok hbel hb1 hvt
            simp only [rarr]
            go_wp2_with (at_builtin; refine wpList_append_own _ rfl (.tmp 36) (.tmp 38) 22 rfl w.heap.size 46 i1 (.agg #[.int .i64 0, .int .i64 0, .int .i64 0, .int .i64 0, .slice none 0 0, .string ⟨#[]⟩, .string ⟨#[]⟩, .float .f64 0]) 8 96 Tryz.underlying22 hj hy0 hy1 hy2 rfl (by decide) _ _ _ rfl ((unhide HM) _ _) ⟨w1.heap.size + 1, 0, none⟩ 1 1 (rcell (r, .slice tao r.to.length tcap)) rfl rfl ((unhide HNEW) _) (unhide HONE) (by unfold maxLen; omega) (by omega) (by simp; omega) ?_)
            intro v2 w2 hrow2 hg2 _
            obtain ⟨hR2, hK2, hB2⟩ := (unhide HMORE) _ _ v2 w2 hrow2 hg2
            have hs2 := hB2.size
            have HM3 : Hid (∀ o, (w2.alloc o).ownsRow w.heap.size 3 1 u3 bs.length (bs.map (Value.int .i64))) := fun o => hK2.row.alloc o
            have HMORE3 : Hid (∀ o v3 w3, w3.ownsRow w.heap.size 3 1 v3 (bs.length + 1) (bs.map (Value.int .i64) ++ [.int .i64 (a : Int)]) → (w2.alloc o).grownBy w3 u3.ownBlock → Rown w3 w.heap.size v2 (ps ++ [(r, .slice tao r.to.length tcap)]) ∧ Ok .i64 3 w3 w.heap.size v3 (bs ++ [(a : Int)]) ∧ Below w.heap.size w w3) := fun o v3 w3 h1 h2 => begins_more hR2 hK2 hB2 hbl2 ⟨by omega, by omega⟩ h1 h2
            clear HM HMORE HNEW HONE hrow2 hg2 hR2 hK2 hB2
            go_wp2_with (at_builtin; refine wpList_append_own _ rfl (.tmp 40) (.tmp 42) 70 rfl w.heap.size 3 i2 (.int .i64 0) 1 8 Tryz.underlying70 hj2 hx0 hx1 hx2 rfl (by decide) _ _ _ rfl ((unhide HM3) _) ⟨w2.heap.size, 0, none⟩ 1 1 [.int .i64 (a : Int)] rfl rfl (one_new _ _ _ _ rfl) (int_one _ _) (by unfold maxLen; omega) (by omega) (by simp; omega) ?_)
            intro v3 w3 hrow3 hg3 _
            have R := hide ((unhide HMORE3) _ v3 w3 hrow3 hg3)
            clear HM3 HMORE3 hrow3 hg3
            go_wp2
            go_roundw
            case rel => exact ⟨k + 1, m, ps ++ [(r, .slice tao r.to.length tcap)], bs ++ [(a : Int)], by go_num, rfl, by omega, hm3, by have := unhide HPL; simp; omega, by have := unhide HBL; simp; omega, by rw [List.map_append]; exact unhide HNX, (unhide R).1, (unhide R).2.1, (unhide R).2.2⟩
            case measure => simp [intOf]; omega
          · have hq : (q.2.2 != 0) = true := by simpa using he
            have hres := hs2 he
            rw [hrl] at hres
            subst hres
            obtain rfl := (unhide HF1) he
            obtain ⟨r, qa, qe⟩ := q
            simp only at hq he KR2 ⊢
            clear hs1 hs2 hrl hd hd2 hrb he HF1 HF2 HF3
            have hfl : ∀ W a m, (store a (.float .f64 r.wt) m).run Tryz.prog W = stored Tryz.prog W a (.float .f64 r.wt) m := fun W a m => run_store Tryz.prog W a _ m rfl
            go_wp2_with fail
            refine (unhide KR2).mono ?_
            rintro e w1 ⟨vt, rfl, hvt, hb1⟩
            obtain ⟨tao, tcap, hvs, _, _⟩ := hvt.sk.shape
            subst hvs
            have HF := fun o => RdB.no w (w1.alloc o) qa qe ((bthen hbel hb1).alloc (bthen hbel hb1).size o)
            clear KR2 hvt hb1 hrow hok hbel
            simp only [rarr]
            go_wp2
            refine bodyPost_ret (v := .tuple #[.slice none 0 0, .slice none 0 0, .int .i64 qa, .int .i64 qe]) (by simp [results, Tryz.results35, go_sem]) rfl ?_
            exact HF _
        · have hkk : cnt - k = 0 := by omega
          rw [hkk, (unhide HS0)] at hrl
          subst hrl
          by_cases ht : (a : Int) < zs.length
          · obtain rfl := (unhide HF2) rfl ht
            have HF := RdB.no w wr a 14 hbel
            clear hrow hok hbel HF1 HF2 HF3 KR HRB HS1 HS2 HS0 HRES
            go_wp2
            refine bodyPost_ret (v := .tuple #[.slice none 0 0, .slice none 0 0, .int .i64 (a : Int), .int .i64 14]) (by simp [results, Tryz.results35, go_sem]) rfl ?_
            exact HF
          · obtain rfl := (unhide HF3) rfl (by show (zs.length : Int) ≤ (a : Int); omega)
            have HF : RdB w ((ps.map (·.1), bs), (a : Int), 0) (.returned (.tuple #[u2, u3, .int .i64 (a : Int), .int .i64 0])) wr := ⟨u2, u3, ps, rfl, hrow, rfl, hok, hbel⟩
            have hd : decide ((a : Int) < (zs.length : Int)) = false := decide_eq_false ht
            clear hrow hok hbel HF1 HF2 HF3 KR HRB HS1 HS2 HS0 HRES
            go_wp2
            refine bodyPost_ret (v := .tuple #[u2, u3, .int .i64 (a : Int), .int .i64 0]) (by simp [results, Tryz.results35, go_sem]) rfl ?_
            exact HF
  · rw [if_pos (by simpa using he)] at K ⊢
    have hq : (q0.2.2 != 0) = true := by simpa using he
    have HF := RdB.no w w 5 q0.2.2 (Below.refl _ _)
    clear HSL HGL hok he
    generalize zs.length = m at *
    go_enter Tryz.func35, Tryz.ntmps35
    go_wp2_with fail
    refine (unhide K).mono ?_
    rintro e w ⟨rfl, rfl⟩
    clear K
    go_wp2
    refine bodyPost_ret (v := .tuple #[.slice none 0 0, .slice none 0 0, .int .i64 5, .int .i64 q0.2.2]) (by simp [results, Tryz.results35, go_sem]) rfl ?_
    exact HF
end Go.Proofs.YtdnkfnccbmbpaaaGreatDoor
/- Unpack. -/
namespace Go.Proofs.YtdnkfnccbmbpaaaGreatDoor
open Go.RowKit
open Wi

theorem rrs_facts {zs : List Int} (hb : Byt zs) : ∀ (k a : Nat) (l : List Rec) (bs : List Int), a ≤ zs.length → l.length = bs.length → (∀ r ∈ l, RecFit r) → (Pk.rrs zs k a l bs).2.2 = 0 →
    (Pk.rrs zs k a l bs).1.1.length = (Pk.rrs zs k a l bs).1.2.length ∧ (Pk.rrs zs k a l bs).1.1.length = l.length + k ∧ ∀ r ∈ (Pk.rrs zs k a l bs).1.1, RecFit r
  | 0, a, l, bs, _, hl, hf, _ => ⟨hl, rfl, hf⟩
  | k + 1, a, l, bs, ha, hl, hf, h => by
    by_cases he : (Pk.rr zs a).2.2 = 0
    · rw [rrs_step zs k a l bs he] at h ⊢
      obtain ⟨m, h1, h2, h3⟩ := rr_bound he ha
      have hfit := rr_fit hb he ha
      rw [h1] at h ⊢
      have ih := rrs_facts hb k m (l ++ [(Pk.rr zs a).1]) (bs ++ [(a : Int)]) h3 (by simp [hl]) (fun r hr => by
        rcases List.mem_append.1 hr with hr | hr
        · exact hf r hr
        · simp only [List.mem_singleton] at hr; rw [hr]; exact hfit) h
      refine ⟨ih.1, ?_, ih.2.2⟩
      rw [ih.2.1, List.length_append]
      simp only [List.length_cons, List.length_nil]
      omega
    · rw [rrs_err zs k a l bs he] at h
      exact absurd h he
theorem read_facts {zs : List Int} (hb : Byt zs) (h : (Pk.read zs).2.2 = 0) : (Pk.read zs).1.1.length = (Pk.read zs).1.2.length ∧ (Pk.read zs).1.1.length ≤ 4096 ∧ ∀ r ∈ (Pk.read zs).1.1, RecFit r := by
  unfold Pk.read at h ⊢
  by_cases h1 : (Ref.rd zs 5).2.2 = 0
  · have hok := rd_ok zs 5 h1
    rw [if_neg (by simpa using h1)] at h ⊢
    by_cases h2 : 4096 < (Ref.rd zs 5).1
    · rw [if_pos h2] at h; simp at h
    rw [if_neg h2] at h ⊢
    obtain ⟨n0, hn0⟩ : ∃ k : Nat, (Ref.rd zs 5).2.1 = (k : Int) := ⟨(Ref.rd zs 5).2.1.toNat, by omega⟩
    rw [hn0] at h hok ⊢
    by_cases h3 : (Pk.rrs zs (Ref.rd zs 5).1.toNat n0 [] []).2.2 = 0
    · have hf := rrs_facts hb (Ref.rd zs 5).1.toNat n0 [] [] (by omega) rfl (fun r hr => by cases hr) h3
      rw [if_neg (by simpa using h3)] at h ⊢
      by_cases h4 : (Pk.rrs zs (Ref.rd zs 5).1.toNat n0 [] []).2.1 < zs.length
      · rw [if_pos h4] at h; simp at h
      rw [if_neg h4]
      refine ⟨hf.1, ?_, hf.2.2⟩
      rw [hf.2.1]
      simp only [List.length_nil]
      omega
    · rw [if_pos (by simpa using h3)] at h
      exact absurd h h3
  · rw [if_pos (by simpa using h1)] at h
    exact absurd h h1
/-- What Unpack answers. -/
def UnpB (w : World) (x : List Rec × Int × Int) (e : Ending) (w' : World) : Prop := ∃ vl ps, e = .returned (.tuple #[vl, .int .i64 x.2.1, .int .i64 x.2.2]) ∧ Rown w' w.heap.size vl ps ∧ ps.map (·.1) = x.1 ∧ Below w.heap.size w w'
theorem UnpB.no (w w' : World) (a e : Int) (hb : Below w.heap.size w w') : UnpB w ([], a, e) (.returned (.tuple #[.slice none 0 0, .int .i64 a, .int .i64 e])) w' := ⟨_, [], rfl, Rown.nil _ _, rfl, hb⟩
theorem Rown.lower {w : World} {B B' : Nat} {v : Value} {ps : List (Rec × Value)} (h : Rown w B v ps) (hB : B' ≤ B) : Rown w B' v ps := by
  refine ⟨⟨h.1.1, ?_⟩, fun p hp => (h.2 p hp).lower hB⟩
  rcases h.1.2 with h4 | ⟨g, cap, cur, hv, hg, r⟩
  · exact .inl h4
  · exact .inr ⟨g, cap, cur, hv, by omega, r⟩
theorem Rown.below {w w' : World} {B : Nat} {v : Value} {ps : List (Rec × Value)} (h : Rown w B v ps) (hb : Below w.heap.size w w') : Rown w' B v ps :=
  ⟨own_keep h.1 fun g hg => hb.block g (h.1.lt g hg).2, fun p hp => (h.2 p hp).below hb⟩
theorem Rown.shape {w : World} {B : Nat} {v : Value} {ps : List (Rec × Value)} (h : Rown w B v ps) : ∃ ao cap, v = .slice ao ps.length cap ∧ cap ≤ 9223372036854775807 := by
  rcases h.1.2 with ⟨rfl, h0⟩ | ⟨g, cap1, cur, rfl, _, _, _, hc, _⟩
  · exact ⟨none, 0, by rw [h0], by omega⟩
  · exact ⟨_, cap1, rfl, by unfold maxLen at hc; omega⟩
theorem framed_len {zs : List Int} (h : (Pk.framed zs).2 = 0) : zs.length ≤ 262144 ∧ 10 ≤ zs.length := by
  unfold Pk.framed at h
  by_cases h1 : 262144 < zs.length
  · rw [if_pos h1] at h; simp at h
  rw [if_neg h1] at h
  by_cases h2 : zs.length < 10
  · rw [if_pos h2] at h; simp at h
  omega
set_option maxRecDepth 8000 in
set_option maxHeartbeats 8000000 in
theorem unpack_any (v : Value) (zs : List Int) (w : World) (hgl : Glob w) (hs : Sl w v zs) : Calls Tryz.prog 20 #[v] w (UnpB w (Pk.unpack zs)) := by
  have K := hide (framed_any v zs w hs)
  have HGL : Hid (∀ W, Below w.heap.size w W → Glob W) := fun W h => hgl.on h
  by_cases he : (Pk.framed zs).2 = 0
  · have hl := framed_len he
    have hp : Pk.unpack zs = if (Pk.read (zs.take (zs.length - 4))).2.2 ≠ 0 then ([], (Pk.read (zs.take (zs.length - 4))).2)
        else if (Cn.check6 (Pk.read (zs.take (zs.length - 4))).1.1).2 ≠ 0 then ([], (Pk.read (zs.take (zs.length - 4))).1.2.getD (Cn.check6 (Pk.read (zs.take (zs.length - 4))).1.1).1 0, (Cn.check6 (Pk.read (zs.take (zs.length - 4))).1.1).2)
        else ((Pk.read (zs.take (zs.length - 4))).1.1, 0, 0) := by
      unfold Pk.unpack; rw [if_neg (by simpa using he)]
    rw [hp]
    have hbt : Byt (zs.take (zs.length - 4)) := fun z hz => hs.1 z (List.mem_of_mem_take hz)
    have hfa := fun h => read_facts hbt h
    obtain ⟨b, off, cap, rfl, hc1, hc2, _⟩ := hs.place (by omega)
    have hH : Sl w (.slice (some ⟨b, off, none⟩) (zs.length - 4) cap) (zs.take (zs.length - 4)) := hs.head (by omega) hc1
    have KR : Hid (∀ W, Below w.heap.size w W → Calls Tryz.prog 35 #[.slice (some ⟨b, off, none⟩) (zs.length - 4) cap] W (RdB W (Pk.read (zs.take (zs.length - 4))))) := fun W hW => read_all _ _ W ((unhide HGL) W hW) (hH.below hW) (by rw [List.length_take]; omega)
    have hq0 : ((Pk.framed zs).2 != 0) = false := by simp [he]
    clear hs hp hH hbt he
    generalize Pk.read (zs.take (zs.length - 4)) = q at *
    generalize Pk.framed zs = fq at *
    generalize zs.length = m at *
    obtain ⟨n, rfl⟩ : ∃ n, m = n + 4 := ⟨m - 4, by omega⟩
    rw [show n + 4 - 4 = n by omega] at *
    have hn1 : (6 : Int) ≤ (n : Int) := by omega
    have hn2 : (n : Int) ≤ 262140 := by omega
    have hq1 : (0 : Int) ≤ (n : Int) := by omega
    have hqc : (n : Int) ≤ (cap : Int) := by omega
    have hq3 : (n : Int) + 4 ≤ (cap : Int) := by omega
    have hq5 : n ≤ cap := by omega
    clear hl
    by_cases h2 : q.2.2 = 0
    · obtain ⟨f1, f2, f3⟩ := hfa h2
      rw [if_neg (by simpa using h2)]
      have hr0 : (q.2.2 != 0) = false := by simp [h2]
      have KC : Hid (∀ vl W ps, Below w.heap.size w W → Rown W w.heap.size vl ps → ps.map (·.1) = q.1.1 → Calls Tryz.prog 13 #[vl] W (PairIB W (Cn.check6 q.1.1))) := fun vl W ps hW hR he => by
        refine check_any vl _ W ((unhide HGL) W hW) ?_
        rw [← he]
        have hpl : ps.length = q.1.1.length := by rw [← he, List.length_map]
        refine hR.rcs (by omega) (fun p hp => f3 _ ?_)
        rw [← he]
        exact List.mem_map.2 ⟨p, hp, rfl⟩
      have hlt := fun h => check6_lt (l := q.1.1) h f2
      have hcz := fun h => Cn.check6_zero (l := q.1.1) h
      obtain ⟨⟨rs, bs⟩, qa, qe⟩ := q
      simp only at h2 f1 f2 KC hlt hr0 hcz ⊢
      subst h2
      clear hfa f3 hr0
      by_cases h3 : (Cn.check6 rs).2 = 0
      · rw [if_neg (by simpa using h3)]
        rw [hcz h3] at KC
        clear hcz hlt h3
        go_enter Tryz.func20, Tryz.ntmps20
        go_wp2_with fail
        refine (unhide K).mono ?_
        rintro e1 w1 ⟨rfl, hb1⟩
        have KR2 := hide ((unhide KR) w1 hb1)
        clear K KR
        go_wp2_with fail
        refine (unhide KR2).mono ?_
        rintro e2 w2 ⟨vl, vb, ps, rfl, hR, hps, hO, hb2⟩
        have hB2 := bthen hb1 hb2
        have hR2 := hR.lower hb1.size
        have KC2 := hide ((unhide KC) vl w2 ps hB2 hR2 hps)
        obtain ⟨lao, lcap, hvl, hlc⟩ := hR2.shape
        have HR2 := hide hR2
        have HPS := hide hps
        subst hvl
        clear KR2 KC hR hR2 hO hps
        go_wp2_with fail
        refine (unhide KC2).mono ?_
        rintro e3 w3 ⟨rfl, hb3⟩
        have HF : UnpB w (rs, 0, 0) (.returned (.tuple #[.slice lao ps.length lcap, .int .i64 0, .int .i64 0])) w3 := ⟨_, ps, rfl, (unhide HR2).below hb3, unhide HPS, bthen hB2 hb3⟩
        clear KC2 HR2 HPS hb3 hB2 hb1 hb2
        go_wp2
        go_ret3
        exact HF
      · rw [if_pos (by simpa using h3)]
        have hl2 := hlt h3
        have hck : ((Cn.check6 rs).2 != 0) = true := by simpa using h3
        have hl3 : (Cn.check6 rs).1 < bs.length := by omega
        clear hcz hlt h3
        generalize Cn.check6 rs = ck at *
        obtain ⟨ci, ce⟩ := ck
        simp only at hck hl2 hl3 KC ⊢
        go_enter Tryz.func20, Tryz.ntmps20
        go_wp2_with fail
        refine (unhide K).mono ?_
        rintro e1 w1 ⟨rfl, hb1⟩
        have KR2 := hide ((unhide KR) w1 hb1)
        clear K KR
        go_wp2_with fail
        refine (unhide KR2).mono ?_
        rintro e2 w2 ⟨vl, vb, ps, rfl, hR, hps, hO, hb2⟩
        have hB2 := bthen hb1 hb2
        have hR2 := hR.lower hb1.size
        have KC2 := hide ((unhide KC) vl w2 ps hB2 hR2 hps)
        obtain ⟨lao, lcap, hvl, hlc⟩ := hR2.shape
        obtain ⟨bb, boff, bcap, hvb, hbc1, hbc2, hbc⟩ := hO.sk.place (by show 0 < bs.length; omega)
        have x0 := hbc ci hl3
        subst hvl
        have hvb2 : vb = .slice (some ⟨bb, boff, none⟩) bs.length bcap := hvb
        subst hvb2
        have hbl : (bs.length : Int) ≤ 4096 := by omega
        clear KR2 KC hR hR2 hO hps hvb hbc
        go_wp2_with fail
        refine (unhide KC2).mono ?_
        rintro e3 w3 ⟨rfl, hb3⟩
        have x1 : w3.cell? ⟨bb, boff + ci, none⟩ = some (.int .i64 (bs.getD ci 0)) := by rw [hb3.cell (lt_of_cell? x0)]; exact x0
        have HF : Hid (∀ k, UnpB w ([], bs.getD ci 0, ce) (.returned (.tuple #[.slice none 0 0, .int .i64 (bs.getD ci 0), .int .i64 ce])) (w3.drewN k)) := fun k => UnpB.no _ _ _ _ (bthen (bthen hB2 hb3) (drewB ⟨k, rfl⟩))
        have hci : (0 : Int) ≤ (ci : Int) := by omega
        have hci2 : (ci : Int) < (bs.length : Int) := by omega
        clear KC2 hb3 hB2 hb1 hb2 x0
        generalize bs.getD ci 0 = z at *
        go_wp2
        go_quiet (fail)
        go_wp2
        go_ret3
        exact (unhide HF) _
    · rw [if_pos (by simpa using h2)]
      have hr0 : (q.2.2 != 0) = true := by simpa using h2
      obtain ⟨ls, qa, qe⟩ := q
      simp only at h2 hr0 ⊢
      clear hfa h2
      go_enter Tryz.func20, Tryz.ntmps20
      go_wp2_with fail
      refine (unhide K).mono ?_
      rintro e1 w1 ⟨rfl, hb1⟩
      have KR2 := hide ((unhide KR) w1 hb1)
      clear K KR
      go_wp2_with fail
      refine (unhide KR2).mono ?_
      rintro e2 w2 ⟨vl, vb, ps, rfl, hR, hps, hO, hb2⟩
      have HF := UnpB.no w w2 qa qe (bthen hb1 hb2)
      clear KR2 hR hps hO hb1 hb2
      go_wp2
      go_ret3
      exact HF
  · have hp : Pk.unpack zs = ([], Pk.framed zs) := by unfold Pk.unpack; rw [if_pos (by simpa using he)]
    rw [hp]
    have hq0 : ((Pk.framed zs).2 != 0) = true := by simpa using he
    obtain ⟨ao, cap, rfl, _, _⟩ := hs.shape
    clear hs hp he
    generalize Pk.framed zs = fq at *
    generalize zs.length = m at *
    go_enter Tryz.func20, Tryz.ntmps20
    go_wp2_with fail
    refine (unhide K).mono ?_
    rintro e1 w1 ⟨rfl, hb1⟩
    have HF := UnpB.no w w1 fq.1 fq.2 hb1
    clear K hb1
    go_wp2
    go_ret3
    exact HF
end Go.Proofs.YtdnkfnccbmbpaaaGreatDoor
