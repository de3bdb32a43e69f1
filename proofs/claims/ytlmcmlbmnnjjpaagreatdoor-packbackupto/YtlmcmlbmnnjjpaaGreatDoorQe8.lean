/- Back: what is unpacked is packed as it was: plain. -/
import Derived.Test.YtlmcmlbmnnjjpaaGreatDoorQd8
namespace Go.Proofs.YtlmcmlbmnnjjpaaGreatDoor
open Wi

/-- The bytes from place a to place b. -/
def seg (zs : List Int) (a b : Int) : List Int := (zs.drop a.toNat).take (b - a).toNat
theorem seg_app (zs : List Int) {a b c : Int} (h0 : 0 ≤ a) (h1 : a ≤ b) (h2 : b ≤ c) : seg zs a c = seg zs a b ++ seg zs b c := by
  unfold seg
  have h := take_drop_add zs a.toNat b.toNat c.toNat (by omega) (by omega)
  rw [show (c - a).toNat = c.toNat - a.toNat by omega, show (b - a).toNat = b.toNat - a.toNat by omega, show (c - b).toNat = c.toNat - b.toNat by omega]
  exact h
theorem ru_back (zs : List Int) (a most : Int) (hb : Byt zs) (h : (Pk.ru zs a most).2.2 = 0) : Ref.uint (Pk.ru zs a most).1 = seg zs a (Pk.ru zs a most).2.1 := by
  unfold Pk.ru at h ⊢
  by_cases h1 : (Ref.rd zs a).2.2 = 0
  · have hf := rd_forth zs a hb h1
    rw [if_neg (by simpa using h1)] at h ⊢
    by_cases h2 : most < (Ref.rd zs a).1
    · rw [if_pos h2] at h; simp at h
    rw [if_neg h2]
    exact hf
  · rw [if_pos (by simpa using h1)] at h
    exact absurd h h1
theorem rl_back (zs : List Int) (hb : Byt zs) : ∀ (k : Nat) (a : Int) (acc : List Int), 0 ≤ a → a ≤ zs.length → (Pk.rl zs k a acc).2.2 = 0 → ∃ l, (Pk.rl zs k a acc).1 = acc ++ l ∧ l.length = k ∧ l.flatMap Ref.uint = seg zs a (Pk.rl zs k a acc).2.1
  | 0, a, acc, _, _, _ => ⟨[], by simp [Pk.rl], rfl, by simp [Pk.rl, seg]⟩
  | k + 1, a, acc, h0, ha, h => by
    by_cases he : (Pk.ru zs a 1114111).2.2 = 0
    · have hu := ru_back zs a 1114111 hb he
      have ho := ru_ok zs a 1114111 he
      rw [rl_step zs k a acc he] at h ⊢
      have hr := rl_ok _ _ _ h ho.2.2.2.2
      obtain ⟨l, h1, h2, h3⟩ := rl_back zs hb k _ _ (by omega) ho.2.2.2.2 h
      refine ⟨(Pk.ru zs a 1114111).1 :: l, by rw [h1]; simp, by simp [h2], ?_⟩
      rw [List.flatMap_cons, hu, h3, ← seg_app zs h0 (by omega) hr.1]
    · rw [rl_err zs k a acc he] at h
      exact absurd h he
theorem fl_fval (l : List Int) (hb : Byt l) (hl : l.length = 8) : Ref.fl (Ref.fval l).toNat = l := by
  match l, hl with
  | [a, b, c, d, e, f, g, h], _ =>
    have q := fun x hx => hb x hx
    have ha := q a (by simp)
    have hb' := q b (by simp)
    have hc := q c (by simp)
    have hd := q d (by simp)
    have he := q e (by simp)
    have hf := q f (by simp)
    have hg := q g (by simp)
    have hh := q h (by simp)
    simp only [Ref.fl, List.range, List.range.loop, List.map_cons, List.map_nil, Ref.fval, Ref.byteAt, List.cons.injEq, and_true]
    refine ⟨by omega, by omega, by omega, by omega, by omega, by omega, by omega, by omega⟩
theorem nums_str (l : List Int) (hb : Byt l) : Wi.nums (strOfNums l) = l := by
  unfold Wi.nums
  rw [strOfNums_data, List.map_map]
  conv => rhs; rw [← List.map_id l]
  apply List.map_congr_left
  intro z hz
  have := hb z hz
  simp
  omega
theorem str_size (l : List Int) : (strOfNums l).size = l.length := by
  show (l.map _).toArray.size = _
  simp
theorem seg_byt {zs : List Int} (hb : Byt zs) (a b : Int) : Byt (seg zs a b) := fun z hz => hb z (List.mem_of_mem_drop (List.mem_of_mem_take hz))
theorem rn_back {zs : List Int} {a : Int} {r : Rec} {g : Int → Rec} (hb : Byt zs) (h : (Pk.rn zs a r g).2.2 = 0) : ∃ n, (Pk.rn zs a r g).1 = g n ∧ Ref.uint n = seg zs a (Pk.rn zs a r g).2.1 := by
  unfold Pk.rn at h ⊢
  by_cases h1 : (Pk.ru zs a 1114111).2.2 = 0
  · rw [if_neg (by simpa using h1)]
    exact ⟨_, rfl, ru_back zs a 1114111 hb h1⟩
  · rw [if_pos (by simpa using h1)] at h
    exact absurd h h1
theorem rt_byt (zs : List Int) (a most : Int) (hb : Byt zs) : Byt (Ref.rt zs a most).1 := by
  unfold Ref.rt
  split
  · exact Byt.nil
  · split
    · exact Byt.nil
    · split
      · exact Byt.nil
      · split
        · exact Byt.nil
        · exact fun z hz => hb z (List.mem_of_mem_drop (List.mem_of_mem_take hz))
theorem rs_back {zs : List Int} {a : Int} {r : Rec} {g : ByteArray → Rec} (hb : Byt zs) (h : (Pk.rs zs a r g).2.2 = 0) : ∃ s : ByteArray, (Pk.rs zs a r g).1 = g s ∧ Ref.uint s.size ++ Wi.nums s = seg zs a (Pk.rs zs a r g).2.1 := by
  unfold Pk.rs at h ⊢
  by_cases h1 : (Ref.rt zs a 4).2.2 = 0
  · rw [if_neg (by simpa using h1)]
    have hf := rt_forth zs a 4 hb h1
    refine ⟨_, rfl, ?_⟩
    rw [str_size, nums_str _ (rt_byt zs a 4 hb)]
    exact hf.2.2.2
  · rw [if_pos (by simpa using h1)] at h
    exact absurd h h1
/-- A part read is written as it was. -/
theorem fr_back {zs : List Int} {a : Int} {r : Rec} {f : Nat} (hb : Byt zs) (h0 : 0 ≤ a) (ht : f = 7 → r.to = []) (h : (Pk.fr zs a r f).2.2 = 0) : Pk.fb (Pk.fr zs a r f).1 f = seg zs a (Pk.fr zs a r f).2.1 := by
  match f, h, ht with
  | 0, h, _ => obtain ⟨n, e, hu⟩ := rn_back hb h; rw [show (Pk.fr zs a r 0).1 = _ from e]; exact hu
  | 1, h, _ => obtain ⟨n, e, hu⟩ := rn_back hb h; rw [show (Pk.fr zs a r 1).1 = _ from e, ← (show _ = seg zs a (Pk.fr zs a r 1).2.1 from hu)]; show Ref.uint (r.lo + n - r.lo) = _; rw [show r.lo + n - r.lo = n by omega]
  | 2, h, _ => obtain ⟨n, e, hu⟩ := rn_back hb h; rw [show (Pk.fr zs a r 2).1 = _ from e]; exact hu
  | 3, h, _ => obtain ⟨n, e, hu⟩ := rn_back hb h; rw [show (Pk.fr zs a r 3).1 = _ from e]; exact hu
  | 4, h, _ => obtain ⟨n, e, hu⟩ := rn_back hb h; rw [show (Pk.fr zs a r 4).1 = _ from e]; exact hu
  | 5, h, _ => obtain ⟨s, e, hu⟩ := rs_back hb h; rw [show (Pk.fr zs a r 5).1 = _ from e]; exact hu
  | 6, h, _ => obtain ⟨s, e, hu⟩ := rs_back hb h; rw [show (Pk.fr zs a r 6).1 = _ from e]; exact hu
  | 7, h, ht =>
    rw [fr7] at h ⊢
    by_cases h1 : (Pk.ru zs a 24).2.2 = 0
    · have ho := ru_ok zs a 24 h1
      have hu := ru_back zs a 24 hb h1
      rw [if_neg (by simpa using h1)] at h ⊢
      rw [ht rfl] at h ⊢
      obtain ⟨l, e1, e2, e3⟩ := rl_back zs hb _ _ _ (by omega) ho.2.2.2.2 h
      have hr := rl_ok _ _ _ h ho.2.2.2.2
      show Ref.uint _ ++ _ = _
      simp only [reTo]
      rw [e1, List.nil_append, e2, e3, show (((Pk.ru zs a 24).1.toNat : Nat) : Int) = (Pk.ru zs a 24).1 by omega, hu, ← seg_app zs h0 (by omega) hr.1]
    · rw [if_pos (by simpa using h1)] at h
      exact absurd h h1
  | n + 8, h, _ =>
    rw [fr8] at h ⊢
    by_cases h1 : (Ref.rf zs a).2.2 = 0
    · have ho := rf_ok h1
      rw [if_neg (by simpa using h1)]
      show Ref.fl (Ref.rf zs a).1.toNat = seg zs a (Ref.rf zs a).2.1
      have hs : (Ref.rf zs a).2.1 = a + 8 := by
        unfold Ref.rf at h1 ⊢
        by_cases q1 : a < 0 ∨ (zs.length : Int) < a
        · rw [if_pos q1] at h1; simp at h1
        rw [if_neg q1] at h1 ⊢
        by_cases q2 : (zs.length : Int) - a < 8
        · rw [if_pos q2] at h1; simp at h1
        rw [if_neg q2]
      rw [ho.2.2.2, hs]
      have hl : ((zs.drop a.toNat).take 8).length = 8 := by rw [List.length_take, List.length_drop]; omega
      rw [fl_fval _ (fun z hz => hb z (List.mem_of_mem_drop (List.mem_of_mem_take hz))) hl]
      unfold seg
      rw [show (a + 8 - a).toNat = 8 by omega]
    · rw [if_pos (by simpa using h1)] at h
      exact absurd h h1
/-- May g be read behind f and leave f's bytes? -/
def leaves (f g : Nat) : Bool :=
  match g with
  | 0 => !(f == 0 || f == 1 || f == 2)
  | 1 => !(f == 1)
  | 2 => !(f == 0 || f == 1 || f == 2)
  | 3 => !(f == 3)
  | 4 => !(f == 4 || f == 7)
  | 5 => !(f == 5)
  | 6 => !(f == 6)
  | 7 => !(f == 4 || f == 7)
  | _ => f < 8
theorem fr_leaves {zs : List Int} {a : Int} {r : Rec} {f g : Nat} (hl : leaves f g = true) (h : (Pk.fr zs a r g).2.2 = 0) : Pk.fb (Pk.fr zs a r g).1 f = Pk.fb r f := by
  have e : ∃ x, (Pk.fr zs a r g).1 = x ∧ Pk.fb x f = Pk.fb r f := by
    match g, h, hl with
    | 0, h, hl =>
      obtain ⟨n, _, _, e⟩ := rn_ok h
      refine ⟨_, e, ?_⟩
      match f, hl with
      | 0, hl => exact absurd hl (by decide)
      | 1, hl => exact absurd hl (by decide)
      | 2, hl => exact absurd hl (by decide)
      | 3, _ => rfl
      | 4, _ => rfl
      | 5, _ => rfl
      | 6, _ => rfl
      | 7, _ => rfl
      | m + 8, _ => rfl
    | 1, h, hl =>
      obtain ⟨n, _, _, e⟩ := rn_ok h
      refine ⟨_, e, ?_⟩
      match f, hl with
      | 0, _ => rfl
      | 1, hl => exact absurd hl (by decide)
      | 2, _ => rfl
      | 3, _ => rfl
      | 4, _ => rfl
      | 5, _ => rfl
      | 6, _ => rfl
      | 7, _ => rfl
      | m + 8, _ => rfl
    | 2, h, hl =>
      obtain ⟨n, _, _, e⟩ := rn_ok h
      refine ⟨_, e, ?_⟩
      match f, hl with
      | 0, hl => exact absurd hl (by decide)
      | 1, hl => exact absurd hl (by decide)
      | 2, hl => exact absurd hl (by decide)
      | 3, _ => rfl
      | 4, _ => rfl
      | 5, _ => rfl
      | 6, _ => rfl
      | 7, _ => rfl
      | m + 8, _ => rfl
    | 3, h, hl =>
      obtain ⟨n, _, _, e⟩ := rn_ok h
      refine ⟨_, e, ?_⟩
      match f, hl with
      | 0, _ => rfl
      | 1, _ => rfl
      | 2, _ => rfl
      | 3, hl => exact absurd hl (by decide)
      | 4, _ => rfl
      | 5, _ => rfl
      | 6, _ => rfl
      | 7, _ => rfl
      | m + 8, _ => rfl
    | 4, h, hl =>
      obtain ⟨n, _, _, e⟩ := rn_ok h
      refine ⟨_, e, ?_⟩
      match f, hl with
      | 0, _ => rfl
      | 1, _ => rfl
      | 2, _ => rfl
      | 3, _ => rfl
      | 4, hl => exact absurd hl (by decide)
      | 5, _ => rfl
      | 6, _ => rfl
      | 7, hl => exact absurd hl (by decide)
      | m + 8, _ => rfl
    | 5, h, hl =>
      obtain ⟨n, e⟩ := rs_ok h
      refine ⟨_, e, ?_⟩
      match f, hl with
      | 0, _ => rfl
      | 1, _ => rfl
      | 2, _ => rfl
      | 3, _ => rfl
      | 4, _ => rfl
      | 5, hl => exact absurd hl (by decide)
      | 6, _ => rfl
      | 7, _ => rfl
      | m + 8, _ => rfl
    | 6, h, hl =>
      obtain ⟨n, e⟩ := rs_ok h
      refine ⟨_, e, ?_⟩
      match f, hl with
      | 0, _ => rfl
      | 1, _ => rfl
      | 2, _ => rfl
      | 3, _ => rfl
      | 4, _ => rfl
      | 5, _ => rfl
      | 6, hl => exact absurd hl (by decide)
      | 7, _ => rfl
      | m + 8, _ => rfl
    | 7, h, hl =>
      have e : ∃ l, (Pk.fr zs a r 7).1 = reTo r l := by
        rw [fr7]
        split
        · exact ⟨r.to, rfl⟩
        · exact ⟨_, rfl⟩
      obtain ⟨l, e⟩ := e
      refine ⟨_, e, ?_⟩
      match f, hl with
      | 0, _ => rfl
      | 1, _ => rfl
      | 2, _ => rfl
      | 3, _ => rfl
      | 4, hl => exact absurd hl (by decide)
      | 5, _ => rfl
      | 6, _ => rfl
      | 7, hl => exact absurd hl (by decide)
      | m + 8, _ => rfl
    | k + 8, h, hl =>
      have e : ∃ u, (Pk.fr zs a r (k + 8)).1 = { r with wt := u } := by
        rw [fr8]
        split
        · exact ⟨r.wt, rfl⟩
        · exact ⟨_, rfl⟩
      obtain ⟨u, e⟩ := e
      refine ⟨_, e, ?_⟩
      match f, hl with
      | 0, _ => rfl
      | 1, _ => rfl
      | 2, _ => rfl
      | 3, _ => rfl
      | 4, _ => rfl
      | 5, _ => rfl
      | 6, _ => rfl
      | 7, _ => rfl
      | m + 8, hl => exact absurd hl (by simp [leaves])
  obtain ⟨x, e1, e2⟩ := e
  rw [e1]; exact e2
theorem frs_leaves {zs : List Int} {f : Nat} : ∀ (fs : List Nat) (a : Int) (r : Rec), (∀ g ∈ fs, leaves f g = true) → (Pk.frs zs fs a r).2.2 = 0 → Pk.fb (Pk.frs zs fs a r).1 f = Pk.fb r f
  | [], _, _, _, _ => rfl
  | g :: fs, a, r, hl, h => by
    by_cases he : (Pk.fr zs a r g).2.2 = 0
    · rw [Pk.frs, if_neg (by simpa using he)] at h ⊢
      rw [frs_leaves fs _ _ (fun x hx => hl x (by simp [hx])) h, fr_leaves (hl g (by simp)) he]
    · rw [Pk.frs, if_pos (by simpa using he)] at h
      exact absurd h he
/-- None of the parts behind one touches its bytes. -/
def Nl : List Nat → Bool
  | [] => true
  | f :: fs => fs.all (leaves f) && Nl fs
theorem form_nl {k : Int} (hf : Cn.fam k ≠ 0) : Nl (Pk.form k) = true := by
  rcases kinds15 hf with rfl | rfl | rfl | rfl | rfl | rfl | rfl | rfl | rfl | rfl | rfl | rfl | rfl | rfl | rfl <;> decide
theorem frs_back {zs : List Int} (hb : Byt zs) : ∀ (fs : List Nat) (a : Int) (r : Rec), 0 ≤ a → a ≤ zs.length → Nl fs = true → Gd fs = true → Riv r fs → (Pk.frs zs fs a r).2.2 = 0 → fs.flatMap (Pk.fb (Pk.frs zs fs a r).1) = seg zs a (Pk.frs zs fs a r).2.1
  | [], a, r, _, _, _, _, _, _ => by simp [Pk.frs, seg]
  | f :: fs, a, r, h0, ha, hn, hg, hi, h => by
    by_cases he : (Pk.fr zs a r f).2.2 = 0
    · have hbd := fr_bound he
      have hf := fr_back hb h0 (fun e => hi.2 (by simp [e])) he
      have hi2 := hi.on hg he
      rw [Pk.frs, if_neg (by simpa using he)] at h ⊢
      simp only [Nl, Bool.and_eq_true, List.all_eq_true] at hn
      simp only [Gd, Bool.and_eq_true] at hg
      have ih := frs_back hb fs _ _ (by omega) hbd.2 hn.2 hg.2 hi2 h
      have hbd2 := frs_bound fs _ _ h hbd.2
      rw [List.flatMap_cons, ih, frs_leaves fs _ _ (fun g hg' => hn.1 g hg') h, hf, ← seg_app zs h0 hbd.1 hbd2.1]
    · rw [Pk.frs, if_pos (by simpa using he)] at h
      exact absurd h he
theorem frs_kind {zs : List Int} : ∀ (fs : List Nat) (a : Int) (r : Rec), (Pk.frs zs fs a r).2.2 = 0 → (Pk.frs zs fs a r).1.kind = r.kind
  | [], _, _, _ => rfl
  | g :: fs, a, r, h => by
    by_cases he : (Pk.fr zs a r g).2.2 = 0
    · rw [Pk.frs, if_neg (by simpa using he)] at h ⊢
      rw [frs_kind fs _ _ h]
      match g, he with
      | 0, he => obtain ⟨n, _, _, e⟩ := rn_ok he; rw [show (Pk.fr zs a r 0).1 = _ from e]
      | 1, he => obtain ⟨n, _, _, e⟩ := rn_ok he; rw [show (Pk.fr zs a r 1).1 = _ from e]
      | 2, he => obtain ⟨n, _, _, e⟩ := rn_ok he; rw [show (Pk.fr zs a r 2).1 = _ from e]
      | 3, he => obtain ⟨n, _, _, e⟩ := rn_ok he; rw [show (Pk.fr zs a r 3).1 = _ from e]
      | 4, he => obtain ⟨n, _, _, e⟩ := rn_ok he; rw [show (Pk.fr zs a r 4).1 = _ from e]
      | 5, he => obtain ⟨n, e⟩ := rs_ok he; rw [show (Pk.fr zs a r 5).1 = _ from e]
      | 6, he => obtain ⟨n, e⟩ := rs_ok he; rw [show (Pk.fr zs a r 6).1 = _ from e]
      | 7, _ => rw [fr7]; split <;> rfl
      | k + 8, _ => rw [fr8]; split <;> rfl
    · rw [Pk.frs, if_pos (by simpa using he)] at h
      exact absurd h he
theorem rr_back {zs : List Int} {n : Nat} (hb : Byt zs) (h : (Pk.rr zs n).2.2 = 0) (hn : n ≤ zs.length) : Pk.rb (Pk.rr zs n).1 = seg zs n (Pk.rr zs n).2.1 := by
  obtain ⟨h1, h2, h3, h4⟩ := rr_ok h hn
  have hk := hb.at n
  have hbd := frs_bound _ _ _ h3 (by omega)
  have hkk := frs_kind _ _ _ h3
  have hfb := frs_back hb _ _ _ (by omega) (by omega) (form_nl h2) (form_gd h2) ⟨⟨by show (0 : Int) ≤ 0; omega, by show (0 : Int) ≤ 1114111; omega⟩, fun _ => rfl⟩ h3
  have hs : seg zs n ((n : Int) + 1) = [zs.getD n 0] := by
    unfold seg
    rw [Int.toNat_natCast, show ((n : Int) + 1 - n).toNat = 1 by omega, List.drop_eq_getElem_cons h1, List.take_succ_cons, List.take_zero]
    simp [List.getD, h1]
  rw [h4, seg_app zs (b := (n : Int) + 1) (by omega) (by omega) hbd.1, hs, ← hfb]
  unfold Pk.rb
  rw [hkk]
  show (zs.getD n 0) % 256 :: _ = _
  have hk2 : 0 ≤ zs.getD n 0 ∧ zs.getD n 0 ≤ 255 := hk
  rw [show (zs.getD n 0) % 256 = zs.getD n 0 by omega]
  rfl
theorem rrs_back {zs : List Int} (hb : Byt zs) : ∀ (k a : Nat) (l : List Rec) (bs : List Int), a ≤ zs.length → (Pk.rrs zs k a l bs).2.2 = 0 → ∃ m, (Pk.rrs zs k a l bs).1.1 = l ++ m ∧ m.length = k ∧ m.flatMap Pk.rb = seg zs a (Pk.rrs zs k a l bs).2.1 ∧ (a : Int) ≤ (Pk.rrs zs k a l bs).2.1 ∧ (Pk.rrs zs k a l bs).2.1 ≤ zs.length
  | 0, a, l, bs, ha, _ => ⟨[], by simp [Pk.rrs], rfl, by simp [Pk.rrs, seg], by simp [Pk.rrs], by simp only [Pk.rrs]; omega⟩
  | k + 1, a, l, bs, ha, h => by
    by_cases he : (Pk.rr zs a).2.2 = 0
    · have hr := rr_back hb he ha
      obtain ⟨m, e1, e2, e3⟩ := rr_bound he ha
      rw [rrs_step zs k a l bs he, e1] at h ⊢
      obtain ⟨l2, q1, q2, q3, q4, q5⟩ := rrs_back hb k m (l ++ [(Pk.rr zs a).1]) (bs ++ [(a : Int)]) e3 h
      refine ⟨(Pk.rr zs a).1 :: l2, by rw [q1]; simp, by simp [q2], ?_, by omega, q5⟩
      rw [List.flatMap_cons, hr, q3, e1, ← seg_app zs (by omega) (by omega) q4]
    · rw [rrs_err zs k a l bs he] at h
      exact absurd h he
theorem read_back {zs : List Int} (hb : Byt zs) (h4 : zs.take 4 = [101, 110, 100, 111]) (h1 : zs.getD 4 0 = 1) (h5 : 5 ≤ zs.length) (h : (Pk.read zs).2.2 = 0) : zs = Pk.body (Pk.read zs).1.1 := by
  have hh : zs.take 5 = Pk.head := by
    rw [List.take_succ_eq_append_getElem (by omega), h4]
    have : zs[4] = 1 := by simpa [List.getD, show 4 < zs.length by omega] using h1
    rw [this]; rfl
  unfold Pk.read at h ⊢
  by_cases g1 : (Ref.rd zs 5).2.2 = 0
  · have hok := rd_ok zs 5 g1
    have hfo := rd_forth zs 5 hb g1
    rw [if_neg (by simpa using g1)] at h ⊢
    by_cases g2 : 4096 < (Ref.rd zs 5).1
    · rw [if_pos g2] at h; simp at h
    rw [if_neg g2] at h ⊢
    obtain ⟨n0, hn0⟩ : ∃ k : Nat, (Ref.rd zs 5).2.1 = (k : Int) := ⟨(Ref.rd zs 5).2.1.toNat, by omega⟩
    rw [hn0] at h hok hfo ⊢
    by_cases g3 : (Pk.rrs zs (Ref.rd zs 5).1.toNat n0 [] []).2.2 = 0
    · obtain ⟨m, q1, q2, q3, q4, q5⟩ := rrs_back hb (Ref.rd zs 5).1.toNat n0 [] [] (by omega) g3
      rw [if_neg (by simpa using g3)] at h ⊢
      by_cases g4 : (Pk.rrs zs (Ref.rd zs 5).1.toNat n0 [] []).2.1 < zs.length
      · rw [if_pos g4] at h; simp at h
      rw [if_neg g4, q1, List.nil_append]
      have hend : (Pk.rrs zs (Ref.rd zs 5).1.toNat n0 [] []).2.1 = (zs.length : Int) := by omega
      rw [hend] at q3
      unfold Pk.body
      rw [q2, q3, show (((Ref.rd zs 5).1.toNat : Nat) : Int) = (Ref.rd zs 5).1 by omega, hfo, ← hh]
      have s1 : (zs.drop (5 : Int).toNat).take ((n0 : Int) - 5).toNat = seg zs 5 n0 := rfl
      have s0 : zs.take 5 = seg zs 0 5 := by unfold seg; simp
      rw [s1, s0, ← seg_app zs (by omega) (by omega) (by omega), ← seg_app zs (by omega) (by omega) (by omega)]
      unfold seg
      simp
    · rw [if_pos (by simpa using g3)] at h
      exact absurd h g3
  · rw [if_pos (by simpa using g1)] at h
    exact absurd h g1
/-- 8.3, the second half. -/
theorem pack_unpack {zs : List Int} (hb : Byt zs) (h : (Pk.unpack zs).2.2 = 0) : Pk.pack (Pk.unpack zs).1 = (zs, 0, 0) := by
  have hf : (Pk.framed zs).2 = 0 := by
    by_cases q : (Pk.framed zs).2 = 0
    · exact q
    · unfold Pk.unpack at h
      rw [if_pos (by simpa using q)] at h
      exact absurd h q
  have hl := framed_len hf
  have hfr : zs.drop (zs.length - 4) = Pk.sum4 (zs.take (zs.length - 4)) ∧ zs.take 4 = [101, 110, 100, 111] ∧ zs.getD 4 0 = 1 := by
    unfold Pk.framed at hf
    rw [if_neg (by omega), if_neg (by omega)] at hf
    by_cases q1 : zs.drop (zs.length - 4) = Pk.sum4 (zs.take (zs.length - 4))
    · rw [if_neg (by simpa using q1)] at hf
      by_cases q2 : zs.take 4 = [101, 110, 100, 111]
      · rw [if_neg (by simpa using q2)] at hf
        by_cases q3 : zs.getD 4 0 = 1
        · exact ⟨q1, q2, q3⟩
        · rw [if_pos q3] at hf; simp at hf
      · rw [if_pos q2] at hf; simp at hf
    · rw [if_pos q1] at hf; simp at hf
  have hbt : Byt (zs.take (zs.length - 4)) := fun z hz => hb z (List.mem_of_mem_take hz)
  unfold Pk.unpack at h ⊢
  rw [if_neg (by simpa using hf)] at h ⊢
  have hr : (Pk.read (zs.take (zs.length - 4))).2.2 = 0 := by
    by_cases q : (Pk.read (zs.take (zs.length - 4))).2.2 = 0
    · exact q
    · rw [if_pos (by simpa using q)] at h
      exact absurd h q
  rw [if_neg (by simpa using hr)] at h ⊢
  have hc : (Cn.check6 (Pk.read (zs.take (zs.length - 4))).1.1).2 = 0 := by
    by_cases q : (Cn.check6 (Pk.read (zs.take (zs.length - 4))).1.1).2 = 0
    · exact q
    · rw [if_pos (by simpa using q)] at h
      exact absurd h q
  rw [if_neg (by simpa using hc)]
  have hlt : (zs.take (zs.length - 4)).length = zs.length - 4 := by rw [List.length_take]; omega
  have hbody := read_back hbt (by rw [List.take_take, show min 4 (zs.length - 4) = 4 by omega]; exact hfr.2.1) (by
    have e : (zs.take (zs.length - 4)).getD 4 0 = zs.getD 4 0 := by simp only [List.getD]; rw [List.getElem?_take_of_lt (by omega)]
    rw [e]; exact hfr.2.2) (by omega) hr
  show Pk.pack (Pk.read (zs.take (zs.length - 4))).1.1 = (zs, 0, 0)
  generalize Pk.read (zs.take (zs.length - 4)) = q at *
  unfold Pk.pack
  rw [if_neg (by simpa using hc), ← hbody, hlt, if_neg (by omega), ← hfr.1, List.take_append_drop]
end Go.Proofs.YtlmcmlbmnnjjpaaGreatDoor
