/- There: whole tables: plain. -/
import Derived.Test.YtlmcmlbmnnjjpaaGreatDoorQc8
namespace Go.Proofs.YtlmcmlbmnnjjpaaGreatDoor
open Wi

theorem to_one {l : List Int} (h : l.length = 1) : [l.getD 0 0] = l := by
  match l, h with
  | [a], _ => rfl
/-- A right record comes back whole. -/
theorem right_back {r : Rec} (h : Cn.right r = 0) : (∀ f ∈ Pk.form r.kind, Cok r f) ∧ (Pk.form r.kind).foldl (updr r) { Cn.none with kind := r.kind } = r ∧ 1 ≤ r.kind ∧ r.kind ≤ 15 ∧ Cn.fam r.kind ≠ 0 := by
  have hf := Cn.right_kind h
  have hk15 : 1 ≤ r.kind ∧ r.kind ≤ 15 := by
    rcases kinds15 hf with hk | hk | hk | hk | hk | hk | hk | hk | hk | hk | hk | hk | hk | hk | hk <;> omega
  refine ⟨?_, ?_, hk15.1, hk15.2, hf⟩
  · rcases kinds15 hf with hk | hk | hk | hk | hk | hk | hk | hk | hk | hk | hk | hk | hk | hk | hk
    · obtain ⟨h1, z1, z2, z3, z4, z5⟩ := right_at1 h hk
      have e : Pk.form r.kind = [0, 1] := by rw [hk]; rfl
      rw [e]
      intro f hm
      simp only [List.mem_cons, List.mem_nil_iff, or_false] at hm
      rcases hm with rfl | rfl
      · exact ⟨by omega, by omega⟩
      · exact ⟨by omega, by omega, by omega⟩
    · obtain ⟨h1, z1, z2, z3, z4, z5⟩ := right_at2 h hk
      have e : Pk.form r.kind = [0, 1] := by rw [hk]; rfl
      rw [e]
      intro f hm
      simp only [List.mem_cons, List.mem_nil_iff, or_false] at hm
      rcases hm with rfl | rfl
      · exact ⟨by omega, by omega⟩
      · exact ⟨by omega, by omega, by omega⟩
    · obtain ⟨h1, z1, z3, z4, z5, h6, h7⟩ := right_at3 h hk
      have e : Pk.form r.kind = [0, 1, 7] := by rw [hk]; rfl
      rw [e]
      intro f hm
      simp only [List.mem_cons, List.mem_nil_iff, or_false] at hm
      rcases hm with rfl | rfl | rfl
      · exact ⟨by omega, by omega⟩
      · exact ⟨by omega, by omega, by omega⟩
      · exact ⟨h6.2, h7⟩
    · obtain ⟨h1, z3, z4, z5, h5, h6, h7, h8⟩ := right_at4 h hk
      have e : Pk.form r.kind = [0, 1, 3, 4] := by rw [hk]; rfl
      rw [e]
      intro f hm
      simp only [List.mem_cons, List.mem_nil_iff, or_false] at hm
      rcases hm with rfl | rfl | rfl | rfl
      · exact ⟨by omega, by omega⟩
      · exact ⟨by omega, by omega, by omega⟩
      · exact ⟨by omega, by omega⟩
      · exact ⟨by omega, by omega⟩
    · obtain ⟨h1, h2, z1, z3, z4, z5, h7, h8⟩ := right_at5 h hk
      have e : Pk.form r.kind = [2, 7] := by rw [hk]; rfl
      rw [e]
      intro f hm
      simp only [List.mem_cons, List.mem_nil_iff, or_false] at hm
      rcases hm with rfl | rfl
      · exact ⟨by omega, by omega⟩
      · exact ⟨h7, h8⟩
    · obtain ⟨h1, z2, z3, z4, z5, h6, h7⟩ := right_at6 h hk
      have e : Pk.form r.kind = [0, 1, 3] := by rw [hk]; rfl
      rw [e]
      intro f hm
      simp only [List.mem_cons, List.mem_nil_iff, or_false] at hm
      rcases hm with rfl | rfl | rfl
      · exact ⟨by omega, by omega⟩
      · exact ⟨by omega, by omega, by omega⟩
      · exact ⟨by omega, by omega⟩
    · obtain ⟨h1, h2, z1, z3, z4, z5, h7, h8⟩ := right_at7 h hk
      have e : Pk.form r.kind = [2, 7] := by rw [hk]; rfl
      rw [e]
      intro f hm
      simp only [List.mem_cons, List.mem_nil_iff, or_false] at hm
      rcases hm with rfl | rfl
      · exact ⟨by omega, by omega⟩
      · exact ⟨h7, h8⟩
    · obtain ⟨h1, h2, z1, z3, z4, z5, h7, h8⟩ := right_at8 h hk
      have e : Pk.form r.kind = [2, 7] := by rw [hk]; rfl
      rw [e]
      intro f hm
      simp only [List.mem_cons, List.mem_nil_iff, or_false] at hm
      rcases hm with rfl | rfl
      · exact ⟨by omega, by omega⟩
      · exact ⟨h7, h8⟩
    · obtain ⟨h1, z2, z3, z4, z5, h6, h7⟩ := right_at9 h hk
      have e : Pk.form r.kind = [0, 1, 3] := by rw [hk]; rfl
      rw [e]
      intro f hm
      simp only [List.mem_cons, List.mem_nil_iff, or_false] at hm
      rcases hm with rfl | rfl | rfl
      · exact ⟨by omega, by omega⟩
      · exact ⟨by omega, by omega, by omega⟩
      · exact ⟨by omega, by omega⟩
    · obtain ⟨h1, z2, z3, z4, z5, h6, h7⟩ := right_at10 h hk
      have e : Pk.form r.kind = [0, 1, 3] := by rw [hk]; rfl
      rw [e]
      intro f hm
      simp only [List.mem_cons, List.mem_nil_iff, or_false] at hm
      rcases hm with rfl | rfl | rfl
      · exact ⟨by omega, by omega⟩
      · exact ⟨by omega, by omega, by omega⟩
      · exact ⟨by omega, by omega⟩
    · obtain ⟨h1, z1, z2, z3, z4, z5⟩ := right_at11 h hk
      have e : Pk.form r.kind = [0, 1] := by rw [hk]; rfl
      rw [e]
      intro f hm
      simp only [List.mem_cons, List.mem_nil_iff, or_false] at hm
      rcases hm with rfl | rfl
      · exact ⟨by omega, by omega⟩
      · exact ⟨by omega, by omega, by omega⟩
    · obtain ⟨h1, z1, z2, z4, z5, h6⟩ := right_at12 h hk
      have e : Pk.form r.kind = [0, 1, 5] := by rw [hk]; rfl
      rw [e]
      intro f hm
      simp only [List.mem_cons, List.mem_nil_iff, or_false] at hm
      rcases hm with rfl | rfl | rfl
      · exact ⟨by omega, by omega⟩
      · exact ⟨by omega, by omega, by omega⟩
      · exact (show r.name.size ≤ 4 by omega)
    · obtain ⟨h1, h2, z1, z3, z4, z5, h7, h8⟩ := right_at13 h hk
      have e : Pk.form r.kind = [2, 7] := by rw [hk]; rfl
      rw [e]
      intro f hm
      simp only [List.mem_cons, List.mem_nil_iff, or_false] at hm
      rcases hm with rfl | rfl
      · exact ⟨by omega, by omega⟩
      · exact ⟨h7, h8⟩
    · obtain ⟨h1, z1, z2, z3, z4, h6⟩ := right_at14 h hk
      have e : Pk.form r.kind = [0, 1, 8] := by rw [hk]; rfl
      rw [e]
      intro f hm
      simp only [List.mem_cons, List.mem_nil_iff, or_false] at hm
      rcases hm with rfl | rfl | rfl
      · exact ⟨by omega, by omega⟩
      · exact ⟨by omega, by omega, by omega⟩
      · exact (show r.wt < 18446744073709551616 by omega)
    · obtain ⟨z1, z2, z3, z4, h5, h6, h7⟩ := right_at15 h hk
      have e : Pk.form r.kind = [5, 6, 8] := by rw [hk]; rfl
      rw [e]
      intro f hm
      simp only [List.mem_cons, List.mem_nil_iff, or_false] at hm
      rcases hm with rfl | rfl | rfl
      · exact (show r.name.size ≤ 4 by omega)
      · exact (show r.other.size ≤ 4 by omega)
      · exact (show r.wt < 18446744073709551616 by omega)
  · rcases kinds15 hf with hk | hk | hk | hk | hk | hk | hk | hk | hk | hk | hk | hk | hk | hk | hk
    · obtain ⟨h1, z1, z2, z3, z4, z5⟩ := right_at1 h hk
      have e : Pk.form r.kind = [0, 1] := by rw [hk]; rfl
      rw [e]
      obtain ⟨rk, rlo, rhi, rn, rto, rnm, rot, rwt⟩ := r
      simp only at *
      subst hk
      simp only [List.foldl_cons, List.foldl_nil, updr, Cn.none, Rec.mk.injEq]
      refine ⟨trivial, ?_, ?_, ?_, ?_, ?_, ?_, ?_⟩ <;> first | trivial | omega | (simp_all; done) | (symm; assumption)
    · obtain ⟨h1, z1, z2, z3, z4, z5⟩ := right_at2 h hk
      have e : Pk.form r.kind = [0, 1] := by rw [hk]; rfl
      rw [e]
      obtain ⟨rk, rlo, rhi, rn, rto, rnm, rot, rwt⟩ := r
      simp only at *
      subst hk
      simp only [List.foldl_cons, List.foldl_nil, updr, Cn.none, Rec.mk.injEq]
      refine ⟨trivial, ?_, ?_, ?_, ?_, ?_, ?_, ?_⟩ <;> first | trivial | omega | (simp_all; done) | (symm; assumption)
    · obtain ⟨h1, z1, z3, z4, z5, h6, h7⟩ := right_at3 h hk
      have e : Pk.form r.kind = [0, 1, 7] := by rw [hk]; rfl
      rw [e]
      obtain ⟨rk, rlo, rhi, rn, rto, rnm, rot, rwt⟩ := r
      simp only at *
      subst hk
      simp only [List.foldl_cons, List.foldl_nil, updr, reTo, Cn.none, Rec.mk.injEq]
      refine ⟨trivial, ?_, ?_, ?_, ?_, ?_, ?_, ?_⟩ <;> first | trivial | omega | (simp_all; done) | (symm; assumption)
    · obtain ⟨h1, z3, z4, z5, h5, h6, h7, h8⟩ := right_at4 h hk
      have e : Pk.form r.kind = [0, 1, 3, 4] := by rw [hk]; rfl
      have hto := to_one h6
      rw [e]
      obtain ⟨rk, rlo, rhi, rn, rto, rnm, rot, rwt⟩ := r
      simp only at *
      subst hk
      simp only [List.foldl_cons, List.foldl_nil, updr, reTo, Cn.none, Rec.mk.injEq]
      refine ⟨trivial, ?_, ?_, ?_, ?_, ?_, ?_, ?_⟩ <;> first | trivial | omega | (simp_all; done) | (symm; assumption)
    · obtain ⟨h1, h2, z1, z3, z4, z5, h7, h8⟩ := right_at5 h hk
      have e : Pk.form r.kind = [2, 7] := by rw [hk]; rfl
      rw [e]
      obtain ⟨rk, rlo, rhi, rn, rto, rnm, rot, rwt⟩ := r
      simp only at *
      subst hk
      simp only [List.foldl_cons, List.foldl_nil, updr, reTo, Cn.none, Rec.mk.injEq]
      refine ⟨trivial, ?_, ?_, ?_, ?_, ?_, ?_, ?_⟩ <;> first | trivial | omega | (simp_all; done) | (symm; assumption)
    · obtain ⟨h1, z2, z3, z4, z5, h6, h7⟩ := right_at6 h hk
      have e : Pk.form r.kind = [0, 1, 3] := by rw [hk]; rfl
      rw [e]
      obtain ⟨rk, rlo, rhi, rn, rto, rnm, rot, rwt⟩ := r
      simp only at *
      subst hk
      simp only [List.foldl_cons, List.foldl_nil, updr, Cn.none, Rec.mk.injEq]
      refine ⟨trivial, ?_, ?_, ?_, ?_, ?_, ?_, ?_⟩ <;> first | trivial | omega | (simp_all; done) | (symm; assumption)
    · obtain ⟨h1, h2, z1, z3, z4, z5, h7, h8⟩ := right_at7 h hk
      have e : Pk.form r.kind = [2, 7] := by rw [hk]; rfl
      rw [e]
      obtain ⟨rk, rlo, rhi, rn, rto, rnm, rot, rwt⟩ := r
      simp only at *
      subst hk
      simp only [List.foldl_cons, List.foldl_nil, updr, reTo, Cn.none, Rec.mk.injEq]
      refine ⟨trivial, ?_, ?_, ?_, ?_, ?_, ?_, ?_⟩ <;> first | trivial | omega | (simp_all; done) | (symm; assumption)
    · obtain ⟨h1, h2, z1, z3, z4, z5, h7, h8⟩ := right_at8 h hk
      have e : Pk.form r.kind = [2, 7] := by rw [hk]; rfl
      rw [e]
      obtain ⟨rk, rlo, rhi, rn, rto, rnm, rot, rwt⟩ := r
      simp only at *
      subst hk
      simp only [List.foldl_cons, List.foldl_nil, updr, reTo, Cn.none, Rec.mk.injEq]
      refine ⟨trivial, ?_, ?_, ?_, ?_, ?_, ?_, ?_⟩ <;> first | trivial | omega | (simp_all; done) | (symm; assumption)
    · obtain ⟨h1, z2, z3, z4, z5, h6, h7⟩ := right_at9 h hk
      have e : Pk.form r.kind = [0, 1, 3] := by rw [hk]; rfl
      rw [e]
      obtain ⟨rk, rlo, rhi, rn, rto, rnm, rot, rwt⟩ := r
      simp only at *
      subst hk
      simp only [List.foldl_cons, List.foldl_nil, updr, Cn.none, Rec.mk.injEq]
      refine ⟨trivial, ?_, ?_, ?_, ?_, ?_, ?_, ?_⟩ <;> first | trivial | omega | (simp_all; done) | (symm; assumption)
    · obtain ⟨h1, z2, z3, z4, z5, h6, h7⟩ := right_at10 h hk
      have e : Pk.form r.kind = [0, 1, 3] := by rw [hk]; rfl
      rw [e]
      obtain ⟨rk, rlo, rhi, rn, rto, rnm, rot, rwt⟩ := r
      simp only at *
      subst hk
      simp only [List.foldl_cons, List.foldl_nil, updr, Cn.none, Rec.mk.injEq]
      refine ⟨trivial, ?_, ?_, ?_, ?_, ?_, ?_, ?_⟩ <;> first | trivial | omega | (simp_all; done) | (symm; assumption)
    · obtain ⟨h1, z1, z2, z3, z4, z5⟩ := right_at11 h hk
      have e : Pk.form r.kind = [0, 1] := by rw [hk]; rfl
      rw [e]
      obtain ⟨rk, rlo, rhi, rn, rto, rnm, rot, rwt⟩ := r
      simp only at *
      subst hk
      simp only [List.foldl_cons, List.foldl_nil, updr, Cn.none, Rec.mk.injEq]
      refine ⟨trivial, ?_, ?_, ?_, ?_, ?_, ?_, ?_⟩ <;> first | trivial | omega | (simp_all; done) | (symm; assumption)
    · obtain ⟨h1, z1, z2, z4, z5, h6⟩ := right_at12 h hk
      have e : Pk.form r.kind = [0, 1, 5] := by rw [hk]; rfl
      rw [e]
      obtain ⟨rk, rlo, rhi, rn, rto, rnm, rot, rwt⟩ := r
      simp only at *
      subst hk
      simp only [List.foldl_cons, List.foldl_nil, updr, Cn.none, Rec.mk.injEq]
      refine ⟨trivial, ?_, ?_, ?_, ?_, ?_, ?_, ?_⟩ <;> first | trivial | omega | (simp_all; done) | (symm; assumption)
    · obtain ⟨h1, h2, z1, z3, z4, z5, h7, h8⟩ := right_at13 h hk
      have e : Pk.form r.kind = [2, 7] := by rw [hk]; rfl
      rw [e]
      obtain ⟨rk, rlo, rhi, rn, rto, rnm, rot, rwt⟩ := r
      simp only at *
      subst hk
      simp only [List.foldl_cons, List.foldl_nil, updr, reTo, Cn.none, Rec.mk.injEq]
      refine ⟨trivial, ?_, ?_, ?_, ?_, ?_, ?_, ?_⟩ <;> first | trivial | omega | (simp_all; done) | (symm; assumption)
    · obtain ⟨h1, z1, z2, z3, z4, h6⟩ := right_at14 h hk
      have e : Pk.form r.kind = [0, 1, 8] := by rw [hk]; rfl
      rw [e]
      obtain ⟨rk, rlo, rhi, rn, rto, rnm, rot, rwt⟩ := r
      simp only at *
      subst hk
      simp only [List.foldl_cons, List.foldl_nil, updr, Cn.none, Rec.mk.injEq]
      refine ⟨trivial, ?_, ?_, ?_, ?_, ?_, ?_, ?_⟩ <;> first | trivial | omega | (simp_all; done) | (symm; assumption)
    · obtain ⟨z1, z2, z3, z4, h5, h6, h7⟩ := right_at15 h hk
      have e : Pk.form r.kind = [5, 6, 8] := by rw [hk]; rfl
      rw [e]
      obtain ⟨rk, rlo, rhi, rn, rto, rnm, rot, rwt⟩ := r
      simp only at *
      subst hk
      simp only [List.foldl_cons, List.foldl_nil, updr, Cn.none, Rec.mk.injEq]
      refine ⟨trivial, ?_, ?_, ?_, ?_, ?_, ?_, ?_⟩ <;> first | trivial | omega | (simp_all; done) | (symm; assumption)
theorem rr_there (pre rest : List Int) (r : Rec) (h : Cn.right r = 0) : Pk.rr (pre ++ (Pk.rb r ++ rest)) pre.length = (r, (pre.length : Int) + (Pk.rb r).length, 0) := by
  obtain ⟨h1, h2, h3, h4, h5⟩ := right_back h
  have hm : r.kind % 256 = r.kind := by omega
  have e : pre ++ (Pk.rb r ++ rest) = (pre ++ [r.kind]) ++ ((Pk.form r.kind).flatMap (Pk.fb r) ++ rest) := by simp [Pk.rb, hm]
  have hg : ((pre ++ [r.kind]) ++ ((Pk.form r.kind).flatMap (Pk.fb r) ++ rest)).getD pre.length 0 = r.kind := by simp [List.getD]
  have hf := frs_there r (Pk.form r.kind) (pre ++ [r.kind]) rest { Cn.none with kind := r.kind } h1
  unfold Pk.rr
  rw [e, Int.toNat_natCast, hg, if_neg (by simp; omega), if_neg h5]
  have hl : ((pre ++ [r.kind]).length : Int) = (pre.length : Int) + 1 := by simp
  rw [hl] at hf
  rw [hf, h2]
  simp only [ne_eq, not_true_eq_false, if_false]
  simp [Pk.rb]
  omega
theorem rrs_there : ∀ (l : List Rec) (pre rest : List Int) (acc : List Rec) (bs : List Int), (∀ r ∈ l, Cn.right r = 0) → ∃ bs', Pk.rrs (pre ++ (l.flatMap Pk.rb ++ rest)) l.length pre.length acc bs = ((acc ++ l, bs'), (pre.length : Int) + (l.flatMap Pk.rb).length, 0)
  | [], pre, rest, acc, bs, _ => ⟨bs, by simp [Pk.rrs]⟩
  | r :: l, pre, rest, acc, bs, h => by
    have e : pre ++ ((r :: l).flatMap Pk.rb ++ rest) = pre ++ (Pk.rb r ++ (l.flatMap Pk.rb ++ rest)) := by simp
    have e2 : pre ++ (Pk.rb r ++ (l.flatMap Pk.rb ++ rest)) = (pre ++ Pk.rb r) ++ (l.flatMap Pk.rb ++ rest) := by simp
    have hr := rr_there pre (l.flatMap Pk.rb ++ rest) r (h r (by simp))
    obtain ⟨bs', ih⟩ := rrs_there l (pre ++ Pk.rb r) rest (acc ++ [r]) (bs ++ [(pre.length : Int)]) (fun x hx => h x (by simp [hx]))
    refine ⟨bs', ?_⟩
    rw [e, List.length_cons, rrs_step _ _ _ _ _ (by rw [hr]), hr]
    simp only
    rw [e2, show ((pre.length : Int) + (Pk.rb r).length) = ((pre ++ Pk.rb r).length : Int) by rw [List.length_append]; omega, ih]
    simp [Int.add_assoc]
theorem read_there {l : List Rec} (h : ∀ r ∈ l, Cn.right r = 0) (hl : l.length ≤ 4096) : ∃ bs, Pk.read (Pk.body l) = ((l, bs), ((Pk.body l).length : Int), 0) := by
  have e : Pk.body l = Pk.head ++ (Ref.uint l.length ++ (l.flatMap Pk.rb ++ [])) := by simp [Pk.body]
  have hr := rd_at Pk.head (l.flatMap Pk.rb ++ []) l.length (by omega) (by omega)
  rw [← e] at hr
  have h5 : ((Pk.head.length : Nat) : Int) = 5 := rfl
  rw [h5] at hr
  obtain ⟨bs, hrs⟩ := rrs_there l (Pk.head ++ Ref.uint l.length) [] [] [] h
  have e2 : (Pk.head ++ Ref.uint l.length) ++ (l.flatMap Pk.rb ++ []) = Pk.body l := by simp [Pk.body]
  rw [e2] at hrs
  have e3 : ((Pk.head ++ Ref.uint (l.length : Int)).length : Int) = 5 + (Ref.uint (l.length : Int)).length := by rw [List.length_append, show Pk.head.length = 5 from rfl]; omega
  rw [e3] at hrs
  refine ⟨bs, ?_⟩
  have hlen : (5 : Int) + (Ref.uint (l.length : Int)).length + (l.flatMap Pk.rb).length = ((Pk.body l).length : Int) := by
    unfold Pk.body
    rw [List.length_append, List.length_append, show Pk.head.length = 5 from rfl]; omega
  unfold Pk.read
  rw [hr]
  simp only [ne_eq, not_true_eq_false, if_false, Int.toNat_natCast]
  rw [if_neg (by omega), hrs]
  simp only [not_true_eq_false, if_false, List.nil_append]
  rw [hlen, if_neg (by omega)]
/-- 8.3, the first half. -/
theorem unpack_pack {l : List Rec} (h : (Pk.pack l).2.2 = 0) : Pk.unpack (Pk.pack l).1 = (l, 0, 0) := by
  obtain ⟨hp, hc, h10, hle⟩ := pack_ok h
  rw [hp]
  have hall := Cn.check6_all hc
  obtain ⟨bs, hr⟩ := read_there hall.2 hall.1
  have hl : (Pk.body l ++ Pk.sum4 (Pk.body l)).length - 4 = (Pk.body l).length := by rw [List.length_append, sum4_len]; omega
  have ht : (Pk.body l ++ Pk.sum4 (Pk.body l)).take ((Pk.body l ++ Pk.sum4 (Pk.body l)).length - 4) = Pk.body l := by rw [hl, List.take_left']; rfl
  have hd : (Pk.body l ++ Pk.sum4 (Pk.body l)).drop ((Pk.body l ++ Pk.sum4 (Pk.body l)).length - 4) = Pk.sum4 (Pk.body l) := by rw [hl, List.drop_left']; rfl
  have h4 : (Pk.body l ++ Pk.sum4 (Pk.body l)).take 4 = [101, 110, 100, 111] := by simp [Pk.body, Pk.head]
  have h1 : (Pk.body l ++ Pk.sum4 (Pk.body l)).getD 4 0 = 1 := by simp [Pk.body, Pk.head, List.getD]
  have hf : Pk.framed (Pk.body l ++ Pk.sum4 (Pk.body l)) = (0, 0) := by
    unfold Pk.framed
    rw [if_neg (by omega), if_neg (by omega), ht, hd, if_neg (by simp), h4, if_neg (by simp), h1, if_neg (by simp)]
  show Pk.unpack (Pk.body l ++ Pk.sum4 (Pk.body l)) = _
  unfold Pk.unpack
  rw [hf, ht, hr]
  simp only [ne_eq, not_true_eq_false, if_false]
  rw [hc]
  simp
end Go.Proofs.YtlmcmlbmnnjjpaaGreatDoor
