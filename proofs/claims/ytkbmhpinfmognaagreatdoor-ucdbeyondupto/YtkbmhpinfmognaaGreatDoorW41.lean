/- Ct7 Vh9 Vi9 Vj9 Vk9 Vm9 Vn9 -/
import Derived.Test.YtkbmhpinfmognaaGreatDoorW4
import Derived.Test.YtkbmhpinfmognaaGreatDoorW30
import Derived.Test.YtkbmhpinfmognaaGreatDoorW2
import Derived.Laws.AppendOwnNone
import Derived.Maps.AppendAt
namespace Go.Proofs.YtkbmhpinfmognaaGreatDoor.Cn
theorem walk_leaves (l : List Rec) : ∀ (f : Nat) (way : List Int) (c : Int) (out : List Int),(∀ x ∈ out,opn l x = []) → ∀ x ∈ (walk l f way c out).1,opn l x = []:=by
 intro f
 induction f with
 | zero =>
  intro way c out h
  rw [walk]
  split
  ·next hc =>
   split
   ·intro x hx; cases hx
   ·intro x hx
    rcases List.mem_append.1 hx with hx | hx
    ·exact h x hx
    ·rw [List.mem_singleton.1 hx]; exact hc
  ·split <;> (intro x hx; cases hx)
 | succ f ih =>
  intro way c out h
  rw [walk]
  split
  ·next hc =>
   split
   ·intro x hx; cases hx
   ·intro x hx
    rcases List.mem_append.1 hx with hx | hx
    ·exact h x hx
    ·rw [List.mem_singleton.1 hx]; exact hc
  ·split
   ·intro x hx; cases hx
   ·have key : ∀ (xs : List Int) (s : List Int × Int),(∀ x ∈ s.1,opn l x = []) → ∀ x ∈ (xs.foldl (stepW l f (way ++ [c])) s).1,opn l x = []:=by
     intro xs
     induction xs with
     | nil => intro s hs; exact hs
     | cons x xs ihx =>
      intro s hs
      rw [List.foldl_cons]
      refine ihx _ ?_
      unfold stepW
      split
      ·exact ih _ _ _ hs
      ·exact hs
    exact key _ _ h
theorem walk_more (l : List Rec) : ∀ (f : Nat) (way : List Int) (c : Int) (out : List Int),(walk l f way c out).2 = 0 → out.length < (walk l f way c out).1.length:=by
 intro f
 induction f with
 | zero =>
  intro way c out
  rw [walk]
  split
  ·split
   ·intro h; exact absurd h (by decide)
   ·intro _; simp
  ·split <;> (intro h; exact absurd h (by decide))
 | succ f ih =>
  intro way c out
  rw [walk]
  split
  ·split
   ·intro h; exact absurd h (by decide)
   ·intro _; simp
  ·next hc =>
   split
   ·intro h; exact absurd h (by decide)
   ·have key : ∀ (xs : List Int) (s : List Int × Int),(xs.foldl (stepW l f (way ++ [c])) s).2 = 0 → s.1.length + xs.length ≤ (xs.foldl (stepW l f (way ++ [c])) s).1.length:=by
     intro xs
     induction xs with
     | nil => intro s _; simp
     | cons x xs ihx =>
      intro s hs
      rw [List.foldl_cons] at hs ⊢
      have h1:=ihx _ hs
      have h0 : s.2 = 0:=by
       refine Decidable.byContradiction fun hn => ?_
       rw [stepW,if_neg hn,fold_stuck _ _ _ _ _ hn] at hs
       exact hn hs
      have h2 : (stepW l f (way ++ [c]) s x).2 = 0:=by
       refine Decidable.byContradiction fun hn => ?_
       rw [fold_stuck _ _ _ _ _ hn] at hs
       exact hn hs
      unfold stepW at h1 h2 hs ⊢
      rw [if_pos h0] at h1 h2
      have h3:=ih _ _ _ h2
      simp only [List.length_cons]
      simp only [if_pos h0] at *
      omega
    intro h
    have:=key _ _ h
    have hne : 0 < (opn l c).length:=List.length_pos_iff.2 hc
    simp only at this
    exact Nat.lt_of_lt_of_le (by omega) this
def jamo (c : Int) : Prop:=(4352 ≤ c ∧ c ≤ 4370) ∨ (4449 ≤ c ∧ c ≤ 4469) ∨ (4520 ≤ c ∧ c ≤ 4546)
theorem speaks_span {r : Rec} {c : Int} (h : speaks r c = true) : r.lo ≤ c ∧ c ≤ r.hi:=by
 unfold speaks at h
 obtain ⟨_,_,_,_,h5,h6,_⟩:=of_decide_eq_true h
 exact ⟨h5,h6⟩
theorem jamo_hit {l : List Rec} (h : (check l).2 = 0) {c : Int} (hc : jamo c) {f : Int} (hf : f = 2 ∨ f = 3) : hit l f c = Option.none:=by
 obtain ⟨h6,hr,_,_⟩:=check_iff.1 h
 cases e : hit l f c with
 | none => rfl
 | some r =>
  obtain ⟨h1,h2,h3⟩:=hit_some e
  have hs:=speaks_span h3
  have h0:=hr r h1
  unfold record at h0
  rw [if_neg (by omega)] at h0
  split at h0
  ·exact absurd h0 (by decide)
  ·split at h0
   ·exact absurd h0 (by decide)
   ·next hn =>
    refine absurd ?_ hn
    simp only [Bool.or_eq_true,covers,decide_eq_true_eq]
    rcases hc with hc | hc | hc
    ·exact .inl (.inl (.inl (by omega)))
    ·exact .inl (.inl (.inr (by omega)))
    ·exact .inl (.inr (by omega))
theorem jamo_opn {l : List Rec} (h : (check l).2 = 0) {c : Int} (hc : jamo c) : opn l c = []:=by
 unfold opn
 have : syl c = false:=by
  unfold syl
  unfold jamo at hc
  exact decide_eq_false (by omega)
 rw [this,jamo_hit h hc (.inr rfl)]
 rfl
theorem jamo_cls {l : List Rec} (h : (check l).2 = 0) {c : Int} (hc : jamo c) : cls l c = 0:=by
 unfold cls
 rw [jamo_hit h hc (.inl rfl)]
theorem opn_lv {l : List Rec} {c : Int} (hs : syl c = true) (hm : (c - 44032) % 28 = 0) : opn l c = [4352 + (c - 44032) / 588,4449 + (c - 44032) / 28 % 21]:=by
 unfold opn
 rw [if_pos hs,if_pos hm]
theorem opn_lvt {l : List Rec} {c : Int} (hs : syl c = true) (hm : ¬ (c - 44032) % 28 = 0) : opn l c = [c - (c - 44032) % 28,4519 + (c - 44032) % 28]:=by
 unfold opn
 rw [if_pos hs,if_neg hm]
theorem falls_none {l : List Rec} : ∀ (x : List Int),(∀ c ∈ x,cls l c = 0) → fallsA l x = false
 | [],_ => rfl
 | [_],_ => rfl
 | a :: b :: r,h => by
  rw [fallsA,falls_none (b :: r) fun c hc => h c (List.mem_cons_of_mem _ hc)]
  simp [h b (by simp)]
theorem syl_full {l : List Rec} (h : (check l).2 = 0) {c : Int} (hs : syl c = true) : (full l c).2 = 0 ∧ ∀ x ∈ (full l c).1,jamo x:=by
 have hb : 44032 ≤ c ∧ c ≤ 55203:=of_decide_eq_true hs
 have lv : ∀ (d : Int),syl d = true → (d - 44032) % 28 = 0 → ∀ (f : Nat) (way out : List Int),¬ d ∈ way → out.length < 30 → walk l (f + 1) way d out = (out ++ [4352 + (d - 44032) / 588,4449 + (d - 44032) / 28 % 21],0) ∧ jamo (4352 + (d - 44032) / 588) ∧ jamo (4449 + (d - 44032) / 28 % 21):=by
  intro d hd hm f way out hw ho
  have hdb : 44032 ≤ d ∧ d ≤ 55203:=of_decide_eq_true hd
  have j1 : jamo (4352 + (d - 44032) / 588):=.inl (by omega)
  have j2 : jamo (4449 + (d - 44032) / 28 % 21):=.inr (.inl (by omega))
  refine ⟨?_,j1,j2⟩
  rw [walk_go (by rw [opn_lv hd hm]; simp) f hw,opn_lv hd hm]
  simp only [List.foldl_cons,List.foldl_nil,stepW]
  rw [if_pos trivial,walk_leaf (jamo_opn h j1),if_neg (c:=32 ≤ out.length) (by omega)]
  simp only [if_true]
  rw [walk_leaf (jamo_opn h j2),if_neg (by simp; omega)]
  simp
 unfold full
 by_cases hm : (c - 44032) % 28 = 0
 ·obtain ⟨e,j1,j2⟩:=lv c hs hm 15 [] [] (by simp) (by simp)
  rw [e]
  refine ⟨rfl,fun x hx => ?_⟩
  simp at hx
  rcases hx with rfl | rfl
  ·exact j1
  ·exact j2
 ·have hd : syl (c - (c - 44032) % 28) = true:=decide_eq_true (by omega)
  have hdm : (c - (c - 44032) % 28 - 44032) % 28 = 0:=by omega
  have j3 : jamo (4519 + (c - 44032) % 28):=.inr (.inr (by omega))
  rw [walk_go (by rw [opn_lvt hs hm]; simp) 15 (by simp),opn_lvt hs hm]
  obtain ⟨e,j1,j2⟩:=lv _ hd hdm 14 ([] ++ [c]) [] (by simp; omega) (by simp)
  simp only [List.foldl_cons,List.foldl_nil,stepW]
  rw [if_pos trivial,e]
  simp only [if_true]
  rw [walk_leaf (jamo_opn h j3),if_neg (by simp)]
  refine ⟨rfl,fun x hx => ?_⟩
  simp at hx
  rcases hx with rfl | rfl | rfl
  ·exact j1
  ·exact j2
  ·exact j3
theorem fam_three {k : Int} (h : fam k = 3) : k = 7 ∨ k = 8:=by
 unfold fam at h
 split at h
 ·omega
 ·split at h
  ·omega
  ·split at h
   ·omega
   ·split at h <;> omega
theorem leaves {l : List Rec} (h : (check l).2 = 0) (c : Int) : (full l c).2 = 0 ∧ 0 < (full l c).1.length ∧ (full l c).1.length ≤ 32 ∧ (∀ x ∈ (full l c).1,opn l x = []) ∧ fallsA l (full l c).1 = false:=by
 have h0 : (full l c).2 = 0 ∧ fallsA l (full l c).1 = false:=by
  by_cases hs : syl c = true
  ·obtain ⟨h1,h2⟩:=syl_full h hs
   exact ⟨h1,falls_none _ fun x hx => jamo_cls h (h2 x hx)⟩
  ·by_cases ho : opn l c = []
   ·unfold full
    rw [walk_leaf ho,if_neg (by simp)]
    exact ⟨rfl,rfl⟩
   ·have he : ∃ r,hit l 3 c = some r:=by
     unfold opn at ho
     rw [if_neg hs] at ho
     cases e : hit l 3 c with
     | none => rw [e] at ho; exact absurd rfl ho
     | some r => exact ⟨r,rfl⟩
    obtain ⟨r,hr⟩:=he
    obtain ⟨h1,h2,h3⟩:=hit_some hr
    obtain ⟨h6,hrec,_,_⟩:=check_iff.1 h
    have hsp:=speaks_span h3
    have hlo : r.lo = r.hi:=by
     rcases fam_three h2 with hk | hk
     ·exact (right_decomp ((check6_iff.1 h6).2.1 r h1) hk).1
     ·exact (right_opens ((check6_iff.1 h6).2.1 r h1) hk).1
    have hc : r.lo = c:=by omega
    have hz:=hrec r h1
    rw [record_F] at hz
    unfold recF at hz
    rw [if_neg (by omega)] at hz
    split at hz
    ·exact absurd hz (by decide)
    ·split at hz
     ·exact absurd hz (by decide)
     ·split at hz
      ·exact absurd hz (by decide)
      ·rw [if_neg (by omega),hc] at hz
       split at hz
       ·next hn => exact absurd hz hn
       ·next hn =>
        split at hz
        ·exact absurd hz (by decide)
        ·next hfa => exact ⟨Decidable.not_not.1 hn,Bool.eq_false_iff.2 hfa⟩
 exact ⟨h0.1,walk_more l 16 [] c [] h0.1,full_len l c,walk_leaves l 16 [] c [] (fun x hx => absurd hx (by simp)),h0.2⟩
theorem falls_at {l : List Rec} : ∀ (x : List Int),fallsA l x = false → ∀ k,k + 1 < x.length → cls l (x.getD (k + 1) 0) = 0 ∨ cls l (x.getD k 0) ≤ cls l (x.getD (k + 1) 0)
 | [],_,k,hk => absurd hk (by simp)
 | [_],_,k,hk => absurd hk (by simp)
 | a :: b :: r,h,k,hk => by
  rw [fallsA,Bool.or_eq_false_iff] at h
  cases k with
  | zero =>
   have:=of_decide_eq_false h.1
   show cls l b = 0 ∨ cls l a ≤ cls l b
   omega
  | succ k => exact falls_at (b :: r) h.2 k (by simpa using hk)
end Go.Proofs.YtkbmhpinfmognaaGreatDoor.Cn
namespace Go.Proofs.YtkbmhpinfmognaaGreatDoor
open Go.RowKit
namespace Cn
theorem syl_hit {l : List Rec} (h : (check l).2 = 0) {c : Int} (hc : syl c = true) {f : Int} (hf : f = 2 ∨ f = 3) : hit l f c = Option.none:=by
 obtain ⟨h6,hr,_,_⟩:=check_iff.1 h
 unfold syl at hc
 have hc:=of_decide_eq_true hc
 cases e : hit l f c with
 | none => rfl
 | some r =>
  obtain ⟨h1,h2,h3⟩:=hit_some e
  have hs:=speaks_span h3
  have h0:=hr r h1
  unfold record at h0
  rw [if_neg (by omega)] at h0
  split at h0
  ·exact absurd h0 (by decide)
  ·split at h0
   ·exact absurd h0 (by decide)
   ·next hn =>
    refine absurd ?_ hn
    simp only [Bool.or_eq_true,covers,decide_eq_true_eq]
    exact .inr (by omega)
theorem to_some {rs : List Rec} (h : (check rs).2 = 0) {c : Int} {r : Rec} (he : hit rs 3 c = some r) : r.to ≠ [] ∧ r.to.length ≤ 2:=by
 have h6:=(check_iff.1 h).1
 obtain ⟨g1,g2,g3⟩:=(hit_iff h6 (by decide) r).1 he
 have hr:=(check6_iff.1 h6).2.1 r g1
 rcases fam_three g2 with e | e
 ·have:=(list_parts (right_decomp hr e).2.2).1
  exact ⟨fun e => by rw [e] at this; simp at this,by omega⟩
 ·have:=(list_parts (right_opens hr e).2.2).1
  exact ⟨fun e => by rw [e] at this; simp at this,by omega⟩
theorem opn_cases {rs : List Rec} (h : (check rs).2 = 0) (c : Int) : ((rget rs 3 c).to = [] ∧ opn [] c = opn rs c) ∨ ((rget rs 3 c).to ≠ [] ∧ (rget rs 3 c).to = opn rs c ∧ (rget rs 3 c).to.length ≤ 2):=by
 unfold rget
 cases he : hit rs 3 c with
 | none =>
  refine .inl ⟨rfl,?_⟩
  unfold opn
  rw [he]
  rfl
 | some r =>
  obtain ⟨h1,h2⟩:=to_some h he
  refine .inr ⟨h1,?_,h2⟩
  have hs : syl c = false:=by
   cases hs : syl c with
   | false => rfl
   | true => rw [syl_hit h hs (.inr rfl)] at he; cases he
  unfold opn
  rw [hs,he]
  rfl
theorem opn_len {rs : List Rec} (h : (check rs).2 = 0) (c : Int) : (opn rs c).length ≤ 2:=by
 unfold opn
 split
 ·split <;> simp
 ·cases he : hit rs 3 c with
  | none => simp
  | some r => exact (to_some h he).2
end Cn
theorem field_to (k lo hi n : Int) (ao : Option Addr) (ln cp : Nat) (a b : ByteArray) (y : Nat) (w : World) : (Instr.field 63 (.agg #[.int .i64 k,.int .i64 lo,.int .i64 hi,.int .i64 n,.slice ao ln cp,.string a,.string b,.float .f64 y]) 4).run Tryz.prog w = .ok (.slice ao ln cp) w:=by
 kernel_rfl
set_option maxRecDepth 8000 in
set_option maxHeartbeats 2000000 in
theorem open_any9 {B p : Nat} {rs : List Rec} (c : Int) (w : World) (hg : Glob w) (hD : DataAt w B p rs) (hk : (Cn.check rs).2 = 0) (hc : Rune c) : Calls Tryz.prog 26 #[.pointer (some ⟨p,0,none⟩),.int .i32 c] w (RunesNew w (Cn.opn rs c)):=by
 have h6:=(Cn.check_iff.1 hk).1
 obtain ⟨t1,t2,t3,t4,t5,a1,l1,a2,l2,a3,l3,a4,l4,a5,l5,c1,c2,x1,h1,h2,h3⟩:=hD
 have K1:=hide (of_any c w h3.q2 h6 (by decide) hc)
 have x5 : w.cell? ⟨p,7,none⟩ = some a2:=cell_of (j:=7) h1 (by show 7 < 18; omega)
 have x6 : w.cell? ⟨p,8,none⟩ = some l2:=cell_of (j:=8) h1 (by show 8 < 18; omega)
 obtain ⟨⟨aa,m,e,-⟩,ps,hR,-⟩:=h3.q2
 subst e
 obtain ⟨lo5,lc5,hle⟩ : ∃ ao cap,l2 = .slice ao ps.length cap:=by
  rcases hR.1.2 with ⟨e,h0⟩ | ⟨g,cap,cur,e,_⟩
  ·exact ⟨_,_,by rw [e,h0]⟩
  ·exact ⟨_,_,e⟩
 subst hle
 have HOC:=hide (Cn.opn_cases hk c)
 have HO:=fun W (hW : Below w.heap.size w W) => hide (openC (.slice none 0 0) [] c W (hg.on hW) (Rcs.nil W) hc)
 obtain ⟨hc1,hc2⟩:=hc
 clear h1 h2 h3 h6 hR hk hg
 generalize Cn.rget rs 3 c = r at *
 generalize Cn.opn rs c = zs at *
 go_enter Tryz.func26,Tryz.ntmps26
 go_wp2_with fail
 refine (unhide K1).mono ?_
 rintro e1 w1 ⟨vt,rfl,hok,b1⟩
 obtain ⟨ao,tc,rfl,ht1,ht2⟩:=hok.sk.shape
 have HB1:=hide b1
 have hsk:=hok.sk.below b1
 have hfw:=field_to r.kind r.lo r.hi r.n ao r.to.length tc r.name r.other r.wt w1
 clear K1 x5 x6 hok
 unfold recV
 rcases unhide HOC with ⟨e1,e2⟩ | ⟨e1,e2,e3⟩
 ·have K2:=hide (unhide (HO w1 b1))
  rw [e2] at K2
  rw [e1] at hfw ⊢
  simp only [List.length_nil] at hfw ⊢
  clear HO HOC hsk b1 e1 e2 ht1
  go_wp2_with fail
  refine (unhide K2).mono ?_
  rintro e3 w3 ⟨v3,rfl,ok3,b3⟩
  have HF : Hid (RunesNew w zs (.returned v3) w3):=⟨v3,rfl,ok3.lower (unhide HB1).size,bthen (unhide HB1) b3⟩
  clear K2 ok3 b3
  go_wp2
  go_ret
  exact unhide HF
 ·rw [e2] at hsk hfw e1 e3 ht1 ⊢
  have K2:=hide (clone_any _ zs w1 hsk (by omega))
  have hl : 0 < zs.length:=List.length_pos_iff.2 e1
  clear HO HOC hsk b1 e1 e2
  go_wp2_with fail
  refine (unhide K2).mono ?_
  rintro e3 w3 ⟨v3,rfl,ok3,b3⟩
  have HF : Hid (RunesNew w zs (.returned v3) w3):=⟨v3,rfl,ok3.lower (unhide HB1).size,bthen (unhide HB1) b3⟩
  clear K2 ok3 b3
  go_wp2
  go_ret
  exact unhide HF
end Go.Proofs.YtkbmhpinfmognaaGreatDoor
namespace Go.Proofs.YtkbmhpinfmognaaGreatDoor
open Go.RowKit
namespace Cn
def Tree (l:List Rec) (c:Int) (ys:List Int):Prop:=∀ P:Int→List Int→Prop,(∀ c,opn l c=[]→P c [c])→(∀ c (t:List (List Int)),opn l c≠[]→t.length=(opn l c).length→(∀ i,i<(opn l c).length→P ((opn l c).getD i 0) (t.getD i []))→P c t.flatten)→P c ys
theorem Tree.leaf {l:List Rec} (c:Int) (h:opn l c=[]):Tree l c [c]:=fun _ a _=>a c h
theorem Tree.node {l:List Rec} (c:Int) (t:List (List Int)) (h:opn l c≠[]) (g:t.length=(opn l c).length) (k:∀ i,i<(opn l c).length→Tree l ((opn l c).getD i 0) (t.getD i [])):Tree l c t.flatten:=fun P a b=>b c t h g fun i hi=>k i hi P a b
theorem fold_tree {l : List Rec} {f : Nat} {way : List Int} (H : ∀ d out r,walk l f way d out = (r,0) → ∃ ys,r = out ++ ys ∧ Tree l d ys) : ∀ (ds : List Int) (out r : List Int),ds.foldl (stepW l f way) (out,0) = (r,0) → ∃ yss : List (List Int),yss.length = ds.length ∧ r = out ++ yss.flatten ∧ ∀ i,i < ds.length → Tree l (ds.getD i 0) (yss.getD i [])
 | [],out,r,h => by
  have:=(Prod.mk.inj h).1
  subst this
  exact ⟨[],rfl,by simp,fun i hi => by simp at hi⟩
 | d :: ds,out,r,h => by
  rw [List.foldl_cons] at h
  have e : stepW l f way (out,0) d = walk l f way d out:=by simp [stepW]
  rw [e] at h
  obtain ⟨⟨o1,e1⟩,hq⟩ : ∃ q,walk l f way d out = q:=⟨_,rfl⟩
  rw [hq] at h
  by_cases he : e1 = 0
  ·subst he
   obtain ⟨ys,rfl,ht⟩:=H d out o1 hq
   obtain ⟨yss,hl,hr,hts⟩:=fold_tree H ds (out ++ ys) r h
   refine ⟨ys :: yss,by simp [hl],by rw [hr]; simp,fun i hi => ?_⟩
   cases i with
   | zero => exact ht
   | succ i => simpa using hts i (by simpa using hi)
  ·rw [fold_stuck l f way ds (o1,e1) he] at h
   exact absurd (Prod.mk.inj h).2 he
theorem walk_tree {l : List Rec} : ∀ (f : Nat) (way : List Int) (c : Int) (out r : List Int),walk l f way c out = (r,0) → ∃ ys,r = out ++ ys ∧ Tree l c ys:=by
 intro f
 induction f with
 | zero =>
  intro way c out r h
  by_cases ho : opn l c = []
  ·rw [walk_leaf ho] at h
   split at h
   ·exact absurd (Prod.mk.inj h).2 (by decide)
   ·exact ⟨[c],(Prod.mk.inj h).1.symm,.leaf c ho⟩
  ·by_cases hw : c ∈ way
   ·rw [walk_loop ho _ hw] at h; exact absurd (Prod.mk.inj h).2 (by decide)
   ·rw [walk_deep ho hw] at h; exact absurd (Prod.mk.inj h).2 (by decide)
 | succ f ih =>
  intro way c out r h
  by_cases ho : opn l c = []
  ·rw [walk_leaf ho] at h
   split at h
   ·exact absurd (Prod.mk.inj h).2 (by decide)
   ·exact ⟨[c],(Prod.mk.inj h).1.symm,.leaf c ho⟩
  ·by_cases hw : c ∈ way
   ·rw [walk_loop ho _ hw] at h; exact absurd (Prod.mk.inj h).2 (by decide)
   ·rw [walk_go ho f hw] at h
    obtain ⟨yss,hl,hr,ht⟩:=fold_tree (fun d out r hd => ih (way ++ [c]) d out r hd) _ _ _ h
    exact ⟨_,hr,.node c yss ho hl ht⟩
theorem full_tree {l : List Rec} (h : (check l).2 = 0) (c : Int) : Tree l c (full l c).1:=by
 have h2:=(leaves h c).1
 obtain ⟨ys,hy,ht⟩:=walk_tree (l:=l) 16 [] c [] (full l c).1 (by rw [show walk l 16 [] c [] = full l c from rfl]; exact Prod.ext rfl h2)
 rw [List.nil_append] at hy
 rw [hy]; exact ht
end Cn
structure Grw (w w' : World) (x v : Value) : Prop where
 g : w.grownBy w' x.ownBlock
 own : ∀ k,v.ownBlock = some k → x.ownBlock = some k ∨ w.heap.size ≤ k
theorem Grw.trans {w w1 w2 : World} {x v u : Value} (h : Grw w w1 x v) (h2 : Grw w1 w2 v u) : Grw w w2 x u:=by
 have s1:=h.g.size
 refine ⟨⟨h2.g.os.trans h.g.os,h2.g.tape.trans h.g.tape,h2.g.output.trans h.g.output,Nat.le_trans s1 h2.g.size,fun k hk hne => ?_⟩,fun k hk => ?_⟩
 ·rw [h2.g.block k (by omega) (fun e => ?_),h.g.block k hk hne]
  rcases h.own k e.symm with e2 | e2
  ·exact hne e2.symm
  ·omega
 ·rcases h2.own k hk with e | e
  ·exact h.own k e
  ·exact .inr (by omega)
theorem Grw.after {w w1 w2 : World} {x v : Value} (hb : Below w.heap.size w w1) (h : Grw w1 w2 x v) : Grw w w2 x v:=by
 have s1:=hb.size
 refine ⟨⟨h.g.os.trans hb.os,h.g.tape.trans hb.tape,h.g.output.trans hb.output,Nat.le_trans s1 h.g.size,fun k hk hne => ?_⟩,fun k hk => ?_⟩
 ·rw [h.g.block k (by omega) hne,hb.block k hk]
 ·rcases h.own k hk with e | e
  ·exact .inl e
  ·exact .inr (by omega)
theorem Grw.refl (w : World) (x : Value) : Grw w w x x:=⟨⟨rfl,rfl,rfl,Nat.le_refl _,fun _ _ _ => rfl⟩,fun _ h => .inl h⟩
def AppB (w : World) (B : Nat) (x : Value) (ys : List Int) (e : Ending) (w' : World) : Prop:=∃ v,e = .returned v ∧ Ok .i32 21 w' B v ys ∧ Grw w w' x v
def FullK (w0 : World) (p : Nat) (c : Int) (ys : List Int) : Prop:=∀ (x : Value) (xs : List Int) (w : World),Ok .i32 21 w w0.heap.size x xs → Below w0.heap.size w0 w → xs.length + ys.length ≤ 1000000000 → Calls Tryz.prog 64 #[.pointer (some ⟨p,0,none⟩),x,.int .i32 c] w (AppB w w0.heap.size x (xs ++ ys))
theorem Sk.one9 (w : World) (c : Int) (hc : -2147483648 ≤ c ∧ c ≤ 2147483647) : Sk .i32 (w.alloc (.cells #[.int .i32 c] 21)) (.slice (some ⟨w.heap.size,0,none⟩) 1 1) [c]:=(ok_one9 w w.heap.size (Nat.le_refl _) c hc).sk
theorem infoR9 : (Tryz.prog.info? 21).map (fun i => (i.zero,i.size,i.bytes)) = some (some (.int .i32 0),1,4):=by kernel_rfl
section
variable {B p : Nat} {rs : List Rec} {w0 : World}
set_option maxRecDepth 8000 in
set_option maxHeartbeats 2000000 in
theorem full_leaf (hg : Glob w0) (hD : DataAt w0 B p rs) (hk : (Cn.check rs).2 = 0) (c : Int) (hc : Rune c) (ho : Cn.opn rs c = []) : FullK w0 p c [c]:=by
 intro x xs w hx hb0 hl
 have K1:=hide (open_any9 c w (hg.on hb0) (hD.below hb0) hk hc)
 rw [ho] at K1
 obtain ⟨i0,hi,hz0,hz1,hz2⟩:=info_parts infoR9
 have hs0:=hb0.size
 have HX:=hide hx
 obtain ⟨xo,xcap,hxe,_,_⟩:=hx.sk.shape
 subst hxe
 obtain ⟨hc1,hc2⟩:=hc
 simp only [List.length_singleton] at hl
 clear hx hg hD hk ho hb0
 go_enter Tryz.func64,Tryz.ntmps64
 go_wp2_with fail
 refine (unhide K1).mono ?_
 rintro e1 w1 ⟨v1,rfl,ok1,b1⟩
 obtain ⟨ao,cap,hve,_,_⟩:=ok1.sk.shape
 simp only [List.length_nil] at hve
 subst hve
 have hs1:=b1.size
 have hX2 : Ok .i32 21 (w1.alloc (.cells #[.int .i32 c] 21)) w0.heap.size (.slice xo xs.length xcap) xs:=((unhide HX).below b1).below ((Below.refl _ _).alloc (Nat.le_refl _) _)
 have hrow : (w1.alloc (.cells #[.int .i32 c] 21)).ownsRow w0.heap.size 21 1 (.slice xo xs.length xcap) xs.length (xs.map (Value.int .i32)):=by simpa using hX2.row
 have hcl:=(Sk.one9 w1 c ⟨hc1,hc2⟩).place (by simp)
 have hcell : ∀ j u,[Value.int .i32 c][j]? = some u → (w1.alloc (.cells #[.int .i32 c] 21)).cell? ((⟨w1.heap.size,0,none⟩ : Addr).add j) = some u:=by
  intro j u hj
  obtain ⟨bx,ox,cq,he,_,_,hh⟩:=hcl
  simp only [Value.slice.injEq,Option.some.injEq,Addr.mk.injEq] at he
  obtain ⟨⟨rfl,rfl,_⟩,_,_⟩:=he
  cases j with
  | zero => simp at hj; subst hj; rw [addr_add]; exact hh 0 (by simp)
  | succ j => simp at hj
 have HROW:=hide hrow
 have HCELL:=hide hcell
 have HFIT:=hide ((unhide HX).1)
 have HB1:=hide b1
 have hsz : (w1.alloc (.cells #[.int .i32 c] 21)).heap.size = w1.heap.size + 1:=by simp
 have HSZ:=hide hsz
 clear K1 ok1 b1 hX2 hrow hcl hcell hsz
 go_wp2_with (at_builtin; refine wpList_append_own_at _ rfl (.tmp 16) (.tmp 18) 23 rfl w0.heap.size 21 i0 (.int .i32 0) 1 4 Tryz.underlying23 hi hz0 hz1 hz2 rfl (by decide) _ _ _ rfl (unhide HROW) ⟨w1.heap.size,0,none⟩ 1 1 [.int .i32 c] rfl rfl (unhide HCELL) (fun u hu => by rw [List.mem_singleton] at hu; subst hu; rfl) (by unfold maxLen; omega) (by omega) (by rw [unhide HSZ]; omega) ?_)
 intro v2 w2 hrow2 hg2 _ hown2
 have hF : AppB w w0.heap.size (.slice xo xs.length xcap) (xs ++ [c]) (.returned v2) w2:=by
  refine ⟨v2,rfl,Ok.of (n:=xs.length + 1) (us:=xs.map (Value.int .i32) ++ [.int .i32 c]) ?_ (by simp; omega) hrow2 (by simp) (by simp),?_⟩
  ·intro z hz
   rcases List.mem_append.1 hz with hz | hz
   ·exact (unhide HFIT) z hz
   ·rw [List.mem_singleton] at hz; subst hz; exact i32_fit ⟨hc1,hc2⟩
  ·refine Grw.after (w1:=w1.alloc (.cells #[.int .i32 c] 21)) ((unhide HB1).alloc hs1 _) ⟨hg2,fun k hk => ?_⟩
   rcases hown2 with e | e
   ·exact .inl (e ▸ hk)
   ·rw [e] at hk
    have hk2:=Option.some.inj hk
    rw [unhide HSZ]
    exact .inr (by omega)
 have HF:=hide hF
 clear hF hrow2 hg2 hown2 HROW HCELL HFIT HX HB1 HSZ
 go_wp2
 go_ret
 exact unhide HF
end
end Go.Proofs.YtkbmhpinfmognaaGreatDoor
namespace Go.Proofs.YtkbmhpinfmognaaGreatDoor
open Go.RowKit
namespace Cn
theorem opn_rune {rs : List Rec} (h : (check rs).2 = 0) {c d : Int} (hd : d ∈ opn rs c) : Rune d:=by
 unfold opn at hd
 unfold Rune
 split at hd
 ·next hs =>
  unfold syl at hs
  have hs:=of_decide_eq_true hs
  split at hd
  ·simp only [List.mem_cons,List.mem_nil_iff,or_false] at hd
   rcases hd with rfl | rfl <;> omega
  ·simp only [List.mem_cons,List.mem_nil_iff,or_false] at hd
   rcases hd with rfl | rfl <;> omega
 ·cases he : hit rs 3 c with
  | none => rw [he] at hd; simp at hd
  | some r =>
   rw [he] at hd
   have hd : d ∈ r.to:=hd
   have h6:=(check_iff.1 h).1
   obtain ⟨g1,g2,g3⟩:=(hit_iff h6 (by decide) r).1 he
   have hr:=(check6_iff.1 h6).2.1 r g1
   have hsc : scalar d = true:=by
    rcases fam_three g2 with e | e
    ·exact (list_parts (right_decomp hr e).2.2).2 d hd
    ·exact (list_parts (right_opens hr e).2.2).2 d hd
   have:=scalar_reach hsc
   omega
theorem flat_snoc (yss : List (List Int)) {k : Nat} (hk : k < yss.length) : (yss.take (k + 1)).flatten = (yss.take k).flatten ++ yss.getD k []:=by
 rw [List.take_add_one,List.flatten_append,List.getElem?_eq_getElem hk]
 simp [List.getD,hk]
theorem flat_le (yss : List (List Int)) {k : Nat} (hk : k < yss.length) : ((yss.take k).flatten).length + (yss.getD k []).length ≤ yss.flatten.length:=by
 have h1:=congrArg List.length (flat_snoc yss hk)
 rw [List.length_append] at h1
 have h2 : yss.flatten = (yss.take (k + 1)).flatten ++ (yss.drop (k + 1)).flatten:=by rw [← List.flatten_append,List.take_append_drop]
 have h3:=congrArg List.length h2
 rw [List.length_append] at h3
 omega
end Cn
section
variable {B p : Nat} {rs : List Rec} {w0 : World}
set_option maxRecDepth 8000 in
set_option maxHeartbeats 1000000 in
theorem full_node (hg : Glob w0) (hD : DataAt w0 B p rs) (hk : (Cn.check rs).2 = 0) (c : Int) (hc : Rune c) (yss : List (List Int)) (ho : Cn.opn rs c ≠ []) (hyl : yss.length = (Cn.opn rs c).length) (ih : ∀ i,i < (Cn.opn rs c).length → FullK w0 p ((Cn.opn rs c).getD i 0) (yss.getD i [])) : FullK w0 p c yss.flatten:=by
 intro x xs w hx hb0 hl
 have K1:=hide (open_any9 c w (hg.on hb0) (hD.below hb0) hk hc)
 have hdl:=Cn.opn_len hk c
 have hs0:=hb0.size
 have HX:=hide hx
 have HB0:=hide hb0
 have HIH:=hide ih
 have HFL:=fun k (h : k < yss.length) => hide (Cn.flat_le yss h)
 have HSN:=fun k (h : k < yss.length) => hide (Cn.flat_snoc yss h)
 have hd0 : 0 < (Cn.opn rs c).length:=List.length_pos_iff.2 ho
 obtain ⟨xo,xcap,hxe,_,_⟩:=hx.sk.shape
 have HXL : Hid (∀ k,x.ownBlock = some k → w0.heap.size ≤ k ∧ k < w.heap.size):=fun k h => hx.row.lt k h
 obtain ⟨hc1,hc2⟩:=hc
 clear hx hg hD hk ho hb0 ih
 generalize Cn.opn rs c = ds at *
 subst hxe
 have HYL:=hide hyl
 clear hyl
 go_enter Tryz.func64,Tryz.ntmps64
 go_wp2_with fail
 refine (unhide K1).mono ?_
 rintro e1 w1 ⟨v1,rfl,ok1,b1⟩
 obtain ⟨vb,vo,vcap,hve,hvc1,hvc2,hvcell⟩:=ok1.sk.place hd0
 have hvb : w.heap.size ≤ vb:=by
  have:=(ok1.row.lt vb (by rw [hve]; rfl)).1
  exact this
 subst hve
 have hs1:=b1.size
 have HB1:=hide b1
 have HVC:=hide hvcell
 have HFITD:=hide ok1.1
 have hX1:=(unhide HX).below b1
 have HX1:=hide hX1
 have hne0 : ((ds.length : Int) == 0) = false:=by rw [beq_eq_false_iff_ne]; omega
 clear K1 ok1 b1 hvcell hX1
 go_wp2
 go_loopw [1,9,22] (fun xv _ ii wr => ∃ k : Nat,ii = .int .i64 k ∧ k ≤ ds.length ∧ Ok .i32 21 wr w0.heap.size xv (xs ++ (yss.take k).flatten) ∧ Grw w1 wr (.slice xo xs.length xcap) xv) (fun _ _ ii _ => ds.length - (intOf ii).toNat)
 case atStart => exact ⟨0,rfl,by omega,by simpa using unhide HX1,Grw.refl _ _⟩
 case round =>
  obtain ⟨k,rfl,hkl,hok,hgr⟩:=hrel
  have HOK:=hide hok
  have HGR:=hide hgr
  by_cases hlt : k < ds.length
  ·have hcell : wr.cell? ⟨vb,vo + k,none⟩ = some (.int .i32 (ds.getD k 0)):=by
    have h3:=(unhide HVC) k hlt
    refine hgr.g.cell h3 (fun e => ?_)
    have:=(unhide HXL) vb e.symm
    omega
   have hrn : Rune (ds.getD k 0):=by
    have:=(unhide HFITD) (ds.getD k 0) (by simp [List.getD,hlt])
    exact ⟨this.1,this.2⟩
   have hbr : Below w0.heap.size w0 wr:=((unhide HB0).trans ((unhide HB1).mono hs0)).grown hgr.g (by omega) (fun j hj => ((unhide HXL) j hj).1)
   have hfl:=unhide (HFL k (by rw [unhide HYL]; exact hlt))
   have KR:=hide ((unhide HIH) k hlt u1 (xs ++ (yss.take k).flatten) wr hok hbr (by rw [List.length_append]; omega))
   have HNX:=hide (unhide (HSN k (by rw [unhide HYL]; exact hlt)))
   obtain ⟨uo,ul,ucap,hue⟩ : ∃ uo ul ucap,u1 = .slice uo ul ucap:=by
    obtain ⟨uo,ucap,hue,_,_⟩:=hok.sk.shape
    exact ⟨uo,_,ucap,hue⟩
   subst hue
   clear hok hgr hbr HVC HFITD HX HX1 HFL HSN hfl
   generalize ds.getD k 0 = d at *
   go_wp2_with fail
   refine (unhide KR).mono ?_
   rintro e3 w3 ⟨v3,rfl,ok3,g3⟩
   rw [List.append_assoc,← unhide HNX] at ok3
   have HO3:=hide ok3
   have HG3:=hide ((unhide HGR).trans g3)
   clear KR ok3 g3 HOK HGR hcell
   go_wp2
   go_roundw
   case rel => exact ⟨k + 1,by go_num,by omega,unhide HO3,unhide HG3⟩
   case measure => simp [intOf]; omega
  ·obtain rfl : k = ds.length:=by omega
   rw [← unhide HYL,List.take_length] at HOK
   have HF : Hid (AppB w w0.heap.size (.slice xo xs.length xcap) (xs ++ yss.flatten) (.returned u1) wr):=⟨u1,rfl,unhide HOK,(unhide HGR).after (unhide HB1)⟩
   obtain ⟨uo,ul,ucap,hue⟩ : ∃ uo ul ucap,u1 = .slice uo ul ucap:=by
    obtain ⟨uo,ucap,hue,_,_⟩:=hok.sk.shape
    exact ⟨uo,_,ucap,hue⟩
   subst hue
   clear hok hgr HOK HGR HVC HX HX1 HIH
   go_wp2
   go_ret
   exact unhide HF
theorem full_tree9 (hg : Glob w0) (hD : DataAt w0 B p rs) (hk : (Cn.check rs).2 = 0) {c : Int} {ys : List Int} (ht : Cn.Tree rs c ys) (hc : Rune c) : FullK w0 p c ys:=by
 refine ht (fun c ys=>Rune c→FullK w0 p c ys) (fun c ho hc=>full_leaf hg hD hk c hc ho) (fun c yss ho hl ih hc=>full_node hg hD hk c hc yss ho hl (fun i hi=>ih i hi (Cn.opn_rune hk (c:=c) (by simp [List.getD,hi])))) hc
set_option maxHeartbeats 1000000 in
theorem full_any9 (c : Int) (w : World) (hg : Glob w) (hD : DataAt w B p rs) (hk : (Cn.check rs).2 = 0) (hc : Rune c) : Calls Tryz.prog 27 #[.pointer (some ⟨p,0,none⟩),.int .i32 c] w (RunesNew w (Cn.full rs c).1):=by
 have hlen:=(Cn.leaves hk c).2.2.1
 have K:=hide (full_tree9 hg hD hk (Cn.full_tree hk c) hc (.slice none 0 0) [] w (Ok.nil _ _ _ _) (Below.refl _ _) (by simp; omega))
 rw [List.nil_append] at K
 obtain ⟨hc1,hc2⟩:=hc
 clear hg hD hlen
 generalize (Cn.full rs c).1 = zs at *
 go_enter Tryz.func27,Tryz.ntmps27
 go_wp2_with fail
 refine (unhide K).mono ?_
 rintro e1 w1 ⟨v1,rfl,ok1,g1⟩
 have HF : Hid (RunesNew w zs (.returned v1) w1):=⟨v1,rfl,ok1,(Below.refl w.heap.size w).grown g1.g (Nat.le_refl _) (fun k hk => by cases hk)⟩
 clear K ok1 g1
 go_wp2
 go_ret
 exact unhide HF
end
end Go.Proofs.YtkbmhpinfmognaaGreatDoor
namespace Go.Proofs.YtkbmhpinfmognaaGreatDoor
open Go.RowKit
def StrB (w : World) (s : ByteArray) (e : Ending) (w' : World) : Prop:=e = .returned (.string s) ∧ Below w.heap.size w w'
namespace Cn
end Cn
set_option maxRecDepth 8000 in
set_option maxHeartbeats 2000000 in
theorem script_any9 {B p : Nat} {rs : List Rec} (c : Int) (w : World) (hD : DataAt w B p rs) (h6 : (Cn.check6 rs).2 = 0) (hc : Rune c) : Calls Tryz.prog 24 #[.pointer (some ⟨p,0,none⟩),.int .i32 c] w (StrB w (Cn.rget rs 7 c).name):=by
 obtain ⟨t1,t2,t3,t4,t5,a1,l1,a2,l2,a3,l3,a4,l4,a5,l5,c1,c2,x1,h1,h2,h3⟩:=hD
 have K1:=hide (of_any c w h3.q3 h6 (by decide) hc)
 have x5 : w.cell? ⟨p,9,none⟩ = some a3:=cell_of (j:=9) h1 (by show 9 < 18; omega)
 have x6 : w.cell? ⟨p,10,none⟩ = some l3:=cell_of (j:=10) h1 (by show 10 < 18; omega)
 obtain ⟨⟨aa,m,e,-⟩,ps,hR,-⟩:=h3.q3
 subst e
 obtain ⟨lo5,lc5,hle⟩ : ∃ ao cap,l3 = .slice ao ps.length cap:=by
  rcases hR.1.2 with ⟨e,h0⟩ | ⟨g,cap,cur,e,_⟩
  ·exact ⟨_,_,by rw [e,h0]⟩
  ·exact ⟨_,_,e⟩
 subst hle
 obtain ⟨hc1,hc2⟩:=hc
 clear h1 h2 h3 h6 hR
 generalize Cn.rget rs 7 c = r at *
 go_enter Tryz.func24,Tryz.ntmps24
 go_wp2_with fail
 refine (unhide K1).mono ?_
 rintro e1 w1 ⟨vt,rfl,hok,b1⟩
 have HB:=hide b1
 obtain ⟨ao,tc,rfl,_,_⟩:=hok.sk.shape
 clear K1 x5 x6 hok b1
 unfold recV
 have hfw:=field_nm r.kind r.lo r.hi r.n ao r.to.length tc r.name r.other r.wt w1
 go_wp2
 go_ret
 exact ⟨rfl,unhide HB⟩
end Go.Proofs.YtkbmhpinfmognaaGreatDoor
namespace Go.Proofs.YtkbmhpinfmognaaGreatDoor
open Go.RowKit
open Ti
namespace Cn
def looks (rs : List Rec) (c : Int) : List Int:=if (rget rs 8 c).to = [] then [c] else (rget rs 8 c).to
section
variable {rs : List Rec} {c : Int}
theorem out_hit (h6 : (check6 rs).2 = 0) (hc : c < 0 ∨ 1114111 < c) {f : Int} (hf : f ≠ 10 ∧ f ≠ 0) : hit rs f c = Option.none:=by
 cases he : hit rs f c with
 | none => rfl
 | some r =>
  have hs:=((hit_iff h6 hf r).1 he).2.2
  unfold speaks at hs
  obtain ⟨_,_,c0,c1,_⟩:=of_decide_eq_true hs
  omega
theorem out_rget (h6 : (check6 rs).2 = 0) (hc : c < 0 ∨ 1114111 < c) {f : Int} (hf : f ≠ 10 ∧ f ≠ 0) : rget rs f c = none:=by
 unfold rget; rw [out_hit h6 hc hf]
theorem out_opn (h6 : (check6 rs).2 = 0) (hc : c < 0 ∨ 1114111 < c) : opn rs c = []:=by
 unfold opn
 have : syl c = false:=by unfold syl; exact decide_eq_false (by omega)
 rw [this,out_hit h6 hc (by decide)]; rfl
theorem out_full (h6 : (check6 rs).2 = 0) (hc : c < 0 ∨ 1114111 < c) : (full rs c).1 = [c]:=by
 unfold full
 rw [walk_leaf (out_opn h6 hc)]; rfl
theorem to_scalar (h6 : (check6 rs).2 = 0) {r : Rec} (hr : r ∈ rs) (h7 : r.kind = 7) : (0 ≤ r.to.getD 0 0 ∧ r.to.getD 0 0 ≤ 1114111) ∧ 0 ≤ r.to.getD 1 0 ∧ r.to.getD 1 0 ≤ 1114111:=by
 obtain ⟨hl,hs⟩:=list_parts (right_decomp ((check6_iff.1 h6).2.1 r hr) h7).2.2
 have hl2 : r.to.length = 2:=by omega
 match hr2 : r.to,hl2 with
 | [a,b],_ =>
  rw [hr2] at hs
  exact ⟨scalar_reach (hs a (by simp)),scalar_reach (hs b (by simp))⟩
theorem out_pair (h6 : (check6 rs).2 = 0) {a b : Int} (hc : (a < 0 ∨ 1114111 < a) ∨ (b < 0 ∨ 1114111 < b)) : pairOf rs a b = Option.none:=by
 unfold pairOf
 rw [List.find?_eq_none.2 fun r hr hp => ?_]; rfl
 have hp:=of_decide_eq_true hp
 have:=to_scalar h6 (List.mem_reverse.1 hr) hp.1
 omega
theorem out_sec (h6 : (check6 rs).2 = 0) (hc : c < 0 ∨ 1114111 < c) : secOf rs c = 0:=by
 unfold secOf
 rw [List.countP_eq_zero]
 intro r hr hp
 have hp:=of_decide_eq_true hp
 have:=to_scalar h6 hr hp.1
 omega
end
end Cn
theorem narrow_zero (w : World) : Calls Tryz.prog 73 #[.float .f64 0] w fun e w' => e = .returned (.float .f64 0) ∧ w' = w:=by
 have K1:=hide (uIsNaN_any 0 w)
 have h1 : (convert 46 122 (.float .f64 0)).run Tryz.prog w = .ok (.float .f32 0) w:=by kernel_rfl
 have h2 : (convert 122 46 (.float .f32 0)).run Tryz.prog w = .ok (.float .f64 0) w:=by kernel_rfl
 rw [show isNaNB 0 = false by decide +kernel] at K1
 go_enter Tryz.func73,Tryz.ntmps73
 go_wp2_with fail
 refine (unhide K1).mono ?_
 rintro e w ⟨rfl,rfl⟩
 clear K1
 go_wp2
 go_ret
 exact ⟨rfl,rfl⟩
set_option maxRecDepth 8000 in
set_option maxHeartbeats 2000000 in
theorem looks_any9 {B p : Nat} {rs : List Rec} (c : Int) (w : World) (hD : DataAt w B p rs) (h6 : (Cn.check6 rs).2 = 0) (hfit : ∀ r ∈ rs,RecFit r) (hc : Rune c) : Calls Tryz.prog 28 #[.pointer (some ⟨p,0,none⟩),.int .i32 c] w (RunesNew w (Cn.looks rs c)):=by
 obtain ⟨t1,t2,t3,t4,t5,a1,l1,a2,l2,a3,l3,a4,l4,a5,l5,c1,c2,x1,h1,h2,h3⟩:=hD
 have K1:=hide (of_any c w h3.q4 h6 (by decide) hc)
 have x5 : w.cell? ⟨p,11,none⟩ = some a4:=cell_of (j:=11) h1 (by show 11 < 18; omega)
 have x6 : w.cell? ⟨p,12,none⟩ = some l4:=cell_of (j:=12) h1 (by show 12 < 18; omega)
 obtain ⟨⟨aa,m,e,-⟩,ps,hR,-⟩:=h3.q4
 subst e
 obtain ⟨lo5,lc5,hle⟩ : ∃ ao cap,l4 = .slice ao ps.length cap:=by
  rcases hR.1.2 with ⟨e,h0⟩ | ⟨g,cap,cur,e,_⟩
  ·exact ⟨_,_,by rw [e,h0]⟩
  ·exact ⟨_,_,e⟩
 subst hle
 have hrl : (Cn.rget rs 8 c).to.length ≤ 1000000000:=by
  rcases Cn.rget_cases h6 (f:=8) (by decide) c with ⟨_,e⟩ | ⟨_,hm,_⟩
  ·rw [e]; simp [Cn.none]
  ·exact (hfit _ hm).len
 obtain ⟨hc1,hc2⟩:=hc
 clear h1 h2 h3 h6 hR hfit
 unfold Cn.looks
 generalize Cn.rget rs 8 c = r at *
 obtain ⟨zs,hzs⟩ : ∃ zs,r.to = zs:=⟨_,rfl⟩
 rw [hzs] at hrl ⊢
 have HZS:=hide hzs
 obtain ⟨ans,hans⟩ : ∃ a,(if zs = [] then [c] else zs) = a:=⟨_,rfl⟩
 rw [hans]
 have HANS:=hide hans
 clear hans hzs
 go_enter Tryz.func28,Tryz.ntmps28
 go_wp2_with fail
 refine (unhide K1).mono ?_
 rintro e1 w1 ⟨vt,rfl,hok,b1⟩
 rw [unhide HZS] at hok
 obtain ⟨ao,tc,rfl,ht1,ht2⟩:=hok.sk.shape
 have HB1:=hide b1
 have hsk:=hok.sk.below b1
 have hfw:=field_to r.kind r.lo r.hi r.n ao zs.length tc r.name r.other r.wt w1
 have hs1:=b1.size
 clear K1 x5 x6 hok HZS
 unfold recV
 by_cases hn : zs = []
 ·have ha:=unhide HANS
  rw [if_pos hn] at ha
  subst hn ha
  simp only [List.length_nil] at hfw ⊢
  have HF : Hid (RunesNew w [c] (.returned (.slice (some ⟨w1.heap.size,0,none⟩) 1 1)) (w1.alloc (.cells #[.int .i32 c] 21))):=⟨_,rfl,ok_one9 w1 w.heap.size hs1 c ⟨hc1,hc2⟩,(unhide HB1).alloc hs1 _⟩
  clear HANS hsk b1 ht1 hrl
  go_wp2
  go_ret
  exact unhide HF
 ·have ha:=unhide HANS
  rw [if_neg hn] at ha
  subst ha
  have K2:=hide (clone_any _ zs w1 hsk hrl)
  have hl : 0 < zs.length:=List.length_pos_iff.2 hn
  clear HANS hsk b1 hn
  go_wp2_with fail
  refine (unhide K2).mono ?_
  rintro e3 w3 ⟨v3,rfl,ok3,b3⟩
  have HF : Hid (RunesNew w zs (.returned v3) w3):=⟨v3,rfl,ok3.lower (unhide HB1).size,bthen (unhide HB1) b3⟩
  clear K2 ok3 b3
  go_wp2
  go_ret
  exact unhide HF
end Go.Proofs.YtkbmhpinfmognaaGreatDoor
namespace Go.Proofs.YtkbmhpinfmognaaGreatDoor
open Go.RowKit
open Ti
def secB (rs : List Rec) (c : Int) : Bool:=(Cn.jv c || Cn.jt c) || decide (0 < Cn.secOf rs c)
set_option maxRecDepth 8000 in
set_option maxHeartbeats 2000000 in
theorem second_any9 {B p : Nat} {rs : List Rec} (c : Int) (w : World) (hD : DataAt w B p rs) : Calls Tryz.prog 32 #[.pointer (some ⟨p,0,none⟩),.int .i32 c] w fun e w' => e = .returned (.bool (secB rs c)) ∧ w' = w:=by
 obtain ⟨t1,t2,t3,t4,t5,a1,l1,a2,l2,a3,l3,a4,l4,a5,l5,c1,c2,x1,h1,h2,h3⟩:=hD
 have K:=hide (uends_any c w)
 have x : w.cell? ⟨p,16,none⟩ = some c2:=cell_of (j:=16) h1 (by show 16 < 18; omega)
 obtain ⟨r1,r2,e1,rfl,b1,b2,g1,g2⟩:=h3.co
 have HLK:=(g_look (w:=w) (M:=80) (z:=.int .i64 0) klR Tryz.underlying80 zero_i64 (r:=r2) g2 (k:=.int .i32 c) ⟨c,rfl⟩).2
 have hsl:=Cn.secOf_le rs c
 have hse : (secC rs (.int .i32 c)).getD (.int .i64 0) = .int .i64 (Cn.secOf rs c : Nat):=by
  unfold secC
  by_cases h : Cn.secOf rs c = 0
  ·simp [h]
  ·simp [h]
 rw [hse] at HLK
 unfold secB
 clear h1 h2 h3 g1 g2 e1 hse
 generalize Cn.secOf rs c = n at *
 generalize (Cn.jv c || Cn.jt c) = q at *
 cases q with
 | true =>
  clear HLK
  go_enter Tryz.func32,Tryz.ntmps32
  go_wp2_with fail
  refine (unhide K).mono ?_
  rintro e wq ⟨rfl,rfl⟩
  clear K
  go_wp2
  go_ret
  exact ⟨rfl,rfl⟩
 | false =>
  by_cases hn : 0 < n
  ·have hd : decide ((0 : Int) < (n : Int)) = true:=decide_eq_true (by omega)
   rw [show decide (0 < n) = true from decide_eq_true hn]
   go_enter Tryz.func32,Tryz.ntmps32
   go_wp2_with fail
   refine (unhide K).mono ?_
   rintro e wq ⟨rfl,rfl⟩
   clear K
   go_wp2
   go_ret
   exact ⟨by first | rfl | simp [hn],rfl⟩
  ·obtain rfl : n = 0:=by omega
   rw [show decide (0 < 0) = false from rfl]
   go_enter Tryz.func32,Tryz.ntmps32
   go_wp2_with fail
   refine (unhide K).mono ?_
   rintro e wq ⟨rfl,rfl⟩
   clear K
   go_wp2
   go_ret
   exact ⟨rfl,rfl⟩
namespace Cn
theorem out_cmp {rs : List Rec} (h6 : (check6 rs).2 = 0) {a b : Int} (hc : (a < 0 ∨ 1114111 < a) ∨ (b < 0 ∨ 1114111 < b)) : cmp9 rs a b = (0,false):=by
 have hs : sylOf a b = (0,false):=by
  unfold sylOf
  rw [if_neg,if_neg]
  ·unfold bare2 syl jt
   simp only [Bool.and_eq_true,decide_eq_true_eq]
   omega
  ·unfold jl jv
   simp only [Bool.and_eq_true,decide_eq_true_eq]
   omega
 unfold cmp9
 rw [hs,out_pair h6 hc]
 rfl
theorem out_vget {rs : List Rec} (h6 : (check6 rs).2 = 0) {c : Int} (hc : c < 0 ∨ 1114111 < c) {f : Int} (hf : f ≠ 10 ∧ f ≠ 0) : vget rs f c = 0:=by
 unfold vget; rw [out_hit h6 hc hf]
theorem out_secB {rs : List Rec} (h6 : (check6 rs).2 = 0) {c : Int} (hc : c < 0 ∨ 1114111 < c) : secB rs c = false:=by
 unfold secB
 rw [out_sec h6 hc]
 have h1 : jv c = false:=by unfold jv; exact decide_eq_false (by omega)
 have h2 : jt c = false:=by unfold jt; exact decide_eq_false (by omega)
 rw [h1,h2]; rfl
end Cn
set_option maxRecDepth 8000 in
set_option maxHeartbeats 16000000 in
theorem beyond_any (v : Value) (rs0 : List Rec) (c0 b : Int) (w : World) (hg : Glob w) (hv : Rcs w v rs0) (hc0 : Rune c0) (hb : Rune b) : Calls Tryz.prog 7 #[v,.int .i32 c0,.int .i32 b] w (Tells w true):=by
 have K1:=hide (made_any v rs0 w hg hv)
 have hfit : ∀ r ∈ rs0.take 150,RecFit r:=fun r hr => hv.2.1 r (List.mem_of_mem_take hr)
 have hrl : (rs0.take 150).length ≤ 150:=by rw [List.length_take]; omega
 obtain ⟨ao,cap,rfl,_,hcap⟩:=hv.shape
 have HG:=hide hg
 have HFIT:=hide hfit
 obtain ⟨c00,c01⟩:=hc0
 clear hg hv hfit
 generalize rs0.take 150 = rs at *
 generalize rs0.length = L at *
 go_enter Tryz.func7,Tryz.ntmps7
 go_wp2_with fail
 refine (unhide K1).mono ?_
 rintro e1 w1 ⟨b1,h1⟩
 have HB1:=hide b1
 clear K1 b1
 rcases h1 with ⟨hne,rfl⟩ | ⟨h0,p,v2,ps2,rfl,hD,r2,p2⟩
 ·have K2:=hide (told_any9 w1 ((unhide HG).on (unhide HB1)))
  clear hne
  go_wp2_with fail
  refine (unhide K2).mono ?_
  rintro e2 w2 ⟨rfl,b2⟩
  have HB2:=hide (bthen (unhide HB1) b2)
  clear K2 b2
  go_wp2
  go_ret
  exact ⟨rfl,unhide HB2⟩
 ·have h6:=(Cn.check_iff.1 h0).1
  have R2:=rcs_new r2 p2 (by omega) (unhide HFIT)
  obtain ⟨a2,cp2,hv2,_,hcp2⟩:=R2.shape
  subst hv2
  have HD:=hide hD
  have H6:=hide h6
  have H0:=hide h0
  have hs1:=(unhide HB1).size
  clear hD R2 r2 p2 h0 h6
  obtain ⟨wo,hwo⟩ : ∃ wo,wo = w1:=⟨_,rfl⟩
  subst hwo
  go_upto_region 4 with fail
  go_cut [33] (fun t wd => t = .bool (decide (0 ≤ c0 ∧ c0 ≤ 1114111)) ∧ wd = wo)
  case first =>
   by_cases hi1 : 0 ≤ c0
   ·by_cases hi2 : c0 ≤ 1114111
    ·have hd : decide (0 ≤ c0 ∧ c0 ≤ 1114111) = true:=decide_eq_true ⟨hi1,hi2⟩
     have HD0:=hide hd
     clear hd
     go_wp2
     go_meet
     case rel => exact ⟨by rw [unhide HD0],rfl⟩
    ·have hd : decide (0 ≤ c0 ∧ c0 ≤ 1114111) = false:=decide_eq_false (fun h => hi2 h.2)
     have HD0:=hide hd
     clear hd
     go_wp2
     go_meet
     case rel => exact ⟨by rw [unhide HD0],rfl⟩
   ·have hd : decide (0 ≤ c0 ∧ c0 ≤ 1114111) = false:=decide_eq_false (fun h => hi1 h.1)
    have HD0:=hide hd
    clear hd
    go_wp2
    go_meet
    case rel => exact ⟨by rw [unhide HD0],rfl⟩
  case rest =>
  obtain ⟨rfl,hwa⟩:=hcut
  have hwb:=hwa.symm
  subst hwb
  obtain ⟨w1,hw1⟩ : ∃ w1,w1 = wo:=⟨_,rfl⟩
  subst hw1
  go_upto_if 33 with fail
  go_cut [1] (fun cc wd => ∃ c : Int,cc = .int .i32 c ∧ Rune c ∧ (c < 0 ∨ 1114111 < c) ∧ wd = w1)
  case first =>
   by_cases hi : 0 ≤ c0 ∧ c0 ≤ 1114111
   ·rw [decide_eq_true hi]
    obtain ⟨hi1,hi2⟩:=hi
    go_wp2
    go_meet
    case rel => exact ⟨-1 - c0,by go_num,⟨by omega,by omega⟩,by omega,rfl⟩
   ·rw [decide_eq_false hi]
    go_wp2
    go_meet
    case rel => exact ⟨c0,rfl,⟨by omega,by omega⟩,by omega,rfl⟩
  case rest =>
   obtain ⟨c,rfl,hc,ho,hww⟩:=hcut
   have hwx:=hww.symm
   subst hwx
   have HDW : Hid (∀ W,Below w1.heap.size w1 W → DataAt W w.heap.size p rs):=fun W hW => (unhide HD).below hW
   have HGW : Hid (∀ W,Below w1.heap.size w1 W → Glob W):=fun W hW => ((unhide HG).on (unhide HB1)).on hW
   have HCA : Hid (∀ W,Below w1.heap.size w1 W → Calls Tryz.prog 34 #[.pointer (some ⟨p,0,none⟩),.int .i32 c,.int .i32 b] W fun e w' => e = .returned (.tuple #[.int .i32 0,.bool false]) ∧ w' = W):=fun W hW => by
    have h:=compose_any9 c b W ((unhide HDW) W hW) hc hb
    rw [Cn.out_cmp (unhide H6) (.inl ho)] at h; exact h
   have HCB : Hid (∀ W,Below w1.heap.size w1 W → Calls Tryz.prog 34 #[.pointer (some ⟨p,0,none⟩),.int .i32 b,.int .i32 c] W fun e w' => e = .returned (.tuple #[.int .i32 0,.bool false]) ∧ w' = W):=fun W hW => by
    have h:=compose_any9 b c W ((unhide HDW) W hW) hb hc
    rw [Cn.out_cmp (unhide H6) (.inr ho)] at h; exact h
   have HST : Hid (∀ W,Below w1.heap.size w1 W → Calls Tryz.prog 12 #[.pointer (some ⟨p,0,none⟩),.int .i32 c] W (IntDraws W 0)):=fun W hW => by
    have h:=status_any9 c W ((unhide HDW) W hW) (unhide H6) hc
    rw [Cn.out_vget (unhide H6) ho (by decide)] at h; exact h
   have HMP : Hid (∀ W,Below w1.heap.size w1 W → Calls Tryz.prog 11 #[.pointer (some ⟨p,0,none⟩),.int .i32 c] W (RunesNew W [])):=fun W hW => by
    have h:=mapping_any9 c W ((unhide HDW) W hW) (unhide H6) (unhide HFIT) hc
    rw [show Cn.mapping rs c = [] by unfold Cn.mapping; rw [Cn.out_rget (unhide H6) ho (by decide)]; rfl] at h; exact h
   have HCL : Hid (∀ W,Below w1.heap.size w1 W → Calls Tryz.prog 16 #[.pointer (some ⟨p,0,none⟩),.int .i32 c] W (IntDraws W 0)):=fun W hW => by
    have h:=class_any9 c W ((unhide HDW) W hW) (unhide H6) hc
    rw [Cn.out_vget (unhide H6) ho (by decide)] at h; exact h
   have HOP : Hid (∀ W,Below w1.heap.size w1 W → Calls Tryz.prog 26 #[.pointer (some ⟨p,0,none⟩),.int .i32 c] W (RunesNew W [])):=fun W hW => by
    have h:=open_any9 c W ((unhide HGW) W hW) ((unhide HDW) W hW) (unhide H0) hc
    rw [Cn.out_opn (unhide H6) ho] at h; exact h
   have HFU : Hid (∀ W,Below w1.heap.size w1 W → Calls Tryz.prog 27 #[.pointer (some ⟨p,0,none⟩),.int .i32 c] W (RunesNew W [c])):=fun W hW => by
    have h:=full_any9 c W ((unhide HGW) W hW) ((unhide HDW) W hW) (unhide H0) hc
    rw [Cn.out_full (unhide H6) ho] at h; exact h
   have HSE : Hid (∀ W,Below w1.heap.size w1 W → Calls Tryz.prog 32 #[.pointer (some ⟨p,0,none⟩),.int .i32 c] W (fun e w' => e = .returned (.bool false) ∧ w' = W)):=fun W hW => by
    have h:=second_any9 c W ((unhide HDW) W hW)
    rw [Cn.out_secB (unhide H6) ho] at h; exact h
   have HBI : Hid (∀ W,Below w1.heap.size w1 W → Calls Tryz.prog 18 #[.pointer (some ⟨p,0,none⟩),.int .i32 c] W (IntDraws W 0)):=fun W hW => by
    have h:=bidi_any9 c W ((unhide HDW) W hW) (unhide H6) hc
    rw [Cn.out_vget (unhide H6) ho (by decide)] at h; exact h
   have HJO : Hid (∀ W,Below w1.heap.size w1 W → Calls Tryz.prog 20 #[.pointer (some ⟨p,0,none⟩),.int .i32 c] W (IntDraws W 0)):=fun W hW => by
    have h:=join_any9 c W ((unhide HDW) W hW) (unhide H6) hc
    rw [Cn.out_vget (unhide H6) ho (by decide)] at h; exact h
   have HMK : Hid (∀ W,Below w1.heap.size w1 W → Calls Tryz.prog 22 #[.pointer (some ⟨p,0,none⟩),.int .i32 c] W (BoolDraws W false)):=fun W hW => by
    have h:=mark_any9 c W ((unhide HDW) W hW) (unhide H6) hc
    rw [Cn.out_vget (unhide H6) ho (by decide)] at h; exact h
   have HSC : Hid (∀ W,Below w1.heap.size w1 W → Calls Tryz.prog 24 #[.pointer (some ⟨p,0,none⟩),.int .i32 c] W (StrB W ⟨#[]⟩)):=fun W hW => by
    have h:=script_any9 c W ((unhide HDW) W hW) (unhide H6) hc
    rw [Cn.out_rget (unhide H6) ho (by decide)] at h; exact h
   have HLO : Hid (∀ W,Below w1.heap.size w1 W → Calls Tryz.prog 28 #[.pointer (some ⟨p,0,none⟩),.int .i32 c] W (RunesNew W [c])):=fun W hW => by
    have h:=looks_any9 c W ((unhide HDW) W hW) (unhide H6) (unhide HFIT) hc
    rw [show Cn.looks rs c = [c] by unfold Cn.looks; rw [Cn.out_rget (unhide H6) ho (by decide)]; rfl] at h; exact h
   have HWE : Hid (∀ W,Below w1.heap.size w1 W → Calls Tryz.prog 41 #[.pointer (some ⟨p,0,none⟩),.int .i32 c] W (fun e w' => e = .returned (.float .f64 0) ∧ Below W.heap.size W w')):=fun W hW => weight_any9 c 0 W ((unhide HDW) W hW) (unhide H6) hc (fun W' => by rw [Cn.out_rget (unhide H6) ho (by decide)]; exact narrow_zero W')
   have HBT:=hide (fun W => bits_any 0 W)
   obtain ⟨hc1,hc2⟩:=hc
   obtain ⟨hb1,hb2⟩:=hb
   have K2:=hide ((unhide HCA) w1 (Below.refl _ _))
   go_wp2_with fail
   refine (unhide K2).mono ?_
   rintro e2 w2 ⟨rfl,rfl⟩
   have K3:=hide ((unhide HCB) w2 (Below.refl _ _))
   clear K2 HCA HCB
   go_wp2_with fail
   refine (unhide K3).mono ?_
   rintro e3 w3 ⟨rfl,rfl⟩
   clear K3
   obtain ⟨W0,hW0⟩ : ∃ W0,w3.alloc (.cells #[.int .i32 c] 21) = W0:=⟨_,rfl⟩
   have HO0 : Hid (Ok .i32 21 W0 w3.heap.size (.slice (some ⟨w3.heap.size,0,none⟩) 1 1) [c]):=by rw [← hW0]; exact ok_one9 w3 w3.heap.size (Nat.le_refl _) c ⟨hc1,hc2⟩
   have HB2 : Hid (Below w3.heap.size w3 W0):=by rw [← hW0]; exact (Below.refl _ _).alloc (Nat.le_refl _) _
   have K11:=hide ((unhide HST) W0 (unhide HB2))
   go_wp2_with fail
   refine (unhide K11).mono ?_
   rintro e11 w11 ⟨rfl,m11,rfl⟩
   have hb11 : Below W0.heap.size W0 (W0.drewN m11):=drewB ⟨m11,rfl⟩
   have HO11:=hide ((unhide HO0).below hb11)
   have HB11:=hide (bthen (unhide HB2) hb11)
   clear K11 hb11 HO0 HB2 hW0
   generalize W0.drewN m11 = w11 at *
   have K12:=hide ((unhide HMP) w11 (unhide HB11))
   go_wp2_with fail
   refine (unhide K12).mono ?_
   rintro e12 w12 ⟨v12,rfl,ok12,b12⟩
   obtain ⟨vo12,vc12,hv12,_,_⟩:=ok12.sk.shape
   simp only [List.length_nil] at hv12
   subst hv12
   have HO12:=hide ((unhide HO11).below b12)
   have HB12:=hide (bthen (unhide HB11) b12)
   clear K12 b12 ok12 HO11 HB11
   have K13:=hide ((unhide HCL) w12 (unhide HB12))
   go_wp2_with fail
   refine (unhide K13).mono ?_
   rintro e13 w13 ⟨rfl,m13,rfl⟩
   have hb13 : Below w12.heap.size w12 (w12.drewN m13):=drewB ⟨m13,rfl⟩
   have HO13:=hide ((unhide HO12).below hb13)
   have HB13:=hide (bthen (unhide HB12) hb13)
   clear K13 hb13 HO12 HB12
   generalize w12.drewN m13 = w13 at *
   have K14:=hide ((unhide HOP) w13 (unhide HB13))
   go_wp2_with fail
   refine (unhide K14).mono ?_
   rintro e14 w14 ⟨v14,rfl,ok14,b14⟩
   obtain ⟨vo14,vc14,hv14,_,_⟩:=ok14.sk.shape
   simp only [List.length_nil] at hv14
   subst hv14
   have HO14:=hide ((unhide HO13).below b14)
   have HB14:=hide (bthen (unhide HB13) b14)
   clear K14 b14 ok14 HO13 HB13
   have K15:=hide ((unhide HFU) w14 (unhide HB14))
   go_wp2_with fail
   refine (unhide K15).mono ?_
   rintro e15 w15 ⟨v15,rfl,ok15,b15⟩
   obtain ⟨vo15,vc15,hv15,_,_⟩:=ok15.sk.shape
   simp only [List.length_singleton] at hv15
   subst hv15
   have HO15:=hide ((unhide HO14).below b15)
   have HB15:=hide (bthen (unhide HB14) b15)
   have KS15:=hide (same3_eq _ _ [c] w15 ok15.sk (unhide HO15).sk (by simp))
   clear K15 b15 ok15 HO14 HB14
   go_wp2_with fail
   refine (unhide KS15).mono ?_
   rintro e16 w16 ⟨rfl,m16,rfl⟩
   have hb16 : Below w15.heap.size w15 (w15.drewN m16):=drewB ⟨m16,rfl⟩
   have HO16:=hide ((unhide HO15).below hb16)
   have HB16:=hide (bthen (unhide HB15) hb16)
   clear KS15 hb16 HO15 HB15
   generalize w15.drewN m16 = w16 at *
   have K17:=hide ((unhide HSE) w16 (unhide HB16))
   go_wp2_with fail
   refine (unhide K17).mono ?_
   rintro e17 w17 ⟨rfl,rfl⟩
   have HO17:=hide (unhide HO16)
   have HB17:=hide (unhide HB16)
   clear K17 HO16 HB16
   have K18:=hide ((unhide HBI) w17 (unhide HB17))
   go_wp2_with fail
   refine (unhide K18).mono ?_
   rintro e18 w18 ⟨rfl,m18,rfl⟩
   have hb18 : Below w17.heap.size w17 (w17.drewN m18):=drewB ⟨m18,rfl⟩
   have HO18:=hide ((unhide HO17).below hb18)
   have HB18:=hide (bthen (unhide HB17) hb18)
   clear K18 hb18 HO17 HB17
   generalize w17.drewN m18 = w18 at *
   have K19:=hide ((unhide HJO) w18 (unhide HB18))
   go_wp2_with fail
   refine (unhide K19).mono ?_
   rintro e19 w19 ⟨rfl,m19,rfl⟩
   have hb19 : Below w18.heap.size w18 (w18.drewN m19):=drewB ⟨m19,rfl⟩
   have HO19:=hide ((unhide HO18).below hb19)
   have HB19:=hide (bthen (unhide HB18) hb19)
   clear K19 hb19 HO18 HB18
   generalize w18.drewN m19 = w19 at *
   have K20:=hide ((unhide HMK) w19 (unhide HB19))
   go_wp2_with fail
   refine (unhide K20).mono ?_
   rintro e20 w20 ⟨rfl,m20,rfl⟩
   have hb20 : Below w19.heap.size w19 (w19.drewN m20):=drewB ⟨m20,rfl⟩
   have HO20:=hide ((unhide HO19).below hb20)
   have HB20:=hide (bthen (unhide HB19) hb20)
   clear K20 hb20 HO19 HB19
   generalize w19.drewN m20 = w20 at *
   have K21:=hide ((unhide HSC) w20 (unhide HB20))
   go_wp2_with fail
   refine (unhide K21).mono ?_
   rintro e21 w21 ⟨rfl,b21⟩
   have HO21:=hide ((unhide HO20).below b21)
   have HB21:=hide (bthen (unhide HB20) b21)
   clear K21 b21 HO20 HB20
   have K22:=hide ((unhide HLO) w21 (unhide HB21))
   go_wp2_with fail
   refine (unhide K22).mono ?_
   rintro e22 w22 ⟨v22,rfl,ok22,b22⟩
   obtain ⟨vo22,vc22,hv22,_,_⟩:=ok22.sk.shape
   simp only [List.length_singleton] at hv22
   subst hv22
   have HO22:=hide ((unhide HO21).below b22)
   have HB22:=hide (bthen (unhide HB21) b22)
   have KS22:=hide (same3_eq _ _ [c] w22 ok22.sk (unhide HO22).sk (by simp))
   clear K22 b22 ok22 HO21 HB21
   go_wp2_with fail
   refine (unhide KS22).mono ?_
   rintro e23 w23 ⟨rfl,m23,rfl⟩
   have hb23 : Below w22.heap.size w22 (w22.drewN m23):=drewB ⟨m23,rfl⟩
   have HO23:=hide ((unhide HO22).below hb23)
   have HB23:=hide (bthen (unhide HB22) hb23)
   clear KS22 hb23 HO22 HB22
   generalize w22.drewN m23 = w23 at *
   have K24:=hide ((unhide HWE) w23 (unhide HB23))
   go_wp2_with fail
   refine (unhide K24).mono ?_
   rintro e24 w24 ⟨rfl,b24⟩
   have HO24:=hide ((unhide HO23).below b24)
   have HB24:=hide (bthen (unhide HB23) b24)
   clear K24 b24 HO23 HB23
   go_wp2_with fail
   refine ((unhide HBT) _).mono ?_
   rintro e90 w90 ⟨rfl,rfl⟩
   clear HBT
   have HF:=hide (bthen (unhide HB1) (unhide HB24))
   go_wp2
   go_ret
   exact ⟨rfl,unhide HF⟩
end Go.Proofs.YtkbmhpinfmognaaGreatDoor
