/- Ct7 Vh9 Vi9 Vj9 Vk9 Vm9 Vn9 -/
import Derived.Test.YtihhhjodonkkcaaGreatDoorX25
import Derived.Laws.AppendOwnNone
import Derived.Maps.AppendAt
namespace Go.Proofs.YtihhhjodonkkcaaGreatDoor.Cn
theorem walk_leaves l:∀ (f:Nat) (way:List Int) (c:Int) (out:List Int),(∀ x∈out,opn l x=[])→∀ x∈(walk l f way c out).1,opn l x=[]:=by
 intro f
 induction f with
 | zero =>
  intro way c out h
  rw [walk]
  split
  ·grind
  ·split <;> (intro x hx; cases hx)
 | succ f ih =>
  intro way c out h
  rw [walk]
  split
  ·grind
  ·split
   ·intro x hx; cases hx
   ·have key:∀ (xs:List Int) (s:List Int × Int),(∀ x∈s.1,opn l x=[])→∀ x∈(xs.foldl (stepW l f (way++[c])) s).1,opn l x=[]:=by
     intro xs
     induction xs with
     | nil=>intro s hs; exact hs
     | cons x xs ihx =>
      intro s hs
      rw [List.foldl_cons]
      refine ihx _ ?_
      unfold stepW
      split
      ·exact ih _ _ _ hs
      ·exact hs
    exact key _ _ h
theorem walk_more l:∀ (f:Nat) (way:List Int) (c:Int) (out:List Int),(walk l f way c out).2=0→out.length<(walk l f way c out).1.length:=by
 intro f
 induction f with
 | zero =>
  intro way c out
  rw [walk]
  split
  ·grind
  ·grind
 | succ f ih =>
  intro way c out
  rw [walk]
  split
  ·split
   ·intro h; exact absurd h (by decide)
   ·intro _; simp
  ·next hc =>
   split
   ·intro h; exact absurd h (by decide)
   ·have key:∀ (xs:List Int) (s:List Int × Int),(xs.foldl (stepW l f (way++[c])) s).2=0→s.1.length+xs.length≤(xs.foldl (stepW l f (way++[c])) s).1.length:=by
     intro xs
     induction xs with
     | nil=>intro s _; simp
     | cons x xs ihx =>
      intro s hs
      rw [List.foldl_cons] at hs ⊢
      have h1:=ihx _ hs
      have h0:s.2=0:=by
       refine Decidable.byContradiction fun hn=>?_
       rw [stepW,if_neg hn,fold_stuck _ _ _ _ _ hn] at hs
       exact hn hs
      have h2:(stepW l f (way++[c]) s x).2=0:=by
       refine Decidable.byContradiction fun hn=>?_
       rw [fold_stuck _ _ _ _ _ hn] at hs
       exact hn hs
      unfold stepW at h1 h2 hs ⊢
      rw [if_pos h0] at h1 h2
      have h3:=ih _ _ _ h2
      simp only [List.length_cons]
      simp only [if_pos h0] at *
      omega
    intro h
    have:=key _ _ h
    have hne:0<(opn l c).length:=List.length_pos_iff.2 hc
    simp only at this
    exact Nat.lt_of_lt_of_le (by omega) this
def jamo (c:Int):Prop:=(4352≤c∧c≤4370)∨(4449≤c∧c≤4469)∨(4520≤c∧c≤4546)
theorem speaks_span {r c} (h:speaks r c=true):r.lo≤c∧c≤r.hi:=by
 unfold speaks at h
 obtain ⟨_,_,_,_,h5,h6,_⟩:=of_decide_eq_true h
 exact ⟨h5,h6⟩
theorem jamo_hit {l} (h:(check l).2=0) {c} (hc:jamo c) {f} (hf:f=2∨f=3):hit l f c=Option.none:=by
 obtain ⟨h6,hr,_,_⟩:=check_iff.1 h
 cases e:hit l f c with
 | none=>rfl
 | some r =>
  obtain ⟨h1,h2,h3⟩:=hit_some e
  have hs:=speaks_span h3
  have h0:=hr r h1
  unfold record at h0
  rw [if_neg (by omega)] at h0
  split at h0
  ·exact absurd h0 (by decide)
  ·split at h0
   ·exact absurd h0 (by decide)
   ·next hn =>
    refine absurd ?_ hn
    simp only [Bool.or_eq_true,covers,decide_eq_true_eq]
    rcases hc with hc | hc | hc
    ·exact .inl (.inl (.inl (by omega)))
    ·exact .inl (.inl (.inr (by omega)))
    ·exact .inl (.inr (by omega))
theorem jamo_opn {l} (h:(check l).2=0) {c} (hc:jamo c):opn l c=[]:=by
 unfold opn
 have:syl c=false:=by
  unfold syl
  unfold jamo at hc
  exact decide_eq_false (by omega)
 rw [this,jamo_hit h hc (.inr rfl)]
 rfl
theorem jamo_cls {l} (h:(check l).2=0) {c} (hc:jamo c):cls l c=0:=by
 unfold cls
 rw [jamo_hit h hc (.inl rfl)]
theorem opn_lv {l c} (hs:syl c=true) (hm:(c - 44032) % 28=0):opn l c=[4352+(c - 44032) / 588,4449+(c - 44032) / 28 % 21]:=by
 unfold opn
 rw [if_pos hs,if_pos hm]
theorem opn_lvt {l c} (hs:syl c=true) (hm:¬ (c - 44032) % 28=0):opn l c=[c - (c - 44032) % 28,4519+(c - 44032) % 28]:=by
 unfold opn
 rw [if_pos hs,if_neg hm]
theorem falls_none {l:List Rec}:∀ (x:List Int),(∀ c∈x,cls l c=0)→fallsA l x=false
 | [],_=>rfl
 | [_],_=>rfl
 | a :: b :: r,h=>by
  rw [fallsA,falls_none (b :: r) fun c hc=>h c (List.mem_cons_of_mem _ hc)]
  simp [h b (by simp)]
theorem syl_full {l} (h:(check l).2=0) {c} (hs:syl c=true):(full l c).2=0∧∀ x∈(full l c).1,jamo x:=by
 have hb:44032≤c∧c≤55203:=of_decide_eq_true hs
 have lv:∀ (d:Int),syl d=true→(d - 44032) % 28=0→∀ (f:Nat) (way out:List Int),¬ d∈way→out.length<30→walk l (f+1) way d out=(out++[4352+(d - 44032) / 588,4449+(d - 44032) / 28 % 21],0)∧jamo (4352+(d - 44032) / 588)∧jamo (4449+(d - 44032) / 28 % 21):=by
  intro d hd hm f way out hw ho
  have hdb:44032≤d∧d≤55203:=of_decide_eq_true hd
  have j1:jamo (4352+(d - 44032) / 588):=.inl (by omega)
  have j2:jamo (4449+(d - 44032) / 28 % 21):=.inr (.inl (by omega))
  refine ⟨?_,j1,j2⟩
  rw [walk_go (by rw [opn_lv hd hm]; simp) f hw,opn_lv hd hm]
  simp only [List.foldl_cons,List.foldl_nil,stepW]
  rw [if_pos trivial,walk_leaf (jamo_opn h j1),if_neg (c:=32≤out.length) (by omega)]
  simp only [if_true]
  rw [walk_leaf (jamo_opn h j2),if_neg (by simp; omega)]
  simp
 unfold full
 by_cases hm:(c - 44032) % 28=0
 ·obtain ⟨e,j1,j2⟩:=lv c hs hm 15 [] [] (by simp) (by simp)
  rw [e]
  refine ⟨rfl,fun x hx=>?_⟩
  simp at hx
  rcases hx with rfl | rfl
  ·exact j1
  ·exact j2
 ·have hd:syl (c - (c - 44032) % 28)=true:=decide_eq_true (by omega)
  have hdm:(c - (c - 44032) % 28 - 44032) % 28=0:=by omega
  have j3:jamo (4519+(c - 44032) % 28):=.inr (.inr (by omega))
  rw [walk_go (by rw [opn_lvt hs hm]; simp) 15 (by simp),opn_lvt hs hm]
  obtain ⟨e,j1,j2⟩:=lv _ hd hdm 14 ([]++[c]) [] (by simp; omega) (by simp)
  simp only [List.foldl_cons,List.foldl_nil,stepW]
  rw [if_pos trivial,e]
  simp only [if_true]
  rw [walk_leaf (jamo_opn h j3),if_neg (by simp)]
  refine ⟨rfl,fun x hx=>?_⟩
  simp at hx
  rcases hx with rfl | rfl | rfl
  ·exact j1
  ·exact j2
  ·exact j3
theorem fam_three {k} (h:fam k=3):k=7∨k=8:=by
 unfold fam at h
 split at h
 ·omega
 ·omega
theorem leaves {l} (h:(check l).2=0) c:(full l c).2=0∧0<(full l c).1.length∧(full l c).1.length≤32∧(∀ x∈(full l c).1,opn l x=[])∧fallsA l (full l c).1=false:=by
 have h0:(full l c).2=0∧fallsA l (full l c).1=false:=by
  by_cases hs:syl c=true
  ·obtain ⟨h1,h2⟩:=syl_full h hs
   exact ⟨h1,falls_none _ fun x hx=>jamo_cls h (h2 x hx)⟩
  ·by_cases ho:opn l c=[]
   ·unfold full
    rw [walk_leaf ho,if_neg (by simp)]
    exact ⟨rfl,rfl⟩
   ·have he:∃ r,hit l 3 c=some r:=by
     unfold opn at ho
     rw [if_neg hs] at ho
     cases e:hit l 3 c with
     | none=>grind
     | some r=>exact ⟨r,rfl⟩
    obtain ⟨r,hr⟩:=he
    obtain ⟨h1,h2,h3⟩:=hit_some hr
    obtain ⟨h6,hrec,_,_⟩:=check_iff.1 h
    have hsp:=speaks_span h3
    have hlo:r.lo=r.hi:=by
     rcases fam_three h2 with hk | hk
     ·exact (right_decomp ((check6_iff.1 h6).2.1 r h1) hk).1
     ·exact (right_opens ((check6_iff.1 h6).2.1 r h1) hk).1
    have hc:r.lo=c:=by omega
    have hz:=hrec r h1
    rw [record_F] at hz
    unfold recF at hz
    rw [if_neg (by omega)] at hz
    split at hz
    ·exact absurd hz (by decide)
    ·grind
 exact ⟨h0.1,walk_more l 16 [] c [] h0.1,full_len l c,walk_leaves l 16 [] c [] (fun x hx=>absurd hx (by simp)),h0.2⟩
theorem falls_at {l:List Rec}:∀ (x:List Int),fallsA l x=false→∀ k,k+1<x.length→cls l (x.getD (k+1) 0)=0∨cls l (x.getD k 0)≤cls l (x.getD (k+1) 0)
 | [],_,k,hk=>absurd hk (by simp)
 | [_],_,k,hk=>absurd hk (by simp)
 | a :: b :: r,h,k,hk=>by
  rw [fallsA,Bool.or_eq_false_iff] at h
  cases k with
  | zero =>
   have:=of_decide_eq_false h.1
   show cls l b=0∨cls l a≤cls l b
   omega
  | succ k=>exact falls_at (b :: r) h.2 k (by simpa using hk)
end Go.Proofs.YtihhhjodonkkcaaGreatDoor.Cn
namespace Go.Proofs.YtihhhjodonkkcaaGreatDoor
open Go.RowKit
namespace Cn
theorem syl_hit {l} (h:(check l).2=0) {c} (hc:syl c=true) {f} (hf:f=2∨f=3):hit l f c=Option.none:=by
 obtain ⟨h6,hr,_,_⟩:=check_iff.1 h
 unfold syl at hc
 have hc:=of_decide_eq_true hc
 cases e:hit l f c with
 | none=>rfl
 | some r =>
  obtain ⟨h1,h2,h3⟩:=hit_some e
  have hs:=speaks_span h3
  have h0:=hr r h1
  unfold record at h0
  rw [if_neg (by omega)] at h0
  split at h0
  ·exact absurd h0 (by decide)
  ·split at h0
   ·exact absurd h0 (by decide)
   ·next hn =>
    refine absurd ?_ hn
    simp only [Bool.or_eq_true,covers,decide_eq_true_eq]
    exact .inr (by omega)
theorem to_some {rs} (h:(check rs).2=0) {c r} (he:hit rs 3 c=some r):r.to≠[]∧r.to.length≤2:=by
 have h6:=(check_iff.1 h).1
 obtain ⟨g1,g2,g3⟩:=(hit_iff h6 (by decide) r).1 he
 have hr:=(check6_iff.1 h6).2.1 r g1
 rcases fam_three g2 with e | e
 ·have:=(list_parts (right_decomp hr e).2.2).1
  exact ⟨fun e=>by rw [e] at this; simp at this,by omega⟩
 ·have:=(list_parts (right_opens hr e).2.2).1
  exact ⟨fun e=>by rw [e] at this; simp at this,by omega⟩
theorem opn_cases {rs} (h:(check rs).2=0) c:((rget rs 3 c).to=[]∧opn [] c=opn rs c)∨((rget rs 3 c).to≠[]∧(rget rs 3 c).to=opn rs c∧(rget rs 3 c).to.length≤2):=by
 unfold rget
 cases he:hit rs 3 c with
 | none =>
  refine .inl ⟨rfl,?_⟩
  unfold opn
  rw [he]
  rfl
 | some r =>
  obtain ⟨h1,h2⟩:=to_some h he
  refine .inr ⟨h1,?_,h2⟩
  have hs:syl c=false:=by
   cases hs:syl c with
   | false=>rfl
   | true=>rw [syl_hit h hs (.inr rfl)] at he; cases he
  unfold opn
  rw [hs,he]
  rfl
theorem opn_len {rs} (h:(check rs).2=0) c:(opn rs c).length≤2:=by
 unfold opn
 split
 ·split <;> simp
 ·cases he:hit rs 3 c with
  | none=>simp
  | some r=>exact (to_some h he).2
end Cn
theorem field_to k lo hi n ao ln cp a b y w:(Instr.field 59 (.agg #[.int .i64 k,.int .i64 lo,.int .i64 hi,.int .i64 n,.slice ao ln cp,.string a,.string b,.float .f64 y]) 4).run Tryz.prog w=.ok (.slice ao ln cp) w:=by
 kernel_rfl
set_option maxRecDepth 8000 in
set_option maxHeartbeats 2000000 in
theorem open_any9 {B p rs} c w (hg:Glob w) (hD:DataAt w B p rs) (hk:(Cn.check rs).2=0) (hc:Rune c):Calls Tryz.prog 62 #[.pointer (some ⟨p,0,none⟩),.int .i32 c] w (RunesNew w (Cn.opn rs c)):=by
 have h6:=(Cn.check_iff.1 hk).1
 obtain ⟨t1,t2,t3,t4,t5,a1,l1,a2,l2,a3,l3,a4,l4,a5,l5,c1,c2,x1,h1,h2,h3⟩:=hD
 have K1:=Hd (of_any c w h3.q2 h6 (by decide) hc)
 have x5:w.cell? ⟨p,7,none⟩=some a2:=cell_of (j:=7) h1 (by show 7<18; omega)
 have x6:w.cell? ⟨p,8,none⟩=some l2:=cell_of (j:=8) h1 (by show 8<18; omega)
 obtain ⟨⟨aa,m,e,-⟩,ps,hR,-⟩:=h3.q2
 subst e
 obtain ⟨lo5,lc5,hle⟩:∃ ao cap,l2=.slice ao ps.length cap:=by
  rcases hR.1.2 with ⟨e,h0⟩ | ⟨g,cap,cur,e,_⟩
  ·exact ⟨_,_,by rw [e,h0]⟩
  ·exact ⟨_,_,e⟩
 subst hle
 have HOC:=Hd (Cn.opn_cases hk c)
 have HO:=fun W (hW:Below w.heap.size w W)=>Hd (openC (.slice none 0 0) [] c W (hg.on hW) (Rcs.nil W) hc)
 obtain ⟨hc1,hc2⟩:=hc
 generalize Cn.rget rs 3 c=r at *
 generalize Cn.opn rs c=zs at *
 go_enter Tryz.func62,Tryz.ntmps62
 go_wp2_with fail
 refine (Uh K1).mono ?_
 rintro e1 w1 ⟨vt,rfl,hok,b1⟩
 obtain ⟨ao,tc,rfl,ht1,ht2⟩:=hok.sk.shape
 have HB1:=Hd b1
 have hsk:=hok.sk.below b1
 have hfw:=field_to r.kind r.lo r.hi r.n ao r.to.length tc r.name r.other r.wt w1
 unfold recV
 rcases Uh HOC with ⟨e1,e2⟩ | ⟨e1,e2,e3⟩
 ·have K2:=Hd (Uh (HO w1 b1))
  rw [e2] at K2
  rw [e1] at hfw ⊢
  simp only [List.length_nil] at hfw ⊢
  go_wp2_with fail
  refine (Uh K2).mono ?_
  rintro e3 w3 ⟨v3,rfl,ok3,b3⟩
  have HF:Hid (RunesNew w zs (.returned v3) w3):=⟨v3,rfl,ok3.lower (Uh HB1).size,bthen (Uh HB1) b3⟩
  go_wp2
  go_ret
  exact Uh HF
 ·rw [e2] at hsk hfw e1 e3 ht1 ⊢
  have K2:=Hd (clone_any _ zs w1 hsk (by omega))
  have hl:0<zs.length:=List.length_pos_iff.2 e1
  go_wp2_with fail
  refine (Uh K2).mono ?_
  rintro e3 w3 ⟨v3,rfl,ok3,b3⟩
  have HF:Hid (RunesNew w zs (.returned v3) w3):=⟨v3,rfl,ok3.lower (Uh HB1).size,bthen (Uh HB1) b3⟩
  go_wp2
  go_ret
  exact Uh HF
namespace Cn
def Tree (l:List Rec):Nat→Int→List Int→Prop
 | 0,c,ys=>opn l c=[]∧ys=[c]
 | n+1,c,ys=>(opn l c=[]∧ys=[c])∨(opn l c≠[]∧∃ yss:List (List Int),yss.length=(opn l c).length∧(∀ i,i<(opn l c).length→Tree l n ((opn l c).getD i 0) (yss.getD i []))∧ys=yss.flatten)
theorem fold_tree {l:List Rec} {f:Nat} {way:List Int} (H:∀ d out r,walk l f way d out=(r,0)→∃ ys,r=out++ys∧Tree l f d ys):∀ (ds:List Int) (out r:List Int),ds.foldl (stepW l f way) (out,0)=(r,0)→∃ yss:List (List Int),yss.length=ds.length∧r=out++yss.flatten∧∀ i,i<ds.length→Tree l f (ds.getD i 0) (yss.getD i [])
 | [],out,r,h=>by
  have:=(Prod.mk.inj h).1
  subst this
  exact ⟨[],rfl,by simp,fun i hi=>by simp at hi⟩
 | d :: ds,out,r,h=>by
  rw [List.foldl_cons] at h
  have e:stepW l f way (out,0) d=walk l f way d out:=by simp [stepW]
  rw [e] at h
  obtain ⟨⟨o1,e1⟩,hq⟩:∃ q,walk l f way d out=q:=⟨_,rfl⟩
  rw [hq] at h
  by_cases he:e1=0
  ·subst he
   obtain ⟨ys,rfl,ht⟩:=H d out o1 hq
   obtain ⟨yss,hl,hr,hts⟩:=fold_tree H ds (out++ys) r h
   refine ⟨ys :: yss,by simp [hl],by rw [hr]; simp,fun i hi=>?_⟩
   cases i with
   | zero=>exact ht
   | succ i=>simpa using hts i (by simpa using hi)
  ·rw [fold_stuck l f way ds (o1,e1) he] at h
   exact absurd (Prod.mk.inj h).2 he
theorem walk_tree {l}:∀ (f:Nat) (way:List Int) (c:Int) (out r:List Int),walk l f way c out=(r,0)→∃ ys,r=out++ys∧Tree l f c ys:=by
 intro f
 induction f with
 | zero =>
  intro way c out r h
  by_cases ho:opn l c=[]
  ·rw [walk_leaf ho] at h
   split at h
   ·grind
   ·exact ⟨[c],(Prod.mk.inj h).1.symm,ho,rfl⟩
  ·by_cases hw:c∈way
   ·rw [walk_loop ho _ hw] at h; exact absurd (Prod.mk.inj h).2 (by decide)
   ·rw [walk_deep ho hw] at h; exact absurd (Prod.mk.inj h).2 (by decide)
 | succ f ih =>
  intro way c out r h
  by_cases ho:opn l c=[]
  ·rw [walk_leaf ho] at h
   split at h
   ·exact absurd (Prod.mk.inj h).2 (by decide)
   ·exact ⟨[c],(Prod.mk.inj h).1.symm,.inl ⟨ho,rfl⟩⟩
  ·by_cases hw:c∈way
   ·rw [walk_loop ho _ hw] at h; exact absurd (Prod.mk.inj h).2 (by decide)
   ·rw [walk_go ho f hw] at h
    obtain ⟨yss,hl,hr,ht⟩:=fold_tree (fun d out r hd=>ih (way++[c]) d out r hd) _ _ _ h
    exact ⟨_,hr,.inr ⟨ho,yss,hl,ht,rfl⟩⟩
theorem full_tree {l} (h:(check l).2=0) c:Tree l 16 c (full l c).1:=by
 have h2:=(leaves h c).1
 obtain ⟨ys,hy,ht⟩:=walk_tree (l:=l) 16 [] c [] (full l c).1 (by rw [show walk l 16 [] c []=full l c from rfl]; exact Prod.ext rfl h2)
 rw [List.nil_append] at hy
 rw [hy]; exact ht
end Cn
structure Grw (w w':World) (x v:Value):Prop where
 g:w.grownBy w' x.ownBlock
 own:∀ k,v.ownBlock=some k→x.ownBlock=some k∨w.heap.size≤k
theorem Grw.trans {w w1 w2 x v u} (h:Grw w w1 x v) (h2:Grw w1 w2 v u):Grw w w2 x u:=by
 have s1:=h.g.size
 refine ⟨⟨h2.g.os.trans h.g.os,h2.g.tape.trans h.g.tape,h2.g.output.trans h.g.output,Nat.le_trans s1 h2.g.size,fun k hk hne=>?_⟩,fun k hk=>?_⟩
 ·rw [h2.g.block k (by omega) (fun e=>?_),h.g.block k hk hne]
  rcases h.own k e.symm with e2 | e2
  ·exact hne e2.symm
  ·omega
 ·rcases h2.own k hk with e | e
  ·exact h.own k e
  ·exact .inr (by omega)
theorem Grw.after {w w1 w2 x v} (hb:Below w.heap.size w w1) (h:Grw w1 w2 x v):Grw w w2 x v:=by
 have s1:=hb.size
 refine ⟨⟨h.g.os.trans hb.os,h.g.tape.trans hb.tape,h.g.output.trans hb.output,Nat.le_trans s1 h.g.size,fun k hk hne=>?_⟩,fun k hk=>?_⟩
 ·rw [h.g.block k (by omega) hne,hb.block k hk]
 ·rcases h.own k hk with e | e
  ·exact .inl e
  ·exact .inr (by omega)
theorem Grw.refl w x:Grw w w x x:=⟨⟨rfl,rfl,rfl,Nat.le_refl _,fun _ _ _=>rfl⟩,fun _ h=>.inl h⟩
def AppB (w:World) (B:Nat) (x:Value) (ys:List Int) (e:Ending) (w':World):Prop:=∃ v,e=.returned v∧Ok .i32 21 w' B v ys∧Grw w w' x v
def FullK (w0:World) (p:Nat) (c:Int) (ys:List Int):Prop:=∀ (x:Value) (xs:List Int) (w:World),Ok .i32 21 w w0.heap.size x xs→Below w0.heap.size w0 w→xs.length+ys.length≤1000000000→Calls Tryz.prog 43 #[.pointer (some ⟨p,0,none⟩),x,.int .i32 c] w (AppB w w0.heap.size x (xs++ys))
theorem Sk.one9 (w:World) c (hc:-2147483648≤c∧c≤2147483647):Sk .i32 (w.alloc (.cells #[.int .i32 c] 21)) (.slice (some ⟨w.heap.size,0,none⟩) 1 1) [c]:=(ok_one9 w w.heap.size (Nat.le_refl _) c hc).sk
theorem infoR9:(Tryz.prog.info? 21).map (fun i=>(i.zero,i.size,i.bytes))=some (some (.int .i32 0),1,4):=by kernel_rfl
section
variable {B p:Nat} {rs:List Rec} {w0:World}
set_option maxRecDepth 8000 in
set_option maxHeartbeats 2000000 in
theorem full_leaf (hg:Glob w0) (hD:DataAt w0 B p rs) (hk:(Cn.check rs).2=0) c (hc:Rune c) (ho:Cn.opn rs c=[]):FullK w0 p c [c]:=by
 intro x xs w hx hb0 hl
 have K1:=Hd (open_any9 c w (hg.on hb0) (hD.below hb0) hk hc)
 rw [ho] at K1
 obtain ⟨i0,hi,hz0,hz1,hz2⟩:=info_parts infoR9
 have hs0:=hb0.size
 have HX:=Hd hx
 obtain ⟨xo,xcap,hxe,_,_⟩:=hx.sk.shape
 subst hxe
 obtain ⟨hc1,hc2⟩:=hc
 simp only [List.length_singleton] at hl
 go_enter Tryz.func43,Tryz.ntmps43
 go_wp2_with fail
 refine (Uh K1).mono ?_
 rintro e1 w1 ⟨v1,rfl,ok1,b1⟩
 obtain ⟨ao,cap,hve,_,_⟩:=ok1.sk.shape
 simp only [List.length_nil] at hve
 subst hve
 have hs1:=b1.size
 have hX2:Ok .i32 21 (w1.alloc (.cells #[.int .i32 c] 21)) w0.heap.size (.slice xo xs.length xcap) xs:=((Uh HX).below b1).below ((Below.refl _ _).alloc (Nat.le_refl _) _)
 have hrow:(w1.alloc (.cells #[.int .i32 c] 21)).ownsRow w0.heap.size 21 1 (.slice xo xs.length xcap) xs.length (xs.map (Value.int .i32)):=by simpa using hX2.row
 have hcl:=(Sk.one9 w1 c ⟨hc1,hc2⟩).place (by simp)
 have hcell:∀ j u,[Value.int .i32 c][j]?=some u→(w1.alloc (.cells #[.int .i32 c] 21)).cell? ((⟨w1.heap.size,0,none⟩:Addr).add j)=some u:=by
  intro j u hj
  obtain ⟨bx,ox,cq,he,_,_,hh⟩:=hcl
  simp only [Value.slice.injEq,Option.some.injEq,Addr.mk.injEq] at he
  obtain ⟨⟨rfl,rfl,_⟩,_,_⟩:=he
  cases j with
  | zero=>simp at hj; subst hj; rw [addr_add]; exact hh 0 (by simp)
  | succ j=>simp at hj
 have HROW:=Hd hrow
 have HCELL:=Hd hcell
 have HFIT:=Hd ((Uh HX).1)
 have HB1:=Hd b1
 have hsz:(w1.alloc (.cells #[.int .i32 c] 21)).heap.size=w1.heap.size+1:=by simp
 have HSZ:=Hd hsz
 go_wp2_with (at_builtin; refine wpList_append_own_at _ rfl (.tmp 16) (.tmp 18) 23 rfl w0.heap.size 21 i0 (.int .i32 0) 1 4 Tryz.underlying23 hi hz0 hz1 hz2 rfl (by decide) _ _ _ rfl (Uh HROW) ⟨w1.heap.size,0,none⟩ 1 1 [.int .i32 c] rfl rfl (Uh HCELL) (fun u hu=>by rw [List.mem_singleton] at hu; subst hu; rfl) (by unfold maxLen; omega) (by omega) (by rw [Uh HSZ]; omega) ?_)
 intro v2 w2 hrow2 hg2 _ hown2
 have hF:AppB w w0.heap.size (.slice xo xs.length xcap) (xs++[c]) (.returned v2) w2:=by
  refine ⟨v2,rfl,Ok.of (n:=xs.length+1) (us:=xs.map (Value.int .i32)++[.int .i32 c]) ?_ (by simp; omega) hrow2 (by simp) (by simp),?_⟩
  ·intro z hz
   rcases List.mem_append.1 hz with hz | hz
   ·exact (Uh HFIT) z hz
   ·rw [List.mem_singleton] at hz; subst hz; exact i32_fit ⟨hc1,hc2⟩
  ·refine Grw.after (w1:=w1.alloc (.cells #[.int .i32 c] 21)) ((Uh HB1).alloc hs1 _) ⟨hg2,fun k hk=>?_⟩
   rcases hown2 with e | e
   ·exact .inl (e ▸ hk)
   ·grind
 have HF:=Hd hF
 go_wp2
 go_ret
 exact Uh HF
end
namespace Cn
theorem opn_rune {rs} (h:(check rs).2=0) {c d} (hd:d∈opn rs c):Rune d:=by
 unfold opn at hd
 unfold Rune
 split at hd
 ·next hs =>
  unfold syl at hs
  have hs:=of_decide_eq_true hs
  split at hd
  ·grind
  ·simp only [List.mem_cons,List.mem_nil_iff,or_false] at hd
   rcases hd with rfl | rfl <;> omega
 ·cases he:hit rs 3 c with
  | none=>rw [he] at hd; simp at hd
  | some r =>
   rw [he] at hd
   have hd:d∈r.to:=hd
   have h6:=(check_iff.1 h).1
   obtain ⟨g1,g2,g3⟩:=(hit_iff h6 (by decide) r).1 he
   have hr:=(check6_iff.1 h6).2.1 r g1
   have hsc:scalar d=true:=by
    rcases fam_three g2 with e | e
    ·exact (list_parts (right_decomp hr e).2.2).2 d hd
    ·exact (list_parts (right_opens hr e).2.2).2 d hd
   have:=scalar_reach hsc
   omega
theorem flat_snoc (yss:List (List Int)) {k} (hk:k<yss.length):(yss.take (k+1)).flatten=(yss.take k).flatten++yss.getD k []:=by
 rw [List.take_add_one,List.flatten_append,List.getElem?_eq_getElem hk]
 simp [List.getD,hk]
theorem flat_le (yss:List (List Int)) {k} (hk:k<yss.length):((yss.take k).flatten).length+(yss.getD k []).length≤yss.flatten.length:=by
 have h1:=congrArg List.length (flat_snoc yss hk)
 rw [List.length_append] at h1
 have h2:yss.flatten=(yss.take (k+1)).flatten++(yss.drop (k+1)).flatten:=by rw [← List.flatten_append,List.take_append_drop]
 have h3:=congrArg List.length h2
 rw [List.length_append] at h3
 omega
end Cn
section
variable {B p:Nat} {rs:List Rec} {w0:World}
set_option maxRecDepth 8000 in
set_option maxHeartbeats 1000000 in
theorem full_node (hg:Glob w0) (hD:DataAt w0 B p rs) (hk:(Cn.check rs).2=0) c (hc:Rune c) (yss:List (List Int)) (ho:Cn.opn rs c≠[]) (hyl:yss.length=(Cn.opn rs c).length) (ih:∀ i,i<(Cn.opn rs c).length→FullK w0 p ((Cn.opn rs c).getD i 0) (yss.getD i [])):FullK w0 p c yss.flatten:=by
 intro x xs w hx hb0 hl
 have K1:=Hd (open_any9 c w (hg.on hb0) (hD.below hb0) hk hc)
 have hdl:=Cn.opn_len hk c
 have hs0:=hb0.size
 have HX:=Hd hx
 have HB0:=Hd hb0
 have HIH:=Hd ih
 have HFL:=fun k (h:k<yss.length)=>Hd (Cn.flat_le yss h)
 have HSN:=fun k (h:k<yss.length)=>Hd (Cn.flat_snoc yss h)
 have hd0:0<(Cn.opn rs c).length:=List.length_pos_iff.2 ho
 obtain ⟨xo,xcap,hxe,_,_⟩:=hx.sk.shape
 have HXL:Hid (∀ k,x.ownBlock=some k→w0.heap.size≤k∧k<w.heap.size):=fun k h=>hx.row.lt k h
 obtain ⟨hc1,hc2⟩:=hc
 generalize Cn.opn rs c=ds at *
 subst hxe
 have HYL:=Hd hyl
 go_enter Tryz.func43,Tryz.ntmps43
 go_wp2_with fail
 refine (Uh K1).mono ?_
 rintro e1 w1 ⟨v1,rfl,ok1,b1⟩
 obtain ⟨vb,vo,vcap,hve,hvc1,hvc2,hvcell⟩:=ok1.sk.place hd0
 have hvb:w.heap.size≤vb:=by
  have:=(ok1.row.lt vb (by rw [hve]; rfl)).1
  exact this
 subst hve
 have hs1:=b1.size
 have HB1:=Hd b1
 have HVC:=Hd hvcell
 have HFITD:=Hd ok1.1
 have hX1:=(Uh HX).below b1
 have HX1:=Hd hX1
 have hne0:((ds.length:Int)==0)=false:=by grind
 go_wp2
 go_loopw [1,9,22] (fun xv _ ii wr=>∃ k:Nat,ii=.int .i64 k∧k≤ds.length∧Ok .i32 21 wr w0.heap.size xv (xs++(yss.take k).flatten)∧Grw w1 wr (.slice xo xs.length xcap) xv) (fun _ _ ii _=>ds.length - (intOf ii).toNat)
 case atStart=>exact ⟨0,rfl,by omega,by simpa using Uh HX1,Grw.refl _ _⟩
 case round =>
  obtain ⟨k,rfl,hkl,hok,hgr⟩:=hrel
  have HOK:=Hd hok
  have HGR:=Hd hgr
  by_cases hlt:k<ds.length
  ·have hcell:wr.cell? ⟨vb,vo+k,none⟩=some (.int .i32 (ds.getD k 0)):=by
    have h3:=(Uh HVC) k hlt
    refine hgr.g.cell h3 (fun e=>?_)
    have:=(Uh HXL) vb e.symm
    omega
   have hrn:Rune (ds.getD k 0):=by
    have:=(Uh HFITD) (ds.getD k 0) (by simp [List.getD,hlt])
    exact ⟨this.1,this.2⟩
   have hbr:Below w0.heap.size w0 wr:=((Uh HB0).trans ((Uh HB1).mono hs0)).grown hgr.g (by omega) (fun j hj=>((Uh HXL) j hj).1)
   have hfl:=Uh (HFL k (by rw [Uh HYL]; exact hlt))
   have KR:=Hd ((Uh HIH) k hlt u1 (xs++(yss.take k).flatten) wr hok hbr (by rw [List.length_append]; omega))
   have HNX:=Hd (Uh (HSN k (by rw [Uh HYL]; exact hlt)))
   obtain ⟨uo,ul,ucap,hue⟩:∃ uo ul ucap,u1=.slice uo ul ucap:=by
    obtain ⟨uo,ucap,hue,_,_⟩:=hok.sk.shape
    exact ⟨uo,_,ucap,hue⟩
   subst hue
   generalize ds.getD k 0=d at *
   go_wp2_with fail
   refine (Uh KR).mono ?_
   rintro e3 w3 ⟨v3,rfl,ok3,g3⟩
   rw [List.append_assoc,← Uh HNX] at ok3
   have HO3:=Hd ok3
   have HG3:=Hd ((Uh HGR).trans g3)
   go_wp2
   go_roundw
   case rel=>exact ⟨k+1,by go_num,by omega,Uh HO3,Uh HG3⟩
   case measure=>simp [intOf]; omega
  ·obtain rfl:k=ds.length:=by omega
   rw [← Uh HYL,List.take_length] at HOK
   have HF:Hid (AppB w w0.heap.size (.slice xo xs.length xcap) (xs++yss.flatten) (.returned u1) wr):=⟨u1,rfl,Uh HOK,(Uh HGR).after (Uh HB1)⟩
   obtain ⟨uo,ul,ucap,hue⟩:∃ uo ul ucap,u1=.slice uo ul ucap:=by
    obtain ⟨uo,ucap,hue,_,_⟩:=hok.sk.shape
    exact ⟨uo,_,ucap,hue⟩
   subst hue
   go_wp2
   go_ret
   exact Uh HF
theorem full_tree9 (hg:Glob w0) (hD:DataAt w0 B p rs) (hk:(Cn.check rs).2=0):∀ (n:Nat) {c:Int} {ys:List Int},Cn.Tree rs n c ys→Rune c→FullK w0 p c ys
 | 0,c,_,⟨ho,e⟩,hc=>by rw [e]; exact full_leaf hg hD hk c hc ho
 | n+1,c,ys,ht,hc=>by
  rcases ht with ⟨ho,rfl⟩ | ⟨ho,yss,hl,h,rfl⟩
  ·exact full_leaf hg hD hk c hc ho
  ·exact full_node hg hD hk c hc yss ho hl (fun i hi=>full_tree9 hg hD hk n (h i hi) (Cn.opn_rune hk (c:=c) (by simp [List.getD,hi])))
set_option maxHeartbeats 1000000 in
theorem full_any9 c w (hg:Glob w) (hD:DataAt w B p rs) (hk:(Cn.check rs).2=0) (hc:Rune c):Calls Tryz.prog 24 #[.pointer (some ⟨p,0,none⟩),.int .i32 c] w (RunesNew w (Cn.full rs c).1):=by
 have hlen:=(Cn.leaves hk c).2.2.1
 have K:=Hd (full_tree9 hg hD hk 16 (Cn.full_tree hk c) hc (.slice none 0 0) [] w (Ok.nil _ _ _ _) (Below.refl _ _) (by simp; omega))
 rw [List.nil_append] at K
 obtain ⟨hc1,hc2⟩:=hc
 generalize (Cn.full rs c).1=zs at *
 go_enter Tryz.func24,Tryz.ntmps24
 go_wp2_with fail
 refine (Uh K).mono ?_
 rintro e1 w1 ⟨v1,rfl,ok1,g1⟩
 have HF:Hid (RunesNew w zs (.returned v1) w1):=⟨v1,rfl,ok1,(Below.refl w.heap.size w).grown g1.g (Nat.le_refl _) (fun k hk=>by cases hk)⟩
 go_wp2
 go_ret
 exact Uh HF
end
def StrB (w:World) (s:ByteArray) (e:Ending) (w':World):Prop:=e=.returned (.string s)∧Below w.heap.size w w'
namespace Cn
end Cn
set_option maxRecDepth 8000 in
set_option maxHeartbeats 2000000 in
theorem script_any9 {B p:Nat} {rs:List Rec} (c:Int) (w:World) (hD:DataAt w B p rs) (h6:(Cn.check6 rs).2=0) (hc:Rune c):Calls Tryz.prog 37 #[.pointer (some ⟨p,0,none⟩),.int .i32 c] w (StrB w (Cn.rget rs 7 c).name):=by
 obtain ⟨t1,t2,t3,t4,t5,a1,l1,a2,l2,a3,l3,a4,l4,a5,l5,c1,c2,x1,h1,h2,h3⟩:=hD
 have K1:=Hd (of_any c w h3.q3 h6 (by decide) hc)
 have x5:w.cell? ⟨p,9,none⟩=some a3:=cell_of (j:=9) h1 (by show 9<18; omega)
 have x6:w.cell? ⟨p,10,none⟩=some l3:=cell_of (j:=10) h1 (by show 10<18; omega)
 obtain ⟨⟨aa,m,e,-⟩,ps,hR,-⟩:=h3.q3
 subst e
 obtain ⟨lo5,lc5,hle⟩:∃ ao cap,l3=.slice ao ps.length cap:=by
  rcases hR.1.2 with ⟨e,h0⟩ | ⟨g,cap,cur,e,_⟩
  ·exact ⟨_,_,by rw [e,h0]⟩
  ·exact ⟨_,_,e⟩
 subst hle
 obtain ⟨hc1,hc2⟩:=hc
 clear h1 h2 h3 h6 hR
 generalize Cn.rget rs 7 c=r at *
 go_enter Tryz.func37,Tryz.ntmps37
 go_wp2_with fail
 refine (Uh K1).mono ?_
 rintro e1 w1 ⟨vt,rfl,hok,b1⟩
 have HB:=Hd b1
 obtain ⟨ao,tc,rfl,_,_⟩:=hok.sk.shape
 clear K1 x5 x6 hok b1
 unfold recV
 have hfw:=field_nm r.kind r.lo r.hi r.n ao r.to.length tc r.name r.other r.wt w1
 go_wp2
 go_ret
 exact ⟨rfl,Uh HB⟩
set_option maxRecDepth 8000 in
set_option maxHeartbeats 1000000 in
theorem refScript9 (v:Value) (rs:List Rec) (c:Int) (w:World) (hv:Rcs w v rs) (hc:Rune c):Calls Tryz.prog 39 #[v,.int .i32 c] w (StrB w (Cn.rget rs 7 c).name):=by
 have K:=Hd (refFind_any v rs 7 c w hv (by unfold I64; omega) hc)
 obtain ⟨c0,c1⟩:=hc
 unfold Cn.rget
 rcases hit_at hv 7 c with ⟨h1,h2⟩ | ⟨k,b,off,cap,h1,hkl,h2,rfl,hl,hm,hr,hf⟩
 ·rw [h2]
  rw [h1] at K
  obtain ⟨ao,cap,rfl,_,_⟩:=hv.shape
  clear hv h1 h2
  go_enter Tryz.func39,Tryz.ntmps39
  go_wp2_with fail
  refine (Uh K).mono ?_
  rintro e w1 ⟨rfl,hb⟩
  have HF:=Hd hb
  clear K hb
  go_wp2
  go_ret
  exact ⟨rfl,Uh HF⟩
 ·rw [h2]
  rw [h1] at K
  have HR:=Hd hr
  have hlen:=hv.1
  clear hv h1 h2 hr hf
  show Calls _ _ _ _ (StrB w (rs.getD k Cn.none).name)
  generalize rs.getD k Cn.none=r at *
  go_enter Tryz.func39,Tryz.ntmps39
  go_wp2_with fail
  refine (Uh K).mono ?_
  rintro e w1 ⟨rfl,hb⟩
  have x3:=((Uh HR).below hb).name
  have HF:=Hd hb
  clear K hb HR
  go_wp2
  go_ret
  exact ⟨rfl,Uh HF⟩
open Ti
namespace Cn
def looks (rs:List Rec) (c:Int):List Int:=if (rget rs 8 c).to=[] then [c] else (rget rs 8 c).to
section
variable {rs:List Rec} {c:Int}
end
end Cn
set_option maxRecDepth 8000 in
set_option maxHeartbeats 2000000 in
theorem looks_any9 {B p:Nat} {rs:List Rec} (c:Int) (w:World) (hD:DataAt w B p rs) (h6:(Cn.check6 rs).2=0) (hfit:∀ r∈rs,RecFit r) (hc:Rune c):Calls Tryz.prog 51 #[.pointer (some ⟨p,0,none⟩),.int .i32 c] w (RunesNew w (Cn.looks rs c)):=by
 obtain ⟨t1,t2,t3,t4,t5,a1,l1,a2,l2,a3,l3,a4,l4,a5,l5,c1,c2,x1,h1,h2,h3⟩:=hD
 have K1:=Hd (of_any c w h3.q4 h6 (by decide) hc)
 have x5:w.cell? ⟨p,11,none⟩=some a4:=cell_of (j:=11) h1 (by show 11<18; omega)
 have x6:w.cell? ⟨p,12,none⟩=some l4:=cell_of (j:=12) h1 (by show 12<18; omega)
 obtain ⟨⟨aa,m,e,-⟩,ps,hR,-⟩:=h3.q4
 subst e
 obtain ⟨lo5,lc5,hle⟩:∃ ao cap,l4=.slice ao ps.length cap:=by
  rcases hR.1.2 with ⟨e,h0⟩ | ⟨g,cap,cur,e,_⟩
  ·exact ⟨_,_,by rw [e,h0]⟩
  ·exact ⟨_,_,e⟩
 subst hle
 have hrl:(Cn.rget rs 8 c).to.length≤1000000000:=by
  rcases Cn.rget_cases h6 (f:=8) (by decide) c with ⟨_,e⟩ | ⟨_,hm,_⟩
  ·rw [e]; simp [Cn.none]
  ·exact (hfit _ hm).len
 obtain ⟨hc1,hc2⟩:=hc
 clear h1 h2 h3 h6 hR hfit
 unfold Cn.looks
 generalize Cn.rget rs 8 c=r at *
 obtain ⟨zs,hzs⟩:∃ zs,r.to=zs:=⟨_,rfl⟩
 rw [hzs] at hrl ⊢
 have HZS:=Hd hzs
 obtain ⟨ans,hans⟩:∃ a,(if zs=[] then [c] else zs)=a:=⟨_,rfl⟩
 rw [hans]
 have HANS:=Hd hans
 clear hans hzs
 go_enter Tryz.func51,Tryz.ntmps51
 go_wp2_with fail
 refine (Uh K1).mono ?_
 rintro e1 w1 ⟨vt,rfl,hok,b1⟩
 rw [Uh HZS] at hok
 obtain ⟨ao,tc,rfl,ht1,ht2⟩:=hok.sk.shape
 have HB1:=Hd b1
 have hsk:=hok.sk.below b1
 have hfw:=field_to r.kind r.lo r.hi r.n ao zs.length tc r.name r.other r.wt w1
 have hs1:=b1.size
 clear K1 x5 x6 hok HZS
 unfold recV
 by_cases hn:zs=[]
 ·have ha:=Uh HANS
  rw [if_pos hn] at ha
  subst hn ha
  simp only [List.length_nil] at hfw ⊢
  have HF:Hid (RunesNew w [c] (.returned (.slice (some ⟨w1.heap.size,0,none⟩) 1 1)) (w1.alloc (.cells #[.int .i32 c] 21))):=⟨_,rfl,ok_one9 w1 w.heap.size hs1 c ⟨hc1,hc2⟩,(Uh HB1).alloc hs1 _⟩
  clear HANS hsk b1 ht1 hrl
  go_wp2
  go_ret
  exact Uh HF
 ·have ha:=Uh HANS
  rw [if_neg hn] at ha
  subst ha
  have K2:=Hd (clone_any _ zs w1 hsk hrl)
  have hl:0<zs.length:=List.length_pos_iff.2 hn
  clear HANS hsk b1 hn
  go_wp2_with fail
  refine (Uh K2).mono ?_
  rintro e3 w3 ⟨v3,rfl,ok3,b3⟩
  have HF:Hid (RunesNew w zs (.returned v3) w3):=⟨v3,rfl,ok3.lower (Uh HB1).size,bthen (Uh HB1) b3⟩
  clear K2 ok3 b3
  go_wp2
  go_ret
  exact Uh HF
open Ti
namespace Cn
end Cn
end Go.Proofs.YtihhhjodonkkcaaGreatDoor
