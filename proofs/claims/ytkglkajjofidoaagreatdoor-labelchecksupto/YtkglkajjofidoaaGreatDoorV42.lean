/- Ct7 Vh9 Vi9 Vj9 Vk9 Vm9 Vn9 -/
import Derived.Test.YtkglkajjofidoaaGreatDoorV31
import Derived.Laws.AppendOwnNone
import Derived.Maps.AppendAt
set_option maxHeartbeats 2000000
set_option maxRecDepth 8000
namespace Go.Proofs.YtkglkajjofidoaaGreatDoor.Cn
open Go.Proofs.Tryz
theorem x9U (l:List Rec):∀ (f:Nat) (ad:List Int) (c:Int) (ac:List Int),(∀ x∈ac,opn l x=[])->∀ x∈(walk l f ad c ac).1,opn l x=[]:=by
 intro f
 induction f with
 | zero =>
  intro ad c ac h;rw [walk];split
  ·next hc =>
   split
   ·intro x hx; cases hx
   ·intro x hx;rcases List.mem_append.1 hx with hx | hx
    ·exact h x hx
    ·rw [List.mem_singleton.1 hx]; exact hc
  ·split <;> (intro x hx; cases hx)
 | succ f ih =>
  intro ad c ac h;rw [walk];split
  ·next hc =>
   split
   ·intro x hx; cases hx
   ·intro x hx;rcases List.mem_append.1 hx with hx | hx
    ·exact h x hx
    ·rw [List.mem_singleton.1 hx]; exact hc
  ·split
   ·intro x hx; cases hx
   ·have aP:∀ (xs:List Int) (s:List Int × Int),(∀ x∈s.1,opn l x=[])->∀ x∈(xs.foldl (stepW l f (ad++[c])) s).1,opn l x=[]:=by
     intro xs
     induction xs with
     | nil=>intro s hs; exact hs
     | cons x xs ihx =>
      intro s hs;rw [List.foldl_cons];refine ihx _ ?_;unfold stepW;split
      ·exact ih _ _ _ hs
      ·exact hs
    exact aP _ _ h
theorem y5L (l:List Rec):∀ (f:Nat) (ad:List Int) (c:Int) (ac:List Int),(walk l f ad c ac).2=0->ac.length<(walk l f ad c ac).1.length:=by
 intro f
 induction f with
 | zero =>
  intro ad c ac;rw [walk];split
  ·split
   ·intro h; exact absurd h (by decide)
   ·intro _; simp
  ·split <;> (intro h; exact absurd h (by decide))
 | succ f ih =>
  intro ad c ac;rw [walk];split
  ·split
   ·intro h; exact absurd h (by decide)
   ·intro _; simp
  ·next hc =>
   split
   ·intro h; exact absurd h (by decide)
   ·have aP:∀ (xs:List Int) (s:List Int × Int),(xs.foldl (stepW l f (ad++[c])) s).2=0->s.1.length+xs.length<=(xs.foldl (stepW l f (ad++[c])) s).1.length:=by
     intro xs
     induction xs with
     | nil=>intro s _; simp
     | cons x xs ihx =>
      intro s hs;rw [List.foldl_cons] at hs ⊢;have h1:=ihx _ hs
      have h0:s.2=0:=by
       refine Decidable.byContradiction fun hn=>?_;rw [stepW,if_neg hn,x1v _ _ _ _ _ hn] at hs;exact hn hs
      have h2:(stepW l f (ad++[c]) s x).2=0:=by
       refine Decidable.byContradiction fun hn=>?_;rw [x1v _ _ _ _ _ hn] at hs;exact hn hs
      unfold stepW at h1 h2 hs ⊢;rw [if_pos h0] at h1 h2;have h3:=ih _ _ _ h2;simp only [List.length_cons];simp only [if_pos h0] at *;omega
    intro h;have:=aP _ _ h;have aA:0<(opn l c).length:=List.length_pos_iff.2 hc;simp only at this;exact Nat.lt_of_lt_of_le (by omega) this
def jamo (c:Int):Prop:=(4352<=c/\c<=4370)\/(4449<=c/\c<=4469)\/(4520<=c/\c<=4546)
theorem x2X {r:Rec} {c:Int} (h:speaks r c=true):r.lo<=c/\c<=r.hi:=by
 unfold speaks at h;obtain ⟨_,_,_,_,h5,h6,_⟩:=o0d h;exact ⟨h5,h6⟩
theorem y0A {l:List Rec} (h:(check l).2=0) {c:Int} (hc:jamo c) {f:Int} (hf:f=2\/f=3):hit l f c=Option.none:=by
 obtain ⟨h6,hr,_,_⟩:=x0D.1 h
 cases e:hit l f c with
 | none=>rfl
 | some r =>
  obtain ⟨h1,h2,h3⟩:=x1W e;have hs:=x2X h3;have h0:=hr r h1;unfold record at h0;rw [if_neg (by omega)] at h0;split at h0
  ·exact absurd h0 (by decide)
  ·split at h0
   ·exact absurd h0 (by decide)
   ·next hn =>
    refine absurd ?_ hn;simp only [Bool.or_eq_true,covers,decide_eq_true_eq];rcases hc with hc | hc | hc
    ·exact .inl (.inl (.inl (by omega)))
    ·exact .inl (.inl (.inr (by omega)))
    ·exact .inl (.inr (by omega))
theorem x6K {l:List Rec} (h:(check l).2=0) {c:Int} (hc:jamo c):opn l c=[]:=by
 unfold opn
 have:syl c=false:=by
  unfold syl;unfold jamo at hc;exact d0f (by omega)
 rw [this,y0A h hc (.inr rfl)];rfl
theorem y6N {l:List Rec} (h:(check l).2=0) {c:Int} (hc:jamo c):cls l c=0:=by
 unfold cls;rw [y0A h hc (.inl rfl)]
theorem y8v {l:List Rec} {c:Int} (hs:syl c=true) (hm:(c - 44032) % 28=0):opn l c=[4352+(c - 44032) / 588,4449+(c - 44032) / 28 % 21]:=by
 unfold opn;rw [if_pos hs,if_pos hm]
theorem y4L {l:List Rec} {c:Int} (hs:syl c=true) (hm:¬ (c - 44032) % 28=0):opn l c=[c - (c - 44032) % 28,4519+(c - 44032) % 28]:=by
 unfold opn;rw [if_pos hs,if_neg hm]
theorem x6a {l:List Rec}:∀ (x:List Int),(∀ c∈x,cls l c=0)->fallsA l x=false
 | [],_=>rfl
 | [_],_=>rfl
 | a :: b :: r,h=>by
  rw [fallsA,x6a (b :: r) fun c hc=>h c (List.mem_cons_of_mem _ hc)];simp [h b (by simp)]
theorem y7J {l:List Rec} (h:(check l).2=0) {c:Int} (hs:syl c=true):(full l c).2=0/\∀ x∈(full l c).1,jamo x:=by
 have hb:44032<=c/\c<=55203:=o0d hs
 have lv:∀ (d:Int),syl d=true->(d - 44032) % 28=0->∀ (f:Nat) (ad ac:List Int),¬ d∈ad->ac.length<30->walk l (f+1) ad d ac=(ac++[4352+(d - 44032) / 588,4449+(d - 44032) / 28 % 21],0)/\jamo (4352+(d - 44032) / 588)/\jamo (4449+(d - 44032) / 28 % 21):=by
  intro d hd hm f ad ac hw ho;have hdb:44032<=d/\d<=55203:=o0d hd;have j1:jamo (4352+(d - 44032) / 588):=.inl (by omega);have j2:jamo (4449+(d - 44032) / 28 % 21):=.inr (.inl (by omega));refine ⟨?_,j1,j2⟩;rw [x5x (by rw [y8v hd hm]; simp) f hw,y8v hd hm];simp only [List.foldl_cons,List.foldl_nil,stepW];rw [if_pos trivial,x0L (x6K h j1),if_neg (c:=32<=ac.length) (by omega)];simp only [if_true];rw [x0L (x6K h j2),if_neg (by simp; omega)];simp
 unfold full;by_cases hm:(c - 44032) % 28=0
 ·obtain ⟨e,j1,j2⟩:=lv c hs hm 15 [] [] (by simp) (by simp);rw [e];refine ⟨rfl,fun x hx=>?_⟩;simp at hx;rcases hx with rfl | rfl
  ·exact j1
  ·exact j2
 ·have hd:syl (c - (c - 44032) % 28)=true:=d0t (by omega);have bf:(c - (c - 44032) % 28 - 44032) % 28=0:=(by omega);have j3:jamo (4519+(c - 44032) % 28):=.inr (.inr (by omega));rw [x5x (by rw [y4L hs hm]; simp) 15 (by simp),y4L hs hm];obtain ⟨e,j1,j2⟩:=lv _ hd bf 14 ([]++[c]) [] (by simp; omega) (by simp);simp only [List.foldl_cons,List.foldl_nil,stepW];rw [if_pos trivial,e];simp only [if_true];rw [x0L (x6K h j3),if_neg (by simp)];refine ⟨rfl,fun x hx=>?_⟩;simp at hx;rcases hx with rfl | rfl | rfl
  ·exact j1
  ·exact j2
  ·exact j3
theorem fam_three {k:Int} (h:fam k=3):k=7\/k=8:=by
 unfold fam at h;split at h
 ·omega
 ·split at h
  ·omega
  ·split at h
   ·omega
   ·split at h <;> omega
theorem leaves {l:List Rec} (h:(check l).2=0) (c:Int):(full l c).2=0/\0<(full l c).1.length/\(full l c).1.length<=32/\(∀ x∈(full l c).1,opn l x=[])/\fallsA l (full l c).1=false:=by
 have h0:(full l c).2=0/\fallsA l (full l c).1=false:=by
  by_cases hs:syl c=true
  ·obtain ⟨h1,h2⟩:=y7J h hs;exact ⟨h1,x6a _ fun x hx=>y6N h (h2 x hx)⟩
  ·by_cases ho:opn l c=[]
   ·unfold full;rw [x0L ho,if_neg (by simp)];exact ⟨rfl,rfl⟩
   ·have he:∃ r,hit l 3 c=some r:=by
     unfold opn at ho;rw [if_neg hs] at ho
     cases e:hit l 3 c with
     | none=>rw [e] at ho; exact absurd rfl ho
     | some r=>exact ⟨r,rfl⟩
    obtain ⟨r,hr⟩:=he;obtain ⟨h1,h2,h3⟩:=x1W hr;obtain ⟨h6,aN,_,_⟩:=x0D.1 h;have hsp:=x2X h3
    have hlo:r.lo=r.hi:=by
     rcases fam_three h2 with hk | hk
     ·exact (x0B ((x0n.1 h6).2.1 r h1) hk).1
     ·exact (x2U ((x0n.1 h6).2.1 r h1) hk).1
    have hc:r.lo=c:=(by omega);have hz:=aN r h1;rw [x7e] at hz;unfold recF at hz;rw [if_neg (by omega)] at hz;split at hz
    ·exact absurd hz (by decide)
    ·split at hz
     ·exact absurd hz (by decide)
     ·split at hz
      ·exact absurd hz (by decide)
      ·rw [if_neg (by omega),hc] at hz;split at hz
       ·next hn=>exact absurd hz hn
       ·next hn =>
        split at hz
        ·exact absurd hz (by decide)
        ·next hfa=>exact ⟨Decidable.not_not.1 hn,Bool.eq_false_iff.2 hfa⟩
 exact ⟨h0.1,y5L l 16 [] c [] h0.1,x3e l c,x9U l 16 [] c [] (fun x hx=>absurd hx (by simp)),h0.2⟩
theorem x6B {l:List Rec}:∀ (x:List Int),fallsA l x=false->∀ k,k+1<x.length->cls l (x.getD (k+1) 0)=0\/cls l (x.getD k 0)<=cls l (x.getD (k+1) 0)
 | [],_,k,hk=>absurd hk (by simp)
 | [_],_,k,hk=>absurd hk (by simp)
 | a :: b :: r,h,k,hk=>by
  rw [fallsA,Bool.or_eq_false_iff] at h
  cases k with
  | zero =>
   have:=of_decide_eq_false h.1;show cls l b=0\/cls l a<=cls l b;omega
  | succ k=>exact x6B (b :: r) h.2 k (by simpa using hk)
end Go.Proofs.YtkglkajjofidoaaGreatDoor.Cn
namespace Go.Proofs.YtkglkajjofidoaaGreatDoor
open Go.Proofs.Tryz
open Go.RowKit
namespace Cn
theorem z0B {l:List Rec} (h:(check l).2=0) {c:Int} (hc:syl c=true) {f:Int} (hf:f=2\/f=3):hit l f c=Option.none:=by
 obtain ⟨h6,hr,_,_⟩:=x0D.1 h;unfold syl at hc;have hc:=o0d hc
 cases e:hit l f c with
 | none=>rfl
 | some r =>
  obtain ⟨h1,h2,h3⟩:=x1W e;have hs:=x2X h3;have h0:=hr r h1;unfold record at h0;rw [if_neg (by omega)] at h0;split at h0
  ·exact absurd h0 (by decide)
  ·split at h0
   ·exact absurd h0 (by decide)
   ·next hn =>
    refine absurd ?_ hn;simp only [Bool.or_eq_true,covers,decide_eq_true_eq];exact .inr (by omega)
theorem y5D {rs:List Rec} (h:(check rs).2=0) {c:Int} {r:Rec} (he:hit rs 3 c=some r):r.to≠[]/\r.to.length<=2:=by
 have h6:=(x0D.1 h).1;obtain ⟨g1,g2,g3⟩:=(x1b h6 (by decide) r).1 he;have hr:=(x0n.1 h6).2.1 r g1;rcases fam_three g2 with e | e
 ·have:=(x1c (x0B hr e).2.2).1;exact ⟨fun e=>by rw [e] at this; simp at this,by omega⟩
 ·have:=(x1c (x2U hr e).2.2).1;exact ⟨fun e=>by rw [e] at this; simp at this,by omega⟩
theorem y4K {rs:List Rec} (h:(check rs).2=0) (c:Int):((rget rs 3 c).to=[]/\opn [] c=opn rs c)\/((rget rs 3 c).to≠[]/\(rget rs 3 c).to=opn rs c/\(rget rs 3 c).to.length<=2):=by
 unfold rget
 cases he:hit rs 3 c with
 | none =>
  refine .inl ⟨rfl,?_⟩;unfold opn;rw [he];rfl
 | some r =>
  obtain ⟨h1,h2⟩:=y5D h he;refine .inr ⟨h1,?_,h2⟩
  have hs:syl c=false:=by
   cases hs:syl c with
   | false=>rfl
   | true=>rw [z0B h hs (.inr rfl)] at he; cases he
  unfold opn;rw [hs,he];rfl
theorem z0a {rs:List Rec} (h:(check rs).2=0) (c:Int):(opn rs c).length<=2:=by
 unfold opn;split
 ·split <;> simp
 ·cases he:hit rs 3 c with
  | none=>simp
  | some r=>exact (y5D h he).2
end Cn
theorem y6B (k lo hi n:Int) (ao:Option Addr) (ln cp:Nat) (a b:ByteArray) (y:Nat) (w:World):(Instr.field 50 (.agg #[.int .i64 k,.int .i64 lo,.int .i64 hi,.int .i64 n,.slice ao ln cp,.string a,.string b,.float .f64 y]) 4).run prog w=.ok (.slice ao ln cp) w:=by
 kernel_rfl
theorem x8f {B p:Nat} {rs:List Rec} (c:Int) (w:World) (hg:Glob w) (hD:x0p w B p rs) (hk:(Cn.check rs).2=0) (hc:Rune c):Calls prog 238 #[.pointer (some ⟨p,0,none⟩),.int .i32 c] w (x0i w (Cn.opn rs c)):=by
 have h6:=(Cn.x0D.1 hk).1;obtain ⟨t1,t2,t3,t4,t5,a1,l1,a2,l2,a3,l3,a4,l4,a5,l5,c1,c2,x1,h1,h2,h3⟩:=hD;have K1:=O (z1T c w h3.q2 h6 (by decide) hc);have x5:w.cell? ⟨p,7,none⟩=some a2:=cell_of (j:=7) h1 (by show 7<18; omega);have x6:w.cell? ⟨p,8,none⟩=some l2:=cell_of (j:=8) h1 (by show 8<18; omega);obtain ⟨⟨aa,m,e,-⟩,ps,hR,-⟩:=h3.q2;subst e
 obtain ⟨lo5,lc5,bh⟩:∃ ao cap,l2=.slice ao ps.length cap:=by
  rcases hR.1.2 with ⟨e,h0⟩ | ⟨g,cap,cur,e,_⟩
  ·exact ⟨_,_,by rw [e,h0]⟩
  ·exact ⟨_,_,e⟩
 subst bh;have aG:=O (Cn.y4K hk c);have HO:=fun W (hW:Bw w W)=>O (openC (.slice none 0 0) [] c W (hg.on hW) (Rcs.nil W) hc);obtain ⟨ax,ay⟩:=hc;clear h1 h2 h3 h6 hR hk hg;generalize Cn.rget rs 3 c=r at *;generalize Cn.opn rs c=zs at *;go_enter func238,ntmps238;go_wp2_with fail;refine (V K1).mono ?_;rintro e1 w1 ⟨vt,rfl,ak,b1⟩;obtain ⟨ao,tc,rfl,a8,ht2⟩:=ak.sk.shape;have ai:=O b1;have aF:=ak.sk.below b1;have aL:=y6B r.kind r.lo r.hi r.n ao r.to.length tc r.name r.other r.wt w1;clear K1 x5 x6 ak;unfold recV;rcases V aG with ⟨e1,e2⟩ | ⟨e1,e2,e3⟩
 ·have K2:=O (V (HO w1 b1));rw [e2] at K2;rw [e1] at aL ⊢;simp only [List.length_nil] at aL ⊢;clear HO aG aF b1 e1 e2 a8;go_wp2_with fail;refine (V K2).mono ?_;rintro e3 w3 ⟨v3,rfl,am,b3⟩;have HF:Hid (x0i w zs (.returned v3) w3):=⟨v3,rfl,am.lower (V ai).size,x0b (V ai) b3⟩;clear K2 am b3;go_wp2;go_ret;exact V HF
 ·rw [e2] at aF aL e1 e3 a8 ⊢;have K2:=O (x4I _ zs w1 aF (by omega));have hl:0<zs.length:=List.length_pos_iff.2 e1;clear HO aG aF b1 e1 e2;go_wp2_with fail;refine (V K2).mono ?_;rintro e3 w3 ⟨v3,rfl,am,b3⟩;have HF:Hid (x0i w zs (.returned v3) w3):=⟨v3,rfl,am.lower (V ai).size,x0b (V ai) b3⟩;clear K2 am b3;go_wp2;go_ret;exact V HF
namespace Cn
def Tree (l:List Rec) (c:Int) (ys:List Int):Prop:=∀ P:Int->List Int->Prop,(∀ c,opn l c=[]->P c [c])->(∀ c (t:List (List Int)),opn l c≠[]->t.length=(opn l c).length->(∀ i,i<(opn l c).length->P ((opn l c).getD i 0) (t.getD i []))->P c t.flatten)->P c ys
theorem Tree.leaf {l:List Rec} (c:Int) (h:opn l c=[]):Tree l c [c]:=fun _ a _=>a c h
theorem Tree.node {l:List Rec} (c:Int) (t:List (List Int)) (h:opn l c≠[]) (g:t.length=(opn l c).length) (k:∀ i,i<(opn l c).length->Tree l ((opn l c).getD i 0) (t.getD i [])):Tree l c t.flatten:=fun P a b=>b c t h g fun i hi=>k i hi P a b
theorem x7O {l:List Rec} {f:Nat} {ad:List Int} (H:∀ d ac r,walk l f ad d ac=(r,0)->∃ ys,r=ac++ys/\Tree l d ys):∀ (ds:List Int) (ac r:List Int),ds.foldl (stepW l f ad) (ac,0)=(r,0)->∃ ab:List (List Int),ab.length=ds.length/\r=ac++ab.flatten/\∀ i,i<ds.length->Tree l (ds.getD i 0) (ab.getD i [])
 | [],ac,r,h=>by
  have:=(Prod.mk.inj h).1;subst this;exact ⟨[],rfl,by simp,fun i hi=>by simp at hi⟩
 | d :: ds,ac,r,h=>by
  rw [List.foldl_cons] at h;have e:stepW l f ad (ac,0) d=walk l f ad d ac:=(by simp [stepW]);rw [e] at h;obtain ⟨⟨o1,e1⟩,hq⟩:∃ q,walk l f ad d ac=q:=⟨_,rfl⟩;rw [hq] at h;by_cases he:e1=0
  ·subst he;obtain ⟨ys,rfl,ht⟩:=H d ac o1 hq;obtain ⟨ab,hl,hr,bj⟩:=x7O H ds (ac++ys) r h;refine ⟨ys :: ab,by simp [hl],by rw [hr]; simp,fun i hi=>?_⟩
   cases i with
   | zero=>exact ht
   | succ i=>simpa using bj i (by simpa using hi)
  ·rw [x1v l f ad ds (o1,e1) he] at h;exact absurd (Prod.mk.inj h).2 he
theorem y5M {l:List Rec}:∀ (f:Nat) (ad:List Int) (c:Int) (ac r:List Int),walk l f ad c ac=(r,0)->∃ ys,r=ac++ys/\Tree l c ys:=by
 intro f
 induction f with
 | zero =>
  intro ad c ac r h;by_cases ho:opn l c=[]
  ·rw [x0L ho] at h;split at h
   ·exact absurd (Prod.mk.inj h).2 (by decide)
   ·exact ⟨[c],(Prod.mk.inj h).1.symm,.leaf c ho⟩
  ·by_cases hw:c∈ad
   ·rw [x1T ho _ hw] at h; exact absurd (Prod.mk.inj h).2 (by decide)
   ·rw [x5w ho hw] at h; exact absurd (Prod.mk.inj h).2 (by decide)
 | succ f ih =>
  intro ad c ac r h;by_cases ho:opn l c=[]
  ·rw [x0L ho] at h;split at h
   ·exact absurd (Prod.mk.inj h).2 (by decide)
   ·exact ⟨[c],(Prod.mk.inj h).1.symm,.leaf c ho⟩
  ·by_cases hw:c∈ad
   ·rw [x1T ho _ hw] at h; exact absurd (Prod.mk.inj h).2 (by decide)
   ·rw [x5x ho f hw] at h;obtain ⟨ab,hl,hr,ht⟩:=x7O (fun d ac r hd=>ih (ad++[c]) d ac r hd) _ _ _ h;exact ⟨_,hr,.node c ab ho hl ht⟩
theorem y3S {l:List Rec} (h:(check l).2=0) (c:Int):Tree l c (full l c).1:=by
 have h2:=(leaves h c).1;obtain ⟨ys,hy,ht⟩:=y5M (l:=l) 16 [] c [] (full l c).1 (by rw [show walk l 16 [] c []=full l c from rfl]; exact Prod.ext rfl h2);rw [List.nil_append] at hy;rw [hy]; exact ht
end Cn
structure Grw (w w':World) (x v:Value):Prop where
 g:w.grownBy w' x.ownBlock
 own:∀ k,v.ownBlock=some k->x.ownBlock=some k\/w.heap.size<=k
theorem Grw.trans {w w1 w2:World} {x v u:Value} (h:Grw w w1 x v) (h2:Grw w1 w2 v u):Grw w w2 x u:=by
 have s1:=h.g.size;refine ⟨⟨h2.g.os.trans h.g.os,h2.g.tape.trans h.g.tape,h2.g.output.trans h.g.output,Nat.le_trans s1 h2.g.size,fun k hk aA=>?_⟩,fun k hk=>?_⟩
 ·rw [h2.g.block k (by omega) (fun e=>?_),h.g.block k hk aA];rcases h.own k e.symm with e2 | e2
  ·exact aA e2.symm
  ·omega
 ·rcases h2.own k hk with e | e
  ·exact h.own k e
  ·exact .inr (by omega)
theorem Grw.after {w w1 w2:World} {x v:Value} (hb:Bw w w1) (h:Grw w1 w2 x v):Grw w w2 x v:=by
 have s1:=hb.size;refine ⟨⟨h.g.os.trans hb.os,h.g.tape.trans hb.tape,h.g.output.trans hb.output,Nat.le_trans s1 h.g.size,fun k hk aA=>?_⟩,fun k hk=>?_⟩
 ·rw [h.g.block k (by omega) aA,hb.block k hk]
 ·rcases h.own k hk with e | e
  ·exact .inl e
  ·exact .inr (by omega)
theorem Grw.refl (w:World) (x:Value):Grw w w x x:=⟨⟨rfl,rfl,rfl,l0r _,fun _ _ _=>rfl⟩,fun _ h=>.inl h⟩
def AppB (w:World) (B:Nat) (x:Value) (ys:List Int) (e:Ending) (w':World):Prop:=∃ v,e=.returned v/\Ok .i32 21 w' B v ys/\Grw w w' x v
def y5T (w0:World) (p:Nat) (c:Int) (ys:List Int):Prop:=∀ (x:Value) (xs:List Int) (w:World),Ok .i32 21 w w0.heap.size x xs->Below w0.heap.size w0 w->xs.length+ys.length<=1000000000->Calls prog 209 #[.pointer (some ⟨p,0,none⟩),x,.int .i32 c] w (AppB w w0.heap.size x (xs++ys))
theorem Sk.one9 (w:World) (c:Int) (hc:-2147483648<=c/\c<=2147483647):Sk .i32 (w.alloc (.cells #[.int .i32 c] 21)) (.slice (some ⟨w.heap.size,0,none⟩) 1 1) [c]:=(y4H w w.heap.size (l0r _) c hc).sk
theorem x7S:(prog.info? 21).map (fun i=>(i.zero,i.size,i.bytes))=some (some (.int .i32 0),1,4):=by kernel_rfl
section
variable {B p:Nat} {rs:List Rec} {w0:World}
theorem y3Q (hg:Glob w0) (hD:x0p w0 B p rs) (hk:(Cn.check rs).2=0) (c:Int) (hc:Rune c) (ho:Cn.opn rs c=[]):y5T w0 p c [c]:=by
 intro x xs w hx aj hl;have K1:=O (x8f c w (hg.on aj) (hD.below aj) hk hc);rw [ho] at K1;obtain ⟨i0,hi,bk,bl,bm⟩:=info_parts x7S;have aZ:=aj.size;have HX:=O hx;obtain ⟨xo,ag,aO,_,_⟩:=hx.sk.shape;subst aO;obtain ⟨ax,ay⟩:=hc;simp only [List.length_singleton] at hl;clear hx hg hD hk ho aj;go_enter func209,ntmps209;go_wp2_with fail;refine (V K1).mono ?_;rintro e1 w1 ⟨v1,rfl,al,b1⟩;obtain ⟨ao,cap,aC,_,_⟩:=al.sk.shape;simp only [List.length_nil] at aC;subst aC;have a6:=b1.size;have aV:Ok .i32 21 (w1.alloc (.cells #[.int .i32 c] 21)) w0.heap.size (.slice xo xs.length ag) xs:=((V HX).below b1).below ((b0r).alloc (l0r _) _);have aB:(w1.alloc (.cells #[.int .i32 c] 21)).ownsRow w0.heap.size 21 1 (.slice xo xs.length ag) xs.length (xs.map (Value.int .i32)):=(by simpa using aV.row);have aX:=(Sk.one9 w1 c ⟨ax,ay⟩).place (by simp)
 have af:∀ j u,[Value.int .i32 c][j]?=some u->(w1.alloc (.cells #[.int .i32 c] 21)).cell? ((⟨w1.heap.size,0,none⟩:Addr).add j)=some u:=by
  intro j u hj;obtain ⟨bx,ox,cq,he,_,_,hh⟩:=aX;simp only [Value.slice.injEq,Option.some.injEq,Addr.mk.injEq] at he;obtain ⟨⟨rfl,rfl,_⟩,_,_⟩:=he
  cases j with
  | zero=>simp at hj; subst hj; rw [addr_add]; exact hh 0 (by simp)
  | succ j=>simp at hj
 have aw:=O aB;have an:=O af;have av:=O ((V HX).1);have ai:=O b1;have a7:(w1.alloc (.cells #[.int .i32 c] 21)).heap.size=w1.heap.size+1:=(by simp);have aH:=O a7;clear K1 al b1 aV aB aX af a7;go_wp2_with (at_builtin; refine wpList_append_own_at _ rfl (.tmp 16) (.tmp 18) 23 rfl w0.heap.size 21 i0 (.int .i32 0) 1 4 underlying23 hi bk bl bm rfl (by decide) _ _ _ rfl (V aw) ⟨w1.heap.size,0,none⟩ 1 1 [.int .i32 c] rfl rfl (V an) (fun u hu=>by rw [List.mem_singleton] at hu; subst hu; rfl) (by unfold maxLen; omega) (by omega) (by rw [V aH]; omega) ?_);intro v2 w2 ar aY _ aq
 have hF:AppB w w0.heap.size (.slice xo xs.length ag) (xs++[c]) (.returned v2) w2:=by
  refine ⟨v2,rfl,Ok.of (n:=xs.length+1) (us:=xs.map (Value.int .i32)++[.int .i32 c]) ?_ (by simp; omega) ar (by simp) (by simp),?_⟩
  ·intro z hz;rcases List.mem_append.1 hz with hz | hz
   ·exact V av z hz
   ·rw [List.mem_singleton] at hz; subst hz; exact x1X ⟨ax,ay⟩
  ·refine Grw.after (w1:=w1.alloc (.cells #[.int .i32 c] 21)) ((V ai).alloc a6 _) ⟨aY,fun k hk=>?_⟩;rcases aq with e | e
   ·exact .inl (e ▸ hk)
   ·rw [e] at hk;have hk2:=Option.some.inj hk;rw [V aH];exact .inr (by omega)
 have HF:=O hF;clear hF ar aY aq aw an av HX ai aH;go_wp2;go_ret;exact V HF
end
namespace Cn
theorem y7g {rs:List Rec} (h:(check rs).2=0) {c d:Int} (hd:d∈opn rs c):Rune d:=by
 unfold opn at hd;unfold Rune;split at hd
 ·next hs =>
  unfold syl at hs;have hs:=o0d hs;split at hd
  ·simp only [List.mem_cons,List.mem_nil_iff,or_false] at hd;rcases hd with rfl | rfl <;> omega
  ·simp only [List.mem_cons,List.mem_nil_iff,or_false] at hd;rcases hd with rfl | rfl <;> omega
 ·cases he:hit rs 3 c with
  | none=>rw [he] at hd; simp at hd
  | some r =>
   rw [he] at hd;have hd:d∈r.to:=hd;have h6:=(x0D.1 h).1;obtain ⟨g1,g2,g3⟩:=(x1b h6 (by decide) r).1 he;have hr:=(x0n.1 h6).2.1 r g1
   have bi:scalar d=true:=by
    rcases fam_three g2 with e | e
    ·exact (x1c (x0B hr e).2.2).2 d hd
    ·exact (x1c (x2U hr e).2.2).2 d hd
   have:=x3X bi;omega
theorem x7N (ab:List (List Int)) {k:Nat} (hk:k<ab.length):(ab.take (k+1)).flatten=(ab.take k).flatten++ab.getD k []:=by
 rw [List.take_add_one,List.flatten_append,List.getElem?_eq_getElem hk];simp [List.getD,hk]
theorem y9B (ab:List (List Int)) {k:Nat} (hk:k<ab.length):((ab.take k).flatten).length+(ab.getD k []).length<=ab.flatten.length:=by
 have h1:=congrArg List.length (x7N ab hk);rw [List.length_append] at h1;have h2:ab.flatten=(ab.take (k+1)).flatten++(ab.drop (k+1)).flatten:=(by rw [<- List.flatten_append,List.take_append_drop]);have h3:=congrArg List.length h2;rw [List.length_append] at h3;omega
end Cn
section
variable {B p:Nat} {rs:List Rec} {w0:World}
theorem y3R (hg:Glob w0) (hD:x0p w0 B p rs) (hk:(Cn.check rs).2=0) (c:Int) (hc:Rune c) (ab:List (List Int)) (ho:Cn.opn rs c≠[]) (a9:ab.length=(Cn.opn rs c).length) (ih:∀ i,i<(Cn.opn rs c).length->y5T w0 p ((Cn.opn rs c).getD i 0) (ab.getD i [])):y5T w0 p c ab.flatten:=by
 intro x xs w hx aj hl;have K1:=O (x8f c w (hg.on aj) (hD.below aj) hk hc);have hdl:=Cn.z0a hk c;have aZ:=aj.size;have HX:=O hx;have ba:=O aj;have aR:=O ih;have aQ:=fun k (h:k<ab.length)=>O (Cn.y9B ab h);have aS:=fun k (h:k<ab.length)=>O (Cn.x7N ab h);have be:0<(Cn.opn rs c).length:=List.length_pos_iff.2 ho;obtain ⟨xo,ag,aO,_,_⟩:=hx.sk.shape;have aT:Hid (∀ k,x.ownBlock=some k->w0.heap.size<=k/\k<w.heap.size):=fun k h=>hx.row.lt k h;obtain ⟨ax,ay⟩:=hc;clear hx hg hD hk ho aj ih;generalize Cn.opn rs c=ds at *;subst aO;have aK:=O a9;clear a9;go_enter func209,ntmps209;go_wp2_with fail;refine (V K1).mono ?_;rintro e1 w1 ⟨v1,rfl,al,b1⟩;obtain ⟨vb,vo,vcap,aC,hvc1,hvc2,ah⟩:=al.sk.place be
 have hvb:w.heap.size<=vb:=by
  have:=(al.row.lt vb (by rw [aC]; rfl)).1;exact this
 subst aC;have a6:=b1.size;have ai:=O b1;have aI:=O ah;have ap:=O al.1;have aU:=(V HX).below b1;have aJ:=O aU;have hne0:((ds.length:Int)==0)=false:=(by rw [beq_eq_false_iff_ne]; omega);clear K1 al b1 ah aU;go_wp2;go_loopw [1,9,22] (fun xv _ ii wr=>∃ k:Nat,ii=.int .i64 k/\k<=ds.length/\Ok .i32 21 wr w0.heap.size xv (xs++(ab.take k).flatten)/\Grw w1 wr (.slice xo xs.length ag) xv) (fun _ _ ii _=>ds.length - (intOf ii).toNat)
 case atStart=>exact ⟨0,rfl,by omega,by simpa using V aJ,Grw.refl _ _⟩
 case round =>
  obtain ⟨k,rfl,hkl,ak,az⟩:=hrel;have aE:=O ak;have aD:=O az;by_cases hlt:k<ds.length
  ·have af:wr.cell? ⟨vb,vo+k,none⟩=some (.int .i32 (ds.getD k 0)):=by
    have h3:=V aI k hlt;refine az.g.cell h3 (fun e=>?_);have:=V aT vb e.symm;omega
   have hrn:Rune (ds.getD k 0):=by
    have:=V ap (ds.getD k 0) (by simp [List.getD,hlt]);exact ⟨this.1,this.2⟩
   have aW:Bw w0 wr:=((V ba).trans ((V ai).mono aZ)).grown az.g (by omega) (fun j hj=>(V aT j hj).1);have bg:=V (aQ k (by rw [V aK]; exact hlt));have KR:=O (V aR k hlt u1 (xs++(ab.take k).flatten) wr ak aW (by rw [List.length_append]; omega));have bc:=O (V (aS k (by rw [V aK]; exact hlt)))
   obtain ⟨uo,ul,ae,au⟩:∃ uo ul ae,u1=.slice uo ul ae:=by
    obtain ⟨uo,ae,au,_,_⟩:=ak.sk.shape;exact ⟨uo,_,ae,au⟩
   subst au;clear ak az aW aI ap HX aJ aQ aS bg;generalize ds.getD k 0=d at *;go_wp2_with fail;refine (V KR).mono ?_;rintro e3 w3 ⟨v3,rfl,am,g3⟩;rw [List.append_assoc,<- V bc] at am;have bd:=O am;have bb:=O ((V aD).trans g3);clear KR am g3 aE aD af;go_wp2
   go_roundw
   case rel=>exact ⟨k+1,by go_num,by omega,V bd,V bb⟩
   case measure=>simp [intOf]; omega
  ·obtain rfl:k=ds.length:=(by omega);rw [<- V aK,List.take_length] at aE;have HF:Hid (AppB w w0.heap.size (.slice xo xs.length ag) (xs++ab.flatten) (.returned u1) wr):=⟨u1,rfl,V aE,(V aD).after (V ai)⟩
   obtain ⟨uo,ul,ae,au⟩:∃ uo ul ae,u1=.slice uo ul ae:=by
    obtain ⟨uo,ae,au,_,_⟩:=ak.sk.shape;exact ⟨uo,_,ae,au⟩
   subst au;clear ak az aE aD aI HX aJ aR;go_wp2;go_ret;exact V HF
theorem y1I (hg:Glob w0) (hD:x0p w0 B p rs) (hk:(Cn.check rs).2=0) {c:Int} {ys:List Int} (ht:Cn.Tree rs c ys) (hc:Rune c):y5T w0 p c ys:=by
 refine ht (fun c ys=>Rune c->y5T w0 p c ys) (fun c ho hc=>y3Q hg hD hk c hc ho) (fun c ab ho hl ih hc=>y3R hg hD hk c hc ab ho hl (fun i hi=>ih i hi (Cn.y7g hk (c:=c) (by simp [List.getD,hi])))) hc
theorem y3P (c:Int) (w:World) (hg:Glob w) (hD:x0p w B p rs) (hk:(Cn.check rs).2=0) (hc:Rune c):Calls prog 168 #[.pointer (some ⟨p,0,none⟩),.int .i32 c] w (x0i w (Cn.full rs c).1):=by
 have aM:=(Cn.leaves hk c).2.2.1;have K:=O (y1I hg hD hk (Cn.y3S hk c) hc (.slice none 0 0) [] w (Ok.nil _ _ _ _) (b0r) (by simp; omega));rw [List.nil_append] at K;obtain ⟨ax,ay⟩:=hc;clear hg hD aM;generalize (Cn.full rs c).1=zs at *;go_enter func168,ntmps168;go_wp2_with fail;refine (V K).mono ?_;rintro e1 w1 ⟨v1,rfl,al,g1⟩;have HF:Hid (x0i w zs (.returned v1) w1):=⟨v1,rfl,al,(Below.refl w.heap.size w).grown g1.g (l0r _) (fun k hk=>by cases hk)⟩;clear K al g1;go_wp2;go_ret;exact V HF
end
namespace Cn
end Cn
open Ti
namespace Cn
def looks (rs:List Rec) (c:Int):List Int:=if (rget rs 8 c).to=[] then [c] else (rget rs 8 c).to
section
variable {rs:List Rec} {c:Int}
end
end Cn
open Ti
namespace Cn
end Cn
