/- Lemmas. -/
import Derived.Test.YtkfcabdmkmljjaaGreatDoorF21
import Derived.Deep.RegionHeld
import Derived.Laws.AppendOwnNone
import Derived.Maps.AppendAt
import Derived.Laws.MakeOwn
import Derived.Deep.CutBlock
import Derived.Deep.DeepCutAuto
set_option maxHeartbeats 4000000
set_option maxRecDepth 8000
namespace Go.Proofs.YtkfcabdmkmljjaaGreatDoor
open Go.Proofs.Tryz
open Go.RowKit
open Ti
section
variable{p:Prop}
theorem W0Y(h:p:=by unfold I64;exact e8M):p:=h
theorem s1y(h:p:=by exact absurd (Prod.mk.inj h).2 e8M):p:=h
theorem n2t(h:p:=by go_enter func256,ntmps256;exact t6u):p:=h
theorem g3N(h:p:=by(intro w hSw;obtain⟨⟨T,A⟩,⟨x0,d,x2,q,x4,x5,U,u⟩⟩:=hSw;go_simp)):p:=h
theorem g9D(h:p:=by go_enter func163,ntmps163;go_wp2_with fail;refine(V K).mono ?_;rintro e R ⟨rfl,rfl⟩;clear K;go_wp2;go_ret2;exact g9T):p:=h
theorem w7T(h:p:=by rintro e w ⟨rfl,rfl⟩;go_wp2_with fail;refine(V k _).mono ?_;rintro e w ⟨rfl,rfl⟩;go_wp2_with fail;refine(V A _).mono ?_;rintro e w ⟨rfl,rfl⟩;go_wp2;go_ret2;exact⟨by first| rfl | simp,rfl⟩):p:=h
theorem N0F(h:p:=by go_enter func257,ntmps257;go_wp2_with fail;refine(V l).mono ?_;rintro e w ⟨rfl,rfl⟩;exact t6v):p:=h
theorem r8O(h:p:=by exact⟨fun e=>by rw[e]at this;simp at this,f6J⟩):p:=h
theorem g7q(h:p:=by rintro e w ⟨rfl,rfl⟩;go_wp2_with fail;refine(V k _).mono ?_;rintro e w ⟨rfl,rfl⟩;go_wp2_with fail;refine(V A _).mono ?_;rintro e w ⟨rfl,rfl⟩;go_wp2;go_ret2;exact g9T):p:=h
theorem G9i(h:p:=by go_wp2_with fail;refine(V K2).mono ?_;rintro N w3 ⟨y,rfl,s,G⟩;have T:Hid (x0h w zs (.returned y) w3):=⟨y,rfl,s.lower (V R).size,bthen (V R) G⟩;exact v8m):p:=h
theorem f2a(h:p:=by(intro w hSw;go_simp;first| done|(rw[IntKind.wrap_i32];omega)|(unfold wrap32;omega) | omega)):p:=h
theorem e0R(h:p:=by rintro e w ⟨rfl,rfl⟩;go_wp2_with fail;refine(V k _).mono ?_;rintro e w ⟨rfl,rfl⟩;go_wp2;go_ret2;exact g9T):p:=h
theorem E0L(h:p:=by obtain⟨I,W,q,_,_⟩:=o.sk.shape;exact⟨I,_,W,q⟩):p:=h
theorem m4S(h:p:=by exact⟨_,_,e⟩):p:=h
end
theorem x6t(w:World)(o:Obj):(w.alloc o).heap.size=w.heap.size+1:=Array.size_push ..
structure RecC(w:World)(g off:Nat)(r:Rec)(ao:Option Addr)(ln cp:Nat):Prop where
 x0:w.cell? ⟨g,off,none⟩=some (.int .i64 r.kind)
 x1:w.cell? ⟨g,off+1,none⟩=some (.int .i64 r.lo)
 x2:w.cell? ⟨g,off+2,none⟩=some (.int .i64 r.hi)
 x3:w.cell? ⟨g,off+3,none⟩=some (.int .i64 r.n)
 x4:w.cell? ⟨g,off+4,none⟩=some (.slice ao ln cp)
 x5:w.cell? ⟨g,off+5,none⟩=some (.string r.name)
 x6:w.cell? ⟨g,off+6,none⟩=some (.string r.other)
 x7:w.cell? ⟨g,off+7,none⟩=some (.float .f64 r.wt)
theorem RecC.keep{w w':World}{g off:Nat}{r:Rec}{ao:Option Addr}{Z cp:Nat}(h:RecC w g off r ao Z cp)(G:w'.heap[g]?=w.heap[g]?):RecC w' g off r ao Z cp:=by
 have I:∀j,w'.cell? ⟨g,j,none⟩=w.cell? ⟨g,j,none⟩:=fun j=>(by simp only[World.cell?,G]);exact⟨by rw[I];exact h.x0,by rw[I];exact h.x1,by rw[I];exact h.x2,by rw[I];exact h.x3,by rw[I];exact h.x4,by rw[I];exact h.x5,by rw[I];exact h.x6,by rw[I];exact h.x7⟩
def OfP(w:World)(B:Nat)(r:Rec)(e:Ending)(w':World):Prop:=∃vt,e=.returned (recV r vt)/\Ok .i32 21 w B vt r.to/\Below w.heap.size w w'
theorem z5k{t l:Value}{rs:List Rec}{f:Int}{B:Nat}(c:Int)(w:World)(hS:SpP w B t l (Cn.famOf f rs))(h6:(Cn.check6 rs).2=0)(hf:f≠10/\f≠0)(I:Rune c):Calls prog 258 #[.agg #[t,l],.int .i32 c] w (OfP w B (Cn.rget rs f c)):=by
 obtain⟨aG,aH⟩:=I;obtain⟨⟨a,m,e,s,hs,t4⟩,ps,hR,aj⟩:=hS;subst e;have hv:=(Cn.x8B h6 hf s hs).2 c;obtain⟨k,hk⟩:∃k:Nat,Tri.get 0 m c=(k:Int):=⟨(Tri.get 0 m c).toNat,f6J⟩;have ay:ps.length=(Cn.famOf f rs).length+1:=(by have:=congrArg List.length aj;exact W2O);have x:k<ps.length:=f6J;have R:(Cn.famOf f rs).length<=4096:=Nat.le_trans (List.length_filter_le _ _) (Cn.x0k.1 h6).1
 have H:ps[k].1=Cn.rget rs f c:=by
  have h2:=hv.2.2;rw[hk,Int.toNat_natCast,<- aj]at h2;have h3:(ps.map (·.1)).getD k Cn.none=ps[k].1:=(by simp[List.getD,x]);rw[<- h3];exact h2
 obtain⟨g,M,aD⟩:∃g M,l=.slice (some ⟨g,0,none⟩) ps.length M:=by
  rcases hR.1.2 with⟨_,h0⟩ | ⟨g,M,aF,e,_⟩
  ·omega
  ·exact⟨g,M,e⟩
 subst aD;obtain⟨r,J,Z,cp,hq,x0,d,x2,q,x4,x5,U,u,_⟩:=hR.cells8 x;have F:RecC w g (k*8) r J Z cp:=⟨x0,d,x2,q,x4,x5,U,u⟩;have aB:r=Cn.rget rs f c:=(by rw[<- H,hq]);rw[<- aB];have o:Ok .i32 21 w B (.slice J Z cp) r.to:=(by have:=hR.2 ps[k] (List.getElem_mem x);rw[hq]at this;exact this);have L:=O o;have aw:g<w.heap.size:=x0a x0
 have KG:Hid (∀W,Bw w W->Calls prog 38 #[.pointer (some a),.int .i64 c] W (x1e W (k:Int))):=fun W hW=>by
  have:=get4 _ m 0 c W ⟨B,t4.below hW⟩ ⟨f6J,f6J⟩;rw[hk]at this;exact this
 have aI:ps.length<=5000:=f6J;clear hv hk ay H aj hR hq x0 d x2 q x4 x5 U u o s hs t4 h6 aB R;generalize ps.length=pl at *;obtain⟨y,i⟩:∃y,(w.alloc (.cells #[.pointer (some a),.slice (some ⟨g,0,none⟩) pl M] 88)).alloc (.cells #[.int .i64 0,.int .i64 0,.int .i64 0,.int .i64 0,.slice none 0 0,.string ⟨#[]⟩,.string ⟨#[]⟩,.float .f64 0] 60)=y:=⟨_,rfl⟩;have N:=x6t w (.cells #[.pointer (some a),.slice (some ⟨g,0,none⟩) pl M] 88);have ar:=(Below.refl w.heap.size w).alloc (l0r _) (.cells #[.pointer (some a),.slice (some ⟨g,0,none⟩) pl M] 88);have aA:=heap_alloc_new w (.cells #[.pointer (some a),.slice (some ⟨g,0,none⟩) pl M] 88)
 have ae:Bw w y:=by
  rw[<- i];exact ar.alloc f6J _
 have aC:y.heap[w.heap.size+1]?=some (.cells #[.int .i64 0,.int .i64 0,.int .i64 0,.int .i64 0,.slice none 0 0,.string ⟨#[]⟩,.string ⟨#[]⟩,.float .f64 0] 60 (0,0)):=by
  rw[<- i,<- N];exact heap_alloc_new _ _
 have Q:y.heap[w.heap.size]?=some (.cells #[.pointer (some a),.slice (some ⟨g,0,none⟩) pl M] 88 (0,0)):=by
  rw[<- i,heap_alloc_old _ _ f6J];exact aA
 have aJ:y.heap.size=w.heap.size+2:=by rw[<- i,x6t];exact f6J
 have HS:Hid (∀W,Bw y W->(W.cell? ⟨w.heap.size,0,none⟩=some (.pointer (some a))/\W.cell? ⟨w.heap.size,1,none⟩=some (.slice (some ⟨g,0,none⟩) pl M))/\RecC W g (k*8) r J Z cp):=fun W hW=>by
  have P:=hW.block w.heap.size f6J;rw[Q]at P;exact⟨⟨cell_of (j:=0) P n5Z,cell_of (j:=1) P w2h⟩,F.keep (by rw[hW.block g f6J,ae.block g aw])⟩
 have HZ:Hid (∀W,Bw y W->W.heap[w.heap.size+1]?=some (.cells #[.int .i64 0,.int .i64 0,.int .i64 0,.int .i64 0,.slice none 0 0,.string ⟨#[]⟩,.string ⟨#[]⟩,.float .f64 0] 60 (0,0))):=fun W hW=>by
  rw[hW.block _ f6J];exact aC
 have am:=O ae;have G:=O aw;clear ar aA aC Q F ae;go_enter func258,ntmps258;go_wp2;refine wp_region_held_drew (S:=fun w'=>((w'.cell? ⟨w.heap.size,0,none⟩=some (.pointer (some a))/\w'.cell? ⟨w.heap.size,1,none⟩=some (.slice (some ⟨g,0,none⟩) pl M))/\RecC w' g (k*8) r J Z cp)) f4y (V HS _ (x0i ⟨1,rfl⟩)) (fun hHeld=>?_);refine tk9 0 (.pointer (some ⟨w.heap.size,1,none⟩)) ?_ (hy:=g3N);refine tk9 1 (.slice (some ⟨g,0,none⟩) pl M) ?_ (hy:=g3N);refine tk9 2 (.pointer (some ⟨w.heap.size,0,none⟩)) ?_ (hy:=g3N);refine tk9 3 (.pointer (some a)) ?_ (hy:=g3N);refine tk9 4 (.int .i32 c) ?_ (hy:=g3N);refine tk9 5 (.int .i64 c) ?_ (hy:=by(intro w hSw;obtain⟨⟨T,A⟩,⟨x0,d,x2,q,x4,x5,U,u⟩⟩:=hSw;go_simp;rw[IntKind.wrap_i64];omega));refine rd9 6 fun K hK=>?_;go_simp;refine(V KG _ (bthen (V am) (x0i ⟨1,rfl⟩))).mono ?_;rintro e2 w2 ⟨rfl,mm,rfl⟩;have X:=O (bthen (x0i ⟨1,rfl⟩) (x0i ⟨mm,rfl⟩):Bw y _);refine hK.out _ _ ?_ (fun hHeld=>?_)
 ·exact V HS _ (V X)
 clear hK K
 try simp only[Act.put,sa9,sb9,sc9]
 refine tk9 7 (.pointer (some ⟨g,k*8,none⟩)) ?_ (hy:=g3N);refine tk9 8 (recV r (.slice J Z cp)) ?_ (hy:=by(intro w hSw;obtain⟨⟨T,A⟩,⟨x0,d,x2,q,x4,x5,U,u⟩⟩:=hSw;first| exact loadR x0 d x2 q x4 x5 U u|(unfold recV;go_simp)));refine rd9 9 fun K hK=>?_;generalize((y.drewN 1).drewN mm)=V2 at *;have C:=V HZ _ (V X);have aq:=V HS _ (V X);have s9:=q0T (off:=0) C (by show 0+8<=8;exact f6J) r J Z cp;have hV:=z0B (off:=0) C (r,.slice J Z cp);have E:∀b,b≠w.heap.size+1->(putR V2 (w.heap.size+1) 0 (r,.slice J Z cp)).heap[b]?=V2.heap[b]?:=fun b hb=>x9O _ hb;have n:Bw w (putR V2 (w.heap.size+1) 0 (r,.slice J Z cp)):=x8C (bthen (V am) (V X)) f6J _;generalize putR V2 (w.heap.size+1) 0 (r,.slice J Z cp)=D at *;refine x7u rfl 60 (.tmp 4) (.tmp 13) rfl (.pointer (some ⟨w.heap.size+1,0,none⟩)) (recV r (.slice J Z cp)) rfl rfl s9 ?_;refine hK.out _ _ ?_ (fun hHeld=>?_)
 ·obtain⟨⟨q0,q1⟩,q2⟩:=aq;have I:∀j,D.cell? ⟨w.heap.size,j,none⟩=V2.cell? ⟨w.heap.size,j,none⟩:=fun j=>(by simp only[World.cell?,E w.heap.size f6J]);exact⟨⟨by rw[I];exact q0,by rw[I];exact q1⟩,q2.keep (E g (by have:=V G;exact f6J))⟩
 clear hK K
 try simp only[Act.put]
 refine wpAnyH_done f4y ?_ _
 have z:RecC D (w.heap.size+1) 0 r J Z cp:=by
  have ab:∀j,j<8->D.cell? ⟨w.heap.size+1,j,none⟩=(x0C (r,.slice J Z cp))[j]?:=fun j hj=>by
   have e:=z0Y #[.int .i64 0,.int .i64 0,.int .i64 0,.int .i64 0,.slice none 0 0,.string ⟨#[]⟩,.string ⟨#[]⟩,.float .f64 0] 0 (r,.slice J Z cp) (by show 0+8<=8;exact f6J) j;rw[if_pos f6J,Nat.sub_zero]at e;rw[<- e];simp[World.cell?,hV]
  exact⟨ab 0 f6J,ab 1 f6J,ab 2 f6J,ab 3 f6J,ab 4 f6J,ab 5 f6J,ab 6 f6J,ab 7 f6J⟩
 obtain⟨z0,z1,z2,z3,z4,z5,z6,z7⟩:=z;have Y:OfP w B r (.returned (recV r (.slice J Z cp))) D:=⟨_,rfl,V L,n⟩;clear hV E n C s9 aq hHeld HZ HS;go_wp2;refine bodyPost_ret (v:=recV r (.slice J Z cp)) (by simp[results,Tryz.results258,go_sem,z0,z1,z2,z3,z4,z5,z6,z7,recV]) rfl Y
namespace Cn
def within(c a b:Int):Bool:=decide (a<=c/\c<=b)
def bare2(c:Int):Bool:=syl c&&decide ((c-44032)%28=0)
def sylOf(a b:Int):Int×Bool :=
 if(jl a&&jv b)=true then(44032+((a-4352)*21+b-4449)*28,true)else if(bare2 a&&jt b)=true then(a+b-4520+1,true)else(0,false)
end Cn
theorem x2B c a b w:Calls prog 256 #[.int .i32 c,.int .i32 a,.int .i32 b] w fun e w'=>e=.returned (.bool (Cn.within c a b))/\w'=w:=by
 unfold Cn.within;by_cases Z:a<=c
 ·by_cases D:c<=b
  ·rw[d0t ⟨Z,D⟩];exact n2t
  ·rw[d0f (fun h=>D h.2)];have C:decide (c<=b)=false:=d0f D;exact n2t
 ·rw[d0f (fun h=>Z h.1)];have i:decide (a<=c)=false:=d0f Z;exact n2t
theorem z1w c w:Calls prog 257 #[.int .i32 c] w fun e w'=>e=.returned (.bool (Cn.bare2 c))/\w'=w:=by
 have l:=O (x2B c 44032 55203 w);have P:Cn.within c 44032 55203=Cn.syl c:=rfl;rw[P]at l;unfold Cn.bare2;by_cases L:Cn.syl c=true
 ·have i:44032<=c/\c<=55203:=o0d L;obtain⟨T,A⟩:=i;rw[L]at l ⊢;have P:(c-44032).tmod 28=(c-44032)%28:=Int.tmod_eq_emod_of_nonneg f6J;obtain⟨k,D⟩:∃k,decide ((c-44032)%28=0)=k:=⟨_,rfl⟩;rw[D];have x:((c-44032)%28==0)=k:=f6J;exact N0F
 ·rw[Bool.not_eq_true]at L;rw[L]at l ⊢;exact N0F
theorem y0g a b w:Calls prog 212 #[.int .i32 a,.int .i32 b] w fun e w'=>e=.returned (.tuple #[.int .i32 (Cn.sylOf a b).1,.bool (Cn.sylOf a b).2])/\w'=w:=by
 have l:Hid (∀w,Calls prog 256 #[.int .i32 a,.int .i32 4352,.int .i32 4370] w fun e w'=>e=.returned (.bool (Cn.jl a))/\w'=w):=fun w=>x2B a 4352 4370 w;have j:Hid (∀w,Calls prog 256 #[.int .i32 b,.int .i32 4449,.int .i32 4469] w fun e w'=>e=.returned (.bool (Cn.jv b))/\w'=w):=fun w=>x2B b 4449 4469 w;have k:=O (fun w=>z1w a w);have A:Hid (∀w,Calls prog 256 #[.int .i32 b,.int .i32 4520,.int .i32 4546] w fun e w'=>e=.returned (.bool (Cn.jt b))/\w'=w):=fun w=>x2B b 4520 4546 w;have Z:Cn.jl a=true->4352<=a/\a<=4370:=fun h=>o0d h;have D:Cn.jv b=true->4449<=b/\b<=4469:=fun h=>o0d h
 have J:Cn.bare2 a=true->44032<=a/\a<=55203:=fun h=>by
  unfold Cn.bare2 at h;rw[Bool.and_eq_true]at h;exact o0d h.1
 have F:Cn.jt b=true->4520<=b/\b<=4546:=fun h=>o0d h;unfold Cn.sylOf;generalize Cn.jl a=q1,Cn.jv b=q2,Cn.bare2 a=q3,Cn.jt b=f at *;replace Z:=O Z;replace D:=O D;replace J:=O J;replace F:=O F;by_cases g:(q1&&q2)=true
 ·rw[if_pos g];obtain⟨rfl,rfl⟩:q1=true/\q2=true:=(by simpa using g);obtain⟨T,P⟩:=V Z rfl;obtain⟨b1,i⟩:=V D rfl;go_enter func212,ntmps212;go_wp2_with fail;refine(V l _).mono ?_;rintro e w ⟨rfl,rfl⟩;go_wp2_with fail;refine(V j _).mono ?_;rintro e w ⟨rfl,rfl⟩;go_wp2;go_ret2;exact⟨by first| rfl | simp,rfl⟩
 ·rw[if_neg g]
  cases q1 with
  | false =>
   cases q3 with
   | false =>
    rw[if_neg M7K];go_enter func212,ntmps212;go_wp2_with fail;refine(V l _).mono ?_;exact e0R
   | true =>
    cases f with
    | false =>
     rw[if_neg M7K];go_enter func212,ntmps212;go_wp2_with fail;refine(V l _).mono ?_;exact g7q
    | true =>
     rw[if_pos (show(true&&true)=true from rfl)];obtain⟨T,P⟩:=V J rfl;obtain⟨b1,i⟩:=V F rfl;go_enter func212,ntmps212;go_wp2_with fail;refine(V l _).mono ?_;exact w7T
  | true =>
   obtain rfl:q2=false:=by cases q2<;>simp_all
   cases q3 with
   | false =>
    rw[if_neg M7K];go_enter func212,ntmps212;go_wp2_with fail;refine(V l _).mono ?_;rintro e w ⟨rfl,rfl⟩;go_wp2_with fail;refine(V j _).mono ?_;exact e0R
   | true =>
    cases f with
    | false =>
     rw[if_neg M7K];go_enter func212,ntmps212;go_wp2_with fail;refine(V l _).mono ?_;rintro e w ⟨rfl,rfl⟩;go_wp2_with fail;refine(V j _).mono ?_;exact g7q
    | true =>
     rw[if_pos (show(true&&true)=true from rfl)];obtain⟨T,P⟩:=V J rfl;obtain⟨b1,i⟩:=V F rfl;go_enter func212,ntmps212;go_wp2_with fail;refine(V l _).mono ?_;rintro e w ⟨rfl,rfl⟩;go_wp2_with fail;refine(V j _).mono ?_;exact w7T
open Ti
namespace Cn
def cmp9(rs:List Rec)(a b:Int):Int×Bool:=if(sylOf a b).2=true then((sylOf a b).1,true)else((x2D rs a b).getD 0,(x2D rs a b).isSome)
def mapping(rs:List Rec)(c:Int):List Int:=if(rget rs 1 c).kind=4 then[(rget rs 1 c).to.getD 0 0+(c-(rget rs 1 c).lo)]else(rget rs 1 c).to
theorem rget_cases{rs:List Rec}(q:(check6 rs).2=0){f:Int}(C:f≠10/\f≠0)(c:Int):(hit rs f c=Option.none/\rget rs f c=none)\/(hit rs f c=some (rget rs f c)/\rget rs f c∈rs/\fam (rget rs f c).kind=f/\speaks (rget rs f c) c=true/\right (rget rs f c)=0):=by
 unfold rget
 cases he:hit rs f c with
 | none=>exact .inl ⟨rfl,rfl⟩
 | some r =>
  obtain⟨a,A,K⟩:=(x1M q C r).1 he;exact .inr ⟨rfl,a,A,K,(x0k.1 q).2.1 r a⟩
theorem y3i{r:Rec}(h:right r=0)(F:r.kind=4):r.to.length=1/\0<=r.to.getD 0 0/\r.to.getD 0 0<=1114111/\r.to.getD 0 0+r.hi-r.lo<=1114111:=by
 have C:=x0z h;unfold right at h;rw[if_neg C,if_neg f6J]at h;have I:=x1x h;rw[Bool.and_eq_true,if_neg f6J,if_neg f6J,if_pos F]at I;have D:=I.2;simp only[Bool.and_eq_true]at D;obtain⟨S,A⟩:=x0x D.1.2;have E:=o0d D.2;have L:r.to.length=1:=f6J
 have o:r.to.getD 0 0∈r.to:=by
  match hr:r.to,L with
  | [x],_=>simp
 have:=x2X (A _ o);exact⟨L,this.1,this.2,f6J⟩
theorem x4m{rs:List Rec}(q:(check6 rs).2=0)(c:Int)(F:(rget rs 1 c).kind=4):(rget rs 1 c).to.length=1/\0<=(rget rs 1 c).to.getD 0 0/\(rget rs 1 c).to.getD 0 0<=1114111/\0<=(rget rs 1 c).lo/\(rget rs 1 c).lo<=c/\c<=1114111/\(rget rs 1 c).to.getD 0 0+(c-(rget rs 1 c).lo)<=1114111:=by
 rcases rget_cases q (f:=1) e8N c with⟨_,e⟩ | ⟨_,_,_,L,X⟩
 ·rw[e]at F;exact absurd F e8N
 ·obtain⟨A,H,I⟩:=x0q X f6J;obtain⟨s,r2,r3,r4⟩:=y3i X F;unfold speaks at L;obtain⟨_,_,l,g,Q,u,_⟩:=o0d L;exact⟨s,r2,r3,A,Q,g,f6J⟩
end Cn
theorem z8d{W:World}{a:Addr}{u:Value}(h:W.cell? a=some u)(C:W.frozen? a=false)(y:Int):(Instr.storeAt 21 (.pointer (some a)) (.int .i32 y)).run prog W=.ok () (W.setCell a (.int .i32 y)):=by
 simp[Instr.storeAt,go_sem,h,C]
theorem Ok.setAt9{K:IntKind}{e:TypeId}{w:World}{B g n cap:Nat}{zs:List Int}(h:Ok K e w B (.slice (some ⟨g,0,none⟩) n cap) zs)(k:Nat)(z:Int)(u:Fit K [z]) :
  Ok K e (w.setCell ⟨g,k,none⟩ (.int K z)) B (.slice (some ⟨g,0,none⟩) n cap) (zs.set k z)/\w.frozen? ⟨g,k,none⟩=false:=by
 have Q:=h.row;rcases Q.2 with⟨U,_⟩ | ⟨S,A,t,N,Y,X,F,G,f,T⟩
 ·cases U
 ·exact W9S
theorem y0A{B p:Nat}{rs:List Rec}(a b:Int)(w:World)(F:x0n w B p rs)(E:Rune a)(Y:Rune b):Calls prog 163 #[.pointer (some ⟨p,0,none⟩),.int .i32 a,.int .i32 b] w fun e w'=>e=.returned (.tuple #[.int .i32 (Cn.cmp9 rs a b).1,.bool (Cn.cmp9 rs a b).2])/\w'=w:=by
 obtain⟨N,o,H,t4,l,T,u,P,C,f,X,a4,U,L,l5,g,Q,x1,Z,D,J⟩:=F;have K:=O (y0g a b w);have x:w.cell? ⟨p,15,none⟩=some g:=cell_of (j:=15) Z (by show 15<18;exact f6J);obtain⟨s,r2,rfl,t,b1,i,n,A⟩:=J.co;have d:=(z4X (w:=w) (M:=95) (z:=.int .i32 0) klP underlying95 z4K (r:=s) n (k:=pk2 a b) ⟨a,b,rfl,E,Y⟩).1;rw[y4x]at d;unfold Cn.cmp9;clear Z D J n A t;obtain⟨W,G⟩:=E;obtain⟨m,I⟩:=Y;generalize Cn.sylOf a b=q at *;obtain⟨y,v⟩:=q
 cases v with
 | true =>
  clear d;exact g9D
 | false =>
  cases hpo:Cn.x2D rs a b with
  | none =>
   rw[hpo]at d;replace d:(Instr.lookup 95 (.map (some s)) (.agg #[.int .i32 a,.int .i32 b]) true).run prog w=.ok (.tuple #[.int .i32 0,.bool false]) w:=d;clear hpo;exact g9D
  | some z =>
   rw[hpo]at d;replace d:(Instr.lookup 95 (.map (some s)) (.agg #[.int .i32 a,.int .i32 b]) true).run prog w=.ok (.tuple #[.int .i32 z,.bool true]) w:=d;clear hpo;exact g9D
theorem y1e{B p:Nat}{rs:List Rec}(c:Int)(w:World)(hD:x0n w B p rs)(q:(Cn.check6 rs).2=0)(ab:∀r∈rs,RecFit r)(hc:Rune c):Calls prog 213 #[.pointer (some ⟨p,0,none⟩),.int .i32 c] w (x0h w (Cn.mapping rs c)):=by
 obtain⟨t1,t2,t3,t4,t5,a1,l1,a2,l2,a3,l3,a4,l4,a5,l5,c1,c2,x1,Z,h2,h3⟩:=hD;have l:=O (z5k c w h3.q1 q e8P hc);have x5:w.cell? ⟨p,5,none⟩=some a1:=cell_of (j:=5) Z (by show 5<18;exact f6J);have x6:w.cell? ⟨p,6,none⟩=some l1:=cell_of (j:=6) Z (by show 6<18;exact f6J);obtain⟨⟨aa,m,e,-⟩,ps,hR,-⟩:=h3.q1;subst e
 obtain⟨aU,aT,v⟩:∃J ay,l1=.slice J ps.length ay:=by
  rcases hR.1.2 with⟨e,h0⟩ | ⟨g,ay,t,e,_⟩
  ·exact⟨_,_,by rw[e,h0]⟩
  ·exact m4S
 subst v;have M:=Cn.x4m q c
 have P:RecFit (Cn.rget rs 1 c):=by
  rcases Cn.rget_cases q (f:=1) e8P c with⟨_,e⟩ | ⟨_,hm,_⟩
  ·rw[e];exact⟨⟨e8P,e8P⟩,⟨e8P,e8P⟩,⟨e8P,e8P⟩,⟨e8P,e8P⟩,e8P,e8P⟩
  ·exact ab _ hm
 obtain⟨aN,aO⟩:=hc;clear Z h2 h3 q hR ab;unfold Cn.mapping;generalize Cn.rget rs 1 c=r at *;obtain⟨zs,ae⟩:∃zs,r.to=zs:=⟨_,rfl⟩;have b:=P.len;rw[ae]at M b ⊢;have aw:=O ae;have hk:=P.kind;have aQ:=P.lo;have Q:=O M;obtain⟨aK,G⟩:∃a,(if r.kind=4 then[zs.getD 0 0+(c-r.lo)]else zs)=a:=⟨_,rfl⟩;rw[G];have d:=O G;clear ae P M G;go_enter func213,ntmps213;go_wp2_with fail;refine(V l).mono ?_;rintro e1 w1 ⟨vt,rfl,o,b1⟩;clear l x5 x6;rw[V aw]at o;obtain⟨J,tc,rfl,aR,aS⟩:=o.sk.shape;obtain⟨W1,aL,aB,I⟩:=x0N w1 r.kind r.lo r.hi r.n (.slice J zs.length tc) r.name r.other r.wt;have k:∀W a m,(store a (.float .f64 r.wt) m).run prog W=stored prog W a (.float .f64 r.wt) m:=fun W a m=>run_store prog W a _ m rfl;have KC:=O (x2L (.slice J zs.length tc) zs W1 ((o.sk.below b1).below I) b);have aj:=O (bthen b1 I);have A:=O (bthen b1 I).size;have T:Hid (∀W,Bw W1 W->BoxAt W w1.heap.size r.kind r.lo r.hi r.n (.slice J zs.length tc) r.name r.other r.wt):=fun W h=>aB.keep h;obtain⟨z0,z1,z2,z3,z4,z5,z6,z7⟩:=aB;clear o b1 I aw;unfold recV;generalize r.kind=kd,r.lo=lo,r.hi=hi,r.n=n at *;generalize r.name=nm,r.other=ot,r.wt=wt at *;clear r;go_wp2_with fail;refine(V KC).mono ?_;rintro e2 u ⟨v2,rfl,s,i⟩;obtain⟨y0,y1,y2,y3,y4,y5,y6,y7⟩:=V T u i;have ar:=O y1;have X:=O (bthen (V aj) i);have am:=O i;clear KC z0 z2 z3 z4 z5 z6 z7 k aj i;by_cases F:kd=4
 ·have E:=V d;rw[if_pos F]at E;obtain⟨s1,s2,s3,s4,s5,s6,s7⟩:=V Q F
  obtain⟨x,rfl⟩:∃x,zs=[x]:=by
   match zs,s1 with
   | [x],_=>exact⟨x,rfl⟩
  simp only[List.getD_cons_zero]at E s2 s3 s7;subst E F;clear d Q;obtain⟨gt,aG,aA,C,aI,aJ,aC⟩:=s.sk.place M7M
  have aF:aG=0:=by
   rcases s.row.2 with⟨e,_⟩ | ⟨g',aH,t,e,_⟩
   ·rw[C]at e;simp at e
   ·rw[C]at e;simp only[Value.slice.injEq,Option.some.injEq,Addr.mk.injEq]at e;exact e.1.2.1
  subst aF;have N:u.cell? ⟨gt,0,none⟩=some (.int .i32 x):=aC 0 M7M;subst C;have HS:Hid (∀W,Bw u W->W.cell? ⟨gt,0,none⟩=some (.int .i32 x)/\W.cell? ⟨w1.heap.size,1,none⟩=some (.int .i64 lo)):=fun W h=>⟨by rw[h.cell (x0a N)];exact N,by rw[h.cell (x0a y1)];exact y1⟩;have H:Hid (gt≠w1.heap.size):=by have Z:=(s.row.lt gt rfl).1;have h2:=x0a z1;show gt≠_;exact f6J
  have HE:Hid (∀W,Bw u W->x0h w [x+(c-lo)] (.returned (.slice (some ⟨gt,0,none⟩) 1 aA)) (W.setCell ⟨gt,0,none⟩ (.int .i32 (x+(c-lo))))/\W.frozen? ⟨gt,0,none⟩=false):=fun W h=>by
   have hk:=(s.below h).setAt9 0 (x+(c-lo)) (fun z hz=>by rw[List.mem_singleton]at hz;subst hz;exact x0O f6J);have aP:W1.heap.size<=gt:=(s.row.lt gt rfl).1;exact⟨⟨_,rfl,hk.1.lower (V A),x0b (bthen (V X) h) (by have:=V A;exact f6J) _⟩,hk.2⟩
  clear s aC T am N z1 y2 y3 y4 y5 y6 y7 ar X;go_wp2;clear y0 y1;refine wp_region_held_drew (S:=fun w'=>w'.cell? ⟨w1.heap.size,1,none⟩=some (.int .i64 lo)) f4y ((V HS _ (x0i ⟨1,rfl⟩)).2) (fun hHeld=>?_);refine tk9 0 (.slice (some ⟨gt,0,none⟩) 1 aA) ?_;refine tk9 1 (.pointer (some ⟨gt,0,none⟩)) ?_;refine tk9 3 (.int .i32 c) ?_;refine tk9 4 (.pointer (some ⟨w1.heap.size,1,none⟩)) ?_;refine tk9 5 (.int .i64 lo) ?_ (hy:=by(intro w hSw;have s1:=hSw;go_simp));refine tk9 6 (.int .i32 lo) ?_ (hy:=f2a);refine tk9 7 (.int .i32 (c-lo)) ?_ (hy:=f2a);have L:Bw u u.drew:=x0i ⟨1,rfl⟩;have D:=V HS _ L;have R:=V HE _ L;have aD:=V H;clear HS HE H;generalize u.drew=w3 at *;refine rd9 2 fun K hK=>?_
  have y:(Instr.loadAt 21 (.pointer (some ⟨gt,0,none⟩))).run prog w3=.ok (.int .i32 x) w3:=by
   have h0:=D.1;simp[Instr.loadAt,go_sem,h0]
  refine y6R rfl 21 (.tmp 21) rfl (.pointer (some ⟨gt,0,none⟩)) (.int .i32 x) rfl y ?_;refine hK.out _ _ ?_ (fun hHeld=>?_)
  ·exact D.2
  clear hK K
  try simp only[Act.put,sa9,sb9,sc9]
  refine tk9 8 (.int .i32 (x+(c-lo))) ?_ (hy:=f2a);refine tk9 9 (.pointer (some ⟨gt,0,none⟩)) ?_;refine rd9 10 fun K hK=>?_;have s9:=z8d D.1 R.2 (x+(c-lo));have Y:=R.1
  have U:(w3.setCell ⟨gt,0,none⟩ (.int .i32 (x+(c-lo)))).cell? ⟨w1.heap.size,1,none⟩=some (.int .i64 lo):=by
   rw[World.cell?_setCell_far _ _ _ _ aD];exact D.2
  clear R D y;generalize w3.setCell ⟨gt,0,none⟩ (.int .i32 (x+(c-lo)))=w4 at *;refine x7u rfl 21 (.tmp 29) (.tmp 28) rfl (.pointer (some ⟨gt,0,none⟩)) (.int .i32 (x+(c-lo))) rfl rfl s9 ?_;refine hK.out _ _ ?_ (fun hHeld=>?_)
  ·exact U
  clear hK K s9
  try simp only[Act.put]
  refine wpAnyH_done f4y ?_ _;have aq:=O Y;clear Y hHeld U;go_wp2;go_ret;exact V aq
 ·have E:=V d;rw[if_neg F]at E;subst E;clear d Q;have aM:(kd==4)=false:=(by rw[beq_eq_false_iff_ne];exact F);have HF:Hid (x0h w zs (.returned v2) u):=⟨v2,rfl,s.lower (V A),V X⟩;clear s T ar am z1;exact I7o
open Ti
namespace Cn
theorem q0c:x2d.take 150=x2d:=rfl
end Cn
theorem z5g:∀r∈Cn.x2d,RecFit r:=by
 intro p s;simp only[Cn.x2d,List.mem_cons,List.mem_nil_iff,or_false]at s;rcases s with rfl | rfl | rfl | rfl | rfl | rfl | rfl | rfl | rfl | rfl<;>exact⟨W0Y,W0Y,W0Y,W0Y,e8M,e8M⟩
namespace Cn
end Cn
end Go.Proofs.YtkfcabdmkmljjaaGreatDoor
namespace Go.Proofs.YtkfcabdmkmljjaaGreatDoor.Cn
open Go.Proofs.Tryz
theorem y3u l:∀(f:Nat) (K:List Int) (c:Int) (out:List Int),(∀x∈out,opn l x=[])->∀x∈(walk l f K c out).1,opn l x=[]:=by
 intro f
 induction f with
 | zero =>
  intro K c out h;rw[walk];split
  ·grind
  ·split<;>(intro x A;cases A)
 | succ f ih =>
  intro K c out h;rw[walk];split
  ·grind
  ·split
   ·intro x A;cases A
   ·have S:∀(D:List Int) (s:List Int×Int),(∀x∈s.1,opn l x=[])->∀x∈(D.foldl (stepW l f (K++[c])) s).1,opn l x=[]:=i8O
    exact S _ _ h
theorem z1B l:∀(f:Nat) (K:List Int) (c:Int) (out:List Int),(walk l f K c out).2=0->out.length<(walk l f K c out).1.length:=by
 intro f
 induction f with
 | zero =>
  intro K c out;rw[walk];split
  ·grind
  ·grind
 | succ f ih =>
  intro K c out;rw[walk];split
  ·split
   ·intro h;exact absurd h e8N
   ·intro _;simp
  ·next hc =>
   split
   ·intro h;exact absurd h e8N
   ·have S:∀(D:List Int) (s:List Int×Int),(D.foldl (stepW l f (K++[c])) s).2=0->s.1.length+D.length<=(D.foldl (stepW l f (K++[c])) s).1.length:=by
     intro D
     induction D with
     | nil=>intro s _;simp
     | cons x D ihx =>
      intro s L;rw[List.foldl_cons]at L ⊢;have Z:=ihx _ L
      have U:s.2=0:=by
       refine Decidable.byContradiction fun F=>?_;rw[stepW,if_neg F,x1G _ _ _ _ _ F]at L;exact F L
      have A:(stepW l f (K++[c]) s x).2=0:=by
       refine Decidable.byContradiction fun F=>?_;rw[x1G _ _ _ _ _ F]at L;exact F L
      unfold stepW at Z A L ⊢;rw[if_pos U]at Z A;have J:=ih _ _ _ A;simp only[List.length_cons];simp only[if_pos U]at *;omega
    intro h;have:=S _ _ h;have y:0<(opn l c).length:=List.length_pos_iff.2 hc;simp only at this;exact Nat.lt_of_lt_of_le f6J this
def jamo(c:Int):Prop:=(4352<=c/\c<=4370)\/(4449<=c/\c<=4469)\/(4520<=c/\c<=4546)
theorem x2y{r c}(h:speaks r c=true):r.lo<=c/\c<=r.hi:=by
 unfold speaks at h;obtain⟨_,_,_,_,E,q,_⟩:=o0d h;exact⟨E,q⟩
theorem y4k{l}(h:(check l).2=0){c}(hc:jamo c){f}(C:f=2\/f=3):hit l f c=Option.none:=by
 obtain⟨q,X,_,_⟩:=x1f.1 h
 cases e:hit l f c with
 | none=>rfl
 | some r =>
  obtain⟨Z,D,J⟩:=x2p e;have L:=x2y J;have U:=X r Z;unfold record at U;rw[if_neg f6J]at U;split at U
  ·exact absurd U e8N
  ·split at U
   ·exact absurd U e8N
   ·next hn =>
    refine absurd ?_ hn;simp only[Bool.or_eq_true,covers,decide_eq_true_eq];rcases hc with hc | hc | hc
    ·exact .inl (.inl (.inl f6J))
    ·exact .inl (.inl (.inr f6J))
    ·exact .inl (.inr f6J)
theorem x9r{l}(h:(check l).2=0){c}(I:jamo c):opn l c=[]:=by
 unfold opn
 have:syl c=false:=by
  unfold syl;unfold jamo at I;exact d0f f6J
 rw[this,y4k h I (.inr rfl)];rfl
theorem z3i{l}(h:(check l).2=0){c}(I:jamo c):cls l c=0:=by
 unfold cls;rw[y4k h I (.inl rfl)]
theorem z5m{l c}(L:syl c=true)(o:(c-44032)%28=0):opn l c=[4352+(c-44032) / 588,4449+(c-44032) / 28%21]:=by
 unfold opn;rw[if_pos L,if_pos o]
theorem z0o{l c}(L:syl c=true)(o:¬(c-44032)%28=0):opn l c=[c-(c-44032)%28,4519+(c-44032)%28]:=by
 unfold opn;rw[if_pos L,if_neg o]
theorem x8n{l:List Rec}:∀(x:List Int),(∀c∈x,cls l c=0)->fallsA l x=false
 | [],_=>rfl
 | [_],_=>rfl
 | a::b::r,h=>by
  rw[fallsA,x8n (b::r) fun c I=>h c (List.mem_cons_of_mem _ I)];simp[h b M7K]
theorem z4v{l}(h:(check l).2=0){c}(L:syl c=true):(full l c).2=0/\∀x∈(full l c).1,jamo x:=by
 have Y:44032<=c/\c<=55203:=o0d L
 have E:∀(d:Int),syl d=true->(d-44032)%28=0->∀(f:Nat) (K out:List Int),¬d∈K->out.length<30->walk l (f+1) K d out=(out++[4352+(d-44032) / 588,4449+(d-44032) / 28%21],0)/\jamo (4352+(d-44032) / 588)/\jamo (4449+(d-44032) / 28%21):=by
  intro d hd o f K out y R;have C:44032<=d/\d<=55203:=o0d hd;have b:jamo (4352+(d-44032) / 588):=.inl f6J;have g:jamo (4449+(d-44032) / 28%21):=.inr (.inl f6J);refine⟨?_,b,g⟩;rw[x7D (by rw[z5m hd o];exact M7M) f y,z5m hd o];simp only[List.foldl_cons,List.foldl_nil,stepW];rw[if_pos trivial,x1k (x9r h b),if_neg (c:=32<=out.length) f6J];simp only[if_true];rw[x1k (x9r h g),if_neg P8P];simp
 unfold full;by_cases o:(c-44032)%28=0
 ·obtain⟨e,b,g⟩:=E c L o 15 [] [] M7M M7M;rw[e];refine⟨rfl,fun x A=>?_⟩;simp at A;rcases A with rfl | rfl
  ·exact b
  ·exact g
 ·have hd:syl (c-(c-44032)%28)=true:=d0t f6J;have F:(c-(c-44032)%28-44032)%28=0:=f6J;have D:jamo (4519+(c-44032)%28):=.inr (.inr f6J);rw[x7D (by rw[z0o L o];exact M7M) 15 M7M,z0o L o];obtain⟨e,b,g⟩:=E _ hd F 14 ([]++[c]) [] P8P M7M;simp only[List.foldl_cons,List.foldl_nil,stepW];rw[if_pos trivial,e];simp only[if_true];rw[x1k (x9r h D),if_neg M7M];refine⟨rfl,fun x A=>?_⟩;simp at A;rcases A with rfl | rfl | rfl
  ·exact b
  ·exact g
  ·exact D
theorem fam_three{k}(h:fam k=3):k=7\/k=8:=R8h
theorem leaves{l}(h:(check l).2=0) c:(full l c).2=0/\0<(full l c).1.length/\(full l c).1.length<=32/\(∀x∈(full l c).1,opn l x=[])/\fallsA l (full l c).1=false:=by
 have U:(full l c).2=0/\fallsA l (full l c).1=false:=by
  by_cases L:syl c=true
  ·obtain⟨Z,D⟩:=z4v h L;exact⟨Z,x8n _ fun x A=>z3i h (D x A)⟩
  ·by_cases R:opn l c=[]
   ·unfold full;rw[x1k R,if_neg M7M];exact⟨rfl,rfl⟩
   ·have s:∃r,hit l 3 c=some r:=by
     unfold opn at R;rw[if_neg L]at R
     cases e:hit l 3 c with
     | none=>grind
     | some r=>exact⟨r,rfl⟩
    obtain⟨r,X⟩:=s;obtain⟨Z,D,J⟩:=x2p X;obtain⟨q,n,_,_⟩:=x1f.1 h;have j:=x2y J
    have N:r.lo=r.hi:=by
     rcases fam_three D with hk | hk
     ·exact(x0E ((x0k.1 q).2.1 r Z) hk).1
     ·exact(x2x ((x0k.1 q).2.1 r Z) hk).1
    have I:r.lo=c:=f6J;have u:=n r Z;rw[x9P]at u;unfold recF at u;rw[if_neg f6J]at u;split at u
    ·exact absurd u e8N
    ·grind
 exact⟨U.1,z1B l 16 [] c [] U.1,x4g l c,y3u l 16 [] c [] (fun x A=>absurd A M7M),U.2⟩
theorem x9f{l:List Rec}:∀(x:List Int),fallsA l x=false->∀k,k+1<x.length->cls l (x.getD (k+1) 0)=0\/cls l (x.getD k 0)<=cls l (x.getD (k+1) 0)
 | [],_,k,hk=>absurd hk M7K
 | [_],_,k,hk=>absurd hk M7K
 | a::b::r,h,k,hk=>by
  rw[fallsA,Bool.or_eq_false_iff]at h
  cases k with
  | zero =>
   have:=of_decide_eq_false h.1;show cls l b=0\/cls l a<=cls l b;omega
  | succ k=>exact x9f (b::r) h.2 k (by simpa using hk)
end Go.Proofs.YtkfcabdmkmljjaaGreatDoor.Cn
namespace Go.Proofs.YtkfcabdmkmljjaaGreatDoor
open Go.Proofs.Tryz
open Go.RowKit
namespace Cn
theorem z8f{l}(h:(check l).2=0){c}(I:syl c=true){f}(C:f=2\/f=3):hit l f c=Option.none:=by
 obtain⟨q,X,_,_⟩:=x1f.1 h;unfold syl at I;have I:=o0d I
 cases e:hit l f c with
 | none=>rfl
 | some r =>
  obtain⟨Z,D,J⟩:=x2p e;have L:=x2y J;have U:=X r Z;unfold record at U;rw[if_neg f6J]at U;split at U
  ·exact absurd U e8N
  ·split at U
   ·exact absurd U e8N
   ·next hn =>
    refine absurd ?_ hn;simp only[Bool.or_eq_true,covers,decide_eq_true_eq];exact e5w
theorem z1s{rs}(h:(check rs).2=0){c r}(s:hit rs 3 c=some r):r.to≠[]/\r.to.length<=2:=by
 have q:=(x1f.1 h).1;obtain⟨a,A,K⟩:=(x1M q e8N r).1 s;have X:=(x0k.1 q).2.1 r a;rcases fam_three A with e | e
 ·have:=(x0x (x0E X e).2.2).1;exact r8O
 ·have:=(x0x (x2x X e).2.2).1;exact r8O
theorem z0n{rs}(h:(check rs).2=0) c:((rget rs 3 c).to=[]/\opn [] c=opn rs c)\/((rget rs 3 c).to≠[]/\(rget rs 3 c).to=opn rs c/\(rget rs 3 c).to.length<=2):=by
 unfold rget
 cases he:hit rs 3 c with
 | none =>
  refine .inl ⟨rfl,?_⟩;unfold opn;rw[he];rfl
 | some r =>
  obtain⟨Z,D⟩:=z1s h he;refine .inr ⟨Z,?_,D⟩
  have L:syl c=false:=by
   cases L:syl c with
   | false=>rfl
   | true=>rw[z8f h L (.inr rfl)]at he;cases he
  unfold opn;rw[L,he];rfl
theorem z7C{rs}(h:(check rs).2=0) c:(opn rs c).length<=2:=by
 unfold opn;split
 ·exact f1Z
 ·cases he:hit rs 3 c with
  | none=>simp
  | some r=>exact(z1s h he).2
end Cn
theorem z2O k lo hi n ao ln cp a b y w:(Instr.field 60 (.agg #[.int .i64 k,.int .i64 lo,.int .i64 hi,.int .i64 n,.slice ao ln cp,.string a,.string b,.float .f64 y]) 4).run prog w=.ok (.slice ao ln cp) w:=f4x
theorem y1o{B p rs} c w(H:Glob w)(F:x0n w B p rs)(hk:(Cn.check rs).2=0)(I:Rune c):Calls prog 288 #[.pointer (some ⟨p,0,none⟩),.int .i32 c] w (x0h w (Cn.opn rs c)):=by
 have q:=(Cn.x1f.1 hk).1;obtain⟨t1,t2,t3,t4,t5,a1,u,a2,C,a3,X,E,l4,L,k,c1,c2,x1,Z,D,h3⟩:=F;have l:=O (z5k c w h3.q2 q e8N I);have x5:w.cell? ⟨p,7,none⟩=some a2:=cell_of (j:=7) Z (by show 7<18;exact f6J);have x6:w.cell? ⟨p,8,none⟩=some C:=cell_of (j:=8) Z (by show 8<18;exact f6J);obtain⟨⟨a,m,e,-⟩,ps,x,-⟩:=h3.q2;subst e
 obtain⟨A,i,v⟩:∃J M,C=.slice J ps.length M:=by
  rcases x.1.2 with⟨e,U⟩ | ⟨g,M,t,e,_⟩
  ·exact⟨_,_,by rw[e,U]⟩
  ·exact m4S
 subst v;have d:=O (Cn.z0n hk c);have S:=fun W (hW:Bw w W)=>O (openC (.slice none 0 0) [] c W (H.on hW) (Rcs.nil W) I);obtain⟨ab,ae⟩:=I;generalize Cn.rget rs 3 c=r,Cn.opn rs c=zs at *;go_enter func288,ntmps288;go_wp2_with fail;refine(V l).mono ?_;rintro P Q ⟨vt,rfl,o,b1⟩;obtain⟨J,tc,rfl,K,b⟩:=o.sk.shape;have R:=O b1;have f:=o.sk.below b1;have Y:=z2O r.kind r.lo r.hi r.n J r.to.length tc r.name r.other r.wt Q;unfold recV;rcases V d with⟨P,z⟩ | ⟨P,z,N⟩
 ·have K2:=O (V (S Q b1));rw[z]at K2;rw[P]at Y ⊢;simp only[List.length_nil]at Y ⊢;exact G9i
 ·rw[z]at f Y P N K ⊢;have K2:=O (x2L _ zs Q f f6J);have hl:0<zs.length:=List.length_pos_iff.2 P;exact G9i
namespace Cn
def Tree(l:List Rec):Nat->Int->List Int->Prop
 | 0,c,ys=>opn l c=[]/\ys=[c]
 | n+1,c,ys=>(opn l c=[]/\ys=[c])\/(opn l c≠[]/\∃yss:List (List Int),yss.length=(opn l c).length/\(∀i,i<(opn l c).length->Tree l n ((opn l c).getD i 0) (yss.getD i []))/\ys=yss.flatten)
theorem y0P{l:List Rec}{f:Nat}{K:List Int}(H:∀d out r,walk l f K d out=(r,0)->∃ys,r=out++ys/\Tree l f d ys):∀(n:List Int) (out r:List Int),n.foldl (stepW l f K) (out,0)=(r,0)->∃E:List (List Int),E.length=n.length/\r=out++E.flatten/\∀i,i<n.length->Tree l f (n.getD i 0) (E.getD i [])
 | [],out,r,h=>by
  have:=(Prod.mk.inj h).1;subst this;exact⟨[],rfl,M7K,fun i hi=>v5F⟩
 | d::n,out,r,h=>by
  rw[List.foldl_cons]at h;have e:stepW l f K (out,0) d=walk l f K d out:=(by simp[stepW]);rw[e]at h;obtain⟨⟨G,P⟩,A⟩:∃q,walk l f K d out=q:=⟨_,rfl⟩;rw[A]at h;by_cases s:P=0
  ·subst s;obtain⟨ys,rfl,C⟩:=H d out G A;obtain⟨E,S,hr,I⟩:=y0P H n (out++ys) r h;refine⟨ys::E,by simp[S],by rw[hr];exact M7K,fun i hi=>?_⟩
   cases i with
   | zero=>exact C
   | succ i=>simpa using I i w3z
  ·rw[x1G l f K n (G,P) s]at h;exact absurd (Prod.mk.inj h).2 s
theorem z1C{l}:∀(f:Nat) (K:List Int) (c:Int) (out r:List Int),walk l f K c out=(r,0)->∃ys,r=out++ys/\Tree l f c ys:=by
 intro f
 induction f with
 | zero =>
  intro K c out r h;by_cases R:opn l c=[]
  ·rw[x1k R]at h;split at h
   ·grind
   ·exact⟨[c],(Prod.mk.inj h).1.symm,R,rfl⟩
  ·by_cases y:c∈K
   ·rw[x2Z R _ y]at h;exact s1y
   ·rw[x7C R y]at h;exact s1y
 | succ f ih =>
  intro K c out r h;by_cases R:opn l c=[]
  ·rw[x1k R]at h;split at h
   ·exact s1y
   ·exact⟨[c],(Prod.mk.inj h).1.symm,.inl ⟨R,rfl⟩⟩
  ·by_cases y:c∈K
   ·rw[x2Z R _ y]at h;exact s1y
   ·rw[x7D R f y]at h;obtain⟨E,S,X,A⟩:=y0P (fun d out r hd=>ih (K++[c]) d out r hd) _ _ _ h;exact⟨_,X,.inr ⟨R,E,S,A,rfl⟩⟩
theorem y8U{l}(h:(check l).2=0) c:Tree l 16 c (full l c).1:=by
 have D:=(leaves h c).1;obtain⟨ys,g,K⟩:=z1C (l:=l) 16 [] c [] (full l c).1 (by rw[show walk l 16 [] c []=full l c from rfl];exact Prod.ext rfl D);rw[List.nil_append]at g;rw[g];exact K
end Cn
structure Grw(w w':World)(x v:Value):Prop where
 g:w.grownBy w' x.ownBlock
 own:∀k,v.ownBlock=some k->x.ownBlock=some k\/w.heap.size<=k
theorem Grw.trans{w w1 w2 x v u}(h:Grw w w1 x v)(D:Grw w1 w2 v u):Grw w w2 x u:=by
 have A:=h.g.size;refine⟨⟨D.g.os.trans h.g.os,D.g.tape.trans h.g.tape,D.g.output.trans h.g.output,Nat.le_trans A D.g.size,fun k G y=>?_⟩,fun k G=>?_⟩
 ·rw[D.g.block k f6J (fun e=>?_),h.g.block k G y];rcases h.own k e.symm with e2 | e2
  ·exact y e2.symm
  ·omega
 ·rcases D.own k G with e | e
  ·exact h.own k e
  ·exact e5w
theorem Grw.after{w w1 w2 x v}(Y:Bw w w1)(h:Grw w1 w2 x v):Grw w w2 x v:=by
 have A:=Y.size;refine⟨⟨h.g.os.trans Y.os,h.g.tape.trans Y.tape,h.g.output.trans Y.output,Nat.le_trans A h.g.size,fun k G y=>?_⟩,fun k G=>?_⟩
 ·rw[h.g.block k f6J y,Y.block k G]
 ·rcases h.own k G with e | e
  ·exact .inl e
  ·exact e5w
theorem Grw.refl w x:Grw w w x x:=⟨⟨rfl,rfl,rfl,l0r _,fun _ _ _=>rfl⟩,fun _ h=>.inl h⟩
def AppB(w:World)(B:Nat)(x:Value)(ys:List Int)(e:Ending)(w':World):Prop:=∃v,e=.returned v/\Ok .i32 21 w' B v ys/\Grw w w' x v
def z1Q(w0:World)(p:Nat)(c:Int)(ys:List Int):Prop:=∀(x:Value) (xs:List Int) (w:World),Ok .i32 21 w w0.heap.size x xs->Below w0.heap.size w0 w->xs.length+ys.length<=1000000000->Calls prog 254 #[.pointer (some ⟨p,0,none⟩),x,.int .i32 c] w (AppB w w0.heap.size x (xs++ys))
theorem Sk.one9(w:World) c(I:-2147483648<=c/\c<=2147483647):Sk .i32 (w.alloc (.cells #[.int .i32 c] 21)) (.slice (some ⟨w.heap.size,0,none⟩) 1 1) [c]:=(x9L w w.heap.size (l0r _) c I).sk
theorem y9s:(prog.info? 21).map (fun i=>(i.zero,i.size,i.bytes))=some (some (.int .i32 0),1,4):=f4x
section
variable {B p:Nat} {rs:List Rec} {w0:World}
theorem y0Q(H:Glob w0)(F:x0n w0 B p rs)(G:(Cn.check rs).2=0) c(hc:Rune c)(ho:Cn.opn rs c=[]):z1Q w0 p c [c]:=by
 intro x D w hx f hl;have K1:=O (y1o c w (H.on f) (F.below f) G hc);rw[ho]at K1;obtain⟨i,hi,q,am,U⟩:=info_parts y9s;have m:=f.size;have S:=O hx;obtain⟨o,Y,v,_,_⟩:=hx.sk.shape;subst v;obtain⟨ab,t⟩:=hc;simp only[List.length_singleton]at hl;go_enter func254,ntmps254;go_wp2_with fail;refine(V K1).mono ?_;rintro P w1 ⟨b,rfl,M,b1⟩;obtain⟨J,aq,g,_,_⟩:=M.sk.shape;simp only[List.length_nil]at g;subst g;have N:=b1.size;have ae:Ok .i32 21 (w1.alloc (.cells #[.int .i32 c] 21)) w0.heap.size (.slice o D.length Y) D:=((V S).below b1).below ((b0r).alloc (l0r _) _);have Q:(w1.alloc (.cells #[.int .i32 c] 21)).ownsRow w0.heap.size 21 1 (.slice o D.length Y) D.length (D.map (Value.int .i32)):=(by simpa using ae.row);have L:=(Sk.one9 w1 c ⟨ab,t⟩).place M7O
 have y:∀j u,[Value.int .i32 c][j]?=some u->(w1.alloc (.cells #[.int .i32 c] 21)).cell? ((⟨w1.heap.size,0,none⟩:Addr).add j)=some u:=by
  intro j u hj;obtain⟨K,Z,cq,s,_,_,X⟩:=L;simp only[Value.slice.injEq,Option.some.injEq,Addr.mk.injEq]at s;obtain⟨⟨rfl,rfl,_⟩,_,_⟩:=s
  cases j with
  | zero=>simp at hj;subst hj;rw[addr_add];exact X 0 M7O
  | succ j=>simp at hj
 have C:=O Q;have E:=O y;have l:=O ((V S).1);have R:=O b1;have aj:(w1.alloc (.cells #[.int .i32 c] 21)).heap.size=w1.heap.size+1:=M7O;have A:=O aj;go_wp2_with(at_builtin;refine wpList_append_own_at _ rfl (.tmp 16) (.tmp 18) 36 rfl w0.heap.size 21 i (.int .i32 0) 1 4 underlying36 hi q am U rfl e8P _ _ _ rfl (V C) ⟨w1.heap.size,0,none⟩ 1 1 [.int .i32 c] rfl rfl (V E) (fun u d=>by rw[List.mem_singleton]at d;subst d;rfl) T7X f6J (by rw[V A];exact f6J) ?_);intro a w2 r I _ W
 have hF:AppB w w0.heap.size (.slice o D.length Y) (D++[c]) (.returned a) w2:=by
  refine⟨a,rfl,Ok.of (n:=D.length+1) (us:=D.map (Value.int .i32)++[.int .i32 c]) ?_ P8P r M7O M7O,?_⟩
  ·intro z hz;rcases List.mem_append.1 hz with hz | hz
   ·exact V l z hz
   ·rw[List.mem_singleton]at hz;subst hz;exact x0O ⟨ab,t⟩
  ·refine Grw.after (w1:=w1.alloc (.cells #[.int .i32 c] 21)) ((V R).alloc N _) ⟨I,fun k G=>?_⟩;rcases W with e | e
   ·exact .inl (e ▸ G)
   ·grind
 have T:=O hF;go_wp2;go_ret;exact V T
end
namespace Cn
theorem z3M{rs}(h:(check rs).2=0){c d}(hd:d∈opn rs c):Rune d:=by
 unfold opn at hd;unfold Rune;split at hd
 ·next L =>
  unfold syl at L;have L:=o0d L;split at hd
  ·grind
  ·simp only[List.mem_cons,List.mem_nil_iff,or_false]at hd;rcases hd with rfl | rfl<;>omega
 ·cases he:hit rs 3 c with
  | none=>rw[he]at hd;simp at hd
  | some r =>
   rw[he]at hd;have hd:d∈r.to:=hd;have q:=(x1f.1 h).1;obtain⟨a,A,K⟩:=(x1M q e8M r).1 he;have X:=(x0k.1 q).2.1 r a
   have C:scalar d=true:=by
    rcases fam_three A with e | e
    ·exact(x0x (x0E X e).2.2).2 d hd
    ·exact(x0x (x2x X e).2.2).2 d hd
   have:=x2X C;omega
theorem y0O(E:List (List Int)){k}(G:k<E.length):(E.take (k+1)).flatten=(E.take k).flatten++E.getD k []:=by
 rw[List.take_add_one,List.flatten_append,List.getElem?_eq_getElem G];exact w7Y
theorem z6L(E:List (List Int)){k}(G:k<E.length):((E.take k).flatten).length+(E.getD k []).length<=E.flatten.length:=by
 have Z:=congrArg List.length (y0O E G);rw[List.length_append]at Z;have D:E.flatten=(E.take (k+1)).flatten++(E.drop (k+1)).flatten:=(by rw[<- List.flatten_append,List.take_append_drop]);have J:=congrArg List.length D;rw[List.length_append]at J;omega
end Cn
section
variable {B p:Nat} {rs:List Rec} {w0:World}
theorem y8T(hg:Glob w0)(hD:x0n w0 B p rs)(hk:(Cn.check rs).2=0) c(hc:Rune c)(E:List (List Int))(ho:Cn.opn rs c≠[])(u:E.length=(Cn.opn rs c).length)(ih:∀i,i<(Cn.opn rs c).length->z1Q w0 p ((Cn.opn rs c).getD i 0) (E.getD i [])):z1Q w0 p c E.flatten:=by
 intro x xs w hx f hl;have l:=O (y1o c w (hg.on f) (hD.below f) hk hc);have aC:=Cn.z7C hk c;have m:=f.size;have S:=O hx;have a:=O f;have r:=O ih;have G:=fun k (h:k<E.length)=>O (Cn.z6L E h);have b:=fun k (h:k<E.length)=>O (Cn.y0O E h);have X:0<(Cn.opn rs c).length:=List.length_pos_iff.2 ho;obtain⟨xo,Y,v,_,_⟩:=hx.sk.shape;have aj:Hid (∀k,x.ownBlock=some k->w0.heap.size<=k/\k<w.heap.size):=fun k h=>hx.row.lt k h;obtain⟨z,t⟩:=hc;generalize Cn.opn rs c=n at *;subst v;have A:=O u;go_enter func254,ntmps254;go_wp2_with fail;refine(V l).mono ?_;rintro e1 w1 ⟨v1,rfl,M,b1⟩;obtain⟨Z,vo,J,am,N,aB,ae⟩:=M.sk.place X
 have aI:w.heap.size<=Z:=by
  have:=(M.row.lt Z (by rw[am];rfl)).1;exact this
 subst am;have aH:=b1.size;have R:=O b1;have K:=O ae;have C:=O M.1;have aw:=(V S).below b1;have P:=O aw;have aA:((n.length:Int)==0)=false:=(by grind);go_wp2;go_loopw[1,9,22] (fun xv _ Q wr=>∃k:Nat,Q=.int .i64 k/\k<=n.length/\Ok .i32 21 wr w0.heap.size xv (xs++(E.take k).flatten)/\Grw w1 wr (.slice xo xs.length Y) xv) (fun _ _ Q _=>n.length-(intOf Q).toNat)
 case atStart=>exact⟨0,rfl,f6J,by simpa using V P,Grw.refl _ _⟩
 case round =>
  obtain⟨k,rfl,aF,o,F⟩:=hrel;have L:=O o;have U:=O F;by_cases ab:k<n.length
  ·have y:wr.cell? ⟨Z,vo+k,none⟩=some (.int .i32 (n.getD k 0)):=by
    have h3:=V K k ab;refine F.g.cell h3 (fun e=>?_);have:=V aj Z e.symm;omega
   have aG:Rune (n.getD k 0):=by
    have:=V C (n.getD k 0) (by simp[List.getD,ab]);exact⟨this.1,this.2⟩
   have ay:Bw w0 wr:=((V a).trans ((V R).mono m)).grown F.g f6J (fun j hj=>(V aj j hj).1);have aD:=V (G k (by rw[V A];exact ab));have KR:=O (V r k ab u1 (xs++(E.take k).flatten) wr o ay u7D);have aq:=O (V (b k (by rw[V A];exact ab)))
   obtain⟨I,D,W,q⟩:∃I D W,u1=.slice I D W:=E0L
   subst q;generalize n.getD k 0=d at *;go_wp2_with fail;refine(V KR).mono ?_;rintro e3 w3 ⟨v3,rfl,s,g3⟩;rw[List.append_assoc,<- V aq]at s;have ar:=O s;have H:=O ((V U).trans g3);go_wp2
   go_roundw
   case rel=>exact⟨k+1,g2A,f6J,V ar,V H⟩
   case measure=>exact g7T
  ·obtain rfl:k=n.length:=f6J;rw[<- V A,List.take_length]at L;have T:Hid (AppB w w0.heap.size (.slice xo xs.length Y) (xs++E.flatten) (.returned u1) wr):=⟨u1,rfl,V L,(V U).after (V R)⟩
   obtain⟨I,D,W,q⟩:∃I D W,u1=.slice I D W:=E0L
   subst q;exact v8n
theorem x8p(H:Glob w0)(F:x0n w0 B p rs)(G:(Cn.check rs).2=0):∀(n:Nat) {c:Int} {ys:List Int},Cn.Tree rs n c ys->Rune c->z1Q w0 p c ys
 | 0,c,_,⟨R,e⟩,hc=>by rw[e];exact y0Q H F G c hc R
 | n+1,c,ys,ht,hc=>by
  rcases ht with⟨R,rfl⟩ | ⟨R,E,S,h,rfl⟩
  ·exact y0Q H F G c hc R
  ·exact y8T H F G c hc E R S (fun i hi=>x8p H F G n (h i hi) (Cn.z3M G (c:=c) n7A))
theorem y8S c w(H:Glob w)(F:x0n w B p rs)(G:(Cn.check rs).2=0)(I:Rune c):Calls prog 209 #[.pointer (some ⟨p,0,none⟩),.int .i32 c] w (x0h w (Cn.full rs c).1):=by
 have C:=(Cn.leaves G c).2.2.1;have K:=O (x8p H F G 16 (Cn.y8U G c) I (.slice none 0 0) [] w (Ok.nil _ _ _ _) (b0r) P8P);rw[List.nil_append]at K;obtain⟨z,t⟩:=I;generalize(Cn.full rs c).1=m at *;go_enter func209,ntmps209;go_wp2_with fail;refine(V K).mono ?_;rintro P Q ⟨b,rfl,M,a⟩;have T:Hid (x0h w m (.returned b) Q):=⟨b,rfl,M,(Below.refl w.heap.size w).grown a.g (l0r _) (fun k G=>g6D)⟩;exact v8m
end
open Ti
namespace Cn
theorem x3Y{rs}(q:(check6 rs).2=0) c:0<=cls rs c/\cls rs c<=254:=by
 unfold cls
 cases he:hit rs 2 c with
 | none=>simp
 | some r =>
  obtain⟨a,A,K⟩:=(x1M q e8N r).1 he;have G:=(y9C A).2.1 rfl;exact y1C ((x0k.1 q).2.1 r a) f6J f6J
end Cn
namespace Cn
def openAll(rs:List Rec)(xs:List Int):List Int:=(xs.map fun c=>(full rs c).1).flatten
theorem y1n rs(xs:List Int){k}(G:k<xs.length):openAll rs (xs.take (k+1))=openAll rs (xs.take k)++(full rs (xs.getD k 0)).1:=by
 unfold openAll;rw[List.take_add_one,List.map_append,List.flatten_append,List.getElem?_eq_getElem G];exact w7Y
theorem x3F{rs}(h:(check rs).2=0) xs:(openAll rs xs).length<=32*xs.length:=by
 unfold openAll
 induction xs with
 | nil=>simp
 | cons c xs ih =>
  have:=(leaves h c).2.2.1;simp only[List.map_cons,List.flatten_cons,List.length_append,List.length_cons];omega
end Cn
theorem y6a(n:Nat) w B(m:B<=w.heap.size)(F:n<=70000):∃W,(Instr.makeSlice 36 (.int .i64 0) (.int .i64 (n:Int))).run prog w=.ok (.slice (some ⟨w.heap.size,0,none⟩) 0 n) W/\Ok .i32 21 W B (.slice (some ⟨w.heap.size,0,none⟩) 0 n) []/\w.grownBy W none:=by
 obtain⟨i,hi,q,Y,U⟩:=info_parts y9s;exact s4b
theorem y1p{B p rs} v xs w(hg:Glob w)(hD:x0n w B p rs)(G:(Cn.check rs).2=0)(hx:Sk .i32 w v xs)(aQ:xs.length<=65536):Calls prog 159 #[.pointer (some ⟨p,0,none⟩),v] w (x0h w (Cn.openAll rs xs)):=by
 obtain⟨i0,hi,aG,aH,U⟩:=info_parts y9s;have S:=O hx;obtain⟨vo,vc,g,aO,aP⟩:=hx.shape;subst g;have T:Hid (∀c W,Rune c->Bw w W->Calls prog 209 #[.pointer (some ⟨p,0,none⟩),.int .i32 c] W (x0h W (Cn.full rs c).1)):=fun c W hc hW=>y8S c W (hg.on hW) (hD.below hW) G hc;have b:=fun k (h:k<xs.length)=>O (Cn.y1n rs xs h);have aw:=fun k=>O (Cn.x3F G (xs.take k));have am:=fun c=>O (Cn.leaves G c).2.2.1;have H:=fun c=>O (Cn.leaves G c).2.1;obtain⟨W0,aM,i,g0⟩:=y6a xs.length w w.heap.size (l0r _) f6J;have f:Bw w W0:=(b0r).grown g0 (l0r _) (fun k G=>by cases G);have a:=O f;have aA:=O i;have D:Hid (Cn.openAll rs (xs.take xs.length)=Cn.openAll rs xs):=(by grind);go_enter func159,ntmps159;go_wp2;go_loopw[5,6,12] (fun yy _ ii wr=>∃k:Nat,ii=.int .i64 k/\k<=xs.length/\Ok .i32 21 wr w.heap.size yy (Cn.openAll rs (xs.take k))/\Bw w wr) (fun _ _ ii _=>xs.length-(intOf ii).toNat)
 case atStart=>exact⟨0,rfl,f6J,V aA,V a⟩
 case round =>
  obtain⟨k,rfl,aL,o,Y⟩:=hrel;by_cases E:k<xs.length
  ·obtain⟨bx,ox,aI,F,_,_,s⟩:=(V S).place f6J;simp only[Value.slice.injEq]at F;obtain⟨rfl,h9,rfl⟩:=F
   have y:wr.cell? ⟨bx,ox+k,none⟩=some (.int .i32 (xs.getD k 0)):=by
    have h3:=s k E;rw[Y.cell (x0a h3)];exact h3
   have aF:Rune (xs.getD k 0):=by
    have:=(V S).1 (xs.getD k 0) (by simp[List.getD,E]);exact⟨this.1,this.2⟩
   have P:=O (V T (xs.getD k 0) wr aF Y);have ay:=O (V (b k E));have q:=V (aw k);rw[List.length_take]at q;have aK:=V (am (xs.getD k 0));have l:=V (H (xs.getD k 0));have aJ:=Y.size;have x:=O Y;have L:=O o;obtain⟨J,I,m,_,_⟩:=o.sk.shape;subst m;generalize hzs:Cn.openAll rs (xs.take k)=zs,hfs:(Cn.full rs (xs.getD k 0)).1=N at *;generalize xs.getD k 0=c at *;have aR:zs.length<=2097152:=f6J;go_wp2_with fail;refine(V P).mono ?_;rintro e1 w1 ⟨v1,rfl,M,b1⟩;obtain⟨fb,fo,fc,aC,_,_,aB⟩:=M.sk.place l;subst aC
   have X:∀j u,(N.map (Value.int .i32))[j]?=some u->w1.cell? ((⟨fb,fo,none⟩:Addr).add j)=some u:=by
    intro j u d;obtain⟨R,d⟩:=List.getElem?_eq_some_iff.1 d;rw[List.length_map]at R;rw[addr_add,aB j R,<- d];simp[List.getD,R]
   have Q:w1.ownsRow w.heap.size 21 1 (.slice J zs.length I) zs.length (zs.map (Value.int .i32)):=by
    have:=((V L).below b1).row;simpa using this
   have aN:=b1.size;have C:=O Q;have A:=O X;have ar:=O (V L).1;have aj:=O M.1;have ab:=O (bthen (V x) b1);go_wp2_with(at_builtin;refine wpList_append_own _ rfl (.tmp 15) (.tmp 21) 36 rfl w.heap.size 21 i0 (.int .i32 0) 1 4 underlying36 hi aG aH U rfl e8R _ _ _ rfl (V C) ⟨fb,fo,none⟩ N.length fc (N.map (Value.int .i32)) rfl M7P (V A) (fun u d=>p8L) T7X f6J f6J ?_);intro v2 w2 r aD _
   have K:Ok .i32 21 w2 w.heap.size v2 (zs++N):=by
    refine Ok.of (n:=zs.length+N.length) (us:=zs.map (Value.int .i32)++N.map (Value.int .i32)) (fun z hz=>?_) P8P r M7P M7P;rcases List.mem_append.1 hz with hz | hz
    ·exact V ar z hz
    ·exact V aj z hz
   have t:Bw w w2:=(V ab).grown aD f6J (fun j R=>((V C).lt j R).1);have Z:=O K;have ae:=O t;go_wp2
   go_roundw
   case rel=>exact⟨k+1,g2C,f6J,by rw[V ay];exact V Z,V ae⟩
   case measure=>exact g7W
  ·obtain rfl:k=xs.length:=f6J;rw[V D]at o;have aq:Hid (x0h w (Cn.openAll rs xs) (.returned u5) wr):=⟨u5,rfl,o,Y⟩
   obtain⟨J,yl,I,m⟩:∃J yl I,u5=.slice J yl I:=by
    obtain⟨J,I,e,_,_⟩:=o.sk.shape;exact⟨J,_,I,e⟩
   subst m;go_wp2;go_ret;exact V aq
def refN(ns:List Nat):Int:=if ns.any (fun n=>decide (65536<n))then 2 else 0
theorem z0N{A:List Nat}{k}(G:k<A.length):refN (A.drop k)=if 65536<A.getD k 0 then 2 else refN (A.drop (k+1)):=by
 rw[List.drop_eq_getElem_cons G];unfold refN;rw[List.any_cons];have:A.getD k 0=A[k]:=w7Y;rw[this];by_cases h:65536<A[k]
 ·grind
 ·grind
theorem x9U p g n ns w(F:ns.length=n)(S:n<=10)(I:∀i,i<n->∃ao cap,w.cell? ⟨g,i,none⟩=some (.slice ao (ns.getD i 0) cap)/\cap<=9223372036854775807/\ns.getD i 0<=cap):Calls prog 111 #[.pointer (some ⟨p,0,none⟩),.slice (some ⟨g,0,none⟩) n n] w fun e w'=>e=.returned (.int .i64 (refN ns))/\w'=w:=by
 have H:=O I;have Z:Hid (∀k,k<n->refN (ns.drop k)=if 65536<ns.getD k 0 then 2 else refN (ns.drop (k+1))):=fun k G=>z0N f6J;obtain⟨U,x⟩:∃r,refN ns=r:=⟨_,rfl⟩;rw[x];have R:Hid (refN (ns.drop 0)=U):=(by grind);have D:Hid (refN (ns.drop n)=0):=(by show _=_;rw[<- F,List.drop_length];rfl);go_enter func111,ntmps111;go_wp2;go_loopw[6,11] (fun _ Q wr=>wr=w/\∃k:Nat,Q=.int .i64 k/\k<=n/\refN (ns.drop k)=U) (fun _ Q _=>n-(intOf Q).toNat)
 case atStart=>exact⟨rfl,0,rfl,f6J,V R⟩
 case round =>
  obtain⟨rfl,k,rfl,G,L⟩:=hrel;by_cases E:k<n
  ·have b:=V Z k E;rw[L]at b;obtain⟨ao,cap,y,z,t⟩:=V H k E;have C:=O b;generalize ns.getD k 0=m at *;by_cases o:65536<m
   ·have L:=V C;rw[if_pos o]at L;subst L;go_wp2;go_ret;exact⟨rfl,rfl⟩
   ·have L:=V C;rw[if_neg o]at L;have P:=O L;go_wp2
    go_roundw
    case rel=>exact⟨f5X,k+1,g2A,f6J,(V P).symm⟩
    case measure=>exact g7T
  ·obtain rfl:k=n:=f6J;rw[V D]at L;subst L;go_wp2;go_ret;exact⟨rfl,rfl⟩
def SeqE(w:World)(zs:List Int)(er:Int)(e:Ending)(w':World):Prop:=∃v,e=.returned (.tuple #[v,.int .i64 er])/\Ok .i32 21 w' w.heap.size v zs/\Below w.heap.size w w'
theorem one_cell(w:World) ao n cap ty:(w.alloc (.cells #[.slice ao n cap] ty)).cell? ⟨w.heap.size,0,none⟩=some (.slice ao n cap):=f0h
namespace Cn
end Cn
namespace Cn
end Cn
open Ti
namespace Cn
def looks(rs:List Rec)(c:Int):List Int:=if(rget rs 8 c).to=[]then[c]else(rget rs 8 c).to
section
variable {rs:List Rec} {c:Int}
end
end Cn
open Ti
namespace Cn
end Cn
open Ti
namespace Cn
end Cn
namespace Cn
end Cn
open Ti
open Ti
