/- Lemmas. -/
import Derived.Test.YtkfcabdmkmljjaaGreatDoorG21
import Derived.Deep.RegionHeld
import Derived.Laws.AppendOwnNone
import Derived.Maps.AppendAt
import Derived.Laws.MakeOwn
import Derived.Deep.CutBlock
import Derived.Deep.DeepCutAuto
set_option maxHeartbeats 4000000
set_option maxRecDepth 8000
namespace Go.Proofs.YtkfcabdmkmljjaaGreatDoor
open Go.Proofs.Tryz
open Go.RowKit
open Ti
section
variable{p:Prop}
theorem W0Y(h:p:=by unfold I64;exact e8M):p:=h
theorem s1y(h:p:=by exact absurd (Prod.mk.inj h).2 e8M):p:=h
theorem n2t(h:p:=by go_enter func256,ntmps256;exact t6u):p:=h
theorem t6E(h:p:=by(intro w hSw;obtain⟨⟨s0,A⟩,⟨d,u,x2,x3,x4,s,x6,D⟩⟩:=hSw;go_simp)):p:=h
theorem r8A(h:p:=by go_enter func163,ntmps163;go_wp2_with fail;refine(V K).mono ?_;rintro e G ⟨rfl,rfl⟩;clear K;go_wp2;go_ret2;exact g9T):p:=h
theorem T0g(h:p:=by rintro e w ⟨rfl,rfl⟩;go_wp2_with fail;refine(V S _).mono ?_;rintro e w ⟨rfl,rfl⟩;go_wp2_with fail;refine(V k _).mono ?_;rintro e w ⟨rfl,rfl⟩;go_wp2;go_ret2;exact⟨by first| rfl | simp,rfl⟩):p:=h
theorem S7j(h:p:=by go_enter func257,ntmps257;go_wp2_with fail;refine(V q).mono ?_;rintro e w ⟨rfl,rfl⟩;exact t6v):p:=h
theorem r8O(h:p:=by exact⟨fun e=>by rw[e]at this;simp at this,f6J⟩):p:=h
theorem f1Z(h:p:=by(intro w hSw;go_simp;first| done|(rw[IntKind.wrap_i32];omega)|(unfold wrap32;omega) | omega)):p:=h
theorem s2A(h:p:=by rintro e w ⟨rfl,rfl⟩;go_wp2_with fail;refine(V S _).mono ?_;rintro e w ⟨rfl,rfl⟩;go_wp2_with fail;refine(V k _).mono ?_;rintro e w ⟨rfl,rfl⟩;go_wp2;go_ret2;exact g9T):p:=h
theorem W2a(h:p:=by go_wp2_with fail;refine(V K2).mono ?_;rintro N w3 ⟨A,rfl,z,G⟩;have U:Hid (x0h w zs (.returned A) w3):=⟨A,rfl,z.lower (V L).size,bthen (V L) G⟩;exact s1g):p:=h
theorem T6J(h:p:=by rintro e w ⟨rfl,rfl⟩;go_wp2_with fail;refine(V S _).mono ?_;rintro e w ⟨rfl,rfl⟩;go_wp2;go_ret2;exact g9T):p:=h
theorem w3c(h:p:=by obtain⟨s,Y,b,_,_⟩:=l.sk.shape;exact⟨s,_,Y,b⟩):p:=h
end
theorem x6x(w:World)(o:Obj):(w.alloc o).heap.size=w.heap.size+1:=Array.size_push ..
structure RecC(w:World)(g off:Nat)(r:Rec)(ao:Option Addr)(ln cp:Nat):Prop where
 x0:w.cell? ⟨g,off,none⟩=some (.int .i64 r.kind)
 x1:w.cell? ⟨g,off+1,none⟩=some (.int .i64 r.lo)
 x2:w.cell? ⟨g,off+2,none⟩=some (.int .i64 r.hi)
 x3:w.cell? ⟨g,off+3,none⟩=some (.int .i64 r.n)
 x4:w.cell? ⟨g,off+4,none⟩=some (.slice ao ln cp)
 x5:w.cell? ⟨g,off+5,none⟩=some (.string r.name)
 x6:w.cell? ⟨g,off+6,none⟩=some (.string r.other)
 x7:w.cell? ⟨g,off+7,none⟩=some (.float .f64 r.wt)
theorem RecC.keep{w w':World}{g off:Nat}{r:Rec}{ao:Option Addr}{C cp:Nat}(h:RecC w g off r ao C cp)(G:w'.heap[g]?=w.heap[g]?):RecC w' g off r ao C cp:=by
 have I:∀j,w'.cell? ⟨g,j,none⟩=w.cell? ⟨g,j,none⟩:=fun j=>(by simp only[World.cell?,G]);exact⟨by rw[I];exact h.x0,by rw[I];exact h.x1,by rw[I];exact h.x2,by rw[I];exact h.x3,by rw[I];exact h.x4,by rw[I];exact h.x5,by rw[I];exact h.x6,by rw[I];exact h.x7⟩
def OfP(w:World)(B:Nat)(r:Rec)(e:Ending)(w':World):Prop:=∃vt,e=.returned (recV r vt)/\Ok .i32 21 w B vt r.to/\Below w.heap.size w w'
theorem z5A{t l:Value}{rs:List Rec}{f:Int}{B:Nat}(c:Int)(w:World)(hS:SpP w B t l (Cn.famOf f rs))(q:(Cn.check6 rs).2=0)(hf:f≠10/\f≠0)(hc:Rune c):Calls prog 258 #[.agg #[t,l],.int .i32 c] w (OfP w B (Cn.rget rs f c)):=by
 obtain⟨aC,aD⟩:=hc;obtain⟨⟨a,m,e,hp,hs,t4⟩,R,Q,H⟩:=hS;subst e;have hv:=(Cn.x8L q hf hp hs).2 c;obtain⟨k,hk⟩:∃k:Nat,Tri.get 0 m c=(k:Int):=⟨(Tri.get 0 m c).toNat,f6J⟩;have aq:R.length=(Cn.famOf f rs).length+1:=(by have:=congrArg List.length H;exact W2P);have ae:k<R.length:=f6J;have az:(Cn.famOf f rs).length<=4096:=Nat.le_trans (List.length_filter_le _ _) (Cn.x0k.1 q).1
 have am:R[k].1=Cn.rget rs f c:=by
  have h2:=hv.2.2;rw[hk,Int.toNat_natCast,<- H]at h2;have h3:(R.map (·.1)).getD k Cn.none=R[k].1:=(by simp[List.getD,ae]);rw[<- h3];exact h2
 obtain⟨g,M,E⟩:∃g M,l=.slice (some ⟨g,0,none⟩) R.length M:=by
  rcases Q.1.2 with⟨_,h0⟩ | ⟨g,M,aB,e,_⟩
  ·omega
  ·exact⟨g,M,e⟩
 subst E;obtain⟨r,J,C,U,hq,d,u,x2,x3,x4,s,x6,D,_⟩:=Q.cells8 ae;have af:RecC w g (k*8) r J C U:=⟨d,u,x2,x3,x4,s,x6,D⟩;have aw:r=Cn.rget rs f c:=(by rw[<- am,hq]);rw[<- aw];have ar:Ok .i32 21 w B (.slice J C U) r.to:=(by have:=Q.2 R[k] (List.getElem_mem ae);rw[hq]at this;exact this);have X:=O ar;have aj:g<w.heap.size:=x0a d
 have KG:Hid (∀W,Bw w W->Calls prog 38 #[.pointer (some a),.int .i64 c] W (x1o W (k:Int))):=fun W P=>by
  have:=get4 _ m 0 c W ⟨B,t4.below P⟩ ⟨f6J,f6J⟩;rw[hk]at this;exact this
 have aF:R.length<=5000:=f6J;clear hv hk aq am H Q hq d u x2 x3 x4 s x6 D ar hp hs t4 q aw az;generalize R.length=pl at *;obtain⟨W0,T⟩:∃W0,(w.alloc (.cells #[.pointer (some a),.slice (some ⟨g,0,none⟩) pl M] 88)).alloc (.cells #[.int .i64 0,.int .i64 0,.int .i64 0,.int .i64 0,.slice none 0 0,.string ⟨#[]⟩,.string ⟨#[]⟩,.float .f64 0] 60)=W0:=⟨_,rfl⟩;have aA:=x6x w (.cells #[.pointer (some a),.slice (some ⟨g,0,none⟩) pl M] 88);have ag:=(Below.refl w.heap.size w).alloc (l0r _) (.cells #[.pointer (some a),.slice (some ⟨g,0,none⟩) pl M] 88);have N:=heap_alloc_new w (.cells #[.pointer (some a),.slice (some ⟨g,0,none⟩) pl M] 88)
 have ab:Bw w W0:=by
  rw[<- T];exact ag.alloc f6J _
 have y:W0.heap[w.heap.size+1]?=some (.cells #[.int .i64 0,.int .i64 0,.int .i64 0,.int .i64 0,.slice none 0 0,.string ⟨#[]⟩,.string ⟨#[]⟩,.float .f64 0] 60 (0,0)):=by
  rw[<- T,<- aA];exact heap_alloc_new _ _
 have ay:W0.heap[w.heap.size]?=some (.cells #[.pointer (some a),.slice (some ⟨g,0,none⟩) pl M] 88 (0,0)):=by
  rw[<- T,heap_alloc_old _ _ f6J];exact N
 have aG:W0.heap.size=w.heap.size+2:=by rw[<- T,x6x];exact f6J
 have HS:Hid (∀W,Bw W0 W->(W.cell? ⟨w.heap.size,0,none⟩=some (.pointer (some a))/\W.cell? ⟨w.heap.size,1,none⟩=some (.slice (some ⟨g,0,none⟩) pl M))/\RecC W g (k*8) r J C U):=fun W P=>by
  have e1:=P.block w.heap.size f6J;rw[ay]at e1;exact⟨⟨cell_of (j:=0) e1 n5Z,cell_of (j:=1) e1 w2h⟩,af.keep (by rw[P.block g f6J,ab.block g aj])⟩
 have HZ:Hid (∀W,Bw W0 W->W.heap[w.heap.size+1]?=some (.cells #[.int .i64 0,.int .i64 0,.int .i64 0,.int .i64 0,.slice none 0 0,.string ⟨#[]⟩,.string ⟨#[]⟩,.float .f64 0] 60 (0,0))):=fun W P=>by
  rw[P.block _ f6J];exact y
 have x:=O ab;have L:=O aj;clear ag N y ay af ab;go_enter func258,ntmps258;go_wp2;refine wp_region_held_drew (S:=fun o=>((o.cell? ⟨w.heap.size,0,none⟩=some (.pointer (some a))/\o.cell? ⟨w.heap.size,1,none⟩=some (.slice (some ⟨g,0,none⟩) pl M))/\RecC o g (k*8) r J C U)) f4y (V HS _ (x0i ⟨1,rfl⟩)) (fun hHeld=>?_);refine tk9 0 (.pointer (some ⟨w.heap.size,1,none⟩)) ?_ (hy:=t6E);refine tk9 1 (.slice (some ⟨g,0,none⟩) pl M) ?_ (hy:=t6E);refine tk9 2 (.pointer (some ⟨w.heap.size,0,none⟩)) ?_ (hy:=t6E);refine tk9 3 (.pointer (some a)) ?_ (hy:=t6E);refine tk9 4 (.int .i32 c) ?_ (hy:=t6E);refine tk9 5 (.int .i64 c) ?_ (hy:=by(intro w hSw;obtain⟨⟨s0,A⟩,⟨d,u,x2,x3,x4,s,x6,D⟩⟩:=hSw;go_simp;rw[IntKind.wrap_i64];omega));refine rd9 6 fun K hK=>?_;go_simp;refine(V KG _ (bthen (V x) (x0i ⟨1,rfl⟩))).mono ?_;rintro e2 w2 ⟨rfl,mm,rfl⟩;have i:=O (bthen (x0i ⟨1,rfl⟩) (x0i ⟨mm,rfl⟩):Bw W0 _);refine hK.out _ _ ?_ (fun hHeld=>?_)
 ·exact V HS _ (V i)
 clear hK K
 try simp only[Act.put,sa9,sb9,sc9]
 refine tk9 7 (.pointer (some ⟨g,k*8,none⟩)) ?_ (hy:=t6E);refine tk9 8 (recV r (.slice J C U)) ?_ (hy:=by(intro w hSw;obtain⟨⟨s0,A⟩,⟨d,u,x2,x3,x4,s,x6,D⟩⟩:=hSw;first| exact loadR d u x2 x3 x4 s x6 D|(unfold recV;go_simp)));refine rd9 9 fun K hK=>?_;generalize((W0.drewN 1).drewN mm)=F at *;have G:=V HZ _ (V i);have I:=V HS _ (V i);have s9:=q1k (off:=0) G (by show 0+8<=8;exact f6J) r J C U;have hV:=z0K (off:=0) G (r,.slice J C U);have Y:∀b,b≠w.heap.size+1->(putR F (w.heap.size+1) 0 (r,.slice J C U)).heap[b]?=F.heap[b]?:=fun b hb=>y0b _ hb;have n:Bw w (putR F (w.heap.size+1) 0 (r,.slice J C U)):=x8M (bthen (V x) (V i)) f6J _;generalize putR F (w.heap.size+1) 0 (r,.slice J C U)=V3 at *;refine x7C rfl 60 (.tmp 4) (.tmp 13) rfl (.pointer (some ⟨w.heap.size+1,0,none⟩)) (recV r (.slice J C U)) rfl rfl s9 ?_;refine hK.out _ _ ?_ (fun hHeld=>?_)
 ·obtain⟨⟨q0,q1⟩,q2⟩:=I;have hc:∀j,V3.cell? ⟨w.heap.size,j,none⟩=F.cell? ⟨w.heap.size,j,none⟩:=fun j=>(by simp only[World.cell?,Y w.heap.size f6J]);exact⟨⟨by rw[hc];exact q0,by rw[hc];exact q1⟩,q2.keep (Y g (by have:=V L;exact f6J))⟩
 clear hK K
 try simp only[Act.put]
 refine wpAnyH_done f4y ?_ _
 have z:RecC V3 (w.heap.size+1) 0 r J C U:=by
  have Z:∀j,j<8->V3.cell? ⟨w.heap.size+1,j,none⟩=(x0A (r,.slice J C U))[j]?:=fun j hj=>by
   have e:=z1l #[.int .i64 0,.int .i64 0,.int .i64 0,.int .i64 0,.slice none 0 0,.string ⟨#[]⟩,.string ⟨#[]⟩,.float .f64 0] 0 (r,.slice J C U) (by show 0+8<=8;exact f6J) j;rw[if_pos f6J,Nat.sub_zero]at e;rw[<- e];simp[World.cell?,hV]
  exact⟨Z 0 f6J,Z 1 f6J,Z 2 f6J,Z 3 f6J,Z 4 f6J,Z 5 f6J,Z 6 f6J,Z 7 f6J⟩
 obtain⟨z0,z1,z2,z3,z4,z5,z6,z7⟩:=z;have ai:OfP w B r (.returned (recV r (.slice J C U))) V3:=⟨_,rfl,V X,n⟩;clear hV Y n G s9 I hHeld HZ HS;go_wp2;refine bodyPost_ret (v:=recV r (.slice J C U)) (by simp[results,Tryz.results258,go_sem,z0,z1,z2,z3,z4,z5,z6,z7,recV]) rfl ai
namespace Cn
def within(c a b:Int):Bool:=decide (a<=c/\c<=b)
def bare2(c:Int):Bool:=syl c&&decide ((c-44032)%28=0)
def sylOf(a b:Int):Int×Bool :=
 if(jl a&&jv b)=true then(44032+((a-4352)*21+b-4449)*28,true)else if(bare2 a&&jt b)=true then(a+b-4520+1,true)else(0,false)
end Cn
theorem x2x c a b w:Calls prog 256 #[.int .i32 c,.int .i32 a,.int .i32 b] w fun e w'=>e=.returned (.bool (Cn.within c a b))/\w'=w:=by
 unfold Cn.within;by_cases Z:a<=c
 ·by_cases D:c<=b
  ·rw[d0t ⟨Z,D⟩];exact n2t
  ·rw[d0f (fun h=>D h.2)];have C:decide (c<=b)=false:=d0f D;exact n2t
 ·rw[d0f (fun h=>Z h.1)];have u:decide (a<=c)=false:=d0f Z;exact n2t
theorem z1J c w:Calls prog 257 #[.int .i32 c] w fun e w'=>e=.returned (.bool (Cn.bare2 c))/\w'=w:=by
 have q:=O (x2x c 44032 55203 w);have t:Cn.within c 44032 55203=Cn.syl c:=rfl;rw[t]at q;unfold Cn.bare2;by_cases L:Cn.syl c=true
 ·have i:44032<=c/\c<=55203:=o0d L;obtain⟨g,A⟩:=i;rw[L]at q ⊢;have t:(c-44032).tmod 28=(c-44032)%28:=Int.tmod_eq_emod_of_nonneg f6J;obtain⟨U,E⟩:∃U,decide ((c-44032)%28=0)=U:=⟨_,rfl⟩;rw[E];have x:((c-44032)%28==0)=U:=f6J;exact S7j
 ·rw[Bool.not_eq_true]at L;rw[L]at q ⊢;exact S7j
theorem y0t a b w:Calls prog 212 #[.int .i32 a,.int .i32 b] w fun e w'=>e=.returned (.tuple #[.int .i32 (Cn.sylOf a b).1,.bool (Cn.sylOf a b).2])/\w'=w:=by
 have q:Hid (∀w,Calls prog 256 #[.int .i32 a,.int .i32 4352,.int .i32 4370] w fun e w'=>e=.returned (.bool (Cn.jl a))/\w'=w):=fun w=>x2x a 4352 4370 w;have g:Hid (∀w,Calls prog 256 #[.int .i32 b,.int .i32 4449,.int .i32 4469] w fun e w'=>e=.returned (.bool (Cn.jv b))/\w'=w):=fun w=>x2x b 4449 4469 w;have S:=O (fun w=>z1J a w);have k:Hid (∀w,Calls prog 256 #[.int .i32 b,.int .i32 4520,.int .i32 4546] w fun e w'=>e=.returned (.bool (Cn.jt b))/\w'=w):=fun w=>x2x b 4520 4546 w;have Z:Cn.jl a=true->4352<=a/\a<=4370:=fun h=>o0d h;have D:Cn.jv b=true->4449<=b/\b<=4469:=fun h=>o0d h
 have J:Cn.bare2 a=true->44032<=a/\a<=55203:=fun h=>by
  unfold Cn.bare2 at h;rw[Bool.and_eq_true]at h;exact o0d h.1
 have H:Cn.jt b=true->4520<=b/\b<=4546:=fun h=>o0d h;unfold Cn.sylOf;generalize Cn.jl a=q1,Cn.jv b=q2,Cn.bare2 a=q3,Cn.jt b=T at *;replace Z:=O Z;replace D:=O D;replace J:=O J;replace H:=O H;by_cases X:(q1&&q2)=true
 ·rw[if_pos X];obtain⟨rfl,rfl⟩:q1=true/\q2=true:=(by simpa using X);obtain⟨t,f⟩:=V Z rfl;obtain⟨b1,m⟩:=V D rfl;go_enter func212,ntmps212;go_wp2_with fail;refine(V q _).mono ?_;rintro e w ⟨rfl,rfl⟩;go_wp2_with fail;refine(V g _).mono ?_;rintro e w ⟨rfl,rfl⟩;go_wp2;go_ret2;exact⟨by first| rfl | simp,rfl⟩
 ·rw[if_neg X]
  cases q1 with
  | false =>
   cases q3 with
   | false =>
    rw[if_neg M7K];go_enter func212,ntmps212;go_wp2_with fail;refine(V q _).mono ?_;exact T6J
   | true =>
    cases T with
    | false =>
     rw[if_neg M7K];go_enter func212,ntmps212;go_wp2_with fail;refine(V q _).mono ?_;exact s2A
    | true =>
     rw[if_pos (show(true&&true)=true from rfl)];obtain⟨t,f⟩:=V J rfl;obtain⟨b1,m⟩:=V H rfl;go_enter func212,ntmps212;go_wp2_with fail;refine(V q _).mono ?_;exact T0g
  | true =>
   obtain rfl:q2=false:=by cases q2<;>simp_all
   cases q3 with
   | false =>
    rw[if_neg M7K];go_enter func212,ntmps212;go_wp2_with fail;refine(V q _).mono ?_;rintro e w ⟨rfl,rfl⟩;go_wp2_with fail;refine(V g _).mono ?_;exact T6J
   | true =>
    cases T with
    | false =>
     rw[if_neg M7K];go_enter func212,ntmps212;go_wp2_with fail;refine(V q _).mono ?_;rintro e w ⟨rfl,rfl⟩;go_wp2_with fail;refine(V g _).mono ?_;exact s2A
    | true =>
     rw[if_pos (show(true&&true)=true from rfl)];obtain⟨t,f⟩:=V J rfl;obtain⟨b1,m⟩:=V H rfl;go_enter func212,ntmps212;go_wp2_with fail;refine(V q _).mono ?_;rintro e w ⟨rfl,rfl⟩;go_wp2_with fail;refine(V g _).mono ?_;exact T0g
open Ti
namespace Cn
def cmp9(rs:List Rec)(a b:Int):Int×Bool:=if(sylOf a b).2=true then((sylOf a b).1,true)else((x1T rs a b).getD 0,(x1T rs a b).isSome)
def mapping(rs:List Rec)(c:Int):List Int:=if(rget rs 1 c).kind=4 then[(rget rs 1 c).to.getD 0 0+(c-(rget rs 1 c).lo)]else(rget rs 1 c).to
theorem rget_cases{rs:List Rec}(q:(check6 rs).2=0){f:Int}(o:f≠10/\f≠0)(c:Int):(hit rs f c=Option.none/\rget rs f c=none)\/(hit rs f c=some (rget rs f c)/\rget rs f c∈rs/\fam (rget rs f c).kind=f/\speaks (rget rs f c) c=true/\right (rget rs f c)=0):=by
 unfold rget
 cases he:hit rs f c with
 | none=>exact .inl ⟨rfl,rfl⟩
 | some r =>
  obtain⟨i,A,Q⟩:=(x1M q o r).1 he;exact .inr ⟨rfl,i,A,Q,(x0k.1 q).2.1 r i⟩
theorem y3v{r:Rec}(h:right r=0)(H:r.kind=4):r.to.length=1/\0<=r.to.getD 0 0/\r.to.getD 0 0<=1114111/\r.to.getD 0 0+r.hi-r.lo<=1114111:=by
 have o:=x0x h;unfold right at h;rw[if_neg o,if_neg f6J]at h;have I:=x1x h;rw[Bool.and_eq_true,if_neg f6J,if_neg f6J,if_pos H]at I;have D:=I.2;simp only[Bool.and_eq_true]at D;obtain⟨S,L⟩:=x0v D.1.2;have A:=o0d D.2;have K:r.to.length=1:=f6J
 have z:r.to.getD 0 0∈r.to:=by
  match hr:r.to,K with
  | [x],_=>simp
 have:=x2S (L _ z);exact⟨K,this.1,this.2,f6J⟩
theorem x4l{rs:List Rec}(q:(check6 rs).2=0)(c:Int)(H:(rget rs 1 c).kind=4):(rget rs 1 c).to.length=1/\0<=(rget rs 1 c).to.getD 0 0/\(rget rs 1 c).to.getD 0 0<=1114111/\0<=(rget rs 1 c).lo/\(rget rs 1 c).lo<=c/\c<=1114111/\(rget rs 1 c).to.getD 0 0+(c-(rget rs 1 c).lo)<=1114111:=by
 rcases rget_cases q (f:=1) e8N c with⟨_,e⟩ | ⟨_,_,_,L,u⟩
 ·rw[e]at H;exact absurd H e8N
 ·obtain⟨A,s,C⟩:=x0p u f6J;obtain⟨I,r2,r3,r4⟩:=y3v u H;unfold speaks at L;obtain⟨_,_,D,X,K,S,_⟩:=o0d L;exact⟨I,r2,r3,A,K,X,f6J⟩
end Cn
theorem z8u{W:World}{a:Addr}{u:Value}(h:W.cell? a=some u)(o:W.frozen? a=false)(y:Int):(Instr.storeAt 21 (.pointer (some a)) (.int .i32 y)).run prog W=.ok () (W.setCell a (.int .i32 y)):=by
 simp[Instr.storeAt,go_sem,h,o]
theorem Ok.setAt9{K:IntKind}{e:TypeId}{w:World}{B g n cap:Nat}{zs:List Int}(h:Ok K e w B (.slice (some ⟨g,0,none⟩) n cap) zs)(k:Nat)(z:Int)(T:Fit K [z]) :
  Ok K e (w.setCell ⟨g,k,none⟩ (.int K z)) B (.slice (some ⟨g,0,none⟩) n cap) (zs.set k z)/\w.frozen? ⟨g,k,none⟩=false:=by
 have Q:=h.row;rcases Q.2 with⟨R,_⟩ | ⟨S,t,P,N,Y,H,F,W,f,U⟩
 ·cases R
 ·exact f5Q
theorem y0K{B p:Nat}{rs:List Rec}(a b:Int)(w:World)(F:x0m w B p rs)(d:Rune a)(Y:Rune b):Calls prog 163 #[.pointer (some ⟨p,0,none⟩),.int .i32 a,.int .i32 b] w fun e w'=>e=.returned (.tuple #[.int .i32 (Cn.cmp9 rs a b).1,.bool (Cn.cmp9 rs a b).2])/\w'=w:=by
 obtain⟨l,R,U,t4,S,t,P,f,v,T,y,o,l4,Q,n,X,c2,u,Z,D,J⟩:=F;have K:=O (y0t a b w);have x:w.cell? ⟨p,15,none⟩=some X:=cell_of (j:=15) Z (by show 15<18;exact f6J);obtain⟨I,r2,rfl,E,b1,m,i,A⟩:=J.co;have N:=(z5n (w:=w) (M:=95) (z:=.int .i32 0) klP underlying95 z4Z (r:=I) i (k:=pk2 a b) ⟨a,b,rfl,d,Y⟩).1;rw[y4R]at N;unfold Cn.cmp9;clear Z D J i A E;obtain⟨g,H⟩:=d;obtain⟨b0,L⟩:=Y;generalize Cn.sylOf a b=q at *;obtain⟨C,s⟩:=q
 cases s with
 | true =>
  clear N;exact r8A
 | false =>
  cases hpo:Cn.x1T rs a b with
  | none =>
   rw[hpo]at N;replace N:(Instr.lookup 95 (.map (some I)) (.agg #[.int .i32 a,.int .i32 b]) true).run prog w=.ok (.tuple #[.int .i32 0,.bool false]) w:=N;clear hpo;exact r8A
  | some z =>
   rw[hpo]at N;replace N:(Instr.lookup 95 (.map (some I)) (.agg #[.int .i32 a,.int .i32 b]) true).run prog w=.ok (.tuple #[.int .i32 z,.bool true]) w:=N;clear hpo;exact r8A
theorem y1s{B p:Nat}{rs:List Rec}(c:Int)(w:World)(hD:x0m w B p rs)(q:(Cn.check6 rs).2=0)(s:∀r∈rs,RecFit r)(hc:Rune c):Calls prog 213 #[.pointer (some ⟨p,0,none⟩),.int .i32 c] w (x0h w (Cn.mapping rs c)):=by
 obtain⟨t1,t2,t3,t4,t5,a1,l1,a2,l2,a3,l3,a4,l4,a5,l5,c1,c2,x1,Z,h2,h3⟩:=hD;have K1:=O (z5A c w h3.q1 q e8O hc);have x5:w.cell? ⟨p,5,none⟩=some a1:=cell_of (j:=5) Z (by show 5<18;exact f6J);have x6:w.cell? ⟨p,6,none⟩=some l1:=cell_of (j:=6) Z (by show 6<18;exact f6J);obtain⟨⟨aa,m,e,-⟩,ps,hR,-⟩:=h3.q1;subst e
 obtain⟨aQ,aP,az⟩:∃J aq,l1=.slice J ps.length aq:=by
  rcases hR.1.2 with⟨e,h0⟩ | ⟨g,aq,P,e,_⟩
  ·exact⟨_,_,by rw[e,h0]⟩
  ·exact⟨_,_,e⟩
 subst az;have v:=Cn.x4l q c
 have E:RecFit (Cn.rget rs 1 c):=by
  rcases Cn.rget_cases q (f:=1) e8O c with⟨_,e⟩ | ⟨_,hm,_⟩
  ·rw[e];exact⟨⟨e8O,e8O⟩,⟨e8O,e8O⟩,⟨e8O,e8O⟩,⟨e8O,e8O⟩,e8O,e8O⟩
  ·exact s _ hm
 obtain⟨aJ,aK⟩:=hc;clear Z h2 h3 q hR s;unfold Cn.mapping;generalize Cn.rget rs 1 c=r at *;obtain⟨A,k⟩:∃A,r.to=A:=⟨_,rfl⟩;have R:=E.len;rw[k]at v R ⊢;have M:=O k;have hk:=E.kind;have aM:=E.lo;have G:=O v;obtain⟨aG,D⟩:∃a,(if r.kind=4 then[A.getD 0 0+(c-r.lo)]else A)=a:=⟨_,rfl⟩;rw[D];have C:=O D;clear k E v D;go_enter func213,ntmps213;go_wp2_with fail;refine(V K1).mono ?_;rintro e1 Q ⟨vt,rfl,l,b1⟩;clear K1 x5 x6;rw[V M]at l;obtain⟨J,tc,rfl,aN,aO⟩:=l.sk.shape;obtain⟨W1,aH,Y,I⟩:=x0M Q r.kind r.lo r.hi r.n (.slice J A.length tc) r.name r.other r.wt;have ay:∀W a m,(store a (.float .f64 r.wt) m).run prog W=stored prog W a (.float .f64 r.wt) m:=fun W a m=>run_store prog W a _ m rfl;have b:=O (x2F (.slice J A.length tc) A W1 ((l.sk.below b1).below I) R);have ag:=O (bthen b1 I);have u:=O (bthen b1 I).size;have af:Hid (∀W,Bw W1 W->BoxAt W Q.heap.size r.kind r.lo r.hi r.n (.slice J A.length tc) r.name r.other r.wt):=fun W h=>Y.keep h;obtain⟨z0,z1,z2,z3,z4,z5,z6,z7⟩:=Y;clear l b1 I M;unfold recV;generalize r.kind=kd,r.lo=lo,r.hi=hi,r.n=n at *;generalize r.name=nm,r.other=ot,r.wt=wt at *;clear r;go_wp2_with fail;refine(V b).mono ?_;rintro e2 T ⟨v2,rfl,ab,b2⟩;obtain⟨y0,y1,y2,y3,y4,y5,y6,y7⟩:=V af T b2;have am:=O y1;have i:=O (bthen (V ag) b2);have ai:=O b2;clear b z0 z2 z3 z4 z5 z6 z7 ay ag b2;by_cases h4:kd=4
 ·have d:=V C;rw[if_pos h4]at d;obtain⟨s1,s2,s3,s4,s5,s6,s7⟩:=V G h4
  obtain⟨x,rfl⟩:∃x,A=[x]:=by
   match A,s1 with
   | [x],_=>exact⟨x,rfl⟩
  simp only[List.getD_cons_zero]at d s2 s3 s7;subst d h4;clear C G;obtain⟨gt,aB,ar,X,aD,aF,aw⟩:=ab.sk.place M7O
  have aA:aB=0:=by
   rcases ab.row.2 with⟨e,_⟩ | ⟨g',aC,P,e,_⟩
   ·rw[X]at e;simp at e
   ·rw[X]at e;simp only[Value.slice.injEq,Option.some.injEq,Addr.mk.injEq]at e;exact e.1.2.1
  subst aA;have L:T.cell? ⟨gt,0,none⟩=some (.int .i32 x):=aw 0 M7O;subst X;have HS:Hid (∀W,Bw T W->W.cell? ⟨gt,0,none⟩=some (.int .i32 x)/\W.cell? ⟨Q.heap.size,1,none⟩=some (.int .i64 lo)):=fun W h=>⟨by rw[h.cell (x0a L)];exact L,by rw[h.cell (x0a y1)];exact y1⟩;have F:Hid (gt≠Q.heap.size):=by have Z:=(ab.row.lt gt rfl).1;have h2:=x0a z1;show gt≠_;exact f6J
  have HE:Hid (∀W,Bw T W->x0h w [x+(c-lo)] (.returned (.slice (some ⟨gt,0,none⟩) 1 ar)) (W.setCell ⟨gt,0,none⟩ (.int .i32 (x+(c-lo))))/\W.frozen? ⟨gt,0,none⟩=false):=fun W h=>by
   have hk:=(ab.below h).setAt9 0 (x+(c-lo)) (fun z hz=>by rw[List.mem_singleton]at hz;subst hz;exact x1i f6J);have aL:W1.heap.size<=gt:=(ab.row.lt gt rfl).1;exact⟨⟨_,rfl,hk.1.lower (V u),x0b (bthen (V i) h) (by have:=V u;exact f6J) _⟩,hk.2⟩
  clear ab aw af ai L z1 y2 y3 y4 y5 y6 y7 am i;go_wp2;clear y0 y1;refine wp_region_held_drew (S:=fun w'=>w'.cell? ⟨Q.heap.size,1,none⟩=some (.int .i64 lo)) f4y ((V HS _ (x0i ⟨1,rfl⟩)).2) (fun hHeld=>?_);refine tk9 0 (.slice (some ⟨gt,0,none⟩) 1 ar) ?_;refine tk9 1 (.pointer (some ⟨gt,0,none⟩)) ?_;refine tk9 3 (.int .i32 c) ?_;refine tk9 4 (.pointer (some ⟨Q.heap.size,1,none⟩)) ?_;refine tk9 5 (.int .i64 lo) ?_ (hy:=by(intro w hSw;have s1:=hSw;go_simp));refine tk9 6 (.int .i32 lo) ?_ (hy:=f1Z);refine tk9 7 (.int .i32 (c-lo)) ?_ (hy:=f1Z);have t:Bw T T.drew:=x0i ⟨1,rfl⟩;have ae:=V HS _ t;have H:=V HE _ t;have y:=V F;clear HS HE F;generalize T.drew=w3 at *;refine rd9 2 fun K hK=>?_
  have o:(Instr.loadAt 21 (.pointer (some ⟨gt,0,none⟩))).run prog w3=.ok (.int .i32 x) w3:=by
   have h0:=ae.1;simp[Instr.loadAt,go_sem,h0]
  refine y7h rfl 21 (.tmp 21) rfl (.pointer (some ⟨gt,0,none⟩)) (.int .i32 x) rfl o ?_;refine hK.out _ _ ?_ (fun hHeld=>?_)
  ·exact ae.2
  clear hK K
  try simp only[Act.put,sa9,sb9,sc9]
  refine tk9 8 (.int .i32 (x+(c-lo))) ?_ (hy:=f1Z);refine tk9 9 (.pointer (some ⟨gt,0,none⟩)) ?_;refine rd9 10 fun K hK=>?_;have s9:=z8u ae.1 H.2 (x+(c-lo));have U:=H.1
  have N:(w3.setCell ⟨gt,0,none⟩ (.int .i32 (x+(c-lo)))).cell? ⟨Q.heap.size,1,none⟩=some (.int .i64 lo):=by
   rw[World.cell?_setCell_far _ _ _ _ y];exact ae.2
  clear H ae o;generalize w3.setCell ⟨gt,0,none⟩ (.int .i32 (x+(c-lo)))=w4 at *;refine x7C rfl 21 (.tmp 29) (.tmp 28) rfl (.pointer (some ⟨gt,0,none⟩)) (.int .i32 (x+(c-lo))) rfl rfl s9 ?_;refine hK.out _ _ ?_ (fun hHeld=>?_)
  ·exact N
  clear hK K s9
  try simp only[Act.put]
  refine wpAnyH_done f4y ?_ _;have aj:=O U;clear U hHeld N;go_wp2;go_ret;exact V aj
 ·have d:=V C;rw[if_neg h4]at d;subst d;clear C G;have aI:(kd==4)=false:=(by rw[beq_eq_false_iff_ne];exact h4);have HF:Hid (x0h w A (.returned v2) T):=⟨v2,rfl,ab.lower (V u),V i⟩;clear ab af am ai z1;exact I7o
open Ti
namespace Cn
theorem q0s:x2e.take 150=x2e:=rfl
end Cn
theorem z5w:∀r∈Cn.x2e,RecFit r:=by
 intro p s;simp only[Cn.x2e,List.mem_cons,List.mem_nil_iff,or_false]at s;rcases s with rfl | rfl | rfl | rfl | rfl | rfl | rfl | rfl | rfl | rfl<;>exact⟨W0Y,W0Y,W0Y,W0Y,e8M,e8M⟩
namespace Cn
end Cn
end Go.Proofs.YtkfcabdmkmljjaaGreatDoor
namespace Go.Proofs.YtkfcabdmkmljjaaGreatDoor.Cn
open Go.Proofs.Tryz
theorem y3H l:∀(f:Nat) (C:List Int) (c:Int) (out:List Int),(∀x∈out,opn l x=[])->∀x∈(walk l f C c out).1,opn l x=[]:=by
 intro f
 induction f with
 | zero =>
  intro C c out h;rw[walk];split
  ·grind
  ·split<;>(intro x A;cases A)
 | succ f ih =>
  intro C c out h;rw[walk];split
  ·grind
  ·split
   ·intro x A;cases A
   ·have S:∀(X:List Int) (s:List Int×Int),(∀x∈s.1,opn l x=[])->∀x∈(X.foldl (stepW l f (C++[c])) s).1,opn l x=[]:=i7V
    exact S _ _ h
theorem z1O l:∀(f:Nat) (C:List Int) (c:Int) (out:List Int),(walk l f C c out).2=0->out.length<(walk l f C c out).1.length:=by
 intro f
 induction f with
 | zero =>
  intro C c out;rw[walk];split
  ·grind
  ·grind
 | succ f ih =>
  intro C c out;rw[walk];split
  ·split
   ·intro h;exact absurd h e8N
   ·intro _;simp
  ·next hc =>
   split
   ·intro h;exact absurd h e8N
   ·have S:∀(X:List Int) (s:List Int×Int),(X.foldl (stepW l f (C++[c])) s).2=0->s.1.length+X.length<=(X.foldl (stepW l f (C++[c])) s).1.length:=by
     intro X
     induction X with
     | nil=>intro s _;simp
     | cons x X ihx =>
      intro s L;rw[List.foldl_cons]at L ⊢;have Z:=ihx _ L
      have R:s.2=0:=by
       refine Decidable.byContradiction fun F=>?_;rw[stepW,if_neg F,x1H _ _ _ _ _ F]at L;exact F L
      have D:(stepW l f (C++[c]) s x).2=0:=by
       refine Decidable.byContradiction fun F=>?_;rw[x1H _ _ _ _ _ F]at L;exact F L
      unfold stepW at Z D L ⊢;rw[if_pos R]at Z D;have J:=ih _ _ _ D;simp only[List.length_cons];simp only[if_pos R]at *;omega
    intro h;have:=S _ _ h;have y:0<(opn l c).length:=List.length_pos_iff.2 hc;simp only at this;exact Nat.lt_of_lt_of_le f6J this
def jamo(c:Int):Prop:=(4352<=c/\c<=4370)\/(4449<=c/\c<=4469)\/(4520<=c/\c<=4546)
theorem x1O{r c}(h:speaks r c=true):r.lo<=c/\c<=r.hi:=by
 unfold speaks at h;obtain⟨_,_,_,_,K,q,_⟩:=o0d h;exact⟨K,q⟩
theorem y4B{l}(h:(check l).2=0){c}(hc:jamo c){f}(o:f=2\/f=3):hit l f c=Option.none:=by
 obtain⟨q,u,_,_⟩:=x0I.1 h
 cases e:hit l f c with
 | none=>rfl
 | some r =>
  obtain⟨Z,D,J⟩:=x1R e;have L:=x1O J;have R:=u r Z;unfold record at R;rw[if_neg f6J]at R;split at R
  ·exact absurd R e8N
  ·split at R
   ·exact absurd R e8N
   ·next hn =>
    refine absurd ?_ hn;simp only[Bool.or_eq_true,covers,decide_eq_true_eq];rcases hc with hc | hc | hc
    ·exact .inl (.inl (.inl f6J))
    ·exact .inl (.inl (.inr f6J))
    ·exact .inl (.inr f6J)
theorem x9D{l}(h:(check l).2=0){c}(I:jamo c):opn l c=[]:=by
 unfold opn
 have:syl c=false:=by
  unfold syl;unfold jamo at I;exact d0f f6J
 rw[this,y4B h I (.inr rfl)];rfl
theorem z3z{l}(h:(check l).2=0){c}(I:jamo c):cls l c=0:=by
 unfold cls;rw[y4B h I (.inl rfl)]
theorem z5C{l c}(L:syl c=true)(z:(c-44032)%28=0):opn l c=[4352+(c-44032) / 588,4449+(c-44032) / 28%21]:=by
 unfold opn;rw[if_pos L,if_pos z]
theorem z0w{l c}(L:syl c=true)(z:¬(c-44032)%28=0):opn l c=[c-(c-44032)%28,4519+(c-44032)%28]:=by
 unfold opn;rw[if_pos L,if_neg z]
theorem x8y{l:List Rec}:∀(x:List Int),(∀c∈x,cls l c=0)->fallsA l x=false
 | [],_=>rfl
 | [_],_=>rfl
 | a::b::r,h=>by
  rw[fallsA,x8y (b::r) fun c I=>h c (List.mem_cons_of_mem _ I)];simp[h b M7K]
theorem z4I{l}(h:(check l).2=0){c}(L:syl c=true):(full l c).2=0/\∀x∈(full l c).1,jamo x:=by
 have Y:44032<=c/\c<=55203:=o0d L
 have H:∀(d:Int),syl d=true->(d-44032)%28=0->∀(f:Nat) (C out:List Int),¬d∈C->out.length<30->walk l (f+1) C d out=(out++[4352+(d-44032) / 588,4449+(d-44032) / 28%21],0)/\jamo (4352+(d-44032) / 588)/\jamo (4449+(d-44032) / 28%21):=by
  intro d hd z f C out q j;have D:44032<=d/\d<=55203:=o0d hd;have a:jamo (4352+(d-44032) / 588):=.inl f6J;have g:jamo (4449+(d-44032) / 28%21):=.inr (.inl f6J);refine⟨?_,a,g⟩;rw[x7N (by rw[z5C hd z];exact M7N) f q,z5C hd z];simp only[List.foldl_cons,List.foldl_nil,stepW];rw[if_pos trivial,x1d (x9D h a),if_neg (c:=32<=out.length) f6J];simp only[if_true];rw[x1d (x9D h g),if_neg P8P];simp
 unfold full;by_cases z:(c-44032)%28=0
 ·obtain⟨e,a,g⟩:=H c L z 15 [] [] M7N M7N;rw[e];refine⟨rfl,fun x A=>?_⟩;simp at A;rcases A with rfl | rfl
  ·exact a
  ·exact g
 ·have hd:syl (c-(c-44032)%28)=true:=d0t f6J;have F:(c-(c-44032)%28-44032)%28=0:=f6J;have E:jamo (4519+(c-44032)%28):=.inr (.inr f6J);rw[x7N (by rw[z0w L z];exact M7N) 15 M7N,z0w L z];obtain⟨e,a,g⟩:=H _ hd F 14 ([]++[c]) [] P8P M7N;simp only[List.foldl_cons,List.foldl_nil,stepW];rw[if_pos trivial,e];simp only[if_true];rw[x1d (x9D h E),if_neg M7N];refine⟨rfl,fun x A=>?_⟩;simp at A;rcases A with rfl | rfl | rfl
  ·exact a
  ·exact g
  ·exact E
theorem fam_three{k}(h:fam k=3):k=7\/k=8:=R8h
theorem leaves{l}(h:(check l).2=0) c:(full l c).2=0/\0<(full l c).1.length/\(full l c).1.length<=32/\(∀x∈(full l c).1,opn l x=[])/\fallsA l (full l c).1=false:=by
 have R:(full l c).2=0/\fallsA l (full l c).1=false:=by
  by_cases L:syl c=true
  ·obtain⟨Z,D⟩:=z4I h L;exact⟨Z,x8y _ fun x A=>z3z h (D x A)⟩
  ·by_cases j:opn l c=[]
   ·unfold full;rw[x1d j,if_neg M7N];exact⟨rfl,rfl⟩
   ·have P:∃r,hit l 3 c=some r:=by
     unfold opn at j;rw[if_neg L]at j
     cases e:hit l 3 c with
     | none=>grind
     | some r=>exact⟨r,rfl⟩
    obtain⟨r,u⟩:=P;obtain⟨Z,D,J⟩:=x1R u;obtain⟨q,n,_,_⟩:=x0I.1 h;have b:=x1O J
    have y:r.lo=r.hi:=by
     rcases fam_three D with hk | hk
     ·exact(x0C ((x0k.1 q).2.1 r Z) hk).1
     ·exact(x2v ((x0k.1 q).2.1 r Z) hk).1
    have I:r.lo=c:=f6J;have T:=n r Z;rw[y0e]at T;unfold recF at T;rw[if_neg f6J]at T;split at T
    ·exact absurd T e8N
    ·grind
 exact⟨R.1,z1O l 16 [] c [] R.1,x4f l c,y3H l 16 [] c [] (fun x A=>absurd A M7N),R.2⟩
theorem x9r{l:List Rec}:∀(x:List Int),fallsA l x=false->∀k,k+1<x.length->cls l (x.getD (k+1) 0)=0\/cls l (x.getD k 0)<=cls l (x.getD (k+1) 0)
 | [],_,k,hk=>absurd hk M7K
 | [_],_,k,hk=>absurd hk M7K
 | a::b::r,h,k,hk=>by
  rw[fallsA,Bool.or_eq_false_iff]at h
  cases k with
  | zero =>
   have:=of_decide_eq_false h.1;show cls l b=0\/cls l a<=cls l b;omega
  | succ k=>exact x9r (b::r) h.2 k (by simpa using hk)
end Go.Proofs.YtkfcabdmkmljjaaGreatDoor.Cn
namespace Go.Proofs.YtkfcabdmkmljjaaGreatDoor
open Go.Proofs.Tryz
open Go.RowKit
namespace Cn
theorem z8x{l}(h:(check l).2=0){c}(I:syl c=true){f}(o:f=2\/f=3):hit l f c=Option.none:=by
 obtain⟨q,u,_,_⟩:=x0I.1 h;unfold syl at I;have I:=o0d I
 cases e:hit l f c with
 | none=>rfl
 | some r =>
  obtain⟨Z,D,J⟩:=x1R e;have L:=x1O J;have R:=u r Z;unfold record at R;rw[if_neg f6J]at R;split at R
  ·exact absurd R e8N
  ·split at R
   ·exact absurd R e8N
   ·next hn =>
    refine absurd ?_ hn;simp only[Bool.or_eq_true,covers,decide_eq_true_eq];exact e5w
theorem z1G{rs}(h:(check rs).2=0){c r}(P:hit rs 3 c=some r):r.to≠[]/\r.to.length<=2:=by
 have q:=(x0I.1 h).1;obtain⟨i,A,Q⟩:=(x1M q e8N r).1 P;have u:=(x0k.1 q).2.1 r i;rcases fam_three A with e | e
 ·have:=(x0v (x0C u e).2.2).1;exact r8O
 ·have:=(x0v (x2v u e).2.2).1;exact r8O
theorem z0v{rs}(h:(check rs).2=0) c:((rget rs 3 c).to=[]/\opn [] c=opn rs c)\/((rget rs 3 c).to≠[]/\(rget rs 3 c).to=opn rs c/\(rget rs 3 c).to.length<=2):=by
 unfold rget
 cases he:hit rs 3 c with
 | none =>
  refine .inl ⟨rfl,?_⟩;unfold opn;rw[he];rfl
 | some r =>
  obtain⟨Z,D⟩:=z1G h he;refine .inr ⟨Z,?_,D⟩
  have L:syl c=false:=by
   cases L:syl c with
   | false=>rfl
   | true=>rw[z8x h L (.inr rfl)]at he;cases he
  unfold opn;rw[L,he];rfl
theorem z7U{rs}(h:(check rs).2=0) c:(opn rs c).length<=2:=by
 unfold opn;split
 ·exact f1X
 ·cases he:hit rs 3 c with
  | none=>simp
  | some r=>exact(z1G h he).2
end Cn
theorem z3e k lo hi n ao ln cp a b y w:(Instr.field 60 (.agg #[.int .i64 k,.int .i64 lo,.int .i64 hi,.int .i64 n,.slice ao ln cp,.string a,.string b,.float .f64 y]) 4).run prog w=.ok (.slice ao ln cp) w:=f4x
theorem y1A{B p rs} c w(C:Glob w)(F:x0m w B p rs)(hk:(Cn.check rs).2=0)(I:Rune c):Calls prog 288 #[.pointer (some ⟨p,0,none⟩),.int .i32 c] w (x0h w (Cn.opn rs c)):=by
 have h6:=(Cn.x0I.1 hk).1;obtain⟨t1,t2,t3,t4,t5,a1,l1,f,v,T,y,o,k,a5,l5,X,c2,x1,Z,D,h3⟩:=F;have q:=O (z5A c w h3.q2 h6 e8N I);have x5:w.cell? ⟨p,7,none⟩=some f:=cell_of (j:=7) Z (by show 7<18;exact f6J);have x6:w.cell? ⟨p,8,none⟩=some v:=cell_of (j:=8) Z (by show 8<18;exact f6J);obtain⟨⟨a,m,e,-⟩,ps,hR,-⟩:=h3.q2;subst e
 obtain⟨Y,af,ab⟩:∃J M,v=.slice J ps.length M:=by
  rcases hR.1.2 with⟨e,R⟩ | ⟨g,M,P,e,_⟩
  ·exact⟨_,_,by rw[e,R]⟩
  ·exact⟨_,_,e⟩
 subst ab;have s:=O (Cn.z0v hk c);have d:=fun W (hW:Bw w W)=>O (openC (.slice none 0 0) [] c W (C.on hW) (Rcs.nil W) I);obtain⟨H,ae⟩:=I;generalize Cn.rget rs 3 c=r,Cn.opn rs c=zs at *;go_enter func288,ntmps288;go_wp2_with fail;refine(V q).mono ?_;rintro t Q ⟨vt,rfl,l,b1⟩;obtain⟨J,K,rfl,b,u⟩:=l.sk.shape;have L:=O b1;have x:=l.sk.below b1;have i:=z3e r.kind r.lo r.hi r.n J r.to.length K r.name r.other r.wt Q;unfold recV;rcases V s with⟨t,E⟩ | ⟨t,E,N⟩
 ·have K2:=O (V (d Q b1));rw[E]at K2;rw[t]at i ⊢;simp only[List.length_nil]at i ⊢;exact W2a
 ·rw[E]at x i t N b ⊢;have K2:=O (x2F _ zs Q x f6J);have S:0<zs.length:=List.length_pos_iff.2 t;exact W2a
namespace Cn
def Tree(l:List Rec):Nat->Int->List Int->Prop
 | 0,c,ys=>opn l c=[]/\ys=[c]
 | n+1,c,ys=>(opn l c=[]/\ys=[c])\/(opn l c≠[]/\∃yss:List (List Int),yss.length=(opn l c).length/\(∀i,i<(opn l c).length->Tree l n ((opn l c).getD i 0) (yss.getD i []))/\ys=yss.flatten)
theorem y1b{l:List Rec}{f:Nat}{C:List Int}(H:∀d out r,walk l f C d out=(r,0)->∃ys,r=out++ys/\Tree l f d ys):∀(F:List Int) (out r:List Int),F.foldl (stepW l f C) (out,0)=(r,0)->∃a:List (List Int),a.length=F.length/\r=out++a.flatten/\∀i,i<F.length->Tree l f (F.getD i 0) (a.getD i [])
 | [],out,r,h=>by
  have:=(Prod.mk.inj h).1;subst this;exact⟨[],rfl,M7K,fun i hi=>v5D⟩
 | d::F,out,r,h=>by
  rw[List.foldl_cons]at h;have e:stepW l f C (out,0) d=walk l f C d out:=(by simp[stepW]);rw[e]at h;obtain⟨⟨G,t⟩,A⟩:∃q,walk l f C d out=q:=⟨_,rfl⟩;rw[A]at h;by_cases P:t=0
  ·subst P;obtain⟨ys,rfl,U⟩:=H d out G A;obtain⟨a,S,hr,I⟩:=y1b H F (out++ys) r h;refine⟨ys::a,by simp[S],by rw[hr];exact M7K,fun i hi=>?_⟩
   cases i with
   | zero=>exact U
   | succ i=>simpa using I i w3z
  ·rw[x1H l f C F (G,t) P]at h;exact absurd (Prod.mk.inj h).2 P
theorem z1P{l}:∀(f:Nat) (C:List Int) (c:Int) (out r:List Int),walk l f C c out=(r,0)->∃ys,r=out++ys/\Tree l f c ys:=by
 intro f
 induction f with
 | zero =>
  intro C c out r h;by_cases j:opn l c=[]
  ·rw[x1d j]at h;split at h
   ·grind
   ·exact⟨[c],(Prod.mk.inj h).1.symm,j,rfl⟩
  ·by_cases q:c∈C
   ·rw[x2V j _ q]at h;exact s1y
   ·rw[x7M j q]at h;exact s1y
 | succ f ih =>
  intro C c out r h;by_cases j:opn l c=[]
  ·rw[x1d j]at h;split at h
   ·exact s1y
   ·exact⟨[c],(Prod.mk.inj h).1.symm,.inl ⟨j,rfl⟩⟩
  ·by_cases q:c∈C
   ·rw[x2V j _ q]at h;exact s1y
   ·rw[x7N j f q]at h;obtain⟨a,S,u,U⟩:=y1b (fun d out r hd=>ih (C++[c]) d out r hd) _ _ _ h;exact⟨_,u,.inr ⟨j,a,S,U,rfl⟩⟩
theorem y9h{l}(h:(check l).2=0) c:Tree l 16 c (full l c).1:=by
 have D:=(leaves h c).1;obtain⟨ys,hy,U⟩:=z1P (l:=l) 16 [] c [] (full l c).1 (by rw[show walk l 16 [] c []=full l c from rfl];exact Prod.ext rfl D);rw[List.nil_append]at hy;rw[hy];exact U
end Cn
structure Grw(w w':World)(x v:Value):Prop where
 g:w.grownBy w' x.ownBlock
 own:∀k,v.ownBlock=some k->x.ownBlock=some k\/w.heap.size<=k
theorem Grw.trans{w w1 w2 x v u}(h:Grw w w1 x v)(D:Grw w1 w2 v u):Grw w w2 x u:=by
 have A:=h.g.size;refine⟨⟨D.g.os.trans h.g.os,D.g.tape.trans h.g.tape,D.g.output.trans h.g.output,Nat.le_trans A D.g.size,fun k G y=>?_⟩,fun k G=>?_⟩
 ·rw[D.g.block k f6J (fun e=>?_),h.g.block k G y];rcases h.own k e.symm with e2 | e2
  ·exact y e2.symm
  ·omega
 ·rcases D.own k G with e | e
  ·exact h.own k e
  ·exact e5w
theorem Grw.after{w w1 w2 x v}(Y:Bw w w1)(h:Grw w1 w2 x v):Grw w w2 x v:=by
 have A:=Y.size;refine⟨⟨h.g.os.trans Y.os,h.g.tape.trans Y.tape,h.g.output.trans Y.output,Nat.le_trans A h.g.size,fun k G y=>?_⟩,fun k G=>?_⟩
 ·rw[h.g.block k f6J y,Y.block k G]
 ·rcases h.own k G with e | e
  ·exact .inl e
  ·exact e5w
theorem Grw.refl w x:Grw w w x x:=⟨⟨rfl,rfl,rfl,l0r _,fun _ _ _=>rfl⟩,fun _ h=>.inl h⟩
def AppB(w:World)(B:Nat)(x:Value)(ys:List Int)(e:Ending)(w':World):Prop:=∃v,e=.returned v/\Ok .i32 21 w' B v ys/\Grw w w' x v
def z2e(w0:World)(p:Nat)(c:Int)(ys:List Int):Prop:=∀(x:Value) (xs:List Int) (w:World),Ok .i32 21 w w0.heap.size x xs->Below w0.heap.size w0 w->xs.length+ys.length<=1000000000->Calls prog 254 #[.pointer (some ⟨p,0,none⟩),x,.int .i32 c] w (AppB w w0.heap.size x (xs++ys))
theorem Sk.one9(w:World) c(I:-2147483648<=c/\c<=2147483647):Sk .i32 (w.alloc (.cells #[.int .i32 c] 21)) (.slice (some ⟨w.heap.size,0,none⟩) 1 1) [c]:=(x9W w w.heap.size (l0r _) c I).sk
theorem y9B:(prog.info? 21).map (fun i=>(i.zero,i.size,i.bytes))=some (some (.int .i32 0),1,4):=f4x
section
variable {B p:Nat} {rs:List Rec} {w0:World}
theorem y1d(hg:Glob w0)(hD:x0m w0 B p rs)(G:(Cn.check rs).2=0) c(I:Rune c)(ho:Cn.opn rs c=[]):z2e w0 p c [c]:=by
 intro x X w hx f S;have q:=O (y1A c w (hg.on f) (hD.below f) G I);rw[ho]at q;obtain⟨i,hi,y,Y,m⟩:=info_parts y9B;have ag:=f.size;have o:=O hx;obtain⟨W,v,af,_,_⟩:=hx.sk.shape;subst af;obtain⟨H,g⟩:=I;simp only[List.length_singleton]at S;go_enter func254,ntmps254;go_wp2_with fail;refine(V q).mono ?_;rintro t w1 ⟨v1,rfl,s,b1⟩;obtain⟨J,M,r,_,_⟩:=s.sk.shape;simp only[List.length_nil]at r;subst r;have N:=b1.size;have C:Ok .i32 21 (w1.alloc (.cells #[.int .i32 c] 21)) w0.heap.size (.slice W X.length v) X:=((V o).below b1).below ((b0r).alloc (l0r _) _);have Q:(w1.alloc (.cells #[.int .i32 c] 21)).ownsRow w0.heap.size 21 1 (.slice W X.length v) X.length (X.map (Value.int .i32)):=(by simpa using C.row);have F:=(Sk.one9 w1 c ⟨H,g⟩).place M7O
 have K:∀j u,[Value.int .i32 c][j]?=some u->(w1.alloc (.cells #[.int .i32 c] 21)).cell? ((⟨w1.heap.size,0,none⟩:Addr).add j)=some u:=by
  intro j u hj;obtain⟨E,l,cq,P,_,_,hh⟩:=F;simp only[Value.slice.injEq,Option.some.injEq,Addr.mk.injEq]at P;obtain⟨⟨rfl,rfl,_⟩,_,_⟩:=P
  cases j with
  | zero=>simp at hj;subst hj;rw[addr_add];exact hh 0 M7O
  | succ j=>simp at hj
 have D:=O Q;have Z:=O K;have R:=O ((V o).1);have L:=O b1;have ae:(w1.alloc (.cells #[.int .i32 c] 21)).heap.size=w1.heap.size+1:=M7O;have ab:=O ae;go_wp2_with(at_builtin;refine wpList_append_own_at _ rfl (.tmp 16) (.tmp 18) 36 rfl w0.heap.size 21 i (.int .i32 0) 1 4 underlying36 hi y Y m rfl e8P _ _ _ rfl (V D) ⟨w1.heap.size,0,none⟩ 1 1 [.int .i32 c] rfl rfl (V Z) (fun u d=>by rw[List.mem_singleton]at d;subst d;rfl) T7X f6J (by rw[V ab];exact f6J) ?_);intro v2 T a b _ A
 have hF:AppB w w0.heap.size (.slice W X.length v) (X++[c]) (.returned v2) T:=by
  refine⟨v2,rfl,Ok.of (n:=X.length+1) (us:=X.map (Value.int .i32)++[.int .i32 c]) ?_ P8P a M7O M7O,?_⟩
  ·intro z hz;rcases List.mem_append.1 hz with hz | hz
   ·exact V R z hz
   ·rw[List.mem_singleton]at hz;subst hz;exact x1i ⟨H,g⟩
  ·refine Grw.after (w1:=w1.alloc (.cells #[.int .i32 c] 21)) ((V L).alloc N _) ⟨b,fun k G=>?_⟩;rcases A with e | e
   ·exact .inl (e ▸ G)
   ·grind
 have U:=O hF;go_wp2;go_ret;exact V U
end
namespace Cn
theorem z4d{rs}(h:(check rs).2=0){c d}(hd:d∈opn rs c):Rune d:=by
 unfold opn at hd;unfold Rune;split at hd
 ·next L =>
  unfold syl at L;have L:=o0d L;split at hd
  ·grind
  ·simp only[List.mem_cons,List.mem_nil_iff,or_false]at hd;rcases hd with rfl | rfl<;>omega
 ·cases he:hit rs 3 c with
  | none=>rw[he]at hd;simp at hd
  | some r =>
   rw[he]at hd;have hd:d∈r.to:=hd;have q:=(x0I.1 h).1;obtain⟨i,A,Q⟩:=(x1M q e8M r).1 he;have u:=(x0k.1 q).2.1 r i
   have C:scalar d=true:=by
    rcases fam_three A with e | e
    ·exact(x0v (x0C u e).2.2).2 d hd
    ·exact(x0v (x2v u e).2.2).2 d hd
   have:=x2S C;omega
theorem y1a(a:List (List Int)){k}(G:k<a.length):(a.take (k+1)).flatten=(a.take k).flatten++a.getD k []:=by
 rw[List.take_add_one,List.flatten_append,List.getElem?_eq_getElem G];exact w7Y
theorem z7e(a:List (List Int)){k}(G:k<a.length):((a.take k).flatten).length+(a.getD k []).length<=a.flatten.length:=by
 have Z:=congrArg List.length (y1a a G);rw[List.length_append]at Z;have D:a.flatten=(a.take (k+1)).flatten++(a.drop (k+1)).flatten:=(by rw[<- List.flatten_append,List.take_append_drop]);have J:=congrArg List.length D;rw[List.length_append]at J;omega
end Cn
section
variable {B p:Nat} {rs:List Rec} {w0:World}
theorem y9g(hg:Glob w0)(hD:x0m w0 B p rs)(G:(Cn.check rs).2=0) c(hc:Rune c)(a:List (List Int))(ho:Cn.opn rs c≠[])(U:a.length=(Cn.opn rs c).length)(ih:∀i,i<(Cn.opn rs c).length->z2e w0 p ((Cn.opn rs c).getD i 0) (a.getD i [])):z2e w0 p c a.flatten:=by
 intro x xs w A f hl;have K1:=O (y1A c w (hg.on f) (hD.below f) G hc);have ay:=Cn.z7U G c;have S:=f.size;have o:=O A;have af:=O f;have m:=O ih;have q:=fun k (h:k<a.length)=>O (Cn.z7e a h);have t:=fun k (h:k<a.length)=>O (Cn.y1a a h);have R:0<(Cn.opn rs c).length:=List.length_pos_iff.2 ho;obtain⟨xo,v,D,_,_⟩:=A.sk.shape;have Z:Hid (∀k,x.ownBlock=some k->w0.heap.size<=k/\k<w.heap.size):=fun k h=>A.row.lt k h;obtain⟨ar,aw⟩:=hc;generalize Cn.opn rs c=F at *;subst D;have C:=O U;go_enter func254,ntmps254;go_wp2_with fail;refine(V K1).mono ?_;rintro e1 w1 ⟨v1,rfl,ae,b1⟩;obtain⟨N,vo,aq,r,aj,am,n⟩:=ae.sk.place R
 have aD:w.heap.size<=N:=by
  have:=(ae.row.lt N (by rw[r];rfl)).1;exact this
 subst r;have aC:=b1.size;have L:=O b1;have I:=O n;have ab:=O ae.1;have J:=(V o).below b1;have P:=O J;have ai:((F.length:Int)==0)=false:=(by grind);go_wp2;go_loopw[1,9,22] (fun u _ ii wr=>∃k:Nat,ii=.int .i64 k/\k<=F.length/\Ok .i32 21 wr w0.heap.size u (xs++(a.take k).flatten)/\Grw w1 wr (.slice xo xs.length v) u) (fun _ _ ii _=>F.length-(intOf ii).toNat)
 case atStart=>exact⟨0,rfl,f6J,by simpa using V P,Grw.refl _ _⟩
 case round =>
  obtain⟨k,rfl,aA,l,M⟩:=hrel;have X:=O l;have W:=O M;by_cases E:k<F.length
  ·have K:wr.cell? ⟨N,vo+k,none⟩=some (.int .i32 (F.getD k 0)):=by
    have h3:=V I k E;refine M.g.cell h3 (fun e=>?_);have:=V Z N e.symm;omega
   have aB:Rune (F.getD k 0):=by
    have:=V ab (F.getD k 0) N0c;exact v9d
   have y:Bw w0 wr:=((V af).trans ((V L).mono S)).grown M.g f6J (fun j hj=>(V Z j hj).1);have az:=V (q k (by rw[V C];exact E));have KR:=O (V m k E u1 (xs++(a.take k).flatten) wr l y u7D);have ag:=O (V (t k (by rw[V C];exact E)))
   obtain⟨s,ul,Y,b⟩:∃s ul Y,u1=.slice s ul Y:=w3c
   subst b;generalize F.getD k 0=d at *;go_wp2_with fail;refine(V KR).mono ?_;rintro e3 w3 ⟨v3,rfl,z,Q⟩;rw[List.append_assoc,<- V ag]at z;have T:=O z;have H:=O ((V W).trans Q);go_wp2
   go_roundw
   case rel=>exact⟨k+1,g2B,f6J,V T,V H⟩
   case measure=>exact g7T
  ·obtain rfl:k=F.length:=f6J;rw[<- V C,List.take_length]at X;have HF:Hid (AppB w w0.heap.size (.slice xo xs.length v) (xs++a.flatten) (.returned u1) wr):=⟨u1,rfl,V X,(V W).after (V L)⟩
   obtain⟨s,ul,Y,b⟩:∃s ul Y,u1=.slice s ul Y:=w3c
   subst b;exact I7o
theorem x8A(C:Glob w0)(F:x0m w0 B p rs)(G:(Cn.check rs).2=0):∀(n:Nat) {c:Int} {ys:List Int},Cn.Tree rs n c ys->Rune c->z2e w0 p c ys
 | 0,c,_,⟨j,e⟩,hc=>by rw[e];exact y1d C F G c hc j
 | n+1,c,ys,ht,hc=>by
  rcases ht with⟨j,rfl⟩ | ⟨j,a,S,h,rfl⟩
  ·exact y1d C F G c hc j
  ·exact y9g C F G c hc a j S (fun i hi=>x8A C F G n (h i hi) (Cn.z4d G (c:=c) n7A))
theorem y9f c w(C:Glob w)(F:x0m w B p rs)(G:(Cn.check rs).2=0)(I:Rune c):Calls prog 209 #[.pointer (some ⟨p,0,none⟩),.int .i32 c] w (x0h w (Cn.full rs c).1):=by
 have E:=(Cn.leaves G c).2.2.1;have K:=O (x8A C F G 16 (Cn.y9h G c) I (.slice none 0 0) [] w (Ok.nil _ _ _ _) (b0r) P8P);rw[List.nil_append]at K;obtain⟨H,J⟩:=I;generalize(Cn.full rs c).1=A at *;go_enter func209,ntmps209;go_wp2_with fail;refine(V K).mono ?_;rintro t Q ⟨u,rfl,s,i⟩;have U:Hid (x0h w A (.returned u) Q):=⟨u,rfl,s,(Below.refl w.heap.size w).grown i.g (l0r _) (fun k G=>by cases G)⟩;exact s1g
end
open Ti
namespace Cn
theorem x3X{rs}(q:(check6 rs).2=0) c:0<=cls rs c/\cls rs c<=254:=by
 unfold cls
 cases he:hit rs 2 c with
 | none=>simp
 | some r =>
  obtain⟨i,A,Q⟩:=(x1M q e8N r).1 he;have G:=(y9L A).2.1 rfl;exact y1P ((x0k.1 q).2.1 r i) f6J f6J
end Cn
namespace Cn
def openAll(rs:List Rec)(xs:List Int):List Int:=(xs.map fun c=>(full rs c).1).flatten
theorem y1z rs(xs:List Int){k}(G:k<xs.length):openAll rs (xs.take (k+1))=openAll rs (xs.take k)++(full rs (xs.getD k 0)).1:=by
 unfold openAll;rw[List.take_add_one,List.map_append,List.flatten_append,List.getElem?_eq_getElem G];exact w7Y
theorem x3E{rs}(h:(check rs).2=0) xs:(openAll rs xs).length<=32*xs.length:=by
 unfold openAll
 induction xs with
 | nil=>simp
 | cons c xs ih =>
  have:=(leaves h c).2.2.1;simp only[List.map_cons,List.flatten_cons,List.length_append,List.length_cons];omega
end Cn
theorem y6t(n:Nat) w B(l:B<=w.heap.size)(F:n<=70000):∃W,(Instr.makeSlice 36 (.int .i64 0) (.int .i64 (n:Int))).run prog w=.ok (.slice (some ⟨w.heap.size,0,none⟩) 0 n) W/\Ok .i32 21 W B (.slice (some ⟨w.heap.size,0,none⟩) 0 n) []/\w.grownBy W none:=by
 obtain⟨i,hi,y,Y,m⟩:=info_parts y9B;exact t8i
theorem y1B{B p rs} v xs w(hg:Glob w)(hD:x0m w B p rs)(hk:(Cn.check rs).2=0)(hx:Sk .i32 w v xs)(aK:xs.length<=65536):Calls prog 159 #[.pointer (some ⟨p,0,none⟩),v] w (x0h w (Cn.openAll rs xs)):=by
 obtain⟨i0,hi,ay,az,aA⟩:=info_parts y9B;have o:=O hx;obtain⟨vo,vc,r,aI,aJ⟩:=hx.shape;subst r;have U:Hid (∀c W,Rune c->Bw w W->Calls prog 209 #[.pointer (some ⟨p,0,none⟩),.int .i32 c] W (x0h W (Cn.full rs c).1)):=fun c W hc P=>y9f c W (hg.on P) (hD.below P) hk hc;have t:=fun k (h:k<xs.length)=>O (Cn.y1z rs xs h);have ai:=fun k=>O (Cn.x3E hk (xs.take k));have q:=fun c=>O (Cn.leaves hk c).2.2.1;have af:=fun c=>O (Cn.leaves hk c).2.1;obtain⟨W0,aG,g,g0⟩:=y6t xs.length w w.heap.size (l0r _) f6J;have f:Bw w W0:=(b0r).grown g0 (l0r _) (fun k hk=>by cases hk);have x:=O f;have H:=O g;have ae:Hid (Cn.openAll rs (xs.take xs.length)=Cn.openAll rs xs):=(by grind);go_enter func159,ntmps159;go_wp2;go_loopw[5,6,12] (fun yy _ ii wr=>∃k:Nat,ii=.int .i64 k/\k<=xs.length/\Ok .i32 21 wr w.heap.size yy (Cn.openAll rs (xs.take k))/\Bw w wr) (fun _ _ ii _=>xs.length-(intOf ii).toNat)
 case atStart=>exact⟨0,rfl,f6J,V H,V x⟩
 case round =>
  obtain⟨k,rfl,aF,l,Y⟩:=hrel;by_cases E:k<xs.length
  ·obtain⟨bx,ox,aB,R,_,_,F⟩:=(V o).place f6J;simp only[Value.slice.injEq]at R;obtain⟨rfl,h9,rfl⟩:=R
   have aq:wr.cell? ⟨bx,ox+k,none⟩=some (.int .i32 (xs.getD k 0)):=by
    have h3:=F k E;rw[Y.cell (x0a h3)];exact h3
   have y:Rune (xs.getD k 0):=by
    have:=(V o).1 (xs.getD k 0) N0g;exact⟨this.1,this.2⟩
   have KF:=O (V U (xs.getD k 0) wr y Y);have aj:=O (V (t k E));have S:=V (ai k);rw[List.length_take]at S;have aD:=V (q (xs.getD k 0));have m:=V (af (xs.getD k 0));have aC:=Y.size;have HB:=O Y;have X:=O l;obtain⟨K,J,ab,_,_⟩:=l.sk.shape;subst ab;generalize hzs:Cn.openAll rs (xs.take k)=zs,hfs:(Cn.full rs (xs.getD k 0)).1=N at *;generalize xs.getD k 0=c at *;have aL:zs.length<=2097152:=f6J;go_wp2_with fail;refine(V KF).mono ?_;rintro e1 w1 ⟨v1,rfl,s,b1⟩;obtain⟨fb,fo,fc,aw,_,_,ar⟩:=s.sk.place m;subst aw
   have G:∀j u,(N.map (Value.int .i32))[j]?=some u->w1.cell? ((⟨fb,fo,none⟩:Addr).add j)=some u:=by
    intro j u d;obtain⟨hj,d⟩:=List.getElem?_eq_some_iff.1 d;rw[List.length_map]at hj;rw[addr_add,ar j hj,<- d];simp[List.getD,hj]
   have Q:w1.ownsRow w.heap.size 21 1 (.slice K zs.length J) zs.length (zs.map (Value.int .i32)):=by
    have:=((V X).below b1).row;exact W2P
   have aH:=b1.size;have D:=O Q;have Z:=O G;have ag:=O (V X).1;have I:=O s.1;have L:=O (bthen (V HB) b1);go_wp2_with(at_builtin;refine wpList_append_own _ rfl (.tmp 15) (.tmp 21) 36 rfl w.heap.size 21 i0 (.int .i32 0) 1 4 underlying36 hi ay az aA rfl e8Q _ _ _ rfl (V D) ⟨fb,fo,none⟩ N.length fc (N.map (Value.int .i32)) rfl (by simp) (V Z) (fun u d=>p8L) T7X f6J f6J ?_);intro v2 T a b _
   have C:Ok .i32 21 T w.heap.size v2 (zs++N):=by
    refine Ok.of (n:=zs.length+N.length) (us:=zs.map (Value.int .i32)++N.map (Value.int .i32)) (fun z hz=>?_) P8P a (by simp) (by simp);rcases List.mem_append.1 hz with hz | hz
    ·exact V ag z hz
    ·exact V I z hz
   have am:Bw w T:=(V L).grown b f6J (fun j hj=>((V D).lt j hj).1);have M:=O C;have i:=O am;go_wp2
   go_roundw
   case rel=>exact⟨k+1,g2E,f6J,by rw[V aj];exact V M,V i⟩
   case measure=>exact g7W
  ·obtain rfl:k=xs.length:=f6J;rw[V ae]at l;have A:Hid (x0h w (Cn.openAll rs xs) (.returned u5) wr):=⟨u5,rfl,l,Y⟩
   obtain⟨K,yl,J,ab⟩:∃K yl J,u5=.slice K yl J:=by
    obtain⟨K,J,e,_,_⟩:=l.sk.shape;exact⟨K,_,J,e⟩
   subst ab;go_wp2;go_ret;exact V A
def refN(ns:List Nat):Int:=if ns.any (fun n=>decide (65536<n))then 2 else 0
theorem z0Y{A:List Nat}{k}(G:k<A.length):refN (A.drop k)=if 65536<A.getD k 0 then 2 else refN (A.drop (k+1)):=by
 rw[List.drop_eq_getElem_cons G];unfold refN;rw[List.any_cons];have:A.getD k 0=A[k]:=w7Y;rw[this];by_cases h:65536<A[k]
 ·grind
 ·grind
theorem y0i p g n ns w(F:ns.length=n)(T:n<=10)(I:∀i,i<n->∃ao cap,w.cell? ⟨g,i,none⟩=some (.slice ao (ns.getD i 0) cap)/\cap<=9223372036854775807/\ns.getD i 0<=cap):Calls prog 111 #[.pointer (some ⟨p,0,none⟩),.slice (some ⟨g,0,none⟩) n n] w fun e w'=>e=.returned (.int .i64 (refN ns))/\w'=w:=by
 have C:=O I;have o:Hid (∀k,k<n->refN (ns.drop k)=if 65536<ns.getD k 0 then 2 else refN (ns.drop (k+1))):=fun k G=>z0Y f6J;obtain⟨A,S⟩:∃r,refN ns=r:=⟨_,rfl⟩;rw[S];have K:Hid (refN (ns.drop 0)=A):=(by grind);have z:Hid (refN (ns.drop n)=0):=(by show _=_;rw[<- F,List.drop_length];rfl);go_enter func111,ntmps111;go_wp2;go_loopw[6,11] (fun _ D wr=>wr=w/\∃k:Nat,D=.int .i64 k/\k<=n/\refN (ns.drop k)=A) (fun _ D _=>n-(intOf D).toNat)
 case atStart=>exact⟨rfl,0,rfl,f6J,V K⟩
 case round =>
  obtain⟨rfl,k,rfl,G,L⟩:=hrel;by_cases E:k<n
  ·have R:=V o k E;rw[L]at R;obtain⟨ao,cap,N,H,Q⟩:=V C k E;have J:=O R;generalize ns.getD k 0=m at *;by_cases P:65536<m
   ·have L:=V J;rw[if_pos P]at L;subst L;go_wp2;go_ret;exact⟨rfl,rfl⟩
   ·have L:=V J;rw[if_neg P]at L;have M:=O L;go_wp2
    go_roundw
    case rel=>exact⟨f5X,k+1,g2B,f6J,(V M).symm⟩
    case measure=>exact g7T
  ·obtain rfl:k=n:=f6J;rw[V z]at L;subst L;go_wp2;go_ret;exact⟨rfl,rfl⟩
def SeqE(w:World)(zs:List Int)(er:Int)(e:Ending)(w':World):Prop:=∃v,e=.returned (.tuple #[v,.int .i64 er])/\Ok .i32 21 w' w.heap.size v zs/\Below w.heap.size w w'
theorem one_cell(w:World) ao n cap ty:(w.alloc (.cells #[.slice ao n cap] ty)).cell? ⟨w.heap.size,0,none⟩=some (.slice ao n cap):=f0h
namespace Cn
end Cn
namespace Cn
end Cn
open Ti
namespace Cn
def looks(rs:List Rec)(c:Int):List Int:=if(rget rs 8 c).to=[]then[c]else(rget rs 8 c).to
section
variable {rs:List Rec} {c:Int}
end
end Cn
open Ti
namespace Cn
end Cn
open Ti
namespace Cn
end Cn
namespace Cn
end Cn
open Ti
open Ti
