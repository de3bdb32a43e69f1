/- Lemmas. -/
import Derived.Test.YtkfcabdmkmljjaaGreatDoorH21
import Derived.Deep.RegionHeld
import Derived.Laws.AppendOwnNone
import Derived.Maps.AppendAt
import Derived.Laws.MakeOwn
import Derived.Deep.CutBlock
import Derived.Deep.DeepCutAuto
set_option maxHeartbeats 4000000
set_option maxRecDepth 8000
namespace Go.Proofs.YtkfcabdmkmljjaaGreatDoor
open Go.Proofs.Tryz
open Go.RowKit
open Ti
section
variable{p:Prop}
theorem W0Y(h:p:=by unfold I64;exact e8M):p:=h
theorem s1y(h:p:=by exact absurd (Prod.mk.inj h).2 e8M):p:=h
theorem n2t(h:p:=by go_enter func256,ntmps256;exact t6u):p:=h
theorem V0Y(h:p:=by(intro w hSw;obtain⟨⟨s0,s1⟩,⟨x0,x1,x2,x3,x4,x5,u,x7⟩⟩:=hSw;go_simp)):p:=h
theorem U3k(h:p:=by go_enter func163,ntmps163;go_wp2_with fail;refine(V K).mono ?_;rintro e Q ⟨rfl,rfl⟩;clear K;go_wp2;go_ret2;exact g9T):p:=h
theorem V1D(h:p:=by rintro e w ⟨rfl,rfl⟩;go_wp2_with fail;refine(V k _).mono ?_;rintro e w ⟨rfl,rfl⟩;go_wp2_with fail;refine(V E _).mono ?_;rintro e w ⟨rfl,rfl⟩;go_wp2;go_ret2;exact⟨by first| rfl | simp,rfl⟩):p:=h
theorem F3c(h:p:=by go_enter func257,ntmps257;go_wp2_with fail;refine(V i).mono ?_;rintro e w ⟨rfl,rfl⟩;exact t6v):p:=h
theorem r8O(h:p:=by exact⟨fun e=>by rw[e]at this;simp at this,f6J⟩):p:=h
theorem G9j(h:p:=by rintro e w ⟨rfl,rfl⟩;go_wp2_with fail;refine(V k _).mono ?_;rintro e w ⟨rfl,rfl⟩;go_wp2_with fail;refine(V E _).mono ?_;rintro e w ⟨rfl,rfl⟩;go_wp2;go_ret2;exact g9T):p:=h
theorem F0P(h:p:=by go_wp2_with fail;refine(V K2).mono ?_;rintro N G ⟨u,rfl,A,z⟩;have U:Hid (x0h w zs (.returned u) G):=⟨u,rfl,A.lower (V l).size,bthen (V l) z⟩;exact s1g):p:=h
theorem f1Z(h:p:=by(intro w hSw;go_simp;first| done|(rw[IntKind.wrap_i32];omega)|(unfold wrap32;omega) | omega)):p:=h
theorem e0R(h:p:=by rintro e w ⟨rfl,rfl⟩;go_wp2_with fail;refine(V k _).mono ?_;rintro e w ⟨rfl,rfl⟩;go_wp2;go_ret2;exact g9T):p:=h
theorem f5y(h:p:=by obtain⟨uo,m,b,_,_⟩:=o.sk.shape;exact⟨uo,_,m,b⟩):p:=h
end
theorem x6t(w:World)(o:Obj):(w.alloc o).heap.size=w.heap.size+1:=Array.size_push ..
structure RecC(w:World)(g off:Nat)(r:Rec)(ao:Option Addr)(ln cp:Nat):Prop where
 x0:w.cell? ⟨g,off,none⟩=some (.int .i64 r.kind)
 x1:w.cell? ⟨g,off+1,none⟩=some (.int .i64 r.lo)
 x2:w.cell? ⟨g,off+2,none⟩=some (.int .i64 r.hi)
 x3:w.cell? ⟨g,off+3,none⟩=some (.int .i64 r.n)
 x4:w.cell? ⟨g,off+4,none⟩=some (.slice ao ln cp)
 x5:w.cell? ⟨g,off+5,none⟩=some (.string r.name)
 x6:w.cell? ⟨g,off+6,none⟩=some (.string r.other)
 x7:w.cell? ⟨g,off+7,none⟩=some (.float .f64 r.wt)
theorem RecC.keep{w w':World}{g off:Nat}{r:Rec}{ao:Option Addr}{A cp:Nat}(h:RecC w g off r ao A cp)(G:w'.heap[g]?=w.heap[g]?):RecC w' g off r ao A cp:=by
 have I:∀j,w'.cell? ⟨g,j,none⟩=w.cell? ⟨g,j,none⟩:=fun j=>(by simp only[World.cell?,G]);exact⟨by rw[I];exact h.x0,by rw[I];exact h.x1,by rw[I];exact h.x2,by rw[I];exact h.x3,by rw[I];exact h.x4,by rw[I];exact h.x5,by rw[I];exact h.x6,by rw[I];exact h.x7⟩
def OfP(w:World)(B:Nat)(r:Rec)(e:Ending)(w':World):Prop:=∃vt,e=.returned (recV r vt)/\Ok .i32 21 w B vt r.to/\Below w.heap.size w w'
theorem z5l{t l:Value}{rs:List Rec}{f:Int}{B:Nat}(c:Int)(w:World)(hS:SpP w B t l (Cn.famOf f rs))(y:(Cn.check6 rs).2=0)(hf:f≠10/\f≠0)(hc:Rune c):Calls prog 258 #[.agg #[t,l],.int .i32 c] w (OfP w B (Cn.rget rs f c)):=by
 obtain⟨aB,aC⟩:=hc;obtain⟨⟨a,m,e,s,hs,t4⟩,L,I,D⟩:=hS;subst e;have hv:=(Cn.x8F y hf s hs).2 c;obtain⟨k,hk⟩:∃k:Nat,Tri.get 0 m c=(k:Int):=⟨(Tri.get 0 m c).toNat,f6J⟩;have d:L.length=(Cn.famOf f rs).length+1:=(by have:=congrArg List.length D;simpa using this);have x:k<L.length:=f6J;have az:(Cn.famOf f rs).length<=4096:=Nat.le_trans (List.length_filter_le _ _) (Cn.x0k.1 y).1
 have am:L[k].1=Cn.rget rs f c:=by
  have h2:=hv.2.2;rw[hk,Int.toNat_natCast,<- D]at h2;have h3:(L.map (·.1)).getD k Cn.none=L[k].1:=(by simp[List.getD,x]);rw[<- h3];exact h2
 obtain⟨g,M,i⟩:∃g M,l=.slice (some ⟨g,0,none⟩) L.length M:=by
  rcases I.1.2 with⟨_,h0⟩ | ⟨g,M,aA,e,_⟩
  ·omega
  ·exact⟨g,M,e⟩
 subst i;obtain⟨r,ao,A,U,hq,x0,x1,x2,x3,x4,x5,u,x7,_⟩:=I.cells8 x;have af:RecC w g (k*8) r ao A U:=⟨x0,x1,x2,x3,x4,x5,u,x7⟩;have q:r=Cn.rget rs f c:=(by rw[<- am,hq]);rw[<- q];have o:Ok .i32 21 w B (.slice ao A U) r.to:=(by have:=I.2 L[k] (List.getElem_mem x);rw[hq]at this;exact this);have Q:=O o;have aj:g<w.heap.size:=x0a x0
 have KG:Hid (∀W,Bw w W->Calls prog 38 #[.pointer (some a),.int .i64 c] W (x1a W (k:Int))):=fun W R=>by
  have:=get4 _ m 0 c W ⟨B,t4.below R⟩ ⟨f6J,f6J⟩;rw[hk]at this;exact this
 have aD:L.length<=5000:=f6J;clear hv hk d am D I hq x0 x1 x2 x3 x4 x5 u x7 o s hs t4 y q az;generalize L.length=P at *;obtain⟨X,ab⟩:∃X,(w.alloc (.cells #[.pointer (some a),.slice (some ⟨g,0,none⟩) P M] 88)).alloc (.cells #[.int .i64 0,.int .i64 0,.int .i64 0,.int .i64 0,.slice none 0 0,.string ⟨#[]⟩,.string ⟨#[]⟩,.float .f64 0] 60)=X:=⟨_,rfl⟩;have N:=x6t w (.cells #[.pointer (some a),.slice (some ⟨g,0,none⟩) P M] 88);have F:=(Below.refl w.heap.size w).alloc (l0r _) (.cells #[.pointer (some a),.slice (some ⟨g,0,none⟩) P M] 88);have G:=heap_alloc_new w (.cells #[.pointer (some a),.slice (some ⟨g,0,none⟩) P M] 88)
 have ae:Bw w X:=by
  rw[<- ab];exact F.alloc f6J _
 have ar:X.heap[w.heap.size+1]?=some (.cells #[.int .i64 0,.int .i64 0,.int .i64 0,.int .i64 0,.slice none 0 0,.string ⟨#[]⟩,.string ⟨#[]⟩,.float .f64 0] 60 (0,0)):=by
  rw[<- ab,<- N];exact heap_alloc_new _ _
 have aq:X.heap[w.heap.size]?=some (.cells #[.pointer (some a),.slice (some ⟨g,0,none⟩) P M] 88 (0,0)):=by
  rw[<- ab,heap_alloc_old _ _ f6J];exact G
 have aF:X.heap.size=w.heap.size+2:=by rw[<- ab,x6t];exact f6J
 have HS:Hid (∀W,Bw X W->(W.cell? ⟨w.heap.size,0,none⟩=some (.pointer (some a))/\W.cell? ⟨w.heap.size,1,none⟩=some (.slice (some ⟨g,0,none⟩) P M))/\RecC W g (k*8) r ao A U):=fun W R=>by
  have e1:=R.block w.heap.size f6J;rw[aq]at e1;exact⟨⟨cell_of (j:=0) e1 n5Z,cell_of (j:=1) e1 w2h⟩,af.keep (by rw[R.block g f6J,ae.block g aj])⟩
 have HZ:Hid (∀W,Bw X W->W.heap[w.heap.size+1]?=some (.cells #[.int .i64 0,.int .i64 0,.int .i64 0,.int .i64 0,.slice none 0 0,.string ⟨#[]⟩,.string ⟨#[]⟩,.float .f64 0] 60 (0,0))):=fun W R=>by
  rw[R.block _ f6J];exact ar
 have Z:=O ae;have aw:=O aj;clear F G ar aq af ae;go_enter func258,ntmps258;go_wp2;refine wp_region_held_drew (S:=fun w'=>((w'.cell? ⟨w.heap.size,0,none⟩=some (.pointer (some a))/\w'.cell? ⟨w.heap.size,1,none⟩=some (.slice (some ⟨g,0,none⟩) P M))/\RecC w' g (k*8) r ao A U)) f4y (V HS _ (x0i ⟨1,rfl⟩)) (fun hHeld=>?_);refine tk9 0 (.pointer (some ⟨w.heap.size,1,none⟩)) ?_ (hy:=V0Y);refine tk9 1 (.slice (some ⟨g,0,none⟩) P M) ?_ (hy:=V0Y);refine tk9 2 (.pointer (some ⟨w.heap.size,0,none⟩)) ?_ (hy:=V0Y);refine tk9 3 (.pointer (some a)) ?_ (hy:=V0Y);refine tk9 4 (.int .i32 c) ?_ (hy:=V0Y);refine tk9 5 (.int .i64 c) ?_ (hy:=by(intro w hSw;obtain⟨⟨s0,s1⟩,⟨x0,x1,x2,x3,x4,x5,u,x7⟩⟩:=hSw;go_simp;rw[IntKind.wrap_i64];omega));refine rd9 6 fun K hK=>?_;go_simp;refine(V KG _ (bthen (V Z) (x0i ⟨1,rfl⟩))).mono ?_;rintro e2 w2 ⟨rfl,mm,rfl⟩;have T:=O (bthen (x0i ⟨1,rfl⟩) (x0i ⟨mm,rfl⟩):Bw X _);refine hK.out _ _ ?_ (fun hHeld=>?_)
 ·exact V HS _ (V T)
 clear hK K
 try simp only[Act.put,sa9,sb9,sc9]
 refine tk9 7 (.pointer (some ⟨g,k*8,none⟩)) ?_ (hy:=V0Y);refine tk9 8 (recV r (.slice ao A U)) ?_ (hy:=by(intro w hSw;obtain⟨⟨s0,s1⟩,⟨x0,x1,x2,x3,x4,x5,u,x7⟩⟩:=hSw;first| exact loadR x0 x1 x2 x3 x4 x5 u x7|(unfold recV;go_simp)));refine rd9 9 fun K hK=>?_;generalize((X.drewN 1).drewN mm)=C at *;have E:=V HZ _ (V T);have H:=V HS _ (V T);have s9:=q0R (off:=0) E (by show 0+8<=8;exact f6J) r ao A U;have n:=z0A (off:=0) E (r,.slice ao A U);have J:∀b,b≠w.heap.size+1->(putR C (w.heap.size+1) 0 (r,.slice ao A U)).heap[b]?=C.heap[b]?:=fun b hb=>x9R _ hb;have ag:Bw w (putR C (w.heap.size+1) 0 (r,.slice ao A U)):=x8G (bthen (V Z) (V T)) f6J _;generalize putR C (w.heap.size+1) 0 (r,.slice ao A U)=V3 at *;refine x7v rfl 60 (.tmp 4) (.tmp 13) rfl (.pointer (some ⟨w.heap.size+1,0,none⟩)) (recV r (.slice ao A U)) rfl rfl s9 ?_;refine hK.out _ _ ?_ (fun hHeld=>?_)
 ·obtain⟨⟨q0,q1⟩,q2⟩:=H;have hc:∀j,V3.cell? ⟨w.heap.size,j,none⟩=C.cell? ⟨w.heap.size,j,none⟩:=fun j=>(by simp only[World.cell?,J w.heap.size f6J]);exact⟨⟨by rw[hc];exact q0,by rw[hc];exact q1⟩,q2.keep (J g (by have:=V aw;exact f6J))⟩
 clear hK K
 try simp only[Act.put]
 refine wpAnyH_done f4y ?_ _
 have z:RecC V3 (w.heap.size+1) 0 r ao A U:=by
  have Y:∀j,j<8->V3.cell? ⟨w.heap.size+1,j,none⟩=(x0A (r,.slice ao A U))[j]?:=fun j hj=>by
   have e:=z0Z #[.int .i64 0,.int .i64 0,.int .i64 0,.int .i64 0,.slice none 0 0,.string ⟨#[]⟩,.string ⟨#[]⟩,.float .f64 0] 0 (r,.slice ao A U) (by show 0+8<=8;exact f6J) j;rw[if_pos f6J,Nat.sub_zero]at e;rw[<- e];simp[World.cell?,n]
  exact⟨Y 0 f6J,Y 1 f6J,Y 2 f6J,Y 3 f6J,Y 4 f6J,Y 5 f6J,Y 6 f6J,Y 7 f6J⟩
 obtain⟨z0,z1,z2,z3,z4,z5,z6,z7⟩:=z;have ai:OfP w B r (.returned (recV r (.slice ao A U))) V3:=⟨_,rfl,V Q,ag⟩;clear n J ag E s9 H hHeld HZ HS;go_wp2;refine bodyPost_ret (v:=recV r (.slice ao A U)) (by simp[results,Tryz.results258,go_sem,z0,z1,z2,z3,z4,z5,z6,z7,recV]) rfl ai
namespace Cn
def within(c a b:Int):Bool:=decide (a<=c/\c<=b)
def bare2(c:Int):Bool:=syl c&&decide ((c-44032)%28=0)
def sylOf(a b:Int):Int×Bool :=
 if(jl a&&jv b)=true then(44032+((a-4352)*21+b-4449)*28,true)else if(bare2 a&&jt b)=true then(a+b-4520+1,true)else(0,false)
end Cn
theorem x2x c a b w:Calls prog 256 #[.int .i32 c,.int .i32 a,.int .i32 b] w fun e w'=>e=.returned (.bool (Cn.within c a b))/\w'=w:=by
 unfold Cn.within;by_cases Z:a<=c
 ·by_cases D:c<=b
  ·rw[d0t ⟨Z,D⟩];exact n2t
  ·rw[d0f (fun h=>D h.2)];have g:decide (c<=b)=false:=d0f D;exact n2t
 ·rw[d0f (fun h=>Z h.1)];have u:decide (a<=c)=false:=d0f Z;exact n2t
theorem z1y c w:Calls prog 257 #[.int .i32 c] w fun e w'=>e=.returned (.bool (Cn.bare2 c))/\w'=w:=by
 have i:=O (x2x c 44032 55203 w);have P:Cn.within c 44032 55203=Cn.syl c:=rfl;rw[P]at i;unfold Cn.bare2;by_cases L:Cn.syl c=true
 ·have F:44032<=c/\c<=55203:=o0d L;obtain⟨f,U⟩:=F;rw[L]at i ⊢;have P:(c-44032).tmod 28=(c-44032)%28:=Int.tmod_eq_emod_of_nonneg f6J;obtain⟨D,C⟩:∃D,decide ((c-44032)%28=0)=D:=⟨_,rfl⟩;rw[C];have x:((c-44032)%28==0)=D:=f6J;exact F3c
 ·rw[Bool.not_eq_true]at L;rw[L]at i ⊢;exact F3c
theorem y0j a b w:Calls prog 212 #[.int .i32 a,.int .i32 b] w fun e w'=>e=.returned (.tuple #[.int .i32 (Cn.sylOf a b).1,.bool (Cn.sylOf a b).2])/\w'=w:=by
 have i:Hid (∀w,Calls prog 256 #[.int .i32 a,.int .i32 4352,.int .i32 4370] w fun e w'=>e=.returned (.bool (Cn.jl a))/\w'=w):=fun w=>x2x a 4352 4370 w;have j:Hid (∀w,Calls prog 256 #[.int .i32 b,.int .i32 4449,.int .i32 4469] w fun e w'=>e=.returned (.bool (Cn.jv b))/\w'=w):=fun w=>x2x b 4449 4469 w;have k:=O (fun w=>z1y a w);have E:Hid (∀w,Calls prog 256 #[.int .i32 b,.int .i32 4520,.int .i32 4546] w fun e w'=>e=.returned (.bool (Cn.jt b))/\w'=w):=fun w=>x2x b 4520 4546 w;have Z:Cn.jl a=true->4352<=a/\a<=4370:=fun h=>o0d h;have D:Cn.jv b=true->4449<=b/\b<=4469:=fun h=>o0d h
 have J:Cn.bare2 a=true->44032<=a/\a<=55203:=fun h=>by
  unfold Cn.bare2 at h;rw[Bool.and_eq_true]at h;exact o0d h.1
 have H:Cn.jt b=true->4520<=b/\b<=4546:=fun h=>o0d h;unfold Cn.sylOf;generalize Cn.jl a=q1,Cn.jv b=q2,Cn.bare2 a=q3,Cn.jt b=f at *;replace Z:=O Z;replace D:=O D;replace J:=O J;replace H:=O H;by_cases y:(q1&&q2)=true
 ·rw[if_pos y];obtain⟨rfl,rfl⟩:q1=true/\q2=true:=(by simpa using y);obtain⟨d,P⟩:=V Z rfl;obtain⟨b1,u⟩:=V D rfl;go_enter func212,ntmps212;go_wp2_with fail;refine(V i _).mono ?_;rintro e w ⟨rfl,rfl⟩;go_wp2_with fail;refine(V j _).mono ?_;rintro e w ⟨rfl,rfl⟩;go_wp2;go_ret2;exact⟨by first| rfl | simp,rfl⟩
 ·rw[if_neg y]
  cases q1 with
  | false =>
   cases q3 with
   | false =>
    rw[if_neg M7K];go_enter func212,ntmps212;go_wp2_with fail;refine(V i _).mono ?_;exact e0R
   | true =>
    cases f with
    | false =>
     rw[if_neg M7K];go_enter func212,ntmps212;go_wp2_with fail;refine(V i _).mono ?_;exact G9j
    | true =>
     rw[if_pos (show(true&&true)=true from rfl)];obtain⟨d,P⟩:=V J rfl;obtain⟨b1,u⟩:=V H rfl;go_enter func212,ntmps212;go_wp2_with fail;refine(V i _).mono ?_;exact V1D
  | true =>
   obtain rfl:q2=false:=by cases q2<;>simp_all
   cases q3 with
   | false =>
    rw[if_neg M7K];go_enter func212,ntmps212;go_wp2_with fail;refine(V i _).mono ?_;rintro e w ⟨rfl,rfl⟩;go_wp2_with fail;refine(V j _).mono ?_;exact e0R
   | true =>
    cases f with
    | false =>
     rw[if_neg M7K];go_enter func212,ntmps212;go_wp2_with fail;refine(V i _).mono ?_;rintro e w ⟨rfl,rfl⟩;go_wp2_with fail;refine(V j _).mono ?_;exact G9j
    | true =>
     rw[if_pos (show(true&&true)=true from rfl)];obtain⟨d,P⟩:=V J rfl;obtain⟨b1,u⟩:=V H rfl;go_enter func212,ntmps212;go_wp2_with fail;refine(V i _).mono ?_;rintro e w ⟨rfl,rfl⟩;go_wp2_with fail;refine(V j _).mono ?_;exact V1D
open Ti
namespace Cn
def cmp9(rs:List Rec)(a b:Int):Int×Bool:=if(sylOf a b).2=true then((sylOf a b).1,true)else((x2z rs a b).getD 0,(x2z rs a b).isSome)
def mapping(rs:List Rec)(c:Int):List Int:=if(rget rs 1 c).kind=4 then[(rget rs 1 c).to.getD 0 0+(c-(rget rs 1 c).lo)]else(rget rs 1 c).to
theorem rget_cases{rs:List Rec}(y:(check6 rs).2=0){f:Int}(z:f≠10/\f≠0)(c:Int):(hit rs f c=Option.none/\rget rs f c=none)\/(hit rs f c=some (rget rs f c)/\rget rs f c∈rs/\fam (rget rs f c).kind=f/\speaks (rget rs f c) c=true/\right (rget rs f c)=0):=by
 unfold rget
 cases he:hit rs f c with
 | none=>exact .inl ⟨rfl,rfl⟩
 | some r =>
  obtain⟨i,A,M⟩:=(x1N y z r).1 he;exact .inr ⟨rfl,i,A,M,(x0k.1 y).2.1 r i⟩
theorem y3i{r:Rec}(h:right r=0)(H:r.kind=4):r.to.length=1/\0<=r.to.getD 0 0/\r.to.getD 0 0<=1114111/\r.to.getD 0 0+r.hi-r.lo<=1114111:=by
 have z:=x0x h;unfold right at h;rw[if_neg z,if_neg f6J]at h;have I:=x1v h;rw[Bool.and_eq_true,if_neg f6J,if_neg f6J,if_pos H]at I;have D:=I.2;simp only[Bool.and_eq_true]at D;obtain⟨S,L⟩:=x0v D.1.2;have K:=o0d D.2;have J:r.to.length=1:=f6J
 have o:r.to.getD 0 0∈r.to:=by
  match hr:r.to,J with
  | [x],_=>simp
 have:=x2V (L _ o);exact⟨J,this.1,this.2,f6J⟩
theorem x4m{rs:List Rec}(A:(check6 rs).2=0)(c:Int)(H:(rget rs 1 c).kind=4):(rget rs 1 c).to.length=1/\0<=(rget rs 1 c).to.getD 0 0/\(rget rs 1 c).to.getD 0 0<=1114111/\0<=(rget rs 1 c).lo/\(rget rs 1 c).lo<=c/\c<=1114111/\(rget rs 1 c).to.getD 0 0+(c-(rget rs 1 c).lo)<=1114111:=by
 rcases rget_cases A (f:=1) e8N c with⟨_,e⟩ | ⟨_,_,_,L,u⟩
 ·rw[e]at H;exact absurd H e8N
 ·obtain⟨U,D,C⟩:=x0p u f6J;obtain⟨I,r2,r3,r4⟩:=y3i u H;unfold speaks at L;obtain⟨_,_,X,y,q,K,_⟩:=o0d L;exact⟨I,r2,r3,U,q,y,f6J⟩
end Cn
theorem z8a{W:World}{a:Addr}{u:Value}(h:W.cell? a=some u)(z:W.frozen? a=false)(y:Int):(Instr.storeAt 21 (.pointer (some a)) (.int .i32 y)).run prog W=.ok () (W.setCell a (.int .i32 y)):=by
 simp[Instr.storeAt,go_sem,h,z]
theorem Ok.setAt9{K:IntKind}{e:TypeId}{w:World}{B g n cap:Nat}{zs:List Int}(h:Ok K e w B (.slice (some ⟨g,0,none⟩) n cap) zs)(k:Nat)(z:Int)(T:Fit K [z]) :
  Ok K e (w.setCell ⟨g,k,none⟩ (.int K z)) B (.slice (some ⟨g,0,none⟩) n cap) (zs.set k z)/\w.frozen? ⟨g,k,none⟩=false:=by
 have J:=h.row;rcases J.2 with⟨R,_⟩ | ⟨S,A,Q,N,Y,H,F,G,f,U⟩
 ·cases R
 ·exact u4b
theorem y0A{B p:Nat}{rs:List Rec}(a b:Int)(w:World)(l:x0m w B p rs)(g:Rune a)(Y:Rune b):Calls prog 163 #[.pointer (some ⟨p,0,none⟩),.int .i32 a,.int .i32 b] w fun e w'=>e=.returned (.tuple #[.int .i32 (Cn.cmp9 rs a b).1,.bool (Cn.cmp9 rs a b).2])/\w'=w:=by
 obtain⟨o,t2,N,R,t5,d,v,P,l2,f,U,X,l4,t,n,y,m,S,Z,D,J⟩:=l;have K:=O (y0j a b w);have x:w.cell? ⟨p,15,none⟩=some y:=cell_of (j:=15) Z (by show 15<18;exact f6J);obtain⟨I,r2,rfl,E,b1,u,i,A⟩:=J.co;have F:=(z4Y (w:=w) (M:=95) (z:=.int .i32 0) klP underlying95 z4K (r:=I) i (k:=pk2 a b) ⟨a,b,rfl,g,Y⟩).1;rw[y4B]at F;unfold Cn.cmp9;clear Z D J i A E;obtain⟨W,G⟩:=g;obtain⟨T,H⟩:=Y;generalize Cn.sylOf a b=q at *;obtain⟨C,s⟩:=q
 cases s with
 | true =>
  clear F;exact U3k
 | false =>
  cases hpo:Cn.x2z rs a b with
  | none =>
   rw[hpo]at F;replace F:(Instr.lookup 95 (.map (some I)) (.agg #[.int .i32 a,.int .i32 b]) true).run prog w=.ok (.tuple #[.int .i32 0,.bool false]) w:=F;clear hpo;exact U3k
  | some z =>
   rw[hpo]at F;replace F:(Instr.lookup 95 (.map (some I)) (.agg #[.int .i32 a,.int .i32 b]) true).run prog w=.ok (.tuple #[.int .i32 z,.bool true]) w:=F;clear hpo;exact U3k
theorem y1g{B p:Nat}{rs:List Rec}(c:Int)(w:World)(hD:x0m w B p rs)(y:(Cn.check6 rs).2=0)(s:∀r∈rs,RecFit r)(hc:Rune c):Calls prog 213 #[.pointer (some ⟨p,0,none⟩),.int .i32 c] w (x0h w (Cn.mapping rs c)):=by
 obtain⟨t1,t2,t3,t4,t5,a1,l1,a2,l2,a3,l3,a4,l4,a5,l5,c1,c2,x1,Z,h2,J⟩:=hD;have K1:=O (z5l c w J.q1 y e8P hc);have x5:w.cell? ⟨p,5,none⟩=some a1:=cell_of (j:=5) Z (by show 5<18;exact f6J);have x6:w.cell? ⟨p,6,none⟩=some l1:=cell_of (j:=6) Z (by show 6<18;exact f6J);obtain⟨⟨aa,m,e,-⟩,ps,hR,-⟩:=J.q1;subst e
 obtain⟨aT,aS,i⟩:∃ao ai,l1=.slice ao ps.length ai:=by
  rcases hR.1.2 with⟨e,R⟩ | ⟨g,ai,aA,e,_⟩
  ·exact⟨_,_,by rw[e,R]⟩
  ·exact⟨_,_,e⟩
 subst i;have M:=Cn.x4m y c
 have D:RecFit (Cn.rget rs 1 c):=by
  rcases Cn.rget_cases y (f:=1) e8P c with⟨_,e⟩ | ⟨_,hm,_⟩
  ·rw[e];exact⟨⟨e8P,e8P⟩,⟨e8P,e8P⟩,⟨e8P,e8P⟩,⟨e8P,e8P⟩,e8P,e8P⟩
  ·exact s _ hm
 obtain⟨aM,aN⟩:=hc;clear Z h2 J y hR s;unfold Cn.mapping;generalize Cn.rget rs 1 c=r at *;obtain⟨zs,P⟩:∃zs,r.to=zs:=⟨_,rfl⟩;have az:=D.len;rw[P]at M az ⊢;have N:=O P;have hk:=D.kind;have aP:=D.lo;have E:=O M;obtain⟨aJ,C⟩:∃a,(if r.kind=4 then[zs.getD 0 0+(c-r.lo)]else zs)=a:=⟨_,rfl⟩;rw[C];have k:=O C;clear P D M C;go_enter func213,ntmps213;go_wp2_with fail;refine(V K1).mono ?_;rintro e1 Q ⟨vt,rfl,o,b1⟩;clear K1 x5 x6;rw[V N]at o;obtain⟨ao,tc,rfl,aQ,aR⟩:=o.sk.shape;obtain⟨d,aK,Y,I⟩:=x0J Q r.kind r.lo r.hi r.n (.slice ao zs.length tc) r.name r.other r.wt;have aB:∀W a m,(store a (.float .f64 r.wt) m).run prog W=stored prog W a (.float .f64 r.wt) m:=fun W a m=>run_store prog W a _ m rfl;have b:=O (x2I (.slice ao zs.length tc) zs d ((o.sk.below b1).below I) az);have l:=O (bthen b1 I);have q:=O (bthen b1 I).size;have U:Hid (∀W,Bw d W->BoxAt W Q.heap.size r.kind r.lo r.hi r.n (.slice ao zs.length tc) r.name r.other r.wt):=fun W h=>Y.keep h;obtain⟨z0,z1,z2,z3,z4,z5,z6,z7⟩:=Y;clear o b1 I N;unfold recV;generalize r.kind=kd,r.lo=lo,r.hi=hi,r.n=n at *;generalize r.name=nm,r.other=ot,r.wt=wt at *;clear r;go_wp2_with fail;refine(V b).mono ?_;rintro e2 t ⟨v2,rfl,ab,u⟩;obtain⟨y0,y1,y2,y3,y4,y5,y6,y7⟩:=V U t u;have H:=O y1;have T:=O (bthen (V l) u);have af:=O u;clear b z0 z2 z3 z4 z5 z6 z7 aB l u;by_cases h4:kd=4
 ·have ha:=V k;rw[if_pos h4]at ha;obtain⟨s1,s2,s3,s4,s5,s6,s7⟩:=V E h4
  obtain⟨x,rfl⟩:∃x,zs=[x]:=by
   match zs,s1 with
   | [x],_=>exact⟨x,rfl⟩
  simp only[List.getD_cons_zero]at ha s2 s3 s7;subst ha h4;clear k E;obtain⟨gt,aF,aj,X,aH,aI,aq⟩:=ab.sk.place M7M
  have aD:aF=0:=by
   rcases ab.row.2 with⟨e,_⟩ | ⟨g',aG,aA,e,_⟩
   ·rw[X]at e;simp at e
   ·rw[X]at e;simp only[Value.slice.injEq,Option.some.injEq,Addr.mk.injEq]at e;exact e.1.2.1
  subst aD;have L:t.cell? ⟨gt,0,none⟩=some (.int .i32 x):=aq 0 M7M;subst X;have HS:Hid (∀W,Bw t W->W.cell? ⟨gt,0,none⟩=some (.int .i32 x)/\W.cell? ⟨Q.heap.size,1,none⟩=some (.int .i64 lo)):=fun W h=>⟨by rw[h.cell (x0a L)];exact L,by rw[h.cell (x0a y1)];exact y1⟩;have ag:Hid (gt≠Q.heap.size):=by have Z:=(ab.row.lt gt rfl).1;have h2:=x0a z1;show gt≠_;exact f6J
  have HE:Hid (∀W,Bw t W->x0h w [x+(c-lo)] (.returned (.slice (some ⟨gt,0,none⟩) 1 aj)) (W.setCell ⟨gt,0,none⟩ (.int .i32 (x+(c-lo))))/\W.frozen? ⟨gt,0,none⟩=false):=fun W h=>by
   have hk:=(ab.below h).setAt9 0 (x+(c-lo)) (fun z hz=>by rw[List.mem_singleton]at hz;subst hz;exact x1j f6J);have aO:d.heap.size<=gt:=(ab.row.lt gt rfl).1;exact⟨⟨_,rfl,hk.1.lower (V q),x0b (bthen (V T) h) (by have:=V q;exact f6J) _⟩,hk.2⟩
  clear ab aq U af L z1 y2 y3 y4 y5 y6 y7 H T;go_wp2;clear y0 y1;refine wp_region_held_drew (S:=fun w'=>w'.cell? ⟨Q.heap.size,1,none⟩=some (.int .i64 lo)) f4y ((V HS _ (x0i ⟨1,rfl⟩)).2) (fun hHeld=>?_);refine tk9 0 (.slice (some ⟨gt,0,none⟩) 1 aj) ?_;refine tk9 1 (.pointer (some ⟨gt,0,none⟩)) ?_;refine tk9 3 (.int .i32 c) ?_;refine tk9 4 (.pointer (some ⟨Q.heap.size,1,none⟩)) ?_;refine tk9 5 (.int .i64 lo) ?_ (hy:=by(intro w hSw;have s1:=hSw;go_simp));refine tk9 6 (.int .i32 lo) ?_ (hy:=f1Z);refine tk9 7 (.int .i32 (c-lo)) ?_ (hy:=f1Z);have am:Bw t t.drew:=x0i ⟨1,rfl⟩;have A:=V HS _ am;have F:=V HE _ am;have aC:=V ag;clear HS HE ag;generalize t.drew=G at *;refine rd9 2 fun K hK=>?_
  have aw:(Instr.loadAt 21 (.pointer (some ⟨gt,0,none⟩))).run prog G=.ok (.int .i32 x) G:=by
   have R:=A.1;simp[Instr.loadAt,go_sem,R]
  refine y6U rfl 21 (.tmp 21) rfl (.pointer (some ⟨gt,0,none⟩)) (.int .i32 x) rfl aw ?_;refine hK.out _ _ ?_ (fun hHeld=>?_)
  ·exact A.2
  clear hK K
  try simp only[Act.put,sa9,sb9,sc9]
  refine tk9 8 (.int .i32 (x+(c-lo))) ?_ (hy:=f1Z);refine tk9 9 (.pointer (some ⟨gt,0,none⟩)) ?_;refine rd9 10 fun K hK=>?_;have s9:=z8a A.1 F.2 (x+(c-lo));have ae:=F.1
  have ar:(G.setCell ⟨gt,0,none⟩ (.int .i32 (x+(c-lo)))).cell? ⟨Q.heap.size,1,none⟩=some (.int .i64 lo):=by
   rw[World.cell?_setCell_far _ _ _ _ aC];exact A.2
  clear F A aw;generalize G.setCell ⟨gt,0,none⟩ (.int .i32 (x+(c-lo)))=w4 at *;refine x7v rfl 21 (.tmp 29) (.tmp 28) rfl (.pointer (some ⟨gt,0,none⟩)) (.int .i32 (x+(c-lo))) rfl rfl s9 ?_;refine hK.out _ _ ?_ (fun hHeld=>?_)
  ·exact ar
  clear hK K s9
  try simp only[Act.put]
  refine wpAnyH_done f4y ?_ _;have v:=O ae;clear ae hHeld ar;go_wp2;go_ret;exact V v
 ·have ha:=V k;rw[if_neg h4]at ha;subst ha;clear k E;have aL:(kd==4)=false:=(by rw[beq_eq_false_iff_ne];exact h4);have HF:Hid (x0h w zs (.returned v2) t):=⟨v2,rfl,ab.lower (V q),V T⟩;clear ab U H af z1;exact I7o
open Ti
namespace Cn
theorem z9Z:x2c.take 150=x2c:=rfl
end Cn
theorem z5h:∀r∈Cn.x2c,RecFit r:=by
 intro p s;simp only[Cn.x2c,List.mem_cons,List.mem_nil_iff,or_false]at s;rcases s with rfl | rfl | rfl | rfl | rfl | rfl | rfl | rfl | rfl | rfl<;>exact⟨W0Y,W0Y,W0Y,W0Y,e8M,e8M⟩
namespace Cn
end Cn
end Go.Proofs.YtkfcabdmkmljjaaGreatDoor
namespace Go.Proofs.YtkfcabdmkmljjaaGreatDoor.Cn
open Go.Proofs.Tryz
theorem y3v l:∀(f:Nat) (C:List Int) (c:Int) (out:List Int),(∀x∈out,opn l x=[])->∀x∈(walk l f C c out).1,opn l x=[]:=by
 intro f
 induction f with
 | zero =>
  intro C c out h;rw[walk];split
  ·grind
  ·split<;>(intro x A;cases A)
 | succ f ih =>
  intro C c out h;rw[walk];split
  ·grind
  ·split
   ·intro x A;cases A
   ·have S:∀(X:List Int) (s:List Int×Int),(∀x∈s.1,opn l x=[])->∀x∈(X.foldl (stepW l f (C++[c])) s).1,opn l x=[]:=i7V
    exact S _ _ h
theorem z1D l:∀(f:Nat) (A:List Int) (c:Int) (out:List Int),(walk l f A c out).2=0->out.length<(walk l f A c out).1.length:=by
 intro f
 induction f with
 | zero =>
  intro A c out;rw[walk];split
  ·grind
  ·grind
 | succ f ih =>
  intro A c out;rw[walk];split
  ·split
   ·intro h;exact absurd h e8N
   ·intro _;simp
  ·next hc =>
   split
   ·intro h;exact absurd h e8N
   ·have S:∀(X:List Int) (s:List Int×Int),(X.foldl (stepW l f (A++[c])) s).2=0->s.1.length+X.length<=(X.foldl (stepW l f (A++[c])) s).1.length:=by
     intro X
     induction X with
     | nil=>intro s _;simp
     | cons x X ihx =>
      intro s L;rw[List.foldl_cons]at L ⊢;have Z:=ihx _ L
      have R:s.2=0:=by
       refine Decidable.byContradiction fun F=>?_;rw[stepW,if_neg F,x1I _ _ _ _ _ F]at L;exact F L
      have D:(stepW l f (A++[c]) s x).2=0:=by
       refine Decidable.byContradiction fun F=>?_;rw[x1I _ _ _ _ _ F]at L;exact F L
      unfold stepW at Z D L ⊢;rw[if_pos R]at Z D;have J:=ih _ _ _ D;simp only[List.length_cons];simp only[if_pos R]at *;omega
    intro h;have:=S _ _ h;have t:0<(opn l c).length:=List.length_pos_iff.2 hc;simp only at this;exact Nat.lt_of_lt_of_le f6J this
def jamo(c:Int):Prop:=(4352<=c/\c<=4370)\/(4449<=c/\c<=4469)\/(4520<=c/\c<=4546)
theorem x2v{r c}(h:speaks r c=true):r.lo<=c/\c<=r.hi:=by
 unfold speaks at h;obtain⟨_,_,_,_,K,y,_⟩:=o0d h;exact⟨K,y⟩
theorem y4m{l}(h:(check l).2=0){c}(hc:jamo c){f}(z:f=2\/f=3):hit l f c=Option.none:=by
 obtain⟨y,u,_,_⟩:=x1c.1 h
 cases e:hit l f c with
 | none=>rfl
 | some r =>
  obtain⟨Z,D,J⟩:=x2m e;have L:=x2v J;have R:=u r Z;unfold record at R;rw[if_neg f6J]at R;split at R
  ·exact absurd R e8N
  ·split at R
   ·exact absurd R e8N
   ·next hn =>
    refine absurd ?_ hn;simp only[Bool.or_eq_true,covers,decide_eq_true_eq];rcases hc with hc | hc | hc
    ·exact .inl (.inl (.inl f6J))
    ·exact .inl (.inl (.inr f6J))
    ·exact .inl (.inr f6J)
theorem x9v{l}(h:(check l).2=0){c}(I:jamo c):opn l c=[]:=by
 unfold opn
 have:syl c=false:=by
  unfold syl;unfold jamo at I;exact d0f f6J
 rw[this,y4m h I (.inr rfl)];rfl
theorem z3l{l}(h:(check l).2=0){c}(I:jamo c):cls l c=0:=by
 unfold cls;rw[y4m h I (.inl rfl)]
theorem z5n{l c}(L:syl c=true)(o:(c-44032)%28=0):opn l c=[4352+(c-44032) / 588,4449+(c-44032) / 28%21]:=by
 unfold opn;rw[if_pos L,if_pos o]
theorem z0l{l c}(L:syl c=true)(o:¬(c-44032)%28=0):opn l c=[c-(c-44032)%28,4519+(c-44032)%28]:=by
 unfold opn;rw[if_pos L,if_neg o]
theorem x8r{l:List Rec}:∀(x:List Int),(∀c∈x,cls l c=0)->fallsA l x=false
 | [],_=>rfl
 | [_],_=>rfl
 | a::b::r,h=>by
  rw[fallsA,x8r (b::r) fun c I=>h c (List.mem_cons_of_mem _ I)];simp[h b M7K]
theorem z4t{l}(h:(check l).2=0){c}(L:syl c=true):(full l c).2=0/\∀x∈(full l c).1,jamo x:=by
 have Y:44032<=c/\c<=55203:=o0d L
 have H:∀(d:Int),syl d=true->(d-44032)%28=0->∀(f:Nat) (E out:List Int),¬d∈E->out.length<30->walk l (f+1) E d out=(out++[4352+(d-44032) / 588,4449+(d-44032) / 28%21],0)/\jamo (4352+(d-44032) / 588)/\jamo (4449+(d-44032) / 28%21):=by
  intro d hd o f E out m X;have D:44032<=d/\d<=55203:=o0d hd;have N:jamo (4352+(d-44032) / 588):=.inl f6J;have a:jamo (4449+(d-44032) / 28%21):=.inr (.inl f6J);refine⟨?_,N,a⟩;rw[x7F (by rw[z5n hd o];exact M7M) f m,z5n hd o];simp only[List.foldl_cons,List.foldl_nil,stepW];rw[if_pos trivial,x1f (x9v h N),if_neg (c:=32<=out.length) f6J];simp only[if_true];rw[x1f (x9v h a),if_neg P8P];simp
 unfold full;by_cases o:(c-44032)%28=0
 ·obtain⟨e,N,a⟩:=H c L o 15 [] [] M7M M7M;rw[e];refine⟨rfl,fun x A=>?_⟩;simp at A;rcases A with rfl | rfl
  ·exact N
  ·exact a
 ·have hd:syl (c-(c-44032)%28)=true:=d0t f6J;have F:(c-(c-44032)%28-44032)%28=0:=f6J;have C:jamo (4519+(c-44032)%28):=.inr (.inr f6J);rw[x7F (by rw[z0l L o];exact M7M) 15 M7M,z0l L o];obtain⟨e,N,a⟩:=H _ hd F 14 ([]++[c]) [] P8P M7M;simp only[List.foldl_cons,List.foldl_nil,stepW];rw[if_pos trivial,e];simp only[if_true];rw[x1f (x9v h C),if_neg M7M];refine⟨rfl,fun x A=>?_⟩;simp at A;rcases A with rfl | rfl | rfl
  ·exact N
  ·exact a
  ·exact C
theorem fam_three{k}(h:fam k=3):k=7\/k=8:=R8h
theorem leaves{l}(h:(check l).2=0) c:(full l c).2=0/\0<(full l c).1.length/\(full l c).1.length<=32/\(∀x∈(full l c).1,opn l x=[])/\fallsA l (full l c).1=false:=by
 have R:(full l c).2=0/\fallsA l (full l c).1=false:=by
  by_cases L:syl c=true
  ·obtain⟨Z,D⟩:=z4t h L;exact⟨Z,x8r _ fun x A=>z3l h (D x A)⟩
  ·by_cases X:opn l c=[]
   ·unfold full;rw[x1f X,if_neg M7M];exact⟨rfl,rfl⟩
   ·have q:∃r,hit l 3 c=some r:=by
     unfold opn at X;rw[if_neg L]at X
     cases e:hit l 3 c with
     | none=>grind
     | some r=>exact⟨r,rfl⟩
    obtain⟨r,u⟩:=q;obtain⟨Z,D,J⟩:=x2m u;obtain⟨y,n,_,_⟩:=x1c.1 h;have F:=x2v J
    have N:r.lo=r.hi:=by
     rcases fam_three D with hk | hk
     ·exact(x0C ((x0k.1 y).2.1 r Z) hk).1
     ·exact(x2u ((x0k.1 y).2.1 r Z) hk).1
    have I:r.lo=c:=f6J;have T:=n r Z;rw[x9T]at T;unfold recF at T;rw[if_neg f6J]at T;split at T
    ·exact absurd T e8N
    ·grind
 exact⟨R.1,z1D l 16 [] c [] R.1,x4g l c,y3v l 16 [] c [] (fun x A=>absurd A M7M),R.2⟩
theorem x9j{l:List Rec}:∀(x:List Int),fallsA l x=false->∀k,k+1<x.length->cls l (x.getD (k+1) 0)=0\/cls l (x.getD k 0)<=cls l (x.getD (k+1) 0)
 | [],_,k,hk=>absurd hk M7K
 | [_],_,k,hk=>absurd hk M7K
 | a::b::r,h,k,hk=>by
  rw[fallsA,Bool.or_eq_false_iff]at h
  cases k with
  | zero =>
   have:=of_decide_eq_false h.1;show cls l b=0\/cls l a<=cls l b;omega
  | succ k=>exact x9j (b::r) h.2 k (by simpa using hk)
end Go.Proofs.YtkfcabdmkmljjaaGreatDoor.Cn
namespace Go.Proofs.YtkfcabdmkmljjaaGreatDoor
open Go.Proofs.Tryz
open Go.RowKit
namespace Cn
theorem z8c{l}(h:(check l).2=0){c}(I:syl c=true){f}(z:f=2\/f=3):hit l f c=Option.none:=by
 obtain⟨y,u,_,_⟩:=x1c.1 h;unfold syl at I;have I:=o0d I
 cases e:hit l f c with
 | none=>rfl
 | some r =>
  obtain⟨Z,D,J⟩:=x2m e;have L:=x2v J;have R:=u r Z;unfold record at R;rw[if_neg f6J]at R;split at R
  ·exact absurd R e8N
  ·split at R
   ·exact absurd R e8N
   ·next hn =>
    refine absurd ?_ hn;simp only[Bool.or_eq_true,covers,decide_eq_true_eq];exact e5w
theorem z1u{rs}(h:(check rs).2=0){c r}(q:hit rs 3 c=some r):r.to≠[]/\r.to.length<=2:=by
 have y:=(x1c.1 h).1;obtain⟨i,A,M⟩:=(x1N y e8N r).1 q;have u:=(x0k.1 y).2.1 r i;rcases fam_three A with e | e
 ·have:=(x0v (x0C u e).2.2).1;exact r8O
 ·have:=(x0v (x2u u e).2.2).1;exact r8O
theorem z0k{rs}(h:(check rs).2=0) c:((rget rs 3 c).to=[]/\opn [] c=opn rs c)\/((rget rs 3 c).to≠[]/\(rget rs 3 c).to=opn rs c/\(rget rs 3 c).to.length<=2):=by
 unfold rget
 cases he:hit rs 3 c with
 | none =>
  refine .inl ⟨rfl,?_⟩;unfold opn;rw[he];rfl
 | some r =>
  obtain⟨Z,D⟩:=z1u h he;refine .inr ⟨Z,?_,D⟩
  have L:syl c=false:=by
   cases L:syl c with
   | false=>rfl
   | true=>rw[z8c h L (.inr rfl)]at he;cases he
  unfold opn;rw[L,he];rfl
theorem z7A{rs}(h:(check rs).2=0) c:(opn rs c).length<=2:=by
 unfold opn;split
 ·exact f1X
 ·cases he:hit rs 3 c with
  | none=>simp
  | some r=>exact(z1u h he).2
end Cn
theorem z2R k lo hi n ao ln cp a b y w:(Instr.field 60 (.agg #[.int .i64 k,.int .i64 lo,.int .i64 hi,.int .i64 n,.slice ao ln cp,.string a,.string b,.float .f64 y]) 4).run prog w=.ok (.slice ao ln cp) w:=f4x
theorem y1o{B p rs} c w(C:Glob w)(F:x0m w B p rs)(hk:(Cn.check rs).2=0)(I:Rune c):Calls prog 288 #[.pointer (some ⟨p,0,none⟩),.int .i32 c] w (x0h w (Cn.opn rs c)):=by
 have y:=(Cn.x1c.1 hk).1;obtain⟨t1,t2,t3,t4,Y,d,v,a2,T,a3,l3,a4,k,t,l5,c1,q,x1,Z,D,J⟩:=F;have K1:=O (z5l c w J.q2 y e8N I);have x5:w.cell? ⟨p,7,none⟩=some a2:=cell_of (j:=7) Z (by show 7<18;exact f6J);have x6:w.cell? ⟨p,8,none⟩=some T:=cell_of (j:=8) Z (by show 8<18;exact f6J);obtain⟨⟨a,m,e,-⟩,L,hR,-⟩:=J.q2;subst e
 obtain⟨K,ag,i⟩:∃ao M,T=.slice ao L.length M:=by
  rcases hR.1.2 with⟨e,R⟩ | ⟨g,M,ab,e,_⟩
  ·exact⟨_,_,by rw[e,R]⟩
  ·exact⟨_,_,e⟩
 subst i;have s:=O (Cn.z0k hk c);have x:=fun W (hW:Bw w W)=>O (openC (.slice none 0 0) [] c W (C.on hW) (Rcs.nil W) I);obtain⟨ae,H⟩:=I;generalize Cn.rget rs 3 c=r,Cn.opn rs c=zs at *;go_enter func288,ntmps288;go_wp2_with fail;refine(V K1).mono ?_;rintro P Q ⟨vt,rfl,o,b1⟩;obtain⟨ao,tc,rfl,X,af⟩:=o.sk.shape;have l:=O b1;have f:=o.sk.below b1;have b:=z2R r.kind r.lo r.hi r.n ao r.to.length tc r.name r.other r.wt Q;unfold recV;rcases V s with⟨P,E⟩ | ⟨P,E,N⟩
 ·have K2:=O (V (x Q b1));rw[E]at K2;rw[P]at b ⊢;simp only[List.length_nil]at b ⊢;exact F0P
 ·rw[E]at f b P N X ⊢;have K2:=O (x2I _ zs Q f f6J);have S:0<zs.length:=List.length_pos_iff.2 P;exact F0P
namespace Cn
def Tree(l:List Rec):Nat->Int->List Int->Prop
 | 0,c,ys=>opn l c=[]/\ys=[c]
 | n+1,c,ys=>(opn l c=[]/\ys=[c])\/(opn l c≠[]/\∃yss:List (List Int),yss.length=(opn l c).length/\(∀i,i<(opn l c).length->Tree l n ((opn l c).getD i 0) (yss.getD i []))/\ys=yss.flatten)
theorem y0Q{l:List Rec}{f:Nat}{A:List Int}(H:∀d out r,walk l f A d out=(r,0)->∃ys,r=out++ys/\Tree l f d ys):∀(D:List Int) (out r:List Int),D.foldl (stepW l f A) (out,0)=(r,0)->∃T:List (List Int),T.length=D.length/\r=out++T.flatten/\∀i,i<D.length->Tree l f (D.getD i 0) (T.getD i [])
 | [],out,r,h=>by
  have:=(Prod.mk.inj h).1;subst this;exact⟨[],rfl,M7K,fun i hi=>v5E⟩
 | d::D,out,r,h=>by
  rw[List.foldl_cons]at h;have e:stepW l f A (out,0) d=walk l f A d out:=(by simp[stepW]);rw[e]at h;obtain⟨⟨E,P⟩,y⟩:∃q,walk l f A d out=q:=⟨_,rfl⟩;rw[y]at h;by_cases C:P=0
  ·subst C;obtain⟨ys,rfl,F⟩:=H d out E y;obtain⟨T,S,hr,I⟩:=y0Q H D (out++ys) r h;refine⟨ys::T,by simp[S],by rw[hr];exact M7K,fun i hi=>?_⟩
   cases i with
   | zero=>exact F
   | succ i=>simpa using I i w3z
  ·rw[x1I l f A D (E,P) C]at h;exact absurd (Prod.mk.inj h).2 C
theorem z1E{l}:∀(f:Nat) (A:List Int) (c:Int) (out r:List Int),walk l f A c out=(r,0)->∃ys,r=out++ys/\Tree l f c ys:=by
 intro f
 induction f with
 | zero =>
  intro A c out r h;by_cases X:opn l c=[]
  ·rw[x1f X]at h;split at h
   ·grind
   ·exact⟨[c],(Prod.mk.inj h).1.symm,X,rfl⟩
  ·by_cases m:c∈A
   ·rw[x2Y X _ m]at h;exact s1y
   ·rw[x7E X m]at h;exact s1y
 | succ f ih =>
  intro A c out r h;by_cases X:opn l c=[]
  ·rw[x1f X]at h;split at h
   ·exact s1y
   ·exact⟨[c],(Prod.mk.inj h).1.symm,.inl ⟨X,rfl⟩⟩
  ·by_cases m:c∈A
   ·rw[x2Y X _ m]at h;exact s1y
   ·rw[x7F X f m]at h;obtain⟨T,S,u,C⟩:=y0Q (fun d out r hd=>ih (A++[c]) d out r hd) _ _ _ h;exact⟨_,u,.inr ⟨X,T,S,C,rfl⟩⟩
theorem y8V{l}(h:(check l).2=0) c:Tree l 16 c (full l c).1:=by
 have D:=(leaves h c).1;obtain⟨ys,hy,A⟩:=z1E (l:=l) 16 [] c [] (full l c).1 (by rw[show walk l 16 [] c []=full l c from rfl];exact Prod.ext rfl D);rw[List.nil_append]at hy;rw[hy];exact A
end Cn
structure Grw(w w':World)(x v:Value):Prop where
 g:w.grownBy w' x.ownBlock
 own:∀k,v.ownBlock=some k->x.ownBlock=some k\/w.heap.size<=k
theorem Grw.trans{w w1 w2 x v u}(h:Grw w w1 x v)(D:Grw w1 w2 v u):Grw w w2 x u:=by
 have U:=h.g.size;refine⟨⟨D.g.os.trans h.g.os,D.g.tape.trans h.g.tape,D.g.output.trans h.g.output,Nat.le_trans U D.g.size,fun k G t=>?_⟩,fun k G=>?_⟩
 ·rw[D.g.block k f6J (fun e=>?_),h.g.block k G t];rcases h.own k e.symm with e2 | e2
  ·exact t e2.symm
  ·omega
 ·rcases D.own k G with e | e
  ·exact h.own k e
  ·exact e5w
theorem Grw.after{w w1 w2 x v}(Y:Bw w w1)(h:Grw w1 w2 x v):Grw w w2 x v:=by
 have U:=Y.size;refine⟨⟨h.g.os.trans Y.os,h.g.tape.trans Y.tape,h.g.output.trans Y.output,Nat.le_trans U h.g.size,fun k G t=>?_⟩,fun k G=>?_⟩
 ·rw[h.g.block k f6J t,Y.block k G]
 ·rcases h.own k G with e | e
  ·exact .inl e
  ·exact e5w
theorem Grw.refl w x:Grw w w x x:=⟨⟨rfl,rfl,rfl,l0r _,fun _ _ _=>rfl⟩,fun _ h=>.inl h⟩
def AppB(w:World)(B:Nat)(x:Value)(ys:List Int)(e:Ending)(w':World):Prop:=∃v,e=.returned v/\Ok .i32 21 w' B v ys/\Grw w w' x v
def z1T(w0:World)(p:Nat)(c:Int)(ys:List Int):Prop:=∀(x:Value) (xs:List Int) (w:World),Ok .i32 21 w w0.heap.size x xs->Below w0.heap.size w0 w->xs.length+ys.length<=1000000000->Calls prog 254 #[.pointer (some ⟨p,0,none⟩),x,.int .i32 c] w (AppB w w0.heap.size x (xs++ys))
theorem Sk.one9(w:World) c(I:-2147483648<=c/\c<=2147483647):Sk .i32 (w.alloc (.cells #[.int .i32 c] 21)) (.slice (some ⟨w.heap.size,0,none⟩) 1 1) [c]:=(x9O w w.heap.size (l0r _) c I).sk
theorem y9q:(prog.info? 21).map (fun i=>(i.zero,i.size,i.bytes))=some (some (.int .i32 0),1,4):=f4x
section
variable {B p:Nat} {rs:List Rec} {w0:World}
theorem y0R(hg:Glob w0)(hD:x0m w0 B p rs)(G:(Cn.check rs).2=0) c(I:Rune c)(ho:Cn.opn rs c=[]):z1T w0 p c [c]:=by
 intro x X w A f S;have i:=O (y1o c w (hg.on f) (hD.below f) G I);rw[ho]at i;obtain⟨r,hi,d,Y,R⟩:=info_parts y9q;have T:=f.size;have L:=O A;obtain⟨Z,v,ag,_,_⟩:=A.sk.shape;subst ag;obtain⟨l,H⟩:=I;simp only[List.length_singleton]at S;go_enter func254,ntmps254;go_wp2_with fail;refine(V i).mono ?_;rintro P w1 ⟨a,rfl,q,b1⟩;obtain⟨ao,M,g,_,_⟩:=q.sk.shape;simp only[List.length_nil]at g;subst g;have N:=b1.size;have ae:Ok .i32 21 (w1.alloc (.cells #[.int .i32 c] 21)) w0.heap.size (.slice Z X.length v) X:=((V L).below b1).below ((b0r).alloc (l0r _) _);have J:(w1.alloc (.cells #[.int .i32 c] 21)).ownsRow w0.heap.size 21 1 (.slice Z X.length v) X.length (X.map (Value.int .i32)):=(by simpa using ae.row);have F:=(Sk.one9 w1 c ⟨l,H⟩).place M7N
 have K:∀j u,[Value.int .i32 c][j]?=some u->(w1.alloc (.cells #[.int .i32 c] 21)).cell? ((⟨w1.heap.size,0,none⟩:Addr).add j)=some u:=by
  intro j u hj;obtain⟨bx,Q,cq,he,_,_,hh⟩:=F;simp only[Value.slice.injEq,Option.some.injEq,Addr.mk.injEq]at he;obtain⟨⟨rfl,rfl,_⟩,_,_⟩:=he
  cases j with
  | zero=>simp at hj;subst hj;rw[addr_add];exact hh 0 M7N
  | succ j=>simp at hj
 have D:=O J;have m:=O K;have E:=O ((V L).1);have ab:=O b1;have af:(w1.alloc (.cells #[.int .i32 c] 21)).heap.size=w1.heap.size+1:=M7N;have C:=O af;go_wp2_with(at_builtin;refine wpList_append_own_at _ rfl (.tmp 16) (.tmp 18) 36 rfl w0.heap.size 21 r (.int .i32 0) 1 4 underlying36 hi d Y R rfl e8P _ _ _ rfl (V D) ⟨w1.heap.size,0,none⟩ 1 1 [.int .i32 c] rfl rfl (V m) (fun u W=>by rw[List.mem_singleton]at W;subst W;rfl) T7X f6J (by rw[V C];exact f6J) ?_);intro v2 t s b _ o
 have y:AppB w w0.heap.size (.slice Z X.length v) (X++[c]) (.returned v2) t:=by
  refine⟨v2,rfl,Ok.of (n:=X.length+1) (us:=X.map (Value.int .i32)++[.int .i32 c]) ?_ P8P s M7N M7N,?_⟩
  ·intro z hz;rcases List.mem_append.1 hz with hz | hz
   ·exact V E z hz
   ·rw[List.mem_singleton]at hz;subst hz;exact x1j ⟨l,H⟩
  ·refine Grw.after (w1:=w1.alloc (.cells #[.int .i32 c] 21)) ((V ab).alloc N _) ⟨b,fun k G=>?_⟩;rcases o with e | e
   ·exact .inl (e ▸ G)
   ·grind
 have U:=O y;go_wp2;go_ret;exact V U
end
namespace Cn
theorem z3O{rs}(h:(check rs).2=0){c d}(hd:d∈opn rs c):Rune d:=by
 unfold opn at hd;unfold Rune;split at hd
 ·next L =>
  unfold syl at L;have L:=o0d L;split at hd
  ·grind
  ·simp only[List.mem_cons,List.mem_nil_iff,or_false]at hd;rcases hd with rfl | rfl<;>omega
 ·cases he:hit rs 3 c with
  | none=>rw[he]at hd;simp at hd
  | some r =>
   rw[he]at hd;have hd:d∈r.to:=hd;have y:=(x1c.1 h).1;obtain⟨i,A,M⟩:=(x1N y e8M r).1 he;have u:=(x0k.1 y).2.1 r i
   have C:scalar d=true:=by
    rcases fam_three A with e | e
    ·exact(x0v (x0C u e).2.2).2 d hd
    ·exact(x0v (x2u u e).2.2).2 d hd
   have:=x2V C;omega
theorem y0P(T:List (List Int)){k}(G:k<T.length):(T.take (k+1)).flatten=(T.take k).flatten++T.getD k []:=by
 rw[List.take_add_one,List.flatten_append,List.getElem?_eq_getElem G];exact w7Y
theorem z6M(T:List (List Int)){k}(G:k<T.length):((T.take k).flatten).length+(T.getD k []).length<=T.flatten.length:=by
 have Z:=congrArg List.length (y0P T G);rw[List.length_append]at Z;have D:T.flatten=(T.take (k+1)).flatten++(T.drop (k+1)).flatten:=(by rw[<- List.flatten_append,List.take_append_drop]);have J:=congrArg List.length D;rw[List.length_append]at J;omega
end Cn
section
variable {B p:Nat} {rs:List Rec} {w0:World}
theorem y8U(hg:Glob w0)(hD:x0m w0 B p rs)(hk:(Cn.check rs).2=0) c(hc:Rune c)(T:List (List Int))(ho:Cn.opn rs c≠[])(ai:T.length=(Cn.opn rs c).length)(ih:∀i,i<(Cn.opn rs c).length->z1T w0 p ((Cn.opn rs c).getD i 0) (T.getD i [])):z1T w0 p c T.flatten:=by
 intro x X w hx f hl;have K1:=O (y1o c w (hg.on f) (hD.below f) hk hc);have az:=Cn.z7A hk c;have af:=f.size;have HX:=O hx;have Z:=O f;have r:=O ih;have C:=fun k (h:k<T.length)=>O (Cn.z6M T h);have a:=fun k (h:k<T.length)=>O (Cn.y0P T h);have n:0<(Cn.opn rs c).length:=List.length_pos_iff.2 ho;obtain⟨xo,v,ag,_,_⟩:=hx.sk.shape;have Y:Hid (∀k,x.ownBlock=some k->w0.heap.size<=k/\k<w.heap.size):=fun k h=>hx.row.lt k h;obtain⟨ar,aw⟩:=hc;generalize Cn.opn rs c=D at *;subst ag;have y:=O ai;go_enter func254,ntmps254;go_wp2_with fail;refine(V K1).mono ?_;rintro e1 w1 ⟨v1,rfl,q,b1⟩;obtain⟨s,vo,aq,ae,M,am,t⟩:=q.sk.place n
 have aD:w.heap.size<=s:=by
  have:=(q.row.lt s (by rw[ae];rfl)).1;exact this
 subst ae;have aC:=b1.size;have l:=O b1;have G:=O t;have ab:=O q.1;have I:=(V HX).below b1;have W:=O I;have aj:((D.length:Int)==0)=false:=(by grind);go_wp2;go_loopw[1,9,22] (fun u _ P wr=>∃k:Nat,P=.int .i64 k/\k<=D.length/\Ok .i32 21 wr w0.heap.size u (X++(T.take k).flatten)/\Grw w1 wr (.slice xo X.length v) u) (fun _ _ P _=>D.length-(intOf P).toNat)
 case atStart=>exact⟨0,rfl,f6J,by simpa using V W,Grw.refl _ _⟩
 case round =>
  obtain⟨k,rfl,aA,o,N⟩:=hrel;have Q:=O o;have L:=O N;by_cases E:k<D.length
  ·have K:wr.cell? ⟨s,vo+k,none⟩=some (.int .i32 (D.getD k 0)):=by
    have h3:=V G k E;refine N.g.cell h3 (fun e=>?_);have:=V Y s e.symm;omega
   have aB:Rune (D.getD k 0):=by
    have:=V ab (D.getD k 0) N0c;exact v9c
   have J:Bw w0 wr:=((V Z).trans ((V l).mono af)).grown N.g f6J (fun j hj=>(V Y j hj).1);have z:=V (C k (by rw[V y];exact E));have KR:=O (V r k E u1 (X++(T.take k).flatten) wr o J u7D);have S:=O (V (a k (by rw[V y];exact E)))
   obtain⟨uo,H,m,b⟩:∃uo H m,u1=.slice uo H m:=f5y
   subst b;generalize D.getD k 0=d at *;go_wp2_with fail;refine(V KR).mono ?_;rintro e3 w3 ⟨v3,rfl,A,g3⟩;rw[List.append_assoc,<- V S]at A;have R:=O A;have F:=O ((V L).trans g3);go_wp2
   go_roundw
   case rel=>exact⟨k+1,g2A,f6J,V R,V F⟩
   case measure=>exact g7T
  ·obtain rfl:k=D.length:=f6J;rw[<- V y,List.take_length]at Q;have U:Hid (AppB w w0.heap.size (.slice xo X.length v) (X++T.flatten) (.returned u1) wr):=⟨u1,rfl,V Q,(V L).after (V l)⟩
   obtain⟨uo,H,m,b⟩:∃uo H m,u1=.slice uo H m:=f5y
   subst b;go_wp2;go_ret;exact V U
theorem x8t(C:Glob w0)(F:x0m w0 B p rs)(G:(Cn.check rs).2=0):∀(n:Nat) {c:Int} {ys:List Int},Cn.Tree rs n c ys->Rune c->z1T w0 p c ys
 | 0,c,_,⟨X,e⟩,hc=>by rw[e];exact y0R C F G c hc X
 | n+1,c,ys,ht,hc=>by
  rcases ht with⟨X,rfl⟩ | ⟨X,T,S,h,rfl⟩
  ·exact y0R C F G c hc X
  ·exact y8U C F G c hc T X S (fun i hi=>x8t C F G n (h i hi) (Cn.z3O G (c:=c) n7A))
theorem y8T c w(C:Glob w)(F:x0m w B p rs)(G:(Cn.check rs).2=0)(I:Rune c):Calls prog 209 #[.pointer (some ⟨p,0,none⟩),.int .i32 c] w (x0h w (Cn.full rs c).1):=by
 have d:=(Cn.leaves G c).2.2.1;have K:=O (x8t C F G 16 (Cn.y8V G c) I (.slice none 0 0) [] w (Ok.nil _ _ _ _) (b0r) P8P);rw[List.nil_append]at K;obtain⟨l,H⟩:=I;generalize(Cn.full rs c).1=m at *;go_enter func209,ntmps209;go_wp2_with fail;refine(V K).mono ?_;rintro P Q ⟨a,rfl,q,i⟩;have U:Hid (x0h w m (.returned a) Q):=⟨a,rfl,q,(Below.refl w.heap.size w).grown i.g (l0r _) (fun k G=>g6B)⟩;exact s1g
end
open Ti
namespace Cn
theorem x3Y{rs}(y:(check6 rs).2=0) c:0<=cls rs c/\cls rs c<=254:=by
 unfold cls
 cases he:hit rs 2 c with
 | none=>simp
 | some r =>
  obtain⟨i,A,M⟩:=(x1N y e8N r).1 he;have G:=(y9A A).2.1 rfl;exact y1D ((x0k.1 y).2.1 r i) f6J f6J
end Cn
namespace Cn
def openAll(rs:List Rec)(xs:List Int):List Int:=(xs.map fun c=>(full rs c).1).flatten
theorem y1n rs(xs:List Int){k}(G:k<xs.length):openAll rs (xs.take (k+1))=openAll rs (xs.take k)++(full rs (xs.getD k 0)).1:=by
 unfold openAll;rw[List.take_add_one,List.map_append,List.flatten_append,List.getElem?_eq_getElem G];exact w7Y
theorem x3G{rs}(h:(check rs).2=0) xs:(openAll rs xs).length<=32*xs.length:=by
 unfold openAll
 induction xs with
 | nil=>simp
 | cons c xs ih =>
  have:=(leaves h c).2.2.1;simp only[List.map_cons,List.flatten_cons,List.length_append,List.length_cons];omega
end Cn
theorem y6f(n:Nat) w B(m:B<=w.heap.size)(F:n<=70000):∃W,(Instr.makeSlice 36 (.int .i64 0) (.int .i64 (n:Int))).run prog w=.ok (.slice (some ⟨w.heap.size,0,none⟩) 0 n) W/\Ok .i32 21 W B (.slice (some ⟨w.heap.size,0,none⟩) 0 n) []/\w.grownBy W none:=by
 obtain⟨r,hi,d,Y,R⟩:=info_parts y9q;exact W9C
theorem y1p{B p rs} v xs w(hg:Glob w)(hD:x0m w B p rs)(G:(Cn.check rs).2=0)(hx:Sk .i32 w v xs)(aK:xs.length<=65536):Calls prog 159 #[.pointer (some ⟨p,0,none⟩),v] w (x0h w (Cn.openAll rs xs)):=by
 obtain⟨i0,hi,d,aA,R⟩:=info_parts y9q;have HX:=O hx;obtain⟨vo,vc,az,aI,aJ⟩:=hx.shape;subst az;have HF:Hid (∀c W,Rune c->Bw w W->Calls prog 209 #[.pointer (some ⟨p,0,none⟩),.int .i32 c] W (x0h W (Cn.full rs c).1)):=fun c W hc hW=>y8T c W (hg.on hW) (hD.below hW) G hc;have a:=fun k (h:k<xs.length)=>O (Cn.y1n rs xs h);have aj:=fun k=>O (Cn.x3G G (xs.take k));have af:=fun c=>O (Cn.leaves G c).2.2.1;have C:=fun c=>O (Cn.leaves G c).2.1;obtain⟨W0,aG,F,g0⟩:=y6f xs.length w w.heap.size (l0r _) f6J;have f:Bw w W0:=(b0r).grown g0 (l0r _) (fun k G=>g6B);have Z:=O f;have H:=O F;have t:Hid (Cn.openAll rs (xs.take xs.length)=Cn.openAll rs xs):=(by grind);go_enter func159,ntmps159;go_wp2;go_loopw[5,6,12] (fun yy _ P wr=>∃k:Nat,P=.int .i64 k/\k<=xs.length/\Ok .i32 21 wr w.heap.size yy (Cn.openAll rs (xs.take k))/\Bw w wr) (fun _ _ P _=>xs.length-(intOf P).toNat)
 case atStart=>exact⟨0,rfl,f6J,V H,V Z⟩
 case round =>
  obtain⟨k,rfl,aF,o,Y⟩:=hrel;by_cases E:k<xs.length
  ·obtain⟨bx,ox,aB,i,_,_,r⟩:=(V HX).place f6J;simp only[Value.slice.injEq]at i;obtain⟨rfl,h9,rfl⟩:=i
   have aq:wr.cell? ⟨bx,ox+k,none⟩=some (.int .i32 (xs.getD k 0)):=by
    have h3:=r k E;rw[Y.cell (x0a h3)];exact h3
   have U:Rune (xs.getD k 0):=by
    have:=(V HX).1 (xs.getD k 0) (by simp[List.getD,E]);exact⟨this.1,this.2⟩
   have KF:=O (V HF (xs.getD k 0) wr U Y);have S:=O (V (a k E));have g:=V (aj k);rw[List.length_take]at g;have aD:=V (af (xs.getD k 0));have m:=V (C (xs.getD k 0));have aC:=Y.size;have x:=O Y;have Q:=O o;obtain⟨L,K,I,_,_⟩:=o.sk.shape;subst I;generalize hzs:Cn.openAll rs (xs.take k)=zs,hfs:(Cn.full rs (xs.getD k 0)).1=N at *;generalize xs.getD k 0=c at *;have aL:zs.length<=2097152:=f6J;go_wp2_with fail;refine(V KF).mono ?_;rintro e1 w1 ⟨v1,rfl,ae,b1⟩;obtain⟨fb,fo,fc,aw,_,_,ar⟩:=ae.sk.place m;subst aw
   have q:∀j u,(N.map (Value.int .i32))[j]?=some u->w1.cell? ((⟨fb,fo,none⟩:Addr).add j)=some u:=by
    intro j u hu;obtain⟨X,hu⟩:=List.getElem?_eq_some_iff.1 hu;rw[List.length_map]at X;rw[addr_add,ar j X,<- hu];simp[List.getD,X]
   have J:w1.ownsRow w.heap.size 21 1 (.slice L zs.length K) zs.length (zs.map (Value.int .i32)):=by
    have:=((V Q).below b1).row;exact W2O
   have aH:=b1.size;have D:=O J;have A:=O q;have ai:=O (V Q).1;have y:=O ae.1;have l:=O (bthen (V x) b1);go_wp2_with(at_builtin;refine wpList_append_own _ rfl (.tmp 15) (.tmp 21) 36 rfl w.heap.size 21 i0 (.int .i32 0) 1 4 underlying36 hi d aA R rfl e8Q _ _ _ rfl (V D) ⟨fb,fo,none⟩ N.length fc (N.map (Value.int .i32)) rfl M7N (V A) (fun u hu=>P0M) T7X f6J f6J ?_);intro v2 w2 s b _
   have ab:Ok .i32 21 w2 w.heap.size v2 (zs++N):=by
    refine Ok.of (n:=zs.length+N.length) (us:=zs.map (Value.int .i32)++N.map (Value.int .i32)) (fun z hz=>?_) P8P s M7N M7N;rcases List.mem_append.1 hz with hz | hz
    ·exact V ai z hz
    ·exact V y z hz
   have am:Bw w w2:=(V l).grown b f6J (fun j X=>((V D).lt j X).1);have M:=O ab;have T:=O am;go_wp2
   go_roundw
   case rel=>exact⟨k+1,g2D,f6J,by rw[V S];exact V M,V T⟩
   case measure=>exact g7W
  ·obtain rfl:k=xs.length:=f6J;rw[V t]at o;have ag:Hid (x0h w (Cn.openAll rs xs) (.returned u5) wr):=⟨u5,rfl,o,Y⟩
   obtain⟨L,yl,K,I⟩:∃L yl K,u5=.slice L yl K:=by
    obtain⟨L,K,e,_,_⟩:=o.sk.shape;exact⟨L,_,K,e⟩
   subst I;go_wp2;go_ret;exact V ag
def refN(ns:List Nat):Int:=if ns.any (fun n=>decide (65536<n))then 2 else 0
theorem z0N{A:List Nat}{k}(G:k<A.length):refN (A.drop k)=if 65536<A.getD k 0 then 2 else refN (A.drop (k+1)):=by
 rw[List.drop_eq_getElem_cons G];unfold refN;rw[List.any_cons];have:A.getD k 0=A[k]:=w7Y;rw[this];by_cases h:65536<A[k]
 ·grind
 ·grind
theorem x9X p g n ns w(F:ns.length=n)(S:n<=10)(I:∀i,i<n->∃ao cap,w.cell? ⟨g,i,none⟩=some (.slice ao (ns.getD i 0) cap)/\cap<=9223372036854775807/\ns.getD i 0<=cap):Calls prog 111 #[.pointer (some ⟨p,0,none⟩),.slice (some ⟨g,0,none⟩) n n] w fun e w'=>e=.returned (.int .i64 (refN ns))/\w'=w:=by
 have C:=O I;have v:Hid (∀k,k<n->refN (ns.drop k)=if 65536<ns.getD k 0 then 2 else refN (ns.drop (k+1))):=fun k G=>z0N f6J;obtain⟨R,J⟩:∃r,refN ns=r:=⟨_,rfl⟩;rw[J];have x:Hid (refN (ns.drop 0)=R):=(by grind);have t:Hid (refN (ns.drop n)=0):=(by show _=_;rw[<- F,List.drop_length];rfl);go_enter func111,ntmps111;go_wp2;go_loopw[6,11] (fun _ D wr=>wr=w/\∃k:Nat,D=.int .i64 k/\k<=n/\refN (ns.drop k)=R) (fun _ D _=>n-(intOf D).toNat)
 case atStart=>exact⟨rfl,0,rfl,f6J,V x⟩
 case round =>
  obtain⟨rfl,k,rfl,G,L⟩:=hrel;by_cases E:k<n
  ·have A:=V v k E;rw[L]at A;obtain⟨ao,cap,K,l,H⟩:=V C k E;have d:=O A;generalize ns.getD k 0=m at *;by_cases o:65536<m
   ·have L:=V d;rw[if_pos o]at L;subst L;go_wp2;go_ret;exact⟨rfl,rfl⟩
   ·have L:=V d;rw[if_neg o]at L;have P:=O L;go_wp2
    go_roundw
    case rel=>exact⟨f5X,k+1,g2A,f6J,(V P).symm⟩
    case measure=>exact g7T
  ·obtain rfl:k=n:=f6J;rw[V t]at L;subst L;go_wp2;go_ret;exact⟨rfl,rfl⟩
def SeqE(w:World)(zs:List Int)(er:Int)(e:Ending)(w':World):Prop:=∃v,e=.returned (.tuple #[v,.int .i64 er])/\Ok .i32 21 w' w.heap.size v zs/\Below w.heap.size w w'
theorem one_cell(w:World) ao n cap ty:(w.alloc (.cells #[.slice ao n cap] ty)).cell? ⟨w.heap.size,0,none⟩=some (.slice ao n cap):=f0h
namespace Cn
end Cn
namespace Cn
end Cn
open Ti
namespace Cn
def looks(rs:List Rec)(c:Int):List Int:=if(rget rs 8 c).to=[]then[c]else(rget rs 8 c).to
section
variable {rs:List Rec} {c:Int}
end
end Cn
open Ti
namespace Cn
end Cn
open Ti
namespace Cn
end Cn
namespace Cn
end Cn
open Ti
open Ti
