/- Lemmas. -/
import Derived.Test.YtbmckadcjdedcaaGreatDoorK23
import Derived.Deep.RegionHeld
import Derived.Laws.AppendOwnNone
import Derived.Maps.AppendAt
import Derived.Laws.MakeOwn
import Derived.Deep.CutBlock
import Derived.Deep.DeepCutAuto
set_option maxHeartbeats 4000000
set_option maxRecDepth 8000
namespace Go.Proofs.YtbmckadcjdedcaaGreatDoor
open Go.Proofs.Tryz
open Go.RowKit
open Ti
section
variable{p:Prop}
theorem W0Y(h:p:=by unfold I64;exact e8M):p:=h
theorem s1y(h:p:=by exact absurd (Prod.mk.inj h).2 e8M):p:=h
theorem i4V(h:p:=by go_enter func196,ntmps196;exact t6u):p:=h
theorem p9Z(h:p:=by(intro w hSw;obtain⟨⟨s0,N⟩,⟨x0,u,X,x3,x,x5,x6,Q⟩⟩:=hSw;go_simp)):p:=h
theorem w4a(h:p:=by go_enter func100,ntmps100;go_wp2_with fail;refine(V K).mono ?_;rintro e G ⟨rfl,rfl⟩;clear K;go_wp2;go_ret2;exact g9T):p:=h
theorem T9o(h:p:=by rintro e w ⟨rfl,rfl⟩;go_wp2_with fail;refine(V G _).mono ?_;rintro e w ⟨rfl,rfl⟩;go_wp2_with fail;refine(V S _).mono ?_;rintro e w ⟨rfl,rfl⟩;go_wp2;go_ret2;exact⟨by first| rfl | simp,rfl⟩):p:=h
theorem V3P(h:p:=by go_enter func197,ntmps197;go_wp2_with fail;refine(V o).mono ?_;rintro e w ⟨rfl,rfl⟩;exact t6v):p:=h
theorem r8O(h:p:=by exact⟨fun e=>by rw[e]at this;simp at this,f6J⟩):p:=h
theorem I9k(h:p:=by rintro e w ⟨rfl,rfl⟩;go_wp2_with fail;refine(V G _).mono ?_;rintro e w ⟨rfl,rfl⟩;go_wp2_with fail;refine(V S _).mono ?_;rintro e w ⟨rfl,rfl⟩;go_wp2;go_ret2;exact g9T):p:=h
theorem s2I(h:p:=by go_wp2_with fail;refine(V K2).mono ?_;rintro J w3 ⟨K,rfl,a,b3⟩;have Y:Hid (x0j w L (.returned K) w3):=⟨K,rfl,a.lower (V Q).size,x0b (V Q) b3⟩;exact R3J):p:=h
theorem f1Z(h:p:=by(intro w hSw;go_simp;first| done|(rw[IntKind.wrap_i32];omega)|(unfold wrap32;omega) | omega)):p:=h
theorem N0Q(h:p:=by rintro e w ⟨rfl,rfl⟩;go_wp2_with fail;refine(V G _).mono ?_;rintro e w ⟨rfl,rfl⟩;go_wp2;go_ret2;exact g9T):p:=h
theorem P0x(h:p:=by obtain⟨T,U,S,_,_⟩:=y.sk.shape;exact⟨T,_,U,S⟩):p:=h
end
theorem x6n(w:World) o:(w.alloc o).heap.size=w.heap.size+1:=Array.size_push ..
structure RecC(w:World)(g off:Nat)(r:Rec)(ao:Option Addr)(ln cp:Nat):Prop where
 x0:w.cell? ⟨g,off,none⟩=some (.int .i64 r.kind)
 x1:w.cell? ⟨g,off+1,none⟩=some (.int .i64 r.lo)
 x2:w.cell? ⟨g,off+2,none⟩=some (.int .i64 r.hi)
 x3:w.cell? ⟨g,off+3,none⟩=some (.int .i64 r.n)
 x4:w.cell? ⟨g,off+4,none⟩=some (.slice ao ln cp)
 x5:w.cell? ⟨g,off+5,none⟩=some (.string r.name)
 x6:w.cell? ⟨g,off+6,none⟩=some (.string r.other)
 x7:w.cell? ⟨g,off+7,none⟩=some (.float .f64 r.wt)
theorem RecC.keep{w w' g off r ao}{ln cp}(h:RecC w g off r ao ln cp)(G:w'.heap[g]?=w.heap[g]?):RecC w' g off r ao ln cp:=by
 have T:∀j,w'.cell? ⟨g,j,none⟩=w.cell? ⟨g,j,none⟩:=fun j=>(by simp only[World.cell?,G]);exact⟨by rw[T];exact h.x0,by rw[T];exact h.x1,by rw[T];exact h.x2,by rw[T];exact h.x3,by rw[T];exact h.x4,by rw[T];exact h.x5,by rw[T];exact h.x6,by rw[T];exact h.x7⟩
def OfP(w:World)(B:Nat)(r:Rec)(e:Ending)(w':World):Prop:=∃vt,e=.returned (recV r vt)/\Ok .i32 21 w B vt r.to/\Below w.heap.size w w'
theorem z3R{t l rs f B} c w(hS:SpP w B t l (Cn.famOf f rs))(q:(Cn.check6 rs).2=0)(hf:f≠10/\f≠0)(T:Rune c):Calls prog 147 #[.agg #[t,l],.int .i32 c] w (OfP w B (Cn.rget rs f c)):=by
 obtain⟨aD,aF⟩:=T;obtain⟨⟨a,m,e,hp,hs,t4⟩,s,hR,E⟩:=hS;subst e;have hv:=(Cn.x8l q hf hp hs).2 c;obtain⟨k,hk⟩:∃k:Nat,Tri.get 0 m c=(k:Int):=⟨(Tri.get 0 m c).toNat,f6J⟩;have aq:s.length=(Cn.famOf f rs).length+1:=(by have:=congrArg List.length E;exact W2P);have af:k<s.length:=f6J;have az:(Cn.famOf f rs).length<=4096:=Nat.le_trans (List.length_filter_le _ _) (Cn.x0m.1 q).1
 have am:s[k].1=Cn.rget rs f c:=by
  have h2:=hv.2.2;rw[hk,Int.toNat_natCast,<- E]at h2;have h3:(s.map (·.1)).getD k Cn.none=s[k].1:=(by simp[List.getD,af]);rw[<- h3];exact h2
 obtain⟨g,M,aA⟩:∃g M,l=.slice (some ⟨g,0,none⟩) s.length M:=by
  rcases hR.1.2 with⟨_,h0⟩ | ⟨g,M,aC,e,_⟩
  ·omega
  ·exact⟨g,M,e⟩
 subst aA;obtain⟨r,R,o,A,hq,x0,u,X,x3,x,x5,x6,Q,_⟩:=hR.cells8 af;have ai:RecC w g (k*8) r R o A:=⟨x0,u,X,x3,x,x5,x6,Q⟩;have L:r=Cn.rget rs f c:=(by rw[<- am,hq]);rw[<- L];have y:Ok .i32 21 w B (.slice R o A) r.to:=(by have:=hR.2 s[k] (List.getElem_mem af);rw[hq]at this;exact this);have Z:=O y;have C:g<w.heap.size:=x0a x0
 have KG:Hid (∀W,Bw w W->Calls prog 146 #[.pointer (some a),.int .i64 c] W (x1r W (k:Int))):=fun W U=>by
  have:=get4 _ m 0 c W ⟨B,t4.below U⟩ ⟨f6J,f6J⟩;rw[hk]at this;exact this
 have aG:s.length<=5000:=f6J;clear hv hk aq am E hR hq x0 u X x3 x x5 x6 Q y hp hs t4 q L az;generalize s.length=F at *;obtain⟨H,ab⟩:∃H,(w.alloc (.cells #[.pointer (some a),.slice (some ⟨g,0,none⟩) F M] 138)).alloc (.cells #[.int .i64 0,.int .i64 0,.int .i64 0,.int .i64 0,.slice none 0 0,.string ⟨#[]⟩,.string ⟨#[]⟩,.float .f64 0] 67)=H:=⟨_,rfl⟩;have aB:=x6n w (.cells #[.pointer (some a),.slice (some ⟨g,0,none⟩) F M] 138);have aj:=(Below.refl w.heap.size w).alloc (l0r _) (.cells #[.pointer (some a),.slice (some ⟨g,0,none⟩) F M] 138);have ar:=heap_alloc_new w (.cells #[.pointer (some a),.slice (some ⟨g,0,none⟩) F M] 138)
 have ae:Bw w H:=by
  rw[<- ab];exact aj.alloc f6J _
 have ay:H.heap[w.heap.size+1]?=some (.cells #[.int .i64 0,.int .i64 0,.int .i64 0,.int .i64 0,.slice none 0 0,.string ⟨#[]⟩,.string ⟨#[]⟩,.float .f64 0] 67 (0,0)):=by
  rw[<- ab,<- aB];exact heap_alloc_new _ _
 have aw:H.heap[w.heap.size]?=some (.cells #[.pointer (some a),.slice (some ⟨g,0,none⟩) F M] 138 (0,0)):=by
  rw[<- ab,heap_alloc_old _ _ f6J];exact ar
 have aH:H.heap.size=w.heap.size+2:=by rw[<- ab,x6n];exact f6J
 have HS:Hid (∀W,Bw H W->(W.cell? ⟨w.heap.size,0,none⟩=some (.pointer (some a))/\W.cell? ⟨w.heap.size,1,none⟩=some (.slice (some ⟨g,0,none⟩) F M))/\RecC W g (k*8) r R o A):=fun W U=>by
  have e1:=U.block w.heap.size f6J;rw[aw]at e1;exact⟨⟨cell_of (j:=0) e1 n5Z,cell_of (j:=1) e1 w2h⟩,ai.keep (by rw[U.block g f6J,ae.block g C])⟩
 have n:Hid (∀W,Bw H W->W.heap[w.heap.size+1]?=some (.cells #[.int .i64 0,.int .i64 0,.int .i64 0,.int .i64 0,.slice none 0 0,.string ⟨#[]⟩,.string ⟨#[]⟩,.float .f64 0] 67 (0,0))):=fun W U=>by
  rw[U.block _ f6J];exact ay
 have D:=O ae;have P:=O C;clear aj ar ay aw ai ae;go_enter func147,ntmps147;go_wp2;refine wp_region_held_drew (S:=fun w'=>((w'.cell? ⟨w.heap.size,0,none⟩=some (.pointer (some a))/\w'.cell? ⟨w.heap.size,1,none⟩=some (.slice (some ⟨g,0,none⟩) F M))/\RecC w' g (k*8) r R o A)) f4y (V HS _ (x0k ⟨1,rfl⟩)) (fun hHeld=>?_);refine tk9 0 (.pointer (some ⟨w.heap.size,1,none⟩)) ?_ (hy:=p9Z);refine tk9 1 (.slice (some ⟨g,0,none⟩) F M) ?_ (hy:=p9Z);refine tk9 2 (.pointer (some ⟨w.heap.size,0,none⟩)) ?_ (hy:=p9Z);refine tk9 3 (.pointer (some a)) ?_ (hy:=p9Z);refine tk9 4 (.int .i32 c) ?_ (hy:=p9Z);refine tk9 5 (.int .i64 c) ?_ (hy:=by(intro w hSw;obtain⟨⟨s0,N⟩,⟨x0,u,X,x3,x,x5,x6,Q⟩⟩:=hSw;go_simp;rw[IntKind.wrap_i64];omega));refine rd9 6 fun K hK=>?_;go_simp;refine(V KG _ (x0b (V D) (x0k ⟨1,rfl⟩))).mono ?_;rintro e2 w2 ⟨rfl,mm,rfl⟩;have i:=O (x0b (x0k ⟨1,rfl⟩) (x0k ⟨mm,rfl⟩):Bw H _);refine hK.out _ _ ?_ (fun hHeld=>?_)
 ·exact V HS _ (V i)
 clear hK K
 try simp only[Act.put,sa9,sb9,sc9]
 refine tk9 7 (.pointer (some ⟨g,k*8,none⟩)) ?_ (hy:=p9Z);refine tk9 8 (recV r (.slice R o A)) ?_ (hy:=by(intro w hSw;obtain⟨⟨s0,N⟩,⟨x0,u,X,x3,x,x5,x6,Q⟩⟩:=hSw;first| exact loadR x0 u X x3 x x5 x6 Q|(unfold recV;go_simp)));refine rd9 9 fun K hK=>?_;generalize((H.drewN 1).drewN mm)=V2 at *;have I:=V n _ (V i);have ag:=V HS _ (V i);have s9:=z9E (off:=0) I (by show 0+8<=8;exact f6J) r R o A;have hV:=y9G (off:=0) I (r,.slice R o A);have d:∀b,b≠w.heap.size+1->(putR V2 (w.heap.size+1) 0 (r,.slice R o A)).heap[b]?=V2.heap[b]?:=fun b hb=>x9v _ hb;have G:Bw w (putR V2 (w.heap.size+1) 0 (r,.slice R o A)):=x8m (x0b (V D) (V i)) f6J _;generalize putR V2 (w.heap.size+1) 0 (r,.slice R o A)=V3 at *;refine x7h rfl 67 (.tmp 4) (.tmp 13) rfl (.pointer (some ⟨w.heap.size+1,0,none⟩)) (recV r (.slice R o A)) rfl rfl s9 ?_;refine hK.out _ _ ?_ (fun hHeld=>?_)
 ·obtain⟨⟨q0,q1⟩,q2⟩:=ag;have T:∀j,V3.cell? ⟨w.heap.size,j,none⟩=V2.cell? ⟨w.heap.size,j,none⟩:=fun j=>(by simp only[World.cell?,d w.heap.size f6J]);exact⟨⟨by rw[T];exact q0,by rw[T];exact q1⟩,q2.keep (d g (by have:=V P;exact f6J))⟩
 clear hK K
 try simp only[Act.put]
 refine wpAnyH_done f4y ?_ _
 have z:RecC V3 (w.heap.size+1) 0 r R o A:=by
  have Y:∀j,j<8->V3.cell? ⟨w.heap.size+1,j,none⟩=(x0y (r,.slice R o A))[j]?:=fun j hj=>by
   have e:=z0i #[.int .i64 0,.int .i64 0,.int .i64 0,.int .i64 0,.slice none 0 0,.string ⟨#[]⟩,.string ⟨#[]⟩,.float .f64 0] 0 (r,.slice R o A) (by show 0+8<=8;exact f6J) j;rw[if_pos f6J,Nat.sub_zero]at e;rw[<- e];simp[World.cell?,hV]
  exact⟨Y 0 f6J,Y 1 f6J,Y 2 f6J,Y 3 f6J,Y 4 f6J,Y 5 f6J,Y 6 f6J,Y 7 f6J⟩
 obtain⟨z0,z1,z2,z3,z4,z5,z6,z7⟩:=z;have J:OfP w B r (.returned (recV r (.slice R o A))) V3:=⟨_,rfl,V Z,G⟩;clear hV d G I s9 ag hHeld n HS;go_wp2;refine bodyPost_ret (v:=recV r (.slice R o A)) (by simp[results,Tryz.results147,go_sem,z0,z1,z2,z3,z4,z5,z6,z7,recV]) rfl J
namespace Cn
def within(c a b:Int):Bool:=decide (a<=c/\c<=b)
def bare2(c:Int):Bool:=syl c&&decide ((c-44032)%28=0)
def sylOf(a b:Int):Int×Bool :=
 if(jl a&&jv b)=true then(44032+((a-4352)*21+b-4449)*28,true)else if(bare2 a&&jt b)=true then(a+b-4520+1,true)else(0,false)
end Cn
theorem x2L c a b w:Calls prog 196 #[.int .i32 c,.int .i32 a,.int .i32 b] w fun e w'=>e=.returned (.bool (Cn.within c a b))/\w'=w:=by
 unfold Cn.within;by_cases Z:a<=c
 ·by_cases D:c<=b
  ·rw[d0t ⟨Z,D⟩];exact i4V
  ·rw[d0f (fun h=>D h.2)];have C:decide (c<=b)=false:=d0f D;exact i4V
 ·rw[d0f (fun h=>Z h.1)];have i:decide (a<=c)=false:=d0f Z;exact i4V
theorem z0G c w:Calls prog 197 #[.int .i32 c] w fun e w'=>e=.returned (.bool (Cn.bare2 c))/\w'=w:=by
 have o:=O (x2L c 44032 55203 w);have P:Cn.within c 44032 55203=Cn.syl c:=rfl;rw[P]at o;unfold Cn.bare2;by_cases X:Cn.syl c=true
 ·have i:44032<=c/\c<=55203:=o0d X;obtain⟨H,N⟩:=i;rw[X]at o ⊢;have P:(c-44032).tmod 28=(c-44032)%28:=Int.tmod_eq_emod_of_nonneg f6J;obtain⟨K,C⟩:∃K,decide ((c-44032)%28=0)=K:=⟨_,rfl⟩;rw[C];have t:((c-44032)%28==0)=K:=f6J;exact V3P
 ·rw[Bool.not_eq_true]at X;rw[X]at o ⊢;exact V3P
theorem x9K a b w:Calls prog 151 #[.int .i32 a,.int .i32 b] w fun e w'=>e=.returned (.tuple #[.int .i32 (Cn.sylOf a b).1,.bool (Cn.sylOf a b).2])/\w'=w:=by
 have o:Hid (∀w,Calls prog 196 #[.int .i32 a,.int .i32 4352,.int .i32 4370] w fun e w'=>e=.returned (.bool (Cn.jl a))/\w'=w):=fun w=>x2L a 4352 4370 w;have g:Hid (∀w,Calls prog 196 #[.int .i32 b,.int .i32 4449,.int .i32 4469] w fun e w'=>e=.returned (.bool (Cn.jv b))/\w'=w):=fun w=>x2L b 4449 4469 w;have G:=O (fun w=>z0G a w);have S:Hid (∀w,Calls prog 196 #[.int .i32 b,.int .i32 4520,.int .i32 4546] w fun e w'=>e=.returned (.bool (Cn.jt b))/\w'=w):=fun w=>x2L b 4520 4546 w;have Z:Cn.jl a=true->4352<=a/\a<=4370:=fun h=>o0d h;have D:Cn.jv b=true->4449<=b/\b<=4469:=fun h=>o0d h
 have R:Cn.bare2 a=true->44032<=a/\a<=55203:=fun h=>by
  unfold Cn.bare2 at h;rw[Bool.and_eq_true]at h;exact o0d h.1
 have z:Cn.jt b=true->4520<=b/\b<=4546:=fun h=>o0d h;unfold Cn.sylOf;generalize Cn.jl a=q1,Cn.jv b=q2,Cn.bare2 a=q3,Cn.jt b=X at *;replace Z:=O Z;replace D:=O D;replace R:=O R;replace z:=O z;by_cases C:(q1&&q2)=true
 ·rw[if_pos C];obtain⟨rfl,rfl⟩:q1=true/\q2=true:=(by simpa using C);obtain⟨I,P⟩:=V Z rfl;obtain⟨b1,m⟩:=V D rfl;go_enter func151,ntmps151;go_wp2_with fail;refine(V o _).mono ?_;rintro e w ⟨rfl,rfl⟩;go_wp2_with fail;refine(V g _).mono ?_;rintro e w ⟨rfl,rfl⟩;go_wp2;go_ret2;exact⟨by first| rfl | simp,rfl⟩
 ·rw[if_neg C]
  cases q1 with
  | false =>
   cases q3 with
   | false =>
    rw[if_neg M7K];go_enter func151,ntmps151;go_wp2_with fail;refine(V o _).mono ?_;exact N0Q
   | true =>
    cases X with
    | false =>
     rw[if_neg M7K];go_enter func151,ntmps151;go_wp2_with fail;refine(V o _).mono ?_;exact I9k
    | true =>
     rw[if_pos (show(true&&true)=true from rfl)];obtain⟨I,P⟩:=V R rfl;obtain⟨b1,m⟩:=V z rfl;go_enter func151,ntmps151;go_wp2_with fail;refine(V o _).mono ?_;exact T9o
  | true =>
   obtain rfl:q2=false:=by cases q2<;>simp_all
   cases q3 with
   | false =>
    rw[if_neg M7K];go_enter func151,ntmps151;go_wp2_with fail;refine(V o _).mono ?_;rintro e w ⟨rfl,rfl⟩;go_wp2_with fail;refine(V g _).mono ?_;exact N0Q
   | true =>
    cases X with
    | false =>
     rw[if_neg M7K];go_enter func151,ntmps151;go_wp2_with fail;refine(V o _).mono ?_;rintro e w ⟨rfl,rfl⟩;go_wp2_with fail;refine(V g _).mono ?_;exact I9k
    | true =>
     rw[if_pos (show(true&&true)=true from rfl)];obtain⟨I,P⟩:=V R rfl;obtain⟨b1,m⟩:=V z rfl;go_enter func151,ntmps151;go_wp2_with fail;refine(V o _).mono ?_;rintro e w ⟨rfl,rfl⟩;go_wp2_with fail;refine(V g _).mono ?_;exact T9o
open Ti
namespace Cn
def cmp9(rs:List Rec)(a b:Int):Int×Bool:=if(sylOf a b).2=true then((sylOf a b).1,true)else((x2b rs a b).getD 0,(x2b rs a b).isSome)
def mapping(rs:List Rec)(c:Int):List Int:=if(rget rs 1 c).kind=4 then[(rget rs 1 c).to.getD 0 0+(c-(rget rs 1 c).lo)]else(rget rs 1 c).to
theorem rget_cases{rs}(q:(check6 rs).2=0){f}(U:f≠10/\f≠0) c:(hit rs f c=Option.none/\rget rs f c=none)\/(hit rs f c=some (rget rs f c)/\rget rs f c∈rs/\fam (rget rs f c).kind=f/\speaks (rget rs f c) c=true/\right (rget rs f c)=0):=by
 unfold rget
 cases he:hit rs f c with
 | none=>exact .inl ⟨rfl,rfl⟩
 | some r =>
  obtain⟨M,T,I⟩:=(x1U q U r).1 he;exact .inr ⟨rfl,M,T,I,(x0m.1 q).2.1 r M⟩
theorem y2K{r}(h:right r=0)(z:r.kind=4):r.to.length=1/\0<=r.to.getD 0 0/\r.to.getD 0 0<=1114111/\r.to.getD 0 0+r.hi-r.lo<=1114111:=by
 have U:=x0w h;unfold right at h;rw[if_neg U,if_neg f6J]at h;have T:=x1z h;rw[Bool.and_eq_true,if_neg f6J,if_neg f6J,if_pos z]at T;have D:=T.2;simp only[Bool.and_eq_true]at D;obtain⟨S,X⟩:=x0t D.1.2;have H:=o0d D.2;have F:r.to.length=1:=f6J
 have y:r.to.getD 0 0∈r.to:=by
  match hr:r.to,F with
  | [x],_=>simp
 have:=x3k (X _ y);exact⟨F,this.1,this.2,f6J⟩
theorem x4p{rs}(q:(check6 rs).2=0) c(z:(rget rs 1 c).kind=4):(rget rs 1 c).to.length=1/\0<=(rget rs 1 c).to.getD 0 0/\(rget rs 1 c).to.getD 0 0<=1114111/\0<=(rget rs 1 c).lo/\(rget rs 1 c).lo<=c/\c<=1114111/\(rget rs 1 c).to.getD 0 0+(c-(rget rs 1 c).lo)<=1114111:=by
 rcases rget_cases q (f:=1) e8N c with⟨_,e⟩ | ⟨_,_,_,X,u⟩
 ·rw[e]at z;exact absurd z e8N
 ·obtain⟨N,A,D⟩:=x0o u f6J;obtain⟨l,r2,r3,r4⟩:=y2K u z;unfold speaks at X;obtain⟨_,_,o,C,U,s,_⟩:=o0d X;exact⟨l,r2,r3,N,U,C,f6J⟩
end Cn
theorem z6O{W a u}(h:W.cell? a=some u)(U:W.frozen? a=false) y:(Instr.storeAt 21 (.pointer (some a)) (.int .i32 y)).run prog W=.ok () (W.setCell a (.int .i32 y)):=by
 simp[Instr.storeAt,go_sem,h,U]
theorem Ok.setAt9{K e w B g n cap}{zs}(h:Ok K e w B (.slice (some ⟨g,0,none⟩) n cap) zs) k z(o:Fit K [z]) :
  Ok K e (w.setCell ⟨g,k,none⟩ (.int K z)) B (.slice (some ⟨g,0,none⟩) n cap) (zs.set k z)/\w.frozen? ⟨g,k,none⟩=false:=by
 have L:=h.row;rcases L.2 with⟨A,_⟩ | ⟨S,J,t,N,Q,Y,E,F,a,I⟩
 ·cases A
 ·exact s1O
theorem y0a{B p rs} a b w(E:x0n w B p rs)(H:Rune a)(Q:Rune b):Calls prog 100 #[.pointer (some ⟨p,0,none⟩),.int .i32 a,.int .i32 b] w fun e w'=>e=.returned (.tuple #[.int .i32 (Cn.cmp9 rs a b).1,.bool (Cn.cmp9 rs a b).2])/\w'=w:=by
 obtain⟨t1,J,S,n,Y,I,i,P,s,d,l3,a4,y,N,o,C,U,u,Z,D,R⟩:=E;have K:=O (x9K a b w);have x:w.cell? ⟨p,15,none⟩=some C:=cell_of (j:=15) Z (by show 15<18;exact f6J);obtain⟨l,r2,rfl,f,b1,m,v,T⟩:=R.co;have t:=(z3G (w:=w) (M:=146) (z:=.int .i32 0) klP underlying146 z3u (r:=l) v (k:=pk2 a b) ⟨a,b,rfl,H,Q⟩).1;rw[y3X]at t;unfold Cn.cmp9;clear Z D R v T f;obtain⟨a0,A⟩:=H;obtain⟨F,W⟩:=Q;generalize Cn.sylOf a b=q at *;obtain⟨L,g⟩:=q
 cases g with
 | true =>
  clear t;exact w4a
 | false =>
  cases hpo:Cn.x2b rs a b with
  | none =>
   rw[hpo]at t;replace t:(Instr.lookup 146 (.map (some l)) (.agg #[.int .i32 a,.int .i32 b]) true).run prog w=.ok (.tuple #[.int .i32 0,.bool false]) w:=t;clear hpo;exact w4a
  | some z =>
   rw[hpo]at t;replace t:(Instr.lookup 146 (.map (some l)) (.agg #[.int .i32 a,.int .i32 b]) true).run prog w=.ok (.tuple #[.int .i32 z,.bool true]) w:=t;clear hpo;exact w4a
theorem y0C{B p rs} c w(hD:x0n w B p rs)(q:(Cn.check6 rs).2=0)(l:∀r∈rs,RecFit r)(hc:Rune c):Calls prog 95 #[.pointer (some ⟨p,0,none⟩),.int .i32 c] w (x0j w (Cn.mapping rs c)):=by
 obtain⟨t1,t2,t3,t4,t5,a1,l1,a2,l2,a3,l3,a4,l4,a5,l5,c1,c2,x1,Z,h2,h3⟩:=hD;have o:=O (z3R c w h3.q1 q e8P hc);have x5:w.cell? ⟨p,5,none⟩=some a1:=cell_of (j:=5) Z (by show 5<18;exact f6J);have x6:w.cell? ⟨p,6,none⟩=some l1:=cell_of (j:=6) Z (by show 6<18;exact f6J);obtain⟨⟨aa,m,e,-⟩,ps,hR,-⟩:=h3.q1;subst e
 obtain⟨aR,aQ,az⟩:∃R M,l1=.slice R ps.length M:=by
  rcases hR.1.2 with⟨e,h0⟩ | ⟨g,M,t,e,_⟩
  ·exact⟨_,_,by rw[e,h0]⟩
  ·exact⟨_,_,e⟩
 subst az;have v:=Cn.x4p q c
 have C:RecFit (Cn.rget rs 1 c):=by
  rcases Cn.rget_cases q (f:=1) e8P c with⟨_,e⟩ | ⟨_,hm,_⟩
  ·rw[e];exact⟨⟨e8P,e8P⟩,⟨e8P,e8P⟩,⟨e8P,e8P⟩,⟨e8P,e8P⟩,e8P,e8P⟩
  ·exact l _ hm
 obtain⟨aK,aL⟩:=hc;clear Z h2 h3 q hR l;unfold Cn.mapping;generalize Cn.rget rs 1 c=r at *;obtain⟨L,k⟩:∃L,r.to=L:=⟨_,rfl⟩;have X:=C.len;rw[k]at v X ⊢;have ai:=O k;have hk:=C.kind;have aN:=C.lo;have D:=O v;obtain⟨aH,ae⟩:∃a,(if r.kind=4 then[L.getD 0 0+(c-r.lo)]else L)=a:=⟨_,rfl⟩;rw[ae];have U:=O ae;clear k C v ae;go_enter func95,ntmps95;go_wp2_with fail;refine(V o).mono ?_;rintro e1 I ⟨vt,rfl,y,b1⟩;clear o x5 x6;rw[V ai]at y;obtain⟨R,tc,rfl,aO,aP⟩:=y.sk.shape;obtain⟨W1,aI,am,T⟩:=x0O I r.kind r.lo r.hi r.n (.slice R L.length tc) r.name r.other r.wt;have ay:∀W a m,(store a (.float .f64 r.wt) m).run prog W=stored prog W a (.float .f64 r.wt) m:=fun W a m=>run_store prog W a _ m rfl;have KC:=O (x2W (.slice R L.length tc) L W1 ((y.sk.below b1).below T) X);have Q:=O (x0b b1 T);have u:=O (x0b b1 T).size;have Y:Hid (∀W,Bw W1 W->BoxAt W I.heap.size r.kind r.lo r.hi r.n (.slice R L.length tc) r.name r.other r.wt):=fun W h=>am.keep h;obtain⟨z0,z1,z2,z3,z4,z5,z6,z7⟩:=am;clear y b1 T ai;unfold recV;generalize r.kind=kd,r.lo=lo,r.hi=hi,r.n=n at *;generalize r.name=nm,r.other=ot,r.wt=wt at *;clear r;go_wp2_with fail;refine(V KC).mono ?_;rintro e2 d ⟨v2,rfl,ab,b2⟩;obtain⟨y0,y1,y2,y3,y4,y5,y6,y7⟩:=V Y d b2;have G:=O y1;have i:=O (x0b (V Q) b2);have af:=O b2;clear KC z0 z2 z3 z4 z5 z6 z7 ay Q b2;by_cases h4:kd=4
 ·have H:=V U;rw[if_pos h4]at H;obtain⟨s1,s2,s3,s4,s5,s6,s7⟩:=V D h4
  obtain⟨x,rfl⟩:∃x,L=[x]:=by
   match L,s1 with
   | [x],_=>exact⟨x,rfl⟩
  simp only[List.getD_cons_zero]at H s2 s3 s7;subst H h4;clear U D;obtain⟨gt,aC,N,s,aF,aG,aq⟩:=ab.sk.place M7M
  have aB:aC=0:=by
   rcases ab.row.2 with⟨e,_⟩ | ⟨g',aD,t,e,_⟩
   ·rw[s]at e;simp at e
   ·rw[s]at e;simp only[Value.slice.injEq,Option.some.injEq,Addr.mk.injEq]at e;exact e.1.2.1
  subst aB;have E:d.cell? ⟨gt,0,none⟩=some (.int .i32 x):=aq 0 M7M;subst s;have HS:Hid (∀W,Bw d W->W.cell? ⟨gt,0,none⟩=some (.int .i32 x)/\W.cell? ⟨I.heap.size,1,none⟩=some (.int .i64 lo)):=fun W h=>⟨by rw[h.cell (x0a E)];exact E,by rw[h.cell (x0a y1)];exact y1⟩;have ag:Hid (gt≠I.heap.size):=by have Z:=(ab.row.lt gt rfl).1;have h2:=x0a z1;show gt≠_;exact f6J
  have HE:Hid (∀W,Bw d W->x0j w [x+(c-lo)] (.returned (.slice (some ⟨gt,0,none⟩) 1 N)) (W.setCell ⟨gt,0,none⟩ (.int .i32 (x+(c-lo))))/\W.frozen? ⟨gt,0,none⟩=false):=fun W h=>by
   have hk:=(ab.below h).setAt9 0 (x+(c-lo)) (fun z hz=>by rw[List.mem_singleton]at hz;subst hz;exact x0V f6J);have aM:W1.heap.size<=gt:=(ab.row.lt gt rfl).1;exact⟨⟨_,rfl,hk.1.lower (V u),x0d (x0b (V i) h) (by have:=V u;exact f6J) _⟩,hk.2⟩
  clear ab aq Y af E z1 y2 y3 y4 y5 y6 y7 G i;go_wp2;clear y0 y1;refine wp_region_held_drew (S:=fun w'=>w'.cell? ⟨I.heap.size,1,none⟩=some (.int .i64 lo)) f4y ((V HS _ (x0k ⟨1,rfl⟩)).2) (fun hHeld=>?_);refine tk9 0 (.slice (some ⟨gt,0,none⟩) 1 N) ?_;refine tk9 1 (.pointer (some ⟨gt,0,none⟩)) ?_;refine tk9 3 (.int .i32 c) ?_;refine tk9 4 (.pointer (some ⟨I.heap.size,1,none⟩)) ?_;refine tk9 5 (.int .i64 lo) ?_ (hy:=by(intro w hSw;have s1:=hSw;go_simp));refine tk9 6 (.int .i32 lo) ?_ (hy:=f1Z);refine tk9 7 (.int .i32 (c-lo)) ?_ (hy:=f1Z);have aj:Bw d d.drew:=x0k ⟨1,rfl⟩;have A:=V HS _ aj;have F:=V HE _ aj;have aA:=V ag;clear HS HE ag;generalize d.drew=P at *;refine rd9 2 fun K hK=>?_
  have aw:(Instr.loadAt 21 (.pointer (some ⟨gt,0,none⟩))).run prog P=.ok (.int .i32 x) P:=by
   have h0:=A.1;simp[Instr.loadAt,go_sem,h0]
  refine y6j rfl 21 (.tmp 21) rfl (.pointer (some ⟨gt,0,none⟩)) (.int .i32 x) rfl aw ?_;refine hK.out _ _ ?_ (fun hHeld=>?_)
  ·exact A.2
  clear hK K
  try simp only[Act.put,sa9,sb9,sc9]
  refine tk9 8 (.int .i32 (x+(c-lo))) ?_ (hy:=f1Z);refine tk9 9 (.pointer (some ⟨gt,0,none⟩)) ?_;refine rd9 10 fun K hK=>?_;have s9:=z6O A.1 F.2 (x+(c-lo));have J:=F.1
  have ar:(P.setCell ⟨gt,0,none⟩ (.int .i32 (x+(c-lo)))).cell? ⟨I.heap.size,1,none⟩=some (.int .i64 lo):=by
   rw[World.cell?_setCell_far _ _ _ _ aA];exact A.2
  clear F A aw;generalize P.setCell ⟨gt,0,none⟩ (.int .i32 (x+(c-lo)))=w4 at *;refine x7h rfl 21 (.tmp 29) (.tmp 28) rfl (.pointer (some ⟨gt,0,none⟩)) (.int .i32 (x+(c-lo))) rfl rfl s9 ?_;refine hK.out _ _ ?_ (fun hHeld=>?_)
  ·exact ar
  clear hK K s9
  try simp only[Act.put]
  refine wpAnyH_done f4y ?_ _;have b:=O J;clear J hHeld ar;go_wp2;go_ret;exact V b
 ·have H:=V U;rw[if_neg h4]at H;subst H;clear U D;have aJ:(kd==4)=false:=(by rw[beq_eq_false_iff_ne];exact h4);have HF:Hid (x0j w L (.returned v2) d):=⟨v2,rfl,ab.lower (V u),V i⟩;clear ab Y G af z1;exact I7o
open Ti
namespace Cn
theorem z8z:x2l.take 150=x2l:=rfl
end Cn
theorem z3N:∀r∈Cn.x2l,RecFit r:=by
 intro p L;simp only[Cn.x2l,List.mem_cons,List.mem_nil_iff,or_false]at L;rcases L with rfl | rfl | rfl | rfl | rfl | rfl | rfl | rfl | rfl | rfl<;>exact⟨W0Y,W0Y,W0Y,W0Y,e8M,e8M⟩
namespace Cn
end Cn
end Go.Proofs.YtbmckadcjdedcaaGreatDoor
namespace Go.Proofs.YtbmckadcjdedcaaGreatDoor.Cn
open Go.Proofs.Tryz
theorem y2W l:∀(f:Nat) (A:List Int) (c:Int) (out:List Int),(∀x∈out,opn l x=[])->∀x∈(walk l f A c out).1,opn l x=[]:=by
 intro f
 induction f with
 | zero =>
  intro A c out h;rw[walk];split
  ·grind
  ·split<;>(intro x J;cases J)
 | succ f ih =>
  intro A c out h;rw[walk];split
  ·grind
  ·split
   ·intro x J;cases J
   ·have S:∀(t:List Int) (s:List Int×Int),(∀x∈s.1,opn l x=[])->∀x∈(t.foldl (stepW l f (A++[c])) s).1,opn l x=[]:=M2d
    exact S _ _ h
theorem z0L l:∀(f:Nat) (C:List Int) (c:Int) (out:List Int),(walk l f C c out).2=0->out.length<(walk l f C c out).1.length:=by
 intro f
 induction f with
 | zero =>
  intro C c out;rw[walk];split
  ·grind
  ·grind
 | succ f ih =>
  intro C c out;rw[walk];split
  ·split
   ·intro h;exact absurd h e8N
   ·intro _;simp
  ·next hc =>
   split
   ·intro h;exact absurd h e8N
   ·have S:∀(t:List Int) (s:List Int×Int),(t.foldl (stepW l f (C++[c])) s).2=0->s.1.length+t.length<=(t.foldl (stepW l f (C++[c])) s).1.length:=by
     intro t
     induction t with
     | nil=>intro s _;simp
     | cons x t ihx =>
      intro s X;rw[List.foldl_cons]at X ⊢;have Z:=ihx _ X
      have A:s.2=0:=by
       refine Decidable.byContradiction fun E=>?_;rw[stepW,if_neg E,x1K _ _ _ _ _ E]at X;exact E X
      have D:(stepW l f (C++[c]) s x).2=0:=by
       refine Decidable.byContradiction fun E=>?_;rw[x1K _ _ _ _ _ E]at X;exact E X
      unfold stepW at Z D X ⊢;rw[if_pos A]at Z D;have R:=ih _ _ _ D;simp only[List.length_cons];simp only[if_pos A]at *;omega
    intro h;have:=S _ _ h;have F:0<(opn l c).length:=List.length_pos_iff.2 hc;simp only at this;exact Nat.lt_of_lt_of_le f6J this
def jamo(c:Int):Prop:=(4352<=c/\c<=4370)\/(4449<=c/\c<=4469)\/(4520<=c/\c<=4546)
theorem x1X{r c}(h:speaks r c=true):r.lo<=c/\c<=r.hi:=by
 unfold speaks at h;obtain⟨_,_,_,_,H,q,_⟩:=o0d h;exact⟨H,q⟩
theorem y3J{l}(h:(check l).2=0){c}(hc:jamo c){f}(U:f=2\/f=3):hit l f c=Option.none:=by
 obtain⟨q,u,_,_⟩:=x0L.1 h
 cases e:hit l f c with
 | none=>rfl
 | some r =>
  obtain⟨Z,D,R⟩:=x2a e;have X:=x1X R;have A:=u r Z;unfold record at A;rw[if_neg f6J]at A;split at A
  ·exact absurd A e8N
  ·split at A
   ·exact absurd A e8N
   ·next hn =>
    refine absurd ?_ hn;simp only[Bool.or_eq_true,covers,decide_eq_true_eq];rcases hc with hc | hc | hc
    ·exact .inl (.inl (.inl f6J))
    ·exact .inl (.inl (.inr f6J))
    ·exact .inl (.inr f6J)
theorem x8Y{l}(h:(check l).2=0){c}(T:jamo c):opn l c=[]:=by
 unfold opn
 have:syl c=false:=by
  unfold syl;unfold jamo at T;exact d0f f6J
 rw[this,y3J h T (.inr rfl)];rfl
theorem z2c{l}(h:(check l).2=0){c}(T:jamo c):cls l c=0:=by
 unfold cls;rw[y3J h T (.inl rfl)]
theorem z3U{l c}(X:syl c=true)(y:(c-44032)%28=0):opn l c=[4352+(c-44032) / 588,4449+(c-44032) / 28%21]:=by
 unfold opn;rw[if_pos X,if_pos y]
theorem y9v{l c}(X:syl c=true)(y:¬(c-44032)%28=0):opn l c=[c-(c-44032)%28,4519+(c-44032)%28]:=by
 unfold opn;rw[if_pos X,if_neg y]
theorem x7Y{l:List Rec}:∀(x:List Int),(∀c∈x,cls l c=0)->fallsA l x=false
 | [],_=>rfl
 | [_],_=>rfl
 | a::b::r,h=>by
  rw[fallsA,x7Y (b::r) fun c T=>h c (List.mem_cons_of_mem _ T)];simp[h b M7K]
theorem z3g{l}(h:(check l).2=0){c}(X:syl c=true):(full l c).2=0/\∀x∈(full l c).1,jamo x:=by
 have Q:44032<=c/\c<=55203:=o0d X
 have H:∀(d:Int),syl d=true->(d-44032)%28=0->∀(f:Nat) (D out:List Int),¬d∈D->out.length<30->walk l (f+1) D d out=(out++[4352+(d-44032) / 588,4449+(d-44032) / 28%21],0)/\jamo (4352+(d-44032) / 588)/\jamo (4449+(d-44032) / 28%21):=by
  intro d hd y f D out q j;have C:44032<=d/\d<=55203:=o0d hd;have E:jamo (4352+(d-44032) / 588):=.inl f6J;have t:jamo (4449+(d-44032) / 28%21):=.inr (.inl f6J);refine⟨?_,E,t⟩;rw[x7o (by rw[z3U hd y];exact M7M) f q,z3U hd y];simp only[List.foldl_cons,List.foldl_nil,stepW];rw[if_pos trivial,x0Z (x8Y h E),if_neg (c:=32<=out.length) f6J];simp only[if_true];rw[x0Z (x8Y h t),if_neg P8P];simp
 unfold full;by_cases y:(c-44032)%28=0
 ·obtain⟨e,E,t⟩:=H c X y 15 [] [] M7M M7M;rw[e];refine⟨rfl,fun x J=>?_⟩;simp at J;rcases J with rfl | rfl
  ·exact E
  ·exact t
 ·have hd:syl (c-(c-44032)%28)=true:=d0t f6J;have F:(c-(c-44032)%28-44032)%28=0:=f6J;have A:jamo (4519+(c-44032)%28):=.inr (.inr f6J);rw[x7o (by rw[y9v X y];exact M7M) 15 M7M,y9v X y];obtain⟨e,E,t⟩:=H _ hd F 14 ([]++[c]) [] P8P M7M;simp only[List.foldl_cons,List.foldl_nil,stepW];rw[if_pos trivial,e];simp only[if_true];rw[x0Z (x8Y h A),if_neg M7M];refine⟨rfl,fun x J=>?_⟩;simp at J;rcases J with rfl | rfl | rfl
  ·exact E
  ·exact t
  ·exact A
theorem fam_three{k}(h:fam k=3):k=7\/k=8:=R8h
theorem leaves{l}(h:(check l).2=0) c:(full l c).2=0/\0<(full l c).1.length/\(full l c).1.length<=32/\(∀x∈(full l c).1,opn l x=[])/\fallsA l (full l c).1=false:=by
 have A:(full l c).2=0/\fallsA l (full l c).1=false:=by
  by_cases X:syl c=true
  ·obtain⟨Z,D⟩:=z3g h X;exact⟨Z,x7Y _ fun x J=>z2c h (D x J)⟩
  ·by_cases j:opn l c=[]
   ·unfold full;rw[x0Z j,if_neg M7M];exact⟨rfl,rfl⟩
   ·have d:∃r,hit l 3 c=some r:=by
     unfold opn at j;rw[if_neg X]at j
     cases e:hit l 3 c with
     | none=>grind
     | some r=>exact⟨r,rfl⟩
    obtain⟨r,u⟩:=d;obtain⟨Z,D,R⟩:=x2a u;obtain⟨q,n,_,_⟩:=x0L.1 h;have s:=x1X R
    have m:r.lo=r.hi:=by
     rcases fam_three D with hk | hk
     ·exact(x0A ((x0m.1 q).2.1 r Z) hk).1
     ·exact(x2H ((x0m.1 q).2.1 r Z) hk).1
    have T:r.lo=c:=f6J;have o:=n r Z;rw[x9y]at o;unfold recF at o;rw[if_neg f6J]at o;split at o
    ·exact absurd o e8N
    ·grind
 exact⟨A.1,z0L l 16 [] c [] A.1,x4k l c,y2W l 16 [] c [] (fun x J=>absurd J M7M),A.2⟩
theorem x8M{l:List Rec}:∀(x:List Int),fallsA l x=false->∀k,k+1<x.length->cls l (x.getD (k+1) 0)=0\/cls l (x.getD k 0)<=cls l (x.getD (k+1) 0)
 | [],_,k,hk=>absurd hk M7K
 | [_],_,k,hk=>absurd hk M7K
 | a::b::r,h,k,hk=>by
  rw[fallsA,Bool.or_eq_false_iff]at h
  cases k with
  | zero =>
   have:=of_decide_eq_false h.1;show cls l b=0\/cls l a<=cls l b;omega
  | succ k=>exact x8M (b::r) h.2 k (by simpa using hk)
end Go.Proofs.YtbmckadcjdedcaaGreatDoor.Cn
namespace Go.Proofs.YtbmckadcjdedcaaGreatDoor
open Go.Proofs.Tryz
open Go.RowKit
namespace Cn
theorem z6R{l}(h:(check l).2=0){c}(T:syl c=true){f}(U:f=2\/f=3):hit l f c=Option.none:=by
 obtain⟨q,u,_,_⟩:=x0L.1 h;unfold syl at T;have T:=o0d T
 cases e:hit l f c with
 | none=>rfl
 | some r =>
  obtain⟨Z,D,R⟩:=x2a e;have X:=x1X R;have A:=u r Z;unfold record at A;rw[if_neg f6J]at A;split at A
  ·exact absurd A e8N
  ·split at A
   ·exact absurd A e8N
   ·next hn =>
    refine absurd ?_ hn;simp only[Bool.or_eq_true,covers,decide_eq_true_eq];exact e5w
theorem z0D{rs}(h:(check rs).2=0){c r}(d:hit rs 3 c=some r):r.to≠[]/\r.to.length<=2:=by
 have q:=(x0L.1 h).1;obtain⟨M,T,I⟩:=(x1U q e8N r).1 d;have u:=(x0m.1 q).2.1 r M;rcases fam_three T with e | e
 ·have:=(x0t (x0A u e).2.2).1;exact r8O
 ·have:=(x0t (x2H u e).2.2).1;exact r8O
theorem y9u{rs}(h:(check rs).2=0) c:((rget rs 3 c).to=[]/\opn [] c=opn rs c)\/((rget rs 3 c).to≠[]/\(rget rs 3 c).to=opn rs c/\(rget rs 3 c).to.length<=2):=by
 unfold rget
 cases he:hit rs 3 c with
 | none =>
  refine .inl ⟨rfl,?_⟩;unfold opn;rw[he];rfl
 | some r =>
  obtain⟨Z,D⟩:=z0D h he;refine .inr ⟨Z,?_,D⟩
  have X:syl c=false:=by
   cases X:syl c with
   | false=>rfl
   | true=>rw[z6R h X (.inr rfl)]at he;cases he
  unfold opn;rw[X,he];rfl
theorem z6p{rs}(h:(check rs).2=0) c:(opn rs c).length<=2:=by
 unfold opn;split
 ·split<;>simp
 ·cases he:hit rs 3 c with
  | none=>simp
  | some r=>exact(z0D h he).2
end Cn
theorem z1M k lo hi n ao ln cp a b y w:(Instr.field 67 (.agg #[.int .i64 k,.int .i64 lo,.int .i64 hi,.int .i64 n,.slice ao ln cp,.string a,.string b,.float .f64 y]) 4).run prog w=.ok (.slice ao ln cp) w:=f4x
theorem y0L{B p rs} c w(C:Glob w)(E:x0n w B p rs)(G:(Cn.check rs).2=0)(T:Rune c):Calls prog 248 #[.pointer (some ⟨p,0,none⟩),.int .i32 c] w (x0j w (Cn.opn rs c)):=by
 have q:=(Cn.x0L.1 G).1;obtain⟨H,t2,t3,t4,t5,a1,i,a2,s,d,l,z,l4,N,l5,c1,c2,x1,Z,h2,h3⟩:=E;have o:=O (z3R c w h3.q2 q e8N T);have x5:w.cell? ⟨p,7,none⟩=some a2:=cell_of (j:=7) Z (by show 7<18;exact f6J);have x6:w.cell? ⟨p,8,none⟩=some s:=cell_of (j:=8) Z (by show 8<18;exact f6J);obtain⟨⟨aa,m,e,-⟩,ps,X,-⟩:=h3.q2;subst e
 obtain⟨af,D,v⟩:∃R M,s=.slice R ps.length M:=by
  rcases X.1.2 with⟨e,h0⟩ | ⟨g,M,t,e,_⟩
  ·exact⟨_,_,by rw[e,h0]⟩
  ·exact⟨_,_,e⟩
 subst v;have ab:=O (Cn.y9u G c);have x:=fun W (U:Bw w W)=>O (openC (.slice none 0 0) [] c W (C.on U) (Rcs.nil W) T);obtain⟨ae,F⟩:=T;generalize Cn.rget rs 3 c=r,Cn.opn rs c=L at *;go_enter func248,ntmps248;go_wp2_with fail;refine(V o).mono ?_;rintro P I ⟨vt,rfl,y,b1⟩;obtain⟨R,tc,rfl,k,u⟩:=y.sk.shape;have Q:=O b1;have A:=y.sk.below b1;have b:=z1M r.kind r.lo r.hi r.n R r.to.length tc r.name r.other r.wt I;unfold recV;rcases V ab with⟨P,f⟩ | ⟨P,f,J⟩
 ·have K2:=O (V (x I b1));rw[f]at K2;rw[P]at b ⊢;simp only[List.length_nil]at b ⊢;exact s2I
 ·rw[f]at A b P J k ⊢;have K2:=O (x2W _ L I A f6J);have S:0<L.length:=List.length_pos_iff.2 P;exact s2I
namespace Cn
def Tree (l:List Rec):Nat->Int->List Int->Prop
 | 0,c,ys=>opn l c=[]/\ys=[c]
 | n+1,c,ys=>(opn l c=[]/\ys=[c])\/(opn l c≠[]/\∃yss:List (List Int),yss.length=(opn l c).length/\(∀i,i<(opn l c).length->Tree l n ((opn l c).getD i 0) (yss.getD i []))/\ys=yss.flatten)
theorem y0q{l:List Rec}{f:Nat}{C:List Int}(H:∀d out r,walk l f C d out=(r,0)->∃ys,r=out++ys/\Tree l f d ys):∀(t:List Int) (out r:List Int),t.foldl (stepW l f C) (out,0)=(r,0)->∃M:List (List Int),M.length=t.length/\r=out++M.flatten/\∀i,i<t.length->Tree l f (t.getD i 0) (M.getD i [])
 | [],out,r,h=>by
  have:=(Prod.mk.inj h).1;subst this;exact⟨[],rfl,M7K,fun i hi=>v5G⟩
 | d::t,out,r,h=>by
  rw[List.foldl_cons]at h;have e:stepW l f C (out,0) d=walk l f C d out:=(by simp[stepW]);rw[e]at h;obtain⟨⟨A,P⟩,m⟩:∃q,walk l f C d out=q:=⟨_,rfl⟩;rw[m]at h;by_cases D:P=0
  ·subst D;obtain⟨ys,rfl,K⟩:=H d out A m;obtain⟨M,S,hr,v⟩:=y0q H t (out++ys) r h;refine⟨ys::M,by simp[S],by rw[hr];exact M7K,fun i hi=>?_⟩
   cases i with
   | zero=>exact K
   | succ i=>simpa using v i w3z
  ·rw[x1K l f C t (A,P) D]at h;exact absurd (Prod.mk.inj h).2 D
theorem z0M{l}:∀(f:Nat) (A:List Int) (c:Int) (out r:List Int),walk l f A c out=(r,0)->∃ys,r=out++ys/\Tree l f c ys:=by
 intro f
 induction f with
 | zero =>
  intro A c out r h;by_cases j:opn l c=[]
  ·rw[x0Z j]at h;split at h
   ·grind
   ·exact⟨[c],(Prod.mk.inj h).1.symm,j,rfl⟩
  ·by_cases q:c∈A
   ·rw[x2s j _ q]at h;exact s1y
   ·rw[x7n j q]at h;exact s1y
 | succ f ih =>
  intro A c out r h;by_cases j:opn l c=[]
  ·rw[x0Z j]at h;split at h
   ·exact s1y
   ·exact⟨[c],(Prod.mk.inj h).1.symm,.inl ⟨j,rfl⟩⟩
  ·by_cases q:c∈A
   ·rw[x2s j _ q]at h;exact s1y
   ·rw[x7o j f q]at h;obtain⟨M,S,u,K⟩:=y0q (fun d out r hd=>ih (A++[c]) d out r hd) _ _ _ h;exact⟨_,u,.inr ⟨j,M,S,K,rfl⟩⟩
theorem y8n{l}(h:(check l).2=0) c:Tree l 16 c (full l c).1:=by
 have D:=(leaves h c).1;obtain⟨ys,s,K⟩:=z0M (l:=l) 16 [] c [] (full l c).1 (by rw[show walk l 16 [] c []=full l c from rfl];exact Prod.ext rfl D);rw[List.nil_append]at s;rw[s];exact K
end Cn
structure Grw(w w':World)(x v:Value):Prop where
 g:w.grownBy w' x.ownBlock
 own:∀k,v.ownBlock=some k->x.ownBlock=some k\/w.heap.size<=k
theorem Grw.trans{w w1 w2 x v u}(h:Grw w w1 x v)(D:Grw w1 w2 v u):Grw w w2 x u:=by
 have N:=h.g.size;refine⟨⟨D.g.os.trans h.g.os,D.g.tape.trans h.g.tape,D.g.output.trans h.g.output,Nat.le_trans N D.g.size,fun k G F=>?_⟩,fun k G=>?_⟩
 ·rw[D.g.block k f6J (fun e=>?_),h.g.block k G F];rcases h.own k e.symm with e2 | e2
  ·exact F e2.symm
  ·omega
 ·rcases D.own k G with e | e
  ·exact h.own k e
  ·exact e5w
theorem Grw.after{w w1 w2 x v}(Q:Bw w w1)(h:Grw w1 w2 x v):Grw w w2 x v:=by
 have N:=Q.size;refine⟨⟨h.g.os.trans Q.os,h.g.tape.trans Q.tape,h.g.output.trans Q.output,Nat.le_trans N h.g.size,fun k G F=>?_⟩,fun k G=>?_⟩
 ·rw[h.g.block k f6J F,Q.block k G]
 ·rcases h.own k G with e | e
  ·exact .inl e
  ·exact e5w
theorem Grw.refl w x:Grw w w x x:=⟨⟨rfl,rfl,rfl,l0r _,fun _ _ _=>rfl⟩,fun _ h=>.inl h⟩
def AppB(w:World)(B:Nat)(x:Value)(ys:List Int)(e:Ending)(w':World):Prop:=∃v,e=.returned v/\Ok .i32 21 w' B v ys/\Grw w w' x v
def z0W(w0:World)(p:Nat)(c:Int)(ys:List Int):Prop:=∀(x:Value) (xs:List Int) (w:World),Ok .i32 21 w w0.heap.size x xs->Below w0.heap.size w0 w->xs.length+ys.length<=1000000000->Calls prog 194 #[.pointer (some ⟨p,0,none⟩),x,.int .i32 c] w (AppB w w0.heap.size x (xs++ys))
theorem Sk.one9(w:World) c(T:-2147483648<=c/\c<=2147483647):Sk .i32 (w.alloc (.cells #[.int .i32 c] 21)) (.slice (some ⟨w.heap.size,0,none⟩) 1 1) [c]:=(x9q w w.heap.size (l0r _) c T).sk
theorem y8E:(prog.info? 21).map (fun i=>(i.zero,i.size,i.bytes))=some (some (.int .i32 0),1,4):=f4x
section
variable {B p:Nat} {rs:List Rec} {w0:World}
theorem y8l(C:Glob w0)(hD:x0n w0 B p rs)(G:(Cn.check rs).2=0) c(T:Rune c)(ho:Cn.opn rs c=[]):z0W w0 p c [c]:=by
 intro x t w J A S;have o:=O (y0L c w (C.on A) (hD.below A) G T);rw[ho]at o;obtain⟨r,hi,ag,i,f⟩:=info_parts y8E;have am:=A.size;have b:=O J;obtain⟨v,l,y,_,_⟩:=J.sk.shape;subst y;obtain⟨q,F⟩:=T;simp only[List.length_singleton]at S;go_enter func194,ntmps194;go_wp2_with fail;refine(V o).mono ?_;rintro P w1 ⟨v1,rfl,ai,b1⟩;obtain⟨R,aj,ab,_,_⟩:=ai.sk.shape;simp only[List.length_nil]at ab;subst ab;have N:=b1.size;have af:Ok .i32 21 (w1.alloc (.cells #[.int .i32 c] 21)) w0.heap.size (.slice v t.length l) t:=((V b).below b1).below ((b0r).alloc (l0r _) _);have L:(w1.alloc (.cells #[.int .i32 c] 21)).ownsRow w0.heap.size 21 1 (.slice v t.length l) t.length (t.map (Value.int .i32)):=(by simpa using af.row);have E:=(Sk.one9 w1 c ⟨q,F⟩).place M7O
 have X:∀j u,[Value.int .i32 c][j]?=some u->(w1.alloc (.cells #[.int .i32 c] 21)).cell? ((⟨w1.heap.size,0,none⟩:Addr).add j)=some u:=by
  intro j u K;obtain⟨s,Z,cq,d,_,_,hh⟩:=E;simp only[Value.slice.injEq,Option.some.injEq,Addr.mk.injEq]at d;obtain⟨⟨rfl,rfl,_⟩,_,_⟩:=d
  cases j with
  | zero=>simp at K;subst K;rw[addr_add];exact hh 0 M7O
  | succ j=>simp at K
 have I:=O L;have H:=O X;have D:=O ((V b).1);have Q:=O b1;have a:(w1.alloc (.cells #[.int .i32 c] 21)).heap.size=w1.heap.size+1:=M7O;have ae:=O a;go_wp2_with(at_builtin;refine wpList_append_own_at _ rfl (.tmp 16) (.tmp 18) 40 rfl w0.heap.size 21 r (.int .i32 0) 1 4 underlying40 hi ag i f rfl e8P _ _ _ rfl (V I) ⟨w1.heap.size,0,none⟩ 1 1 [.int .i32 c] rfl rfl (V H) (fun u W=>by rw[List.mem_singleton]at W;subst W;rfl) T7X f6J (by rw[V ae];exact f6J) ?_);intro U w2 m M _ g
 have hF:AppB w w0.heap.size (.slice v t.length l) (t++[c]) (.returned U) w2:=by
  refine⟨U,rfl,Ok.of (n:=t.length+1) (us:=t.map (Value.int .i32)++[.int .i32 c]) ?_ P8P m M7O M7O,?_⟩
  ·intro z hz;rcases List.mem_append.1 hz with hz | hz
   ·exact V D z hz
   ·rw[List.mem_singleton]at hz;subst hz;exact x0V ⟨q,F⟩
  ·refine Grw.after (w1:=w1.alloc (.cells #[.int .i32 c] 21)) ((V Q).alloc N _) ⟨M,fun k G=>?_⟩;rcases g with e | e
   ·exact .inl (e ▸ G)
   ·grind
 have Y:=O hF;exact R3N
end
namespace Cn
theorem z2H{rs}(h:(check rs).2=0){c d}(hd:d∈opn rs c):Rune d:=by
 unfold opn at hd;unfold Rune;split at hd
 ·next X =>
  unfold syl at X;have X:=o0d X;split at hd
  ·grind
  ·simp only[List.mem_cons,List.mem_nil_iff,or_false]at hd;rcases hd with rfl | rfl<;>omega
 ·cases he:hit rs 3 c with
  | none=>rw[he]at hd;simp at hd
  | some r =>
   rw[he]at hd;have hd:d∈r.to:=hd;have q:=(x0L.1 h).1;obtain⟨M,T,I⟩:=(x1U q e8M r).1 he;have u:=(x0m.1 q).2.1 r M
   have A:scalar d=true:=by
    rcases fam_three T with e | e
    ·exact(x0t (x0A u e).2.2).2 d hd
    ·exact(x0t (x2H u e).2.2).2 d hd
   have:=x3k A;omega
theorem y0p(M:List (List Int)){k}(G:k<M.length):(M.take (k+1)).flatten=(M.take k).flatten++M.getD k []:=by
 rw[List.take_add_one,List.flatten_append,List.getElem?_eq_getElem G];exact w7Y
theorem z5y(M:List (List Int)){k}(G:k<M.length):((M.take k).flatten).length+(M.getD k []).length<=M.flatten.length:=by
 have Z:=congrArg List.length (y0p M G);rw[List.length_append]at Z;have D:M.flatten=(M.take (k+1)).flatten++(M.drop (k+1)).flatten:=(by rw[<- List.flatten_append,List.take_append_drop]);have R:=congrArg List.length D;rw[List.length_append]at R;omega
end Cn
section
variable {B p:Nat} {rs:List Rec} {w0:World}
theorem y8m(hg:Glob w0)(hD:x0n w0 B p rs)(hk:(Cn.check rs).2=0) c(hc:Rune c)(M:List (List Int))(ho:Cn.opn rs c≠[])(W:M.length=(Cn.opn rs c).length)(ih:∀i,i<(Cn.opn rs c).length->z0W w0 p ((Cn.opn rs c).getD i 0) (M.getD i [])):z0W w0 p c M.flatten:=by
 intro x xs w hx A hl;have o:=O (y0L c w (hg.on A) (hD.below A) hk hc);have aA:=Cn.z6p hk c;have ar:=A.size;have b:=O hx;have ag:=O A;have ai:=O ih;have G:=fun k (h:k<M.length)=>O (Cn.z5y M h);have P:=fun k (h:k<M.length)=>O (Cn.y0p M h);have n:0<(Cn.opn rs c).length:=List.length_pos_iff.2 ho;obtain⟨v,l,aw,_,_⟩:=hx.sk.shape;have m:Hid (∀k,x.ownBlock=some k->w0.heap.size<=k/\k<w.heap.size):=fun k h=>hx.row.lt k h;obtain⟨q,az⟩:=hc;generalize Cn.opn rs c=t at *;subst aw;have ae:=O W;go_enter func194,ntmps194;go_wp2_with fail;refine(V o).mono ?_;rintro e1 w1 ⟨v1,rfl,a,b1⟩;obtain⟨vb,vo,F,z,ay,N,ab⟩:=a.sk.place n
 have aG:w.heap.size<=vb:=by
  have:=(a.row.lt vb (by rw[z];rfl)).1;exact this
 subst z;have aF:=b1.size;have Q:=O b1;have I:=O ab;have C:=O a.1;have J:=(V b).below b1;have aq:=O J;have L:((t.length:Int)==0)=false:=(by grind);go_wp2;go_loopw[1,9,22] (fun f _ u wr=>∃k:Nat,u=.int .i64 k/\k<=t.length/\Ok .i32 21 wr w0.heap.size f (xs++(M.take k).flatten)/\Grw w1 wr (.slice v xs.length l) f) (fun _ _ u _=>t.length-(intOf u).toNat)
 case atStart=>exact⟨0,rfl,f6J,by simpa using V aq,Grw.refl _ _⟩
 case round =>
  obtain⟨k,rfl,aC,y,s⟩:=hrel;have Z:=O y;have K:=O s;by_cases H:k<t.length
  ·have X:wr.cell? ⟨vb,vo+k,none⟩=some (.int .i32 (t.getD k 0)):=by
    have R:=V I k H;refine s.g.cell R (fun e=>?_);have:=V m vb e.symm;omega
   have aD:Rune (t.getD k 0):=by
    have:=V C (t.getD k 0) N3H;exact⟨this.1,this.2⟩
   have r:Bw w0 wr:=((V ag).trans ((V Q).mono ar)).grown s.g f6J (fun j hj=>(V m j hj).1);have aB:=V (G k (by rw[V ae];exact H));have KR:=O (V ai k H u1 (xs++(M.take k).flatten) wr y r u7D);have aj:=O (V (P k (by rw[V ae];exact H)))
   obtain⟨T,D,U,S⟩:∃T D U,u1=.slice T D U:=P0x
   subst S;generalize t.getD k 0=d at *;go_wp2_with fail;refine(V KR).mono ?_;rintro e3 w3 ⟨v3,rfl,af,g3⟩;rw[List.append_assoc,<- V aj]at af;have am:=O af;have E:=O ((V K).trans g3);go_wp2
   go_roundw
   case rel=>exact⟨k+1,g2A,f6J,V am,V E⟩
   case measure=>exact g7T
  ·obtain rfl:k=t.length:=f6J;rw[<- V ae,List.take_length]at Z;have Y:Hid (AppB w w0.heap.size (.slice v xs.length l) (xs++M.flatten) (.returned u1) wr):=⟨u1,rfl,V Z,(V K).after (V Q)⟩
   obtain⟨T,D,U,S⟩:∃T D U,u1=.slice T D U:=P0x
   subst S;exact R3N
theorem y5g(C:Glob w0)(E:x0n w0 B p rs)(G:(Cn.check rs).2=0):∀(n:Nat){c:Int}{ys:List Int},Cn.Tree rs n c ys->Rune c->z0W w0 p c ys
 | 0,c,_,⟨o,e⟩,hc=>by rw[e];exact y8l C E G c hc o
 | n+1,c,ys,ht,hc=>by
  rcases ht with ⟨o,rfl⟩ | ⟨o,yss,hl,h,rfl⟩
  ·exact y8l C E G c hc o
  ·exact y8m C E G c hc yss o hl (fun i hi=>y5g C E G n (h i hi) (Cn.z2H G (c:=c) n7A))
theorem y8k c w(C:Glob w)(E:x0n w B p rs)(G:(Cn.check rs).2=0)(T:Rune c):Calls prog 148 #[.pointer (some ⟨p,0,none⟩),.int .i32 c] w (x0j w (Cn.full rs c).1):=by
 have s:=(Cn.leaves G c).2.2.1;have K:=O (y5g C E G 16 (Cn.y8n G c) T (.slice none 0 0) [] w (Ok.nil _ _ _ _) (b0r) P8P);rw[List.nil_append]at K;obtain⟨q,F⟩:=T;generalize(Cn.full rs c).1=L at *;go_enter func148,ntmps148;go_wp2_with fail;refine(V K).mono ?_;rintro P I ⟨u,rfl,a,M⟩;have Y:Hid (x0j w L (.returned u) I):=⟨u,rfl,a,(Below.refl w.heap.size w).grown M.g (l0r _) (fun k G=>g6F)⟩;exact R3J
end
open Ti
namespace Cn
theorem x4c{rs}(q:(check6 rs).2=0) c:0<=cls rs c/\cls rs c<=254:=by
 unfold cls
 cases he:hit rs 2 c with
 | none=>simp
 | some r =>
  obtain⟨M,T,I⟩:=(x1U q e8N r).1 he;have G:=(y8N T).2.1 rfl;exact y0Z ((x0m.1 q).2.1 r M) f6J f6J
end Cn
namespace Cn
def openAll(rs:List Rec)(xs:List Int):List Int:=(xs.map fun c=>(full rs c).1).flatten
theorem y0K rs(xs:List Int){k}(G:k<xs.length):openAll rs (xs.take (k+1))=openAll rs (xs.take k)++(full rs (xs.getD k 0)).1:=by
 unfold openAll;rw[List.take_add_one,List.map_append,List.flatten_append,List.getElem?_eq_getElem G];exact w7Y
theorem x3P{rs}(h:(check rs).2=0) xs:(openAll rs xs).length<=32*xs.length:=by
 unfold openAll
 induction xs with
 | nil=>simp
 | cons c xs ih =>
  have:=(leaves h c).2.2.1;simp only[List.map_cons,List.flatten_cons,List.length_append,List.length_cons];omega
end Cn
theorem y5x(n:Nat) w B(l:B<=w.heap.size)(E:n<=70000):∃W,(Instr.makeSlice 40 (.int .i64 0) (.int .i64 (n:Int))).run prog w=.ok (.slice (some ⟨w.heap.size,0,none⟩) 0 n) W/\Ok .i32 21 W B (.slice (some ⟨w.heap.size,0,none⟩) 0 n) []/\w.grownBy W none:=by
 obtain⟨r,hi,A,i,f⟩:=info_parts y8E;obtain⟨W,Z,D,R⟩:=run_make_own (P:=prog) w B 40 21 r (.int .i32 0) 1 underlying40 hi A i .i64 .i64 n V8s T7W l;exact E5g
theorem y0M{B p rs} v xs w(hg:Glob w)(hD:x0n w B p rs)(G:(Cn.check rs).2=0)(hx:Sk .i32 w v xs)(aM:xs.length<=65536):Calls prog 96 #[.pointer (some ⟨p,0,none⟩),v] w (x0j w (Cn.openAll rs xs)):=by
 obtain⟨i0,hi,aB,aC,f⟩:=info_parts y8E;have b:=O hx;obtain⟨vo,vc,aA,aK,aL⟩:=hx.shape;subst aA;have Y:Hid (∀c W,Rune c->Bw w W->Calls prog 148 #[.pointer (some ⟨p,0,none⟩),.int .i32 c] W (x0j W (Cn.full rs c).1)):=fun c W hc U=>y8k c W (hg.on U) (hD.below U) G hc;have P:=fun k (h:k<xs.length)=>O (Cn.y0K rs xs h);have E:=fun k=>O (Cn.x3P G (xs.take k));have aj:=fun c=>O (Cn.leaves G c).2.2.1;have r:=fun c=>O (Cn.leaves G c).2.1;obtain⟨W0,aI,o,g0⟩:=y5x xs.length w w.heap.size (l0r _) f6J;have aw:Bw w W0:=(b0r).grown g0 (l0r _) (fun k G=>g6F);have D:=O aw;have aq:=O o;have C:Hid (Cn.openAll rs (xs.take xs.length)=Cn.openAll rs xs):=(by grind);go_enter func96,ntmps96;go_wp2;go_loopw[5,6,12] (fun yy _ ii wr=>∃k:Nat,ii=.int .i64 k/\k<=xs.length/\Ok .i32 21 wr w.heap.size yy (Cn.openAll rs (xs.take k))/\Bw w wr) (fun _ _ ii _=>xs.length-(intOf ii).toNat)
 case atStart=>exact⟨0,rfl,f6J,V aq,V D⟩
 case round =>
  obtain⟨k,rfl,aH,y,Q⟩:=hrel;by_cases H:k<xs.length
  ·obtain⟨bx,ox,aD,g,_,_,l⟩:=(V b).place f6J;simp only[Value.slice.injEq]at g;obtain⟨rfl,h9,rfl⟩:=g
   have X:wr.cell? ⟨bx,ox+k,none⟩=some (.int .i32 (xs.getD k 0)):=by
    have R:=l k H;exact i9N
   have N:Rune (xs.getD k 0):=by
    have:=(V b).1 (xs.getD k 0) N3K;exact⟨this.1,this.2⟩
   have q:=O (V Y (xs.getD k 0) wr N Q);have x:=O (V (P k H));have t:=V (E k);rw[List.length_take]at t;have aG:=V (aj (xs.getD k 0));have s:=V (r (xs.getD k 0));have aF:=Q.size;have HB:=O Q;have Z:=O y;obtain⟨L,yc,ab,_,_⟩:=y.sk.shape;subst ab;generalize hzs:Cn.openAll rs (xs.take k)=zs,hfs:(Cn.full rs (xs.getD k 0)).1=S at *;generalize xs.getD k 0=c at *;have aN:zs.length<=2097152:=f6J;go_wp2_with fail;refine(V q).mono ?_;rintro e1 w1 ⟨v1,rfl,a,b1⟩;obtain⟨fb,fo,fc,M,_,_,ay⟩:=a.sk.place s;subst M
   have T:∀j u,(S.map (Value.int .i32))[j]?=some u->w1.cell? ((⟨fb,fo,none⟩:Addr).add j)=some u:=by
    intro j u hu;obtain⟨K,hu⟩:=List.getElem?_eq_some_iff.1 hu;rw[List.length_map]at K;rw[addr_add,ay j K,<- hu];exact E3i
   have af:w1.ownsRow w.heap.size 21 1 (.slice L zs.length yc) zs.length (zs.map (Value.int .i32)):=by
    have:=((V Z).below b1).row;exact W2P
   have aJ:=b1.size;have I:=O af;have A:=O T;have J:=O (V Z).1;have ai:=O a.1;have ag:=O (x0b (V HB) b1);go_wp2_with(at_builtin;refine wpList_append_own _ rfl (.tmp 15) (.tmp 21) 40 rfl w.heap.size 21 i0 (.int .i32 0) 1 4 underlying40 hi aB aC f rfl e8P _ _ _ rfl (V I) ⟨fb,fo,none⟩ S.length fc (S.map (Value.int .i32)) rfl (by simp) (V A) (fun u hu=>P0P) T7X f6J f6J ?_);intro v2 d m az _
   have ae:Ok .i32 21 d w.heap.size v2 (zs++S):=by
    refine Ok.of (n:=zs.length+S.length) (us:=zs.map (Value.int .i32)++S.map (Value.int .i32)) (fun z hz=>?_) P8P m (by simp) (by simp);rcases List.mem_append.1 hz with hz | hz
    ·exact V J z hz
    ·exact V ai z hz
   have F:Bw w d:=(V ag).grown az f6J (fun j K=>((V I).lt j K).1);have ar:=O ae;have i:=O F;go_wp2
   go_roundw
   case rel=>exact⟨k+1,g2D,f6J,by rw[V x];exact V ar,V i⟩
   case measure=>exact g7W
  ·obtain rfl:k=xs.length:=f6J;rw[V C]at y;have am:Hid (x0j w (Cn.openAll rs xs) (.returned u5) wr):=⟨u5,rfl,y,Q⟩
   obtain⟨L,yl,yc,ab⟩:∃L yl yc,u5=.slice L yl yc:=by
    obtain⟨L,yc,e,_,_⟩:=y.sk.shape;exact⟨L,_,yc,e⟩
   subst ab;go_wp2;go_ret;exact V am
def refN(ns:List Nat):Int:=if ns.any (fun n=>decide (65536<n))then 2 else 0
theorem y9U{A:List Nat}{k}(G:k<A.length):refN (A.drop k)=if 65536<A.getD k 0 then 2 else refN (A.drop (k+1)):=by
 rw[List.drop_eq_getElem_cons G];unfold refN;rw[List.any_cons];have:A.getD k 0=A[k]:=w7Y;rw[this];by_cases h:65536<A[k]
 ·grind
 ·grind
theorem x9C p g n ns w(K:ns.length=n)(S:n<=10)(T:∀i,i<n->∃ao cap,w.cell? ⟨g,i,none⟩=some (.slice ao (ns.getD i 0) cap)/\cap<=9223372036854775807/\ns.getD i 0<=cap):Calls prog 55 #[.pointer (some ⟨p,0,none⟩),.slice (some ⟨g,0,none⟩) n n] w fun e w'=>e=.returned (.int .i64 (refN ns))/\w'=w:=by
 have J:=O T;have f:Hid (∀k,k<n->refN (ns.drop k)=if 65536<ns.getD k 0 then 2 else refN (ns.drop (k+1))):=fun k G=>y9U f6J;obtain⟨L,D⟩:∃r,refN ns=r:=⟨_,rfl⟩;rw[D];have U:Hid (refN (ns.drop 0)=L):=(by grind);have C:Hid (refN (ns.drop n)=0):=(by show _=_;rw[<- K,List.drop_length];rfl);go_enter func55,ntmps55;go_wp2;go_loopw[6,11] (fun _ u wr=>wr=w/\∃k:Nat,u=.int .i64 k/\k<=n/\refN (ns.drop k)=L) (fun _ u _=>n-(intOf u).toNat)
 case atStart=>exact⟨rfl,0,rfl,f6J,V U⟩
 case round =>
  obtain⟨rfl,k,rfl,G,X⟩:=hrel;by_cases H:k<n
  ·have E:=V f k H;rw[X]at E;obtain⟨ao,cap,I,q,F⟩:=V J k H;have t:=O E;generalize ns.getD k 0=m at *;by_cases y:65536<m
   ·have X:=V t;rw[if_pos y]at X;subst X;exact t6z
   ·have X:=V t;rw[if_neg y]at X;have P:=O X;go_wp2
    go_roundw
    case rel=>exact⟨f5W,k+1,g2A,f6J,(V P).symm⟩
    case measure=>exact g7T
  ·obtain rfl:k=n:=f6J;rw[V C]at X;subst X;exact t6z
def SeqE(w:World)(zs:List Int)(er:Int)(e:Ending)(w':World):Prop:=∃v,e=.returned (.tuple #[v,.int .i64 er])/\Ok .i32 21 w' w.heap.size v zs/\Below w.heap.size w w'
theorem one_cell(w:World) ao n cap ty:(w.alloc (.cells #[.slice ao n cap] ty)).cell? ⟨w.heap.size,0,none⟩=some (.slice ao n cap):=f0h
namespace Cn
end Cn
namespace Cn
end Cn
open Ti
namespace Cn
def looks(rs:List Rec)(c:Int):List Int:=if(rget rs 8 c).to=[]then[c]else(rget rs 8 c).to
section
variable {rs:List Rec} {c:Int}
end
end Cn
open Ti
namespace Cn
end Cn
open Ti
namespace Cn
end Cn
namespace Cn
end Cn
open Ti
open Ti
