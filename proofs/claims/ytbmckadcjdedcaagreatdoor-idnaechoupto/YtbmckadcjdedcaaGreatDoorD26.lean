/- Ux9 Uk9 Vc9 Ve9 Vk9 Ct7 Vh9 Vi9 Vj9 Oa12 Ob12 Oc12 Od12 Oe12 Of12 Og12 Vm9 Vn9 Vq9 Vr9 Vs9 -/
import Derived.Test.YtbmckadcjdedcaaGreatDoorD23
import Derived.Deep.RegionHeld
import Derived.Laws.AppendOwnNone
import Derived.Maps.AppendAt
import Derived.Laws.MakeOwn
import Derived.Deep.CutBlock
import Derived.Deep.DeepCutAuto
set_option maxHeartbeats 4000000
set_option maxRecDepth 8000
namespace Go.Proofs.YtbmckadcjdedcaaGreatDoor
open Go.Proofs.Tryz
open Go.RowKit
open Ti
section
variable{p:Prop}
theorem W0Y(h:p:=by unfold I64;exact e8M):p:=h
theorem s1y(h:p:=by exact absurd (Prod.mk.inj h).2 e8M):p:=h
theorem i4V(h:p:=by go_enter func196,ntmps196;exact t6u):p:=h
theorem e4H(h:p:=by(intro w hSw;obtain⟨⟨T,J⟩,⟨x,x1,x2,R,F,x5,x6,x7⟩⟩:=hSw;go_simp)):p:=h
theorem w4a(h:p:=by go_enter func100,ntmps100;go_wp2_with fail;refine(V K).mono ?_;rintro e G ⟨rfl,rfl⟩;clear K;go_wp2;go_ret2;exact g9T):p:=h
theorem W7F(h:p:=by rintro e w ⟨rfl,rfl⟩;go_wp2_with fail;refine(V S _).mono ?_;rintro e w ⟨rfl,rfl⟩;go_wp2_with fail;refine(V U _).mono ?_;rintro e w ⟨rfl,rfl⟩;go_wp2;go_ret2;exact⟨by first| rfl | simp,rfl⟩):p:=h
theorem G7j(h:p:=by go_enter func197,ntmps197;go_wp2_with fail;refine(V i).mono ?_;rintro e w ⟨rfl,rfl⟩;exact t6v):p:=h
theorem r8O(h:p:=by exact⟨fun e=>by rw[e]at this;simp at this,f6J⟩):p:=h
theorem F2m(h:p:=by rintro e w ⟨rfl,rfl⟩;go_wp2_with fail;refine(V S _).mono ?_;rintro e w ⟨rfl,rfl⟩;go_wp2_with fail;refine(V U _).mono ?_;rintro e w ⟨rfl,rfl⟩;go_wp2;go_ret2;exact g9T):p:=h
theorem u0a(h:p:=by go_wp2_with fail;refine(V K2).mono ?_;rintro E u ⟨z,rfl,a,G⟩;have T:Hid (x0j w L (.returned z) u):=⟨z,rfl,a.lower (V l).size,x0b (V l) G⟩;exact v8m):p:=h
theorem f1Z(h:p:=by(intro w hSw;go_simp;first| done|(rw[IntKind.wrap_i32];omega)|(unfold wrap32;omega) | omega)):p:=h
theorem T6J(h:p:=by rintro e w ⟨rfl,rfl⟩;go_wp2_with fail;refine(V S _).mono ?_;rintro e w ⟨rfl,rfl⟩;go_wp2;go_ret2;exact g9T):p:=h
theorem p0V(h:p:=by obtain⟨z,F,S,_,_⟩:=y.sk.shape;exact⟨z,_,F,S⟩):p:=h
end
theorem x6f(w:World)(o:Obj):(w.alloc o).heap.size=w.heap.size+1:=Array.size_push ..
structure RecC(w:World)(g off:Nat)(r:Rec)(ao:Option Addr)(ln cp:Nat):Prop where
 x0:w.cell? ⟨g,off,none⟩=some (.int .i64 r.kind)
 x1:w.cell? ⟨g,off+1,none⟩=some (.int .i64 r.lo)
 x2:w.cell? ⟨g,off+2,none⟩=some (.int .i64 r.hi)
 x3:w.cell? ⟨g,off+3,none⟩=some (.int .i64 r.n)
 x4:w.cell? ⟨g,off+4,none⟩=some (.slice ao ln cp)
 x5:w.cell? ⟨g,off+5,none⟩=some (.string r.name)
 x6:w.cell? ⟨g,off+6,none⟩=some (.string r.other)
 x7:w.cell? ⟨g,off+7,none⟩=some (.float .f64 r.wt)
theorem RecC.keep{w w':World}{g off:Nat}{r:Rec}{ao:Option Addr}{A cp:Nat}(h:RecC w g off r ao A cp)(G:w'.heap[g]?=w.heap[g]?):RecC w' g off r ao A cp:=by
 have I:∀j,w'.cell? ⟨g,j,none⟩=w.cell? ⟨g,j,none⟩:=fun j=>(by simp only[World.cell?,G]);exact⟨by rw[I];exact h.x0,by rw[I];exact h.x1,by rw[I];exact h.x2,by rw[I];exact h.x3,by rw[I];exact h.x4,by rw[I];exact h.x5,by rw[I];exact h.x6,by rw[I];exact h.x7⟩
def OfP(w:World)(B:Nat)(r:Rec)(e:Ending)(w':World):Prop:=∃vt,e=.returned (recV r vt)/\Ok .i32 21 w B vt r.to/\Below w.heap.size w w'
theorem z3r{t l:Value}{rs:List Rec}{f:Int}{B:Nat}(c:Int)(w:World)(hS:SpP w B t l (Cn.famOf f rs))(h6:(Cn.check6 rs).2=0)(hf:f≠10/\f≠0)(hc:Rune c):Calls prog 147 #[.agg #[t,l],.int .i32 c] w (OfP w B (Cn.rget rs f c)):=by
 obtain⟨aB,aC⟩:=hc;obtain⟨⟨a,m,e,hp,hs,t4⟩,ps,X,q⟩:=hS;subst e;have hv:=(Cn.x8f h6 hf hp hs).2 c;obtain⟨k,hk⟩:∃k:Nat,Tri.get 0 m c=(k:Int):=⟨(Tri.get 0 m c).toNat,f6J⟩;have aj:ps.length=(Cn.famOf f rs).length+1:=(by have:=congrArg List.length q;simpa using this);have H:k<ps.length:=f6J;have aw:(Cn.famOf f rs).length<=4096:=Nat.le_trans (List.length_filter_le _ _) (Cn.x0m.1 h6).1
 have Y:ps[k].1=Cn.rget rs f c:=by
  have h2:=hv.2.2;rw[hk,Int.toNat_natCast,<- q]at h2;have h3:(ps.map (·.1)).getD k Cn.none=ps[k].1:=N3G;rw[<- h3];exact h2
 obtain⟨g,M,ay⟩:∃g M,l=.slice (some ⟨g,0,none⟩) ps.length M:=by
  rcases X.1.2 with⟨_,h0⟩ | ⟨g,M,aA,e,_⟩
  ·omega
  ·exact⟨g,M,e⟩
 subst ay;obtain⟨r,s,A,u,hq,x,x1,x2,R,F,x5,x6,x7,_⟩:=X.cells8 H;have ae:RecC w g (k*8) r s A u:=⟨x,x1,x2,R,F,x5,x6,x7⟩;have aq:r=Cn.rget rs f c:=(by rw[<- Y,hq]);rw[<- aq];have y:Ok .i32 21 w B (.slice s A u) r.to:=(by have:=X.2 ps[k] (List.getElem_mem H);rw[hq]at this;exact this);have Z:=O y;have ai:g<w.heap.size:=x0a x
 have KG:Hid (∀W,Bw w W->Calls prog 146 #[.pointer (some a),.int .i64 c] W (x1r W (k:Int))):=fun W hW=>by
  have:=get4 _ m 0 c W ⟨B,t4.below hW⟩ ⟨f6J,f6J⟩;rw[hk]at this;exact this
 have aD:ps.length<=5000:=f6J;clear hv hk aj Y q X hq x x1 x2 R F x5 x6 x7 y hp hs t4 h6 aq aw;generalize ps.length=L at *;obtain⟨W0,P⟩:∃W0,(w.alloc (.cells #[.pointer (some a),.slice (some ⟨g,0,none⟩) L M] 138)).alloc (.cells #[.int .i64 0,.int .i64 0,.int .i64 0,.int .i64 0,.slice none 0 0,.string ⟨#[]⟩,.string ⟨#[]⟩,.float .f64 0] 67)=W0:=⟨_,rfl⟩;have az:=x6f w (.cells #[.pointer (some a),.slice (some ⟨g,0,none⟩) L M] 138);have E:=(Below.refl w.heap.size w).alloc (l0r _) (.cells #[.pointer (some a),.slice (some ⟨g,0,none⟩) L M] 138);have am:=heap_alloc_new w (.cells #[.pointer (some a),.slice (some ⟨g,0,none⟩) L M] 138)
 have U:Bw w W0:=by
  rw[<- P];exact E.alloc f6J _
 have i:W0.heap[w.heap.size+1]?=some (.cells #[.int .i64 0,.int .i64 0,.int .i64 0,.int .i64 0,.slice none 0 0,.string ⟨#[]⟩,.string ⟨#[]⟩,.float .f64 0] 67 (0,0)):=by
  rw[<- P,<- az];exact heap_alloc_new _ _
 have Q:W0.heap[w.heap.size]?=some (.cells #[.pointer (some a),.slice (some ⟨g,0,none⟩) L M] 138 (0,0)):=by
  rw[<- P,heap_alloc_old _ _ f6J];exact am
 have aF:W0.heap.size=w.heap.size+2:=by rw[<- P,x6f];exact f6J
 have HS:Hid (∀W,Bw W0 W->(W.cell? ⟨w.heap.size,0,none⟩=some (.pointer (some a))/\W.cell? ⟨w.heap.size,1,none⟩=some (.slice (some ⟨g,0,none⟩) L M))/\RecC W g (k*8) r s A u):=fun W hW=>by
  have N:=hW.block w.heap.size f6J;rw[Q]at N;exact⟨⟨cell_of (j:=0) N n6a,cell_of (j:=1) N w2h⟩,ae.keep (by rw[hW.block g f6J,U.block g ai])⟩
 have n:Hid (∀W,Bw W0 W->W.heap[w.heap.size+1]?=some (.cells #[.int .i64 0,.int .i64 0,.int .i64 0,.int .i64 0,.slice none 0 0,.string ⟨#[]⟩,.string ⟨#[]⟩,.float .f64 0] 67 (0,0))):=fun W hW=>by
  rw[hW.block _ f6J];exact i
 have o:=O U;have ar:=O ai;clear E am i Q ae U;go_enter func147,ntmps147;go_wp2;refine wp_region_held_drew (S:=fun w'=>((w'.cell? ⟨w.heap.size,0,none⟩=some (.pointer (some a))/\w'.cell? ⟨w.heap.size,1,none⟩=some (.slice (some ⟨g,0,none⟩) L M))/\RecC w' g (k*8) r s A u)) f4y (V HS _ (x0k ⟨1,rfl⟩)) (fun hHeld=>?_);refine tk9 0 (.pointer (some ⟨w.heap.size,1,none⟩)) ?_ (hy:=e4H);refine tk9 1 (.slice (some ⟨g,0,none⟩) L M) ?_ (hy:=e4H);refine tk9 2 (.pointer (some ⟨w.heap.size,0,none⟩)) ?_ (hy:=e4H);refine tk9 3 (.pointer (some a)) ?_ (hy:=e4H);refine tk9 4 (.int .i32 c) ?_ (hy:=e4H);refine tk9 5 (.int .i64 c) ?_ (hy:=by(intro w hSw;obtain⟨⟨T,J⟩,⟨x,x1,x2,R,F,x5,x6,x7⟩⟩:=hSw;go_simp;rw[IntKind.wrap_i64];omega));refine rd9 6 fun K hK=>?_;go_simp;refine(V KG _ (x0b (V o) (x0k ⟨1,rfl⟩))).mono ?_;rintro e2 w2 ⟨rfl,mm,rfl⟩;have d:=O (x0b (x0k ⟨1,rfl⟩) (x0k ⟨mm,rfl⟩):Bw W0 _);refine hK.out _ _ ?_ (fun hHeld=>?_)
 ·exact V HS _ (V d)
 clear hK K
 try simp only[Act.put,sa9,sb9,sc9]
 refine tk9 7 (.pointer (some ⟨g,k*8,none⟩)) ?_ (hy:=e4H);refine tk9 8 (recV r (.slice s A u)) ?_ (hy:=by(intro w hSw;obtain⟨⟨T,J⟩,⟨x,x1,x2,R,F,x5,x6,x7⟩⟩:=hSw;first| exact loadR x x1 x2 R F x5 x6 x7|(unfold recV;go_simp)));refine rd9 9 fun K hK=>?_;generalize((W0.drewN 1).drewN mm)=V2 at *;have D:=V n _ (V d);have I:=V HS _ (V d);have s9:=z8U (off:=0) D (by show 0+8<=8;exact f6J) r s A u;have hV:=y9m (off:=0) D (r,.slice s A u);have C:∀b,b≠w.heap.size+1->(putR V2 (w.heap.size+1) 0 (r,.slice s A u)).heap[b]?=V2.heap[b]?:=fun b hb=>x9r _ hb;have af:Bw w (putR V2 (w.heap.size+1) 0 (r,.slice s A u)):=x8g (x0b (V o) (V d)) f6J _;generalize putR V2 (w.heap.size+1) 0 (r,.slice s A u)=G at *;refine x7a rfl 67 (.tmp 4) (.tmp 13) rfl (.pointer (some ⟨w.heap.size+1,0,none⟩)) (recV r (.slice s A u)) rfl rfl s9 ?_;refine hK.out _ _ ?_ (fun hHeld=>?_)
 ·obtain⟨⟨q0,q1⟩,q2⟩:=I;have hc:∀j,G.cell? ⟨w.heap.size,j,none⟩=V2.cell? ⟨w.heap.size,j,none⟩:=fun j=>(by simp only[World.cell?,C w.heap.size f6J]);exact⟨⟨by rw[hc];exact q0,by rw[hc];exact q1⟩,q2.keep (C g (by have:=V ar;exact f6J))⟩
 clear hK K
 try simp only[Act.put]
 refine wpAnyH_done f4y ?_ _
 have z:RecC G (w.heap.size+1) 0 r s A u:=by
  have ab:∀j,j<8->G.cell? ⟨w.heap.size+1,j,none⟩=(x0y (r,.slice s A u))[j]?:=fun j hj=>by
   have e:=y9L #[.int .i64 0,.int .i64 0,.int .i64 0,.int .i64 0,.slice none 0 0,.string ⟨#[]⟩,.string ⟨#[]⟩,.float .f64 0] 0 (r,.slice s A u) (by show 0+8<=8;exact f6J) j;rw[if_pos f6J,Nat.sub_zero]at e;rw[<- e];simp[World.cell?,hV]
  exact⟨ab 0 f6J,ab 1 f6J,ab 2 f6J,ab 3 f6J,ab 4 f6J,ab 5 f6J,ab 6 f6J,ab 7 f6J⟩
 obtain⟨z0,z1,z2,z3,z4,z5,z6,z7⟩:=z;have ag:OfP w B r (.returned (recV r (.slice s A u))) G:=⟨_,rfl,V Z,af⟩;clear hV C af D s9 I hHeld n HS;go_wp2;refine bodyPost_ret (v:=recV r (.slice s A u)) (by simp[results,Tryz.results147,go_sem,z0,z1,z2,z3,z4,z5,z6,z7,recV]) rfl ag
namespace Cn
def within(c a b:Int):Bool:=decide (a<=c/\c<=b)
def bare2(c:Int):Bool:=syl c&&decide ((c-44032)%28=0)
def sylOf(a b:Int):Int×Bool :=
 if(jl a&&jv b)=true then(44032+((a-4352)*21+b-4449)*28,true)else if(bare2 a&&jt b)=true then(a+b-4520+1,true)else(0,false)
end Cn
theorem x2H(c a b:Int)(w:World):Calls prog 196 #[.int .i32 c,.int .i32 a,.int .i32 b] w fun e w'=>e=.returned (.bool (Cn.within c a b))/\w'=w:=by
 unfold Cn.within;by_cases D:a<=c
 ·by_cases Z:c<=b
  ·rw[d0t ⟨D,Z⟩];exact i4V
  ·rw[d0f (fun h=>Z h.2)];have L:decide (c<=b)=false:=d0f Z;exact i4V
 ·rw[d0f (fun h=>D h.1)];have g:decide (a<=c)=false:=d0f D;exact i4V
theorem z0k(c:Int)(w:World):Calls prog 197 #[.int .i32 c] w fun e w'=>e=.returned (.bool (Cn.bare2 c))/\w'=w:=by
 have i:=O (x2H c 44032 55203 w);have N:Cn.within c 44032 55203=Cn.syl c:=rfl;rw[N]at i;unfold Cn.bare2;by_cases X:Cn.syl c=true
 ·have E:44032<=c/\c<=55203:=o0d X;obtain⟨T,J⟩:=E;rw[X]at i ⊢;have N:(c-44032).tmod 28=(c-44032)%28:=Int.tmod_eq_emod_of_nonneg f6J;obtain⟨H,C⟩:∃H,decide ((c-44032)%28=0)=H:=⟨_,rfl⟩;rw[C];have D:((c-44032)%28==0)=H:=f6J;exact G7j
 ·rw[Bool.not_eq_true]at X;rw[X]at i ⊢;exact G7j
theorem x9H(a b:Int)(w:World):Calls prog 151 #[.int .i32 a,.int .i32 b] w fun e w'=>e=.returned (.tuple #[.int .i32 (Cn.sylOf a b).1,.bool (Cn.sylOf a b).2])/\w'=w:=by
 have i:Hid (∀w,Calls prog 196 #[.int .i32 a,.int .i32 4352,.int .i32 4370] w fun e w'=>e=.returned (.bool (Cn.jl a))/\w'=w):=fun w=>x2H a 4352 4370 w;have j:Hid (∀w,Calls prog 196 #[.int .i32 b,.int .i32 4449,.int .i32 4469] w fun e w'=>e=.returned (.bool (Cn.jv b))/\w'=w):=fun w=>x2H b 4449 4469 w;have S:=O (fun w=>z0k a w);have U:Hid (∀w,Calls prog 196 #[.int .i32 b,.int .i32 4520,.int .i32 4546] w fun e w'=>e=.returned (.bool (Cn.jt b))/\w'=w):=fun w=>x2H b 4520 4546 w;have D:Cn.jl a=true->4352<=a/\a<=4370:=fun h=>o0d h;have Z:Cn.jv b=true->4449<=b/\b<=4469:=fun h=>o0d h
 have R:Cn.bare2 a=true->44032<=a/\a<=55203:=fun h=>by
  unfold Cn.bare2 at h;rw[Bool.and_eq_true]at h;exact o0d h.1
 have H:Cn.jt b=true->4520<=b/\b<=4546:=fun h=>o0d h;unfold Cn.sylOf;generalize Cn.jl a=q1,Cn.jv b=q2,Cn.bare2 a=q3,Cn.jt b=F at *;replace D:=O D;replace Z:=O Z;replace R:=O R;replace H:=O H;by_cases o:(q1&&q2)=true
 ·rw[if_pos o];obtain⟨rfl,rfl⟩:q1=true/\q2=true:=f2p;obtain⟨A,J⟩:=V D rfl;obtain⟨b1,m⟩:=V Z rfl;go_enter func151,ntmps151;go_wp2_with fail;refine(V i _).mono ?_;rintro e w ⟨rfl,rfl⟩;go_wp2_with fail;refine(V j _).mono ?_;rintro e w ⟨rfl,rfl⟩;go_wp2;go_ret2;exact⟨by first| rfl | simp,rfl⟩
 ·rw[if_neg o]
  cases q1 with
  | false =>
   cases q3 with
   | false =>
    rw[if_neg M7K];go_enter func151,ntmps151;go_wp2_with fail;refine(V i _).mono ?_;exact T6J
   | true =>
    cases F with
    | false =>
     rw[if_neg M7K];go_enter func151,ntmps151;go_wp2_with fail;refine(V i _).mono ?_;exact F2m
    | true =>
     rw[if_pos (show(true&&true)=true from rfl)];obtain⟨A,J⟩:=V R rfl;obtain⟨b1,m⟩:=V H rfl;go_enter func151,ntmps151;go_wp2_with fail;refine(V i _).mono ?_;exact W7F
  | true =>
   obtain rfl:q2=false:=by cases q2<;>simp_all
   cases q3 with
   | false =>
    rw[if_neg M7K];go_enter func151,ntmps151;go_wp2_with fail;refine(V i _).mono ?_;rintro e w ⟨rfl,rfl⟩;go_wp2_with fail;refine(V j _).mono ?_;exact T6J
   | true =>
    cases F with
    | false =>
     rw[if_neg M7K];go_enter func151,ntmps151;go_wp2_with fail;refine(V i _).mono ?_;rintro e w ⟨rfl,rfl⟩;go_wp2_with fail;refine(V j _).mono ?_;exact F2m
    | true =>
     rw[if_pos (show(true&&true)=true from rfl)];obtain⟨A,J⟩:=V R rfl;obtain⟨b1,m⟩:=V H rfl;go_enter func151,ntmps151;go_wp2_with fail;refine(V i _).mono ?_;rintro e w ⟨rfl,rfl⟩;go_wp2_with fail;refine(V j _).mono ?_;exact W7F
open Ti
namespace Cn
def cmp9(rs:List Rec)(a b:Int):Int×Bool:=if(sylOf a b).2=true then((sylOf a b).1,true)else((x2K rs a b).getD 0,(x2K rs a b).isSome)
def mapping(rs:List Rec)(c:Int):List Int:=if(rget rs 1 c).kind=4 then[(rget rs 1 c).to.getD 0 0+(c-(rget rs 1 c).lo)]else(rget rs 1 c).to
theorem rget_cases{rs:List Rec}(F:(check6 rs).2=0){f:Int}(z:f≠10/\f≠0)(c:Int):(hit rs f c=Option.none/\rget rs f c=none)\/(hit rs f c=some (rget rs f c)/\rget rs f c∈rs/\fam (rget rs f c).kind=f/\speaks (rget rs f c) c=true/\right (rget rs f c)=0):=by
 unfold rget
 cases he:hit rs f c with
 | none=>exact .inl ⟨rfl,rfl⟩
 | some r =>
  obtain⟨i,U,M⟩:=(x1T F z r).1 he;exact .inr ⟨rfl,i,U,M,(x0m.1 F).2.1 r i⟩
theorem y2z{r:Rec}(h:right r=0)(H:r.kind=4):r.to.length=1/\0<=r.to.getD 0 0/\r.to.getD 0 0<=1114111/\r.to.getD 0 0+r.hi-r.lo<=1114111:=by
 have z:=x0v h;unfold right at h;rw[if_neg z,if_neg f6J]at h;have I:=x1y h;rw[Bool.and_eq_true,if_neg f6J,if_neg f6J,if_pos H]at I;have Z:=I.2;simp only[Bool.and_eq_true]at Z;obtain⟨S,X⟩:=x0t Z.1.2;have A:=o0d Z.2;have q:r.to.length=1:=f6J
 have U:r.to.getD 0 0∈r.to:=by
  match hr:r.to,q with
  | [x],_=>simp
 have:=x3g (X _ U);exact⟨q,this.1,this.2,f6J⟩
theorem x4k{rs:List Rec}(F:(check6 rs).2=0)(c:Int)(H:(rget rs 1 c).kind=4):(rget rs 1 c).to.length=1/\0<=(rget rs 1 c).to.getD 0 0/\(rget rs 1 c).to.getD 0 0<=1114111/\0<=(rget rs 1 c).lo/\(rget rs 1 c).lo<=c/\c<=1114111/\(rget rs 1 c).to.getD 0 0+(c-(rget rs 1 c).lo)<=1114111:=by
 rcases rget_cases F (f:=1) e8N c with⟨_,e⟩ | ⟨_,_,_,X,u⟩
 ·rw[e]at H;exact absurd H e8N
 ·obtain⟨J,d,A⟩:=x0o u f6J;obtain⟨E,r2,r3,r4⟩:=y2z u H;unfold speaks at X;obtain⟨_,_,Y,o,z,s,_⟩:=o0d X;exact⟨E,r2,r3,J,z,o,f6J⟩
end Cn
theorem z6h{W:World}{a:Addr}{u:Value}(h:W.cell? a=some u)(z:W.frozen? a=false)(y:Int):(Instr.storeAt 21 (.pointer (some a)) (.int .i32 y)).run prog W=.ok () (W.setCell a (.int .i32 y)):=by
 simp[Instr.storeAt,go_sem,h,z]
theorem Ok.setAt9{K:IntKind}{e:TypeId}{w:World}{B g n cap:Nat}{zs:List Int}(h:Ok K e w B (.slice (some ⟨g,0,none⟩) n cap) zs)(k:Nat)(z:Int)(o:Fit K [z]) :
  Ok K e (w.setCell ⟨g,k,none⟩ (.int K z)) B (.slice (some ⟨g,0,none⟩) n cap) (zs.set k z)/\w.frozen? ⟨g,k,none⟩=false:=by
 have a:=h.row;rcases a.2 with⟨T,_⟩ | ⟨A,J,P,N,C,t,E,m,I,s⟩
 ·cases T
 ·exact I3T
theorem x9W{B p:Nat}{rs:List Rec}(a b:Int)(w:World)(W:x0n w B p rs)(L:Rune a)(C:Rune b):Calls prog 100 #[.pointer (some ⟨p,0,none⟩),.int .i32 a,.int .i32 b] w fun e w'=>e=.returned (.tuple #[.int .i32 (Cn.cmp9 rs a b).1,.bool (Cn.cmp9 rs a b).2])/\w'=w:=by
 obtain⟨y,S,t,t4,Y,A,v,J,n,d,g,X,T,H,l5,o,c2,u,D,Z,R⟩:=W;have K:=O (x9H a b w);have x:w.cell? ⟨p,15,none⟩=some o:=cell_of (j:=15) D (by show 15<18;exact f6J);obtain⟨E,r2,rfl,f,b1,m,i,U⟩:=R.co;have s:=(z3g (w:=w) (M:=146) (z:=.int .i32 0) klP underlying146 z2T (r:=E) i (k:=pk2 a b) ⟨a,b,rfl,L,C⟩).1;rw[y3G]at s;unfold Cn.cmp9;clear D Z R i U f;obtain⟨F,I⟩:=L;obtain⟨b0,N⟩:=C;generalize Cn.sylOf a b=q at *;obtain⟨P,l⟩:=q
 cases l with
 | true =>
  clear s;exact w4a
 | false =>
  cases hpo:Cn.x2K rs a b with
  | none =>
   rw[hpo]at s;replace s:(Instr.lookup 146 (.map (some E)) (.agg #[.int .i32 a,.int .i32 b]) true).run prog w=.ok (.tuple #[.int .i32 0,.bool false]) w:=s;clear hpo;exact w4a
  | some z =>
   rw[hpo]at s;replace s:(Instr.lookup 146 (.map (some E)) (.agg #[.int .i32 a,.int .i32 b]) true).run prog w=.ok (.tuple #[.int .i32 z,.bool true]) w:=s;clear hpo;exact w4a
theorem y0y{B p:Nat}{rs:List Rec}(c:Int)(w:World)(hD:x0n w B p rs)(F:(Cn.check6 rs).2=0)(o:∀r∈rs,RecFit r)(hc:Rune c):Calls prog 95 #[.pointer (some ⟨p,0,none⟩),.int .i32 c] w (x0j w (Cn.mapping rs c)):=by
 obtain⟨t1,t2,t3,t4,t5,a1,l1,a2,l2,a3,l3,a4,l4,a5,l5,c1,c2,x1,h1,h2,h3⟩:=hD;have i:=O (z3r c w h3.q1 F e8P hc);have x5:w.cell? ⟨p,5,none⟩=some a1:=cell_of (j:=5) h1 (by show 5<18;exact f6J);have x6:w.cell? ⟨p,6,none⟩=some l1:=cell_of (j:=6) h1 (by show 6<18;exact f6J);obtain⟨⟨aa,m,e,-⟩,ps,hR,-⟩:=h3.q1;subst e
 obtain⟨aS,aR,aA⟩:∃s am,l1=.slice s ps.length am:=by
  rcases hR.1.2 with⟨e,h0⟩ | ⟨g,am,ay,e,_⟩
  ·exact⟨_,_,by rw[e,h0]⟩
  ·exact⟨_,_,e⟩
 subst aA;have G:=Cn.x4k F c
 have E:RecFit (Cn.rget rs 1 c):=by
  rcases Cn.rget_cases F (f:=1) e8P c with⟨_,e⟩ | ⟨_,hm,_⟩
  ·rw[e];exact⟨⟨e8P,e8P⟩,⟨e8P,e8P⟩,⟨e8P,e8P⟩,⟨e8P,e8P⟩,e8P,e8P⟩
  ·exact o _ hm
 obtain⟨aL,aM⟩:=hc;clear h1 h2 h3 F hR o;unfold Cn.mapping;generalize Cn.rget rs 1 c=r at *;obtain⟨L,k⟩:∃L,r.to=L:=⟨_,rfl⟩;have b:=E.len;rw[k]at G b ⊢;have aj:=O k;have hk:=E.kind;have aO:=E.lo;have M:=O G;obtain⟨aI,ae⟩:∃a,(if r.kind=4 then[L.getD 0 0+(c-r.lo)]else L)=a:=⟨_,rfl⟩;rw[ae];have X:=O ae;clear k E G ae;go_enter func95,ntmps95;go_wp2_with fail;refine(V i).mono ?_;rintro e1 Q ⟨vt,rfl,y,b1⟩;clear i x5 x6;rw[V aj]at y;obtain⟨s,q,rfl,aP,aQ⟩:=y.sk.shape;obtain⟨W1,aJ,T,D⟩:=x0L Q r.kind r.lo r.hi r.n (.slice s L.length q) r.name r.other r.wt;have az:∀W a m,(store a (.float .f64 r.wt) m).run prog W=stored prog W a (.float .f64 r.wt) m:=fun W a m=>run_store prog W a _ m rfl;have Z:=O (x2T (.slice s L.length q) L W1 ((y.sk.below b1).below D) b);have l:=O (x0b b1 D);have v:=O (x0b b1 D).size;have C:Hid (∀W,Bw W1 W->BoxAt W Q.heap.size r.kind r.lo r.hi r.n (.slice s L.length q) r.name r.other r.wt):=fun W h=>T.keep h;obtain⟨z0,z1,z2,z3,z4,z5,z6,z7⟩:=T;clear y b1 D aj;unfold recV;generalize r.kind=kd,r.lo=lo,r.hi=hi,r.n=n at *;generalize r.name=nm,r.other=ot,r.wt=wt at *;clear r;go_wp2_with fail;refine(V Z).mono ?_;rintro e2 w2 ⟨v2,rfl,ab,b2⟩;obtain⟨y0,t,y2,y3,y4,y5,y6,y7⟩:=V C w2 b2;have P:=O t;have d:=O (x0b (V l) b2);have I:=O b2;clear Z z0 z2 z3 z4 z5 z6 z7 az l b2;by_cases H:kd=4
 ·have ha:=V X;rw[if_pos H]at ha;obtain⟨s1,s2,s3,s4,s5,s6,s7⟩:=V M H
  obtain⟨x,rfl⟩:∃x,L=[x]:=by
   match L,s1 with
   | [x],_=>exact⟨x,rfl⟩
  simp only[List.getD_cons_zero]at ha s2 s3 s7;subst ha H;clear X M;obtain⟨gt,aD,aq,ag,aG,aH,ar⟩:=ab.sk.place M7N
  have aC:aD=0:=by
   rcases ab.row.2 with⟨e,_⟩ | ⟨g',aF,ay,e,_⟩
   ·rw[ag]at e;simp at e
   ·rw[ag]at e;simp only[Value.slice.injEq,Option.some.injEq,Addr.mk.injEq]at e;exact e.1.2.1
  subst aC;have Y:w2.cell? ⟨gt,0,none⟩=some (.int .i32 x):=ar 0 M7N;subst ag;have HS:Hid (∀W,Bw w2 W->W.cell? ⟨gt,0,none⟩=some (.int .i32 x)/\W.cell? ⟨Q.heap.size,1,none⟩=some (.int .i64 lo)):=fun W h=>⟨by rw[h.cell (x0a Y)];exact Y,by rw[h.cell (x0a t)];exact t⟩;have J:Hid (gt≠Q.heap.size):=by have h1:=(ab.row.lt gt rfl).1;have h2:=x0a z1;show gt≠_;exact f6J
  have HE:Hid (∀W,Bw w2 W->x0j w [x+(c-lo)] (.returned (.slice (some ⟨gt,0,none⟩) 1 aq)) (W.setCell ⟨gt,0,none⟩ (.int .i32 (x+(c-lo))))/\W.frozen? ⟨gt,0,none⟩=false):=fun W h=>by
   have hk:=(ab.below h).setAt9 0 (x+(c-lo)) (fun z hz=>by rw[List.mem_singleton]at hz;subst hz;exact x0T f6J);have aN:W1.heap.size<=gt:=(ab.row.lt gt rfl).1;exact⟨⟨_,rfl,hk.1.lower (V v),x0d (x0b (V d) h) (by have:=V v;exact f6J) _⟩,hk.2⟩
  clear ab ar C I Y z1 y2 y3 y4 y5 y6 y7 P d;go_wp2;clear y0 t;refine wp_region_held_drew (S:=fun w'=>w'.cell? ⟨Q.heap.size,1,none⟩=some (.int .i64 lo)) f4y ((V HS _ (x0k ⟨1,rfl⟩)).2) (fun hHeld=>?_);refine tk9 0 (.slice (some ⟨gt,0,none⟩) 1 aq) ?_;refine tk9 1 (.pointer (some ⟨gt,0,none⟩)) ?_;refine tk9 3 (.int .i32 c) ?_;refine tk9 4 (.pointer (some ⟨Q.heap.size,1,none⟩)) ?_;refine tk9 5 (.int .i64 lo) ?_ (hy:=by(intro w hSw;have s1:=hSw;go_simp));refine tk9 6 (.int .i32 lo) ?_ (hy:=f1Z);refine tk9 7 (.int .i32 (c-lo)) ?_ (hy:=f1Z);have U:Bw w2 w2.drew:=x0k ⟨1,rfl⟩;have A:=V HS _ U;have N:=V HE _ U;have aB:=V J;clear HS HE J;generalize w2.drew=u at *;refine rd9 2 fun K hK=>?_
  have aw:(Instr.loadAt 21 (.pointer (some ⟨gt,0,none⟩))).run prog u=.ok (.int .i32 x) u:=by
   have h0:=A.1;simp[Instr.loadAt,go_sem,h0]
  refine y5S rfl 21 (.tmp 21) rfl (.pointer (some ⟨gt,0,none⟩)) (.int .i32 x) rfl aw ?_;refine hK.out _ _ ?_ (fun hHeld=>?_)
  ·exact A.2
  clear hK K
  try simp only[Act.put,sa9,sb9,sc9]
  refine tk9 8 (.int .i32 (x+(c-lo))) ?_ (hy:=f1Z);refine tk9 9 (.pointer (some ⟨gt,0,none⟩)) ?_;refine rd9 10 fun K hK=>?_;have s9:=z6h A.1 N.2 (x+(c-lo));have af:=N.1
  have R:(u.setCell ⟨gt,0,none⟩ (.int .i32 (x+(c-lo)))).cell? ⟨Q.heap.size,1,none⟩=some (.int .i64 lo):=by
   rw[World.cell?_setCell_far _ _ _ _ aB];exact A.2
  clear N A aw;generalize u.setCell ⟨gt,0,none⟩ (.int .i32 (x+(c-lo)))=w4 at *;refine x7a rfl 21 (.tmp 29) (.tmp 28) rfl (.pointer (some ⟨gt,0,none⟩)) (.int .i32 (x+(c-lo))) rfl rfl s9 ?_;refine hK.out _ _ ?_ (fun hHeld=>?_)
  ·exact R
  clear hK K s9
  try simp only[Act.put]
  refine wpAnyH_done f4y ?_ _;have ai:=O af;clear af hHeld R;go_wp2;go_ret;exact V ai
 ·have ha:=V X;rw[if_neg H]at ha;subst ha;clear X M;have aK:(kd==4)=false:=(by rw[beq_eq_false_iff_ne];exact H);have HF:Hid (x0j w L (.returned v2) w2):=⟨v2,rfl,ab.lower (V v),V d⟩;clear ab C P I z1;exact I7o
open Ti
namespace Cn
theorem z3n:little.take 150=little:=rfl
end Cn
theorem y8z:∀r∈Cn.little,RecFit r:=by
 intro p A;simp only[Cn.little,List.mem_cons,List.mem_nil_iff,or_false]at A;rcases A with rfl | rfl | rfl | rfl | rfl | rfl | rfl | rfl | rfl | rfl<;>exact⟨W0Y,W0Y,W0Y,W0Y,e8M,e8M⟩
namespace Cn
end Cn
end Go.Proofs.YtbmckadcjdedcaaGreatDoor
namespace Go.Proofs.YtbmckadcjdedcaaGreatDoor.Cn
open Go.Proofs.Tryz
theorem y2J(l:List Rec):∀(f:Nat) (A:List Int) (c:Int) (out:List Int),(∀x∈out,opn l x=[])->∀x∈(walk l f A c out).1,opn l x=[]:=by
 intro f
 induction f with
 | zero =>
  intro A c out h;rw[walk];split
  ·grind
  ·split<;>(intro x J;cases J)
 | succ f ih =>
  intro A c out h;rw[walk];split
  ·grind
  ·split
   ·intro x J;cases J
   ·have S:∀(m:List Int) (s:List Int×Int),(∀x∈s.1,opn l x=[])->∀x∈(m.foldl (stepW l f (A++[c])) s).1,opn l x=[]:=v6Q
    exact S _ _ h
theorem z0p(l:List Rec):∀(f:Nat) (A:List Int) (c:Int) (out:List Int),(walk l f A c out).2=0->out.length<(walk l f A c out).1.length:=by
 intro f
 induction f with
 | zero =>
  intro A c out;rw[walk];split
  ·grind
  ·grind
 | succ f ih =>
  intro A c out;rw[walk];split
  ·split
   ·intro h;exact absurd h e8N
   ·intro _;simp
  ·next hc =>
   split
   ·intro h;exact absurd h e8N
   ·have S:∀(m:List Int) (s:List Int×Int),(m.foldl (stepW l f (A++[c])) s).2=0->s.1.length+m.length<=(m.foldl (stepW l f (A++[c])) s).1.length:=by
     intro m
     induction m with
     | nil=>intro s _;simp
     | cons x m ihx =>
      intro s X;rw[List.foldl_cons]at X ⊢;have D:=ihx _ X
      have T:s.2=0:=by
       refine Decidable.byContradiction fun E=>?_;rw[stepW,if_neg E,x1J _ _ _ _ _ E]at X;exact E X
      have Z:(stepW l f (A++[c]) s x).2=0:=by
       refine Decidable.byContradiction fun E=>?_;rw[x1J _ _ _ _ _ E]at X;exact E X
      unfold stepW at D Z X ⊢;rw[if_pos T]at D Z;have R:=ih _ _ _ Z;simp only[List.length_cons];simp only[if_pos T]at *;omega
    intro h;have:=S _ _ h;have F:0<(opn l c).length:=List.length_pos_iff.2 hc;simp only at this;exact Nat.lt_of_lt_of_le f6J this
def jamo(c:Int):Prop:=(4352<=c/\c<=4370)\/(4449<=c/\c<=4469)\/(4520<=c/\c<=4546)
theorem x2E{r:Rec}{c:Int}(h:speaks r c=true):r.lo<=c/\c<=r.hi:=by
 unfold speaks at h;obtain⟨_,_,_,_,A,F,_⟩:=o0d h;exact⟨A,F⟩
theorem y3t{l:List Rec}(h:(check l).2=0){c:Int}(hc:jamo c){f:Int}(z:f=2\/f=3):hit l f c=Option.none:=by
 obtain⟨F,u,_,_⟩:=x1i.1 h
 cases e:hit l f c with
 | none=>rfl
 | some r =>
  obtain⟨D,Z,R⟩:=x2u e;have X:=x2E R;have T:=u r D;unfold record at T;rw[if_neg f6J]at T;split at T
  ·exact absurd T e8N
  ·split at T
   ·exact absurd T e8N
   ·next hn =>
    refine absurd ?_ hn;simp only[Bool.or_eq_true,covers,decide_eq_true_eq];rcases hc with hc | hc | hc
    ·exact .inl (.inl (.inl f6J))
    ·exact .inl (.inl (.inr f6J))
    ·exact .inl (.inr f6J)
theorem x8V{l:List Rec}(h:(check l).2=0){c:Int}(I:jamo c):opn l c=[]:=by
 unfold opn
 have:syl c=false:=by
  unfold syl;unfold jamo at I;exact d0f f6J
 rw[this,y3t h I (.inr rfl)];rfl
theorem z1D{l:List Rec}(h:(check l).2=0){c:Int}(I:jamo c):cls l c=0:=by
 unfold cls;rw[y3t h I (.inl rfl)]
theorem z3t{l:List Rec}{c:Int}(X:syl c=true)(U:(c-44032)%28=0):opn l c=[4352+(c-44032) / 588,4449+(c-44032) / 28%21]:=by
 unfold opn;rw[if_pos X,if_pos U]
theorem y8Z{l:List Rec}{c:Int}(X:syl c=true)(U:¬(c-44032)%28=0):opn l c=[c-(c-44032)%28,4519+(c-44032)%28]:=by
 unfold opn;rw[if_pos X,if_neg U]
theorem x7S{l:List Rec}:∀(x:List Int),(∀c∈x,cls l c=0)->fallsA l x=false
 | [],_=>rfl
 | [_],_=>rfl
 | a::b::r,h=>by
  rw[fallsA,x7S (b::r) fun c I=>h c (List.mem_cons_of_mem _ I)];simp[h b M7K]
theorem z2F{l:List Rec}(h:(check l).2=0){c:Int}(X:syl c=true):(full l c).2=0/\∀x∈(full l c).1,jamo x:=by
 have C:44032<=c/\c<=55203:=o0d X
 have q:∀(d:Int),syl d=true->(d-44032)%28=0->∀(f:Nat) (F out:List Int),¬d∈F->out.length<30->walk l (f+1) F d out=(out++[4352+(d-44032) / 588,4449+(d-44032) / 28%21],0)/\jamo (4352+(d-44032) / 588)/\jamo (4449+(d-44032) / 28%21):=by
  intro d hd U f F out t y;have D:44032<=d/\d<=55203:=o0d hd;have Q:jamo (4352+(d-44032) / 588):=.inl f6J;have W:jamo (4449+(d-44032) / 28%21):=.inr (.inl f6J);refine⟨?_,Q,W⟩;rw[x7i (by rw[z3t hd U];exact M7N) f t,z3t hd U];simp only[List.foldl_cons,List.foldl_nil,stepW];rw[if_pos trivial,x0Y (x8V h Q),if_neg (c:=32<=out.length) f6J];simp only[if_true];rw[x0Y (x8V h W),if_neg P8P];simp
 unfold full;by_cases U:(c-44032)%28=0
 ·obtain⟨e,Q,W⟩:=q c X U 15 [] [] M7N M7N;rw[e];refine⟨rfl,fun x J=>?_⟩;simp at J;rcases J with rfl | rfl
  ·exact Q
  ·exact W
 ·have hd:syl (c-(c-44032)%28)=true:=d0t f6J;have E:(c-(c-44032)%28-44032)%28=0:=f6J;have A:jamo (4519+(c-44032)%28):=.inr (.inr f6J);rw[x7i (by rw[y8Z X U];exact M7N) 15 M7N,y8Z X U];obtain⟨e,Q,W⟩:=q _ hd E 14 ([]++[c]) [] P8P M7N;simp only[List.foldl_cons,List.foldl_nil,stepW];rw[if_pos trivial,e];simp only[if_true];rw[x0Y (x8V h A),if_neg M7N];refine⟨rfl,fun x J=>?_⟩;simp at J;rcases J with rfl | rfl | rfl
  ·exact Q
  ·exact W
  ·exact A
theorem fam_three{k:Int}(h:fam k=3):k=7\/k=8:=R8h
theorem leaves{l:List Rec}(h:(check l).2=0)(c:Int):(full l c).2=0/\0<(full l c).1.length/\(full l c).1.length<=32/\(∀x∈(full l c).1,opn l x=[])/\fallsA l (full l c).1=false:=by
 have T:(full l c).2=0/\fallsA l (full l c).1=false:=by
  by_cases X:syl c=true
  ·obtain⟨D,Z⟩:=z2F h X;exact⟨D,x7S _ fun x J=>z1D h (Z x J)⟩
  ·by_cases y:opn l c=[]
   ·unfold full;rw[x0Y y,if_neg M7N];exact⟨rfl,rfl⟩
   ·have q:∃r,hit l 3 c=some r:=by
     unfold opn at y;rw[if_neg X]at y
     cases e:hit l 3 c with
     | none=>grind
     | some r=>exact⟨r,rfl⟩
    obtain⟨r,u⟩:=q;obtain⟨D,Z,R⟩:=x2u u;obtain⟨F,n,_,_⟩:=x1i.1 h;have P:=x2E R
    have a:r.lo=r.hi:=by
     rcases fam_three Z with hk | hk
     ·exact(x0A ((x0m.1 F).2.1 r D) hk).1
     ·exact(x2D ((x0m.1 F).2.1 r D) hk).1
    have I:r.lo=c:=f6J;have o:=n r D;rw[x9v]at o;unfold recF at o;rw[if_neg f6J]at o;split at o
    ·exact absurd o e8N
    ·grind
 exact⟨T.1,z0p l 16 [] c [] T.1,x4f l c,y2J l 16 [] c [] (fun x J=>absurd J M7N),T.2⟩
theorem x8I{l:List Rec}:∀(x:List Int),fallsA l x=false->∀k,k+1<x.length->cls l (x.getD (k+1) 0)=0\/cls l (x.getD k 0)<=cls l (x.getD (k+1) 0)
 | [],_,k,hk=>absurd hk M7K
 | [_],_,k,hk=>absurd hk M7K
 | a::b::r,h,k,hk=>by
  rw[fallsA,Bool.or_eq_false_iff]at h
  cases k with
  | zero =>
   have:=of_decide_eq_false h.1;show cls l b=0\/cls l a<=cls l b;omega
  | succ k=>exact x8I (b::r) h.2 k (by simpa using hk)
end Go.Proofs.YtbmckadcjdedcaaGreatDoor.Cn
namespace Go.Proofs.YtbmckadcjdedcaaGreatDoor
open Go.Proofs.Tryz
open Go.RowKit
namespace Cn
theorem z6j{l:List Rec}(h:(check l).2=0){c:Int}(I:syl c=true){f:Int}(z:f=2\/f=3):hit l f c=Option.none:=by
 obtain⟨F,u,_,_⟩:=x1i.1 h;unfold syl at I;have I:=o0d I
 cases e:hit l f c with
 | none=>rfl
 | some r =>
  obtain⟨D,Z,R⟩:=x2u e;have X:=x2E R;have T:=u r D;unfold record at T;rw[if_neg f6J]at T;split at T
  ·exact absurd T e8N
  ·split at T
   ·exact absurd T e8N
   ·next hn =>
    refine absurd ?_ hn;simp only[Bool.or_eq_true,covers,decide_eq_true_eq];exact e5w
theorem z0g{rs:List Rec}(h:(check rs).2=0){c:Int}{r:Rec}(q:hit rs 3 c=some r):r.to≠[]/\r.to.length<=2:=by
 have F:=(x1i.1 h).1;obtain⟨i,U,M⟩:=(x1T F e8N r).1 q;have u:=(x0m.1 F).2.1 r i;rcases fam_three U with e | e
 ·have:=(x0t (x0A u e).2.2).1;exact r8O
 ·have:=(x0t (x2D u e).2.2).1;exact r8O
theorem y8Y{rs:List Rec}(h:(check rs).2=0)(c:Int):((rget rs 3 c).to=[]/\opn [] c=opn rs c)\/((rget rs 3 c).to≠[]/\(rget rs 3 c).to=opn rs c/\(rget rs 3 c).to.length<=2):=by
 unfold rget
 cases he:hit rs 3 c with
 | none =>
  refine .inl ⟨rfl,?_⟩;unfold opn;rw[he];rfl
 | some r =>
  obtain⟨D,Z⟩:=z0g h he;refine .inr ⟨D,?_,Z⟩
  have X:syl c=false:=by
   cases X:syl c with
   | false=>rfl
   | true=>rw[z6j h X (.inr rfl)]at he;cases he
  unfold opn;rw[X,he];rfl
theorem z5I{rs:List Rec}(h:(check rs).2=0)(c:Int):(opn rs c).length<=2:=by
 unfold opn;split
 ·split<;>simp
 ·cases he:hit rs 3 c with
  | none=>simp
  | some r=>exact(z0g h he).2
end Cn
theorem z1o(k lo hi n:Int)(ao:Option Addr)(A cp:Nat)(a b:ByteArray)(y:Nat)(w:World):(Instr.field 67 (.agg #[.int .i64 k,.int .i64 lo,.int .i64 hi,.int .i64 n,.slice ao A cp,.string a,.string b,.float .f64 y]) 4).run prog w=.ok (.slice ao A cp) w:=f4x
theorem y0G{B p:Nat}{rs:List Rec}(c:Int)(w:World)(Y:Glob w)(b:x0n w B p rs)(hk:(Cn.check rs).2=0)(I:Rune c):Calls prog 248 #[.pointer (some ⟨p,0,none⟩),.int .i32 c] w (x0j w (Cn.opn rs c)):=by
 have F:=(Cn.x1i.1 hk).1;obtain⟨t1,t2,t3,t4,t5,a1,v,J,l2,d,l3,a4,l4,a5,l5,o,c2,x1,D,Z,R⟩:=b;have i:=O (z3r c w R.q2 F e8N I);have x5:w.cell? ⟨p,7,none⟩=some J:=cell_of (j:=7) D (by show 7<18;exact f6J);have x6:w.cell? ⟨p,8,none⟩=some l2:=cell_of (j:=8) D (by show 8<18;exact f6J);obtain⟨⟨aa,m,e,-⟩,x,X,-⟩:=R.q2;subst e
 obtain⟨ai,C,H⟩:∃s M,l2=.slice s x.length M:=by
  rcases X.1.2 with⟨e,h0⟩ | ⟨g,M,P,e,_⟩
  ·exact⟨_,_,by rw[e,h0]⟩
  ·exact⟨_,_,e⟩
 subst H;have ab:=O (Cn.y8Y hk c);have k:=fun W (t:Bw w W)=>O (openC (.slice none 0 0) [] c W (Y.on t) (Rcs.nil W) I);obtain⟨ae,af⟩:=I;generalize Cn.rget rs 3 c=r,Cn.opn rs c=L at *;go_enter func248,ntmps248;go_wp2_with fail;refine(V i).mono ?_;rintro N Q ⟨vt,rfl,y,b1⟩;obtain⟨s,q,rfl,K,ag⟩:=y.sk.shape;have l:=O b1;have U:=y.sk.below b1;have A:=z1o r.kind r.lo r.hi r.n s r.to.length q r.name r.other r.wt Q;unfold recV;rcases V ab with⟨N,f⟩ | ⟨N,f,E⟩
 ·have K2:=O (V (k Q b1));rw[f]at K2;rw[N]at A ⊢;simp only[List.length_nil]at A ⊢;exact u0a
 ·rw[f]at U A N E K ⊢;have K2:=O (x2T _ L Q U f6J);have S:0<L.length:=List.length_pos_iff.2 N;exact u0a
namespace Cn
def Tree (l:List Rec):Nat->Int->List Int->Prop
 | 0,c,ys=>opn l c=[]/\ys=[c]
 | n+1,c,ys=>(opn l c=[]/\ys=[c])\/(opn l c≠[]/\∃yss:List (List Int),yss.length=(opn l c).length/\(∀i,i<(opn l c).length->Tree l n ((opn l c).getD i 0) (yss.getD i []))/\ys=yss.flatten)
theorem y0m{l:List Rec}{f:Nat}{A:List Int}(H:∀d out r,walk l f A d out=(r,0)->∃ys,r=out++ys/\Tree l f d ys):∀(W:List Int) (out r:List Int),W.foldl (stepW l f A) (out,0)=(r,0)->∃P:List (List Int),P.length=W.length/\r=out++P.flatten/\∀i,i<W.length->Tree l f (W.getD i 0) (P.getD i [])
 | [],out,r,h=>by
  have:=(Prod.mk.inj h).1;subst this;exact⟨[],rfl,M7K,fun i hi=>v5L⟩
 | d::W,out,r,h=>by
  rw[List.foldl_cons]at h;have e:stepW l f A (out,0) d=walk l f A d out:=(by simp[stepW]);rw[e]at h;obtain⟨⟨U,N⟩,L⟩:∃q,walk l f A d out=q:=⟨_,rfl⟩;rw[L]at h;by_cases C:N=0
  ·subst C;obtain⟨ys,rfl,K⟩:=H d out U L;obtain⟨P,S,hr,F⟩:=y0m H W (out++ys) r h;refine⟨ys::P,by simp[S],by rw[hr];exact M7K,fun i hi=>?_⟩
   cases i with
   | zero=>exact K
   | succ i=>simpa using F i w3z
  ·rw[x1J l f A W (U,N) C]at h;exact absurd (Prod.mk.inj h).2 C
theorem z0q{l:List Rec}:∀(f:Nat) (A:List Int) (c:Int) (out r:List Int),walk l f A c out=(r,0)->∃ys,r=out++ys/\Tree l f c ys:=by
 intro f
 induction f with
 | zero =>
  intro A c out r h;by_cases y:opn l c=[]
  ·rw[x0Y y]at h;split at h
   ·grind
   ·exact⟨[c],(Prod.mk.inj h).1.symm,y,rfl⟩
  ·by_cases t:c∈A
   ·rw[x2o y _ t]at h;exact s1y
   ·rw[x7h y t]at h;exact s1y
 | succ f ih =>
  intro A c out r h;by_cases y:opn l c=[]
  ·rw[x0Y y]at h;split at h
   ·exact s1y
   ·exact⟨[c],(Prod.mk.inj h).1.symm,.inl ⟨y,rfl⟩⟩
  ·by_cases t:c∈A
   ·rw[x2o y _ t]at h;exact s1y
   ·rw[x7i y f t]at h;obtain⟨P,S,u,K⟩:=y0m (fun d out r hd=>ih (A++[c]) d out r hd) _ _ _ h;exact⟨_,u,.inr ⟨y,P,S,K,rfl⟩⟩
theorem y7Q{l:List Rec}(h:(check l).2=0)(c:Int):Tree l 16 c (full l c).1:=by
 have Z:=(leaves h c).1;obtain⟨ys,x,K⟩:=z0q (l:=l) 16 [] c [] (full l c).1 (by rw[show walk l 16 [] c []=full l c from rfl];exact Prod.ext rfl Z);rw[List.nil_append]at x;rw[x];exact K
end Cn
structure Grw(w w':World)(x v:Value):Prop where
 g:w.grownBy w' x.ownBlock
 own:∀k,v.ownBlock=some k->x.ownBlock=some k\/w.heap.size<=k
theorem Grw.trans{w w1 w2:World}{x v u:Value}(h:Grw w w1 x v)(Z:Grw w1 w2 v u):Grw w w2 x u:=by
 have J:=h.g.size;refine⟨⟨Z.g.os.trans h.g.os,Z.g.tape.trans h.g.tape,Z.g.output.trans h.g.output,Nat.le_trans J Z.g.size,fun k G F=>?_⟩,fun k G=>?_⟩
 ·rw[Z.g.block k f6J (fun e=>?_),h.g.block k G F];rcases h.own k e.symm with e2 | e2
  ·exact F e2.symm
  ·omega
 ·rcases Z.own k G with e | e
  ·exact h.own k e
  ·exact e5w
theorem Grw.after{w w1 w2:World}{x v:Value}(C:Bw w w1)(h:Grw w1 w2 x v):Grw w w2 x v:=by
 have J:=C.size;refine⟨⟨h.g.os.trans C.os,h.g.tape.trans C.tape,h.g.output.trans C.output,Nat.le_trans J h.g.size,fun k G F=>?_⟩,fun k G=>?_⟩
 ·rw[h.g.block k f6J F,C.block k G]
 ·rcases h.own k G with e | e
  ·exact .inl e
  ·exact e5w
theorem Grw.refl(w:World)(x:Value):Grw w w x x:=⟨⟨rfl,rfl,rfl,l0r _,fun _ _ _=>rfl⟩,fun _ h=>.inl h⟩
def AppB(w:World)(B:Nat)(x:Value)(ys:List Int)(e:Ending)(w':World):Prop:=∃v,e=.returned v/\Ok .i32 21 w' B v ys/\Grw w w' x v
def z0z(w0:World)(p:Nat)(c:Int)(ys:List Int):Prop:=∀(x:Value) (xs:List Int) (w:World),Ok .i32 21 w w0.heap.size x xs->Below w0.heap.size w0 w->xs.length+ys.length<=1000000000->Calls prog 194 #[.pointer (some ⟨p,0,none⟩),x,.int .i32 c] w (AppB w w0.heap.size x (xs++ys))
theorem Sk.one9(w:World)(c:Int)(I:-2147483648<=c/\c<=2147483647):Sk .i32 (w.alloc (.cells #[.int .i32 c] 21)) (.slice (some ⟨w.heap.size,0,none⟩) 1 1) [c]:=(x9o w w.heap.size (l0r _) c I).sk
theorem y8h:(prog.info? 21).map (fun i=>(i.zero,i.size,i.bytes))=some (some (.int .i32 0),1,4):=f4x
section
variable {B p:Nat} {rs:List Rec} {w0:World}
theorem y7O(Y:Glob w0)(b:x0n w0 B p rs)(G:(Cn.check rs).2=0)(c:Int)(hc:Rune c)(ho:Cn.opn rs c=[]):z0z w0 p c [c]:=by
 intro x m w J U S;have K1:=O (y0G c w (Y.on U) (b.below U) G hc);rw[ho]at K1;obtain⟨r,hi,i,d,ag⟩:=info_parts y8h;have v:=U.size;have L:=O J;obtain⟨xo,o,af,_,_⟩:=J.sk.shape;subst af;obtain⟨f,Q⟩:=hc;simp only[List.length_singleton]at S;go_enter func194,ntmps194;go_wp2_with fail;refine(V K1).mono ?_;rintro e1 w1 ⟨H,rfl,s,b1⟩;obtain⟨ao,M,E,_,_⟩:=s.sk.shape;simp only[List.length_nil]at E;subst E;have N:=b1.size;have D:Ok .i32 21 (w1.alloc (.cells #[.int .i32 c] 21)) w0.heap.size (.slice xo m.length o) m:=((V L).below b1).below ((b0r).alloc (l0r _) _);have a:(w1.alloc (.cells #[.int .i32 c] 21)).ownsRow w0.heap.size 21 1 (.slice xo m.length o) m.length (m.map (Value.int .i32)):=(by simpa using D.row);have y:=(Sk.one9 w1 c ⟨f,Q⟩).place M7P
 have X:∀j u,[Value.int .i32 c][j]?=some u->(w1.alloc (.cells #[.int .i32 c] 21)).cell? ((⟨w1.heap.size,0,none⟩:Addr).add j)=some u:=by
  intro j u K;obtain⟨bx,ox,cq,q,_,_,t⟩:=y;simp only[Value.slice.injEq,Option.some.injEq,Addr.mk.injEq]at q;obtain⟨⟨rfl,rfl,_⟩,_,_⟩:=q
  cases j with
  | zero=>simp at K;subst K;rw[addr_add];exact t 0 M7P
  | succ j=>simp at K
 have Z:=O a;have F:=O X;have A:=O ((V L).1);have l:=O b1;have I:(w1.alloc (.cells #[.int .i32 c] 21)).heap.size=w1.heap.size+1:=M7P;have C:=O I;go_wp2_with(at_builtin;refine wpList_append_own_at _ rfl (.tmp 16) (.tmp 18) 40 rfl w0.heap.size 21 r (.int .i32 0) 1 4 underlying40 hi i d ag rfl e8P _ _ _ rfl (V Z) ⟨w1.heap.size,0,none⟩ 1 1 [.int .i32 c] rfl rfl (V F) (fun u W=>by rw[List.mem_singleton]at W;subst W;rfl) T7X f6J (by rw[V C];exact f6J) ?_);intro R w2 P ae _ ab
 have g:AppB w w0.heap.size (.slice xo m.length o) (m++[c]) (.returned R) w2:=by
  refine⟨R,rfl,Ok.of (n:=m.length+1) (us:=m.map (Value.int .i32)++[.int .i32 c]) ?_ P8P P M7P M7P,?_⟩
  ·intro z hz;rcases List.mem_append.1 hz with hz | hz
   ·exact V A z hz
   ·rw[List.mem_singleton]at hz;subst hz;exact x0T ⟨f,Q⟩
  ·refine Grw.after (w1:=w1.alloc (.cells #[.int .i32 c] 21)) ((V l).alloc N _) ⟨ae,fun k G=>?_⟩;rcases ab with e | e
   ·exact .inl (e ▸ G)
   ·grind
 have T:=O g;go_wp2;go_ret;exact V T
end
namespace Cn
theorem z2g{rs:List Rec}(h:(check rs).2=0){c d:Int}(hd:d∈opn rs c):Rune d:=by
 unfold opn at hd;unfold Rune;split at hd
 ·next X =>
  unfold syl at X;have X:=o0d X;split at hd
  ·grind
  ·simp only[List.mem_cons,List.mem_nil_iff,or_false]at hd;rcases hd with rfl | rfl<;>omega
 ·cases he:hit rs 3 c with
  | none=>rw[he]at hd;simp at hd
  | some r =>
   rw[he]at hd;have hd:d∈r.to:=hd;have F:=(x1i.1 h).1;obtain⟨i,U,M⟩:=(x1T F e8M r).1 he;have u:=(x0m.1 F).2.1 r i
   have A:scalar d=true:=by
    rcases fam_three U with e | e
    ·exact(x0t (x0A u e).2.2).2 d hd
    ·exact(x0t (x2D u e).2.2).2 d hd
   have:=x3g A;omega
theorem y0l(P:List (List Int)){k:Nat}(G:k<P.length):(P.take (k+1)).flatten=(P.take k).flatten++P.getD k []:=by
 rw[List.take_add_one,List.flatten_append,List.getElem?_eq_getElem G];exact w7Y
theorem z4U(P:List (List Int)){k:Nat}(G:k<P.length):((P.take k).flatten).length+(P.getD k []).length<=P.flatten.length:=by
 have D:=congrArg List.length (y0l P G);rw[List.length_append]at D;have Z:P.flatten=(P.take (k+1)).flatten++(P.drop (k+1)).flatten:=(by rw[<- List.flatten_append,List.take_append_drop]);have R:=congrArg List.length Z;rw[List.length_append]at R;omega
end Cn
section
variable {B p:Nat} {rs:List Rec} {w0:World}
theorem y7P(Y:Glob w0)(hD:x0n w0 B p rs)(hk:(Cn.check rs).2=0)(c:Int)(hc:Rune c)(P:List (List Int))(ho:Cn.opn rs c≠[])(n:P.length=(Cn.opn rs c).length)(ih:∀i,i<(Cn.opn rs c).length->z0z w0 p ((Cn.opn rs c).getD i 0) (P.getD i [])):z0z w0 p c P.flatten:=by
 intro x m w J U hl;have K1:=O (y0G c w (Y.on U) (hD.below U) hk hc);have az:=Cn.z5I hk c;have v:=U.size;have HX:=O J;have af:=O U;have K:=O ih;have ag:=fun k (h:k<P.length)=>O (Cn.z4U P h);have b:=fun k (h:k<P.length)=>O (Cn.y0l P h);have q:0<(Cn.opn rs c).length:=List.length_pos_iff.2 ho;obtain⟨xo,o,am,_,_⟩:=J.sk.shape;have D:Hid (∀k,x.ownBlock=some k->w0.heap.size<=k/\k<w.heap.size):=fun k h=>J.row.lt k h;obtain⟨f,ay⟩:=hc;generalize Cn.opn rs c=W at *;subst am;have C:=O n;go_enter func194,ntmps194;go_wp2_with fail;refine(V K1).mono ?_;rintro e1 w1 ⟨v1,rfl,s,b1⟩;obtain⟨G,vo,aw,E,ar,Q,A⟩:=s.sk.place q
 have aF:w.heap.size<=G:=by
  have:=(s.row.lt G (by rw[E];rfl)).1;exact this
 subst E;have aD:=b1.size;have l:=O b1;have L:=O A;have ab:=O s.1;have M:=(V HX).below b1;have t:=O M;have aq:((W.length:Int)==0)=false:=(by grind);go_wp2;go_loopw[1,9,22] (fun xv _ N wr=>∃k:Nat,N=.int .i64 k/\k<=W.length/\Ok .i32 21 wr w0.heap.size xv (m++(P.take k).flatten)/\Grw w1 wr (.slice xo m.length o) xv) (fun _ _ N _=>W.length-(intOf N).toNat)
 case atStart=>exact⟨0,rfl,f6J,by simpa using V t,Grw.refl _ _⟩
 case round =>
  obtain⟨k,rfl,aB,y,ae⟩:=hrel;have Z:=O y;have u:=O ae;by_cases H:k<W.length
  ·have X:wr.cell? ⟨G,vo+k,none⟩=some (.int .i32 (W.getD k 0)):=by
    have R:=V L k H;refine ae.g.cell R (fun e=>?_);have:=V D G e.symm;omega
   have aC:Rune (W.getD k 0):=by
    have:=V ab (W.getD k 0) N3G;exact⟨this.1,this.2⟩
   have r:Bw w0 wr:=((V af).trans ((V l).mono v)).grown ae.g f6J (fun j hj=>(V D j hj).1);have aA:=V (ag k (by rw[V C];exact H));have KR:=O (V K k H u1 (m++(P.take k).flatten) wr y r u7C);have ai:=O (V (b k (by rw[V C];exact H)))
   obtain⟨z,ul,F,S⟩:∃z ul F,u1=.slice z ul F:=p0V
   subst S;generalize W.getD k 0=d at *;go_wp2_with fail;refine(V KR).mono ?_;rintro e3 w3 ⟨v3,rfl,a,g3⟩;rw[List.append_assoc,<- V ai]at a;have aj:=O a;have I:=O ((V u).trans g3);go_wp2
   go_roundw
   case rel=>exact⟨k+1,g2A,f6J,V aj,V I⟩
   case measure=>exact g7T
  ·obtain rfl:k=W.length:=f6J;rw[<- V C,List.take_length]at Z;have T:Hid (AppB w w0.heap.size (.slice xo m.length o) (m++P.flatten) (.returned u1) wr):=⟨u1,rfl,V Z,(V u).after (V l)⟩
   obtain⟨z,ul,F,S⟩:∃z ul F,u1=.slice z ul F:=p0V
   subst S;go_wp2;go_ret;exact V T
theorem y4Q(Y:Glob w0)(b:x0n w0 B p rs)(G:(Cn.check rs).2=0):∀(n:Nat){c:Int}{ys:List Int},Cn.Tree rs n c ys->Rune c->z0z w0 p c ys
 | 0,c,_,⟨o,e⟩,hc=>by rw[e];exact y7O Y b G c hc o
 | n+1,c,ys,ht,hc=>by
  rcases ht with ⟨o,rfl⟩ | ⟨o,yss,hl,h,rfl⟩
  ·exact y7O Y b G c hc o
  ·exact y7P Y b G c hc yss o hl (fun i hi=>y4Q Y b G n (h i hi) (Cn.z2g G (c:=c) n7A))
theorem y7N(c:Int)(w:World)(Y:Glob w)(b:x0n w B p rs)(G:(Cn.check rs).2=0)(I:Rune c):Calls prog 148 #[.pointer (some ⟨p,0,none⟩),.int .i32 c] w (x0j w (Cn.full rs c).1):=by
 have d:=(Cn.leaves G c).2.2.1;have K:=O (y4Q Y b G 16 (Cn.y7Q G c) I (.slice none 0 0) [] w (Ok.nil _ _ _ _) (b0r) P8P);rw[List.nil_append]at K;obtain⟨f,Q⟩:=I;generalize(Cn.full rs c).1=L at *;go_enter func148,ntmps148;go_wp2_with fail;refine(V K).mono ?_;rintro N C ⟨H,rfl,s,i⟩;have T:Hid (x0j w L (.returned H) C):=⟨H,rfl,s,(Below.refl w.heap.size w).grown i.g (l0r _) (fun k G=>g6B)⟩;exact v8m
end
open Ti
namespace Cn
theorem x3Z{rs:List Rec}(F:(check6 rs).2=0)(c:Int):0<=cls rs c/\cls rs c<=254:=by
 unfold cls
 cases he:hit rs 2 c with
 | none=>simp
 | some r =>
  obtain⟨i,U,M⟩:=(x1T F e8N r).1 he;have G:=(y8q U).2.1 rfl;exact y0U ((x0m.1 F).2.1 r i) f6J f6J
end Cn
namespace Cn
def openAll(rs:List Rec)(xs:List Int):List Int:=(xs.map fun c=>(full rs c).1).flatten
theorem y0F(rs:List Rec)(xs:List Int){k:Nat}(G:k<xs.length):openAll rs (xs.take (k+1))=openAll rs (xs.take k)++(full rs (xs.getD k 0)).1:=by
 unfold openAll;rw[List.take_add_one,List.map_append,List.flatten_append,List.getElem?_eq_getElem G];exact w7Y
theorem x3L{rs:List Rec}(h:(check rs).2=0)(xs:List Int):(openAll rs xs).length<=32*xs.length:=by
 unfold openAll
 induction xs with
 | nil=>simp
 | cons c xs ih =>
  have:=(leaves h c).2.2.1;simp only[List.map_cons,List.flatten_cons,List.length_append,List.length_cons];omega
end Cn
theorem y5g(n:Nat)(w:World)(B:Nat)(l:B<=w.heap.size)(E:n<=70000):∃W,(Instr.makeSlice 40 (.int .i64 0) (.int .i64 (n:Int))).run prog w=.ok (.slice (some ⟨w.heap.size,0,none⟩) 0 n) W/\Ok .i32 21 W B (.slice (some ⟨w.heap.size,0,none⟩) 0 n) []/\w.grownBy W none:=by
 obtain⟨r,hi,i,d,f⟩:=info_parts y8h;exact U0q
theorem y0H{B p:Nat}{rs:List Rec}(v:Value)(xs:List Int)(w:World)(hg:Glob w)(hD:x0n w B p rs)(hk:(Cn.check rs).2=0)(hx:Sk .i32 w v xs)(aI:xs.length<=65536):Calls prog 96 #[.pointer (some ⟨p,0,none⟩),v] w (x0j w (Cn.openAll rs xs)):=by
 obtain⟨i0,hi,i,aw,ay⟩:=info_parts y8h;have HX:=O hx;obtain⟨vo,vc,ar,aG,aH⟩:=hx.shape;subst ar;have T:Hid (∀c W,Rune c->Bw w W->Calls prog 148 #[.pointer (some ⟨p,0,none⟩),.int .i32 c] W (x0j W (Cn.full rs c).1)):=fun c W hc t=>y7N c W (hg.on t) (hD.below t) hk hc;have b:=fun k (h:k<xs.length)=>O (Cn.y0F rs xs h);have Y:=fun k=>O (Cn.x3L hk (xs.take k));have E:=fun c=>O (Cn.leaves hk c).2.2.1;have ae:=fun c=>O (Cn.leaves hk c).2.1;obtain⟨W0,aD,x,g0⟩:=y5g xs.length w w.heap.size (l0r _) f6J;have aj:Bw w W0:=(b0r).grown g0 (l0r _) (fun k hk=>by cases hk);have o:=O aj;have ai:=O x;have M:Hid (Cn.openAll rs (xs.take xs.length)=Cn.openAll rs xs):=(by grind);go_enter func96,ntmps96;go_wp2;go_loopw[5,6,12] (fun yy _ ii wr=>∃k:Nat,ii=.int .i64 k/\k<=xs.length/\Ok .i32 21 wr w.heap.size yy (Cn.openAll rs (xs.take k))/\Bw w wr) (fun _ _ ii _=>xs.length-(intOf ii).toNat)
 case atStart=>exact⟨0,rfl,f6J,V ai,V o⟩
 case round =>
  obtain⟨k,rfl,aC,y,C⟩:=hrel;by_cases H:k<xs.length
  ·obtain⟨bx,ox,az,N,_,_,I⟩:=(V HX).place f6J;simp only[Value.slice.injEq]at N;obtain⟨rfl,h9,rfl⟩:=N
   have X:wr.cell? ⟨bx,ox+k,none⟩=some (.int .i32 (xs.getD k 0)):=by
    have h3:=I k H;rw[C.cell (x0a h3)];exact h3
   have L:Rune (xs.getD k 0):=by
    have:=(V HX).1 (xs.getD k 0) N3J;exact⟨this.1,this.2⟩
   have KF:=O (V T (xs.getD k 0) wr L C);have ag:=O (V (b k H));have q:=V (Y k);rw[List.length_take]at q;have aB:=V (E (xs.getD k 0));have aq:=V (ae (xs.getD k 0));have aA:=C.size;have HB:=O C;have ab:=O y;obtain⟨yo,U,g,_,_⟩:=y.sk.shape;subst g;generalize hzs:Cn.openAll rs (xs.take k)=zs,hfs:(Cn.full rs (xs.getD k 0)).1=J at *;generalize xs.getD k 0=c at *;have aJ:zs.length<=2097152:=f6J;go_wp2_with fail;refine(V KF).mono ?_;rintro e1 w1 ⟨v1,rfl,s,b1⟩;obtain⟨fb,Q,fc,R,_,_,A⟩:=s.sk.place aq;subst R
   have G:∀j u,(J.map (Value.int .i32))[j]?=some u->w1.cell? ((⟨fb,Q,none⟩:Addr).add j)=some u:=by
    intro j u hu;obtain⟨K,hu⟩:=List.getElem?_eq_some_iff.1 hu;rw[List.length_map]at K;rw[addr_add,A j K,<- hu];exact E3h
   have a:w1.ownsRow w.heap.size 21 1 (.slice yo zs.length U) zs.length (zs.map (Value.int .i32)):=by
    have:=((V ab).below b1).row;exact W2O
   have aF:=b1.size;have Z:=O a;have r:=O G;have F:=O (V ab).1;have S:=O s.1;have l:=O (x0b (V HB) b1);go_wp2_with(at_builtin;refine wpList_append_own _ rfl (.tmp 15) (.tmp 21) 40 rfl w.heap.size 21 i0 (.int .i32 0) 1 4 underlying40 hi i aw ay rfl e8Q _ _ _ rfl (V Z) ⟨fb,Q,none⟩ J.length fc (J.map (Value.int .i32)) rfl (by simp) (V r) (fun u hu=>P0M) T7X f6J f6J ?_);intro v2 w2 P m _
   have D:Ok .i32 21 w2 w.heap.size v2 (zs++J):=by
    refine Ok.of (n:=zs.length+J.length) (us:=zs.map (Value.int .i32)++J.map (Value.int .i32)) (fun z hz=>?_) P8P P (by simp) (by simp);rcases List.mem_append.1 hz with hz | hz
    ·exact V F z hz
    ·exact V S z hz
   have am:Bw w w2:=(V l).grown m f6J (fun j K=>((V Z).lt j K).1);have f:=O D;have d:=O am;go_wp2
   go_roundw
   case rel=>exact⟨k+1,g2D,f6J,by rw[V ag];exact V f,V d⟩
   case measure=>exact g7V
  ·obtain rfl:k=xs.length:=f6J;rw[V M]at y;have af:Hid (x0j w (Cn.openAll rs xs) (.returned u5) wr):=⟨u5,rfl,y,C⟩
   obtain⟨yo,yl,U,g⟩:∃yo yl U,u5=.slice yo yl U:=by
    obtain⟨yo,U,e,_,_⟩:=y.sk.shape;exact⟨yo,_,U,e⟩
   subst g;go_wp2;go_ret;exact V af
def refN(ns:List Nat):Int:=if ns.any (fun n=>decide (65536<n))then 2 else 0
theorem y9A{A:List Nat}{k:Nat}(G:k<A.length):refN (A.drop k)=if 65536<A.getD k 0 then 2 else refN (A.drop (k+1)):=by
 rw[List.drop_eq_getElem_cons G];unfold refN;rw[List.any_cons];have:A.getD k 0=A[k]:=w7Y;rw[this];by_cases h:65536<A[k]
 ·grind
 ·grind
theorem x9z(p g n:Nat)(A:List Nat)(w:World)(E:A.length=n)(S:n<=10)(I:∀i,i<n->∃ao cap,w.cell? ⟨g,i,none⟩=some (.slice ao (A.getD i 0) cap)/\cap<=9223372036854775807/\A.getD i 0<=cap):Calls prog 55 #[.pointer (some ⟨p,0,none⟩),.slice (some ⟨g,0,none⟩) n n] w fun e w'=>e=.returned (.int .i64 (refN A))/\w'=w:=by
 have Y:=O I;have F:Hid (∀k,k<n->refN (A.drop k)=if 65536<A.getD k 0 then 2 else refN (A.drop (k+1))):=fun k G=>y9A f6J;obtain⟨t,R⟩:∃r,refN A=r:=⟨_,rfl⟩;rw[R];have o:Hid (refN (A.drop 0)=t):=(by grind);have M:Hid (refN (A.drop n)=0):=(by show _=_;rw[<- E,List.drop_length];rfl);go_enter func55,ntmps55;go_wp2;go_loopw[6,11] (fun _ N wr=>wr=w/\∃k:Nat,N=.int .i64 k/\k<=n/\refN (A.drop k)=t) (fun _ N _=>n-(intOf N).toNat)
 case atStart=>exact⟨rfl,0,rfl,f6J,V o⟩
 case round =>
  obtain⟨rfl,k,rfl,G,X⟩:=hrel;by_cases H:k<n
  ·have D:=V F k H;rw[X]at D;obtain⟨ao,cap,J,f,Q⟩:=V Y k H;have L:=O D;generalize A.getD k 0=m at *;by_cases U:65536<m
   ·have X:=V L;rw[if_pos U]at X;subst X;exact t6z
   ·have X:=V L;rw[if_neg U]at X;have P:=O X;go_wp2
    go_roundw
    case rel=>exact⟨f5Y,k+1,g2A,f6J,(V P).symm⟩
    case measure=>exact g7T
  ·obtain rfl:k=n:=f6J;rw[V M]at X;subst X;exact t6z
def SeqE(w:World)(zs:List Int)(er:Int)(e:Ending)(w':World):Prop:=∃v,e=.returned (.tuple #[v,.int .i64 er])/\Ok .i32 21 w' w.heap.size v zs/\Below w.heap.size w w'
theorem one_cell(w:World)(ao:Option Addr)(n cap:Nat)(N:TypeId):(w.alloc (.cells #[.slice ao n cap] N)).cell? ⟨w.heap.size,0,none⟩=some (.slice ao n cap):=f0h
namespace Cn
end Cn
namespace Cn
end Cn
open Ti
namespace Cn
def looks(rs:List Rec)(c:Int):List Int:=if(rget rs 8 c).to=[]then[c]else(rget rs 8 c).to
section
variable {rs:List Rec} {c:Int}
end
end Cn
open Ti
namespace Cn
end Cn
open Ti
namespace Cn
end Cn
namespace Cn
end Cn
open Ti
open Ti
