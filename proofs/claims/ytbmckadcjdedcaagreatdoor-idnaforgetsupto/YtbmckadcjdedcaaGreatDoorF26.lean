import Derived.Test.YtbmckadcjdedcaaGreatDoorF23
import Derived.Deep.RegionHeld
import Derived.Laws.AppendOwnNone
import Derived.Maps.AppendAt
import Derived.Laws.MakeOwn
import Derived.Deep.CutBlock
import Derived.Deep.DeepCutAuto
set_option maxHeartbeats 4000000
set_option maxRecDepth 8000
namespace Go.Proofs.YtbmckadcjdedcaaGreatDoor
open Go.Proofs.Tryz
open Go.RowKit
open Ti
section
variable{p:Prop}
theorem W0Y(h:p:=by unfold I64;exact e8M):p:=h
theorem s1y(h:p:=by exact absurd (Prod.mk.inj h).2 e8M):p:=h
theorem i4V(h:p:=by go_enter func196,ntmps196;exact t6u):p:=h
theorem n0a(h:p:=by(intro w hSw;obtain⟨⟨H,N⟩,⟨x,u,x2,x3,x4,x5,y,T⟩⟩:=hSw;go_simp)):p:=h
theorem P8u(h:p:=by refine absurd ?_ hn;simp only[Bool.or_eq_true,covers,decide_eq_true_eq];exact .inr f6J):p:=h
theorem w4a(h:p:=by go_enter func100,ntmps100;go_wp2_with fail;refine(V K).mono ?_;rintro e G ⟨rfl,rfl⟩;clear K;go_wp2;go_ret2;exact g9T):p:=h
theorem S1l(h:p:=by rintro e w ⟨rfl,rfl⟩;go_wp2_with fail;refine(V G _).mono ?_;rintro e w ⟨rfl,rfl⟩;go_wp2_with fail;refine(V k _).mono ?_;rintro e w ⟨rfl,rfl⟩;go_wp2;go_ret2;exact⟨by first| rfl | simp,rfl⟩):p:=h
theorem f6R(h:p:=by go_wp2_with fail;refine(V o).mono ?_;rintro E x ⟨J,rfl,K,b⟩;have T:Hid (x0j w y (.returned J) x):=⟨J,rfl,K.lower (V U).size,x0b (V U) b⟩;go_wp2;go_ret;exact V T):p:=h
theorem w3F(h:p:=by go_enter func197,ntmps197;go_wp2_with fail;refine(V H).mono ?_;rintro e w ⟨rfl,rfl⟩;exact t6v):p:=h
theorem r8O(h:p:=by exact⟨fun e=>by rw[e]at this;simp at this,f6J⟩):p:=h
theorem W1y(h:p:=by rintro e w ⟨rfl,rfl⟩;go_wp2_with fail;refine(V G _).mono ?_;rintro e w ⟨rfl,rfl⟩;go_wp2_with fail;refine(V k _).mono ?_;rintro e w ⟨rfl,rfl⟩;go_wp2;go_ret2;exact g9T):p:=h
theorem I9q(h:p:=by
 have A:=u r Z;unfold record at A;rw[if_neg f6J]at A;split at A
 ·exact absurd A e8N
 ·split at A
  ·exact absurd A e8N
  ·next hn =>
   exact P8u):p:=h
theorem f1Z(h:p:=by(intro w hSw;go_simp;first| done|(rw[IntKind.wrap_i32];omega)|(unfold wrap32;omega) | omega)):p:=h
theorem N0Q(h:p:=by rintro e w ⟨rfl,rfl⟩;go_wp2_with fail;refine(V G _).mono ?_;rintro e w ⟨rfl,rfl⟩;go_wp2;go_ret2;exact g9T):p:=h
theorem i2j(h:p:=by obtain⟨uo,m,t,_,_⟩:=X.sk.shape;exact⟨uo,_,m,t⟩):p:=h
end
theorem x6k(w:World) o:(w.alloc o).heap.size=w.heap.size+1:=Array.size_push ..
structure RecC(w:World)(g off:Nat)(r:Rec)(ao:Option Addr)(ln cp:Nat):Prop where
 x0:w.cell? ⟨g,off,none⟩=some (.int .i64 r.kind)
 x1:w.cell? ⟨g,off+1,none⟩=some (.int .i64 r.lo)
 x2:w.cell? ⟨g,off+2,none⟩=some (.int .i64 r.hi)
 x3:w.cell? ⟨g,off+3,none⟩=some (.int .i64 r.n)
 x4:w.cell? ⟨g,off+4,none⟩=some (.slice ao ln cp)
 x5:w.cell? ⟨g,off+5,none⟩=some (.string r.name)
 x6:w.cell? ⟨g,off+6,none⟩=some (.string r.other)
 x7:w.cell? ⟨g,off+7,none⟩=some (.float .f64 r.wt)
theorem RecC.keep{w w' g off r ao}{ln cp}(h:RecC w g off r ao ln cp)(G:w'.heap[g]?=w.heap[g]?):RecC w' g off r ao ln cp:=by
 have I:∀j,w'.cell? ⟨g,j,none⟩=w.cell? ⟨g,j,none⟩:=fun j=>(by simp only[World.cell?,G]);exact⟨by rw[I];exact h.x0,by rw[I];exact h.x1,by rw[I];exact h.x2,by rw[I];exact h.x3,by rw[I];exact h.x4,by rw[I];exact h.x5,by rw[I];exact h.x6,by rw[I];exact h.x7⟩
def OfP(w:World)(B:Nat)(r:Rec)(e:Ending)(w':World):Prop:=∃vt,e=.returned (recV r vt)/\Ok .i32 21 w B vt r.to/\Below w.heap.size w w'
theorem z3Y{t l rs f B} c w(hS:SpP w B t l (Cn.famOf f rs))(h6:(Cn.check6 rs).2=0)(hf:f≠10/\f≠0)(hc:Rune c):Calls prog 147 #[.agg #[t,l],.int .i32 c] w (OfP w B (Cn.rget rs f c)):=by
 obtain⟨aB,aC⟩:=hc;obtain⟨⟨a,m,e,hp,hs,t4⟩,ps,F,X⟩:=hS;subst e;have hv:=(Cn.x8o h6 hf hp hs).2 c;obtain⟨k,hk⟩:∃k:Nat,Tri.get 0 m c=(k:Int):=⟨(Tri.get 0 m c).toNat,f6J⟩;have s:ps.length=(Cn.famOf f rs).length+1:=(by have:=congrArg List.length X;simpa using this);have J:k<ps.length:=f6J;have aw:(Cn.famOf f rs).length<=4096:=Nat.le_trans (List.length_filter_le _ _) (Cn.x0m.1 h6).1
 have aj:ps[k].1=Cn.rget rs f c:=by
  have h2:=hv.2.2;rw[hk,Int.toNat_natCast,<- X]at h2;have h3:(ps.map (·.1)).getD k Cn.none=ps[k].1:=(by simp[List.getD,J]);rw[<- h3];exact h2
 obtain⟨g,M,ay⟩:∃g M,l=.slice (some ⟨g,0,none⟩) ps.length M:=by
  rcases F.1.2 with⟨_,h0⟩|⟨g,M,aA,e,_⟩
  ·omega
  ·exact⟨g,M,e⟩
 subst ay;obtain⟨r,R,o,A,hq,x,u,x2,x3,x4,x5,y,T,_⟩:=F.cells8 J;have ag:RecC w g (k*8) r R o A:=⟨x,u,x2,x3,x4,x5,y,T⟩;have Z:r=Cn.rget rs f c:=(by rw[<- aj,hq]);rw[<- Z];have am:Ok .i32 21 w B (.slice R o A) r.to:=(by have:=F.2 ps[k] (List.getElem_mem J);rw[hq]at this;exact this);have D:=O am;have ai:g<w.heap.size:=x0a x
 have KG:Hid (∀W,Bw w W->Calls prog 146 #[.pointer (some a),.int .i64 c] W (x1r W (k:Int))):=fun W hW=>by
  have:=get4 _ m 0 c W ⟨B,t4.below hW⟩ ⟨f6J,f6J⟩;rw[hk]at this;exact this
 have aD:ps.length<=5000:=f6J;clear hv hk s aj X F hq x u x2 x3 x4 x5 y T am hp hs t4 h6 Z aw;generalize ps.length=n at *;obtain⟨U,ab⟩:∃U,(w.alloc (.cells #[.pointer (some a),.slice (some ⟨g,0,none⟩) n M] 138)).alloc (.cells #[.int .i64 0,.int .i64 0,.int .i64 0,.int .i64 0,.slice none 0 0,.string ⟨#[]⟩,.string ⟨#[]⟩,.float .f64 0] 67)=U:=⟨_,rfl⟩;have az:=x6k w (.cells #[.pointer (some a),.slice (some ⟨g,0,none⟩) n M] 138);have E:=(Below.refl w.heap.size w).alloc (l0r _) (.cells #[.pointer (some a),.slice (some ⟨g,0,none⟩) n M] 138);have Q:=heap_alloc_new w (.cells #[.pointer (some a),.slice (some ⟨g,0,none⟩) n M] 138)
 have ae:Bw w U:=by
  rw[<- ab];exact E.alloc f6J _
 have ar:U.heap[w.heap.size+1]?=some (.cells #[.int .i64 0,.int .i64 0,.int .i64 0,.int .i64 0,.slice none 0 0,.string ⟨#[]⟩,.string ⟨#[]⟩,.float .f64 0] 67 (0,0)):=by
  rw[<- ab,<- az];exact heap_alloc_new _ _
 have aq:U.heap[w.heap.size]?=some (.cells #[.pointer (some a),.slice (some ⟨g,0,none⟩) n M] 138 (0,0)):=by
  rw[<- ab,heap_alloc_old _ _ f6J];exact Q
 have aF:U.heap.size=w.heap.size+2:=by rw[<- ab,x6k];exact f6J
 have HS:Hid (∀W,Bw U W->(W.cell? ⟨w.heap.size,0,none⟩=some (.pointer (some a))/\W.cell? ⟨w.heap.size,1,none⟩=some (.slice (some ⟨g,0,none⟩) n M))/\RecC W g (k*8) r R o A):=fun W hW=>by
  have P:=hW.block w.heap.size f6J;rw[aq]at P;exact⟨⟨cell_of (j:=0) P n5Z,cell_of (j:=1) P w2h⟩,ag.keep (by rw[hW.block g f6J,ae.block g ai])⟩
 have HZ:Hid (∀W,Bw U W->W.heap[w.heap.size+1]?=some (.cells #[.int .i64 0,.int .i64 0,.int .i64 0,.int .i64 0,.slice none 0 0,.string ⟨#[]⟩,.string ⟨#[]⟩,.float .f64 0] 67 (0,0))):=fun W hW=>by
  rw[hW.block _ f6J];exact ar
 have Y:=O ae;have L:=O ai;clear E Q ar aq ag ae;go_enter func147,ntmps147;go_wp2;refine wp_region_held_drew (S:=fun w'=>((w'.cell? ⟨w.heap.size,0,none⟩=some (.pointer (some a))/\w'.cell? ⟨w.heap.size,1,none⟩=some (.slice (some ⟨g,0,none⟩) n M))/\RecC w' g (k*8) r R o A)) f4y (V HS _ (x0k ⟨1,rfl⟩)) (fun hHeld=>?_);refine tk9 0 (.pointer (some ⟨w.heap.size,1,none⟩)) ?_ (hy:=n0a);refine tk9 1 (.slice (some ⟨g,0,none⟩) n M) ?_ (hy:=n0a);refine tk9 2 (.pointer (some ⟨w.heap.size,0,none⟩)) ?_ (hy:=n0a);refine tk9 3 (.pointer (some a)) ?_ (hy:=n0a);refine tk9 4 (.int .i32 c) ?_ (hy:=n0a);refine tk9 5 (.int .i64 c) ?_ (hy:=by(intro w hSw;obtain⟨⟨H,N⟩,⟨x,u,x2,x3,x4,x5,y,T⟩⟩:=hSw;go_simp;rw[IntKind.wrap_i64];omega));refine rd9 6 fun K hK=>?_;go_simp;refine(V KG _ (x0b (V Y) (x0k ⟨1,rfl⟩))).mono ?_;rintro e2 w2 ⟨rfl,mm,rfl⟩;have i:=O (x0b (x0k ⟨1,rfl⟩) (x0k ⟨mm,rfl⟩):Bw U _);refine hK.out _ _ ?_ (fun hHeld=>?_)
 ·exact V HS _ (V i)
 clear hK K
 try simp only[Act.put,sa9,sb9,sc9]
 refine tk9 7 (.pointer (some ⟨g,k*8,none⟩)) ?_ (hy:=n0a);refine tk9 8 (recV r (.slice R o A)) ?_ (hy:=by(intro w hSw;obtain⟨⟨H,N⟩,⟨x,u,x2,x3,x4,x5,y,T⟩⟩:=hSw;first| exact loadR x u x2 x3 x4 x5 y T|(unfold recV;go_simp)));refine rd9 9 fun K hK=>?_;generalize((U.drewN 1).drewN mm)=V2 at *;have af:=V HZ _ (V i);have I:=V HS _ (V i);have s9:=z9E (off:=0) af (by show 0+8<=8;exact f6J) r R o A;have hV:=y9N (off:=0) af (r,.slice R o A);have d:∀b,b≠w.heap.size+1->(putR V2 (w.heap.size+1) 0 (r,.slice R o A)).heap[b]?=V2.heap[b]?:=fun b hb=>x9z _ hb;have G:Bw w (putR V2 (w.heap.size+1) 0 (r,.slice R o A)):=x8p (x0b (V Y) (V i)) f6J _;generalize putR V2 (w.heap.size+1) 0 (r,.slice R o A)=V3 at *;refine x7i rfl 67 (.tmp 4) (.tmp 13) rfl (.pointer (some ⟨w.heap.size+1,0,none⟩)) (recV r (.slice R o A)) rfl rfl s9 ?_;refine hK.out _ _ ?_ (fun hHeld=>?_)
 ·obtain⟨⟨q0,q1⟩,q2⟩:=I;have hc:∀j,V3.cell? ⟨w.heap.size,j,none⟩=V2.cell? ⟨w.heap.size,j,none⟩:=fun j=>(by simp only[World.cell?,d w.heap.size f6J]);exact⟨⟨by rw[hc];exact q0,by rw[hc];exact q1⟩,q2.keep (d g (by have:=V L;exact f6J))⟩
 clear hK K
 try simp only[Act.put]
 refine wpAnyH_done f4y ?_ _
 have z:RecC V3 (w.heap.size+1) 0 r R o A:=by
  have C:∀j,j<8->V3.cell? ⟨w.heap.size+1,j,none⟩=(x0z (r,.slice R o A))[j]?:=fun j hj=>by
   have e:=z0m #[.int .i64 0,.int .i64 0,.int .i64 0,.int .i64 0,.slice none 0 0,.string ⟨#[]⟩,.string ⟨#[]⟩,.float .f64 0] 0 (r,.slice R o A) (by show 0+8<=8;exact f6J) j;rw[if_pos f6J,Nat.sub_zero]at e;rw[<- e];simp[World.cell?,hV]
  exact⟨C 0 f6J,C 1 f6J,C 2 f6J,C 3 f6J,C 4 f6J,C 5 f6J,C 6 f6J,C 7 f6J⟩
 obtain⟨z0,z1,z2,z3,z4,z5,z6,z7⟩:=z;have q:OfP w B r (.returned (recV r (.slice R o A))) V3:=⟨_,rfl,V D,G⟩;clear hV d G af s9 I hHeld HZ HS;go_wp2;refine bodyPost_ret (v:=recV r (.slice R o A)) (by simp[results,Tryz.results147,go_sem,z0,z1,z2,z3,z4,z5,z6,z7,recV]) rfl q
namespace Cn
def within(c a b:Int):Bool:=decide (a<=c/\c<=b)
def bare2(c:Int):Bool:=syl c&&decide ((c-44032)%28=0)
def sylOf(a b:Int):Int×Bool :=
 if(jl a&&jv b)=true then(44032+((a-4352)*21+b-4449)*28,true)else if(bare2 a&&jt b)=true then(a+b-4520+1,true)else(0,false)
end Cn
theorem x2N c a b w:Calls prog 196 #[.int .i32 c,.int .i32 a,.int .i32 b] w fun e w'=>e=.returned (.bool (Cn.within c a b))/\w'=w:=by
 unfold Cn.within;by_cases Z:a<=c
 ·by_cases D:c<=b
  ·rw[d0t ⟨Z,D⟩];exact i4V
  ·rw[d0f (fun h=>D h.2)];have i:decide (c<=b)=false:=d0f D;exact i4V
 ·rw[d0f (fun h=>Z h.1)];have g:decide (a<=c)=false:=d0f Z;exact i4V
theorem z0K c w:Calls prog 197 #[.int .i32 c] w fun e w'=>e=.returned (.bool (Cn.bare2 c))/\w'=w:=by
 have H:=O (x2N c 44032 55203 w);have P:Cn.within c 44032 55203=Cn.syl c:=rfl;rw[P]at H;unfold Cn.bare2;by_cases U:Cn.syl c=true
 ·have i:44032<=c/\c<=55203:=o0d U;obtain⟨D,N⟩:=i;rw[U]at H ⊢;have P:(c-44032).tmod 28=(c-44032)%28:=Int.tmod_eq_emod_of_nonneg f6J;obtain⟨J,E⟩:∃J,decide ((c-44032)%28=0)=J:=⟨_,rfl⟩;rw[E];have C:((c-44032)%28==0)=J:=f6J;exact w3F
 ·rw[Bool.not_eq_true]at U;rw[U]at H ⊢;exact w3F
theorem x9S a b w:Calls prog 151 #[.int .i32 a,.int .i32 b] w fun e w'=>e=.returned (.tuple #[.int .i32 (Cn.sylOf a b).1,.bool (Cn.sylOf a b).2])/\w'=w:=by
 have H:Hid (∀w,Calls prog 196 #[.int .i32 a,.int .i32 4352,.int .i32 4370] w fun e w'=>e=.returned (.bool (Cn.jl a))/\w'=w):=fun w=>x2N a 4352 4370 w;have o:Hid (∀w,Calls prog 196 #[.int .i32 b,.int .i32 4449,.int .i32 4469] w fun e w'=>e=.returned (.bool (Cn.jv b))/\w'=w):=fun w=>x2N b 4449 4469 w;have G:=O (fun w=>z0K a w);have k:Hid (∀w,Calls prog 196 #[.int .i32 b,.int .i32 4520,.int .i32 4546] w fun e w'=>e=.returned (.bool (Cn.jt b))/\w'=w):=fun w=>x2N b 4520 4546 w;have Z:Cn.jl a=true->4352<=a/\a<=4370:=fun h=>o0d h;have D:Cn.jv b=true->4449<=b/\b<=4469:=fun h=>o0d h
 have R:Cn.bare2 a=true->44032<=a/\a<=55203:=fun h=>by
  unfold Cn.bare2 at h;rw[Bool.and_eq_true]at h;exact o0d h.1
 have C:Cn.jt b=true->4520<=b/\b<=4546:=fun h=>o0d h;unfold Cn.sylOf;generalize Cn.jl a=q1,Cn.jv b=q2,Cn.bare2 a=q3,Cn.jt b=N at *;replace Z:=O Z;replace D:=O D;replace R:=O R;replace C:=O C;by_cases j:(q1&&q2)=true
 ·rw[if_pos j];obtain⟨rfl,rfl⟩:q1=true/\q2=true:=(by simpa using j);obtain⟨L,P⟩:=V Z rfl;obtain⟨b1,m⟩:=V D rfl;go_enter func151,ntmps151;go_wp2_with fail;refine(V H _).mono ?_;rintro e w ⟨rfl,rfl⟩;go_wp2_with fail;refine(V o _).mono ?_;rintro e w ⟨rfl,rfl⟩;go_wp2;go_ret2;exact⟨by first| rfl | simp,rfl⟩
 ·rw[if_neg j]
  cases q1 with
  | false =>
   cases q3 with
   | false =>
    rw[if_neg M7K];go_enter func151,ntmps151;go_wp2_with fail;refine(V H _).mono ?_;exact N0Q
   | true =>
    cases N with
    | false =>
     rw[if_neg M7K];go_enter func151,ntmps151;go_wp2_with fail;refine(V H _).mono ?_;exact W1y
    | true =>
     rw[if_pos (show(true&&true)=true from rfl)];obtain⟨L,P⟩:=V R rfl;obtain⟨b1,m⟩:=V C rfl;go_enter func151,ntmps151;go_wp2_with fail;refine(V H _).mono ?_;exact S1l
  | true =>
   obtain rfl:q2=false:=by cases q2<;>simp_all
   cases q3 with
   | false =>
    rw[if_neg M7K];go_enter func151,ntmps151;go_wp2_with fail;refine(V H _).mono ?_;rintro e w ⟨rfl,rfl⟩;go_wp2_with fail;refine(V o _).mono ?_;exact N0Q
   | true =>
    cases N with
    | false =>
     rw[if_neg M7K];go_enter func151,ntmps151;go_wp2_with fail;refine(V H _).mono ?_;rintro e w ⟨rfl,rfl⟩;go_wp2_with fail;refine(V o _).mono ?_;exact W1y
    | true =>
     rw[if_pos (show(true&&true)=true from rfl)];obtain⟨L,P⟩:=V R rfl;obtain⟨b1,m⟩:=V C rfl;go_enter func151,ntmps151;go_wp2_with fail;refine(V H _).mono ?_;rintro e w ⟨rfl,rfl⟩;go_wp2_with fail;refine(V o _).mono ?_;exact S1l
open Ti
namespace Cn
def cmp9(rs:List Rec)(a b:Int):Int×Bool:=if(sylOf a b).2=true then((sylOf a b).1,true)else((x2c rs a b).getD 0,(x2c rs a b).isSome)
def mapping(rs:List Rec)(c:Int):List Int:=if(rget rs 1 c).kind=4 then[(rget rs 1 c).to.getD 0 0+(c-(rget rs 1 c).lo)]else(rget rs 1 c).to
theorem rget_cases{rs}(F:(check6 rs).2=0){f}(X:f≠10/\f≠0) c:(hit rs f c=Option.none/\rget rs f c=none)\/(hit rs f c=some (rget rs f c)/\rget rs f c∈rs/\fam (rget rs f c).kind=f/\speaks (rget rs f c) c=true/\right (rget rs f c)=0):=by
 unfold rget
 cases he:hit rs f c with
 | none=>exact .inl ⟨rfl,rfl⟩
 | some r =>
  obtain⟨J,I,M⟩:=(x1z F X r).1 he;exact .inr ⟨rfl,J,I,M,(x0m.1 F).2.1 r J⟩
theorem y2T{r}(h:right r=0)(H:r.kind=4):r.to.length=1/\0<=r.to.getD 0 0/\r.to.getD 0 0<=1114111/\r.to.getD 0 0+r.hi-r.lo<=1114111:=by
 have X:=x0v h;unfold right at h;rw[if_neg X,if_neg f6J]at h;have I:=x1j h;rw[Bool.and_eq_true,if_neg f6J,if_neg f6J,if_pos H]at I;have D:=I.2;simp only[Bool.and_eq_true]at D;obtain⟨S,U⟩:=x0u D.1.2;have A:=o0d D.2;have F:r.to.length=1:=f6J
 have z:r.to.getD 0 0∈r.to:=by
  match hr:r.to,F with
  | [x],_=>simp
 have:=x3n (U _ z);exact⟨F,this.1,this.2,f6J⟩
theorem x4p{rs}(F:(check6 rs).2=0) c(H:(rget rs 1 c).kind=4):(rget rs 1 c).to.length=1/\0<=(rget rs 1 c).to.getD 0 0/\(rget rs 1 c).to.getD 0 0<=1114111/\0<=(rget rs 1 c).lo/\(rget rs 1 c).lo<=c/\c<=1114111/\(rget rs 1 c).to.getD 0 0+(c-(rget rs 1 c).lo)<=1114111:=by
 rcases rget_cases F (f:=1) e8N c with⟨_,e⟩ | ⟨_,_,_,U,u⟩
 ·rw[e]at H;exact absurd H e8N
 ·obtain⟨N,s,C⟩:=x0n u f6J;obtain⟨S,r2,r3,r4⟩:=y2T u H;unfold speaks at U;obtain⟨_,_,l,j,K,q,_⟩:=o0d U;exact⟨S,r2,r3,N,K,j,f6J⟩
end Cn
theorem z6Q{W a u}(h:W.cell? a=some u)(X:W.frozen? a=false) y:(Instr.storeAt 21 (.pointer (some a)) (.int .i32 y)).run prog W=.ok () (W.setCell a (.int .i32 y)):=by
 simp[Instr.storeAt,go_sem,h,X]
theorem Ok.setAt9{K e w B g n cap}{zs}(h:Ok K e w B (.slice (some ⟨g,0,none⟩) n cap) zs) k z(o:Fit K [z]) :
  Ok K e (w.setCell ⟨g,k,none⟩ (.int K z)) B (.slice (some ⟨g,0,none⟩) n cap) (zs.set k z)/\w.frozen? ⟨g,k,none⟩=false:=by
 have L:=h.row;rcases L.2 with⟨A,_⟩|⟨S,J,T,N,Y,a,E,t,q,Q⟩
 ·cases A
 ·exact R3Y
theorem y0i{B p rs} a b w(N:x0o w B p rs)(g:Rune a)(Y:Rune b):Calls prog 100 #[.pointer (some ⟨p,0,none⟩),.int .i32 a,.int .i32 b] w fun e w'=>e=.returned (.tuple #[.int .i32 (Cn.cmp9 rs a b).1,.bool (Cn.cmp9 rs a b).2])/\w'=w:=by
 obtain⟨n,s,v,y,l,L,i,P,X,t,H,a4,l4,Q,T,W,c2,u,Z,D,R⟩:=N;have K:=O (x9S a b w);have x:w.cell? ⟨p,15,none⟩=some W:=cell_of (j:=15) Z (by show 15<18;exact f6J);obtain⟨S,r2,rfl,f,b1,m,J,I⟩:=R.co;have E:=(z3L (w:=w) (M:=146) (z:=.int .i32 0) klP underlying146 z3z (r:=S) J (k:=pk2 a b) ⟨a,b,rfl,g,Y⟩).1;rw[y4h]at E;unfold Cn.cmp9;clear Z D R J I f;obtain⟨o,A⟩:=g;obtain⟨b0,F⟩:=Y;generalize Cn.sylOf a b=q at *;obtain⟨C,d⟩:=q
 cases d with
 | true =>
  clear E;exact w4a
 | false =>
  cases hpo:Cn.x2c rs a b with
  | none =>
   rw[hpo]at E;replace E:(Instr.lookup 146 (.map (some S)) (.agg #[.int .i32 a,.int .i32 b]) true).run prog w=.ok (.tuple #[.int .i32 0,.bool false]) w:=E;clear hpo;exact w4a
  | some z =>
   rw[hpo]at E;replace E:(Instr.lookup 146 (.map (some S)) (.agg #[.int .i32 a,.int .i32 b]) true).run prog w=.ok (.tuple #[.int .i32 z,.bool true]) w:=E;clear hpo;exact w4a
theorem y0M{B p rs} c w(hD:x0o w B p rs)(F:(Cn.check6 rs).2=0)(l:∀r∈rs,RecFit r)(hc:Rune c):Calls prog 95 #[.pointer (some ⟨p,0,none⟩),.int .i32 c] w (x0j w (Cn.mapping rs c)):=by
 obtain⟨t1,t2,t3,t4,t5,a1,l1,a2,l2,a3,l3,a4,l4,a5,l5,c1,c2,x1,Z,h2,h3⟩:=hD;have K1:=O (z3Y c w h3.q1 F e8P hc);have x5:w.cell? ⟨p,5,none⟩=some a1:=cell_of (j:=5) Z (by show 5<18;exact f6J);have x6:w.cell? ⟨p,6,none⟩=some l1:=cell_of (j:=6) Z (by show 6<18;exact f6J);obtain⟨⟨aa,m,e,-⟩,ps,hR,-⟩:=h3.q1;subst e
 obtain⟨aQ,aP,ay⟩:∃R ai,l1=.slice R ps.length ai:=by
  rcases hR.1.2 with⟨e,A⟩|⟨g,ai,T,e,_⟩
  ·exact⟨_,_,by rw[e,A]⟩
  ·exact⟨_,_,e⟩
 subst ay;have af:=Cn.x4p F c
 have D:RecFit (Cn.rget rs 1 c):=by
  rcases Cn.rget_cases F (f:=1) e8P c with⟨_,e⟩ | ⟨_,hm,_⟩
  ·rw[e];exact⟨⟨e8P,e8P⟩,⟨e8P,e8P⟩,⟨e8P,e8P⟩,⟨e8P,e8P⟩,e8P,e8P⟩
  ·exact l _ hm
 obtain⟨aJ,aK⟩:=hc;clear Z h2 h3 F hR l;unfold Cn.mapping;generalize Cn.rget rs 1 c=r at *;obtain⟨y,k⟩:∃y,r.to=y:=⟨_,rfl⟩;have aw:=D.len;rw[k]at af aw ⊢;have N:=O k;have hk:=D.kind;have aM:=D.lo;have ae:=O af;obtain⟨aG,ab⟩:∃a,(if r.kind=4 then[y.getD 0 0+(c-r.lo)]else y)=a:=⟨_,rfl⟩;rw[ab];have C:=O ab;clear k D af ab;go_enter func95,ntmps95;go_wp2_with fail;refine(V K1).mono ?_;rintro e1 w1 ⟨vt,rfl,X,b1⟩;clear K1 x5 x6;rw[V N]at X;obtain⟨R,tc,rfl,aN,aO⟩:=X.sk.shape;obtain⟨W1,aH,am,I⟩:=x0L w1 r.kind r.lo r.hi r.n (.slice R y.length tc) r.name r.other r.wt;have v:∀W a m,(store a (.float .f64 r.wt) m).run prog W=stored prog W a (.float .f64 r.wt) m:=fun W a m=>run_store prog W a _ m rfl;have KC:=O (x2Y (.slice R y.length tc) y W1 ((X.sk.below b1).below I) aw);have U:=O (x0b b1 I);have P:=O (x0b b1 I).size;have Y:Hid (∀W,Bw W1 W->BoxAt W w1.heap.size r.kind r.lo r.hi r.n (.slice R y.length tc) r.name r.other r.wt):=fun W h=>am.keep h;obtain⟨z0,J,z2,z3,z4,z5,z6,z7⟩:=am;clear X b1 I N;unfold recV;generalize r.kind=kd,r.lo=lo,r.hi=hi,r.n=n at *;generalize r.name=nm,r.other=ot,r.wt=wt at *;clear r;go_wp2_with fail;refine(V KC).mono ?_;rintro e2 d ⟨v2,rfl,u,b2⟩;obtain⟨y0,y1,y2,y3,y4,y5,y6,y7⟩:=V Y d b2;have M:=O y1;have i:=O (x0b (V U) b2);have ag:=O b2;clear KC z0 z2 z3 z4 z5 z6 z7 v U b2;by_cases H:kd=4
 ·have ha:=V C;rw[if_pos H]at ha;obtain⟨s1,s2,s3,s4,s5,s6,s7⟩:=V ae H
  obtain⟨x,rfl⟩:∃x,y=[x]:=by
   match y,s1 with
   | [x],_=>exact⟨x,rfl⟩
  simp only[List.getD_cons_zero]at ha s2 s3 s7;subst ha H;clear C ae;obtain⟨gt,aB,aj,E,aD,aF,t⟩:=u.sk.place M7M
  have aA:aB=0:=by
   rcases u.row.2 with⟨e,_⟩|⟨g',aC,T,e,_⟩
   ·rw[E]at e;simp at e
   ·rw[E]at e;simp only[Value.slice.injEq,Option.some.injEq,Addr.mk.injEq]at e;exact e.1.2.1
  subst aA;have Q:d.cell? ⟨gt,0,none⟩=some (.int .i32 x):=t 0 M7M;subst E;have HS:Hid (∀W,Bw d W->W.cell? ⟨gt,0,none⟩=some (.int .i32 x)/\W.cell? ⟨w1.heap.size,1,none⟩=some (.int .i64 lo)):=fun W h=>⟨by rw[h.cell (x0a Q)];exact Q,by rw[h.cell (x0a y1)];exact y1⟩;have G:Hid (gt≠w1.heap.size):=by have Z:=(u.row.lt gt rfl).1;have h2:=x0a J;show gt≠_;exact f6J
  have HE:Hid (∀W,Bw d W->x0j w [x+(c-lo)] (.returned (.slice (some ⟨gt,0,none⟩) 1 aj)) (W.setCell ⟨gt,0,none⟩ (.int .i32 (x+(c-lo))))/\W.frozen? ⟨gt,0,none⟩=false):=fun W h=>by
   have hk:=(u.below h).setAt9 0 (x+(c-lo)) (fun z hz=>by rw[List.mem_singleton]at hz;subst hz;exact x0T f6J);have aL:W1.heap.size<=gt:=(u.row.lt gt rfl).1;exact⟨⟨_,rfl,hk.1.lower (V P),x0d (x0b (V i) h) (by have:=V P;exact f6J) _⟩,hk.2⟩
  clear u t Y ag Q J y2 y3 y4 y5 y6 y7 M i;go_wp2;clear y0 y1;refine wp_region_held_drew (S:=fun w'=>w'.cell? ⟨w1.heap.size,1,none⟩=some (.int .i64 lo)) f4y ((V HS _ (x0k ⟨1,rfl⟩)).2) (fun hHeld=>?_);refine tk9 0 (.slice (some ⟨gt,0,none⟩) 1 aj) ?_;refine tk9 1 (.pointer (some ⟨gt,0,none⟩)) ?_;refine tk9 3 (.int .i32 c) ?_;refine tk9 4 (.pointer (some ⟨w1.heap.size,1,none⟩)) ?_;refine tk9 5 (.int .i64 lo) ?_ (hy:=by(intro w hSw;have s1:=hSw;go_simp));refine tk9 6 (.int .i32 lo) ?_ (hy:=f1Z);refine tk9 7 (.int .i32 (c-lo)) ?_ (hy:=f1Z);have s:Bw d d.drew:=x0k ⟨1,rfl⟩;have o:=V HS _ s;have L:=V HE _ s;have az:=V G;clear HS HE G;generalize d.drew=w3 at *;refine rd9 2 fun K hK=>?_
  have ar:(Instr.loadAt 21 (.pointer (some ⟨gt,0,none⟩))).run prog w3=.ok (.int .i32 x) w3:=by
   have A:=o.1;simp[Instr.loadAt,go_sem,A]
  refine y6u rfl 21 (.tmp 21) rfl (.pointer (some ⟨gt,0,none⟩)) (.int .i32 x) rfl ar ?_;refine hK.out _ _ ?_ (fun hHeld=>?_)
  ·exact o.2
  clear hK K
  try simp only[Act.put,sa9,sb9,sc9]
  refine tk9 8 (.int .i32 (x+(c-lo))) ?_ (hy:=f1Z);refine tk9 9 (.pointer (some ⟨gt,0,none⟩)) ?_;refine rd9 10 fun K hK=>?_;have s9:=z6Q o.1 L.2 (x+(c-lo));have q:=L.1
  have aq:(w3.setCell ⟨gt,0,none⟩ (.int .i32 (x+(c-lo)))).cell? ⟨w1.heap.size,1,none⟩=some (.int .i64 lo):=by
   rw[World.cell?_setCell_far _ _ _ _ az];exact o.2
  clear L o ar;generalize w3.setCell ⟨gt,0,none⟩ (.int .i32 (x+(c-lo)))=w4 at *;refine x7i rfl 21 (.tmp 29) (.tmp 28) rfl (.pointer (some ⟨gt,0,none⟩)) (.int .i32 (x+(c-lo))) rfl rfl s9 ?_;refine hK.out _ _ ?_ (fun hHeld=>?_)
  ·exact aq
  clear hK K s9
  try simp only[Act.put]
  refine wpAnyH_done f4y ?_ _;have b:=O q;clear q hHeld aq;go_wp2;go_ret;exact V b
 ·have ha:=V C;rw[if_neg H]at ha;subst ha;clear C ae;have aI:(kd==4)=false:=(by rw[beq_eq_false_iff_ne];exact H);have HF:Hid (x0j w y (.returned v2) d):=⟨v2,rfl,u.lower (V P),V i⟩;clear u Y M ag J;exact I7o
open Ti
namespace Cn
theorem z8z:x2o.take 150=x2o:=rfl
end Cn
theorem z3S:∀r∈Cn.x2o,RecFit r:=by
 intro p L;simp only[Cn.x2o,List.mem_cons,List.mem_nil_iff,or_false]at L;rcases L with rfl|rfl|rfl|rfl|rfl|rfl|rfl|rfl|rfl|rfl<;>exact⟨W0Y,W0Y,W0Y,W0Y,e8M,e8M⟩
namespace Cn
end Cn
end Go.Proofs.YtbmckadcjdedcaaGreatDoor
namespace Go.Proofs.YtbmckadcjdedcaaGreatDoor.Cn
open Go.Proofs.Tryz
theorem y3g l:∀(f:Nat) (A:List Int) (c:Int) (out:List Int),(∀x∈out,opn l x=[])->∀x∈(walk l f A c out).1,opn l x=[]:=by
 intro f
 induction f with
 | zero =>
  intro A c out h;rw[walk];split
  ·grind
  ·split<;>(intro x J;cases J)
 | succ f ih =>
  intro A c out h;rw[walk];split
  ·grind
  ·split
   ·intro x J;cases J
   ·have S:∀(L:List Int) (s:List Int×Int),(∀x∈s.1,opn l x=[])->∀x∈(L.foldl (stepW l f (A++[c])) s).1,opn l x=[]:=N0r
    exact S _ _ h
theorem z0P l:∀(f:Nat) (C:List Int) (c:Int) (out:List Int),(walk l f C c out).2=0->out.length<(walk l f C c out).1.length:=by
 intro f
 induction f with
 | zero =>
  intro C c out;rw[walk];split
  ·grind
  ·grind
 | succ f ih =>
  intro C c out;rw[walk];split
  ·split
   ·intro h;exact absurd h e8N
   ·intro _;simp
  ·next hc =>
   split
   ·intro h;exact absurd h e8N
   ·have S:∀(L:List Int) (s:List Int×Int),(L.foldl (stepW l f (C++[c])) s).2=0->s.1.length+L.length<=(L.foldl (stepW l f (C++[c])) s).1.length:=by
     intro L
     induction L with
     | nil=>intro s _;simp
     | cons x L ihx =>
      intro s U;rw[List.foldl_cons]at U ⊢;have Z:=ihx _ U
      have A:s.2=0:=by
       refine Decidable.byContradiction fun E=>?_;rw[stepW,if_neg E,x1K _ _ _ _ _ E]at U;exact E U
      have D:(stepW l f (C++[c]) s x).2=0:=by
       refine Decidable.byContradiction fun E=>?_;rw[x1K _ _ _ _ _ E]at U;exact E U
      unfold stepW at Z D U ⊢;rw[if_pos A]at Z D;have R:=ih _ _ _ D;simp only[List.length_cons];simp only[if_pos A]at *;omega
    intro h;have:=S _ _ h;have F:0<(opn l c).length:=List.length_pos_iff.2 hc;simp only at this;exact Nat.lt_of_lt_of_le f6J this
def jamo(c:Int):Prop:=(4352<=c/\c<=4370)\/(4449<=c/\c<=4469)\/(4520<=c/\c<=4546)
theorem x1Y{r c}(h:speaks r c=true):r.lo<=c/\c<=r.hi:=by
 unfold speaks at h;obtain⟨_,_,_,_,A,F,_⟩:=o0d h;exact⟨A,F⟩
theorem y3T{l}(h:(check l).2=0){c}(hc:jamo c){f}(X:f=2\/f=3):hit l f c=Option.none:=by
 obtain⟨F,u,_,_⟩:=x0M.1 h
 cases e:hit l f c with
 | none=>rfl
 | some r =>
  obtain⟨Z,D,R⟩:=x2b e;have U:=x1Y R;have A:=u r Z;unfold record at A;rw[if_neg f6J]at A;split at A
  ·exact absurd A e8N
  ·split at A
   ·exact absurd A e8N
   ·next hn =>
    refine absurd ?_ hn;simp only[Bool.or_eq_true,covers,decide_eq_true_eq];rcases hc with hc|hc|hc
    ·exact .inl (.inl (.inl f6J))
    ·exact .inl (.inl (.inr f6J))
    ·exact .inl (.inr f6J)
theorem x9c{l}(h:(check l).2=0){c}(I:jamo c):opn l c=[]:=by
 unfold opn
 have:syl c=false:=by
  unfold syl;unfold jamo at I;exact d0f f6J
 rw[this,y3T h I (.inr rfl)];rfl
theorem y3S{l}(h:(check l).2=0){c}(I:jamo c):cls l c=0:=by
 unfold cls;rw[y3T h I (.inl rfl)]
theorem y9B{l c}(U:syl c=true)(z:(c-44032)%28=0):opn l c=[4352+(c-44032) / 588,4449+(c-44032) / 28%21]:=by
 unfold opn;rw[if_pos U,if_pos z]
theorem y2B{l c}(U:syl c=true)(z:¬(c-44032)%28=0):opn l c=[c-(c-44032)%28,4519+(c-44032)%28]:=by
 unfold opn;rw[if_pos U,if_neg z]
theorem x8a{l:List Rec}:∀(x:List Int),(∀c∈x,cls l c=0)->fallsA l x=false
 | [],_=>rfl
 | [_],_=>rfl
 | a::b::r,h=>by
  rw[fallsA,x8a (b::r) fun c I=>h c (List.mem_cons_of_mem _ I)];simp[h b M7K]
theorem z3l{l}(h:(check l).2=0){c}(U:syl c=true):(full l c).2=0/\∀x∈(full l c).1,jamo x:=by
 have Y:44032<=c/\c<=55203:=o0d U
 have H:∀(d:Int),syl d=true->(d-44032)%28=0->∀(f:Nat) (E out:List Int),¬d∈E->out.length<30->walk l (f+1) E d out=(out++[4352+(d-44032) / 588,4449+(d-44032) / 28%21],0)/\jamo (4352+(d-44032) / 588)/\jamo (4449+(d-44032) / 28%21):=by
  intro d hd z f E out t y;have A:44032<=d/\d<=55203:=o0d hd;have W:jamo (4352+(d-44032) / 588):=.inl f6J;have o:jamo (4449+(d-44032) / 28%21):=.inr (.inl f6J);refine⟨?_,W,o⟩;rw[x7q (by rw[y9B hd z];exact M7M) f t,y9B hd z];simp only[List.foldl_cons,List.foldl_nil,stepW];rw[if_pos trivial,x0Y (x9c h W),if_neg (c:=32<=out.length) f6J];simp only[if_true];rw[x0Y (x9c h o),if_neg P8P];simp
 unfold full;by_cases z:(c-44032)%28=0
 ·obtain⟨e,W,o⟩:=H c U z 15 [] [] M7M M7M;rw[e];refine⟨rfl,fun x J=>?_⟩;simp at J;rcases J with rfl|rfl
  ·exact W
  ·exact o
 ·have hd:syl (c-(c-44032)%28)=true:=d0t f6J;have C:(c-(c-44032)%28-44032)%28=0:=f6J;have D:jamo (4519+(c-44032)%28):=.inr (.inr f6J);rw[x7q (by rw[y2B U z];exact M7M) 15 M7M,y2B U z];obtain⟨e,W,o⟩:=H _ hd C 14 ([]++[c]) [] P8P M7M;simp only[List.foldl_cons,List.foldl_nil,stepW];rw[if_pos trivial,e];simp only[if_true];rw[x0Y (x9c h D),if_neg M7M];refine⟨rfl,fun x J=>?_⟩;simp at J;rcases J with rfl|rfl|rfl
  ·exact W
  ·exact o
  ·exact D
theorem fam_three{k}(h:fam k=3):k=7\/k=8:=R8h
theorem leaves{l}(h:(check l).2=0) c:(full l c).2=0/\0<(full l c).1.length/\(full l c).1.length<=32/\(∀x∈(full l c).1,opn l x=[])/\fallsA l (full l c).1=false:=by
 have A:(full l c).2=0/\fallsA l (full l c).1=false:=by
  by_cases C:syl c=true
  ·obtain⟨Z,D⟩:=z3l h C;exact⟨Z,x8a _ fun x J=>y3S h (D x J)⟩
  ·by_cases y:opn l c=[]
   ·unfold full;rw[x0Y y,if_neg M7M];exact⟨rfl,rfl⟩
   ·have d:∃r,hit l 3 c=some r:=by
     unfold opn at y;rw[if_neg C]at y
     cases e:hit l 3 c with
     | none=>grind
     | some r=>exact⟨r,rfl⟩
    obtain⟨r,u⟩:=d;obtain⟨Z,D,R⟩:=x2b u;obtain⟨F,U,_,_⟩:=x0M.1 h;have H:=x1Y R
    have m:r.lo=r.hi:=by
     rcases fam_three D with hk|hk
     ·exact(x0s ((x0m.1 F).2.1 r Z) hk).1
     ·exact(x2K ((x0m.1 F).2.1 r Z) hk).1
    have I:r.lo=c:=f6J;have o:=U r Z;rw[x9C]at o;unfold recF at o;rw[if_neg f6J]at o;split at o
    ·exact absurd o e8N
    ·grind
 exact⟨A.1,z0P l 16 [] c [] A.1,x4k l c,y3g l 16 [] c [] (fun x J=>absurd J M7M),A.2⟩
theorem x8Q{l:List Rec}:∀(x:List Int),fallsA l x=false->∀k,k+1<x.length->cls l (x.getD (k+1) 0)=0\/cls l (x.getD k 0)<=cls l (x.getD (k+1) 0)
 | [],_,k,hk=>absurd hk M7K
 | [_],_,k,hk=>absurd hk M7K
 | a::b::r,h,k,hk=>by
  rw[fallsA,Bool.or_eq_false_iff]at h
  cases k with
  | zero =>
   have:=of_decide_eq_false h.1;show cls l b=0\/cls l a<=cls l b;omega
  | succ k=>exact x8Q (b::r) h.2 k (by simpa using hk)
end Go.Proofs.YtbmckadcjdedcaaGreatDoor.Cn
namespace Go.Proofs.YtbmckadcjdedcaaGreatDoor
open Go.Proofs.Tryz
open Go.RowKit
namespace Cn
theorem z6S{l}(h:(check l).2=0){c}(I:syl c=true){f}(X:f=2\/f=3):hit l f c=Option.none:=by
 obtain⟨F,u,_,_⟩:=x0M.1 h;unfold syl at I;have I:=o0d I
 cases e:hit l f c with
 | none=>rfl
 | some r =>
  obtain⟨Z,D,R⟩:=x2b e;have U:=x1Y R;exact I9q
theorem z0H{rs}(h:(check rs).2=0){c r}(d:hit rs 3 c=some r):r.to≠[]/\r.to.length<=2:=by
 have F:=(x0M.1 h).1;obtain⟨J,I,M⟩:=(x1z F e8N r).1 d;have u:=(x0m.1 F).2.1 r J;rcases fam_three I with e|e
 ·have:=(x0u (x0s u e).2.2).1;exact r8O
 ·have:=(x0u (x2K u e).2.2).1;exact r8O
theorem y9A{rs}(h:(check rs).2=0) c:((rget rs 3 c).to=[]/\opn [] c=opn rs c)\/((rget rs 3 c).to≠[]/\(rget rs 3 c).to=opn rs c/\(rget rs 3 c).to.length<=2):=by
 unfold rget
 cases he:hit rs 3 c with
 | none =>
  refine .inl ⟨rfl,?_⟩;unfold opn;rw[he];rfl
 | some r =>
  obtain⟨Z,D⟩:=z0H h he;refine .inr ⟨Z,?_,D⟩
  have U:syl c=false:=by
   cases U:syl c with
   | false=>rfl
   | true=>rw[z6S h U (.inr rfl)]at he;cases he
  unfold opn;rw[U,he];rfl
theorem z6q{rs}(h:(check rs).2=0) c:(opn rs c).length<=2:=by
 unfold opn;split
 ·split<;>simp
 ·cases he:hit rs 3 c with
  | none=>simp
  | some r=>exact(z0H h he).2
end Cn
theorem z1R k lo hi n ao ln cp a b y w:(Instr.field 67 (.agg #[.int .i64 k,.int .i64 lo,.int .i64 hi,.int .i64 n,.slice ao ln cp,.string a,.string b,.float .f64 y]) 4).run prog w=.ok (.slice ao ln cp) w:=f4x
theorem y0U{B p rs} c w(hg:Glob w)(N:x0o w B p rs)(G:(Cn.check rs).2=0)(I:Rune c):Calls prog 248 #[.pointer (some ⟨p,0,none⟩),.int .i32 c] w (x0j w (Cn.opn rs c)):=by
 have F:=(Cn.x0M.1 G).1;obtain⟨t1,s,v,t4,l,L,i,a2,l2,a3,l3,a4,z,a5,l5,c1,c2,x1,Z,h2,h3⟩:=N;have H:=O (z3Y c w h3.q2 F e8N I);have x5:w.cell? ⟨p,7,none⟩=some a2:=cell_of (j:=7) Z (by show 7<18;exact f6J);have x6:w.cell? ⟨p,8,none⟩=some l2:=cell_of (j:=8) Z (by show 8<18;exact f6J);obtain⟨⟨aa,m,e,-⟩,d,hR,-⟩:=h3.q2;subst e
 obtain⟨a,ai,ae⟩:∃R M,l2=.slice R d.length M:=by
  rcases hR.1.2 with⟨e,h0⟩|⟨g,M,af,e,_⟩
  ·exact⟨_,_,by rw[e,h0]⟩
  ·exact⟨_,_,e⟩
 subst ae;have ab:=O (Cn.y9A G c);have C:=fun W (t:Bw w W)=>O (openC (.slice none 0 0) [] c W (hg.on t) (Rcs.nil W) I);obtain⟨ag,q⟩:=I;generalize Cn.rget rs 3 c=r,Cn.opn rs c=y at *;go_enter func248,ntmps248;go_wp2_with fail;refine(V H).mono ?_;rintro P Q ⟨vt,rfl,X,b1⟩;obtain⟨R,Y,rfl,k,D⟩:=X.sk.shape;have U:=O b1;have A:=X.sk.below b1;have u:=z1R r.kind r.lo r.hi r.n R r.to.length Y r.name r.other r.wt Q;unfold recV;rcases V ab with⟨P,f⟩|⟨P,f,E⟩
 ·have o:=O (V (C Q b1));rw[f]at o;rw[P]at u ⊢;simp only[List.length_nil]at u ⊢;exact f6R
 ·rw[f]at A u P E k ⊢;have o:=O (x2Y _ y Q A f6J);have S:0<y.length:=List.length_pos_iff.2 P;exact f6R
namespace Cn
def Tree(l:List Rec):Nat->Int->List Int->Prop
 | 0,c,ys=>opn l c=[]/\ys=[c]
 | n+1,c,ys=>(opn l c=[]/\ys=[c])\/(opn l c≠[]/\∃yss:List (List Int),yss.length=(opn l c).length/\(∀i,i<(opn l c).length->Tree l n ((opn l c).getD i 0) (yss.getD i []))/\ys=yss.flatten)
theorem y0x{l:List Rec}{f:Nat}{A:List Int}(H:∀d out r,walk l f A d out=(r,0)->∃ys,r=out++ys/\Tree l f d ys):∀(T:List Int) (out r:List Int),T.foldl (stepW l f A) (out,0)=(r,0)->∃M:List (List Int),M.length=T.length/\r=out++M.flatten/\∀i,i<T.length->Tree l f (T.getD i 0) (M.getD i [])
 | [],out,r,h=>by
  have:=(Prod.mk.inj h).1;subst this;exact⟨[],rfl,M7K,fun i hi=>v5E⟩
 | d::T,out,r,h=>by
  rw[List.foldl_cons]at h;have e:stepW l f A (out,0) d=walk l f A d out:=(by simp[stepW]);rw[e]at h;obtain⟨⟨G,P⟩,m⟩:∃q,walk l f A d out=q:=⟨_,rfl⟩;rw[m]at h;by_cases C:P=0
  ·subst C;obtain⟨ys,rfl,Q⟩:=H d out G m;obtain⟨M,S,hr,J⟩:=y0x H T (out++ys) r h;refine⟨ys::M,by simp[S],by rw[hr];exact M7K,fun i hi=>?_⟩
   cases i with
   | zero=>exact Q
   | succ i=>simpa using J i w3z
  ·rw[x1K l f A T (G,P) C]at h;exact absurd (Prod.mk.inj h).2 C
theorem z0Q{l}:∀(f:Nat) (A:List Int) (c:Int) (out r:List Int),walk l f A c out=(r,0)->∃ys,r=out++ys/\Tree l f c ys:=by
 intro f
 induction f with
 | zero =>
  intro A c out r h;by_cases y:opn l c=[]
  ·rw[x0Y y]at h;split at h
   ·grind
   ·exact⟨[c],(Prod.mk.inj h).1.symm,y,rfl⟩
  ·by_cases t:c∈A
   ·rw[x2v y _ t]at h;exact s1y
   ·rw[x7p y t]at h;exact s1y
 | succ f ih =>
  intro A c out r h;by_cases y:opn l c=[]
  ·rw[x0Y y]at h;split at h
   ·exact s1y
   ·exact⟨[c],(Prod.mk.inj h).1.symm,.inl ⟨y,rfl⟩⟩
  ·by_cases t:c∈A
   ·rw[x2v y _ t]at h;exact s1y
   ·rw[x7q y f t]at h;obtain⟨M,S,u,Q⟩:=y0x (fun d out r hd=>ih (A++[c]) d out r hd) _ _ _ h;exact⟨_,u,.inr ⟨y,M,S,Q,rfl⟩⟩
theorem full_tree{l}(h:(check l).2=0) c:Tree l 16 c (full l c).1:=by
 have D:=(leaves h c).1;obtain⟨ys,U,Q⟩:=z0Q (l:=l) 16 [] c [] (full l c).1 (by rw[show walk l 16 [] c []=full l c from rfl];exact Prod.ext rfl D);rw[List.nil_append]at U;rw[U];exact Q
end Cn
structure Grw(w w':World)(x v:Value):Prop where
 g:w.grownBy w' x.ownBlock
 own:∀k,v.ownBlock=some k->x.ownBlock=some k\/w.heap.size<=k
theorem Grw.trans{w w1 w2 x v u}(h:Grw w w1 x v)(D:Grw w1 w2 v u):Grw w w2 x u:=by
 have N:=h.g.size;refine⟨⟨D.g.os.trans h.g.os,D.g.tape.trans h.g.tape,D.g.output.trans h.g.output,Nat.le_trans N D.g.size,fun k G F=>?_⟩,fun k G=>?_⟩
 ·rw[D.g.block k f6J (fun e=>?_),h.g.block k G F];rcases h.own k e.symm with e2|e2
  ·exact F e2.symm
  ·omega
 ·rcases D.own k G with e|e
  ·exact h.own k e
  ·exact .inr f6J
theorem Grw.after{w w1 w2 x v}(Y:Bw w w1)(h:Grw w1 w2 x v):Grw w w2 x v:=by
 have N:=Y.size;refine⟨⟨h.g.os.trans Y.os,h.g.tape.trans Y.tape,h.g.output.trans Y.output,Nat.le_trans N h.g.size,fun k G F=>?_⟩,fun k G=>?_⟩
 ·rw[h.g.block k f6J F,Y.block k G]
 ·rcases h.own k G with e|e
  ·exact .inl e
  ·exact .inr f6J
theorem Grw.refl w x:Grw w w x x:=⟨⟨rfl,rfl,rfl,l0r _,fun _ _ _=>rfl⟩,fun _ h=>.inl h⟩
def AppB(w:World)(B:Nat)(x:Value)(ys:List Int)(e:Ending)(w':World):Prop:=∃v,e=.returned v/\Ok .i32 21 w' B v ys/\Grw w w' x v
def z0Z(w0:World)(p:Nat)(c:Int)(ys:List Int):Prop:=∀(x:Value) (xs:List Int) (w:World),Ok .i32 21 w w0.heap.size x xs->Below w0.heap.size w0 w->xs.length+ys.length<=1000000000->Calls prog 194 #[.pointer (some ⟨p,0,none⟩),x,.int .i32 c] w (AppB w w0.heap.size x (xs++ys))
theorem Sk.one9(w:World) c(I:-2147483648<=c/\c<=2147483647):Sk .i32 (w.alloc (.cells #[.int .i32 c] 21)) (.slice (some ⟨w.heap.size,0,none⟩) 1 1) [c]:=(x9w w w.heap.size (l0r _) c I).sk
theorem y8K:(prog.info? 21).map (fun i=>(i.zero,i.size,i.bytes))=some (some (.int .i32 0),1,4):=f4x
section
variable {B p:Nat} {rs:List Rec} {w0:World}
theorem y0y(C:Glob w0)(N:x0o w0 B p rs)(G:(Cn.check rs).2=0) c(I:Rune c)(ho:Cn.opn rs c=[]):z0Z w0 p c [c]:=by
 intro x L w J A hl;have H:=O (y0U c w (C.on A) (N.below A) G I);rw[ho]at H;obtain⟨i,hi,f,aj,am⟩:=info_parts y8K;have aq:=A.size;have r:=O J;obtain⟨E,Z,v,_,_⟩:=J.sk.shape;subst v;obtain⟨o,q⟩:=I;simp only[List.length_singleton]at hl;go_enter func194,ntmps194;go_wp2_with fail;refine(V H).mono ?_;rintro P w1 ⟨X,rfl,S,b1⟩;obtain⟨R,M,b,_,_⟩:=S.sk.shape;simp only[List.length_nil]at b;subst b;have T:=b1.size;have ag:Ok .i32 21 (w1.alloc (.cells #[.int .i32 c] 21)) w0.heap.size (.slice E L.length Z) L:=((V r).below b1).below ((b0r).alloc (l0r _) _);have ae:(w1.alloc (.cells #[.int .i32 c] 21)).ownsRow w0.heap.size 21 1 (.slice E L.length Z) L.length (L.map (Value.int .i32)):=(by simpa using ag.row);have t:=(Sk.one9 w1 c ⟨o,q⟩).place M7O
 have y:∀j u,[Value.int .i32 c][j]?=some u->(w1.alloc (.cells #[.int .i32 c] 21)).cell? ((⟨w1.heap.size,0,none⟩:Addr).add j)=some u:=by
  intro j u K;obtain⟨F,Q,cq,d,_,_,a⟩:=t;simp only[Value.slice.injEq,Option.some.injEq,Addr.mk.injEq]at d;obtain⟨⟨rfl,rfl,_⟩,_,_⟩:=d
  cases j with
  | zero=>simp at K;subst K;rw[addr_add];exact a 0 M7O
  | succ j=>simp at K
 have ab:=O ae;have Y:=O y;have D:=O ((V r).1);have U:=O b1;have ai:(w1.alloc (.cells #[.int .i32 c] 21)).heap.size=w1.heap.size+1:=M7O;have af:=O ai;go_wp2_with(at_builtin;refine wpList_append_own_at _ rfl (.tmp 16) (.tmp 18) 40 rfl w0.heap.size 21 i (.int .i32 0) 1 4 underlying40 hi f aj am rfl e8P _ _ _ rfl (V ab) ⟨w1.heap.size,0,none⟩ 1 1 [.int .i32 c] rfl rfl (V Y) (fun u W=>by rw[List.mem_singleton]at W;subst W;rfl) T7X f6J (by rw[V af];exact f6J) ?_);intro v2 w2 s m _ l
 have g:AppB w w0.heap.size (.slice E L.length Z) (L++[c]) (.returned v2) w2:=by
  refine⟨v2,rfl,Ok.of (n:=L.length+1) (us:=L.map (Value.int .i32)++[.int .i32 c]) ?_ P8P s M7O M7O,?_⟩
  ·intro z hz;rcases List.mem_append.1 hz with hz|hz
   ·exact V D z hz
   ·rw[List.mem_singleton]at hz;subst hz;exact x0T ⟨o,q⟩
  ·refine Grw.after (w1:=w1.alloc (.cells #[.int .i32 c] 21)) ((V U).alloc T _) ⟨m,fun k G=>?_⟩;rcases l with e|e
   ·exact .inl (e ▸ G)
   ·grind
 have HF:=O g;exact I7o
end
namespace Cn
theorem z2K{rs}(h:(check rs).2=0){c d}(hd:d∈opn rs c):Rune d:=by
 unfold opn at hd;unfold Rune;split at hd
 ·next U =>
  unfold syl at U;have U:=o0d U;split at hd
  ·grind
  ·simp only[List.mem_cons,List.mem_nil_iff,or_false]at hd;rcases hd with rfl|rfl<;>omega
 ·cases he:hit rs 3 c with
  | none=>rw[he]at hd;simp at hd
  | some r =>
   rw[he]at hd;have hd:d∈r.to:=hd;have F:=(x0M.1 h).1;obtain⟨J,I,M⟩:=(x1z F e8M r).1 he;have u:=(x0m.1 F).2.1 r J
   have A:scalar d=true:=by
    rcases fam_three I with e|e
    ·exact(x0u (x0s u e).2.2).2 d hd
    ·exact(x0u (x2K u e).2.2).2 d hd
   have:=x3n A;omega
theorem y0w(M:List (List Int)){k}(G:k<M.length):(M.take (k+1)).flatten=(M.take k).flatten++M.getD k []:=by
 rw[List.take_add_one,List.flatten_append,List.getElem?_eq_getElem G];exact w7Y
theorem z5C(M:List (List Int)){k}(G:k<M.length):((M.take k).flatten).length+(M.getD k []).length<=M.flatten.length:=by
 have Z:=congrArg List.length (y0w M G);rw[List.length_append]at Z;have D:M.flatten=(M.take (k+1)).flatten++(M.drop (k+1)).flatten:=(by rw[<- List.flatten_append,List.take_append_drop]);have R:=congrArg List.length D;rw[List.length_append]at R;omega
end Cn
section
variable {B p:Nat} {rs:List Rec} {w0:World}
theorem y8q(hg:Glob w0)(hD:x0o w0 B p rs)(hk:(Cn.check rs).2=0) c(hc:Rune c)(M:List (List Int))(ho:Cn.opn rs c≠[])(s:M.length=(Cn.opn rs c).length)(ih:∀i,i<(Cn.opn rs c).length->z0Z w0 p ((Cn.opn rs c).getD i 0) (M.getD i [])):z0Z w0 p c M.flatten:=by
 intro x L w J A hl;have K1:=O (y0U c w (hg.on A) (hD.below A) hk hc);have z:=Cn.z6q hk c;have a:=A.size;have r:=O J;have Y:=O A;have ai:=O ih;have F:=fun k (h:k<M.length)=>O (Cn.z5C M h);have P:=fun k (h:k<M.length)=>O (Cn.y0w M h);have n:0<(Cn.opn rs c).length:=List.length_pos_iff.2 ho;obtain⟨xo,Z,v,_,_⟩:=J.sk.shape;have f:Hid (∀k,x.ownBlock=some k->w0.heap.size<=k/\k<w.heap.size):=fun k h=>J.row.lt k h;obtain⟨o,q⟩:=hc;generalize Cn.opn rs c=T at *;subst v;have C:=O s;go_enter func194,ntmps194;go_wp2_with fail;refine(V K1).mono ?_;rintro e1 w1 ⟨v1,rfl,S,b1⟩;obtain⟨G,vo,ay,b,ar,aw,ab⟩:=S.sk.place n
 have aD:w.heap.size<=G:=by
  have:=(S.row.lt G (by rw[b];rfl)).1;exact this
 subst b;have aC:=b1.size;have U:=O b1;have am:=O ab;have D:=O S.1;have aq:=(V r).below b1;have W:=O aq;have R:((T.length:Int)==0)=false:=(by grind);go_wp2;go_loopw[1,9,22] (fun u _ l wr=>∃k:Nat,l=.int .i64 k/\k<=T.length/\Ok .i32 21 wr w0.heap.size u (L++(M.take k).flatten)/\Grw w1 wr (.slice xo L.length Z) u) (fun _ _ l _=>T.length-(intOf l).toNat)
 case atStart=>exact⟨0,rfl,f6J,by simpa using V W,Grw.refl _ _⟩
 case round =>
  obtain⟨k,rfl,aA,X,E⟩:=hrel;have af:=O X;have ae:=O E;by_cases H:k<T.length
  ·have y:wr.cell? ⟨G,vo+k,none⟩=some (.int .i32 (T.getD k 0)):=by
    have h3:=V am k H;refine E.g.cell h3 (fun e=>?_);have:=V f G e.symm;omega
   have aB:Rune (T.getD k 0):=by
    have:=V D (T.getD k 0) N3G;exact⟨this.1,this.2⟩
   have N:Bw w0 wr:=((V Y).trans ((V U).mono a)).grown E.g f6J (fun j hj=>(V f j hj).1);have az:=V (F k (by rw[V C];exact H));have KR:=O (V ai k H u1 (L++(M.take k).flatten) wr X N u7D);have Q:=O (V (P k (by rw[V C];exact H)))
   obtain⟨uo,I,m,t⟩:∃uo I m,u1=.slice uo I m:=i2j
   subst t;generalize T.getD k 0=d at *;go_wp2_with fail;refine(V KR).mono ?_;rintro e3 w3 ⟨v3,rfl,K,g3⟩;rw[List.append_assoc,<- V Q]at K;have aj:=O K;have ag:=O ((V ae).trans g3);go_wp2
   go_roundw
   case rel=>exact⟨k+1,g2A,f6J,V aj,V ag⟩
   case measure=>exact g7T
  ·obtain rfl:k=T.length:=f6J;rw[<- V C,List.take_length]at af;have HF:Hid (AppB w w0.heap.size (.slice xo L.length Z) (L++M.flatten) (.returned u1) wr):=⟨u1,rfl,V af,(V ae).after (V U)⟩
   obtain⟨uo,I,m,t⟩:∃uo I m,u1=.slice uo I m:=i2j
   subst t;exact I7o
theorem x8d(C:Glob w0)(N:x0o w0 B p rs)(G:(Cn.check rs).2=0):∀(n:Nat) {c:Int} {ys:List Int},Cn.Tree rs n c ys->Rune c->z0Z w0 p c ys
 | 0,c,_,⟨y,e⟩,hc=>by rw[e];exact y0y C N G c hc y
 | n+1,c,ys,ht,hc=>by
  rcases ht with⟨y,rfl⟩|⟨y,M,S,h,rfl⟩
  ·exact y0y C N G c hc y
  ·exact y8q C N G c hc M y S (fun i hi=>x8d C N G n (h i hi) (Cn.z2K G (c:=c) n7A))
theorem y8p c w(C:Glob w)(N:x0o w B p rs)(G:(Cn.check rs).2=0)(I:Rune c):Calls prog 148 #[.pointer (some ⟨p,0,none⟩),.int .i32 c] w (x0j w (Cn.full rs c).1):=by
 have s:=(Cn.leaves G c).2.2.1;have K:=O (x8d C N G 16 (Cn.full_tree G c) I (.slice none 0 0) [] w (Ok.nil _ _ _ _) (b0r) P8P);rw[List.nil_append]at K;obtain⟨o,q⟩:=I;generalize(Cn.full rs c).1=y at *;go_enter func148,ntmps148;go_wp2_with fail;refine(V K).mono ?_;rintro P Q ⟨X,rfl,S,J⟩;have T:Hid (x0j w y (.returned X) Q):=⟨X,rfl,S,(Below.refl w.heap.size w).grown J.g (l0r _) (fun k G=>g6z)⟩;exact v8m
end
open Ti
namespace Cn
theorem x2l{rs}(F:(check6 rs).2=0) c:0<=cls rs c/\cls rs c<=254:=by
 unfold cls
 cases he:hit rs 2 c with
 | none=>simp
 | some r =>
  obtain⟨J,I,M⟩:=(x1z F e8N r).1 he;have G:=(y8T I).2.1 rfl;exact y1j ((x0m.1 F).2.1 r J) f6J f6J
end Cn
namespace Cn
def openAll(rs:List Rec)(xs:List Int):List Int:=(xs.map fun c=>(full rs c).1).flatten
theorem y0T rs(xs:List Int){k}(G:k<xs.length):openAll rs (xs.take (k+1))=openAll rs (xs.take k)++(full rs (xs.getD k 0)).1:=by
 unfold openAll;rw[List.take_add_one,List.map_append,List.flatten_append,List.getElem?_eq_getElem G];exact w7Y
theorem x3S{rs}(h:(check rs).2=0) xs:(openAll rs xs).length<=32*xs.length:=by
 unfold openAll
 induction xs with
 | nil=>simp
 | cons c xs ih =>
  have:=(leaves h c).2.2.1;simp only[List.map_cons,List.flatten_cons,List.length_append,List.length_cons];omega
end Cn
theorem y5H(n:Nat) w B(l:B<=w.heap.size)(E:n<=70000):∃W,(Instr.makeSlice 40 (.int .i64 0) (.int .i64 (n:Int))).run prog w=.ok (.slice (some ⟨w.heap.size,0,none⟩) 0 n) W/\Ok .i32 21 W B (.slice (some ⟨w.heap.size,0,none⟩) 0 n) []/\w.grownBy W none:=by
 obtain⟨i,hi,f,A,t⟩:=info_parts y8K;obtain⟨W,Z,D,R⟩:=run_make_own (P:=prog) w B 40 21 i (.int .i32 0) 1 underlying40 hi f A .i64 .i64 n n4Q T7W l;exact E5g
theorem y0V{B p rs} v xs w(hg:Glob w)(hD:x0o w B p rs)(G:(Cn.check rs).2=0)(hx:Sk .i32 w v xs)(aM:xs.length<=65536):Calls prog 96 #[.pointer (some ⟨p,0,none⟩),v] w (x0j w (Cn.openAll rs xs)):=by
 obtain⟨i0,hi,f,aC,t⟩:=info_parts y8K;have r:=O hx;obtain⟨vo,vc,b,aK,aL⟩:=hx.shape;subst b;have T:Hid (∀c W,Rune c->Bw w W->Calls prog 148 #[.pointer (some ⟨p,0,none⟩),.int .i32 c] W (x0j W (Cn.full rs c).1)):=fun c W hc hW=>y8p c W (hg.on hW) (hD.below hW) G hc;have P:=fun k (h:k<xs.length)=>O (Cn.y0T rs xs h);have am:=fun k=>O (Cn.x3S G (xs.take k));have F:=fun c=>O (Cn.leaves G c).2.2.1;have a:=fun c=>O (Cn.leaves G c).2.1;obtain⟨W0,aI,x,g0⟩:=y5H xs.length w w.heap.size (l0r _) f6J;have aw:Bw w W0:=(b0r).grown g0 (l0r _) (fun k G=>by cases G);have ag:=O aw;have aq:=O x;have d:Hid (Cn.openAll rs (xs.take xs.length)=Cn.openAll rs xs):=(by grind);go_enter func96,ntmps96;go_wp2;go_loopw[5,6,12] (fun yy _ l wr=>∃k:Nat,l=.int .i64 k/\k<=xs.length/\Ok .i32 21 wr w.heap.size yy (Cn.openAll rs (xs.take k))/\Bw w wr) (fun _ _ l _=>xs.length-(intOf l).toNat)
 case atStart=>exact⟨0,rfl,f6J,V aq,V ag⟩
 case round =>
  obtain⟨k,rfl,aH,X,Y⟩:=hrel;by_cases H:k<xs.length
  ·obtain⟨bx,ox,aD,E,_,_,Z⟩:=(V r).place f6J;simp only[Value.slice.injEq]at E;obtain⟨rfl,h9,rfl⟩:=E
   have y:wr.cell? ⟨bx,ox+k,none⟩=some (.int .i32 (xs.getD k 0)):=by
    have R:=Z k H;exact I8b
   have N:Rune (xs.getD k 0):=by
    have:=(V r).1 (xs.getD k 0) (by simp[List.getD,H]);exact⟨this.1,this.2⟩
   have o:=O (V T (xs.getD k 0) wr N Y);have Q:=O (V (P k H));have g:=V (am k);rw[List.length_take]at g;have aG:=V (F (xs.getD k 0));have az:=V (a (xs.getD k 0));have aF:=Y.size;have HB:=O Y;have D:=O X;obtain⟨K,I,ae,_,_⟩:=X.sk.shape;subst ae;generalize hzs:Cn.openAll rs (xs.take k)=zs,hfs:(Cn.full rs (xs.getD k 0)).1=M at *;generalize xs.getD k 0=c at *;have aN:zs.length<=2097152:=f6J;go_wp2_with fail;refine(V o).mono ?_;rintro e1 w1 ⟨v1,rfl,S,b1⟩;obtain⟨fb,J,fc,aB,_,_,aA⟩:=S.sk.place az;subst aB
   have q:∀j u,(M.map (Value.int .i32))[j]?=some u->w1.cell? ((⟨fb,J,none⟩:Addr).add j)=some u:=by
    intro j u hu;obtain⟨hj,hu⟩:=List.getElem?_eq_some_iff.1 hu;rw[List.length_map]at hj;rw[addr_add,aA j hj,<- hu];simp[List.getD,hj]
   have L:w1.ownsRow w.heap.size 21 1 (.slice K zs.length I) zs.length (zs.map (Value.int .i32)):=by
    have:=((V D).below b1).row;exact W2O
   have aJ:=b1.size;have ab:=O L;have A:=O q;have aj:=O (V D).1;have ai:=O S.1;have U:=O (x0b (V HB) b1);go_wp2_with(at_builtin;refine wpList_append_own _ rfl (.tmp 15) (.tmp 21) 40 rfl w.heap.size 21 i0 (.int .i32 0) 1 4 underlying40 hi f aC t rfl e8P _ _ _ rfl (V ab) ⟨fb,J,none⟩ M.length fc (M.map (Value.int .i32)) rfl (by simp) (V A) (fun u hu=>P0M) T7X f6J f6J ?_);intro v2 w2 s m _
   have af:Ok .i32 21 w2 w.heap.size v2 (zs++M):=by
    refine Ok.of (n:=zs.length+M.length) (us:=zs.map (Value.int .i32)++M.map (Value.int .i32)) (fun z hz=>?_) P8P s (by simp) (by simp);rcases List.mem_append.1 hz with hz|hz
    ·exact V aj z hz
    ·exact V ai z hz
   have ay:Bw w w2:=(V U).grown m f6J (fun j hj=>((V ab).lt j hj).1);have ar:=O af;have i:=O ay;go_wp2
   go_roundw
   case rel=>exact⟨k+1,g2D,f6J,by rw[V Q];exact V ar,V i⟩
   case measure=>exact g7W
  ·obtain rfl:k=xs.length:=f6J;rw[V d]at X;have C:Hid (x0j w (Cn.openAll rs xs) (.returned u5) wr):=⟨u5,rfl,X,Y⟩
   obtain⟨K,yl,I,ae⟩:∃K yl I,u5=.slice K yl I:=by
    obtain⟨K,I,e,_,_⟩:=X.sk.shape;exact⟨K,_,I,e⟩
   subst ae;go_wp2;go_ret;exact V C
def refN(ns:List Nat):Int:=if ns.any (fun n=>decide (65536<n))then 2 else 0
theorem z0b{A:List Nat}{k}(G:k<A.length):refN (A.drop k)=if 65536<A.getD k 0 then 2 else refN (A.drop (k+1)):=by
 rw[List.drop_eq_getElem_cons G];unfold refN;rw[List.any_cons];have:A.getD k 0=A[k]:=w7Y;rw[this];by_cases h:65536<A[k]
 ·grind
 ·grind
theorem x9G p g n ns w(E:ns.length=n)(S:n<=10)(I:∀i,i<n->∃ao cap,w.cell? ⟨g,i,none⟩=some (.slice ao (ns.getD i 0) cap)/\cap<=9223372036854775807/\ns.getD i 0<=cap):Calls prog 55 #[.pointer (some ⟨p,0,none⟩),.slice (some ⟨g,0,none⟩) n n] w fun e w'=>e=.returned (.int .i64 (refN ns))/\w'=w:=by
 have C:=O I;have T:Hid (∀k,k<n->refN (ns.drop k)=if 65536<ns.getD k 0 then 2 else refN (ns.drop (k+1))):=fun k G=>z0b f6J;obtain⟨D,R⟩:∃r,refN ns=r:=⟨_,rfl⟩;rw[R];have K:Hid (refN (ns.drop 0)=D):=(by grind);have d:Hid (refN (ns.drop n)=0):=(by show _=_;rw[<- E,List.drop_length];rfl);go_enter func55,ntmps55;go_wp2;go_loopw[6,11] (fun _ l wr=>wr=w/\∃k:Nat,l=.int .i64 k/\k<=n/\refN (ns.drop k)=D) (fun _ l _=>n-(intOf l).toNat)
 case atStart=>exact⟨rfl,0,rfl,f6J,V K⟩
 case round =>
  obtain⟨rfl,k,rfl,G,U⟩:=hrel;by_cases H:k<n
  ·have J:=V T k H;rw[U]at J;obtain⟨ao,cap,y,o,q⟩:=V C k H;have u:=O J;generalize ns.getD k 0=m at *;by_cases z:65536<m
   ·have U:=V u;rw[if_pos z]at U;subst U;exact t6z
   ·have U:=V u;rw[if_neg z]at U;have P:=O U;go_wp2
    go_roundw
    case rel=>exact⟨f5X,k+1,g2A,f6J,(V P).symm⟩
    case measure=>exact g7T
  ·obtain rfl:k=n:=f6J;rw[V d]at U;subst U;exact t6z
def SeqE(w:World)(zs:List Int)(er:Int)(e:Ending)(w':World):Prop:=∃v,e=.returned (.tuple #[v,.int .i64 er])/\Ok .i32 21 w' w.heap.size v zs/\Below w.heap.size w w'
theorem one_cell(w:World) ao n cap ty:(w.alloc (.cells #[.slice ao n cap] ty)).cell? ⟨w.heap.size,0,none⟩=some (.slice ao n cap):=f0h
namespace Cn
end Cn
namespace Cn
end Cn
open Ti
namespace Cn
def looks(rs:List Rec)(c:Int):List Int:=if(rget rs 8 c).to=[]then[c]else(rget rs 8 c).to
section
variable {rs:List Rec} {c:Int}
end
end Cn
open Ti
def secB(rs:List Rec)(c:Int):Bool:=(Cn.jv c||Cn.jt c)||decide (0<Cn.secOf rs c)
namespace Cn
end Cn
open Ti
namespace Cn
end Cn
namespace Cn
end Cn
open Ti
open Ti
