/- Lemmas. -/
import Derived.Test.YtkfcabdmkmljjaaGreatDoorH3
import Derived.Shelf.Abstract
import Derived.Lib.Walk
import Derived.Maps.AppendAt
import Derived.Deep.RegionHeld3
set_option maxHeartbeats 4000000
set_option maxRecDepth 8000
namespace Go.Proofs.YtkfcabdmkmljjaaGreatDoor
open Go.Proofs.Tryz
open Go.RowKit
section
variable{p:Prop}
theorem P6N(h:p:=by simpa[List.getD,G]using s):p:=h
theorem T3t(h:p:=by simp[Value.ownBlock]at C;subst C;exact⟨Q,H⟩):p:=h
theorem m2G(h:p:=by go_wp2;go_ret;exact U):p:=h
theorem I2e(h:p:=by have:=h.size;exact f6J):p:=h
theorem P7T(h:p:=by unfold Cn.opn;rw[if_neg L,D]):p:=h
theorem w1L(h:p:=by go_enter func270,ntmps270;go_wp2_with fail;refine c0m K fun Q T=>?_;subst Q;go_wp2;go_ret2;exact⟨rfl,rfl⟩):p:=h
theorem f1i(h:p:=by go_wp2_with fail;refine c0m K fun Q T=>?_;subst Q;go_wp2;go_ret;exact⟨rfl,rfl⟩):p:=h
theorem m6R(h:p:=by have D:=I.2;simp only[Bool.and_eq_true]at D;exact⟨o0d D.1.1.1,D.1.1.2,D.2⟩):p:=h
theorem M7Z(h:p:=by rw[Cn.x2Y n _ o];exact y0E g fa cb rs w0 T m d B c out W p A C f6J n o I R h):p:=h
theorem p1a(h:p:=by go_enter func187,ntmps187;exact t6u):p:=h
theorem m2H(h:p:=by go_wp2;go_ret;exact U):p:=h
theorem G7e(h:p:=by go_enter func142,ntmps142;go_wp2;go_ret;exact⟨rfl,((b0r).alloc (l0r _) _).alloc M7L _⟩):p:=h
theorem W9c(h:p:=by simp[T]):p:=h
theorem U0x(h:p:=by rw[Cn.x1f n];exact y0D g fa cb rs w0 T m B c out W p A C D n I R h):p:=h
theorem f5X(h:p:=by first| rfl | trivial):p:=h
theorem T7c(h:p:=by show 0<3;exact f6J):p:=h
theorem M4F(h:p:=by unfold Cn.syl at L;simpa using L):p:=h
theorem u2p(h:p:=by rw[x0V];exact f6J):p:=h
theorem V6l(h:p:=by
 rcases G with h | h
 ·exact(h.below R).below F
 ·exact h.sk):p:=h
theorem R1L(h:p:=by
 rcases Q with e | e
 ·exact .inl (e ▸ U)
 ·grind):p:=h
theorem r5O(h:p:=by exact(((b0r).alloc (l0r _) _).alloc M7M _).alloc P8P _):p:=h
theorem f2P(h:p:=by show 1<3;exact f6J):p:=h
theorem U4w(h:p:=by show 2<3;exact f6J):p:=h
theorem G9l(h:p:=by rw[beq_eq_false_iff_ne];exact f6J):p:=h
theorem s4Q(h:p:=by exact⟨k+1,g2A,f6J,V c,V U⟩):p:=h
theorem T7d(h:p:=by show 0<3;exact f6J):p:=h
end
def fbR(p:Rec->Bool):Nat->List Rec->Int
 | _,[]=>-1
 | i,r::l=>if p r then(i:Int)else fbR p (i+1) l
theorem z6D{p:Rec->Bool}{rs:List Rec}{k x}(G:k<rs.length)(h:x=fbR p k (rs.drop k))(s:p (rs.getD k Cn.none)=true):x=(k:Int):=by
 rw[h,List.drop_eq_getElem_cons G,fbR,if_pos];exact P6N
theorem z2O{p:Rec->Bool}{rs:List Rec}{k x}(G:k<rs.length)(h:x=fbR p k (rs.drop k))(s:p (rs.getD k Cn.none)=false):x=fbR p (k+1) (rs.drop (k+1)):=by
 rw[h,List.drop_eq_getElem_cons G,fbR,if_neg];have:p rs[k]=false:=P6N;simp[this]
theorem z6C{p:Rec->Bool}{rs:List Rec}{x}(h:x=fbR p rs.length (rs.drop rs.length)):x=-1:=by
 rw[h,List.drop_length,fbR]
theorem y0H:∀args w,(callFunc 192 args).run prog w=.ok (.enter 192 args) w:=f0h
def AsksR(g:Nat)(cap:Array Value)(p:Rec->Bool)(w:World)(rs:List Rec):Prop:=∀(k:Nat) (vt:Value) (W:World),k<rs.length->Below w.heap.size w W->Sk .i32 W vt (rs.getD k Cn.none).to->Calls prog g (#[recV (rs.getD k Cn.none) vt]++cap) W (x0g W (p (rs.getD k Cn.none)))
def RIn(w:World)(v:Value)(rs:List Rec)(W:World):Prop:=Rcs W v rs/\Below w.heap.size w W
theorem RIn.on{w W W' v rs}(h:RIn w v rs W)(Y:Bw W W'):RIn w v rs W':=⟨h.1.below Y,h.2.trans (Y.mono h.2.size)⟩
theorem x7P B C(p:Rec->Bool) v rs w(N:Rcs w v rs)(z:AsksR 192 #[.pointer (some ⟨B,0,none⟩),.pointer (some ⟨C,0,none⟩)] p w rs) :
  Calls prog 179 #[v,.func (.func 192) #[] #[.pointer (some ⟨B,0,none⟩),.pointer (some ⟨C,0,none⟩)]] w (IntB w (fbR p 0 rs)):=by
 have m:=y0H;have L:Hid (RIn w v rs w):=⟨N,b0r⟩;have Q:=O z;have a:Hid (fbR p 0 rs=fbR p 0 (rs.drop 0)):=R6O;have d:=N.1;obtain⟨X,M,rfl,Z,D⟩:=N.shape;generalize hq:fbR p 0 rs=x at *;go_enter func179,ntmps179;go_wp2;go_loopw[5,8] (fun _ i wr=>∃k:Nat,i=.int .i64 k/\k<=rs.length/\x=fbR p k (rs.drop k)/\RIn w (.slice X rs.length M) rs wr) (fun _ i _=>rs.length-(intOf i).toNat)
 case atStart=>exact⟨0,rfl,f6J,V a,V L⟩
 case round =>
  obtain⟨k,rfl,G,u,o⟩:=hrel;by_cases E:k<rs.length
  ·obtain⟨b,P,A,q,l,H,I⟩:=o.1.place f6J;obtain⟨rfl,rfl⟩:X=some ⟨b,P,none⟩/\M=A:=W3O;obtain⟨g,S,x2,K,⟨t,j,s⟩,x5,x6,x7⟩:=I k E;have R:=O (V Q k t wr E o.2 s);have r:Hid (p (rs.getD k Cn.none)=true->x=(k:Int)):=fun h=>z6D E u h;have f:Hid (p (rs.getD k Cn.none)=false->x=fbR p (k+1) (rs.drop (k+1))):=fun h=>z2O E u h;have T:=O o;obtain⟨Y,J,rfl,_,_⟩:=s.shape;clear u o I q s Q;unfold recV at R;generalize p (rs.getD k Cn.none)=y at R r f;generalize(rs.getD k Cn.none).kind=kd,(rs.getD k Cn.none).lo=lo,(rs.getD k Cn.none).hi=hi,(rs.getD k Cn.none).n=n at *;generalize(rs.getD k Cn.none).name=nm,(rs.getD k Cn.none).other=ot,(rs.getD k Cn.none).wt=wt,(rs.getD k Cn.none).to.length=tl at *
   cases y with
   | true =>
    obtain rfl:=V r rfl;go_wp2_with(go_at_fn 192;refine(V R).mono ?_;rintro e w1 ⟨rfl,F⟩);have U:=O ((V T).on F).2;go_ret;exact t8u
   | false =>
    have c:=O (V f rfl);go_wp2_with(go_at_fn 192;refine(V R).mono ?_;rintro e w1 ⟨rfl,F⟩);have U:=O ((V T).on F);go_round
    case rel=>exact s4Q
    case measure=>exact g7T
  ·obtain rfl:k=rs.length:=f6J;obtain rfl:=z6C u;have U:=O o.2;exact t3L
theorem y3X(f c:Int):∀(l:List Rec) (i:Nat),fbR (fun r=>decide (Cn.fam r.kind=f)&&Cn.speaks r c) i l=Cn.findA f c i l
 | [],i=>rfl
 | r::l,i=>by
  rw[fbR,Cn.findA,y3X f c l];by_cases h:Cn.fam r.kind=f/\Cn.speaks r c=true
  ·rw[if_pos h,if_pos (by simp[h.1,h.2])]
  ·rw[if_neg h,if_neg S4r]
theorem y0L{f c:Int}(z:f<0\/10<f):∀(l:List Rec) (i:Nat),Cn.findA f c i l=-1
 | [],i=>rfl
 | r::l,i=>by
  have:=Cn.x6D r.kind;rw[Cn.findA,if_neg (fun a=>f6J),y0L z l]
theorem y3Y{l f c}(z:f<=0\/10<=f):Cn.find l f c=-1:=by
 unfold Cn.find;split
 ·rfl
 ·exact y0L f6J l 0
def FindT:Prop:=∀(v:Value) (rs:List Rec) (f c:Int) (w:World),Glob w->Rcs w v rs->I64 f->(-2147483648<=c/\c<=2147483647)->Calls prog 142 #[v,.int .i64 f,.int .i32 c] w (IntB w (Cn.find rs f c))
theorem x9l:FindT:=by
 intro v rs f c w C P z I;obtain⟨a,s⟩:=z;by_cases N:f<=0
 ·rw[y3Y (.inl N)];exact G7e
 ·by_cases J:10<=f
  ·rw[y3Y (.inr J)];exact G7e
  ·have L:Bw w ((w.alloc (.cells #[.int .i64 f] 3)).alloc (.cells #[.int .i32 c] 21)):=((b0r).alloc (l0r _) _).alloc M7L _;have A:((w.alloc (.cells #[.int .i64 f] 3)).alloc (.cells #[.int .i32 c] 21)).cell? ⟨w.heap.size,0,none⟩=some (.int .i64 f):=f0k;have E:((w.alloc (.cells #[.int .i64 f] 3)).alloc (.cells #[.int .i32 c] 21)).cell? ⟨w.heap.size+1,0,none⟩=some (.int .i32 c):=f0k;have d:=P.below L;have l:=C.on L
   have e:Cn.find rs f c=fbR (fun r=>decide (Cn.fam r.kind=f)&&Cn.speaks r c) 0 rs:=by
    unfold Cn.find;rw[if_neg f6J,y3X]
   rw[e]
   have K:Hid (Calls prog 179 #[v,.func (.func 192) #[] #[.pointer (some ⟨w.heap.size,0,none⟩),.pointer (some ⟨w.heap.size+1,0,none⟩)]] ((w.alloc (.cells #[.int .i64 f] 3)).alloc (.cells #[.int .i32 c] 21)) (IntB ((w.alloc (.cells #[.int .i64 f] 3)).alloc (.cells #[.int .i32 c] 21)) (fbR (fun r=>decide (Cn.fam r.kind=f)&&Cn.speaks r c) 0 rs))) :=
    x7P _ _ _ v rs _ d (fun k t W G R _=>y8J _ t f c _ _ W (P.fit G) (l.on R) (by rw[R.cell (x0a A)];exact A) (by rw[R.cell (x0a E)];exact E) f6J I)
   obtain⟨B,M,rfl,Z,D⟩:=P.shape;generalize fbR (fun r=>decide (Cn.fam r.kind=f)&&Cn.speaks r c) 0 rs=x at *;go_enter func142,ntmps142;go_wp2_with fail;refine c0m K fun Q F=>?_;have U:IntB w x (.returned (.int .i64 x)) Q:=⟨rfl,bthen L F⟩;go_wp2;go_ret;exact U
theorem x3l c a b w:Calls prog 187 #[.int .i32 c,.int .i32 a,.int .i32 b] w fun e w'=>e=.returned (.bool (decide (a<=c/\c<=b)))/\w'=w:=by
 by_cases Z:a<=c
 ·by_cases D:c<=b
  ·rw[d0t ⟨Z,D⟩];exact p1a
  ·rw[d0f (fun h=>D h.2)];exact p1a
 ·rw[d0f (fun h=>Z h.1)];exact p1a
theorem x6R c w:Calls prog 185 #[.int .i32 c] w fun e w'=>e=.returned (.bool (Cn.syl c))/\w'=w:=by
 have K:=O (x3l c 44032 55203 w);have P:decide (44032<=c/\c<=55203)=Cn.syl c:=rfl;rw[P]at K;go_enter func185,ntmps185;exact f1i
theorem y4Q c w(h:44032<=c/\c<=55203):Calls prog 186 #[.int .i32 c] w fun e w'=>e=.returned (.int .i32 ((c-44032)%28))/\w'=w:=by
 obtain⟨Z,D⟩:=h;have P:(c-44032).tmod 28=(c-44032)%28:=Int.tmod_eq_emod_of_nonneg f6J;go_enter func186,ntmps186;exact t6v
def sylA(c:Int):Int:=if(c-44032)%28=0 then 4352+(c-44032) / 588 else c-(c-44032)%28
def sylB(c:Int):Int:=if(c-44032)%28=0 then 4449+(c-44032) / 28%21 else 4519+(c-44032)%28
theorem z1l{rs c}(L:Cn.syl c=true):Cn.opn rs c=[sylA c,sylB c]:=by
 unfold Cn.opn sylA sylB;rw[if_pos L];split<;>rfl
theorem z8b{c}(h:44032<=c/\c<=55203):(0<=sylA c/\sylA c<=100000)/\0<=sylB c/\sylB c<=100000:=by
 unfold sylA sylB;exact G7n
theorem x7h c w(h:44032<=c/\c<=55203):Calls prog 270 #[.int .i32 c] w fun e w'=>e=.returned (.tuple #[.int .i32 (sylA c),.int .i32 (sylB c)])/\w'=w:=by
 have K:=O (y4Q c w h);obtain⟨Z,D⟩:=h;by_cases H:(c-44032)%28=0
 ·have B:sylA c=4352+(c-44032) / 28 / 21:=(by unfold sylA;rw[if_pos H];exact f6J);have C:sylB c=4449+(c-44032) / 28%21:=(by unfold sylB;rw[if_pos H]);rw[B,C];rw[H]at K;have N:(c-44032).tdiv 28=(c-44032) / 28:=Int.tdiv_eq_ediv_of_nonneg f6J;have I:((c-44032) / 28).tmod 21=(c-44032) / 28%21:=Int.tmod_eq_emod_of_nonneg f6J;have U:((c-44032) / 28).tdiv 21=(c-44032) / 28 / 21:=Int.tdiv_eq_ediv_of_nonneg f6J;exact w1L
 ·have B:sylA c=c-(c-44032)%28:=(by unfold sylA;rw[if_neg H]);have C:sylB c=4519+(c-44032)%28:=(by unfold sylB;rw[if_neg H]);rw[B,C];have i:0<(c-44032)%28:=f6J;have A:(c-44032)%28<28:=f6J;exact w1L
theorem fam7:Cn.fam 7=3:=e8M
theorem fam6:Cn.fam 6=2:=e8M
theorem x5x v rs c w(C:Glob w)(N:Rcs w v rs)(I:Rune c):Calls prog 271 #[v,.int .i32 c] w (IntB w (Cn.find rs 3 c)):=by
 have l:=O (x1g 7 w C w5o);rw[fam7]at l;have K:=O (fun W (Y:Bw w W)=>x9l v rs 3 c W (C.on Y) (N.below Y) w5o I);generalize Cn.find rs 3 c=r at *;obtain⟨B,M,rfl,_,_⟩:=N.shape;go_enter func271,ntmps271;go_wp2_with fail;refine c0m l fun Q F=>?_;have j:=O (V K Q F);go_wp2_with fail;refine c0m j fun t H=>?_;have U:IntB w r (.returned (.int .i64 r)) t:=⟨rfl,bthen F H⟩;go_wp2;go_ret;exact U
theorem z9e:z8D:=by
 intro v rs c w C N I;have l:=O (x1g 6 w C w5o);rw[fam6]at l;have K:=O (fun W (Y:Bw w W)=>x9l v rs 2 c W (C.on Y) (N.below Y) w5o I);obtain⟨X,y⟩:=I;rcases hit_at N 2 c with⟨Z,D⟩ | ⟨k,b,P,M,Z,x,D,rfl,S,o,u,z⟩
 ·have E:Cn.cls rs c=0:=N4U;rw[E];rw[Z]at K;obtain⟨B,M,rfl,_,_⟩:=N.shape;go_enter func242,ntmps242;go_wp2_with fail;refine c0m l fun Q F=>?_;have j:=O (V K Q F);go_wp2_with fail;refine c0m j fun t H=>?_;have U:IntB w 0 (.returned (.int .i64 0)) t:=⟨rfl,bthen F H⟩;go_wp2;go_ret;exact U
 ·have E:Cn.cls rs c=(rs.getD k Cn.none).n:=N4U;rw[E];rw[Z]at K;have L:=O u;have d:=N.1;generalize rs.getD k Cn.none=r at *;go_enter func242,ntmps242;go_wp2_with fail;refine c0m l fun Q F=>?_;have j:=O (V K Q F);go_wp2_with fail;refine c0m j fun t H=>?_;have G:=((V L).below (bthen F H)).n;have U:IntB w r.n (.returned (.int .i64 r.n)) t:=⟨rfl,bthen F H⟩;go_wp2;go_ret;exact U
def OpB(w0 w:World)(zs:List Int)(e:Ending)(w':World):Prop:=∃v,e=.returned v/\(Sk .i32 w0 v zs\/Ok .i32 21 w' w.heap.size v zs)/\Below w.heap.size w w'
theorem x8D v rs c w0 w(C:Glob w)(N:Rcs w0 v rs)(m:Bw w0 w)(I:Rune c):Calls prog 240 #[v,.int .i32 c] w (OpB w0 w (Cn.opn rs c)):=by
 have l:=O (x6R c w);by_cases L:Cn.syl c=true
 ·have F:44032<=c/\c<=55203:=M4F;rw[L]at l;rw[z1l L];obtain⟨⟨E,J⟩,G,R⟩:=z8b F;have i:=O (x7h c w F);obtain⟨B,M,rfl,_,_⟩:=N.shape
  have U:OpB w0 w [sylA c,sylB c] (.returned (.slice (some ⟨w.heap.size,0,none⟩) 2 2)) (w.alloc (.cells #[.int .i32 (sylA c),.int .i32 (sylB c)] 21)) :=
   ⟨_,rfl,.inr (ok_two w _ _ f6J f6J),(b0r).alloc (l0r _) _⟩
  go_enter func240,ntmps240;go_wp2_with fail;refine c0m l fun Q T=>?_;subst Q;go_wp2_with fail;refine c0m i fun Q T=>?_;subst Q;go_wp2;go_ret;exact U
 ·have F:Cn.syl c=false:=U9l;rw[F]at l;have K:=O (x5x v rs c w C (N.below m) I);rcases hit_at N 3 c with⟨Z,D⟩ | ⟨k,b,P,M,Z,x,D,rfl,S,o,u,z⟩
  ·have X:Cn.opn rs c=[]:=P7T;rw[X];rw[Z]at K;obtain⟨B,M,rfl,_,_⟩:=N.shape;go_enter func240,ntmps240;go_wp2_with fail;refine c0m l fun Q T=>?_;subst Q;go_wp2_with fail;refine c0m K fun Q Y=>?_;have U:OpB w0 w [] (.returned (.slice none 0 0)) Q:=⟨_,rfl,.inr (Ok.nil _ _ _ _),Y⟩;go_wp2;go_ret;exact U
  ·have X:Cn.opn rs c=(rs.getD k Cn.none).to:=P7T;rw[X];rw[Z]at K;have d:=N.1;obtain⟨t,j,f⟩:=u.to;have A:w.cell? ⟨b,P+k*8+4,none⟩=some t:=(by rw[m.cell (x0a j)];exact j);have a:Hid (∀W,Bw w W->W.cell? ⟨b,P+k*8+4,none⟩=some t):=fun W Y=>(by rw[Y.cell (x0a A)];exact A);have r:=O f;generalize(rs.getD k Cn.none).to=g at *;go_enter func240,ntmps240;go_wp2_with fail;refine c0m l fun Q T=>?_;subst Q;go_wp2_with fail;refine c0m K fun Q Y=>?_;have j:=V a Q Y;have U:OpB w0 w g (.returned t) Q:=⟨_,rfl,.inl (V r),Y⟩;go_wp2;go_ret;exact U
theorem z0R(w:World):(w.alloc (.cells #[] 21)).ownsRow w.heap.size 21 1 (.slice (some ⟨w.heap.size,0,none⟩) 0 0) 0 []:=by
 refine⟨rfl,.inr ⟨w.heap.size,0,#[],rfl,l0r _,?_,l0r _,T7W,rfl,rfl⟩⟩;exact R0n
theorem q0j ad n cap w:(binOp BinOp.eql 36 (.slice (some ad) n cap) (.slice none 0 0)).run prog w=.ok (.bool false) w:=f4x
theorem z7x w:(binOp BinOp.eql 36 (.slice none 0 0) (.slice none 0 0)).run prog w=.ok (.bool true) w:=f4x
theorem x2I v zs w(N:Sk .i32 w v zs)(S:zs.length<=1000000000):Calls prog 148 #[v] w (x0h w zs):=by
 obtain⟨r,hi,d,Y,R⟩:=info_parts Tryz.info21;have s:=N.1;have K:(zs.map (Value.int .i32)).length=zs.length:=List.length_map _;rcases N.2.src with⟨a,rfl⟩ | ⟨C,J,rfl,g⟩
 ·obtain rfl:zs=[]:=(by simpa using a);have U:x0h w [] (.returned (.slice none 0 0)) w:=⟨_,rfl,Ok.nil _ _ _ _,b0r⟩;have y:=z7x;go_enter func148,ntmps148;exact m2I
 ·have D:=O (z0R w);rw[K]
  have B:∀j u,(zs.map (Value.int .i32))[j]?=some u->(w.alloc (.cells #[] 21)).cell? (C.add j)=some u:=by
   intro j u X;have h:=g j u X;have E:(C.add j).block<w.heap.size:=World.block_lt_of_cell? w _ h;exact(Below.cell ((Below.refl w.heap.size w).alloc (l0r _) _) E).trans h
  have x:Bw w (w.alloc (.cells #[] 21)):=(b0r).alloc (l0r _) _;have y:=q0j;go_enter func148,ntmps148;go_wp2_with(at_builtin;refine wpList_append_own _ rfl (.tmp 5) (.tmp 6) 36 rfl w.heap.size 21 r (.int .i32 0) 1 4 underlying36 hi d Y R rfl e8N _ _ _ rfl (V D) C zs.length J (zs.map (Value.int .i32)) rfl M7N B (fun u W=>w8O) T7X f6J M7N ?_);intro A p t i _;have n:Bw w p:=x.grown i x.size (fun k G=>by simp[Value.ownBlock]at G;exact f6J);have U:x0h w zs (.returned A) p:=⟨A,rfl,Ok.of s f6J t M7N M7N,n⟩;exact m2I
theorem z2F{w v rs}(N:Rcs w v rs) c:(Cn.opn rs c).length<=1000000000:=by
 unfold Cn.opn;split
 ·exact f1X
 ·rcases hit_at N 3 c with⟨_,D⟩ | ⟨k,b,P,M,Z,x,D,_,_,_,_,z⟩
  ·rw[D];simp
  ·rw[D];exact z.len
theorem openC:OpenC:=by
 intro v rs c w C N I;have K:=O (x8D v rs c w w C N (b0r) I);have S:=z2F N c;obtain⟨B,M,rfl,_,_⟩:=N.shape;generalize Cn.opn rs c=m at *;go_enter func299,ntmps299;go_wp2_with fail;refine(V K).mono ?_;rintro e Q ⟨a,rfl,G,F⟩
 have L:Sk .i32 Q a m:=by
  rcases G with h | h
  ·exact h.below F
  ·exact h.sk
 have j:=O (x2I a m Q L S);go_wp2_with fail;refine(V j).mono ?_;rintro e t ⟨A,rfl,x,H⟩;have U:x0h w m (.returned A) t:=⟨A,rfl,x.lower F.size,bthen F H⟩;exact m2G
theorem primC:PrimC:=by
 intro v rs c w C N I;have l:=O (x6R c w);by_cases L:Cn.syl c=true
 ·have F:44032<=c/\c<=55203:=M4F;rw[L]at l;have s:Cn.prim rs c=some (sylA c,sylB c):=(by unfold Cn.prim;rw[if_pos L,z1l L];rfl);rw[s];have i:=O (x7h c w F);obtain⟨B,M,rfl,_,_⟩:=N.shape;have U:x6r w (some (sylA c,sylB c)) (.returned (.tuple #[.int .i32 (sylA c),.int .i32 (sylB c),.bool true])) w:=⟨rfl,b0r⟩;go_enter func243,ntmps243;go_wp2_with fail;refine c0m l fun Q T=>?_;subst Q;go_wp2_with fail;refine c0m i fun Q T=>?_;subst Q;go_wp2;go_ret3;exact U
 ·have F:Cn.syl c=false:=(by simpa using L);rw[F]at l;have K:=O (x5x v rs c w C N I);rcases hit_at N 3 c with⟨Z,D⟩ | ⟨k,b,P,M,Z,ae,D,rfl,S,o,u,z⟩
  ·have ho:Cn.prim rs c=none:=V2B;rw[ho];rw[Z]at K;obtain⟨B,M,rfl,_,_⟩:=N.shape;go_enter func243,ntmps243;go_wp2_with fail;refine c0m l fun Q T=>?_;subst Q;go_wp2_with fail;refine c0m K fun Q Y=>?_;have HN:x6r w none (.returned (.tuple #[.int .i32 0,.int .i32 0,.bool false])) Q:=⟨rfl,Y⟩;go_wp2;go_ret3;exact HN
  ·have G:Hid ((rs.getD k Cn.none).kind=7->(rs.getD k Cn.none).to.length=2->Cn.prim rs c=some ((rs.getD k Cn.none).to.getD 0 0,(rs.getD k Cn.none).to.getD 1 0)):=fun a b=>by
    unfold Cn.prim;rw[if_neg L,D];simp only;rw[if_pos ⟨a,b⟩]
   have W:Hid (¬((rs.getD k Cn.none).kind=7/\(rs.getD k Cn.none).to.length=2)->Cn.prim rs c=none):=fun a=>by
    unfold Cn.prim;rw[if_neg L,D];simp only;rw[if_neg a]
   rw[Z]at K;have HR:=O u;have d:=N.1;generalize rs.getD k Cn.none=r,Cn.prim rs c=pr at *;go_enter func243,ntmps243;go_wp2_with fail;refine c0m l fun Q T=>?_;subst Q;go_wp2_with fail;refine c0m K fun Q Y=>?_;have ab:=(V HR).below Y;obtain⟨t,j,f⟩:=ab.to;have x0:=ab.kind;generalize r.to=zs,r.kind=kd at *;obtain⟨A,J,rfl,X,af⟩:=f.shape;have HN:x6r w none (.returned (.tuple #[.int .i32 0,.int .i32 0,.bool false])) Q:=⟨rfl,Y⟩;by_cases x:kd=7
   ·subst x;by_cases R:zs.length=2
    ·obtain rfl:=V G rfl R;obtain⟨y,H,m,he,_,_,g⟩:=f.place f6J;obtain⟨rfl,rfl⟩:A=some ⟨y,H,none⟩/\J=m:=M2T;have y0:=g 0 f6J;have E:=g 1 f6J;rw[Nat.add_zero]at y0;rw[R]at j X;generalize zs.getD 0 0=p,zs.getD 1 0=q at *;exact R3F
    ·obtain rfl:=V W (fun h=>R h.2);have q2:((zs.length:Int) != 2)=true:=P8P;exact F2e
   ·obtain rfl:=V W (fun h=>x h.1);have q7:(kd != 7)=true:=(by simp[x]);exact F2e
theorem y9o v zs c w(N:Sk .i32 w v zs)(S:zs.length<=1000000000):Calls prog 259 #[v,.int .i32 c] w (fun e w'=>∃n:Int,e=.returned (.int .i64 n)/\(0<=n↔c∈zs)/\w'=w):=by
 rcases Nat.eq_zero_or_pos zs.length with h0 | h0
 ·obtain⟨B,M,rfl,_,_⟩:=N.shape;obtain rfl:zs=[]:=List.eq_nil_of_length_eq_zero h0;go_enter func259,ntmps259;go_wp2;refine wp_loop_rounds 1 ?_;rw[rounds_succ];go_wp2;go_ret;exact⟨-1,rfl,M7N,rfl⟩
 ·obtain⟨b,P,M,rfl,l,H,I⟩:=N.place h0;have A:=O I;clear N I;go_enter func259,ntmps259;go_wp2;go_loopw[5,8] (fun _ i wr=>∃k:Nat,i=.int .i64 k/\k<=zs.length/\wr=w/\Hid (∀j,j<k->zs.getD j 0≠c)) (fun _ i _=>zs.length-(intOf i).toNat)
  case atStart=>exact⟨0,rfl,f6J,rfl,fun j X=>f6J⟩
  case round =>
   obtain⟨k,rfl,G,rfl,J⟩:=hrel;by_cases E:k<zs.length
   ·have W:=V A k E;by_cases q:zs.getD k 0=c
    ·have C:Hid (c∈zs):=by
      show c∈zs;rw[<- q];simp[List.getD,E]
     rw[q]at W;have Y:(c==c)=true:=M7N;go_wp2;go_ret;exact⟨k,rfl,⟨fun _=>V C,fun _=>f6J⟩,rfl⟩
    ·have Y:(c==zs.getD k 0)=false:=by
      rw[beq_eq_false_iff_ne];exact fun e=>q e.symm
     have f:Hid (∀j,j<k+1->zs.getD j 0≠c):=fun j X=>by
      rcases Nat.lt_or_ge j k with h | h
      ·exact V J j h
      ·grind
     generalize zs.getD k 0=t at W Y;go_wp2
     go_roundw
     case rel=>exact⟨k+1,g2A,f6J,f5X,f⟩
     case measure=>exact g7T
   ·have C:Hid (¬c∈zs):=fun o=>by
     obtain⟨j,X,e⟩:=List.getElem_of_mem o;exact V J j f6J (by simp[List.getD,X,e])
    go_wp2;go_ret;exact⟨-1,rfl,⟨fun h=>f6J,fun h=>absurd h (V C)⟩,rfl⟩
theorem x2K v zs c w(N:Sk .i32 w v zs)(S:zs.length<=1000000000):Calls prog 217 #[v,.int .i32 c] w (fun e w'=>e=.returned (.bool (decide (c∈zs)))/\w'=w):=by
 have K:=O (y9o v zs c w N S);obtain⟨B,M,rfl,_,_⟩:=N.shape;have A:Hid (c∈zs->decide (c∈zs)=true):=fun h=>d0t h;have f:Hid (¬c∈zs->decide (c∈zs)=false):=fun h=>d0f h;generalize decide (c∈zs)=b at *;go_enter func217,ntmps217;go_wp2_with fail;refine(V K).mono ?_;rintro e Q ⟨n,rfl,F,T⟩;subst Q;by_cases h:0<=n
 ·obtain rfl:=V A (F.1 h);clear F A f;exact t6u
 ·obtain rfl:=V f (fun o=>h (F.2 o));have hd:decide (0<=n)=false:=d0f h;clear F A f;exact t6u
structure Wk(b0:Nat)(W:World)(p:Nat)(fv:Value)(way ends:List Int)(wv ev:Value):Prop where
 blk:W.heap[p]?=some (.cells #[fv,wv,ev] 314 (0,0))
 own:b0<=p
 w:Ok .i32 21 W b0 wv way
 e:Ok .i32 21 W b0 ev ends
 ap:∀g,wv.ownBlock=some g->ev.ownBlock≠some g
structure Frm(W W':World)(p:Nat)(wv ev:Value):Prop where
 os:W'.os=W.os
 tape:W'.tape=W.tape
 output:W'.output=W.output
 size:W.heap.size<=W'.heap.size
 keep:∀g,g<W.heap.size->g≠p->wv.ownBlock≠some g->ev.ownBlock≠some g->W'.heap[g]?=W.heap[g]?
def x0S(W:World)(v v':Value):Prop:=∀g,v'.ownBlock=some g->v.ownBlock=some g\/W.heap.size<=g
theorem x0S.refl W v:x0S W v v:=fun _ h=>.inl h
theorem x0S.trans{W W1 a b c}(h:x0S W a b)(k:x0S W1 b c)(L:W.heap.size<=W1.heap.size):x0S W a c:=fun g C=>by
 rcases k g C with h1 | h1
 ·exact h g h1
 ·exact e5w
theorem x0S.trans_left{W W1 a b}(h:x0S W1 a b)(L:W.heap.size<=W1.heap.size):x0S W a b:=(x0S.refl W a).trans h L
theorem z0f{w B v zs}(h:Ok .i32 21 w B v zs){g}(C:v.ownBlock=some g):∃Q,w.heap[g]?=some (.cells Q 21 (0,0)):=by
 rcases h.2.2.2 with⟨rfl,_⟩ | ⟨k,M,Q,rfl,_,H,_⟩
 ·cases C
 ·exact T3t
theorem Wk.pw{b0 W p fv}{way ends wv ev}(h:Wk b0 W p fv way ends wv ev):wv.ownBlock≠some p/\ev.ownBlock≠some p:=by
 refine⟨fun e=>?_,fun e=>?_⟩
 ·obtain⟨Q,I⟩:=z0f h.w e;rw[h.blk]at I;simp at I
 ·obtain⟨Q,I⟩:=z0f h.e e;rw[h.blk]at I;simp at I
theorem Wk.lt{b0 W p fv}{way ends wv ev}(h:Wk b0 W p fv way ends wv ev):p<W.heap.size:=by
 have:=h.blk;rcases Nat.lt_or_ge p W.heap.size with h1 | h1
 ·exact h1
 ·grind
theorem Wk.below{b0 W W' p fv}{way ends wv ev}(h:Wk b0 W p fv way ends wv ev)(Y:Bw W W'):Wk b0 W' p fv way ends wv ev :=
 ⟨by rw[Y.block p h.lt];exact h.blk,h.own,h.w.below Y,h.e.below Y,h.ap⟩
theorem Frm.below{b0 W W' p fv}{way ends wv ev}(h:Wk b0 W p fv way ends wv ev)(z:Frm W W' p wv ev)(L:b0<=W.heap.size):Below b0 W W' :=
 ⟨z.os,z.tape,z.output,z.size,fun k G=>z.keep k f6J (by have:=h.own;exact f6J) (fun e=>by have:=(h.w.2.2.lt k e).1;exact f6J) (fun e=>by have:=(h.e.2.2.lt k e).1;exact f6J)⟩
theorem Frm.of_below{W W' p wv ev}(Y:Bw W W'):Frm W W' p wv ev:=⟨Y.os,Y.tape,Y.output,Y.size,fun g C _ _ _=>Y.block g C⟩
theorem Frm.trans{W W1 W2 p wv ev wv1 ev1}(h:Frm W W1 p wv ev)(k:Frm W1 W2 p wv1 ev1)(m:x0S W wv wv1)(q:x0S W ev ev1):Frm W W2 p wv ev:=by
 refine⟨k.os.trans h.os,k.tape.trans h.tape,k.output.trans h.output,Nat.le_trans h.size k.size,fun g C Z D J=>?_⟩;rw[k.keep g I2e Z (fun e=>?_) (fun e=>?_),h.keep g C Z D J]
 ·rcases m g e with h4 | h4
  ·exact D h4
  ·omega
 ·rcases q g e with h4 | h4
  ·exact J h4
  ·omega
theorem Wk.taken{b0 W w1 p fv}{way ends wv ev v' o c}(h:Wk b0 W p fv way ends wv ev)(S:ends.length<=40)(I:Rune c)
  (F:w1.ownsRow b0 21 1 v' (ends.length+1) (ends.map (Value.int .i32)++[.int .i32 c])) (C:(W.alloc o).grownBy w1 ev.ownBlock) (Q:v'.ownBlock=ev.ownBlock\/v'.ownBlock=some (W.heap.size+1)) :
  w1.heap[p]?=some (.cells #[fv,wv,ev] 314 (0,0))/\Wk b0 (w1.setCell ⟨p,2,none⟩ v') p fv way (ends++[c]) wv v'/\Frm W (w1.setCell ⟨p,2,none⟩ v') p wv ev/\x0S W ev v':=by
 have s:=h.lt;obtain⟨J,L⟩:=h.pw;have K:∀g,g<W.heap.size->(W.alloc o).heap[g]?=W.heap[g]?:=fun g C=>((Below.refl W.heap.size W).alloc (l0r _) _).block g C
 have M:∀g,g<W.heap.size->ev.ownBlock≠some g->w1.heap[g]?=W.heap[g]?:=fun g Z D=>by
  rw[C.block g P8P (fun e=>D e.symm),K g Z]
 have f:W.heap.size+1<=w1.heap.size:=(by simpa using C.size);have Y:w1.heap[p]?=some (.cells #[fv,wv,ev] 314 (0,0)):=by rw[M p s L];exact h.blk
 have X:x0S W ev v':=fun g U=>R1L
 have A:Ok .i32 21 w1 b0 v' (ends++[c]):=by
  refine Ok.of (h.e.1.snoc (x1j I)) P8P F M7M M7M
 have t:∀g,v'.ownBlock=some g->g≠p:=fun g Z D=>by
  subst D;rcases X g Z with h3 | h3
  ·exact L h3
  ·omega
 refine⟨Y,⟨?_,h.own,?_,?_,?_⟩,?_,X⟩
 ·rw[x0c Y];rfl
 ·refine h.w.keep fun g Z=>?_;have E:=(h.w.2.2.lt g Z).2;rw[x0e _ (fun e=>by subst e;exact J Z),M g E (h.ap g Z)]
 ·refine A.keep fun g Z=>?_;rw[x0e _ (t g Z)]
 ·intro g Z D;rcases X g D with h3 | h3
  ·exact h.ap g Z h3
  ·have:=(h.w.2.2.lt g Z).2;omega
 ·refine⟨?_,?_,?_,u2p,fun g Z D _ H=>by rw[x0e _ D,M g Z H]⟩
  ·have:=(x0b (Below.refl 0 w1) (g:=p) (j:=2) (Nat.zero_le _) v').os;rw[this,C.os];rfl
  ·have:=(x0b (Below.refl 0 w1) (g:=p) (j:=2) (Nat.zero_le _) v').tape;rw[this,C.tape];rfl
  ·have:=(x0b (Below.refl 0 w1) (g:=p) (j:=2) (Nat.zero_le _) v').output;rw[this,C.output];rfl
def Gave(n:Int)(e:Ending):Prop:=e=.panicked [{ v:=.iface 29 (.int .i64 n),recovered:=false }]
def z1W(b0:Nat)(W:World)(p:Nat)(fv:Value)(way ends:List Int)(wv ev:Value)(c:Int)(e:Ending)(W':World):Prop :=
 (32<=ends.length/\Gave 2 e/\W'=W)\/(ends.length<32/\e=.returned (.tuple #[])/\∃ev',Wk b0 W' p fv way (ends++[c]) wv ev'/\Frm W W' p wv ev/\x0S W ev ev')
theorem z4x b0 W p fv way ends wv ev c(h:Wk b0 W p fv way ends wv ev)(f:b0<=W.heap.size)(S:ends.length<=32)(I:Rune c) :
  Calls prog 269 #[.pointer (some ⟨p,0,none⟩),.int .i32 c] W (z1W b0 W p fv way ends wv ev c):=by
 obtain⟨r,hi,d,Y,R⟩:=info_parts Tryz.info21;have P:W.cell? ⟨p,2,none⟩=some ev:=cell_of (j:=2) h.blk U4w;obtain⟨B,M,rfl,_,_⟩:=h.e.sk.shape;by_cases N:ends.length=32
 ·have U:z1W b0 W p fv way ends wv (.slice B ends.length M) c (.panicked [{ v:=.iface 29 (.int .i64 2),recovered:=false }]) W:=.inl ⟨f6J,rfl,rfl⟩;rw[N]at P U;have y:((32:Nat):Int)=32:=rfl;go_enter func269,ntmps269;go_wp2;exact⟨rfl,U⟩
 ·have y:((ends.length:Int)==32)=false:=G9k;have J:∀o,(W.alloc o).ownsRow b0 21 1 (.slice B ends.length M) ends.length (ends.map (Value.int .i32)):=fun o=>h.e.row.alloc o;have D:=O J;have n:=O (fun o v' w1 a b t=>h.taken (o:=o) (v':=v') (w1:=w1) f6J I a b t);have g:ends.length<32:=f6J;go_enter func269,ntmps269;go_wp2_with(at_builtin;refine wpList_append_own_at _ rfl (.tmp 15) (.tmp 17) 36 rfl b0 21 r (.int .i32 0) 1 4 underlying36 hi d Y R rfl e8P _ _ _ rfl (V D _) ⟨W.heap.size,0,none⟩ 1 1 [.int .i32 c] rfl rfl (cell_one_new _ _ _) (x1k _ _) T7X f6J P8P ?_);intro v' w1 C l _ E;obtain⟨F,T,K,G⟩:=V n _ v' w1 C l E;obtain⟨Q,A,rfl,_,_⟩:=T.e.sk.shape;have X:w1.cell? ⟨p,2,none⟩=some (.slice B ends.length M):=cell_of (j:=2) F U4w;have H:=x0d (j:=2) F;have U:z1W b0 W p fv way ends wv (.slice B ends.length M) c (.returned (.tuple #[])) (w1.setCell ⟨p,2,none⟩ (.slice Q (ends++[c]).length A)):=.inr ⟨g,rfl,_,T,K,G⟩;generalize(ends++[c]).length=m at *;go_wp2;go_end0;exact U
def y2a(g:Nat)(fa cb:Array Value)(rs:List Rec)(w0:World):Prop:=∀(c:Int) (W:World),Below w0.heap.size w0 W->Rune c->Calls prog g (fa++#[.int .i32 c]++cb) W (OpB w0 W (Cn.opn rs c))
def x5F(b0:Nat)(W:World)(p:Nat)(fv:Value)(way:List Int)(wv ev:Value)(r:List Int×Int)(e:Ending)(W':World):Prop :=
 Frm W W' p wv ev/\((r.2≠0/\Gave r.2 e)\/(r.2=0/\e=.returned (.tuple #[])/\∃wv' ev',Wk b0 W' p fv way r.1 wv' ev'/\x0S W wv wv'/\x0S W ev ev'))
theorem Wk.down{b0 W w1 p fv}{way ends wv ev v' o c}(h:Wk b0 W p fv way ends wv ev)(S:way.length<=40)(I:Rune c)
  (F:w1.ownsRow b0 21 1 v' (way.length+1) (way.map (Value.int .i32)++[.int .i32 c])) (C:(W.alloc o).grownBy w1 wv.ownBlock) (Q:v'.ownBlock=wv.ownBlock\/v'.ownBlock=some (W.heap.size+1)) :
  w1.heap[p]?=some (.cells #[fv,wv,ev] 314 (0,0))/\Wk b0 (w1.setCell ⟨p,1,none⟩ v') p fv (way++[c]) ends v' ev/\Frm W (w1.setCell ⟨p,1,none⟩ v') p wv ev/\x0S W wv v':=by
 have s:=h.lt;obtain⟨J,L⟩:=h.pw;have K:∀g,g<W.heap.size->(W.alloc o).heap[g]?=W.heap[g]?:=fun g C=>((Below.refl W.heap.size W).alloc (l0r _) _).block g C
 have M:∀g,g<W.heap.size->wv.ownBlock≠some g->w1.heap[g]?=W.heap[g]?:=fun g Z D=>by
  rw[C.block g P8P (fun e=>D e.symm),K g Z]
 have f:W.heap.size+1<=w1.heap.size:=(by simpa using C.size);have Y:w1.heap[p]?=some (.cells #[fv,wv,ev] 314 (0,0)):=by rw[M p s J];exact h.blk
 have X:x0S W wv v':=fun g U=>R1L
 have A:Ok .i32 21 w1 b0 v' (way++[c]):=by
  refine Ok.of (h.w.1.snoc (x1j I)) P8P F M7M M7M
 have t:∀g,v'.ownBlock=some g->g≠p:=fun g Z D=>by
  subst D;rcases X g Z with h3 | h3
  ·exact J h3
  ·omega
 refine⟨Y,⟨?_,h.own,?_,?_,?_⟩,?_,X⟩
 ·rw[x0c Y];rfl
 ·refine A.keep fun g Z=>?_;rw[x0e _ (t g Z)]
 ·refine h.e.keep fun g Z=>?_;have E:=(h.e.2.2.lt g Z).2;rw[x0e _ (fun e=>by subst e;exact L Z),M g E (fun e=>h.ap g e Z)]
 ·intro g Z D;rcases X g Z with h3 | h3
  ·exact h.ap g h3 D
  ·have:=(h.e.2.2.lt g D).2;omega
 ·refine⟨?_,?_,?_,u2p,fun g Z D h3 _=>by rw[x0e _ D,M g Z h3]⟩
  ·have:=(x0b (Below.refl 0 w1) (g:=p) (j:=1) (Nat.zero_le _) v').os;rw[this,C.os];rfl
  ·have:=(x0b (Below.refl 0 w1) (g:=p) (j:=1) (Nat.zero_le _) v').tape;rw[this,C.tape];rfl
  ·have:=(x0b (Below.refl 0 w1) (g:=p) (j:=1) (Nat.zero_le _) v').output;rw[this,C.output];rfl
theorem Wk.up{b0 W p fv}{way ends ev ao len cap}{c}(h:Wk b0 W p fv (way++[c]) ends (.slice ao len cap) ev) :
  Wk b0 (W.setCell ⟨p,1,none⟩ (.slice ao way.length cap)) p fv way ends (.slice ao way.length cap) ev/\Frm W (W.setCell ⟨p,1,none⟩ (.slice ao way.length cap)) p (.slice ao len cap) ev/\x0S W (.slice ao len cap) (.slice ao way.length cap):=by
 obtain⟨J,L⟩:=h.pw
 have r:∀g,(Value.slice ao way.length cap).ownBlock=some g->(Value.slice ao len cap).ownBlock=some g:=fun g C=>by
  cases ao with
  | none=>simp[Value.ownBlock]at C
  | some a=>simpa[Value.ownBlock]using C
 have d:len=way.length+1:=by
  obtain⟨_,_,e,_,_⟩:=h.w.sk.shape;simp at e;omega
 have o:Ok .i32 21 W b0 (.slice ao way.length cap) way:=by
  refine⟨fun z T=>h.w.1 z W9c,by have:=h.w.2.1;simp at this ⊢;exact f6J,?_⟩;have D:=h.w.2.2;refine⟨M7L,?_⟩;rcases D.2 with⟨e,_⟩ | ⟨g,A,Q,e,C,H,F,G,f,U⟩
  ·simp at e;omega
  ·simp only[Value.slice.injEq]at e;obtain⟨rfl,E,rfl⟩:=e;simp only[List.length_map]at *;refine .inr ⟨g,cap,Q,rfl,C,H,by simp at F;exact f6J,G,f,?_⟩;have:=congrArg (List.take (way.length*1)) U;rw[List.take_take,List.map_append,List.take_append_of_le_length M7L]at this;rw[List.take_of_length_le (l:=way.map (Value.int .i32)) M7L]at this;simpa[Nat.min_eq_left (f6J:way.length<=way.length+1)]using this
 refine⟨⟨?_,h.own,?_,?_,?_⟩,?_,fun g C=>.inl (r g C)⟩
 ·rw[x0c h.blk];rfl
 ·refine o.keep fun g Z=>?_;rw[x0e _ (fun e=>by subst e;exact J (r _ Z))]
 ·refine h.e.keep fun g Z=>?_;rw[x0e _ (fun e=>by subst e;exact L Z)]
 ·exact fun g Z=>h.ap g (r g Z)
 ·refine⟨?_,?_,?_,u2p,fun g Z D _ _=>by rw[x0e _ D]⟩
  ·exact(x0b (Below.refl 0 W) (g:=p) (j:=1) (Nat.zero_le _) _).os
  ·simp_all
  ·exact(x0b (Below.refl 0 W) (g:=p) (j:=1) (Nat.zero_le _) _).output
theorem Sk.frm{W W' p wv ev v zs}(h:Sk .i32 W v zs)(z:Frm W W' p wv ev)(F:∀b off len cap,v=.slice (some ⟨b,off,none⟩) len cap->0<len->b≠p/\wv.ownBlock≠some b/\ev.ownBlock≠some b):Sk .i32 W' v zs:=by
 obtain⟨Z,D,J⟩:=h;refine⟨Z,D,?_⟩;rcases J with J | ⟨b,off,cap,N,S,o,I⟩
 ·exact .inl J
 ·refine .inr ⟨b,off,cap,N,S,o,fun i hi=>?_⟩;obtain⟨d,P,f⟩:=F b off _ cap N f6J;have E:=x0a (I i hi);rw[World.cell?_of_block (z.keep b E d P f)];exact I i hi
def z8F(g:Nat)(fa cb:Array Value)(rs:List Rec)(w0:World)(f:Nat):Prop:=∀(way:List Int) (c:Int) (out:List Int) (W:World) (p:Nat) (wv ev:Value),way.length+f=16->out.length<=32->Rune c->Below w0.heap.size w0 W ->
 Wk w0.heap.size W p (.func (.func g) fa cb) way out wv ev->Calls prog 239 #[.pointer (some ⟨p,0,none⟩),.int .i32 c] W (x5F w0.heap.size W p (.func (.func g) fa cb) way wv ev (Cn.walk rs f way c out))
theorem OpB.apart{w0 W W1 p fv way ends}{wv ev vt zs}(h:Wk w0.heap.size W p fv way ends wv ev)(hk:Sk .i32 w0 vt zs\/Ok .i32 21 W1 W.heap.size vt zs) :
  ∀b off len cap,vt=.slice (some ⟨b,off,none⟩) len cap->0<len->b≠p/\wv.ownBlock≠some b/\ev.ownBlock≠some b:=by
 intro b off len cap e S;have s:=h.lt;have X:=h.own;have m:∀g,wv.ownBlock=some g->w0.heap.size<=g/\g<W.heap.size:=fun g C=>h.w.2.2.lt g C;have q:∀g,ev.ownBlock=some g->w0.heap.size<=g/\g<W.heap.size:=fun g C=>h.e.2.2.lt g C
 have Y:b<w0.heap.size\/W.heap.size<=b:=by
  rcases hk with hk | hk
  ·left;subst e
   have T:0<zs.length:=by
    obtain⟨_,_,e,_,_⟩:=hk.shape;simp at e;omega
   obtain⟨f,R,A,e,_,_,I⟩:=hk.place T;simp at e;have:=x0a (I 0 T);omega
  ·right;exact(hk.2.2.lt b (by subst e;rfl)).1
 refine⟨f6J,fun e=>?_,fun e=>?_⟩
 ·have:=m b e;omega
 ·have:=q b e;omega
theorem y0D g fa cb rs w0(T:y2a g fa cb rs w0)(m:∀args w,(callFunc g args).run prog w=.ok (.enter g args) w) way c out W p wv ev(D:out.length<=32)(n:Cn.opn rs c=[])(I:Rune c)(R:Bw w0 W)(h:Wk w0.heap.size W p (.func (.func g) fa cb) way out wv ev) :
  Calls prog 239 #[.pointer (some ⟨p,0,none⟩),.int .i32 c] W (x5F w0.heap.size W p (.func (.func g) fa cb) way wv ev (if 32<=out.length then([],2)else(out++[c],0))):=by
 have K:=O (T c W R I);have J:W.cell? ⟨p,0,none⟩=some (.func (.func g) fa cb):=cell_of (j:=0) h.blk T7b;rw[n]at K;have C:Hid (∀d,Bw W d->Calls prog 269 #[.pointer (some ⟨p,0,none⟩),.int .i32 c] d (z1W w0.heap.size d p (.func (.func g) fa cb) way out wv ev c)):=fun d Y=>z4x _ d p _ way out wv ev c (h.below Y) (by have:=R.size;have:=Y.size;exact f6J) D I;have S:Hid (32<=out.length->(if 32<=out.length then(([]:List Int),(2:Int))else(out++[c],0))=([],2)):=fun h=>if_pos h;have y:Hid (out.length<32->(if 32<=out.length then(([]:List Int),(2:Int))else(out++[c],0))=(out++[c],0)):=fun h=>if_neg f6J;generalize(if 32<=out.length then(([]:List Int),(2:Int))else(out++[c],0))=r at *;go_enter func239,ntmps239;go_wp2_with fail;refine(V K).mono ?_;rintro P d ⟨t,rfl,G,F⟩
 have L:Sk .i32 d t []:=V6l
 obtain⟨B,M,rfl,_,_⟩:=L.shape;have l:=O (V C d F);have F0:Hid (Frm W d p wv ev):=Frm.of_below F;go_wp2_with fail;refine(V l).mono ?_;rintro E x (⟨N,rfl,rfl⟩ | ⟨N,rfl,H,s,A,q⟩)
 ·obtain rfl:=V S N;have U:x5F w0.heap.size W p (.func (.func g) fa cb) way wv ev ([],2) (.panicked [{ v:=.iface 29 (.int .i64 2),recovered:=false }]) x:=⟨V F0,.inl ⟨e8N,rfl⟩⟩;go_wp2;exact⟨rfl,U⟩
 ·obtain rfl:=V y N
  have U:x5F w0.heap.size W p (.func (.func g) fa cb) way wv ev (out++[c],0) (.returned (.tuple #[])) x :=
   ⟨(V F0).trans A (x0S.refl _ _) (x0S.refl _ _),.inr ⟨rfl,rfl,wv,H,s,x0S.refl _ _,q.trans_left (V F0).size⟩⟩
  go_wp2;refine bodyPost_ret (results_none rfl _ _ _) rfl ?_;exact U
theorem y0E g fa cb rs w0(T:y2a g fa cb rs w0)(m:∀args w,(callFunc g args).run prog w=.ok (.enter g args) w)(d:∀c,(Cn.opn rs c).length<=1000000000) way c out W p wv ev(N:way.length<=16)(n:Cn.opn rs c≠[])(o:c∈way)(I:Rune c)(R:Bw w0 W)(h:Wk w0.heap.size W p (.func (.func g) fa cb) way out wv ev) :
  Calls prog 239 #[.pointer (some ⟨p,0,none⟩),.int .i32 c] W (x5F w0.heap.size W p (.func (.func g) fa cb) way wv ev ([],72)):=by
 have K:=O (T c W R I);have a:W.cell? ⟨p,0,none⟩=some (.func (.func g) fa cb):=cell_of (j:=0) h.blk T7c;have S:=d c;have t:0<(Cn.opn rs c).length:=List.length_pos_iff.2 n;have E:=O (fun W1 vt G=>OpB.apart (W1:=W1) (vt:=vt) (zs:=Cn.opn rs c) h G);have Q:=O (fun W1 (Y:Bw W W1)=>h.below Y);have B:=h.w.sk.shape;generalize Cn.opn rs c=zs at *;have M:((zs.length:Int)==0)=false:=(by grind);go_enter func239,ntmps239;go_wp2_with fail;refine(V K).mono ?_;rintro P W1 ⟨vt,rfl,G,F⟩
 have L:Sk .i32 W1 vt zs:=V6l
 have D:=V E W1 vt G;have Z:=V Q W1 F;have F0:Hid (Frm W W1 p wv ev):=Frm.of_below F;have z:Bw w0 W1:=R.trans (F.mono R.size);obtain⟨A,J,rfl,_,_⟩:=L.shape;obtain⟨H,C,rfl,_,_⟩:=B;have f:W1.cell? ⟨p,1,none⟩=some (.slice H way.length C):=cell_of (j:=1) Z.blk f2O;have b:=O (x2K _ way c W1 Z.w.sk f6J);rw[d0t o]at b;have U:x5F w0.heap.size W p (.func (.func g) fa cb) way (.slice H way.length C) ev ([],72) (.panicked [{ v:=.iface 29 (.int .i64 72),recovered:=false }]) W1:=⟨V F0,.inl ⟨e8N,rfl⟩⟩;go_wp2_with fail;refine c0m b fun x s=>?_;subst s;go_wp2;exact⟨rfl,U⟩
theorem y8q g fa cb rs w0(T:y2a g fa cb rs w0)(m:∀args w,(callFunc g args).run prog w=.ok (.enter g args) w)(d:∀c,(Cn.opn rs c).length<=1000000000) way c out W p wv ev(N:way.length=16)(n:Cn.opn rs c≠[])(o:¬c∈way)(I:Rune c)(R:Bw w0 W)(h:Wk w0.heap.size W p (.func (.func g) fa cb) way out wv ev) :
  Calls prog 239 #[.pointer (some ⟨p,0,none⟩),.int .i32 c] W (x5F w0.heap.size W p (.func (.func g) fa cb) way wv ev ([],73)):=by
 have K:=O (T c W R I);have f:W.cell? ⟨p,0,none⟩=some (.func (.func g) fa cb):=cell_of (j:=0) h.blk T7c;have a:=d c;have t:0<(Cn.opn rs c).length:=List.length_pos_iff.2 n;have E:=O (fun W1 vt G=>OpB.apart (W1:=W1) (vt:=vt) (zs:=Cn.opn rs c) h G);have Q:=O (fun W1 (Y:Bw W W1)=>h.below Y);have B:=h.w.sk.shape;generalize Cn.opn rs c=zs at *;have M:((zs.length:Int)==0)=false:=(by grind);go_enter func239,ntmps239;go_wp2_with fail;refine(V K).mono ?_;rintro P W1 ⟨vt,rfl,G,F⟩
 have L:Sk .i32 W1 vt zs:=V6l
 have D:=V E W1 vt G;have Z:=V Q W1 F;have F0:Hid (Frm W W1 p wv ev):=Frm.of_below F;have z:Bw w0 W1:=R.trans (F.mono R.size);obtain⟨A,J,rfl,_,_⟩:=L.shape;obtain⟨H,C,rfl,_,_⟩:=B;have S:W1.cell? ⟨p,1,none⟩=some (.slice H way.length C):=cell_of (j:=1) Z.blk f2O;have b:=O (x2K _ way c W1 Z.w.sk f6J);rw[d0f o]at b;have U:x5F w0.heap.size W p (.func (.func g) fa cb) way (.slice H way.length C) ev ([],73) (.panicked [{ v:=.iface 29 (.int .i64 73),recovered:=false }]) W1:=⟨V F0,.inl ⟨e8N,rfl⟩⟩;rw[N]at b S U;go_wp2_with fail;refine c0m b fun x s=>?_;subst s;go_wp2;exact⟨rfl,U⟩
theorem Sk.cellAt{K w b off len cap zs}(h:Sk K w (.slice (some ⟨b,off,none⟩) len cap) zs){i}(hi:i<zs.length):w.cell? ⟨b,off+i,none⟩=some (.int K (zs.getD i 0)):=by
 obtain⟨f,R,A,e,_,_,I⟩:=h.place f6J;simp only[Value.slice.injEq,Option.some.injEq,Addr.mk.injEq,and_true]at e;obtain⟨⟨rfl,rfl⟩,_,_⟩:=e;exact I i hi
theorem z6q g fa cb rs w0(hO:y2a g fa cb rs w0)(eg:∀args w,(callFunc g args).run prog w=.ok (.enter g args) w)(d:∀c,(Cn.opn rs c).length<=1000000000) way c out W p wv ev f(ih:z8F g fa cb rs w0 f)(bw:way.length+f+1=16)(aT:out.length<=32)(aU:Cn.opn rs c≠[])(aO:¬c∈way)(hc:Rune c)(hW:Bw w0 W)(h:Wk w0.heap.size W p (.func (.func g) fa cb) way out wv ev) :
  Calls prog 239 #[.pointer (some ⟨p,0,none⟩),.int .i32 c] W (x5F w0.heap.size W p (.func (.func g) fa cb) way wv ev ((Cn.opn rs c).foldl (Cn.stepW rs f (way++[c])) (out,0))):=by
 have K:=O (hO c W hW hc);have x0:W.cell? ⟨p,0,none⟩=some (.func (.func g) fa cb):=cell_of (j:=0) h.blk T7d;obtain⟨i0,hi,aY,aZ,ba⟩:=info_parts Tryz.info21;have U:Hid (∀x o,o.length<=32->(Cn.walk rs f (way++[c]) x o).1.length<=32):=fun x o ho=>Cn.y0l rs f (way++[c]) x o ho;have aj:Hid (∀(X:List Int) (o:List Int) (k:Nat),k<X.length->(X.drop k).foldl (Cn.stepW rs f (way++[c])) (o,0)=(X.drop (k+1)).foldl (Cn.stepW rs f (way++[c])) (Cn.walk rs f (way++[c]) (X.getD k 0) o)):=fun X o k G=>Cn.x6G G;have af:Hid (∀(X:List Int) (s:List Int×Int),s.2≠0->X.foldl (Cn.stepW rs f (way++[c])) s=s):=Cn.x1I rs f (way++[c]);have IH:=O ih;have hl:=d c;have aS:0<(Cn.opn rs c).length:=List.length_pos_iff.2 aU;have HA:=O (fun W1 vt G=>OpB.apart (W1:=W1) (vt:=vt) (zs:=Cn.opn rs c) h G);have Q:=O (fun W1 (Y:Bw W W1)=>h.below Y);have aX:=h.w.sk.shape;generalize Cn.opn rs c=zs at *;have bt:((zs.length:Int)==0)=false:=G9l;obtain⟨r,u⟩:∃r,zs.foldl (Cn.stepW rs f (way++[c])) (out,0)=r:=⟨_,rfl⟩;rw[u];have L:=O u;go_enter func239,ntmps239;go_wp2_with fail;refine(V K).mono ?_;rintro e1 W1 ⟨vt,rfl,G,F⟩
 have hs:Sk .i32 W1 vt zs:=by
  rcases G with h | h
  ·exact(h.below hW).below F
  ·exact h.sk
 have aK:=V HA W1 vt G;have Z:=V Q W1 F;have F0:Hid (Frm W W1 p wv ev):=Frm.of_below F;have z:Bw w0 W1:=hW.trans (F.mono hW.size);obtain⟨tb,bn,bm,rfl,_,_,_⟩:=hs.place aS;obtain⟨H,C,rfl,_,_⟩:=aX;have x1:W1.cell? ⟨p,1,none⟩=some (.slice H way.length C):=cell_of (j:=1) Z.blk f2P;have KC:=O (x2K _ way c W1 Z.w.sk f6J);rw[d0f aO]at KC;have bj:((way.length:Int)==16)=false:=G9l;have aC:∀o,(W1.alloc o).ownsRow w0.heap.size 21 1 (.slice H way.length C) way.length (way.map (Value.int .i32)):=fun o=>Z.w.row.alloc o;have D:=O aC;have HD:=O (fun o v' w1 a b c'=>Z.down (o:=o) (v':=v') (w1:=w1) (c:=c) f6J hc a b c');have HS:=O (fun W' p' ae ab (hf:Frm W1 W' p' ae ab) hn=>hs.frm (p:=p') (wv:=ae) (ev:=ab) hf hn);have aH:=O aK;have aV:=z.size;have aJ:=O z;have bh:=hs.1;have H1:=O Z;have aI:=O (fun k G=>x0R hs (i:=k) G);go_wp2_with fail;refine c0m KC fun W2 bu=>?_;subst W2;go_wp2_with(at_builtin;refine wpList_append_own_at _ rfl (.tmp 40) (.tmp 42) 36 rfl w0.heap.size 21 i0 (.int .i32 0) 1 4 underlying36 hi aY aZ ba rfl e8Q _ _ _ rfl (V D _) ⟨W1.heap.size,0,none⟩ 1 1 [.int .i32 c] rfl rfl (cell_one_new _ _ _) (x1k _ _) T7X f6J P8P ?_);intro v' w1 am l _ az;obtain⟨F,aD,aN,aQ⟩:=V HD _ v' w1 am l az;have hm:(way++[c]).length=way.length+1:=M7N;obtain⟨bp,be,P,_,_⟩:=aD.w.sk.shape;rw[hm]at P;subst P;have y1:w1.cell? ⟨p,1,none⟩=some (.slice H way.length C):=cell_of (j:=1) F f2P;have yf:=x0d (j:=1) F;have Q:=O aD;have m:=O aN;have N:=O aQ;go_wp2;go_loopw[6,48] (fun _ i wr=>∃(k:Nat) (o:List Int) (ae ab:Value),i=.int .i64 k/\k<=zs.length/\o.length<=32/\Hid ((zs.drop k).foldl (Cn.stepW rs f (way++[c])) (o,0)=r)/\Hid (Wk w0.heap.size wr p (.func (.func g) fa cb) (way++[c]) o ae ab)/\Hid (Frm W1 wr p (.slice H way.length C) ev)/\Hid (x0S W1 (.slice H way.length C) ae)/\Hid (x0S W1 ev ab)) (fun _ i _=>zs.length-(intOf i).toNat)
 case atStart=>exact⟨0,out,_,ev,rfl,f6J,aT,L,Q,m,N,x0S.refl _ _⟩
 case round =>
  obtain⟨k,o,ae,ab,rfl,G,ho,L,Q,m,N,ag⟩:=hrel;by_cases E:k<zs.length
  ·have a0:=(V HS wr p (.slice H way.length C) ev (V m) (V aH)).cellAt E;have aW:=V aj zs o k E;have aG:=(V af);have A:=(V Q);have aL:Bw w0 wr:=(V aJ).trans ((V m).below (V H1) aV);have KD:=O (V IH (way++[c]) (zs.getD k 0) o wr p ae ab P8P ho (V aI k E) aL A);have B:=V U (zs.getD k 0) o ho;have I:Hid ((zs.drop (k+1)).foldl (Cn.stepW rs f (way++[c])) (Cn.walk rs f (way++[c]) (zs.getD k 0) o)=r):=aW ▸ (V L);have ai:=(V m).size;generalize Cn.walk rs f (way++[c]) (zs.getD k 0) o=q at *;generalize zs.getD k 0=x at *;go_wp2_with fail;refine(V KD).mono ?_;rintro e3 w3 ⟨aA,⟨y,aB⟩ | ⟨y,rfl,aF,aw,M,aR,aP⟩⟩
   ·have u:q=r:=(V af _ q y).symm.trans (V I);subst u;unfold Gave at aB;subst aB
    have HF:x5F w0.heap.size W p (.func (.func g) fa cb) way (.slice H way.length C) ev q (.panicked [{ v:=.iface 29 (.int .i64 q.2),recovered:=false }]) w3 :=
     ⟨(V F0).trans ((V m).trans aA (V N) (V ag)) (x0S.refl _ _) (x0S.refl _ _),.inl ⟨y,rfl⟩⟩
    go_wp2;exact⟨rfl,HF⟩
   ·obtain⟨q1,q2⟩:=q;simp only at y B M;subst y;have ar:=O M;have J:Hid (Frm W1 w3 p (.slice H way.length C) ev):=(V m).trans aA (V N) (V ag);have aq:Hid (x0S W1 (.slice H way.length C) aF):=(V N).trans aR ai;have R:Hid (x0S W1 ev aw):=(V ag).trans aP ai;go_wp2
    go_roundw
    case rel=>exact⟨k+1,q1,aF,aw,g2D,f6J,B,I,ar,J,aq,R⟩
    case measure=>exact g7W
  ·obtain rfl:k=zs.length:=by omega
   have u:r=(o,0):=by
    have:=V L;rw[List.drop_length]at this;exact this.symm
   subst u;have A:=V Q;obtain⟨T,S,rfl,_,_⟩:=A.w.sk.shape
   have t:Hid (∀n,x5F w0.heap.size W p (.func (.func g) fa cb) way (.slice H way.length C) ev (o,0) (.returned (.tuple #[])) ((wr.drewN n).setCell ⟨p,1,none⟩ (.slice T way.length S))):=fun n=>by
    have Y:=x0i (w:=wr) ⟨n,rfl⟩;obtain⟨u1,u2,u3⟩:=(A.below Y).up;have g1:Frm W1 (wr.drewN n) p (.slice H way.length C) ev:=(V m).trans (Frm.of_below Y) (V N) (V ag);have s1:=(V m).size;have s2:=Y.size;have s0:=(V F0).size;refine⟨(V F0).trans (g1.trans u2 (V N) (V ag)) (x0S.refl _ _) (x0S.refl _ _),.inr ⟨rfl,rfl,_,ab,u1,?_,?_⟩⟩
    ·exact((V N).trans u3 f6J).trans_left s0
    ·exact(V ag).trans_left s0
   have y1:wr.cell? ⟨p,1,none⟩=some (.slice T (way++[c]).length S):=cell_of (j:=1) A.blk f2P;have yf:=x0d (j:=1) A.blk
   have aM:way.length+1<=S:=by
    obtain⟨_,_,e,h5,_⟩:=A.w.sk.shape;simp at e h5;omega
   rw[(M7N:(way++[c]).length=way.length+1)]at y1;go_wp2;go_region;go_wp2;go_end0;exact V t _
theorem z2I g fa cb rs w0(T:y2a g fa cb rs w0)(m:∀args w,(callFunc g args).run prog w=.ok (.enter g args) w)(d:∀c,(Cn.opn rs c).length<=1000000000):∀f,z8F g fa cb rs w0 f:=by
 intro f
 induction f with
 | zero =>
  intro B c out W p A C z D I R h;by_cases n:Cn.opn rs c=[]
  ·exact U0x
  ·by_cases o:c∈B
   ·exact M7Z
   ·rw[Cn.x7E n o];exact y8q g fa cb rs w0 T m d B c out W p A C f6J n o I R h
 | succ f ih =>
  intro B c out W p A C z D I R h;by_cases n:Cn.opn rs c=[]
  ·exact U0x
  ·by_cases o:c∈B
   ·exact M7Z
   ·rw[Cn.x7F n f o];exact z6q g fa cb rs w0 T m d B c out W p A C f ih f6J D n o I R h
end Go.Proofs.YtkfcabdmkmljjaaGreatDoor
namespace Go.Proofs.YtkfcabdmkmljjaaGreatDoor.Cn
open Go.Proofs.Tryz
theorem x1v{p:Prop}[Decidable p](h:(if p then(0:Int)else 61)=0):p:=by grind
theorem x0x{r}(h:right r=0):fam r.kind≠0:=fun e=>by
 unfold right at h;rw[if_pos e]at h;exact absurd h e8M
theorem x0p{r}(h:right r=0)(G:r.kind≠15):0<=r.lo/\r.lo<=r.hi/\r.hi<=1114111:=by
 have z:=x0x h;unfold right at h;rw[if_neg z,if_neg G]at h;have I:=x1v h;rw[Bool.and_eq_true]at I;exact o0d I.1
theorem right_step{r}(h:right r=0):1<=step r/\step r<=64:=by
 unfold step;by_cases H:r.kind=4
 ·rw[if_pos H];have z:=x0x h;unfold right at h;rw[if_neg z,if_neg f6J]at h;have I:=x1v h;rw[Bool.and_eq_true,if_neg f6J,if_neg f6J,if_pos H]at I;have D:=I.2;simp only[Bool.and_eq_true]at D;have:=o0d D.1.1.2;omega
 ·rw[if_neg H];omega
theorem x0v{x a b}(h:list x a b=true):(a<=x.length/\x.length<=b)/\∀c∈x,scalar c=true:=by
 unfold list at h;rw[Bool.and_eq_true]at h;exact⟨o0d h.1,List.all_eq_true.1 h.2⟩
theorem x0C{r}(h:right r=0)(x:r.kind=7):r.lo=r.hi/\scalar r.lo=true/\list r.to 2 2=true:=by
 have z:=x0x h;unfold right at h;rw[if_neg z,if_neg f6J]at h;have I:=x1v h;rw[Bool.and_eq_true,if_neg f6J,if_neg f6J,if_neg f6J,if_neg f6J,if_neg f6J,if_neg f6J,if_pos x]at I;exact m6R
theorem x2u{r}(h:right r=0)(n:r.kind=8):r.lo=r.hi/\scalar r.lo=true/\list r.to 1 2=true:=by
 have z:=x0x h;unfold right at h;rw[if_neg z,if_neg f6J]at h;have I:=x1v h;rw[Bool.and_eq_true,if_neg f6J,if_neg f6J,if_neg f6J,if_neg f6J,if_neg f6J,if_neg f6J,if_neg f6J,if_pos n]at I;exact m6R
theorem x5a:∀(l:List Rec) (i:Nat),x0X i l=Option.none->∀r∈l,right r=0
 | [],_,_=>fun r hr=>by cases hr
 | x::l,i,h=>fun r hr=>by
  rw[x0X]at h;split at h
  ·next hx =>
   rcases List.mem_cons.1 hr with rfl | hr
   ·exact hx
   ·exact x5a l (i+1) h r hr
  ·cases h
theorem x2g:∀(l:List Rec) (i:Nat) (x:Nat×Int),x0X i l=some x->x.2≠0
 | [],_,_,h=>by rw[x0X]at h;exact m5j
 | y::l,i,x,h=>by
  rw[x0X]at h;split at h
  ·exact x2g l (i+1) x h
  ·next hx=>cases h;exact hx
theorem x1H{l}(h:(check6 l).2=0):l.length<=4096/\∀r∈l,right r=0:=by
 unfold check6 at h;split at h
 ·exact absurd h e8N
 ·next hl =>
  refine⟨f6J,?_⟩;split at h
  ·next x hx=>exact absurd h (x2g _ _ _ hx)
  ·next hx=>exact x5a _ _ hx
end Go.Proofs.YtkfcabdmkmljjaaGreatDoor.Cn
