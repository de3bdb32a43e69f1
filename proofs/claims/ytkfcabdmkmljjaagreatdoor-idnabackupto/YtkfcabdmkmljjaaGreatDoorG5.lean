/- Lemmas. -/
import Derived.Test.YtkfcabdmkmljjaaGreatDoorG3
import Derived.Shelf.Abstract
import Derived.Lib.Walk
import Derived.Maps.AppendAt
import Derived.Deep.RegionHeld3
set_option maxHeartbeats 4000000
set_option maxRecDepth 8000
namespace Go.Proofs.YtkfcabdmkmljjaaGreatDoor
open Go.Proofs.Tryz
open Go.RowKit
section
variable{p:Prop}
theorem P6N(h:p:=by simpa[List.getD,G]using s):p:=h
theorem G3o(h:p:=by simp[Value.ownBlock]at C;subst C;exact⟨P,H⟩):p:=h
theorem m2G(h:p:=by go_wp2;go_ret;exact U):p:=h
theorem I2e(h:p:=by have:=h.size;exact f6J):p:=h
theorem P7T(h:p:=by unfold Cn.opn;rw[if_neg L,D]):p:=h
theorem U7d(h:p:=by go_enter func270,ntmps270;go_wp2_with fail;refine c0m K fun Q l=>?_;subst Q;go_wp2;go_ret2;exact⟨rfl,rfl⟩):p:=h
theorem r7U(h:p:=by go_wp2_with fail;refine c0m K fun Q l=>?_;subst Q;go_wp2;go_ret;exact⟨rfl,rfl⟩):p:=h
theorem m6R(h:p:=by have D:=I.2;simp only[Bool.and_eq_true]at D;exact⟨o0d D.1.1.1,D.1.1.2,D.2⟩):p:=h
theorem I4J(h:p:=by rw[Cn.x2V i _ l];exact y0P g fa cb rs w0 H q B C c out W p A E f6J i l I P h):p:=h
theorem p1a(h:p:=by go_enter func187,ntmps187;exact t6u):p:=h
theorem m2H(h:p:=by go_wp2;go_ret;exact U):p:=h
theorem M4F(h:p:=by unfold Cn.syl at L;simpa using L):p:=h
theorem G7d(h:p:=by go_enter func142,ntmps142;go_wp2;go_ret;exact⟨rfl,((b0r).alloc (l0r _) _).alloc M7L _⟩):p:=h
theorem t7n(h:p:=by rw[Cn.x1d i];exact y0O g fa cb rs w0 H q C c out W p A E D i I P h):p:=h
theorem f5X(h:p:=by first| rfl | trivial):p:=h
theorem T7c(h:p:=by show 0<3;exact f6J):p:=h
theorem e3k(h:p:=by
 rcases G with h | h
 ·exact(h.below P).below F
 ·exact h.sk):p:=h
theorem i8a(h:p:=by
 rcases X with e | e
 ·exact .inl (e ▸ Q)
 ·grind):p:=h
theorem g8O(h:p:=by exact(((b0r).alloc (l0r _) _).alloc M7N _).alloc P8P _):p:=h
theorem f2P(h:p:=by show 1<3;exact f6J):p:=h
theorem U4B(h:p:=by show 2<3;exact f6J):p:=h
theorem G9l(h:p:=by rw[beq_eq_false_iff_ne];exact f6J):p:=h
theorem E8I(h:p:=by exact⟨k+1,g2B,f6J,V c,V U⟩):p:=h
theorem N0g(h:p:=by simp[List.getD,E]):p:=h
theorem T7d(h:p:=by show 0<3;exact f6J):p:=h
end
def fbR(p:Rec->Bool):Nat->List Rec->Int
 | _,[]=>-1
 | i,r::l=>if p r then(i:Int)else fbR p (i+1) l
theorem z6W{p:Rec->Bool}{rs:List Rec}{k x}(G:k<rs.length)(h:x=fbR p k (rs.drop k))(s:p (rs.getD k Cn.none)=true):x=(k:Int):=by
 rw[h,List.drop_eq_getElem_cons G,fbR,if_pos];exact P6N
theorem z3b{p:Rec->Bool}{rs:List Rec}{k x}(G:k<rs.length)(h:x=fbR p k (rs.drop k))(s:p (rs.getD k Cn.none)=false):x=fbR p (k+1) (rs.drop (k+1)):=by
 rw[h,List.drop_eq_getElem_cons G,fbR,if_neg];have:p rs[k]=false:=P6N;simp[this]
theorem z6V{p:Rec->Bool}{rs:List Rec}{x}(h:x=fbR p rs.length (rs.drop rs.length)):x=-1:=by
 rw[h,List.drop_length,fbR]
theorem y0S:∀args w,(callFunc 192 args).run prog w=.ok (.enter 192 args) w:=f0h
def AsksR(g:Nat)(cap:Array Value)(p:Rec->Bool)(w:World)(rs:List Rec):Prop:=∀(k:Nat) (vt:Value) (W:World),k<rs.length->Below w.heap.size w W->Sk .i32 W vt (rs.getD k Cn.none).to->Calls prog g (#[recV (rs.getD k Cn.none) vt]++cap) W (x0g W (p (rs.getD k Cn.none)))
def RIn(w:World)(v:Value)(rs:List Rec)(W:World):Prop:=Rcs W v rs/\Below w.heap.size w W
theorem RIn.on{w W W' v rs}(h:RIn w v rs W)(Y:Bw W W'):RIn w v rs W':=⟨h.1.below Y,h.2.trans (Y.mono h.2.size)⟩
theorem x7X B C(p:Rec->Bool) v rs w(N:Rcs w v rs)(s:AsksR 192 #[.pointer (some ⟨B,0,none⟩),.pointer (some ⟨C,0,none⟩)] p w rs) :
  Calls prog 179 #[v,.func (.func 192) #[] #[.pointer (some ⟨B,0,none⟩),.pointer (some ⟨C,0,none⟩)]] w (IntB w (fbR p 0 rs)):=by
 have q:=y0S;have o:Hid (RIn w v rs w):=⟨N,b0r⟩;have A:=O s;have Q:Hid (fbR p 0 rs=fbR p 0 (rs.drop 0)):=R6P;have ab:=N.1;obtain⟨J,M,rfl,Z,D⟩:=N.shape;generalize hq:fbR p 0 rs=x at *;go_enter func179,ntmps179;go_wp2;go_loopw[5,8] (fun _ i wr=>∃k:Nat,i=.int .i64 k/\k<=rs.length/\x=fbR p k (rs.drop k)/\RIn w (.slice J rs.length M) rs wr) (fun _ i _=>rs.length-(intOf i).toNat)
 case atStart=>exact⟨0,rfl,f6J,V Q,V o⟩
 case round =>
  obtain⟨k,rfl,G,u,l⟩:=hrel;by_cases E:k<rs.length
  ·obtain⟨b,R,t,P,H,g,I⟩:=l.1.place f6J;obtain⟨rfl,rfl⟩:J=some ⟨b,R,none⟩/\M=t:=S7N;obtain⟨d,x1,S,m,⟨X,j,r⟩,x5,x6,x7⟩:=I k E;have L:=O (V A k X wr E l.2 r);have z:Hid (p (rs.getD k Cn.none)=true->x=(k:Int)):=fun h=>z6W E u h;have f:Hid (p (rs.getD k Cn.none)=false->x=fbR p (k+1) (rs.drop (k+1))):=fun h=>z3b E u h;have T:=O l;obtain⟨Y,K,rfl,_,_⟩:=r.shape;clear u l I P r A;unfold recV at L;generalize p (rs.getD k Cn.none)=y at L z f;generalize(rs.getD k Cn.none).kind=kd,(rs.getD k Cn.none).lo=lo,(rs.getD k Cn.none).hi=hi,(rs.getD k Cn.none).n=n at *;generalize(rs.getD k Cn.none).name=nm,(rs.getD k Cn.none).other=ot,(rs.getD k Cn.none).wt=wt,(rs.getD k Cn.none).to.length=a at *
   cases y with
   | true =>
    obtain rfl:=V z rfl;go_wp2_with(go_at_fn 192;refine(V L).mono ?_;rintro e w1 ⟨rfl,F⟩);have U:=O ((V T).on F).2;go_ret;exact t8u
   | false =>
    have c:=O (V f rfl);go_wp2_with(go_at_fn 192;refine(V L).mono ?_;rintro e w1 ⟨rfl,F⟩);have U:=O ((V T).on F);go_round
    case rel=>exact E8I
    case measure=>exact g7T
  ·obtain rfl:k=rs.length:=f6J;obtain rfl:=z6V u;have U:=O l.2;exact t3L
theorem y4n(f c:Int):∀(l:List Rec) (i:Nat),fbR (fun r=>decide (Cn.fam r.kind=f)&&Cn.speaks r c) i l=Cn.findA f c i l
 | [],i=>rfl
 | r::l,i=>by
  rw[fbR,Cn.findA,y4n f c l];by_cases h:Cn.fam r.kind=f/\Cn.speaks r c=true
  ·rw[if_pos h,if_pos (by simp[h.1,h.2])]
  ·rw[if_neg h,if_neg S4r]
theorem y0W{f c:Int}(o:f<0\/10<f):∀(l:List Rec) (i:Nat),Cn.findA f c i l=-1
 | [],i=>rfl
 | r::l,i=>by
  have:=Cn.x6I r.kind;rw[Cn.findA,if_neg (fun a=>f6J),y0W o l]
theorem y4o{l f c}(o:f<=0\/10<=f):Cn.find l f c=-1:=by
 unfold Cn.find;split
 ·rfl
 ·exact y0W f6J l 0
def FindT:Prop:=∀(v:Value) (rs:List Rec) (f c:Int) (w:World),Glob w->Rcs w v rs->I64 f->(-2147483648<=c/\c<=2147483647)->Calls prog 142 #[v,.int .i64 f,.int .i32 c] w (IntB w (Cn.find rs f c))
theorem x9t:FindT:=by
 intro v rs f c w C N o I;obtain⟨z,S⟩:=o;by_cases y:f<=0
 ·rw[y4o (.inl y)];exact G7d
 ·by_cases Q:10<=f
  ·rw[y4o (.inr Q)];exact G7d
  ·have H:Bw w ((w.alloc (.cells #[.int .i64 f] 3)).alloc (.cells #[.int .i32 c] 21)):=((b0r).alloc (l0r _) _).alloc M7L _;have A:((w.alloc (.cells #[.int .i64 f] 3)).alloc (.cells #[.int .i32 c] 21)).cell? ⟨w.heap.size,0,none⟩=some (.int .i64 f):=f0k;have B:((w.alloc (.cells #[.int .i64 f] 3)).alloc (.cells #[.int .i32 c] 21)).cell? ⟨w.heap.size+1,0,none⟩=some (.int .i32 c):=f0k;have d:=N.below H;have R:=C.on H
   have e:Cn.find rs f c=fbR (fun r=>decide (Cn.fam r.kind=f)&&Cn.speaks r c) 0 rs:=by
    unfold Cn.find;rw[if_neg f6J,y4n]
   rw[e]
   have K:Hid (Calls prog 179 #[v,.func (.func 192) #[] #[.pointer (some ⟨w.heap.size,0,none⟩),.pointer (some ⟨w.heap.size+1,0,none⟩)]] ((w.alloc (.cells #[.int .i64 f] 3)).alloc (.cells #[.int .i32 c] 21)) (IntB ((w.alloc (.cells #[.int .i64 f] 3)).alloc (.cells #[.int .i32 c] 21)) (fbR (fun r=>decide (Cn.fam r.kind=f)&&Cn.speaks r c) 0 rs))) :=
    x7X _ _ _ v rs _ d (fun k X W G P _=>y8W _ X f c _ _ W (N.fit G) (R.on P) (by rw[P.cell (x0a A)];exact A) (by rw[P.cell (x0a B)];exact B) f6J I)
   obtain⟨J,M,rfl,Z,D⟩:=N.shape;generalize fbR (fun r=>decide (Cn.fam r.kind=f)&&Cn.speaks r c) 0 rs=x at *;go_enter func142,ntmps142;go_wp2_with fail;refine c0m K fun L F=>?_;have U:IntB w x (.returned (.int .i64 x)) L:=⟨rfl,bthen H F⟩;go_wp2;go_ret;exact U
theorem x3k c a b w:Calls prog 187 #[.int .i32 c,.int .i32 a,.int .i32 b] w fun e w'=>e=.returned (.bool (decide (a<=c/\c<=b)))/\w'=w:=by
 by_cases Z:a<=c
 ·by_cases D:c<=b
  ·rw[d0t ⟨Z,D⟩];exact p1a
  ·rw[d0f (fun h=>D h.2)];exact p1a
 ·rw[d0f (fun h=>Z h.1)];exact p1a
theorem x6W c w:Calls prog 185 #[.int .i32 c] w fun e w'=>e=.returned (.bool (Cn.syl c))/\w'=w:=by
 have K:=O (x3k c 44032 55203 w);have t:decide (44032<=c/\c<=55203)=Cn.syl c:=rfl;rw[t]at K;go_enter func185,ntmps185;exact r7U
theorem y5e c w(h:44032<=c/\c<=55203):Calls prog 186 #[.int .i32 c] w fun e w'=>e=.returned (.int .i32 ((c-44032)%28))/\w'=w:=by
 obtain⟨Z,D⟩:=h;have t:(c-44032).tmod 28=(c-44032)%28:=Int.tmod_eq_emod_of_nonneg f6J;go_enter func186,ntmps186;exact t6v
def sylA(c:Int):Int:=if(c-44032)%28=0 then 4352+(c-44032) / 588 else c-(c-44032)%28
def sylB(c:Int):Int:=if(c-44032)%28=0 then 4449+(c-44032) / 28%21 else 4519+(c-44032)%28
theorem z1y{rs c}(L:Cn.syl c=true):Cn.opn rs c=[sylA c,sylB c]:=by
 unfold Cn.opn sylA sylB;rw[if_pos L];split<;>rfl
theorem z8w{c}(h:44032<=c/\c<=55203):(0<=sylA c/\sylA c<=100000)/\0<=sylB c/\sylB c<=100000:=by
 unfold sylA sylB;exact G7n
theorem x7m c w(h:44032<=c/\c<=55203):Calls prog 270 #[.int .i32 c] w fun e w'=>e=.returned (.tuple #[.int .i32 (sylA c),.int .i32 (sylB c)])/\w'=w:=by
 have K:=O (y5e c w h);obtain⟨Z,D⟩:=h;by_cases F:(c-44032)%28=0
 ·have B:sylA c=4352+(c-44032) / 28 / 21:=(by unfold sylA;rw[if_pos F];exact f6J);have C:sylB c=4449+(c-44032) / 28%21:=(by unfold sylB;rw[if_pos F]);rw[B,C];rw[F]at K;have N:(c-44032).tdiv 28=(c-44032) / 28:=Int.tdiv_eq_ediv_of_nonneg f6J;have R:((c-44032) / 28).tmod 21=(c-44032) / 28%21:=Int.tmod_eq_emod_of_nonneg f6J;have P:((c-44032) / 28).tdiv 21=(c-44032) / 28 / 21:=Int.tdiv_eq_ediv_of_nonneg f6J;exact U7d
 ·have B:sylA c=c-(c-44032)%28:=(by unfold sylA;rw[if_neg F]);have C:sylB c=4519+(c-44032)%28:=(by unfold sylB;rw[if_neg F]);rw[B,C];have i:0<(c-44032)%28:=f6J;have A:(c-44032)%28<28:=f6J;exact U7d
theorem fam7:Cn.fam 7=3:=e8M
theorem fam6:Cn.fam 6=2:=e8M
theorem x5x v rs c w(C:Glob w)(N:Rcs w v rs)(I:Rune c):Calls prog 271 #[v,.int .i32 c] w (IntB w (Cn.find rs 3 c)):=by
 have E:=O (x1f 7 w C w5o);rw[fam7]at E;have K:=O (fun W (Y:Bw w W)=>x9t v rs 3 c W (C.on Y) (N.below Y) w5o I);generalize Cn.find rs 3 c=r at *;obtain⟨J,M,rfl,_,_⟩:=N.shape;go_enter func271,ntmps271;go_wp2_with fail;refine c0m E fun Q F=>?_;have g:=O (V K Q F);go_wp2_with fail;refine c0m g fun T H=>?_;have U:IntB w r (.returned (.int .i64 r)) T:=⟨rfl,bthen F H⟩;go_wp2;go_ret;exact U
theorem z9B:z9a:=by
 intro v rs c w C N I;have E:=O (x1f 6 w C w5o);rw[fam6]at E;have K:=O (fun W (Y:Bw w W)=>x9t v rs 2 c W (C.on Y) (N.below Y) w5o I);obtain⟨p,X⟩:=I;rcases hit_at N 2 c with⟨Z,D⟩ | ⟨k,b,R,M,Z,L,D,rfl,S,z,u,o⟩
 ·have G:Cn.cls rs c=0:=N4U;rw[G];rw[Z]at K;obtain⟨J,M,rfl,_,_⟩:=N.shape;go_enter func242,ntmps242;go_wp2_with fail;refine c0m E fun Q F=>?_;have g:=O (V K Q F);go_wp2_with fail;refine c0m g fun T H=>?_;have U:IntB w 0 (.returned (.int .i64 0)) T:=⟨rfl,bthen F H⟩;go_wp2;go_ret;exact U
 ·have G:Cn.cls rs c=(rs.getD k Cn.none).n:=N4U;rw[G];rw[Z]at K;have a:=O u;have B:=N.1;generalize rs.getD k Cn.none=r at *;go_enter func242,ntmps242;go_wp2_with fail;refine c0m E fun Q F=>?_;have g:=O (V K Q F);go_wp2_with fail;refine c0m g fun T H=>?_;have m:=((V a).below (bthen F H)).n;have U:IntB w r.n (.returned (.int .i64 r.n)) T:=⟨rfl,bthen F H⟩;go_wp2;go_ret;exact U
def OpB(w0 w:World)(zs:List Int)(e:Ending)(w':World):Prop:=∃v,e=.returned v/\(Sk .i32 w0 v zs\/Ok .i32 21 w' w.heap.size v zs)/\Below w.heap.size w w'
theorem x8J v rs c w0 w(C:Glob w)(N:Rcs w0 v rs)(q:Bw w0 w)(I:Rune c):Calls prog 240 #[v,.int .i32 c] w (OpB w0 w (Cn.opn rs c)):=by
 have E:=O (x6W c w);by_cases L:Cn.syl c=true
 ·have i:44032<=c/\c<=55203:=M4F;rw[L]at E;rw[z1y L];obtain⟨⟨P,F⟩,a,H⟩:=z8w i;have g:=O (x7m c w i);obtain⟨J,M,rfl,_,_⟩:=N.shape
  have U:OpB w0 w [sylA c,sylB c] (.returned (.slice (some ⟨w.heap.size,0,none⟩) 2 2)) (w.alloc (.cells #[.int .i32 (sylA c),.int .i32 (sylB c)] 21)) :=
   ⟨_,rfl,.inr (ok_two w _ _ f6J f6J),(b0r).alloc (l0r _) _⟩
  go_enter func240,ntmps240;go_wp2_with fail;refine c0m E fun Q l=>?_;subst Q;go_wp2_with fail;refine c0m g fun Q l=>?_;subst Q;go_wp2;go_ret;exact U
 ·have i:Cn.syl c=false:=U9j;rw[i]at E;have K:=O (x5x v rs c w C (N.below q) I);rcases hit_at N 3 c with⟨Z,D⟩ | ⟨k,b,R,M,Z,T,D,rfl,S,z,u,m⟩
  ·have j:Cn.opn rs c=[]:=P7T;rw[j];rw[Z]at K;obtain⟨J,M,rfl,_,_⟩:=N.shape;go_enter func240,ntmps240;go_wp2_with fail;refine c0m E fun Q l=>?_;subst Q;go_wp2_with fail;refine c0m K fun Q Y=>?_;have U:OpB w0 w [] (.returned (.slice none 0 0)) Q:=⟨_,rfl,.inr (Ok.nil _ _ _ _),Y⟩;go_wp2;go_ret;exact U
  ·have j:Cn.opn rs c=(rs.getD k Cn.none).to:=P7T;rw[j];rw[Z]at K;have B:=N.1;obtain⟨X,f,x⟩:=u.to;have G:w.cell? ⟨b,R+k*8+4,none⟩=some X:=(by rw[q.cell (x0a f)];exact f);have o:Hid (∀W,Bw w W->W.cell? ⟨b,R+k*8+4,none⟩=some X):=fun W Y=>(by rw[Y.cell (x0a G)];exact G);have r:=O x;generalize(rs.getD k Cn.none).to=A at *;go_enter func240,ntmps240;go_wp2_with fail;refine c0m E fun Q l=>?_;subst Q;go_wp2_with fail;refine c0m K fun Q Y=>?_;have f:=V o Q Y;have U:OpB w0 w A (.returned X) Q:=⟨_,rfl,.inl (V r),Y⟩;go_wp2;go_ret;exact U
theorem z1c(w:World):(w.alloc (.cells #[] 21)).ownsRow w.heap.size 21 1 (.slice (some ⟨w.heap.size,0,none⟩) 0 0) 0 []:=by
 refine⟨rfl,.inr ⟨w.heap.size,0,#[],rfl,l0r _,?_,l0r _,T7W,rfl,rfl⟩⟩;exact R0n
theorem q0C ad n cap w:(binOp BinOp.eql 36 (.slice (some ad) n cap) (.slice none 0 0)).run prog w=.ok (.bool false) w:=f4x
theorem z7R w:(binOp BinOp.eql 36 (.slice none 0 0) (.slice none 0 0)).run prog w=.ok (.bool true) w:=f4x
theorem x2F v zs w(N:Sk .i32 w v zs)(S:zs.length<=1000000000):Calls prog 148 #[v] w (x0h w zs):=by
 obtain⟨i,hi,y,Y,m⟩:=info_parts Tryz.info21;have s:=N.1;have c:(zs.map (Value.int .i32)).length=zs.length:=List.length_map _;rcases N.2.src with⟨K,rfl⟩ | ⟨p,J,rfl,f⟩
 ·obtain rfl:zs=[]:=(by simpa using K);have U:x0h w [] (.returned (.slice none 0 0)) w:=⟨_,rfl,Ok.nil _ _ _ _,b0r⟩;have d:=z7R;go_enter func148,ntmps148;exact m2I
 ·have D:=O (z1c w);rw[c]
  have A:∀j u,(zs.map (Value.int .i32))[j]?=some u->(w.alloc (.cells #[] 21)).cell? (p.add j)=some u:=by
   intro j u X;have h:=f j u X;have E:(p.add j).block<w.heap.size:=World.block_lt_of_cell? w _ h;exact(Below.cell ((Below.refl w.heap.size w).alloc (l0r _) _) E).trans h
  have x:Bw w (w.alloc (.cells #[] 21)):=(b0r).alloc (l0r _) _;have d:=q0C;go_enter func148,ntmps148;go_wp2_with(at_builtin;refine wpList_append_own _ rfl (.tmp 5) (.tmp 6) 36 rfl w.heap.size 21 i (.int .i32 0) 1 4 underlying36 hi y Y m rfl e8O _ _ _ rfl (V D) p zs.length J (zs.map (Value.int .i32)) rfl M7O A (fun u F=>by obtain⟨z,_,rfl⟩:=List.mem_map.1 F;rfl) T7W f6J M7O ?_);intro t W P q _;have B:Bw w W:=x.grown q x.size (fun k G=>by simp[Value.ownBlock]at G;exact f6J);have U:x0h w zs (.returned t) W:=⟨t,rfl,Ok.of s f6J P M7O M7O,B⟩;exact m2I
theorem z2R{w v rs}(N:Rcs w v rs) c:(Cn.opn rs c).length<=1000000000:=by
 unfold Cn.opn;split
 ·exact f1X
 ·rcases hit_at N 3 c with⟨_,D⟩ | ⟨k,b,R,M,Z,T,D,_,_,_,_,o⟩
  ·rw[D];simp
  ·rw[D];exact o.len
theorem openC:OpenC:=by
 intro v rs c w C N I;have K:=O (x8J v rs c w w C N (b0r) I);have S:=z2R N c;obtain⟨J,M,rfl,_,_⟩:=N.shape;generalize Cn.opn rs c=A at *;go_enter func299,ntmps299;go_wp2_with fail;refine(V K).mono ?_;rintro e Q ⟨u,rfl,G,F⟩
 have L:Sk .i32 Q u A:=by
  rcases G with h | h
  ·exact h.below F
  ·exact h.sk
 have g:=O (x2F u A Q L S);go_wp2_with fail;refine(V g).mono ?_;rintro e T ⟨o,rfl,q,H⟩;have U:x0h w A (.returned o) T:=⟨o,rfl,q.lower F.size,bthen F H⟩;exact m2G
theorem primC:PrimC:=by
 intro v rs c w C N I;have E:=O (x6W c w);by_cases L:Cn.syl c=true
 ·have i:44032<=c/\c<=55203:=M4F;rw[L]at E;have s:Cn.prim rs c=some (sylA c,sylB c):=(by unfold Cn.prim;rw[if_pos L,z1y L];rfl);rw[s];have K1:=O (x7m c w i);obtain⟨ao,M,rfl,_,_⟩:=N.shape;have U:x6u w (some (sylA c,sylB c)) (.returned (.tuple #[.int .i32 (sylA c),.int .i32 (sylB c),.bool true])) w:=⟨rfl,b0r⟩;go_enter func243,ntmps243;go_wp2_with fail;refine c0m E fun Q l=>?_;subst Q;go_wp2_with fail;refine c0m K1 fun Q l=>?_;subst Q;go_wp2;go_ret3;exact U
 ·have i:Cn.syl c=false:=U9j;rw[i]at E;have K:=O (x5x v rs c w C N I);rcases hit_at N 3 c with⟨Z,h2⟩ | ⟨k,b,R,M,Z,T,h2,rfl,S,z,u,o⟩
  ·have j:Cn.prim rs c=none:=(by unfold Cn.prim;rw[if_neg L,h2]);rw[j];rw[Z]at K;obtain⟨ao,M,rfl,_,_⟩:=N.shape;go_enter func243,ntmps243;go_wp2_with fail;refine c0m E fun Q l=>?_;subst Q;go_wp2_with fail;refine c0m K fun Q Y=>?_;have f:x6u w none (.returned (.tuple #[.int .i32 0,.int .i32 0,.bool false])) Q:=⟨rfl,Y⟩;go_wp2;go_ret3;exact f
  ·have G:Hid ((rs.getD k Cn.none).kind=7->(rs.getD k Cn.none).to.length=2->Cn.prim rs c=some ((rs.getD k Cn.none).to.getD 0 0,(rs.getD k Cn.none).to.getD 1 0)):=fun a b=>by
    unfold Cn.prim;rw[if_neg L,h2];simp only;rw[if_pos ⟨a,b⟩]
   have P:Hid (¬((rs.getD k Cn.none).kind=7/\(rs.getD k Cn.none).to.length=2)->Cn.prim rs c=none):=fun a=>by
    unfold Cn.prim;rw[if_neg L,h2];simp only;rw[if_neg a]
   rw[Z]at K;have HR:=O u;have B:=N.1;generalize rs.getD k Cn.none=r,Cn.prim rs c=pr at *;go_enter func243,ntmps243;go_wp2_with fail;refine c0m E fun Q l=>?_;subst Q;go_wp2_with fail;refine c0m K fun Q Y=>?_;have ab:=(V HR).below Y;obtain⟨X,x4,x⟩:=ab.to;have x0:=ab.kind;generalize r.to=zs,r.kind=W at *;obtain⟨d,J,rfl,ae,af⟩:=x.shape;have f:x6u w none (.returned (.tuple #[.int .i32 0,.int .i32 0,.bool false])) Q:=⟨rfl,Y⟩;by_cases y:W=7
   ·subst y;by_cases m:zs.length=2
    ·obtain rfl:=V G rfl m;obtain⟨t,H,A,he,_,_,D⟩:=x.place f6J;obtain⟨rfl,rfl⟩:d=some ⟨t,H,none⟩/\J=A:=M2U;have F:=D 0 f6J;have g:=D 1 f6J;rw[Nat.add_zero]at F;rw[m]at x4 ae;generalize zs.getD 0 0=p,zs.getD 1 0=q at *;have U:∀n,x6u w (some (p,q)) (.returned (.tuple #[.int .i32 p,.int .i32 q,.bool true])) (Q.drewN n):=fun n=>⟨rfl,bthen Y (x0i ⟨n,rfl⟩)⟩;clear Y D he x f m;go_wp2;go_big_quiet (fail);go_wp2;go_ret3;exact U _
    ·obtain rfl:=V P (fun h=>m h.2);have q2:((zs.length:Int) != 2)=true:=P8P;go_wp2;go_ret3;exact f
   ·obtain rfl:=V P (fun h=>y h.1);have q7:(W != 7)=true:=(by simp[y]);go_wp2;go_ret3;exact f
theorem y9z v zs c w(N:Sk .i32 w v zs)(S:zs.length<=1000000000):Calls prog 259 #[v,.int .i32 c] w (fun e w'=>∃n:Int,e=.returned (.int .i64 n)/\(0<=n↔c∈zs)/\w'=w):=by
 rcases Nat.eq_zero_or_pos zs.length with h0 | h0
 ·obtain⟨J,M,rfl,_,_⟩:=N.shape;obtain rfl:zs=[]:=List.eq_nil_of_length_eq_zero h0;go_enter func259,ntmps259;go_wp2;refine wp_loop_rounds 1 ?_;rw[rounds_succ];go_wp2;go_ret;exact⟨-1,rfl,M7O,rfl⟩
 ·obtain⟨b,R,M,rfl,H,g,I⟩:=N.place h0;have A:=O I;clear N I;go_enter func259,ntmps259;go_wp2;go_loopw[5,8] (fun _ i wr=>∃k:Nat,i=.int .i64 k/\k<=zs.length/\wr=w/\Hid (∀j,j<k->zs.getD j 0≠c)) (fun _ i _=>zs.length-(intOf i).toNat)
  case atStart=>exact⟨0,rfl,f6J,rfl,fun j X=>f6J⟩
  case round =>
   obtain⟨k,rfl,G,rfl,W⟩:=hrel;by_cases E:k<zs.length
   ·have F:=V A k E;by_cases P:zs.getD k 0=c
    ·have C:Hid (c∈zs):=by
      show c∈zs;rw[<- P];exact N0g
     rw[P]at F;have Z:(c==c)=true:=M7O;go_wp2;go_ret;exact⟨k,rfl,⟨fun _=>V C,fun _=>f6J⟩,rfl⟩
    ·have Z:(c==zs.getD k 0)=false:=by
      rw[beq_eq_false_iff_ne];exact fun e=>P e.symm
     have f:Hid (∀j,j<k+1->zs.getD j 0≠c):=fun j X=>by
      rcases Nat.lt_or_ge j k with h | h
      ·exact V W j h
      ·grind
     generalize zs.getD k 0=t at F Z;go_wp2
     go_roundw
     case rel=>exact⟨k+1,g2B,f6J,f5X,f⟩
     case measure=>exact g7T
   ·have C:Hid (¬c∈zs):=fun z=>by
     obtain⟨j,X,e⟩:=List.getElem_of_mem z;exact V W j f6J (by simp[List.getD,X,e])
    go_wp2;go_ret;exact⟨-1,rfl,⟨fun h=>f6J,fun h=>absurd h (V C)⟩,rfl⟩
theorem x2H v zs c w(N:Sk .i32 w v zs)(S:zs.length<=1000000000):Calls prog 217 #[v,.int .i32 c] w (fun e w'=>e=.returned (.bool (decide (c∈zs)))/\w'=w):=by
 have K:=O (y9z v zs c w N S);obtain⟨J,M,rfl,_,_⟩:=N.shape;have A:Hid (c∈zs->decide (c∈zs)=true):=fun h=>d0t h;have f:Hid (¬c∈zs->decide (c∈zs)=false):=fun h=>d0f h;generalize decide (c∈zs)=b at *;go_enter func217,ntmps217;go_wp2_with fail;refine(V K).mono ?_;rintro e Q ⟨n,rfl,F,l⟩;subst Q;by_cases h:0<=n
 ·obtain rfl:=V A (F.1 h);clear F A f;exact t6u
 ·obtain rfl:=V f (fun z=>h (F.2 z));have hd:decide (0<=n)=false:=d0f h;clear F A f;exact t6u
structure Wk(b0:Nat)(W:World)(p:Nat)(fv:Value)(way ends:List Int)(wv ev:Value):Prop where
 blk:W.heap[p]?=some (.cells #[fv,wv,ev] 314 (0,0))
 own:b0<=p
 w:Ok .i32 21 W b0 wv way
 e:Ok .i32 21 W b0 ev ends
 ap:∀g,wv.ownBlock=some g->ev.ownBlock≠some g
structure Frm(W W':World)(p:Nat)(wv ev:Value):Prop where
 os:W'.os=W.os
 tape:W'.tape=W.tape
 output:W'.output=W.output
 size:W.heap.size<=W'.heap.size
 keep:∀g,g<W.heap.size->g≠p->wv.ownBlock≠some g->ev.ownBlock≠some g->W'.heap[g]?=W.heap[g]?
def x0T(W:World)(v v':Value):Prop:=∀g,v'.ownBlock=some g->v.ownBlock=some g\/W.heap.size<=g
theorem x0T.refl W v:x0T W v v:=fun _ h=>.inl h
theorem x0T.trans{W W1 a b c}(h:x0T W a b)(k:x0T W1 b c)(L:W.heap.size<=W1.heap.size):x0T W a c:=fun g C=>by
 rcases k g C with h1 | h1
 ·exact h g h1
 ·exact e5w
theorem x0T.trans_left{W W1 a b}(h:x0T W1 a b)(L:W.heap.size<=W1.heap.size):x0T W a b:=(x0T.refl W a).trans h L
theorem z0r{w B v zs}(h:Ok .i32 21 w B v zs){g}(C:v.ownBlock=some g):∃P,w.heap[g]?=some (.cells P 21 (0,0)):=by
 rcases h.2.2.2 with⟨rfl,_⟩ | ⟨k,M,P,rfl,_,H,_⟩
 ·cases C
 ·exact G3o
theorem Wk.pw{b0 W p fv}{way ends wv ev}(h:Wk b0 W p fv way ends wv ev):wv.ownBlock≠some p/\ev.ownBlock≠some p:=by
 refine⟨fun e=>?_,fun e=>?_⟩
 ·obtain⟨P,I⟩:=z0r h.w e;rw[h.blk]at I;simp at I
 ·obtain⟨P,I⟩:=z0r h.e e;rw[h.blk]at I;simp at I
theorem Wk.lt{b0 W p fv}{way ends wv ev}(h:Wk b0 W p fv way ends wv ev):p<W.heap.size:=by
 have:=h.blk;rcases Nat.lt_or_ge p W.heap.size with h1 | h1
 ·exact h1
 ·grind
theorem Wk.below{b0 W W' p fv}{way ends wv ev}(h:Wk b0 W p fv way ends wv ev)(Y:Bw W W'):Wk b0 W' p fv way ends wv ev :=
 ⟨by rw[Y.block p h.lt];exact h.blk,h.own,h.w.below Y,h.e.below Y,h.ap⟩
theorem Frm.below{b0 W W' p fv}{way ends wv ev}(h:Wk b0 W p fv way ends wv ev)(o:Frm W W' p wv ev)(L:b0<=W.heap.size):Below b0 W W' :=
 ⟨o.os,o.tape,o.output,o.size,fun k G=>o.keep k f6J (by have:=h.own;exact f6J) (fun e=>by have:=(h.w.2.2.lt k e).1;exact f6J) (fun e=>by have:=(h.e.2.2.lt k e).1;exact f6J)⟩
theorem Frm.of_below{W W' p wv ev}(Y:Bw W W'):Frm W W' p wv ev:=⟨Y.os,Y.tape,Y.output,Y.size,fun g C _ _ _=>Y.block g C⟩
theorem Frm.trans{W W1 W2 p wv ev wv1 ev1}(h:Frm W W1 p wv ev)(k:Frm W1 W2 p wv1 ev1)(q:x0T W wv wv1)(P:x0T W ev ev1):Frm W W2 p wv ev:=by
 refine⟨k.os.trans h.os,k.tape.trans h.tape,k.output.trans h.output,Nat.le_trans h.size k.size,fun g C Z D J=>?_⟩;rw[k.keep g I2e Z (fun e=>?_) (fun e=>?_),h.keep g C Z D J]
 ·rcases q g e with h4 | h4
  ·exact D h4
  ·omega
 ·rcases P g e with h4 | h4
  ·exact J h4
  ·omega
theorem Wk.taken{b0 W w1 p fv}{way ends wv ev v' o c}(h:Wk b0 W p fv way ends wv ev)(S:ends.length<=40)(I:Rune c)
  (F:w1.ownsRow b0 21 1 v' (ends.length+1) (ends.map (Value.int .i32)++[.int .i32 c])) (C:(W.alloc o).grownBy w1 ev.ownBlock) (X:v'.ownBlock=ev.ownBlock\/v'.ownBlock=some (W.heap.size+1)) :
  w1.heap[p]?=some (.cells #[fv,wv,ev] 314 (0,0))/\Wk b0 (w1.setCell ⟨p,2,none⟩ v') p fv way (ends++[c]) wv v'/\Frm W (w1.setCell ⟨p,2,none⟩ v') p wv ev/\x0T W ev v':=by
 have s:=h.lt;obtain⟨J,d⟩:=h.pw;have K:∀g,g<W.heap.size->(W.alloc o).heap[g]?=W.heap[g]?:=fun g C=>((Below.refl W.heap.size W).alloc (l0r _) _).block g C
 have L:∀g,g<W.heap.size->ev.ownBlock≠some g->w1.heap[g]?=W.heap[g]?:=fun g Z D=>by
  rw[C.block g P8P (fun e=>D e.symm),K g Z]
 have f:W.heap.size+1<=w1.heap.size:=(by simpa using C.size);have Y:w1.heap[p]?=some (.cells #[fv,wv,ev] 314 (0,0)):=by rw[L p s d];exact h.blk
 have t:x0T W ev v':=fun g Q=>i8a
 have l:Ok .i32 21 w1 b0 v' (ends++[c]):=by
  refine Ok.of (h.e.1.snoc (x1i I)) P8P F M7N M7N
 have y:∀g,v'.ownBlock=some g->g≠p:=fun g Z D=>by
  subst D;rcases t g Z with h3 | h3
  ·exact d h3
  ·omega
 refine⟨Y,⟨?_,h.own,?_,?_,?_⟩,?_,t⟩
 ·rw[x0c Y];rfl
 ·refine h.w.keep fun g Z=>?_;have E:=(h.w.2.2.lt g Z).2;rw[x0e _ (fun e=>by subst e;exact J Z),L g E (h.ap g Z)]
 ·refine l.keep fun g Z=>?_;rw[x0e _ (y g Z)]
 ·intro g Z D;rcases t g D with h3 | h3
  ·exact h.ap g Z h3
  ·have:=(h.w.2.2.lt g Z).2;omega
 ·refine⟨?_,?_,?_,u2o,fun g Z D _ H=>by rw[x0e _ D,L g Z H]⟩
  ·have:=(x0b (Below.refl 0 w1) (g:=p) (j:=2) (Nat.zero_le _) v').os;rw[this,C.os];rfl
  ·have:=(x0b (Below.refl 0 w1) (g:=p) (j:=2) (Nat.zero_le _) v').tape;rw[this,C.tape];rfl
  ·have:=(x0b (Below.refl 0 w1) (g:=p) (j:=2) (Nat.zero_le _) v').output;rw[this,C.output];rfl
def Gave(n:Int)(e:Ending):Prop:=e=.panicked [{ v:=.iface 29 (.int .i64 n),recovered:=false }]
def z2h(b0:Nat)(W:World)(p:Nat)(fv:Value)(way ends:List Int)(wv ev:Value)(c:Int)(e:Ending)(W':World):Prop :=
 (32<=ends.length/\Gave 2 e/\W'=W)\/(ends.length<32/\e=.returned (.tuple #[])/\∃ev',Wk b0 W' p fv way (ends++[c]) wv ev'/\Frm W W' p wv ev/\x0T W ev ev')
theorem z4M b0 W p fv way ends wv ev c(h:Wk b0 W p fv way ends wv ev)(f:b0<=W.heap.size)(X:ends.length<=32)(I:Rune c) :
  Calls prog 269 #[.pointer (some ⟨p,0,none⟩),.int .i32 c] W (z2h b0 W p fv way ends wv ev c):=by
 obtain⟨i,hi,y,Y,T⟩:=info_parts Tryz.info21;have S:W.cell? ⟨p,2,none⟩=some ev:=cell_of (j:=2) h.blk U4B;obtain⟨J,M,rfl,_,_⟩:=h.e.sk.shape;by_cases A:ends.length=32
 ·have U:z2h b0 W p fv way ends wv (.slice J ends.length M) c (.panicked [{ v:=.iface 29 (.int .i64 2),recovered:=false }]) W:=.inl ⟨f6J,rfl,rfl⟩;rw[A]at S U;have d:((32:Nat):Int)=32:=rfl;go_enter func269,ntmps269;go_wp2;exact⟨rfl,U⟩
 ·have d:((ends.length:Int)==32)=false:=G9k;have Q:∀o,(W.alloc o).ownsRow b0 21 1 (.slice J ends.length M) ends.length (ends.map (Value.int .i32)):=fun o=>h.e.row.alloc o;have D:=O Q;have n:=O (fun o v' w1 a b C=>h.taken (o:=o) (v':=v') (w1:=w1) f6J I a b C);have x:ends.length<32:=f6J;go_enter func269,ntmps269;go_wp2_with(at_builtin;refine wpList_append_own_at _ rfl (.tmp 15) (.tmp 17) 36 rfl b0 21 i (.int .i32 0) 1 4 underlying36 hi y Y T rfl e8P _ _ _ rfl (V D _) ⟨W.heap.size,0,none⟩ 1 1 [.int .i32 c] rfl rfl (cell_one_new _ _ _) (x1j _ _) T7X f6J P8P ?_);intro v' w1 B R _ G;obtain⟨F,l,K,N⟩:=V n _ v' w1 B R G;obtain⟨L,t,rfl,_,_⟩:=l.e.sk.shape;have P:w1.cell? ⟨p,2,none⟩=some (.slice J ends.length M):=cell_of (j:=2) F U4B;have E:=x0d (j:=2) F;have U:z2h b0 W p fv way ends wv (.slice J ends.length M) c (.returned (.tuple #[])) (w1.setCell ⟨p,2,none⟩ (.slice L (ends++[c]).length t)):=.inr ⟨x,rfl,_,l,K,N⟩;generalize(ends++[c]).length=m at *;go_wp2;go_end0;exact U
def y2m(g:Nat)(fa cb:Array Value)(rs:List Rec)(w0:World):Prop:=∀(c:Int) (W:World),Below w0.heap.size w0 W->Rune c->Calls prog g (fa++#[.int .i32 c]++cb) W (OpB w0 W (Cn.opn rs c))
def x5G(b0:Nat)(W:World)(p:Nat)(fv:Value)(way:List Int)(wv ev:Value)(r:List Int×Int)(e:Ending)(W':World):Prop :=
 Frm W W' p wv ev/\((r.2≠0/\Gave r.2 e)\/(r.2=0/\e=.returned (.tuple #[])/\∃wv' ev',Wk b0 W' p fv way r.1 wv' ev'/\x0T W wv wv'/\x0T W ev ev'))
theorem Wk.down{b0 W w1 p fv}{way ends wv ev v' o c}(h:Wk b0 W p fv way ends wv ev)(S:way.length<=40)(I:Rune c)
  (F:w1.ownsRow b0 21 1 v' (way.length+1) (way.map (Value.int .i32)++[.int .i32 c])) (C:(W.alloc o).grownBy w1 wv.ownBlock) (X:v'.ownBlock=wv.ownBlock\/v'.ownBlock=some (W.heap.size+1)) :
  w1.heap[p]?=some (.cells #[fv,wv,ev] 314 (0,0))/\Wk b0 (w1.setCell ⟨p,1,none⟩ v') p fv (way++[c]) ends v' ev/\Frm W (w1.setCell ⟨p,1,none⟩ v') p wv ev/\x0T W wv v':=by
 have s:=h.lt;obtain⟨J,d⟩:=h.pw;have K:∀g,g<W.heap.size->(W.alloc o).heap[g]?=W.heap[g]?:=fun g C=>((Below.refl W.heap.size W).alloc (l0r _) _).block g C
 have L:∀g,g<W.heap.size->wv.ownBlock≠some g->w1.heap[g]?=W.heap[g]?:=fun g Z D=>by
  rw[C.block g P8P (fun e=>D e.symm),K g Z]
 have f:W.heap.size+1<=w1.heap.size:=(by simpa using C.size);have Y:w1.heap[p]?=some (.cells #[fv,wv,ev] 314 (0,0)):=by rw[L p s J];exact h.blk
 have t:x0T W wv v':=fun g Q=>i8a
 have l:Ok .i32 21 w1 b0 v' (way++[c]):=by
  refine Ok.of (h.w.1.snoc (x1i I)) P8P F M7N M7N
 have y:∀g,v'.ownBlock=some g->g≠p:=fun g Z D=>by
  subst D;rcases t g Z with h3 | h3
  ·exact J h3
  ·omega
 refine⟨Y,⟨?_,h.own,?_,?_,?_⟩,?_,t⟩
 ·rw[x0c Y];rfl
 ·refine l.keep fun g Z=>?_;rw[x0e _ (y g Z)]
 ·refine h.e.keep fun g Z=>?_;have E:=(h.e.2.2.lt g Z).2;rw[x0e _ (fun e=>by subst e;exact d Z),L g E (fun e=>h.ap g e Z)]
 ·intro g Z D;rcases t g Z with h3 | h3
  ·exact h.ap g h3 D
  ·have:=(h.e.2.2.lt g D).2;omega
 ·refine⟨?_,?_,?_,u2o,fun g Z D h3 _=>by rw[x0e _ D,L g Z h3]⟩
  ·have:=(x0b (Below.refl 0 w1) (g:=p) (j:=1) (Nat.zero_le _) v').os;rw[this,C.os];rfl
  ·have:=(x0b (Below.refl 0 w1) (g:=p) (j:=1) (Nat.zero_le _) v').tape;rw[this,C.tape];rfl
  ·have:=(x0b (Below.refl 0 w1) (g:=p) (j:=1) (Nat.zero_le _) v').output;rw[this,C.output];rfl
theorem Wk.up{b0 W p fv}{way ends ev ao len cap}{c}(h:Wk b0 W p fv (way++[c]) ends (.slice ao len cap) ev) :
  Wk b0 (W.setCell ⟨p,1,none⟩ (.slice ao way.length cap)) p fv way ends (.slice ao way.length cap) ev/\Frm W (W.setCell ⟨p,1,none⟩ (.slice ao way.length cap)) p (.slice ao len cap) ev/\x0T W (.slice ao len cap) (.slice ao way.length cap):=by
 obtain⟨J,d⟩:=h.pw
 have r:∀g,(Value.slice ao way.length cap).ownBlock=some g->(Value.slice ao len cap).ownBlock=some g:=fun g C=>by
  cases ao with
  | none=>simp[Value.ownBlock]at C
  | some a=>simpa[Value.ownBlock]using C
 have B:len=way.length+1:=by
  obtain⟨_,_,e,_,_⟩:=h.w.sk.shape;simp at e;omega
 have G:Ok .i32 21 W b0 (.slice ao way.length cap) way:=by
  refine⟨fun z T=>h.w.1 z (by simp[T]),by have:=h.w.2.1;simp at this ⊢;exact f6J,?_⟩;have D:=h.w.2.2;refine⟨M7L,?_⟩;rcases D.2 with⟨e,_⟩ | ⟨g,t,P,e,C,H,F,A,f,U⟩
  ·simp at e;omega
  ·simp only[Value.slice.injEq]at e;obtain⟨rfl,E,rfl⟩:=e;simp only[List.length_map]at *;refine .inr ⟨g,cap,P,rfl,C,H,by simp at F;exact f6J,A,f,?_⟩;have:=congrArg (List.take (way.length*1)) U;rw[List.take_take,List.map_append,List.take_append_of_le_length M7L]at this;rw[List.take_of_length_le (l:=way.map (Value.int .i32)) M7L]at this;simpa[Nat.min_eq_left (f6J:way.length<=way.length+1)]using this
 refine⟨⟨?_,h.own,?_,?_,?_⟩,?_,fun g C=>.inl (r g C)⟩
 ·rw[x0c h.blk];rfl
 ·refine G.keep fun g Z=>?_;rw[x0e _ (fun e=>by subst e;exact J (r _ Z))]
 ·refine h.e.keep fun g Z=>?_;rw[x0e _ (fun e=>by subst e;exact d Z)]
 ·exact fun g Z=>h.ap g (r g Z)
 ·refine⟨?_,?_,?_,u2o,fun g Z D _ _=>by rw[x0e _ D]⟩
  ·exact(x0b (Below.refl 0 W) (g:=p) (j:=1) (Nat.zero_le _) _).os
  ·simp_all
  ·exact(x0b (Below.refl 0 W) (g:=p) (j:=1) (Nat.zero_le _) _).output
theorem Sk.frm{W W' p wv ev v zs}(h:Sk .i32 W v zs)(o:Frm W W' p wv ev)(F:∀b off len cap,v=.slice (some ⟨b,off,none⟩) len cap->0<len->b≠p/\wv.ownBlock≠some b/\ev.ownBlock≠some b):Sk .i32 W' v zs:=by
 obtain⟨Z,D,J⟩:=h;refine⟨Z,D,?_⟩;rcases J with J | ⟨b,off,cap,N,S,z,I⟩
 ·exact .inl J
 ·refine .inr ⟨b,off,cap,N,S,z,fun i hi=>?_⟩;obtain⟨t,f,T⟩:=F b off _ cap N f6J;have E:=x0a (I i hi);rw[World.cell?_of_block (o.keep b E t f T)];exact I i hi
def z9c(g:Nat)(fa cb:Array Value)(rs:List Rec)(w0:World)(f:Nat):Prop:=∀(way:List Int) (c:Int) (out:List Int) (W:World) (p:Nat) (wv ev:Value),way.length+f=16->out.length<=32->Rune c->Below w0.heap.size w0 W ->
 Wk w0.heap.size W p (.func (.func g) fa cb) way out wv ev->Calls prog 239 #[.pointer (some ⟨p,0,none⟩),.int .i32 c] W (x5G w0.heap.size W p (.func (.func g) fa cb) way wv ev (Cn.walk rs f way c out))
theorem OpB.apart{w0 W W1 p fv way ends}{wv ev vt zs}(h:Wk w0.heap.size W p fv way ends wv ev)(hk:Sk .i32 w0 vt zs\/Ok .i32 21 W1 W.heap.size vt zs) :
  ∀b off len cap,vt=.slice (some ⟨b,off,none⟩) len cap->0<len->b≠p/\wv.ownBlock≠some b/\ev.ownBlock≠some b:=by
 intro b off len cap e S;have s:=h.lt;have j:=h.own;have q:∀g,wv.ownBlock=some g->w0.heap.size<=g/\g<W.heap.size:=fun g C=>h.w.2.2.lt g C;have P:∀g,ev.ownBlock=some g->w0.heap.size<=g/\g<W.heap.size:=fun g C=>h.e.2.2.lt g C
 have Y:b<w0.heap.size\/W.heap.size<=b:=by
  rcases hk with hk | hk
  ·left;subst e
   have T:0<zs.length:=by
    obtain⟨_,_,e,_,_⟩:=hk.shape;simp at e;omega
   obtain⟨A,B,t,e,_,_,I⟩:=hk.place T;simp at e;have:=x0a (I 0 T);omega
  ·right;exact(hk.2.2.lt b (by subst e;rfl)).1
 refine⟨f6J,fun e=>?_,fun e=>?_⟩
 ·have:=q b e;omega
 ·have:=P b e;omega
theorem y0O g fa cb rs w0(H:y2m g fa cb rs w0)(q:∀args w,(callFunc g args).run prog w=.ok (.enter g args) w) way c out W p wv ev(D:out.length<=32)(i:Cn.opn rs c=[])(I:Rune c)(P:Bw w0 W)(h:Wk w0.heap.size W p (.func (.func g) fa cb) way out wv ev) :
  Calls prog 239 #[.pointer (some ⟨p,0,none⟩),.int .i32 c] W (x5G w0.heap.size W p (.func (.func g) fa cb) way wv ev (if 32<=out.length then([],2)else(out++[c],0))):=by
 have K:=O (H c W P I);have d:W.cell? ⟨p,0,none⟩=some (.func (.func g) fa cb):=cell_of (j:=0) h.blk T7b;rw[i]at K;have n:Hid (∀N,Bw W N->Calls prog 269 #[.pointer (some ⟨p,0,none⟩),.int .i32 c] N (z2h w0.heap.size N p (.func (.func g) fa cb) way out wv ev c)):=fun N Y=>z4M _ N p _ way out wv ev c (h.below Y) (by have:=P.size;have:=Y.size;exact f6J) D I;have S:Hid (32<=out.length->(if 32<=out.length then(([]:List Int),(2:Int))else(out++[c],0))=([],2)):=fun h=>if_pos h;have Z:Hid (out.length<32->(if 32<=out.length then(([]:List Int),(2:Int))else(out++[c],0))=(out++[c],0)):=fun h=>if_neg f6J;generalize(if 32<=out.length then(([]:List Int),(2:Int))else(out++[c],0))=r at *;go_enter func239,ntmps239;go_wp2_with fail;refine(V K).mono ?_;rintro t N ⟨X,rfl,G,F⟩
 have L:Sk .i32 N X []:=e3k
 obtain⟨J,M,rfl,_,_⟩:=L.shape;have C:=O (V n N F);have F0:Hid (Frm W N p wv ev):=Frm.of_below F;go_wp2_with fail;refine(V C).mono ?_;rintro E x (⟨A,rfl,rfl⟩ | ⟨A,rfl,k,a,B,b⟩)
 ·obtain rfl:=V S A;have U:x5G w0.heap.size W p (.func (.func g) fa cb) way wv ev ([],2) (.panicked [{ v:=.iface 29 (.int .i64 2),recovered:=false }]) x:=⟨V F0,.inl ⟨e8N,rfl⟩⟩;go_wp2;exact⟨rfl,U⟩
 ·obtain rfl:=V Z A
  have U:x5G w0.heap.size W p (.func (.func g) fa cb) way wv ev (out++[c],0) (.returned (.tuple #[])) x :=
   ⟨(V F0).trans B (x0T.refl _ _) (x0T.refl _ _),.inr ⟨rfl,rfl,wv,k,a,x0T.refl _ _,b.trans_left (V F0).size⟩⟩
  go_wp2;refine bodyPost_ret (results_none rfl _ _ _) rfl ?_;exact U
theorem y0P g fa cb rs w0(H:y2m g fa cb rs w0)(q:∀args w,(callFunc g args).run prog w=.ok (.enter g args) w)(B:∀c,(Cn.opn rs c).length<=1000000000) way c out W p wv ev(E:way.length<=16)(i:Cn.opn rs c≠[])(l:c∈way)(I:Rune c)(P:Bw w0 W)(h:Wk w0.heap.size W p (.func (.func g) fa cb) way out wv ev) :
  Calls prog 239 #[.pointer (some ⟨p,0,none⟩),.int .i32 c] W (x5G w0.heap.size W p (.func (.func g) fa cb) way wv ev ([],72)):=by
 have K:=O (H c W P I);have X:W.cell? ⟨p,0,none⟩=some (.func (.func g) fa cb):=cell_of (j:=0) h.blk T7c;have S:=B c;have y:0<(Cn.opn rs c).length:=List.length_pos_iff.2 i;have Q:=O (fun W1 vt G=>OpB.apart (W1:=W1) (vt:=vt) (zs:=Cn.opn rs c) h G);have A:=O (fun W1 (Y:Bw W W1)=>h.below Y);have N:=h.w.sk.shape;generalize Cn.opn rs c=zs at *;have s:((zs.length:Int)==0)=false:=(by grind);go_enter func239,ntmps239;go_wp2_with fail;refine(V K).mono ?_;rintro t W1 ⟨vt,rfl,G,F⟩
 have L:Sk .i32 W1 vt zs:=e3k
 have D:=V Q W1 vt G;have Z:=V A W1 F;have F0:Hid (Frm W W1 p wv ev):=Frm.of_below F;have T:Bw w0 W1:=P.trans (F.mono P.size);obtain⟨d,J,rfl,_,_⟩:=L.shape;obtain⟨M,C,rfl,_,_⟩:=N;have u:W1.cell? ⟨p,1,none⟩=some (.slice M way.length C):=cell_of (j:=1) Z.blk f2O;have b:=O (x2H _ way c W1 Z.w.sk f6J);rw[d0t l]at b;have U:x5G w0.heap.size W p (.func (.func g) fa cb) way (.slice M way.length C) ev ([],72) (.panicked [{ v:=.iface 29 (.int .i64 72),recovered:=false }]) W1:=⟨V F0,.inl ⟨e8N,rfl⟩⟩;go_wp2_with fail;refine c0m b fun x a=>?_;subst a;go_wp2;exact⟨rfl,U⟩
theorem y8D g fa cb rs w0(H:y2m g fa cb rs w0)(q:∀args w,(callFunc g args).run prog w=.ok (.enter g args) w)(B:∀c,(Cn.opn rs c).length<=1000000000) way c out W p wv ev(E:way.length=16)(i:Cn.opn rs c≠[])(l:¬c∈way)(I:Rune c)(P:Bw w0 W)(h:Wk w0.heap.size W p (.func (.func g) fa cb) way out wv ev) :
  Calls prog 239 #[.pointer (some ⟨p,0,none⟩),.int .i32 c] W (x5G w0.heap.size W p (.func (.func g) fa cb) way wv ev ([],73)):=by
 have K:=O (H c W P I);have X:W.cell? ⟨p,0,none⟩=some (.func (.func g) fa cb):=cell_of (j:=0) h.blk T7c;have S:=B c;have y:0<(Cn.opn rs c).length:=List.length_pos_iff.2 i;have Q:=O (fun W1 vt G=>OpB.apart (W1:=W1) (vt:=vt) (zs:=Cn.opn rs c) h G);have A:=O (fun W1 (Y:Bw W W1)=>h.below Y);have N:=h.w.sk.shape;generalize Cn.opn rs c=zs at *;have s:((zs.length:Int)==0)=false:=(by grind);go_enter func239,ntmps239;go_wp2_with fail;refine(V K).mono ?_;rintro t W1 ⟨vt,rfl,G,F⟩
 have L:Sk .i32 W1 vt zs:=e3k
 have D:=V Q W1 vt G;have Z:=V A W1 F;have F0:Hid (Frm W W1 p wv ev):=Frm.of_below F;have T:Bw w0 W1:=P.trans (F.mono P.size);obtain⟨d,J,rfl,_,_⟩:=L.shape;obtain⟨M,C,rfl,_,_⟩:=N;have u:W1.cell? ⟨p,1,none⟩=some (.slice M way.length C):=cell_of (j:=1) Z.blk f2O;have b:=O (x2H _ way c W1 Z.w.sk f6J);rw[d0f l]at b;have U:x5G w0.heap.size W p (.func (.func g) fa cb) way (.slice M way.length C) ev ([],73) (.panicked [{ v:=.iface 29 (.int .i64 73),recovered:=false }]) W1:=⟨V F0,.inl ⟨e8N,rfl⟩⟩;rw[E]at b u U;go_wp2_with fail;refine c0m b fun x a=>?_;subst a;go_wp2;exact⟨rfl,U⟩
theorem Sk.cellAt{K w b off len cap zs}(h:Sk K w (.slice (some ⟨b,off,none⟩) len cap) zs){i}(hi:i<zs.length):w.cell? ⟨b,off+i,none⟩=some (.int K (zs.getD i 0)):=by
 obtain⟨p,B,t,e,_,_,I⟩:=h.place f6J;simp only[Value.slice.injEq,Option.some.injEq,Addr.mk.injEq,and_true]at e;obtain⟨⟨rfl,rfl⟩,_,_⟩:=e;exact I i hi
theorem z6J g fa cb rs w0(hO:y2m g fa cb rs w0)(eg:∀args w,(callFunc g args).run prog w=.ok (.enter g args) w)(ay:∀c,(Cn.opn rs c).length<=1000000000) way c out W p wv ev f(ih:z9c g fa cb rs w0 f)(bt:way.length+f+1=16)(aR:out.length<=32)(aS:Cn.opn rs c≠[])(aN:¬c∈way)(hc:Rune c)(hW:Bw w0 W)(h:Wk w0.heap.size W p (.func (.func g) fa cb) way out wv ev) :
  Calls prog 239 #[.pointer (some ⟨p,0,none⟩),.int .i32 c] W (x5G w0.heap.size W p (.func (.func g) fa cb) way wv ev ((Cn.opn rs c).foldl (Cn.stepW rs f (way++[c])) (out,0))):=by
 have K:=O (hO c W hW hc);have x0:W.cell? ⟨p,0,none⟩=some (.func (.func g) fa cb):=cell_of (j:=0) h.blk T7d;obtain⟨i0,hi,aW,aX,aY⟩:=info_parts Tryz.info21;have S:Hid (∀x o,o.length<=32->(Cn.walk rs f (way++[c]) x o).1.length<=32):=fun x o ho=>Cn.y0v rs f (way++[c]) x o ho;have aj:Hid (∀(X:List Int) (o:List Int) (k:Nat),k<X.length->(X.drop k).foldl (Cn.stepW rs f (way++[c])) (o,0)=(X.drop (k+1)).foldl (Cn.stepW rs f (way++[c])) (Cn.walk rs f (way++[c]) (X.getD k 0) o)):=fun X o k G=>Cn.x6L G;have U:Hid (∀(X:List Int) (s:List Int×Int),s.2≠0->X.foldl (Cn.stepW rs f (way++[c])) s=s):=Cn.x1H rs f (way++[c]);have IH:=O ih;have hl:=ay c;have aQ:0<(Cn.opn rs c).length:=List.length_pos_iff.2 aS;have HA:=O (fun W1 vt G=>OpB.apart (W1:=W1) (vt:=vt) (zs:=Cn.opn rs c) h G);have A:=O (fun W1 (Y:Bw W W1)=>h.below Y);have aV:=h.w.sk.shape;generalize Cn.opn rs c=zs at *;have bn:((zs.length:Int)==0)=false:=G9l;obtain⟨r,u⟩:∃r,zs.foldl (Cn.stepW rs f (way++[c])) (out,0)=r:=⟨_,rfl⟩;rw[u];have HR:=O u;go_enter func239,ntmps239;go_wp2_with fail;refine(V K).mono ?_;rintro e1 W1 ⟨vt,rfl,G,F⟩
 have hs:Sk .i32 W1 vt zs:=by
  rcases G with h | h
  ·exact(h.below hW).below F
  ·exact h.sk
 have aI:=V HA W1 vt G;have Z:=V A W1 F;have F0:Hid (Frm W W1 p wv ev):=Frm.of_below F;have T:Bw w0 W1:=hW.trans (F.mono hW.size);obtain⟨tb,bj,bh,rfl,_,_,_⟩:=hs.place aQ;obtain⟨M,C,rfl,_,_⟩:=aV;have x1:W1.cell? ⟨p,1,none⟩=some (.slice M way.length C):=cell_of (j:=1) Z.blk f2P;have KC:=O (x2H _ way c W1 Z.w.sk f6J);rw[d0f aN]at KC;have be:((way.length:Int)==16)=false:=G9l;have az:∀o,(W1.alloc o).ownsRow w0.heap.size 21 1 (.slice M way.length C) way.length (way.map (Value.int .i32)):=fun o=>Z.w.row.alloc o;have D:=O az;have HD:=O (fun o v' w1 a b c'=>Z.down (o:=o) (v':=v') (w1:=w1) (c:=c) f6J hc a b c');have HS:=O (fun W' p' E ae (hf:Frm W1 W' p' E ae) hn=>hs.frm (p:=p') (wv:=E) (ev:=ae) hf hn);have aF:=O aI;have aT:=T.size;have aH:=O T;have ba:=hs.1;have H1:=O Z;have aG:=O (fun k G=>x0W hs (i:=k) G);go_wp2_with fail;refine c0m KC fun W2 bp=>?_;subst W2;go_wp2_with(at_builtin;refine wpList_append_own_at _ rfl (.tmp 40) (.tmp 42) 36 rfl w0.heap.size 21 i0 (.int .i32 0) 1 4 underlying36 hi aW aX aY rfl e8Q _ _ _ rfl (V D _) ⟨W1.heap.size,0,none⟩ 1 1 [.int .i32 c] rfl rfl (cell_one_new _ _ _) (x1j _ _) T7X f6J P8P ?_);intro v' w1 B aM _ ar;obtain⟨F,l,aL,aO⟩:=V HD _ v' w1 B aM ar;have hm:(way++[c]).length=way.length+1:=(by simp);obtain⟨bm,aZ,aA,_,_⟩:=l.w.sk.shape;rw[hm]at aA;subst aA;have y1:w1.cell? ⟨p,1,none⟩=some (.slice M way.length C):=cell_of (j:=1) F f2P;have yf:=x0d (j:=1) F;have A:=O l;have ab:=O aL;have y:=O aO;go_wp2;go_loopw[6,48] (fun _ i wr=>∃(k:Nat) (o:List Int) (E ae:Value),i=.int .i64 k/\k<=zs.length/\o.length<=32/\Hid ((zs.drop k).foldl (Cn.stepW rs f (way++[c])) (o,0)=r)/\Hid (Wk w0.heap.size wr p (.func (.func g) fa cb) (way++[c]) o E ae)/\Hid (Frm W1 wr p (.slice M way.length C) ev)/\Hid (x0T W1 (.slice M way.length C) E)/\Hid (x0T W1 ev ae)) (fun _ i _=>zs.length-(intOf i).toNat)
 case atStart=>exact⟨0,out,_,ev,rfl,f6J,aR,HR,A,ab,y,x0T.refl _ _⟩
 case round =>
  obtain⟨k,o,E,ae,rfl,G,ho,HR,A,ab,y,af⟩:=hrel;by_cases am:k<zs.length
  ·have a0:=(V HS wr p (.slice M way.length C) ev (V ab) (V aF)).cellAt am;have aU:=V aj zs o k am;have aD:=(V U);have m:=(V A);have aJ:Bw w0 wr:=(V aH).trans ((V ab).below (V H1) aT);have KD:=O (V IH (way++[c]) (zs.getD k 0) o wr p E ae P8P ho (V aG k am) aJ m);have ag:=V S (zs.getD k 0) o ho;have I:Hid ((zs.drop (k+1)).foldl (Cn.stepW rs f (way++[c])) (Cn.walk rs f (way++[c]) (zs.getD k 0) o)=r):=aU ▸ (V HR);have ai:=(V ab).size;generalize Cn.walk rs f (way++[c]) (zs.getD k 0) o=q at *;generalize zs.getD k 0=x at *;go_wp2_with fail;refine(V KD).mono ?_;rintro e3 w3 ⟨J,⟨d,aw⟩ | ⟨d,rfl,aC,R,aB,aP,t⟩⟩
   ·have u:q=r:=(V U _ q d).symm.trans (V I);subst u;unfold Gave at aw;subst aw
    have HF:x5G w0.heap.size W p (.func (.func g) fa cb) way (.slice M way.length C) ev q (.panicked [{ v:=.iface 29 (.int .i64 q.2),recovered:=false }]) w3 :=
     ⟨(V F0).trans ((V ab).trans J (V y) (V af)) (x0T.refl _ _) (x0T.refl _ _),.inl ⟨d,rfl⟩⟩
    go_wp2;exact⟨rfl,HF⟩
   ·obtain⟨q1,q2⟩:=q;simp only at d ag aB;subst d;have P:=O aB;have L:Hid (Frm W1 w3 p (.slice M way.length C) ev):=(V ab).trans J (V y) (V af);have aq:Hid (x0T W1 (.slice M way.length C) aC):=(V y).trans aP ai;have N:Hid (x0T W1 ev R):=(V af).trans t ai;go_wp2
    go_roundw
    case rel=>exact⟨k+1,q1,aC,R,g2E,f6J,ag,I,P,L,aq,N⟩
    case measure=>exact g7W
  ·obtain rfl:k=zs.length:=by omega
   have u:r=(o,0):=by
    have:=V HR;rw[List.drop_length]at this;exact this.symm
   subst u;have m:=V A;obtain⟨Q,H,rfl,_,_⟩:=m.w.sk.shape
   have z:Hid (∀n,x5G w0.heap.size W p (.func (.func g) fa cb) way (.slice M way.length C) ev (o,0) (.returned (.tuple #[])) ((wr.drewN n).setCell ⟨p,1,none⟩ (.slice Q way.length H))):=fun n=>by
    have Y:=x0i (w:=wr) ⟨n,rfl⟩;obtain⟨u1,u2,u3⟩:=(m.below Y).up;have g1:Frm W1 (wr.drewN n) p (.slice M way.length C) ev:=(V ab).trans (Frm.of_below Y) (V y) (V af);have s1:=(V ab).size;have s2:=Y.size;have s0:=(V F0).size;refine⟨(V F0).trans (g1.trans u2 (V y) (V af)) (x0T.refl _ _) (x0T.refl _ _),.inr ⟨rfl,rfl,_,ae,u1,?_,?_⟩⟩
    ·exact((V y).trans u3 f6J).trans_left s0
    ·exact(V af).trans_left s0
   have y1:wr.cell? ⟨p,1,none⟩=some (.slice Q (way++[c]).length H):=cell_of (j:=1) m.blk f2P;have yf:=x0d (j:=1) m.blk
   have aK:way.length+1<=H:=by
    obtain⟨_,_,e,h5,_⟩:=m.w.sk.shape;simp at e h5;omega
   rw[show(way++[c]).length=way.length+1 by simp]at y1;go_wp2;go_region;go_wp2;go_end0;exact V z _
theorem z2V g fa cb rs w0(H:y2m g fa cb rs w0)(q:∀args w,(callFunc g args).run prog w=.ok (.enter g args) w)(B:∀c,(Cn.opn rs c).length<=1000000000):∀f,z9c g fa cb rs w0 f:=by
 intro f
 induction f with
 | zero =>
  intro C c out W p A E o D I P h;by_cases i:Cn.opn rs c=[]
  ·exact t7n
  ·by_cases l:c∈C
   ·exact I4J
   ·rw[Cn.x7M i l];exact y8D g fa cb rs w0 H q B C c out W p A E f6J i l I P h
 | succ f ih =>
  intro C c out W p A E o D I P h;by_cases i:Cn.opn rs c=[]
  ·exact t7n
  ·by_cases l:c∈C
   ·exact I4J
   ·rw[Cn.x7N i f l];exact z6J g fa cb rs w0 H q B C c out W p A E f ih f6J D i l I P h
end Go.Proofs.YtkfcabdmkmljjaaGreatDoor
namespace Go.Proofs.YtkfcabdmkmljjaaGreatDoor.Cn
open Go.Proofs.Tryz
theorem x1x{p:Prop}[Decidable p](h:(if p then(0:Int)else 61)=0):p:=by grind
theorem x0x{r}(h:right r=0):fam r.kind≠0:=fun e=>by
 unfold right at h;rw[if_pos e]at h;exact absurd h e8M
theorem x0p{r}(h:right r=0)(G:r.kind≠15):0<=r.lo/\r.lo<=r.hi/\r.hi<=1114111:=by
 have o:=x0x h;unfold right at h;rw[if_neg o,if_neg G]at h;have I:=x1x h;rw[Bool.and_eq_true]at I;exact o0d I.1
theorem right_step{r}(h:right r=0):1<=step r/\step r<=64:=by
 unfold step;by_cases H:r.kind=4
 ·rw[if_pos H];have o:=x0x h;unfold right at h;rw[if_neg o,if_neg f6J]at h;have I:=x1x h;rw[Bool.and_eq_true,if_neg f6J,if_neg f6J,if_pos H]at I;have D:=I.2;simp only[Bool.and_eq_true]at D;have:=o0d D.1.1.2;omega
 ·rw[if_neg H];omega
theorem x0v{x a b}(h:list x a b=true):(a<=x.length/\x.length<=b)/\∀c∈x,scalar c=true:=by
 unfold list at h;rw[Bool.and_eq_true]at h;exact⟨o0d h.1,List.all_eq_true.1 h.2⟩
theorem x0C{r}(h:right r=0)(y:r.kind=7):r.lo=r.hi/\scalar r.lo=true/\list r.to 2 2=true:=by
 have o:=x0x h;unfold right at h;rw[if_neg o,if_neg f6J]at h;have I:=x1x h;rw[Bool.and_eq_true,if_neg f6J,if_neg f6J,if_neg f6J,if_neg f6J,if_neg f6J,if_neg f6J,if_pos y]at I;exact m6R
theorem x2v{r}(h:right r=0)(W:r.kind=8):r.lo=r.hi/\scalar r.lo=true/\list r.to 1 2=true:=by
 have o:=x0x h;unfold right at h;rw[if_neg o,if_neg f6J]at h;have I:=x1x h;rw[Bool.and_eq_true,if_neg f6J,if_neg f6J,if_neg f6J,if_neg f6J,if_neg f6J,if_neg f6J,if_neg f6J,if_pos W]at I;exact m6R
theorem x5c:∀(l:List Rec) (i:Nat),x0Y i l=Option.none->∀r∈l,right r=0
 | [],_,_=>fun r hr=>by cases hr
 | x::l,i,h=>fun r hr=>by
  rw[x0Y]at h;split at h
  ·next hx =>
   rcases List.mem_cons.1 hr with rfl | hr
   ·exact hx
   ·exact x5c l (i+1) h r hr
  ·cases h
theorem x2j:∀(l:List Rec) (i:Nat) (x:Nat×Int),x0Y i l=some x->x.2≠0
 | [],_,_,h=>by rw[x0Y]at h;exact m5j
 | y::l,i,x,h=>by
  rw[x0Y]at h;split at h
  ·exact x2j l (i+1) x h
  ·next hx=>cases h;exact hx
theorem x1G{l}(h:(check6 l).2=0):l.length<=4096/\∀r∈l,right r=0:=by
 unfold check6 at h;split at h
 ·exact absurd h e8N
 ·next hl =>
  refine⟨f6J,?_⟩;split at h
  ·next x hx=>exact absurd h (x2j _ _ _ hx)
  ·next hx=>exact x5c _ _ hx
end Go.Proofs.YtkfcabdmkmljjaaGreatDoor.Cn
