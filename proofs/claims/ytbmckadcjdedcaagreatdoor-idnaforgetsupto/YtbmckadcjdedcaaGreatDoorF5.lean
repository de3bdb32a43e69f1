import Derived.Test.YtbmckadcjdedcaaGreatDoorF3
import Derived.Shelf.Abstract
import Derived.Lib.Walk
import Derived.Maps.AppendAt
import Derived.Deep.RegionHeld3
set_option maxHeartbeats 4000000
set_option maxRecDepth 8000
namespace Go.Proofs.YtbmckadcjdedcaaGreatDoor
open Go.Proofs.Tryz
open Go.RowKit
section
variable{p:Prop}
theorem F4o(h:p:=by simpa[List.getD,G]using L):p:=h
theorem U7G(h:p:=by go_wp2;go_ret;exact T):p:=h
theorem I2e(h:p:=by have:=h.size;exact f6J):p:=h
theorem W2f(h:p:=by unfold Cn.opn;rw[if_neg U,D]):p:=h
theorem w7A(h:p:=by go_enter func265,ntmps265;go_wp2_with fail;refine c0m K fun Q F=>?_;subst Q;go_wp2;go_ret2;exact⟨rfl,rfl⟩):p:=h
theorem v9L(h:p:=by go_wp2_with fail;refine c0m K fun Q F=>?_;subst Q;go_wp2;go_ret;exact⟨rfl,rfl⟩):p:=h
theorem m6R(h:p:=by have D:=I.2;simp only[Bool.and_eq_true]at D;exact⟨o0d D.1.1.1,D.1.1.2,D.2⟩):p:=h
theorem G1k(h:p:=by rw[Cn.x2v i _ X];exact y0l g fa cb rs w0 H D s B c out W p E C f6J i X I t h):p:=h
theorem W8h(h:p:=by go_enter func176,ntmps176;exact t6u):p:=h
theorem U7H(h:p:=by go_wp2;go_ret;exact T):p:=h
theorem R3I(h:p:=by go_enter func133,ntmps133;go_wp2;go_ret;exact⟨rfl,((b0r).alloc (l0r _) _).alloc M7L _⟩):p:=h
theorem S9r(h:p:=by rw[Cn.x0Y i];exact y0k g fa cb rs w0 H D B c out W p E C A i I t h):p:=h
theorem m1L(h:p:=by
 rcases G with h|h
 ·exact(h.below t).below E
 ·exact h.sk):p:=h
theorem U2E(h:p:=by unfold Cn.syl at U;simpa using U):p:=h
theorem G5X(h:p:=by simpa[Value.ownBlock]using e):p:=h
theorem t9C(h:p:=by exact(b0r).alloc (l0r _) _):p:=h
theorem f8B(h:p:=by rw[x1a];exact f6J):p:=h
theorem f2P(h:p:=by show 1<3;exact f6J):p:=h
theorem f5g(h:p:=by
 rcases N with e|e
 ·exact .inl (e ▸ Q)
 ·grind):p:=h
theorem T7e(h:p:=by show 0<3;exact f6J):p:=h
theorem m6h(h:p:=by simp[o]):p:=h
theorem U4w(h:p:=by show 2<3;exact f6J):p:=h
theorem G9l(h:p:=by rw[beq_eq_false_iff_ne];exact f6J):p:=h
theorem f5Z(h:p:=by first| rfl | trivial):p:=h
theorem s5V(h:p:=by exact⟨k+1,g2A,f6J,V U,V T⟩):p:=h
end
def fbR(p:Rec->Bool):Nat->List Rec->Int
 | _,[]=>-1
 | i,r::l=>if p r then(i:Int)else fbR p (i+1) l
theorem z5u{p:Rec->Bool}{rs:List Rec}{k x}(G:k<rs.length)(h:x=fbR p k (rs.drop k))(L:p (rs.getD k Cn.none)=true):x=(k:Int):=by
 rw[h,List.drop_eq_getElem_cons G,fbR,if_pos];exact F4o
theorem z1P{p:Rec->Bool}{rs:List Rec}{k x}(G:k<rs.length)(h:x=fbR p k (rs.drop k))(L:p (rs.getD k Cn.none)=false):x=fbR p (k+1) (rs.drop (k+1)):=by
 rw[h,List.drop_eq_getElem_cons G,fbR,if_neg];have:p rs[k]=false:=F4o;simp[this]
theorem z5t{p:Rec->Bool}{rs:List Rec}{x}(h:x=fbR p rs.length (rs.drop rs.length)):x=-1:=by
 rw[h,List.drop_length,fbR]
theorem y0o:∀args w,(callFunc 181 args).run prog w=.ok (.enter 181 args) w:=f0h
def AsksR(g:Nat)(cap:Array Value)(p:Rec->Bool)(w:World)(rs:List Rec):Prop:=∀(k:Nat) (vt:Value) (W:World),k<rs.length->Below w.heap.size w W->Sk .i32 W vt (rs.getD k Cn.none).to->Calls prog g (#[recV (rs.getD k Cn.none) vt]++cap) W (x0c W (p (rs.getD k Cn.none)))
def RIn(w:World)(v:Value)(rs:List Rec)(W:World):Prop:=Rcs W v rs/\Below w.heap.size w W
theorem RIn.on{w W W' v rs}(h:RIn w v rs W)(Y:Bw W W'):RIn w v rs W':=⟨h.1.below Y,h.2.trans (Y.mono h.2.size)⟩
theorem x7A B C(p:Rec->Bool) v rs w(N:Rcs w v rs)(j:AsksR 181 #[.pointer (some ⟨B,0,none⟩),.pointer (some ⟨C,0,none⟩)] p w rs) :
  Calls prog 168 #[v,.func (.func 181) #[] #[.pointer (some ⟨B,0,none⟩),.pointer (some ⟨C,0,none⟩)]] w (IntB w (fbR p 0 rs)):=by
 have D:=y0o;have L:Hid (RIn w v rs w):=⟨N,b0r⟩;have A:=O j;have F:Hid (fbR p 0 rs=fbR p 0 (rs.drop 0)):=R6P;have s:=N.1;obtain⟨R,M,rfl,Z,l⟩:=N.shape;generalize hq:fbR p 0 rs=x at *;go_enter func168,ntmps168;go_wp2;go_loopw[5,8] (fun _ i wr=>∃k:Nat,i=.int .i64 k/\k<=rs.length/\x=fbR p k (rs.drop k)/\RIn w (.slice R rs.length M) rs wr) (fun _ i _=>rs.length-(intOf i).toNat)
 case atStart=>exact⟨0,rfl,f6J,V F,V L⟩
 case round =>
  obtain⟨k,rfl,G,u,X⟩:=hrel;by_cases H:k<rs.length
  ·obtain⟨b,P,J,d,o,q,I⟩:=X.1.place f6J;obtain⟨rfl,rfl⟩:R=some ⟨b,P,none⟩/\M=J:=V6s;obtain⟨x0,x1,S,x3,⟨m,g,a⟩,t,x6,x7⟩:=I k H;have r:=O (V A k m wr H X.2 a);have c:Hid (p (rs.getD k Cn.none)=true->x=(k:Int)):=fun h=>z5u H u h;have f:Hid (p (rs.getD k Cn.none)=false->x=fbR p (k+1) (rs.drop (k+1))):=fun h=>z1P H u h;have K:=O X;obtain⟨tq,Y,rfl,_,_⟩:=a.shape;clear u X I d a A;unfold recV at r;generalize p (rs.getD k Cn.none)=y at r c f;generalize(rs.getD k Cn.none).kind=kd,(rs.getD k Cn.none).lo=lo,(rs.getD k Cn.none).hi=hi,(rs.getD k Cn.none).n=n at *;generalize(rs.getD k Cn.none).name=nm,(rs.getD k Cn.none).other=ot,(rs.getD k Cn.none).wt=wt,(rs.getD k Cn.none).to.length=z at *
   cases y with
   | true =>
    obtain rfl:=V c rfl;go_wp2_with(go_at_fn 181;refine(V r).mono ?_;rintro e Q ⟨rfl,E⟩);have T:=O ((V K).on E).2;go_ret;exact i5v
   | false =>
    have U:=O (V f rfl);go_wp2_with(go_at_fn 181;refine(V r).mono ?_;rintro e Q ⟨rfl,E⟩);have T:=O ((V K).on E);go_round
    case rel=>exact s5V
    case measure=>exact g7T
  ·obtain rfl:k=rs.length:=f6J;obtain rfl:=z5t u;have T:=O X.2;exact i9r
theorem y3E(f c:Int):∀(l:List Rec) (i:Nat),fbR (fun r=>decide (Cn.fam r.kind=f)&&Cn.speaks r c) i l=Cn.findA f c i l
 | [],i=>rfl
 | r::l,i=>by
  rw[fbR,Cn.findA,y3E f c l];by_cases h:Cn.fam r.kind=f/\Cn.speaks r c=true
  ·rw[if_pos h,if_pos (by simp[h.1,h.2])]
  ·rw[if_neg h,if_neg S4r]
theorem y0t{f c:Int}(X:f<0\/10<f):∀(l:List Rec) (i:Nat),Cn.findA f c i l=-1
 | [],i=>rfl
 | r::l,i=>by
  have:=Cn.x6s r.kind;rw[Cn.findA,if_neg (fun a=>f6J),y0t X l]
theorem y3F{l f c}(X:f<=0\/10<=f):Cn.find l f c=-1:=by
 unfold Cn.find;split
 ·rfl
 ·exact y0t f6J l 0
def FindT:Prop:=∀(v:Value) (rs:List Rec) (f c:Int) (w:World),Glob w->Rcs w v rs->I64 f->(-2147483648<=c/\c<=2147483647)->Calls prog 133 #[v,.int .i64 f,.int .i32 c] w (IntB w (Cn.find rs f c))
theorem x8S:FindT:=by
 intro v rs f c w C N X I;obtain⟨u,y⟩:=X;by_cases m:f<=0
 ·rw[y3F (.inl m)];exact R3I
 ·by_cases J:10<=f
  ·rw[y3F (.inr J)];exact R3I
  ·have A:Bw w ((w.alloc (.cells #[.int .i64 f] 3)).alloc (.cells #[.int .i32 c] 21)):=((b0r).alloc (l0r _) _).alloc M7L _;have B:((w.alloc (.cells #[.int .i64 f] 3)).alloc (.cells #[.int .i32 c] 21)).cell? ⟨w.heap.size,0,none⟩=some (.int .i64 f):=f0k;have F:((w.alloc (.cells #[.int .i64 f] 3)).alloc (.cells #[.int .i32 c] 21)).cell? ⟨w.heap.size+1,0,none⟩=some (.int .i32 c):=f0k;have L:=N.below A;have P:=C.on A
   have e:Cn.find rs f c=fbR (fun r=>decide (Cn.fam r.kind=f)&&Cn.speaks r c) 0 rs:=by
    unfold Cn.find;rw[if_neg f6J,y3E]
   rw[e]
   have K:Hid (Calls prog 168 #[v,.func (.func 181) #[] #[.pointer (some ⟨w.heap.size,0,none⟩),.pointer (some ⟨w.heap.size+1,0,none⟩)]] ((w.alloc (.cells #[.int .i64 f] 3)).alloc (.cells #[.int .i32 c] 21)) (IntB ((w.alloc (.cells #[.int .i64 f] 3)).alloc (.cells #[.int .i32 c] 21)) (fbR (fun r=>decide (Cn.fam r.kind=f)&&Cn.speaks r c) 0 rs))) :=
    x7A _ _ _ v rs _ L (fun k S W G t _=>y8g _ S f c _ _ W (N.fit G) (P.on t) (by rw[t.cell (x0a B)];exact B) (by rw[t.cell (x0a F)];exact F) f6J I)
   obtain⟨R,M,rfl,Z,D⟩:=N.shape;generalize fbR (fun r=>decide (Cn.fam r.kind=f)&&Cn.speaks r c) 0 rs=x at *;go_enter func133,ntmps133;go_wp2_with fail;refine c0m K fun Q E=>?_;have T:IntB w x (.returned (.int .i64 x)) Q:=⟨rfl,x0b A E⟩;go_wp2;go_ret;exact T
theorem x3A c a b w:Calls prog 176 #[.int .i32 c,.int .i32 a,.int .i32 b] w fun e w'=>e=.returned (.bool (decide (a<=c/\c<=b)))/\w'=w:=by
 by_cases Z:a<=c
 ·by_cases D:c<=b
  ·rw[d0t ⟨Z,D⟩];exact W8h
  ·rw[d0f (fun h=>D h.2)];exact W8h
 ·rw[d0f (fun h=>Z h.1)];exact W8h
theorem x6F c w:Calls prog 174 #[.int .i32 c] w fun e w'=>e=.returned (.bool (Cn.syl c))/\w'=w:=by
 have K:=O (x3A c 44032 55203 w);have P:decide (44032<=c/\c<=55203)=Cn.syl c:=rfl;rw[P]at K;go_enter func174,ntmps174;exact v9L
theorem y4s c w(h:44032<=c/\c<=55203):Calls prog 175 #[.int .i32 c] w fun e w'=>e=.returned (.int .i32 ((c-44032)%28))/\w'=w:=by
 obtain⟨Z,D⟩:=h;have P:(c-44032).tmod 28=(c-44032)%28:=Int.tmod_eq_emod_of_nonneg f6J;go_enter func175,ntmps175;exact t6v
def sylA(c:Int):Int:=if(c-44032)%28=0 then 4352+(c-44032) / 588 else c-(c-44032)%28
def sylB(c:Int):Int:=if(c-44032)%28=0 then 4449+(c-44032) / 28%21 else 4519+(c-44032)%28
theorem z0w{rs c}(U:Cn.syl c=true):Cn.opn rs c=[sylA c,sylB c]:=by
 unfold Cn.opn sylA sylB;rw[if_pos U];split<;>rfl
theorem z6R{c}(h:44032<=c/\c<=55203):(0<=sylA c/\sylA c<=100000)/\0<=sylB c/\sylB c<=100000:=by
 unfold sylA sylB;exact G7o
theorem x6S c w(h:44032<=c/\c<=55203):Calls prog 265 #[.int .i32 c] w fun e w'=>e=.returned (.tuple #[.int .i32 (sylA c),.int .i32 (sylB c)])/\w'=w:=by
 have K:=O (y4s c w h);obtain⟨Z,D⟩:=h;by_cases A:(c-44032)%28=0
 ·have B:sylA c=4352+(c-44032) / 28 / 21:=(by unfold sylA;rw[if_pos A];exact f6J);have C:sylB c=4449+(c-44032) / 28%21:=(by unfold sylB;rw[if_pos A]);rw[B,C];rw[A]at K;have E:(c-44032).tdiv 28=(c-44032) / 28:=Int.tdiv_eq_ediv_of_nonneg f6J;have o:((c-44032) / 28).tmod 21=(c-44032) / 28%21:=Int.tmod_eq_emod_of_nonneg f6J;have i:((c-44032) / 28).tdiv 21=(c-44032) / 28 / 21:=Int.tdiv_eq_ediv_of_nonneg f6J;exact w7A
 ·have B:sylA c=c-(c-44032)%28:=(by unfold sylA;rw[if_neg A]);have C:sylB c=4519+(c-44032)%28:=(by unfold sylB;rw[if_neg A]);rw[B,C];have J:0<(c-44032)%28:=f6J;have I:(c-44032)%28<28:=f6J;exact w7A
theorem fam7:Cn.fam 7=3:=e8M
theorem fam6:Cn.fam 6=2:=e8M
theorem x5r v rs c w(C:Glob w)(N:Rcs w v rs)(I:Rune c):Calls prog 266 #[v,.int .i32 c] w (IntB w (Cn.find rs 3 c)):=by
 have B:=O (x1n 7 w C w5o);rw[fam7]at B;have K:=O (fun W (Y:Bw w W)=>x8S v rs 3 c W (C.on Y) (N.below Y) w5o I);generalize Cn.find rs 3 c=r at *;obtain⟨R,M,rfl,_,_⟩:=N.shape;go_enter func266,ntmps266;go_wp2_with fail;refine c0m B fun Q E=>?_;have o:=O (V K Q E);go_wp2_with fail;refine c0m o fun d F=>?_;have T:IntB w r (.returned (.int .i64 r)) d:=⟨rfl,x0b E F⟩;go_wp2;go_ret;exact T
theorem z7L:z7l:=by
 intro v rs c w C N I;have B:=O (x1n 6 w C w5o);rw[fam6]at B;have K:=O (fun W (Y:Bw w W)=>x8S v rs 2 c W (C.on Y) (N.below Y) w5o I);obtain⟨l,j⟩:=I;rcases hit_at N 2 c with⟨Z,D⟩|⟨k,b,P,M,Z,J,D,rfl,S,z,u,X⟩
 ·have t:Cn.cls rs c=0:=N4U;rw[t];rw[Z]at K;obtain⟨R,M,rfl,_,_⟩:=N.shape;go_enter func233,ntmps233;go_wp2_with fail;refine c0m B fun Q E=>?_;have o:=O (V K Q E);go_wp2_with fail;refine c0m o fun d F=>?_;have T:IntB w 0 (.returned (.int .i64 0)) d:=⟨rfl,x0b E F⟩;go_wp2;go_ret;exact T
 ·have t:Cn.cls rs c=(rs.getD k Cn.none).n:=N4U;rw[t];rw[Z]at K;have a:=O u;have s:=N.1;generalize rs.getD k Cn.none=r at *;go_enter func233,ntmps233;go_wp2_with fail;refine c0m B fun Q E=>?_;have o:=O (V K Q E);go_wp2_with fail;refine c0m o fun d F=>?_;have p:=((V a).below (x0b E F)).n;have T:IntB w r.n (.returned (.int .i64 r.n)) d:=⟨rfl,x0b E F⟩;go_wp2;go_ret;exact T
def OpB(w0 w:World)(zs:List Int)(e:Ending)(w':World):Prop:=∃v,e=.returned v/\(Sk .i32 w0 v zs\/Ok .i32 21 w' w.heap.size v zs)/\Below w.heap.size w w'
theorem x8m v rs c w0 w(C:Glob w)(N:Rcs w0 v rs)(t:Bw w0 w)(I:Rune c):Calls prog 231 #[v,.int .i32 c] w (OpB w0 w (Cn.opn rs c)):=by
 have B:=O (x6F c w);by_cases U:Cn.syl c=true
 ·have i:44032<=c/\c<=55203:=U2E;rw[U]at B;rw[z0w U];obtain⟨⟨G,a⟩,L,d⟩:=z6R i;have H:=O (x6S c w i);obtain⟨R,M,rfl,_,_⟩:=N.shape
  have T:OpB w0 w [sylA c,sylB c] (.returned (.slice (some ⟨w.heap.size,0,none⟩) 2 2)) (w.alloc (.cells #[.int .i32 (sylA c),.int .i32 (sylB c)] 21)) :=
   ⟨_,rfl,.inr (ok_two w _ _ f6J f6J),(b0r).alloc (l0r _) _⟩
  go_enter func231,ntmps231;go_wp2_with fail;refine c0m B fun Q F=>?_;subst Q;go_wp2_with fail;refine c0m H fun Q F=>?_;subst Q;go_wp2;go_ret;exact T
 ·have i:Cn.syl c=false:=G5Z;rw[i]at B;have K:=O (x5r v rs c w C (N.below t) I);rcases hit_at N 3 c with⟨Z,D⟩|⟨k,b,P,M,Z,J,D,rfl,S,z,u,X⟩
  ·have y:Cn.opn rs c=[]:=W2f;rw[y];rw[Z]at K;obtain⟨R,M,rfl,_,_⟩:=N.shape;go_enter func231,ntmps231;go_wp2_with fail;refine c0m B fun Q F=>?_;subst Q;go_wp2_with fail;refine c0m K fun Q Y=>?_;have T:OpB w0 w [] (.returned (.slice none 0 0)) Q:=⟨_,rfl,.inr (Ok.nil _ _ _ _),Y⟩;go_wp2;go_ret;exact T
  ·have y:Cn.opn rs c=(rs.getD k Cn.none).to:=W2f;rw[y];rw[Z]at K;have s:=N.1;obtain⟨m,g,A⟩:=u.to;have E:w.cell? ⟨b,P+k*8+4,none⟩=some m:=(by rw[t.cell (x0a g)];exact g);have r:Hid (∀W,Bw w W->W.cell? ⟨b,P+k*8+4,none⟩=some m):=fun W Y=>w3c;have j:=O A;generalize(rs.getD k Cn.none).to=l at *;go_enter func231,ntmps231;go_wp2_with fail;refine c0m B fun Q F=>?_;subst Q;go_wp2_with fail;refine c0m K fun Q Y=>?_;have g:=V r Q Y;have T:OpB w0 w l (.returned m) Q:=⟨_,rfl,.inl (V j),Y⟩;go_wp2;go_ret;exact T
theorem z0f(w:World):(w.alloc (.cells #[] 21)).ownsRow w.heap.size 21 1 (.slice (some ⟨w.heap.size,0,none⟩) 0 0) 0 []:=by
 refine⟨rfl,.inr ⟨w.heap.size,0,#[],rfl,l0r _,?_,l0r _,T7W,rfl,rfl⟩⟩;exact R0n
theorem z8H ad n cap w:(binOp BinOp.eql 40 (.slice (some ad) n cap) (.slice none 0 0)).run prog w=.ok (.bool false) w:=f4x
theorem z6m w:(binOp BinOp.eql 40 (.slice none 0 0) (.slice none 0 0)).run prog w=.ok (.bool true) w:=f4x
theorem x2Y v zs w(N:Sk .i32 w v zs)(S:zs.length<=1000000000):Calls prog 52 #[v] w (x0j w zs):=by
 obtain⟨i,hi,f,p,t⟩:=info_parts Tryz.info21;have l:=N.1;have n:(zs.map (Value.int .i32)).length=zs.length:=List.length_map _;rcases N.2.src with⟨q,rfl⟩|⟨r,L,rfl,B⟩
 ·obtain rfl:zs=[]:=W3R;have T:x0j w [] (.returned (.slice none 0 0)) w:=⟨_,rfl,Ok.nil _ _ _ _,b0r⟩;have m:=z6m;go_enter func52,ntmps52;exact U7J
 ·have I:=O (z0f w);rw[n]
  have A:∀j u,(zs.map (Value.int .i32))[j]?=some u->(w.alloc (.cells #[] 21)).cell? (r.add j)=some u:=by
   intro j u K;have h:=B j u K;have H:(r.add j).block<w.heap.size:=World.block_lt_of_cell? w _ h;exact(Below.cell ((Below.refl w.heap.size w).alloc (l0r _) _) H).trans h
  have F:Bw w (w.alloc (.cells #[] 21)):=(b0r).alloc (l0r _) _;have m:=z8H;go_enter func52,ntmps52;go_wp2_with(at_builtin;refine wpList_append_own _ rfl (.tmp 5) (.tmp 6) 40 rfl w.heap.size 21 i (.int .i32 0) 1 4 underlying40 hi f p t rfl e8P _ _ _ rfl (V I) r zs.length L (zs.map (Value.int .i32)) rfl M7M A (fun u W=>w8O) T7W f6J M7M ?_);intro J D x C _;have d:Bw w D:=F.grown C F.size (fun k G=>by simp[Value.ownBlock]at G;exact f6J);have T:x0j w zs (.returned J) D:=⟨J,rfl,Ok.of l f6J x M7M M7M,d⟩;exact U7J
theorem z1F{w v rs}(N:Rcs w v rs) c:(Cn.opn rs c).length<=1000000000:=by
 unfold Cn.opn;split
 ·split<;>simp
 ·rcases hit_at N 3 c with⟨_,D⟩|⟨k,b,P,M,Z,J,D,_,_,_,_,X⟩
  ·rw[D];simp
  ·rw[D];exact X.len
theorem openC:OpenC:=by
 intro v rs c w C N I;have K:=O (x8m v rs c w w C N (b0r) I);have S:=z1F N c;obtain⟨R,M,rfl,_,_⟩:=N.shape;generalize Cn.opn rs c=y at *;go_enter func285,ntmps285;go_wp2_with fail;refine(V K).mono ?_;rintro e Q ⟨X,rfl,G,E⟩
 have U:Sk .i32 Q X y:=by
  rcases G with h|h
  ·exact h.below E
  ·exact h.sk
 have o:=O (x2Y X y Q U S);go_wp2_with fail;refine(V o).mono ?_;rintro e d ⟨j,rfl,f,F⟩;have T:x0j w y (.returned j) d:=⟨j,rfl,f.lower E.size,x0b E F⟩;exact U7G
theorem primC:PrimC:=by
 intro v rs c w hg N I;have B:=O (x6F c w);by_cases U:Cn.syl c=true
 ·have i:44032<=c/\c<=55203:=(by unfold Cn.syl at U;exact G5Z);rw[U]at B;have hp:Cn.prim rs c=some (sylA c,sylB c):=(by unfold Cn.prim;rw[if_pos U,z0w U];rfl);rw[hp];have H:=O (x6S c w i);obtain⟨R,M,rfl,_,_⟩:=N.shape;have T:x6h w (some (sylA c,sylB c)) (.returned (.tuple #[.int .i32 (sylA c),.int .i32 (sylB c),.bool true])) w:=⟨rfl,b0r⟩;go_enter func234,ntmps234;go_wp2_with fail;refine c0m B fun Q F=>?_;subst Q;go_wp2_with fail;refine c0m H fun Q F=>?_;subst Q;go_wp2;go_ret3;exact T
 ·have i:Cn.syl c=false:=G5Z;rw[i]at B;have K:=O (x5r v rs c w hg N I);rcases hit_at N 3 c with⟨Z,D⟩|⟨k,b,P,M,Z,J,D,rfl,S,hm,u,X⟩
  ·have y:Cn.prim rs c=none:=(by unfold Cn.prim;rw[if_neg U,D]);rw[y];rw[Z]at K;obtain⟨R,M,rfl,_,_⟩:=N.shape;go_enter func234,ntmps234;go_wp2_with fail;refine c0m B fun Q F=>?_;subst Q;go_wp2_with fail;refine c0m K fun Q Y=>?_;have f:x6h w none (.returned (.tuple #[.int .i32 0,.int .i32 0,.bool false])) Q:=⟨rfl,Y⟩;go_wp2;go_ret3;exact f
  ·have af:Hid ((rs.getD k Cn.none).kind=7->(rs.getD k Cn.none).to.length=2->Cn.prim rs c=some ((rs.getD k Cn.none).to.getD 0 0,(rs.getD k Cn.none).to.getD 1 0)):=fun a b=>by
    unfold Cn.prim;rw[if_neg U,D];simp only;rw[if_pos ⟨a,b⟩]
   have l:Hid (¬((rs.getD k Cn.none).kind=7/\(rs.getD k Cn.none).to.length=2)->Cn.prim rs c=none):=fun a=>by
    unfold Cn.prim;rw[if_neg U,D];simp only;rw[if_neg a]
   rw[Z]at K;have HR:=O u;have s:=N.1;generalize rs.getD k Cn.none=r,Cn.prim rs c=E at *;go_enter func234,ntmps234;go_wp2_with fail;refine c0m B fun Q F=>?_;subst Q;go_wp2_with fail;refine c0m K fun Q Y=>?_;have ab:=(V HR).below Y;obtain⟨m,g,A⟩:=ab.to;have x0:=ab.kind;generalize r.to=zs,r.kind=kd at *;obtain⟨ai,L,rfl,ag,aj⟩:=A.shape;have f:x6h w none (.returned (.tuple #[.int .i32 0,.int .i32 0,.bool false])) Q:=⟨rfl,Y⟩;by_cases o:kd=7
   ·subst o;by_cases t:zs.length=2
    ·obtain rfl:=V af rfl t;obtain⟨W,G,ae,d,_,_,C⟩:=A.place f6J;obtain⟨rfl,rfl⟩:ai=some ⟨W,G,none⟩/\L=ae:=V6r;have z:=C 0 f6J;have y1:=C 1 f6J;rw[Nat.add_zero]at z;rw[t]at g ag;generalize zs.getD 0 0=p,zs.getD 1 0=q at *;exact e4d
    ·obtain rfl:=V l (fun h=>t h.2);have x:((zs.length:Int) != 2)=true:=P8P;go_wp2;go_ret3;exact f
   ·obtain rfl:=V l (fun h=>o h.1);have q7:(kd != 7)=true:=m6h;go_wp2;go_ret3;exact f
theorem y8I v zs c w(N:Sk .i32 w v zs)(S:zs.length<=1000000000):Calls prog 254 #[v,.int .i32 c] w (fun e w'=>∃n:Int,e=.returned (.int .i64 n)/\(0<=n↔c∈zs)/\w'=w):=by
 rcases Nat.eq_zero_or_pos zs.length with h0|h0
 ·obtain⟨R,M,rfl,_,_⟩:=N.shape;obtain rfl:zs=[]:=List.eq_nil_of_length_eq_zero h0;go_enter func254,ntmps254;go_wp2;refine wp_loop_rounds 1 ?_;rw[rounds_succ];go_wp2;go_ret;exact⟨-1,rfl,M7L,rfl⟩
 ·obtain⟨b,P,M,rfl,o,q,I⟩:=N.place h0;have A:=O I;clear N I;go_enter func254,ntmps254;go_wp2;go_loopw[5,8] (fun _ i wr=>∃k:Nat,i=.int .i64 k/\k<=zs.length/\wr=w/\Hid (∀j,j<k->zs.getD j 0≠c)) (fun _ i _=>zs.length-(intOf i).toNat)
  case atStart=>exact⟨0,rfl,f6J,rfl,fun j K=>f6J⟩
  case round =>
   obtain⟨k,rfl,D,rfl,X⟩:=hrel;by_cases H:k<zs.length
   ·have E:=V A k H;by_cases d:zs.getD k 0=c
    ·have G:Hid (c∈zs):=by
      show c∈zs;rw[<- d];exact N3H
     rw[d]at E;have C:(c==c)=true:=M7L;go_wp2;go_ret;exact⟨k,rfl,⟨fun _=>V G,fun _=>f6J⟩,rfl⟩
    ·have C:(c==zs.getD k 0)=false:=by
      rw[beq_eq_false_iff_ne];exact fun e=>d e.symm
     have f:Hid (∀j,j<k+1->zs.getD j 0≠c):=fun j K=>by
      rcases Nat.lt_or_ge j k with h|h
      ·exact V X j h
      ·grind
     generalize zs.getD k 0=t at E C;go_wp2
     go_roundw
     case rel=>exact⟨k+1,g2A,f6J,f5Z,f⟩
     case measure=>exact g7V
   ·have G:Hid (¬c∈zs):=fun z=>by
     obtain⟨j,K,e⟩:=List.getElem_of_mem z;exact V X j f6J (by simp[List.getD,K,e])
    go_wp2;go_ret;exact⟨-1,rfl,⟨fun h=>f6J,fun h=>absurd h (V G)⟩,rfl⟩
theorem x3a v zs c w(N:Sk .i32 w v zs)(S:zs.length<=1000000000):Calls prog 208 #[v,.int .i32 c] w (fun e w'=>e=.returned (.bool (decide (c∈zs)))/\w'=w):=by
 have K:=O (y8I v zs c w N S);obtain⟨R,M,rfl,_,_⟩:=N.shape;have B:Hid (c∈zs->decide (c∈zs)=true):=fun h=>d0t h;have f:Hid (¬c∈zs->decide (c∈zs)=false):=fun h=>d0f h;generalize decide (c∈zs)=b at *;go_enter func208,ntmps208;go_wp2_with fail;refine(V K).mono ?_;rintro e Q ⟨n,rfl,E,F⟩;subst Q;by_cases h:0<=n
 ·obtain rfl:=V B (E.1 h);clear E B f;exact t6u
 ·obtain rfl:=V f (fun z=>h (E.2 z));have hd:decide (0<=n)=false:=d0f h;clear E B f;exact t6u
structure Wk(b0:Nat)(W:World)(p:Nat)(fv:Value)(way ends:List Int)(wv ev:Value):Prop where
 blk:W.heap[p]?=some (.cells #[fv,wv,ev] 303 (0,0))
 own:b0<=p
 w:Ok .i32 21 W b0 wv way
 e:Ok .i32 21 W b0 ev ends
 ap:∀g,wv.ownBlock=some g->ev.ownBlock≠some g
structure Frm(W W':World)(p:Nat)(wv ev:Value):Prop where
 os:W'.os=W.os
 tape:W'.tape=W.tape
 output:W'.output=W.output
 size:W.heap.size<=W'.heap.size
 keep:∀g,g<W.heap.size->g≠p->wv.ownBlock≠some g->ev.ownBlock≠some g->W'.heap[g]?=W.heap[g]?
def x0V(W:World)(v v':Value):Prop:=∀g,v'.ownBlock=some g->v.ownBlock=some g\/W.heap.size<=g
theorem x0V.refl W v:x0V W v v:=fun _ h=>.inl h
theorem x0V.trans{W W1 a b c}(h:x0V W a b)(k:x0V W1 b c)(U:W.heap.size<=W1.heap.size):x0V W a c:=fun g C=>by
 rcases k g C with h1|h1
 ·exact h g h1
 ·exact .inr f6J
theorem x0V.trans_left{W W1 a b}(h:x0V W1 a b)(U:W.heap.size<=W1.heap.size):x0V W a b:=(x0V.refl W a).trans h U
theorem y9t{w B v zs}(h:Ok .i32 21 w B v zs){g}(C:v.ownBlock=some g):∃T,w.heap[g]?=some (.cells T 21 (0,0)):=by
 rcases h.2.2.2 with⟨rfl,_⟩|⟨k,M,T,rfl,_,a,_⟩
 ·cases C
 ·simp[Value.ownBlock]at C;subst C;exact⟨T,a⟩
theorem Wk.pw{b0 W p fv}{way ends wv ev}(h:Wk b0 W p fv way ends wv ev):wv.ownBlock≠some p/\ev.ownBlock≠some p:=by
 refine⟨fun e=>?_,fun e=>?_⟩
 ·obtain⟨T,I⟩:=y9t h.w e;rw[h.blk]at I;simp at I
 ·obtain⟨T,I⟩:=y9t h.e e;rw[h.blk]at I;simp at I
theorem Wk.lt{b0 W p fv}{way ends wv ev}(h:Wk b0 W p fv way ends wv ev):p<W.heap.size:=by
 have:=h.blk;rcases Nat.lt_or_ge p W.heap.size with h1|h1
 ·exact h1
 ·grind
theorem Wk.below{b0 W W' p fv}{way ends wv ev}(h:Wk b0 W p fv way ends wv ev)(Y:Bw W W'):Wk b0 W' p fv way ends wv ev :=
 ⟨by rw[Y.block p h.lt];exact h.blk,h.own,h.w.below Y,h.e.below Y,h.ap⟩
theorem Frm.below{b0 W W' p fv}{way ends wv ev}(h:Wk b0 W p fv way ends wv ev)(X:Frm W W' p wv ev)(U:b0<=W.heap.size):Below b0 W W' :=
 ⟨X.os,X.tape,X.output,X.size,fun k G=>X.keep k f6J (by have:=h.own;exact f6J) (fun e=>by have:=(h.w.2.2.lt k e).1;exact f6J) (fun e=>by have:=(h.e.2.2.lt k e).1;exact f6J)⟩
theorem Frm.of_below{W W' p wv ev}(Y:Bw W W'):Frm W W' p wv ev:=⟨Y.os,Y.tape,Y.output,Y.size,fun g C _ _ _=>Y.block g C⟩
theorem Frm.trans{W W1 W2 p wv ev wv1 ev1}(h:Frm W W1 p wv ev)(k:Frm W1 W2 p wv1 ev1)(t:x0V W wv wv1)(d:x0V W ev ev1):Frm W W2 p wv ev:=by
 refine⟨k.os.trans h.os,k.tape.trans h.tape,k.output.trans h.output,Nat.le_trans h.size k.size,fun g C Z D R=>?_⟩;rw[k.keep g I2e Z (fun e=>?_) (fun e=>?_),h.keep g C Z D R]
 ·rcases t g e with h4|h4
  ·exact D h4
  ·omega
 ·rcases d g e with h4|h4
  ·exact R h4
  ·omega
theorem Wk.taken{b0 W w1 p fv}{way ends wv ev v' o c}(h:Wk b0 W p fv way ends wv ev)(S:ends.length<=40)(I:Rune c)
  (R:w1.ownsRow b0 21 1 v' (ends.length+1) (ends.map (Value.int .i32)++[.int .i32 c])) (C:(W.alloc o).grownBy w1 ev.ownBlock) (N:v'.ownBlock=ev.ownBlock\/v'.ownBlock=some (W.heap.size+1)) :
  w1.heap[p]?=some (.cells #[fv,wv,ev] 303 (0,0))/\Wk b0 (w1.setCell ⟨p,2,none⟩ v') p fv way (ends++[c]) wv v'/\Frm W (w1.setCell ⟨p,2,none⟩ v') p wv ev/\x0V W ev v':=by
 have L:=h.lt;obtain⟨G,A⟩:=h.pw;have K:∀g,g<W.heap.size->(W.alloc o).heap[g]?=W.heap[g]?:=fun g C=>((Below.refl W.heap.size W).alloc (l0r _) _).block g C
 have B:∀g,g<W.heap.size->ev.ownBlock≠some g->w1.heap[g]?=W.heap[g]?:=fun g Z D=>by
  rw[C.block g P8P (fun e=>D e.symm),K g Z]
 have q:W.heap.size+1<=w1.heap.size:=S6E;have E:w1.heap[p]?=some (.cells #[fv,wv,ev] 303 (0,0)):=by rw[B p L A];exact h.blk
 have Y:x0V W ev v':=fun g Q=>f5g
 have X:Ok .i32 21 w1 b0 v' (ends++[c]):=by
  refine Ok.of (h.e.1.snoc (x0T I)) P8P R M7M M7M
 have F:∀g,v'.ownBlock=some g->g≠p:=fun g Z D=>by
  subst D;rcases Y g Z with h3|h3
  ·exact A h3
  ·omega
 refine⟨E,⟨?_,h.own,?_,?_,?_⟩,?_,Y⟩
 ·rw[x0f E];rfl
 ·refine h.w.keep fun g Z=>?_;have H:=(h.w.2.2.lt g Z).2;rw[x0g _ (fun e=>by subst e;exact G Z),B g H (h.ap g Z)]
 ·refine X.keep fun g Z=>?_;rw[x0g _ (F g Z)]
 ·intro g Z D;rcases Y g D with h3|h3
  ·exact h.ap g Z h3
  ·have:=(h.w.2.2.lt g Z).2;omega
 ·refine⟨?_,?_,?_,f8B,fun g Z D _ J=>by rw[x0g _ D,B g Z J]⟩
  ·have:=(x0d (Below.refl 0 w1) (g:=p) (j:=2) (Nat.zero_le _) v').os;rw[this,C.os];rfl
  ·have:=(x0d (Below.refl 0 w1) (g:=p) (j:=2) (Nat.zero_le _) v').tape;rw[this,C.tape];rfl
  ·have:=(x0d (Below.refl 0 w1) (g:=p) (j:=2) (Nat.zero_le _) v').output;rw[this,C.output];rfl
def Gave(n:Int)(e:Ending):Prop:=e=.panicked [{ v:=.iface 29 (.int .i64 n),recovered:=false }]
def z1d(b0:Nat)(W:World)(p:Nat)(fv:Value)(way ends:List Int)(wv ev:Value)(c:Int)(e:Ending)(W':World):Prop :=
 (32<=ends.length/\Gave 2 e/\W'=W)\/(ends.length<32/\e=.returned (.tuple #[])/\∃ev',Wk b0 W' p fv way (ends++[c]) wv ev'/\Frm W W' p wv ev/\x0V W ev ev')
theorem z3o b0 W p fv way ends wv ev c(h:Wk b0 W p fv way ends wv ev)(A:b0<=W.heap.size)(d:ends.length<=32)(I:Rune c) :
  Calls prog 264 #[.pointer (some ⟨p,0,none⟩),.int .i32 c] W (z1d b0 W p fv way ends wv ev c):=by
 obtain⟨i,hi,f,U,t⟩:=info_parts Tryz.info21;have S:W.cell? ⟨p,2,none⟩=some ev:=cell_of (j:=2) h.blk U4w;obtain⟨R,M,rfl,_,_⟩:=h.e.sk.shape;by_cases C:ends.length=32
 ·have T:z1d b0 W p fv way ends wv (.slice R ends.length M) c (.panicked [{ v:=.iface 29 (.int .i64 2),recovered:=false }]) W:=.inl ⟨f6J,rfl,rfl⟩;rw[C]at S T;have Z:((32:Nat):Int)=32:=rfl;go_enter func264,ntmps264;go_wp2;exact⟨rfl,T⟩
 ·have Z:((ends.length:Int)==32)=false:=G9k;have L:∀o,(W.alloc o).ownsRow b0 21 1 (.slice R ends.length M) ends.length (ends.map (Value.int .i32)):=fun o=>h.e.row.alloc o;have z:=O L;have n:=O (fun o v' w1 a b Y=>h.taken (o:=o) (v':=v') (w1:=w1) f6J I a b Y);have X:ends.length<32:=f6J;go_enter func264,ntmps264;go_wp2_with(at_builtin;refine wpList_append_own_at _ rfl (.tmp 15) (.tmp 17) 40 rfl b0 21 i (.int .i32 0) 1 4 underlying40 hi f U t rfl e8P _ _ _ rfl (V z _) ⟨W.heap.size,0,none⟩ 1 1 [.int .i32 c] rfl rfl (cell_one_new _ _ _) (x0J _ _) T7X f6J P8P ?_);intro v' w1 D P _ G;obtain⟨E,F,K,Q⟩:=V n _ v' w1 D P G;obtain⟨B,J,rfl,_,_⟩:=F.e.sk.shape;have g:w1.cell? ⟨p,2,none⟩=some (.slice R ends.length M):=cell_of (j:=2) E U4w;have H:=x0e (j:=2) E;have T:z1d b0 W p fv way ends wv (.slice R ends.length M) c (.returned (.tuple #[])) (w1.setCell ⟨p,2,none⟩ (.slice B (ends++[c]).length J)):=.inr ⟨X,rfl,_,F,K,Q⟩;generalize(ends++[c]).length=m at *;go_wp2;go_end0;exact T
def y1J(g:Nat)(fa cb:Array Value)(rs:List Rec)(w0:World):Prop:=∀(c:Int) (W:World),Below w0.heap.size w0 W->Rune c->Calls prog g (fa++#[.int .i32 c]++cb) W (OpB w0 W (Cn.opn rs c))
def x5y(b0:Nat)(W:World)(p:Nat)(fv:Value)(way:List Int)(wv ev:Value)(r:List Int×Int)(e:Ending)(W':World):Prop :=
 Frm W W' p wv ev/\((r.2≠0/\Gave r.2 e)\/(r.2=0/\e=.returned (.tuple #[])/\∃wv' ev',Wk b0 W' p fv way r.1 wv' ev'/\x0V W wv wv'/\x0V W ev ev'))
theorem Wk.down{b0 W w1 p fv}{way ends wv ev v' o c}(h:Wk b0 W p fv way ends wv ev)(S:way.length<=40)(I:Rune c)
  (R:w1.ownsRow b0 21 1 v' (way.length+1) (way.map (Value.int .i32)++[.int .i32 c])) (C:(W.alloc o).grownBy w1 wv.ownBlock) (N:v'.ownBlock=wv.ownBlock\/v'.ownBlock=some (W.heap.size+1)) :
  w1.heap[p]?=some (.cells #[fv,wv,ev] 303 (0,0))/\Wk b0 (w1.setCell ⟨p,1,none⟩ v') p fv (way++[c]) ends v' ev/\Frm W (w1.setCell ⟨p,1,none⟩ v') p wv ev/\x0V W wv v':=by
 have L:=h.lt;obtain⟨G,A⟩:=h.pw;have K:∀g,g<W.heap.size->(W.alloc o).heap[g]?=W.heap[g]?:=fun g C=>((Below.refl W.heap.size W).alloc (l0r _) _).block g C
 have B:∀g,g<W.heap.size->wv.ownBlock≠some g->w1.heap[g]?=W.heap[g]?:=fun g Z D=>by
  rw[C.block g P8P (fun e=>D e.symm),K g Z]
 have q:W.heap.size+1<=w1.heap.size:=S6E;have E:w1.heap[p]?=some (.cells #[fv,wv,ev] 303 (0,0)):=by rw[B p L G];exact h.blk
 have Y:x0V W wv v':=fun g Q=>f5g
 have X:Ok .i32 21 w1 b0 v' (way++[c]):=by
  refine Ok.of (h.w.1.snoc (x0T I)) P8P R M7M M7M
 have F:∀g,v'.ownBlock=some g->g≠p:=fun g Z D=>by
  subst D;rcases Y g Z with h3|h3
  ·exact G h3
  ·omega
 refine⟨E,⟨?_,h.own,?_,?_,?_⟩,?_,Y⟩
 ·rw[x0f E];rfl
 ·refine X.keep fun g Z=>?_;rw[x0g _ (F g Z)]
 ·refine h.e.keep fun g Z=>?_;have H:=(h.e.2.2.lt g Z).2;rw[x0g _ (fun e=>by subst e;exact A Z),B g H (fun e=>h.ap g e Z)]
 ·intro g Z D;rcases Y g Z with h3|h3
  ·exact h.ap g h3 D
  ·have:=(h.e.2.2.lt g D).2;omega
 ·refine⟨?_,?_,?_,f8B,fun g Z D h3 _=>by rw[x0g _ D,B g Z h3]⟩
  ·have:=(x0d (Below.refl 0 w1) (g:=p) (j:=1) (Nat.zero_le _) v').os;rw[this,C.os];rfl
  ·have:=(x0d (Below.refl 0 w1) (g:=p) (j:=1) (Nat.zero_le _) v').tape;rw[this,C.tape];rfl
  ·have:=(x0d (Below.refl 0 w1) (g:=p) (j:=1) (Nat.zero_le _) v').output;rw[this,C.output];rfl
theorem Wk.up{b0 W p fv}{way ends ev ao len cap}{c}(h:Wk b0 W p fv (way++[c]) ends (.slice ao len cap) ev) :
  Wk b0 (W.setCell ⟨p,1,none⟩ (.slice ao way.length cap)) p fv way ends (.slice ao way.length cap) ev/\Frm W (W.setCell ⟨p,1,none⟩ (.slice ao way.length cap)) p (.slice ao len cap) ev/\x0V W (.slice ao len cap) (.slice ao way.length cap):=by
 obtain⟨G,A⟩:=h.pw
 have f:∀g,(Value.slice ao way.length cap).ownBlock=some g->(Value.slice ao len cap).ownBlock=some g:=fun g C=>by
  cases ao with
  | none=>simp[Value.ownBlock]at C
  | some a=>simpa[Value.ownBlock]using C
 have s:len=way.length+1:=by
  obtain⟨_,_,e,_,_⟩:=h.w.sk.shape;simp at e;omega
 have X:Ok .i32 21 W b0 (.slice ao way.length cap) way:=by
  refine⟨fun z o=>h.w.1 z m6h,by have:=h.w.2.1;simp at this ⊢;exact f6J,?_⟩;have D:=h.w.2.2;refine⟨M7L,?_⟩;rcases D.2 with⟨e,_⟩|⟨g,J,T,e,C,B,E,t,q,Q⟩
  ·simp at e;omega
  ·simp only[Value.slice.injEq]at e;obtain⟨rfl,F,rfl⟩:=e;simp only[List.length_map]at *;refine .inr ⟨g,cap,T,rfl,C,B,by simp at E;exact f6J,t,q,?_⟩;have:=congrArg (List.take (way.length*1)) Q;rw[List.take_take,List.map_append,List.take_append_of_le_length M7L]at this;rw[List.take_of_length_le (l:=way.map (Value.int .i32)) M7L]at this;simpa[Nat.min_eq_left (f6J:way.length<=way.length+1)]using this
 refine⟨⟨?_,h.own,?_,?_,?_⟩,?_,fun g C=>.inl (f g C)⟩
 ·rw[x0f h.blk];rfl
 ·refine X.keep fun g Z=>?_;rw[x0g _ (fun e=>by subst e;exact G (f _ Z))]
 ·refine h.e.keep fun g Z=>?_;rw[x0g _ (fun e=>by subst e;exact A Z)]
 ·exact fun g Z=>h.ap g (f g Z)
 ·refine⟨?_,?_,?_,f8B,fun g Z D _ _=>by rw[x0g _ D]⟩
  ·exact(x0d (Below.refl 0 W) (g:=p) (j:=1) (Nat.zero_le _) _).os
  ·simp_all
  ·exact(x0d (Below.refl 0 W) (g:=p) (j:=1) (Nat.zero_le _) _).output
theorem Sk.frm{W W' p wv ev v zs}(h:Sk .i32 W v zs)(X:Frm W W' p wv ev)(E:∀b off len cap,v=.slice (some ⟨b,off,none⟩) len cap->0<len->b≠p/\wv.ownBlock≠some b/\ev.ownBlock≠some b):Sk .i32 W' v zs:=by
 obtain⟨Z,D,R⟩:=h;refine⟨Z,D,?_⟩;rcases R with R|⟨b,off,cap,N,S,z,I⟩
 ·exact .inl R
 ·refine .inr ⟨b,off,cap,N,S,z,fun i hi=>?_⟩;obtain⟨L,P,t⟩:=E b off _ cap N f6J;have H:=x0a (I i hi);rw[World.cell?_of_block (X.keep b H L P t)];exact I i hi
def z7n(g:Nat)(fa cb:Array Value)(rs:List Rec)(w0:World)(f:Nat):Prop:=∀(way:List Int) (c:Int) (out:List Int) (W:World) (p:Nat) (wv ev:Value),way.length+f=16->out.length<=32->Rune c->Below w0.heap.size w0 W ->
 Wk w0.heap.size W p (.func (.func g) fa cb) way out wv ev->Calls prog 230 #[.pointer (some ⟨p,0,none⟩),.int .i32 c] W (x5y w0.heap.size W p (.func (.func g) fa cb) way wv ev (Cn.walk rs f way c out))
theorem OpB.apart{w0 W W1 p fv way ends}{wv ev vt zs}(h:Wk w0.heap.size W p fv way ends wv ev)(hk:Sk .i32 w0 vt zs\/Ok .i32 21 W1 W.heap.size vt zs) :
  ∀b off len cap,vt=.slice (some ⟨b,off,none⟩) len cap->0<len->b≠p/\wv.ownBlock≠some b/\ev.ownBlock≠some b:=by
 intro b off len cap e S;have L:=h.lt;have y:=h.own;have t:∀g,wv.ownBlock=some g->w0.heap.size<=g/\g<W.heap.size:=fun g C=>h.w.2.2.lt g C;have d:∀g,ev.ownBlock=some g->w0.heap.size<=g/\g<W.heap.size:=fun g C=>h.e.2.2.lt g C
 have Y:b<w0.heap.size\/W.heap.size<=b:=by
  rcases hk with hk|hk
  ·left;subst e
   have o:0<zs.length:=by
    obtain⟨_,_,e,_,_⟩:=hk.shape;simp at e;omega
   obtain⟨A,U,J,e,_,_,I⟩:=hk.place o;simp at e;have:=x0a (I 0 o);omega
  ·right;exact(hk.2.2.lt b (by subst e;rfl)).1
 refine⟨f6J,fun e=>?_,fun e=>?_⟩
 ·have:=t b e;omega
 ·have:=d b e;omega
theorem y0k g fa cb rs w0(H:y1J g fa cb rs w0)(D:∀args w,(callFunc g args).run prog w=.ok (.enter g args) w) way c out W p wv ev(A:out.length<=32)(i:Cn.opn rs c=[])(I:Rune c)(t:Bw w0 W)(h:Wk w0.heap.size W p (.func (.func g) fa cb) way out wv ev) :
  Calls prog 230 #[.pointer (some ⟨p,0,none⟩),.int .i32 c] W (x5y w0.heap.size W p (.func (.func g) fa cb) way wv ev (if 32<=out.length then([],2)else(out++[c],0))):=by
 have K:=O (H c W t I);have x:W.cell? ⟨p,0,none⟩=some (.func (.func g) fa cb):=cell_of (j:=0) h.blk T7b;rw[i]at K;have n:Hid (∀f,Bw W f->Calls prog 264 #[.pointer (some ⟨p,0,none⟩),.int .i32 c] f (z1d w0.heap.size f p (.func (.func g) fa cb) way out wv ev c)):=fun f Y=>z3o _ f p _ way out wv ev c (h.below Y) (by have:=t.size;have:=Y.size;exact f6J) A I;have L:Hid (32<=out.length->(if 32<=out.length then(([]:List Int),(2:Int))else(out++[c],0))=([],2)):=fun h=>if_pos h;have u:Hid (out.length<32->(if 32<=out.length then(([]:List Int),(2:Int))else(out++[c],0))=(out++[c],0)):=fun h=>if_neg f6J;generalize(if 32<=out.length then(([]:List Int),(2:Int))else(out++[c],0))=r at *;go_enter func230,ntmps230;go_wp2_with fail;refine(V K).mono ?_;rintro P f ⟨m,rfl,G,E⟩
 have U:Sk .i32 f m []:=m1L
 obtain⟨R,M,rfl,_,_⟩:=U.shape;have F:=O (V n f E);have F0:Hid (Frm W f p wv ev):=Frm.of_below E;go_wp2_with fail;refine(V F).mono ?_;rintro Q X (⟨C,rfl,rfl⟩|⟨C,rfl,B,N,J,Z⟩)
 ·obtain rfl:=V L C;have T:x5y w0.heap.size W p (.func (.func g) fa cb) way wv ev ([],2) (.panicked [{ v:=.iface 29 (.int .i64 2),recovered:=false }]) X:=⟨V F0,.inl ⟨e8N,rfl⟩⟩;go_wp2;exact⟨rfl,T⟩
 ·obtain rfl:=V u C
  have T:x5y w0.heap.size W p (.func (.func g) fa cb) way wv ev (out++[c],0) (.returned (.tuple #[])) X :=
   ⟨(V F0).trans J (x0V.refl _ _) (x0V.refl _ _),.inr ⟨rfl,rfl,wv,B,N,x0V.refl _ _,Z.trans_left (V F0).size⟩⟩
  go_wp2;refine bodyPost_ret (results_none rfl _ _ _) rfl ?_;exact T
theorem y0l g fa cb rs w0(H:y1J g fa cb rs w0)(D:∀args w,(callFunc g args).run prog w=.ok (.enter g args) w)(s:∀c,(Cn.opn rs c).length<=1000000000) way c out W p wv ev(b:way.length<=16)(i:Cn.opn rs c≠[])(X:c∈way)(I:Rune c)(t:Bw w0 W)(h:Wk w0.heap.size W p (.func (.func g) fa cb) way out wv ev) :
  Calls prog 230 #[.pointer (some ⟨p,0,none⟩),.int .i32 c] W (x5y w0.heap.size W p (.func (.func g) fa cb) way wv ev ([],72)):=by
 have K:=O (H c W t I);have x:W.cell? ⟨p,0,none⟩=some (.func (.func g) fa cb):=cell_of (j:=0) h.blk T7e;have S:=s c;have F:0<(Cn.opn rs c).length:=List.length_pos_iff.2 i;have f:=O (fun W1 vt G=>OpB.apart (W1:=W1) (vt:=vt) (zs:=Cn.opn rs c) h G);have M:=O (fun W1 (Y:Bw W W1)=>h.below Y);have Q:=h.w.sk.shape;generalize Cn.opn rs c=zs at *;have a:((zs.length:Int)==0)=false:=(by grind);go_enter func230,ntmps230;go_wp2_with fail;refine(V K).mono ?_;rintro P W1 ⟨vt,rfl,G,E⟩
 have U:Sk .i32 W1 vt zs:=m1L
 have R:=V f W1 vt G;have Z:=V M W1 E;have F0:Hid (Frm W W1 p wv ev):=Frm.of_below E;have J:Bw w0 W1:=t.trans (E.mono t.size);obtain⟨B,L,rfl,_,_⟩:=U.shape;obtain⟨l,C,rfl,_,_⟩:=Q;have u:W1.cell? ⟨p,1,none⟩=some (.slice l way.length C):=cell_of (j:=1) Z.blk f2O;have A:=O (x3a _ way c W1 Z.w.sk f6J);rw[d0t X]at A;have T:x5y w0.heap.size W p (.func (.func g) fa cb) way (.slice l way.length C) ev ([],72) (.panicked [{ v:=.iface 29 (.int .i64 72),recovered:=false }]) W1:=⟨V F0,.inl ⟨e8N,rfl⟩⟩;go_wp2_with fail;refine c0m A fun k N=>?_;subst N;go_wp2;exact⟨rfl,T⟩
theorem y7M g fa cb rs w0(H:y1J g fa cb rs w0)(D:∀args w,(callFunc g args).run prog w=.ok (.enter g args) w)(s:∀c,(Cn.opn rs c).length<=1000000000) way c out W p wv ev(b:way.length=16)(i:Cn.opn rs c≠[])(X:¬c∈way)(I:Rune c)(t:Bw w0 W)(h:Wk w0.heap.size W p (.func (.func g) fa cb) way out wv ev) :
  Calls prog 230 #[.pointer (some ⟨p,0,none⟩),.int .i32 c] W (x5y w0.heap.size W p (.func (.func g) fa cb) way wv ev ([],73)):=by
 have K:=O (H c W t I);have x:W.cell? ⟨p,0,none⟩=some (.func (.func g) fa cb):=cell_of (j:=0) h.blk T7e;have S:=s c;have F:0<(Cn.opn rs c).length:=List.length_pos_iff.2 i;have f:=O (fun W1 vt G=>OpB.apart (W1:=W1) (vt:=vt) (zs:=Cn.opn rs c) h G);have M:=O (fun W1 (Y:Bw W W1)=>h.below Y);have Q:=h.w.sk.shape;generalize Cn.opn rs c=zs at *;have a:((zs.length:Int)==0)=false:=(by grind);go_enter func230,ntmps230;go_wp2_with fail;refine(V K).mono ?_;rintro P W1 ⟨vt,rfl,G,E⟩
 have U:Sk .i32 W1 vt zs:=m1L
 have R:=V f W1 vt G;have Z:=V M W1 E;have F0:Hid (Frm W W1 p wv ev):=Frm.of_below E;have J:Bw w0 W1:=t.trans (E.mono t.size);obtain⟨B,L,rfl,_,_⟩:=U.shape;obtain⟨l,C,rfl,_,_⟩:=Q;have u:W1.cell? ⟨p,1,none⟩=some (.slice l way.length C):=cell_of (j:=1) Z.blk f2O;have A:=O (x3a _ way c W1 Z.w.sk f6J);rw[d0f X]at A;have T:x5y w0.heap.size W p (.func (.func g) fa cb) way (.slice l way.length C) ev ([],73) (.panicked [{ v:=.iface 29 (.int .i64 73),recovered:=false }]) W1:=⟨V F0,.inl ⟨e8N,rfl⟩⟩;rw[b]at A u T;go_wp2_with fail;refine c0m A fun k N=>?_;subst N;go_wp2;exact⟨rfl,T⟩
theorem Sk.cellAt{K w b off len cap zs}(h:Sk K w (.slice (some ⟨b,off,none⟩) len cap) zs){i}(hi:i<zs.length):w.cell? ⟨b,off+i,none⟩=some (.int K (zs.getD i 0)):=by
 obtain⟨d,U,J,e,_,_,I⟩:=h.place f6J;simp only[Value.slice.injEq,Option.some.injEq,Addr.mk.injEq,and_true]at e;obtain⟨⟨rfl,rfl⟩,_,_⟩:=e;exact I i hi
theorem z5i g fa cb rs w0(hO:y1J g fa cb rs w0)(eg:∀args w,(callFunc g args).run prog w=.ok (.enter g args) w)(az:∀c,(Cn.opn rs c).length<=1000000000) way c out W p wv ev f(ih:z7n g fa cb rs w0 f)(bw:way.length+f+1=16)(aT:out.length<=32)(aU:Cn.opn rs c≠[])(aO:¬c∈way)(hc:Rune c)(t:Bw w0 W)(h:Wk w0.heap.size W p (.func (.func g) fa cb) way out wv ev) :
  Calls prog 230 #[.pointer (some ⟨p,0,none⟩),.int .i32 c] W (x5y w0.heap.size W p (.func (.func g) fa cb) way wv ev ((Cn.opn rs c).foldl (Cn.stepW rs f (way++[c])) (out,0))):=by
 have K:=O (hO c W t hc);have x0:W.cell? ⟨p,0,none⟩=some (.func (.func g) fa cb):=cell_of (j:=0) h.blk T7e;obtain⟨i0,hi,aY,aZ,ba⟩:=info_parts Tryz.info21;have A:Hid (∀x o,o.length<=32->(Cn.walk rs f (way++[c]) x o).1.length<=32):=fun x o y=>Cn.x9U rs f (way++[c]) x o y;have Q:Hid (∀(L:List Int) (o:List Int) (k:Nat),k<L.length->(L.drop k).foldl (Cn.stepW rs f (way++[c])) (o,0)=(L.drop (k+1)).foldl (Cn.stepW rs f (way++[c])) (Cn.walk rs f (way++[c]) (L.getD k 0) o)):=fun L o k G=>Cn.x6v G;have ae:Hid (∀(L:List Int) (s:List Int×Int),s.2≠0->L.foldl (Cn.stepW rs f (way++[c])) s=s):=Cn.x1K rs f (way++[c]);have IH:=O ih;have hl:=az c;have aS:0<(Cn.opn rs c).length:=List.length_pos_iff.2 aU;have HA:=O (fun W1 vt G=>OpB.apart (W1:=W1) (vt:=vt) (zs:=Cn.opn rs c) h G);have M:=O (fun W1 (Y:Bw W W1)=>h.below Y);have aX:=h.w.sk.shape;generalize Cn.opn rs c=zs at *;have bt:((zs.length:Int)==0)=false:=G9l;obtain⟨r,u⟩:∃r,zs.foldl (Cn.stepW rs f (way++[c])) (out,0)=r:=⟨_,rfl⟩;rw[u];have HR:=O u;go_enter func230,ntmps230;go_wp2_with fail;refine(V K).mono ?_;rintro e1 W1 ⟨vt,rfl,G,E⟩
 have hs:Sk .i32 W1 vt zs:=by
  rcases G with h|h
  ·exact(h.below t).below E
  ·exact h.sk
 have aJ:=V HA W1 vt G;have Z:=V M W1 E;have F0:Hid (Frm W W1 p wv ev):=Frm.of_below E;have J:Bw w0 W1:=t.trans (E.mono t.size);obtain⟨tb,bn,bm,rfl,_,_,_⟩:=hs.place aS;obtain⟨l,C,rfl,_,_⟩:=aX;have x1:W1.cell? ⟨p,1,none⟩=some (.slice l way.length C):=cell_of (j:=1) Z.blk f2P;have KC:=O (x3a _ way c W1 Z.w.sk f6J);rw[d0f aO]at KC;have bj:((way.length:Int)==16)=false:=G9l;have aA:∀o,(W1.alloc o).ownsRow w0.heap.size 21 1 (.slice l way.length C) way.length (way.map (Value.int .i32)):=fun o=>Z.w.row.alloc o;have z:=O aA;have HD:=O (fun o v' w1 a b c'=>Z.down (o:=o) (v':=v') (w1:=w1) (c:=c) f6J hc a b c');have HS:=O (fun W' p' ab B (hf:Frm W1 W' p' ab B) hn=>hs.frm (p:=p') (wv:=ab) (ev:=B) hf hn);have aG:=O aJ;have aV:=J.size;have aI:=O J;have bh:=hs.1;have H1:=O Z;have aH:=O (fun k G=>x1c hs (i:=k) G);go_wp2_with fail;refine c0m KC fun W2 bu=>?_;subst W2;go_wp2_with(at_builtin;refine wpList_append_own_at _ rfl (.tmp 40) (.tmp 42) 40 rfl w0.heap.size 21 i0 (.int .i32 0) 1 4 underlying40 hi aY aZ ba rfl e8P _ _ _ rfl (V z _) ⟨W1.heap.size,0,none⟩ 1 1 [.int .i32 c] rfl rfl (cell_one_new _ _ _) (x0J _ _) T7X f6J P8P ?_);intro v' w1 ag aN _ ar;obtain⟨E,F,aM,aQ⟩:=V HD _ v' w1 ag aN ar;have hm:(way++[c]).length=way.length+1:=(by simp);obtain⟨bp,be,aB,_,_⟩:=F.w.sk.shape;rw[hm]at aB;subst aB;have y1:w1.cell? ⟨p,1,none⟩=some (.slice l way.length C):=cell_of (j:=1) E f2P;have yf:=x0e (j:=1) E;have M:=O F;have I:=O aM;have S:=O aQ;go_wp2;go_loopw[6,48] (fun _ i wr=>∃(k:Nat) (o:List Int) (ab B:Value),i=.int .i64 k/\k<=zs.length/\o.length<=32/\Hid ((zs.drop k).foldl (Cn.stepW rs f (way++[c])) (o,0)=r)/\Hid (Wk w0.heap.size wr p (.func (.func g) fa cb) (way++[c]) o ab B)/\Hid (Frm W1 wr p (.slice l way.length C) ev)/\Hid (x0V W1 (.slice l way.length C) ab)/\Hid (x0V W1 ev B)) (fun _ i _=>zs.length-(intOf i).toNat)
 case atStart=>exact⟨0,out,_,ev,rfl,f6J,aT,HR,M,I,S,x0V.refl _ _⟩
 case round =>
  obtain⟨k,o,ab,B,rfl,G,y,HR,M,I,S,U⟩:=hrel;by_cases H:k<zs.length
  ·have a0:=(V HS wr p (.slice l way.length C) ev (V I) (V aG)).cellAt H;have aW:=V Q zs o k H;have aF:=(V ae);have N:=(V M);have aK:Bw w0 wr:=(V aI).trans ((V I).below (V H1) aV);have KD:=O (V IH (way++[c]) (zs.getD k 0) o wr p ab B P8P y (V aH k H) aK N);have D:=V A (zs.getD k 0) o y;have R:Hid ((zs.drop (k+1)).foldl (Cn.stepW rs f (way++[c])) (Cn.walk rs f (way++[c]) (zs.getD k 0) o)=r):=aW ▸ (V HR);have T:=(V I).size;generalize Cn.walk rs f (way++[c]) (zs.getD k 0) o=q at *;generalize zs.getD k 0=x at *;go_wp2_with fail;refine(V KD).mono ?_;rintro e3 w3 ⟨aw,⟨m,ay⟩|⟨m,rfl,aD,X,aC,aR,aP⟩⟩
   ·have u:q=r:=(V ae _ q m).symm.trans (V R);subst u;unfold Gave at ay;subst ay
    have HF:x5y w0.heap.size W p (.func (.func g) fa cb) way (.slice l way.length C) ev q (.panicked [{ v:=.iface 29 (.int .i64 q.2),recovered:=false }]) w3 :=
     ⟨(V F0).trans ((V I).trans aw (V S) (V U)) (x0V.refl _ _) (x0V.refl _ _),.inl ⟨m,rfl⟩⟩
    go_wp2;exact⟨rfl,HF⟩
   ·obtain⟨q1,q2⟩:=q;simp only at m D aC;subst m;have am:=O aC;have ai:Hid (Frm W1 w3 p (.slice l way.length C) ev):=(V I).trans aw (V S) (V U);have aj:Hid (x0V W1 (.slice l way.length C) aD):=(V S).trans aR T;have P:Hid (x0V W1 ev X):=(V U).trans aP T;go_wp2
    go_roundw
    case rel=>exact⟨k+1,q1,aD,X,by go_num,f6J,D,R,am,ai,aj,P⟩
    case measure=>exact g7Y
  ·obtain rfl:k=zs.length:=by omega
   have u:r=(o,0):=by
    have:=V HR;rw[List.drop_length]at this;exact this.symm
   subst u;have N:=V M;obtain⟨aq,af,rfl,_,_⟩:=N.w.sk.shape
   have d:Hid (∀n,x5y w0.heap.size W p (.func (.func g) fa cb) way (.slice l way.length C) ev (o,0) (.returned (.tuple #[])) ((wr.drewN n).setCell ⟨p,1,none⟩ (.slice aq way.length af))):=fun n=>by
    have Y:=x0k (w:=wr) ⟨n,rfl⟩;obtain⟨u1,u2,u3⟩:=(N.below Y).up;have g1:Frm W1 (wr.drewN n) p (.slice l way.length C) ev:=(V I).trans (Frm.of_below Y) (V S) (V U);have s1:=(V I).size;have s2:=Y.size;have s0:=(V F0).size;refine⟨(V F0).trans (g1.trans u2 (V S) (V U)) (x0V.refl _ _) (x0V.refl _ _),.inr ⟨rfl,rfl,_,B,u1,?_,?_⟩⟩
    ·exact((V S).trans u3 f6J).trans_left s0
    ·exact(V U).trans_left s0
   have y1:wr.cell? ⟨p,1,none⟩=some (.slice aq (way++[c]).length af):=cell_of (j:=1) N.blk f2P;have yf:=x0e (j:=1) N.blk
   have aL:way.length+1<=af:=by
    obtain⟨_,_,e,h5,_⟩:=N.w.sk.shape;simp at e h5;omega
   rw[show(way++[c]).length=way.length+1 by simp]at y1;go_wp2;go_region;go_wp2;go_end0;exact V d _
theorem z1J g fa cb rs w0(H:y1J g fa cb rs w0)(D:∀args w,(callFunc g args).run prog w=.ok (.enter g args) w)(s:∀c,(Cn.opn rs c).length<=1000000000):∀f,z7n g fa cb rs w0 f:=by
 intro f
 induction f with
 | zero =>
  intro B c out W p E C F A I t h;by_cases i:Cn.opn rs c=[]
  ·exact S9r
  ·by_cases X:c∈B
   ·exact G1k
   ·rw[Cn.x7p i X];exact y7M g fa cb rs w0 H D s B c out W p E C f6J i X I t h
 | succ f ih =>
  intro B c out W p E C F A I t h;by_cases i:Cn.opn rs c=[]
  ·exact S9r
  ·by_cases X:c∈B
   ·exact G1k
   ·rw[Cn.x7q i f X];exact z5i g fa cb rs w0 H D s B c out W p E C f ih f6J A i X I t h
end Go.Proofs.YtbmckadcjdedcaaGreatDoor
namespace Go.Proofs.YtbmckadcjdedcaaGreatDoor.Cn
open Go.Proofs.Tryz
theorem x1j{p:Prop}[Decidable p](h:(if p then(0:Int)else 61)=0):p:=by grind
theorem x0v{r}(h:right r=0):fam r.kind≠0:=fun e=>by
 unfold right at h;rw[if_pos e]at h;exact absurd h e8M
theorem x0n{r}(h:right r=0)(G:r.kind≠15):0<=r.lo/\r.lo<=r.hi/\r.hi<=1114111:=by
 have X:=x0v h;unfold right at h;rw[if_neg X,if_neg G]at h;have I:=x1j h;rw[Bool.and_eq_true]at I;exact o0d I.1
theorem right_step{r}(h:right r=0):1<=step r/\step r<=64:=by
 unfold step;by_cases H:r.kind=4
 ·rw[if_pos H];have X:=x0v h;unfold right at h;rw[if_neg X,if_neg f6J]at h;have I:=x1j h;rw[Bool.and_eq_true,if_neg f6J,if_neg f6J,if_pos H]at I;have D:=I.2;simp only[Bool.and_eq_true]at D;have:=o0d D.1.1.2;omega
 ·rw[if_neg H];omega
theorem x0u{x a b}(h:list x a b=true):(a<=x.length/\x.length<=b)/\∀c∈x,scalar c=true:=by
 unfold list at h;rw[Bool.and_eq_true]at h;exact⟨o0d h.1,List.all_eq_true.1 h.2⟩
theorem x0s{r}(h:right r=0)(o:r.kind=7):r.lo=r.hi/\scalar r.lo=true/\list r.to 2 2=true:=by
 have X:=x0v h;unfold right at h;rw[if_neg X,if_neg f6J]at h;have I:=x1j h;rw[Bool.and_eq_true,if_neg f6J,if_neg f6J,if_neg f6J,if_neg f6J,if_neg f6J,if_neg f6J,if_pos o]at I;exact m6R
theorem x2K{r}(h:right r=0)(E:r.kind=8):r.lo=r.hi/\scalar r.lo=true/\list r.to 1 2=true:=by
 have X:=x0v h;unfold right at h;rw[if_neg X,if_neg f6J]at h;have I:=x1j h;rw[Bool.and_eq_true,if_neg f6J,if_neg f6J,if_neg f6J,if_neg f6J,if_neg f6J,if_neg f6J,if_neg f6J,if_pos E]at I;exact m6R
theorem x5b:∀(l:List Rec) (i:Nat),x1f i l=Option.none->∀r∈l,right r=0
 | [],_,_=>fun r hr=>by cases hr
 | x::l,i,h=>fun r hr=>by
  rw[x1f]at h;split at h
  ·next hx =>
   rcases List.mem_cons.1 hr with rfl|hr
   ·exact hx
   ·exact x5b l (i+1) h r hr
  ·cases h
theorem x2s:∀(l:List Rec) (i:Nat) (x:Nat×Int),x1f i l=some x->x.2≠0
 | [],_,_,h=>by rw[x1f]at h;exact m5j
 | y::l,i,x,h=>by
  rw[x1f]at h;split at h
  ·exact x2s l (i+1) x h
  ·next hx=>cases h;exact hx
theorem x1J{l}(h:(check6 l).2=0):l.length<=4096/\∀r∈l,right r=0:=by
 unfold check6 at h;split at h
 ·exact absurd h e8N
 ·next hl =>
  refine⟨f6J,?_⟩;split at h
  ·next x hx=>exact absurd h (x2s _ _ _ hx)
  ·next hx=>exact x5b _ _ hx
end Go.Proofs.YtbmckadcjdedcaaGreatDoor.Cn
