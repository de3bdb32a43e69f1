/- TbD7 CcA7 CcB7 CcC7 CcD7 CcE7 CcF7 Cp7 -/
import Derived.Test.YtbmckadcjdedcaaGreatDoorD3
import Derived.Shelf.Abstract
import Derived.Lib.Walk
import Derived.Maps.AppendAt
import Derived.Deep.RegionHeld3
set_option maxHeartbeats 4000000
set_option maxRecDepth 8000
namespace Go.Proofs.YtbmckadcjdedcaaGreatDoor
open Go.Proofs.Tryz
open Go.RowKit
section
variable{p:Prop}
theorem N7T(h:p:=by simpa[List.getD,G]using A):p:=h
theorem p5p(h:p:=by simp[Value.ownBlock]at Y;subst Y;exact⟨P,t⟩):p:=h
theorem U7G(h:p:=by go_wp2;go_ret;exact T):p:=h
theorem I2e(h:p:=by have:=h.size;exact f6J):p:=h
theorem U3u(h:p:=by unfold Cn.opn;rw[if_neg X,Z]):p:=h
theorem g8I(h:p:=by go_enter func265,ntmps265;go_wp2_with fail;refine c0m K fun Q H=>?_;subst Q;go_wp2;go_ret2;exact⟨rfl,rfl⟩):p:=h
theorem n3j(h:p:=by go_wp2_with fail;refine c0m K fun Q H=>?_;subst Q;go_wp2;go_ret;exact⟨rfl,rfl⟩):p:=h
theorem p3d(h:p:=by have Z:=I.2;simp only[Bool.and_eq_true]at Z;exact⟨o0d Z.1.1.1,Z.1.1.2,Z.2⟩):p:=h
theorem F4r(h:p:=by rw[Cn.x2o i _ X];exact x9Z g R Y rs U H y d B c out W p C A f6J i X I t h):p:=h
theorem W8h(h:p:=by go_enter func176,ntmps176;exact t6u):p:=h
theorem U7H(h:p:=by go_wp2;go_ret;exact T):p:=h
theorem r6g(h:p:=by unfold Cn.syl at X;simpa using X):p:=h
theorem R3I(h:p:=by go_enter func133,ntmps133;go_wp2;go_ret;exact⟨rfl,((b0r).alloc (l0r _) _).alloc M7L _⟩):p:=h
theorem R7l(h:p:=by rw[Cn.x0Y i];exact x9Y g R Y rs U H y B c out W p C A D i I t h):p:=h
theorem m1L(h:p:=by
 rcases G with h | h
 ·exact(h.below t).below E
 ·exact h.sk):p:=h
theorem N3G(h:p:=by simp[List.getD,H]):p:=h
theorem G5X(h:p:=by simpa[Value.ownBlock]using e):p:=h
theorem t9C(h:p:=by exact(b0r).alloc (l0r _) _):p:=h
theorem f8B(h:p:=by rw[x1a];exact f6J):p:=h
theorem f2P(h:p:=by show 1<3;exact f6J):p:=h
theorem W6A(h:p:=by rw[J]):p:=h
theorem p1I(h:p:=by simp[z]):p:=h
theorem m6g(h:p:=by simp[o]):p:=h
theorem v4J(h:p:=by
 rcases q with e | e
 ·exact .inl (e ▸ Q)
 ·grind):p:=h
theorem T7e(h:p:=by show 0<3;exact f6J):p:=h
theorem U4w(h:p:=by show 2<3;exact f6J):p:=h
theorem f6c(h:p:=by first| rfl | trivial):p:=h
theorem G9m(h:p:=by rw[beq_eq_false_iff_ne];exact f6J):p:=h
end
def fbR(p:Rec->Bool):Nat->List Rec->Int
 | _,[]=>-1
 | i,r::l=>if p r then(i:Int)else fbR p (i+1) l
theorem z4M{p:Rec->Bool}{rs:List Rec}{k:Nat}{x:Int}(G:k<rs.length)(h:x=fbR p k (rs.drop k))(A:p (rs.getD k Cn.none)=true):x=(k:Int):=by
 rw[h,List.drop_eq_getElem_cons G,fbR,if_pos];exact N7T
theorem z1m{p:Rec->Bool}{rs:List Rec}{k:Nat}{x:Int}(G:k<rs.length)(h:x=fbR p k (rs.drop k))(A:p (rs.getD k Cn.none)=false):x=fbR p (k+1) (rs.drop (k+1)):=by
 rw[h,List.drop_eq_getElem_cons G,fbR,if_neg];have:p rs[k]=false:=N7T;simp[this]
theorem z4L{p:Rec->Bool}{rs:List Rec}{x:Int}(h:x=fbR p rs.length (rs.drop rs.length)):x=-1:=by
 rw[h,List.drop_length,fbR]
theorem y0c:∀args w,(callFunc 181 args).run prog w=.ok (.enter 181 args) w:=f0h
def AsksR(g:Nat)(cap:Array Value)(p:Rec->Bool)(w:World)(rs:List Rec):Prop:=∀(k:Nat) (vt:Value) (W:World),k<rs.length->Below w.heap.size w W->Sk .i32 W vt (rs.getD k Cn.none).to->Calls prog g (#[recV (rs.getD k Cn.none) vt]++cap) W (x0c W (p (rs.getD k Cn.none)))
def RIn(w:World)(v:Value)(rs:List Rec)(W:World):Prop:=Rcs W v rs/\Below w.heap.size w W
theorem RIn.on{w W Q:World}{v:Value}{rs:List Rec}(h:RIn w v rs W)(C:Bw W Q):RIn w v rs Q:=⟨h.1.below C,h.2.trans (C.mono h.2.size)⟩
theorem x7s(B C:Nat)(p:Rec->Bool)(v:Value)(rs:List Rec)(w:World)(N:Rcs w v rs)(A:AsksR 181 #[.pointer (some ⟨B,0,none⟩),.pointer (some ⟨C,0,none⟩)] p w rs) :
  Calls prog 168 #[v,.func (.func 181) #[] #[.pointer (some ⟨B,0,none⟩),.pointer (some ⟨C,0,none⟩)]] w (IntB w (fbR p 0 rs)):=by
 have t:=y0c;have L:Hid (RIn w v rs w):=⟨N,b0r⟩;have l:=O A;have a:Hid (fbR p 0 rs=fbR p 0 (rs.drop 0)):=R6O;have d:=N.1;obtain⟨s,M,rfl,D,Z⟩:=N.shape;generalize hq:fbR p 0 rs=x at *;go_enter func168,ntmps168;go_wp2;go_loopw[5,8] (fun _ i wr=>∃k:Nat,i=.int .i64 k/\k<=rs.length/\x=fbR p k (rs.drop k)/\RIn w (.slice s rs.length M) rs wr) (fun _ i _=>rs.length-(intOf i).toNat)
 case atStart=>exact⟨0,rfl,f6J,V a,V L⟩
 case round =>
  obtain⟨k,rfl,G,u,X⟩:=hrel;by_cases H:k<rs.length
  ·obtain⟨b,P,J,q,f,Q,I⟩:=X.1.place f6J;obtain⟨rfl,rfl⟩:s=some ⟨b,P,none⟩/\M=J:=W3N;obtain⟨x0,x1,x2,R,⟨o,F,m⟩,x5,g,K⟩:=I k H;have j:=O (V l k o wr H X.2 m);have c:Hid (p (rs.getD k Cn.none)=true->x=(k:Int)):=fun h=>z4M H u h;have Y:Hid (p (rs.getD k Cn.none)=false->x=fbR p (k+1) (rs.drop (k+1))):=fun h=>z1m H u h;have S:=O X;obtain⟨tq,z,rfl,_,_⟩:=m.shape;clear u X I q m l;unfold recV at j;generalize p (rs.getD k Cn.none)=y at j c Y;generalize(rs.getD k Cn.none).kind=kd,(rs.getD k Cn.none).lo=lo,(rs.getD k Cn.none).hi=hi,(rs.getD k Cn.none).n=n at *;generalize(rs.getD k Cn.none).name=nm,(rs.getD k Cn.none).other=ot,(rs.getD k Cn.none).wt=wt,(rs.getD k Cn.none).to.length=tl at *
   cases y with
   | true =>
    obtain rfl:=V c rfl;go_wp2_with(go_at_fn 181;refine(V j).mono ?_;rintro e r ⟨rfl,E⟩);have T:=O ((V S).on E).2;go_ret;exact i5u
   | false =>
    have U:=O (V Y rfl);go_wp2_with(go_at_fn 181;refine(V j).mono ?_;rintro e r ⟨rfl,E⟩);have T:=O ((V S).on E);go_round
    case rel=>exact⟨k+1,g2A,f6J,V U,V T⟩
    case measure=>exact g7T
  ·obtain rfl:k=rs.length:=f6J;obtain rfl:=z4L u;have T:=O X.2;go_wp2;go_ret;exact i5u
theorem y3f(f c:Int):∀(l:List Rec) (i:Nat),fbR (fun r=>decide (Cn.fam r.kind=f)&&Cn.speaks r c) i l=Cn.findA f c i l
 | [],i=>rfl
 | r::l,i=>by
  rw[fbR,Cn.findA,y3f f c l];by_cases h:Cn.fam r.kind=f/\Cn.speaks r c=true
  ·rw[if_pos h,if_pos (by simp[h.1,h.2])]
  ·rw[if_neg h,if_neg S4r]
theorem y0h{f c:Int}(z:f<0\/10<f):∀(l:List Rec) (i:Nat),Cn.findA f c i l=-1
 | [],i=>rfl
 | r::l,i=>by
  have:=Cn.x6p r.kind;rw[Cn.findA,if_neg (fun a=>f6J),y0h z l]
theorem y3g{l:List Rec}{f c:Int}(z:f<=0\/10<=f):Cn.find l f c=-1:=by
 unfold Cn.find;split
 ·rfl
 ·exact y0h f6J l 0
def FindT:Prop:=∀(v:Value) (rs:List Rec) (f c:Int) (w:World),Glob w->Rcs w v rs->I64 f->(-2147483648<=c/\c<=2147483647)->Calls prog 133 #[v,.int .i64 f,.int .i32 c] w (IntB w (Cn.find rs f c))
theorem x8K:FindT:=by
 intro v rs f c w Y N z I;obtain⟨b,m⟩:=z;by_cases a:f<=0
 ·rw[y3g (.inl a)];exact R3I
 ·by_cases p:10<=f
  ·rw[y3g (.inr p)];exact R3I
  ·have U:Bw w ((w.alloc (.cells #[.int .i64 f] 3)).alloc (.cells #[.int .i32 c] 21)):=((b0r).alloc (l0r _) _).alloc M7L _;have B:((w.alloc (.cells #[.int .i64 f] 3)).alloc (.cells #[.int .i32 c] 21)).cell? ⟨w.heap.size,0,none⟩=some (.int .i64 f):=f0k;have C:((w.alloc (.cells #[.int .i64 f] 3)).alloc (.cells #[.int .i32 c] 21)).cell? ⟨w.heap.size+1,0,none⟩=some (.int .i32 c):=f0k;have n:=N.below U;have P:=Y.on U
   have e:Cn.find rs f c=fbR (fun r=>decide (Cn.fam r.kind=f)&&Cn.speaks r c) 0 rs:=by
    unfold Cn.find;rw[if_neg f6J,y3f]
   rw[e]
   have K:Hid (Calls prog 168 #[v,.func (.func 181) #[] #[.pointer (some ⟨w.heap.size,0,none⟩),.pointer (some ⟨w.heap.size+1,0,none⟩)]] ((w.alloc (.cells #[.int .i64 f] 3)).alloc (.cells #[.int .i32 c] 21)) (IntB ((w.alloc (.cells #[.int .i64 f] 3)).alloc (.cells #[.int .i32 c] 21)) (fbR (fun r=>decide (Cn.fam r.kind=f)&&Cn.speaks r c) 0 rs))) :=
    x7s _ _ _ v rs _ n (fun k A W G t _=>y7E _ A f c _ _ W (N.fit G) (P.on t) (by rw[t.cell (x0a B)];exact B) (by rw[t.cell (x0a C)];exact C) f6J I)
   obtain⟨s,M,rfl,D,Z⟩:=N.shape;generalize fbR (fun r=>decide (Cn.fam r.kind=f)&&Cn.speaks r c) 0 rs=x at *;go_enter func133,ntmps133;go_wp2_with fail;refine c0m K fun Q E=>?_;have T:IntB w x (.returned (.int .i64 x)) Q:=⟨rfl,x0b U E⟩;go_wp2;go_ret;exact T
theorem x3t(c a b:Int)(w:World):Calls prog 176 #[.int .i32 c,.int .i32 a,.int .i32 b] w fun e w'=>e=.returned (.bool (decide (a<=c/\c<=b)))/\w'=w:=by
 by_cases D:a<=c
 ·by_cases Z:c<=b
  ·rw[d0t ⟨D,Z⟩];exact W8h
  ·rw[d0f (fun h=>Z h.2)];exact W8h
 ·rw[d0f (fun h=>D h.1)];exact W8h
theorem x6A(c:Int)(w:World):Calls prog 174 #[.int .i32 c] w fun e w'=>e=.returned (.bool (Cn.syl c))/\w'=w:=by
 have K:=O (x3t c 44032 55203 w);have N:decide (44032<=c/\c<=55203)=Cn.syl c:=rfl;rw[N]at K;go_enter func174,ntmps174;exact n3j
theorem y3R(c:Int)(w:World)(h:44032<=c/\c<=55203):Calls prog 175 #[.int .i32 c] w fun e w'=>e=.returned (.int .i32 ((c-44032)%28))/\w'=w:=by
 obtain⟨D,Z⟩:=h;have N:(c-44032).tmod 28=(c-44032)%28:=Int.tmod_eq_emod_of_nonneg f6J;go_enter func175,ntmps175;exact t6v
def sylA(c:Int):Int:=if(c-44032)%28=0 then 4352+(c-44032) / 588 else c-(c-44032)%28
def sylB(c:Int):Int:=if(c-44032)%28=0 then 4449+(c-44032) / 28%21 else 4519+(c-44032)%28
theorem y9V{rs:List Rec}{c:Int}(X:Cn.syl c=true):Cn.opn rs c=[sylA c,sylB c]:=by
 unfold Cn.opn sylA sylB;rw[if_pos X];split<;>rfl
theorem z6i{c:Int}(h:44032<=c/\c<=55203):(0<=sylA c/\sylA c<=100000)/\0<=sylB c/\sylB c<=100000:=by
 unfold sylA sylB;exact G7p
theorem x6N(c:Int)(w:World)(h:44032<=c/\c<=55203):Calls prog 265 #[.int .i32 c] w fun e w'=>e=.returned (.tuple #[.int .i32 (sylA c),.int .i32 (sylB c)])/\w'=w:=by
 have K:=O (y3R c w h);obtain⟨D,Z⟩:=h;by_cases a:(c-44032)%28=0
 ·have A:sylA c=4352+(c-44032) / 28 / 21:=(by unfold sylA;rw[if_pos a];exact f6J);have B:sylB c=4449+(c-44032) / 28%21:=(by unfold sylB;rw[if_pos a]);rw[A,B];rw[a]at K;have E:(c-44032).tdiv 28=(c-44032) / 28:=Int.tdiv_eq_ediv_of_nonneg f6J;have I:((c-44032) / 28).tmod 21=(c-44032) / 28%21:=Int.tmod_eq_emod_of_nonneg f6J;have d:((c-44032) / 28).tdiv 21=(c-44032) / 28 / 21:=Int.tdiv_eq_ediv_of_nonneg f6J;exact g8I
 ·have A:sylA c=c-(c-44032)%28:=(by unfold sylA;rw[if_neg a]);have B:sylB c=4519+(c-44032)%28:=(by unfold sylB;rw[if_neg a]);rw[A,B];have i:0<(c-44032)%28:=f6J;have U:(c-44032)%28<28:=f6J;exact g8I
theorem fam7:Cn.fam 7=3:=e8M
theorem fam6:Cn.fam 6=2:=e8M
theorem x5l(v:Value)(rs:List Rec)(c:Int)(w:World)(Y:Glob w)(N:Rcs w v rs)(I:Rune c):Calls prog 266 #[v,.int .i32 c] w (IntB w (Cn.find rs 3 c)):=by
 have R:=O (x1n 7 w Y w5o);rw[fam7]at R;have K:=O (fun W (C:Bw w W)=>x8K v rs 3 c W (Y.on C) (N.below C) w5o I);generalize Cn.find rs 3 c=r at *;obtain⟨s,M,rfl,_,_⟩:=N.shape;go_enter func266,ntmps266;go_wp2_with fail;refine c0m R fun Q E=>?_;have j:=O (V K Q E);go_wp2_with fail;refine c0m j fun A F=>?_;have T:IntB w r (.returned (.int .i64 r)) A:=⟨rfl,x0b E F⟩;go_wp2;go_ret;exact T
theorem z7b:z6C:=by
 intro v rs c w Y N I;have R:=O (x1n 6 w Y w5o);rw[fam6]at R;have K:=O (fun W (C:Bw w W)=>x8K v rs 2 c W (Y.on C) (N.below C) w5o I);obtain⟨G,o⟩:=I;rcases hit_at N 2 c with⟨D,Z⟩ | ⟨k,b,P,M,D,H,Z,rfl,S,U,u,z⟩
 ·have y:Cn.cls rs c=0:=g7r;rw[y];rw[D]at K;obtain⟨s,M,rfl,_,_⟩:=N.shape;go_enter func233,ntmps233;go_wp2_with fail;refine c0m R fun Q E=>?_;have j:=O (V K Q E);go_wp2_with fail;refine c0m j fun A F=>?_;have T:IntB w 0 (.returned (.int .i64 0)) A:=⟨rfl,x0b E F⟩;go_wp2;go_ret;exact T
 ·have y:Cn.cls rs c=(rs.getD k Cn.none).n:=g7r;rw[y];rw[D]at K;have g:=O u;have d:=N.1;generalize rs.getD k Cn.none=r at *;go_enter func233,ntmps233;go_wp2_with fail;refine c0m R fun Q E=>?_;have j:=O (V K Q E);go_wp2_with fail;refine c0m j fun A F=>?_;have J:=((V g).below (x0b E F)).n;have T:IntB w r.n (.returned (.int .i64 r.n)) A:=⟨rfl,x0b E F⟩;go_wp2;go_ret;exact T
def OpB(w0 w:World)(zs:List Int)(e:Ending)(w':World):Prop:=∃v,e=.returned v/\(Sk .i32 w0 v zs\/Ok .i32 21 w' w.heap.size v zs)/\Below w.heap.size w w'
theorem x8d(v:Value)(rs:List Rec)(c:Int)(U w:World)(Y:Glob w)(N:Rcs U v rs)(t:Bw U w)(I:Rune c):Calls prog 231 #[v,.int .i32 c] w (OpB U w (Cn.opn rs c)):=by
 have R:=O (x6A c w);by_cases X:Cn.syl c=true
 ·have E:44032<=c/\c<=55203:=r6g;rw[X]at R;rw[y9V X];obtain⟨⟨G,J⟩,f,a⟩:=z6i E;have i:=O (x6N c w E);obtain⟨s,M,rfl,_,_⟩:=N.shape
  have T:OpB U w [sylA c,sylB c] (.returned (.slice (some ⟨w.heap.size,0,none⟩) 2 2)) (w.alloc (.cells #[.int .i32 (sylA c),.int .i32 (sylB c)] 21)) :=
   ⟨_,rfl,.inr (ok_two w _ _ f6J f6J),(b0r).alloc (l0r _) _⟩
  go_enter func231,ntmps231;go_wp2_with fail;refine c0m R fun Q H=>?_;subst Q;go_wp2_with fail;refine c0m i fun Q H=>?_;subst Q;go_wp2;go_ret;exact T
 ·have E:Cn.syl c=false:=R1Y;rw[E]at R;have K:=O (x5l v rs c w Y (N.below t) I);rcases hit_at N 3 c with⟨D,Z⟩ | ⟨k,b,P,M,D,m,Z,rfl,S,o,u,z⟩
  ·have y:Cn.opn rs c=[]:=U3u;rw[y];rw[D]at K;obtain⟨s,M,rfl,_,_⟩:=N.shape;go_enter func231,ntmps231;go_wp2_with fail;refine c0m R fun Q H=>?_;subst Q;go_wp2_with fail;refine c0m K fun Q C=>?_;have T:OpB U w [] (.returned (.slice none 0 0)) Q:=⟨_,rfl,.inr (Ok.nil _ _ _ _),C⟩;go_wp2;go_ret;exact T
  ·have y:Cn.opn rs c=(rs.getD k Cn.none).to:=U3u;rw[y];rw[D]at K;have d:=N.1;obtain⟨A,F,j⟩:=u.to;have B:w.cell? ⟨b,P+k*8+4,none⟩=some A:=(by rw[t.cell (x0a F)];exact F);have L:Hid (∀W,Bw w W->W.cell? ⟨b,P+k*8+4,none⟩=some A):=fun W C=>(by rw[C.cell (x0a B)];exact B);have l:=O j;generalize(rs.getD k Cn.none).to=n at *;go_enter func231,ntmps231;go_wp2_with fail;refine c0m R fun Q H=>?_;subst Q;go_wp2_with fail;refine c0m K fun Q C=>?_;have F:=V L Q C;have T:OpB U w n (.returned A) Q:=⟨_,rfl,.inl (V l),C⟩;go_wp2;go_ret;exact T
theorem y9E(w:World):(w.alloc (.cells #[] 21)).ownsRow w.heap.size 21 1 (.slice (some ⟨w.heap.size,0,none⟩) 0 0) 0 []:=by
 refine⟨rfl,.inr ⟨w.heap.size,0,#[],rfl,l0r _,?_,l0r _,T7W,rfl,rfl⟩⟩;exact R0n
theorem z7Z(p:Addr)(n cap:Nat)(w:World):(binOp BinOp.eql 40 (.slice (some p) n cap) (.slice none 0 0)).run prog w=.ok (.bool false) w:=f4x
theorem z5E(w:World):(binOp BinOp.eql 40 (.slice none 0 0) (.slice none 0 0)).run prog w=.ok (.bool true) w:=f4x
theorem x2T(v:Value)(zs:List Int)(w:World)(N:Sk .i32 w v zs)(S:zs.length<=1000000000):Calls prog 52 #[v] w (x0j w zs):=by
 obtain⟨r,hi,i,d,f⟩:=info_parts Tryz.info21;have o:=N.1;have c:(zs.map (Value.int .i32)).length=zs.length:=List.length_map _;rcases N.2.src with⟨t,rfl⟩ | ⟨p,L,rfl,B⟩
 ·obtain rfl:zs=[]:=(by simpa using t);have T:x0j w [] (.returned (.slice none 0 0)) w:=⟨_,rfl,Ok.nil _ _ _ _,b0r⟩;have F:=z5E;go_enter func52,ntmps52;exact U7I
 ·have E:=O (y9E w);rw[c]
  have A:∀j u,(zs.map (Value.int .i32))[j]?=some u->(w.alloc (.cells #[] 21)).cell? (p.add j)=some u:=by
   intro j u K;have h:=B j u K;have H:(p.add j).block<w.heap.size:=World.block_lt_of_cell? w _ h;exact(Below.cell ((Below.refl w.heap.size w).alloc (l0r _) _) H).trans h
  have D:Bw w (w.alloc (.cells #[] 21)):=(b0r).alloc (l0r _) _;have F:=z7Z;go_enter func52,ntmps52;go_wp2_with(at_builtin;refine wpList_append_own _ rfl (.tmp 5) (.tmp 6) 40 rfl w.heap.size 21 r (.int .i32 0) 1 4 underlying40 hi i d f rfl e8P _ _ _ rfl (V E) p zs.length L (zs.map (Value.int .i32)) rfl M7N A (fun u W=>w8O) T7W f6J M7N ?_);intro X q Y R _;have x:Bw w q:=D.grown R D.size (fun k G=>by simp[Value.ownBlock]at G;exact f6J);have T:x0j w zs (.returned X) q:=⟨X,rfl,Ok.of o f6J Y M7N M7N,x⟩;exact U7I
theorem z1d{w:World}{v:Value}{rs:List Rec}(N:Rcs w v rs)(c:Int):(Cn.opn rs c).length<=1000000000:=by
 unfold Cn.opn;split
 ·split<;>simp
 ·rcases hit_at N 3 c with⟨_,Z⟩ | ⟨k,b,P,M,D,H,Z,_,_,_,_,z⟩
  ·rw[Z];simp
  ·rw[Z];exact z.len
theorem openC:OpenC:=by
 intro v rs c w Y N I;have K:=O (x8d v rs c w w Y N (b0r) I);have S:=z1d N c;obtain⟨s,M,rfl,_,_⟩:=N.shape;generalize Cn.opn rs c=L at *;go_enter func285,ntmps285;go_wp2_with fail;refine(V K).mono ?_;rintro e Q ⟨H,rfl,G,E⟩
 have X:Sk .i32 Q H L:=by
  rcases G with h | h
  ·exact h.below E
  ·exact h.sk
 have j:=O (x2T H L Q X S);go_wp2_with fail;refine(V j).mono ?_;rintro e A ⟨R,rfl,b,F⟩;have T:x0j w L (.returned R) A:=⟨R,rfl,b.lower E.size,x0b E F⟩;exact U7G
theorem primC:PrimC:=by
 intro v rs c w Y N I;have R:=O (x6A c w);by_cases X:Cn.syl c=true
 ·have E:44032<=c/\c<=55203:=r6g;rw[X]at R;have A:Cn.prim rs c=some (sylA c,sylB c):=(by unfold Cn.prim;rw[if_pos X,y9V X];rfl);rw[A];have i:=O (x6N c w E);obtain⟨ao,M,rfl,_,_⟩:=N.shape;have T:x6c w (some (sylA c,sylB c)) (.returned (.tuple #[.int .i32 (sylA c),.int .i32 (sylB c),.bool true])) w:=⟨rfl,b0r⟩;go_enter func234,ntmps234;go_wp2_with fail;refine c0m R fun Q H=>?_;subst Q;go_wp2_with fail;refine c0m i fun Q H=>?_;subst Q;go_wp2;go_ret3;exact T
 ·have E:Cn.syl c=false:=R1Y;rw[E]at R;have K:=O (x5l v rs c w Y N I);rcases hit_at N 3 c with⟨D,Z⟩ | ⟨k,b,P,M,D,ai,Z,rfl,S,hm,u,z⟩
  ·have y:Cn.prim rs c=none:=f5B;rw[y];rw[D]at K;obtain⟨ao,M,rfl,_,_⟩:=N.shape;go_enter func234,ntmps234;go_wp2_with fail;refine c0m R fun Q H=>?_;subst Q;go_wp2_with fail;refine c0m K fun Q hb=>?_;have B:x6c w none (.returned (.tuple #[.int .i32 0,.int .i32 0,.bool false])) Q:=⟨rfl,hb⟩;go_wp2;go_ret3;exact B
  ·have af:Hid ((rs.getD k Cn.none).kind=7->(rs.getD k Cn.none).to.length=2->Cn.prim rs c=some ((rs.getD k Cn.none).to.getD 0 0,(rs.getD k Cn.none).to.getD 1 0)):=fun a b=>by
    unfold Cn.prim;rw[if_neg X,Z];simp only;rw[if_pos ⟨a,b⟩]
   have j:Hid (¬((rs.getD k Cn.none).kind=7/\(rs.getD k Cn.none).to.length=2)->Cn.prim rs c=none):=fun a=>by
    unfold Cn.prim;rw[if_neg X,Z];simp only;rw[if_neg a]
   rw[D]at K;have g:=O u;have d:=N.1;generalize rs.getD k Cn.none=r,Cn.prim rs c=pr at *;go_enter func234,ntmps234;go_wp2_with fail;refine c0m R fun Q H=>?_;subst Q;go_wp2_with fail;refine c0m K fun Q hb=>?_;have ab:=(V g).below hb;obtain⟨vt,x4,U⟩:=ab.to;have x0:=ab.kind;generalize r.to=zs,r.kind=J at *;obtain⟨s,L,rfl,ag,F⟩:=U.shape;have B:x6c w none (.returned (.tuple #[.int .i32 0,.int .i32 0,.bool false])) Q:=⟨rfl,hb⟩;by_cases x:J=7
   ·subst x;by_cases f:zs.length=2
    ·obtain rfl:=V af rfl f;obtain⟨W,G,C,he,_,_,ae⟩:=U.place f6J;obtain⟨rfl,rfl⟩:s=some ⟨W,G,none⟩/\L=C:=M2U;have m:=ae 0 f6J;have t:=ae 1 f6J;rw[Nat.add_zero]at m;rw[f]at x4 ag;generalize zs.getD 0 0=p,zs.getD 1 0=q at *;have T:∀n,x6c w (some (p,q)) (.returned (.tuple #[.int .i32 p,.int .i32 q,.bool true])) (Q.drewN n):=fun n=>⟨rfl,x0b hb (x0k ⟨n,rfl⟩)⟩;clear hb ae he U B f;go_wp2;go_big_quiet (fail);go_wp2;go_ret3;exact T _
    ·obtain rfl:=V j (fun h=>f h.2);have l:((zs.length:Int) != 2)=true:=P8P;go_wp2;go_ret3;exact B
   ·obtain rfl:=V j (fun h=>x h.1);have q7:(J != 7)=true:=v5I;go_wp2;go_ret3;exact B
theorem y8f(v:Value)(zs:List Int)(c:Int)(w:World)(N:Sk .i32 w v zs)(S:zs.length<=1000000000):Calls prog 254 #[v,.int .i32 c] w (fun e w'=>∃n:Int,e=.returned (.int .i64 n)/\(0<=n↔c∈zs)/\w'=w):=by
 rcases Nat.eq_zero_or_pos zs.length with h0 | h0
 ·obtain⟨s,M,rfl,_,_⟩:=N.shape;obtain rfl:zs=[]:=List.eq_nil_of_length_eq_zero h0;go_enter func254,ntmps254;go_wp2;refine wp_loop_rounds 1 ?_;rw[rounds_succ];go_wp2;go_ret;exact⟨-1,rfl,M7L,rfl⟩
 ·obtain⟨b,P,M,rfl,f,Q,I⟩:=N.place h0;have Y:=O I;clear N I;go_enter func254,ntmps254;go_wp2;go_loopw[5,8] (fun _ i wr=>∃k:Nat,i=.int .i64 k/\k<=zs.length/\wr=w/\Hid (∀j,j<k->zs.getD j 0≠c)) (fun _ i _=>zs.length-(intOf i).toNat)
  case atStart=>exact⟨0,rfl,f6J,rfl,fun j K=>f6J⟩
  case round =>
   obtain⟨k,rfl,G,rfl,L⟩:=hrel;by_cases H:k<zs.length
   ·have F:=V Y k H;by_cases q:zs.getD k 0=c
    ·have E:Hid (c∈zs):=by
      show c∈zs;rw[<- q];simp[List.getD,H]
     rw[q]at F;have p:(c==c)=true:=M7L;go_wp2;go_ret;exact⟨k,rfl,⟨fun _=>V E,fun _=>f6J⟩,rfl⟩
    ·have p:(c==zs.getD k 0)=false:=by
      rw[beq_eq_false_iff_ne];exact fun e=>q e.symm
     have B:Hid (∀j,j<k+1->zs.getD j 0≠c):=fun j K=>by
      rcases Nat.lt_or_ge j k with h | h
      ·exact V L j h
      ·grind
     generalize zs.getD k 0=t at F p;go_wp2
     go_roundw
     case rel=>exact⟨k+1,g2A,f6J,f6c,B⟩
     case measure=>exact g7V
   ·have E:Hid (¬c∈zs):=fun U=>by
     obtain⟨j,K,e⟩:=List.getElem_of_mem U;exact V L j f6J (by simp[List.getD,K,e])
    go_wp2;go_ret;exact⟨-1,rfl,⟨fun h=>f6J,fun h=>absurd h (V E)⟩,rfl⟩
theorem x2V(v:Value)(zs:List Int)(c:Int)(w:World)(N:Sk .i32 w v zs)(S:zs.length<=1000000000):Calls prog 208 #[v,.int .i32 c] w (fun e w'=>e=.returned (.bool (decide (c∈zs)))/\w'=w):=by
 have K:=O (y8f v zs c w N S);obtain⟨s,M,rfl,_,_⟩:=N.shape;have C:Hid (c∈zs->decide (c∈zs)=true):=fun h=>d0t h;have B:Hid (¬c∈zs->decide (c∈zs)=false):=fun h=>d0f h;generalize decide (c∈zs)=b at *;go_enter func208,ntmps208;go_wp2_with fail;refine(V K).mono ?_;rintro e Q ⟨n,rfl,E,H⟩;subst Q;by_cases h:0<=n
 ·obtain rfl:=V C (E.1 h);clear E C B;exact t6u
 ·obtain rfl:=V B (fun U=>h (E.2 U));have hd:decide (0<=n)=false:=d0f h;clear E C B;exact t6u
structure Wk(b0:Nat)(W:World)(p:Nat)(fv:Value)(way ends:List Int)(wv ev:Value):Prop where
 blk:W.heap[p]?=some (.cells #[fv,wv,ev] 303 (0,0))
 own:b0<=p
 w:Ok .i32 21 W b0 wv way
 e:Ok .i32 21 W b0 ev ends
 ap:∀g,wv.ownBlock=some g->ev.ownBlock≠some g
structure Frm(W W':World)(p:Nat)(wv ev:Value):Prop where
 os:W'.os=W.os
 tape:W'.tape=W.tape
 output:W'.output=W.output
 size:W.heap.size<=W'.heap.size
 keep:∀g,g<W.heap.size->g≠p->wv.ownBlock≠some g->ev.ownBlock≠some g->W'.heap[g]?=W.heap[g]?
def x0V(W:World)(v v':Value):Prop:=∀g,v'.ownBlock=some g->v.ownBlock=some g\/W.heap.size<=g
theorem x0V.refl(W:World)(v:Value):x0V W v v:=fun _ h=>.inl h
theorem x0V.trans{W W1:World}{a b c:Value}(h:x0V W a b)(k:x0V W1 b c)(X:W.heap.size<=W1.heap.size):x0V W a c:=fun g Y=>by
 rcases k g Y with h1 | h1
 ·exact h g h1
 ·exact e5w
theorem x0V.trans_left{W W1:World}{a b:Value}(h:x0V W1 a b)(X:W.heap.size<=W1.heap.size):x0V W a b:=(x0V.refl W a).trans h X
theorem y8S{w:World}{B:Nat}{v:Value}{zs:List Int}(h:Ok .i32 21 w B v zs){g:Nat}(Y:v.ownBlock=some g):∃P,w.heap[g]?=some (.cells P 21 (0,0)):=by
 rcases h.2.2.2 with⟨rfl,_⟩ | ⟨k,M,P,rfl,_,t,_⟩
 ·cases Y
 ·exact p5p
theorem Wk.pw{i:Nat}{W:World}{p:Nat}{k:Value}{B K:List Int}{wv ev:Value}(h:Wk i W p k B K wv ev):wv.ownBlock≠some p/\ev.ownBlock≠some p:=by
 refine⟨fun e=>?_,fun e=>?_⟩
 ·obtain⟨P,I⟩:=y8S h.w e;rw[h.blk]at I;simp at I
 ·obtain⟨P,I⟩:=y8S h.e e;rw[h.blk]at I;simp at I
theorem Wk.lt{i:Nat}{W:World}{p:Nat}{k:Value}{B K:List Int}{wv ev:Value}(h:Wk i W p k B K wv ev):p<W.heap.size:=by
 have:=h.blk;rcases Nat.lt_or_ge p W.heap.size with h1 | h1
 ·exact h1
 ·grind
theorem Wk.below{i:Nat}{W Q:World}{p:Nat}{k:Value}{B K:List Int}{wv ev:Value}(h:Wk i W p k B K wv ev)(C:Bw W Q):Wk i Q p k B K wv ev :=
 ⟨by rw[C.block p h.lt];exact h.blk,h.own,h.w.below C,h.e.below C,h.ap⟩
theorem Frm.below{i:Nat}{W Q:World}{p:Nat}{A:Value}{B K:List Int}{wv ev:Value}(h:Wk i W p A B K wv ev)(z:Frm W Q p wv ev)(X:i<=W.heap.size):Below i W Q :=
 ⟨z.os,z.tape,z.output,z.size,fun k G=>z.keep k f6J (by have:=h.own;exact f6J) (fun e=>by have:=(h.w.2.2.lt k e).1;exact f6J) (fun e=>by have:=(h.e.2.2.lt k e).1;exact f6J)⟩
theorem Frm.of_below{W Q:World}{p:Nat}{wv ev:Value}(C:Bw W Q):Frm W Q p wv ev:=⟨C.os,C.tape,C.output,C.size,fun g Y _ _ _=>C.block g Y⟩
theorem Frm.trans{W W1 b:World}{p:Nat}{wv ev B A:Value}(h:Frm W W1 p wv ev)(k:Frm W1 b p B A)(t:x0V W wv B)(q:x0V W ev A):Frm W b p wv ev:=by
 refine⟨k.os.trans h.os,k.tape.trans h.tape,k.output.trans h.output,Nat.le_trans h.size k.size,fun g Y D Z R=>?_⟩;rw[k.keep g I2e D (fun e=>?_) (fun e=>?_),h.keep g Y D Z R]
 ·rcases t g e with h4 | h4
  ·exact Z h4
  ·omega
 ·rcases q g e with h4 | h4
  ·exact R h4
  ·omega
theorem Wk.taken{i:Nat}{W w1:World}{p:Nat}{k:Value}{B K:List Int}{wv ev v':Value}{o:Obj}{c:Int}(h:Wk i W p k B K wv ev)(S:K.length<=40)(I:Rune c)
  (s:w1.ownsRow i 21 1 v' (K.length+1) (K.map (Value.int .i32)++[.int .i32 c])) (Y:(W.alloc o).grownBy w1 ev.ownBlock) (q:v'.ownBlock=ev.ownBlock\/v'.ownBlock=some (W.heap.size+1)) :
  w1.heap[p]?=some (.cells #[k,wv,ev] 303 (0,0))/\Wk i (w1.setCell ⟨p,2,none⟩ v') p k B (K++[c]) wv v'/\Frm W (w1.setCell ⟨p,2,none⟩ v') p wv ev/\x0V W ev v':=by
 have A:=h.lt;obtain⟨G,R⟩:=h.pw;have L:∀g,g<W.heap.size->(W.alloc o).heap[g]?=W.heap[g]?:=fun g Y=>((Below.refl W.heap.size W).alloc (l0r _) _).block g Y
 have M:∀g,g<W.heap.size->ev.ownBlock≠some g->w1.heap[g]?=W.heap[g]?:=fun g D Z=>by
  rw[Y.block g P8P (fun e=>Z e.symm),L g D]
 have J:W.heap.size+1<=w1.heap.size:=(by simpa using Y.size);have C:w1.heap[p]?=some (.cells #[k,wv,ev] 303 (0,0)):=by rw[M p A R];exact h.blk
 have X:x0V W ev v':=fun g Q=>v4J
 have y:Ok .i32 21 w1 i v' (K++[c]):=by
  refine Ok.of (h.e.1.snoc (x0T I)) P8P s M7N M7N
 have F:∀g,v'.ownBlock=some g->g≠p:=fun g D Z=>by
  subst Z;rcases X g D with h3 | h3
  ·exact R h3
  ·omega
 refine⟨C,⟨?_,h.own,?_,?_,?_⟩,?_,X⟩
 ·rw[x0f C];rfl
 ·refine h.w.keep fun g D=>?_;have H:=(h.w.2.2.lt g D).2;rw[x0g _ (fun e=>by subst e;exact G D),M g H (h.ap g D)]
 ·refine y.keep fun g D=>?_;rw[x0g _ (F g D)]
 ·intro g D Z;rcases X g Z with h3 | h3
  ·exact h.ap g D h3
  ·have:=(h.w.2.2.lt g D).2;omega
 ·refine⟨?_,?_,?_,f8B,fun g D Z _ E=>by rw[x0g _ Z,M g D E]⟩
  ·have:=(x0d (Below.refl 0 w1) (g:=p) (j:=2) (Nat.zero_le _) v').os;rw[this,Y.os];rfl
  ·have:=(x0d (Below.refl 0 w1) (g:=p) (j:=2) (Nat.zero_le _) v').tape;rw[this,Y.tape];rfl
  ·have:=(x0d (Below.refl 0 w1) (g:=p) (j:=2) (Nat.zero_le _) v').output;rw[this,Y.output];rfl
def Gave(n:Int)(e:Ending):Prop:=e=.panicked [{ v:=.iface 29 (.int .i64 n),recovered:=false }]
def z0C(b0:Nat)(W:World)(p:Nat)(fv:Value)(way ends:List Int)(wv ev:Value)(c:Int)(e:Ending)(W':World):Prop :=
 (32<=ends.length/\Gave 2 e/\W'=W)\/(ends.length<32/\e=.returned (.tuple #[])/\∃ev',Wk b0 W' p fv way (ends++[c]) wv ev'/\Frm W W' p wv ev/\x0V W ev ev')
theorem z2I(i:Nat)(W:World)(p:Nat)(k:Value)(B K:List Int)(wv ev:Value)(c:Int)(h:Wk i W p k B K wv ev)(U:i<=W.heap.size)(S:K.length<=32)(I:Rune c) :
  Calls prog 264 #[.pointer (some ⟨p,0,none⟩),.int .i32 c] W (z0C i W p k B K wv ev c):=by
 obtain⟨r,hi,g,d,f⟩:=info_parts Tryz.info21;have l:W.cell? ⟨p,2,none⟩=some ev:=cell_of (j:=2) h.blk U4w;obtain⟨s,M,rfl,_,_⟩:=h.e.sk.shape;by_cases F:K.length=32
 ·have T:z0C i W p k B K wv (.slice s K.length M) c (.panicked [{ v:=.iface 29 (.int .i64 2),recovered:=false }]) W:=.inl ⟨f6J,rfl,rfl⟩;rw[F]at l T;have L:((32:Nat):Int)=32:=rfl;go_enter func264,ntmps264;go_wp2;exact⟨rfl,T⟩
 ·have L:((K.length:Int)==32)=false:=G9m;have Y:∀o,(W.alloc o).ownsRow i 21 1 (.slice s K.length M) K.length (K.map (Value.int .i32)):=fun o=>h.e.row.alloc o;have Z:=O Y;have n:=O (fun o v' w1 a b t=>h.taken (o:=o) (v':=v') (w1:=w1) f6J I a b t);have D:K.length<32:=f6J;go_enter func264,ntmps264;go_wp2_with(at_builtin;refine wpList_append_own_at _ rfl (.tmp 15) (.tmp 17) 40 rfl i 21 r (.int .i32 0) 1 4 underlying40 hi g d f rfl e8P _ _ _ rfl (V Z _) ⟨W.heap.size,0,none⟩ 1 1 [.int .i32 c] rfl rfl (cell_one_new _ _ _) (x0J _ _) T7X f6J P8P ?_);intro v' w1 N P _ G;obtain⟨E,H,Q,C⟩:=V n _ v' w1 N P G;obtain⟨A,J,rfl,_,_⟩:=H.e.sk.shape;have q:w1.cell? ⟨p,2,none⟩=some (.slice s K.length M):=cell_of (j:=2) E U4w;have R:=x0e (j:=2) E;have T:z0C i W p k B K wv (.slice s K.length M) c (.returned (.tuple #[])) (w1.setCell ⟨p,2,none⟩ (.slice A (K++[c]).length J)):=.inr ⟨D,rfl,_,H,Q,C⟩;generalize(K++[c]).length=m at *;go_wp2;go_end0;exact T
def y1u(g:Nat)(fa cb:Array Value)(rs:List Rec)(w0:World):Prop:=∀(c:Int) (W:World),Below w0.heap.size w0 W->Rune c->Calls prog g (fa++#[.int .i32 c]++cb) W (OpB w0 W (Cn.opn rs c))
def x5t(b0:Nat)(W:World)(p:Nat)(fv:Value)(way:List Int)(wv ev:Value)(r:List Int×Int)(e:Ending)(W':World):Prop :=
 Frm W W' p wv ev/\((r.2≠0/\Gave r.2 e)\/(r.2=0/\e=.returned (.tuple #[])/\∃wv' ev',Wk b0 W' p fv way r.1 wv' ev'/\x0V W wv wv'/\x0V W ev ev'))
theorem Wk.down{i:Nat}{W w1:World}{p:Nat}{k:Value}{B K:List Int}{wv ev v':Value}{o:Obj}{c:Int}(h:Wk i W p k B K wv ev)(S:B.length<=40)(I:Rune c)
  (s:w1.ownsRow i 21 1 v' (B.length+1) (B.map (Value.int .i32)++[.int .i32 c])) (Y:(W.alloc o).grownBy w1 wv.ownBlock) (q:v'.ownBlock=wv.ownBlock\/v'.ownBlock=some (W.heap.size+1)) :
  w1.heap[p]?=some (.cells #[k,wv,ev] 303 (0,0))/\Wk i (w1.setCell ⟨p,1,none⟩ v') p k (B++[c]) K v' ev/\Frm W (w1.setCell ⟨p,1,none⟩ v') p wv ev/\x0V W wv v':=by
 have A:=h.lt;obtain⟨G,R⟩:=h.pw;have L:∀g,g<W.heap.size->(W.alloc o).heap[g]?=W.heap[g]?:=fun g Y=>((Below.refl W.heap.size W).alloc (l0r _) _).block g Y
 have M:∀g,g<W.heap.size->wv.ownBlock≠some g->w1.heap[g]?=W.heap[g]?:=fun g D Z=>by
  rw[Y.block g P8P (fun e=>Z e.symm),L g D]
 have E:W.heap.size+1<=w1.heap.size:=(by simpa using Y.size);have C:w1.heap[p]?=some (.cells #[k,wv,ev] 303 (0,0)):=by rw[M p A G];exact h.blk
 have X:x0V W wv v':=fun g Q=>v4J
 have y:Ok .i32 21 w1 i v' (B++[c]):=by
  refine Ok.of (h.w.1.snoc (x0T I)) P8P s M7N M7N
 have F:∀g,v'.ownBlock=some g->g≠p:=fun g D Z=>by
  subst Z;rcases X g D with h3 | h3
  ·exact G h3
  ·omega
 refine⟨C,⟨?_,h.own,?_,?_,?_⟩,?_,X⟩
 ·rw[x0f C];rfl
 ·refine y.keep fun g D=>?_;rw[x0g _ (F g D)]
 ·refine h.e.keep fun g D=>?_;have H:=(h.e.2.2.lt g D).2;rw[x0g _ (fun e=>by subst e;exact R D),M g H (fun e=>h.ap g e D)]
 ·intro g D Z;rcases X g D with h3 | h3
  ·exact h.ap g h3 Z
  ·have:=(h.e.2.2.lt g Z).2;omega
 ·refine⟨?_,?_,?_,f8B,fun g D Z h3 _=>by rw[x0g _ Z,M g D h3]⟩
  ·have:=(x0d (Below.refl 0 w1) (g:=p) (j:=1) (Nat.zero_le _) v').os;rw[this,Y.os];rfl
  ·have:=(x0d (Below.refl 0 w1) (g:=p) (j:=1) (Nat.zero_le _) v').tape;rw[this,Y.tape];rfl
  ·have:=(x0d (Below.refl 0 w1) (g:=p) (j:=1) (Nat.zero_le _) v').output;rw[this,Y.output];rfl
theorem Wk.up{i:Nat}{W:World}{p:Nat}{k:Value}{B K:List Int}{ev:Value}{ao:Option Addr}{len cap:Nat}{c:Int}(h:Wk i W p k (B++[c]) K (.slice ao len cap) ev) :
  Wk i (W.setCell ⟨p,1,none⟩ (.slice ao B.length cap)) p k B K (.slice ao B.length cap) ev/\Frm W (W.setCell ⟨p,1,none⟩ (.slice ao B.length cap)) p (.slice ao len cap) ev/\x0V W (.slice ao len cap) (.slice ao B.length cap):=by
 obtain⟨G,R⟩:=h.pw
 have r:∀g,(Value.slice ao B.length cap).ownBlock=some g->(Value.slice ao len cap).ownBlock=some g:=fun g Y=>by
  cases ao with
  | none=>simp[Value.ownBlock]at Y
  | some a=>simpa[Value.ownBlock]using Y
 have d:len=B.length+1:=by
  obtain⟨_,_,e,_,_⟩:=h.w.sk.shape;simp at e;omega
 have y:Ok .i32 21 W i (.slice ao B.length cap) B:=by
  refine⟨fun z o=>h.w.1 z m6g,by have:=h.w.2.1;simp at this ⊢;exact f6J,?_⟩;have Z:=h.w.2.2;refine⟨M7L,?_⟩;rcases Z.2 with⟨e,_⟩ | ⟨g,J,P,e,Y,t,E,m,I,s⟩
  ·simp at e;omega
  ·simp only[Value.slice.injEq]at e;obtain⟨rfl,f,rfl⟩:=e;simp only[List.length_map]at *;refine .inr ⟨g,cap,P,rfl,Y,t,by simp at E;exact f6J,m,I,?_⟩;have:=congrArg (List.take (B.length*1)) s;rw[List.take_take,List.map_append,List.take_append_of_le_length M7L]at this;rw[List.take_of_length_le (l:=B.map (Value.int .i32)) M7L]at this;simpa[Nat.min_eq_left (f6J:B.length<=B.length+1)]using this
 refine⟨⟨?_,h.own,?_,?_,?_⟩,?_,fun g Y=>.inl (r g Y)⟩
 ·rw[x0f h.blk];rfl
 ·refine y.keep fun g D=>?_;rw[x0g _ (fun e=>by subst e;exact G (r _ D))]
 ·refine h.e.keep fun g D=>?_;rw[x0g _ (fun e=>by subst e;exact R D)]
 ·exact fun g D=>h.ap g (r g D)
 ·refine⟨?_,?_,?_,f8B,fun g D Z _ _=>by rw[x0g _ Z]⟩
  ·exact(x0d (Below.refl 0 W) (g:=p) (j:=1) (Nat.zero_le _) _).os
  ·simp_all
  ·exact(x0d (Below.refl 0 W) (g:=p) (j:=1) (Nat.zero_le _) _).output
theorem Sk.frm{W Q:World}{p:Nat}{wv ev v:Value}{zs:List Int}(h:Sk .i32 W v zs)(z:Frm W Q p wv ev)(E:∀b off len cap,v=.slice (some ⟨b,off,none⟩) len cap->0<len->b≠p/\wv.ownBlock≠some b/\ev.ownBlock≠some b):Sk .i32 Q v zs:=by
 obtain⟨D,Z,R⟩:=h;refine⟨D,Z,?_⟩;rcases R with R | ⟨b,off,cap,N,S,U,I⟩
 ·exact .inl R
 ·refine .inr ⟨b,off,cap,N,S,U,fun i hi=>?_⟩;obtain⟨A,J,d⟩:=E b off _ cap N f6J;have H:=x0a (I i hi);rw[World.cell?_of_block (z.keep b H A J d)];exact I i hi
def z6E(g:Nat)(fa cb:Array Value)(rs:List Rec)(w0:World)(f:Nat):Prop:=∀(way:List Int) (c:Int) (out:List Int) (W:World) (p:Nat) (wv ev:Value),way.length+f=16->out.length<=32->Rune c->Below w0.heap.size w0 W ->
 Wk w0.heap.size W p (.func (.func g) fa cb) way out wv ev->Calls prog 230 #[.pointer (some ⟨p,0,none⟩),.int .i32 c] W (x5t w0.heap.size W p (.func (.func g) fa cb) way wv ev (Cn.walk rs f way c out))
theorem OpB.apart{U W W1:World}{p:Nat}{k:Value}{B K:List Int}{wv ev vt:Value}{zs:List Int}(h:Wk U.heap.size W p k B K wv ev)(hk:Sk .i32 U vt zs\/Ok .i32 21 W1 W.heap.size vt zs) :
  ∀b off len cap,vt=.slice (some ⟨b,off,none⟩) len cap->0<len->b≠p/\wv.ownBlock≠some b/\ev.ownBlock≠some b:=by
 intro b off len cap e S;have A:=h.lt;have y:=h.own;have t:∀g,wv.ownBlock=some g->U.heap.size<=g/\g<W.heap.size:=fun g Y=>h.w.2.2.lt g Y;have q:∀g,ev.ownBlock=some g->U.heap.size<=g/\g<W.heap.size:=fun g Y=>h.e.2.2.lt g Y
 have C:b<U.heap.size\/W.heap.size<=b:=by
  rcases hk with hk | hk
  ·left;subst e
   have o:0<zs.length:=by
    obtain⟨_,_,e,_,_⟩:=hk.shape;simp at e;omega
   obtain⟨X,D,J,e,_,_,I⟩:=hk.place o;simp at e;have:=x0a (I 0 o);omega
  ·right;exact(hk.2.2.lt b (by subst e;rfl)).1
 refine⟨f6J,fun e=>?_,fun e=>?_⟩
 ·have:=t b e;omega
 ·have:=q b e;omega
theorem x9Y(g:Nat)(R Y:Array Value)(rs:List Rec)(U:World)(H:y1u g R Y rs U)(y:∀args w,(callFunc g args).run prog w=.ok (.enter g args) w)(B:List Int)(c:Int)(out:List Int)(W:World)(p:Nat)(wv ev:Value)(D:out.length<=32)(S:Cn.opn rs c=[])(I:Rune c)(t:Bw U W)(h:Wk U.heap.size W p (.func (.func g) R Y) B out wv ev) :
  Calls prog 230 #[.pointer (some ⟨p,0,none⟩),.int .i32 c] W (x5t U.heap.size W p (.func (.func g) R Y) B wv ev (if 32<=out.length then([],2)else(out++[c],0))):=by
 have K:=O (H c W t I);have x:W.cell? ⟨p,0,none⟩=some (.func (.func g) R Y):=cell_of (j:=0) h.blk T7b;rw[S]at K;have n:Hid (∀f,Bw W f->Calls prog 264 #[.pointer (some ⟨p,0,none⟩),.int .i32 c] f (z0C U.heap.size f p (.func (.func g) R Y) B out wv ev c)):=fun f C=>z2I _ f p _ B out wv ev c (h.below C) (by have:=t.size;have:=C.size;exact f6J) D I;have i:Hid (32<=out.length->(if 32<=out.length then(([]:List Int),(2:Int))else(out++[c],0))=([],2)):=fun h=>if_pos h;have J:Hid (out.length<32->(if 32<=out.length then(([]:List Int),(2:Int))else(out++[c],0))=(out++[c],0)):=fun h=>if_neg f6J;generalize(if 32<=out.length then(([]:List Int),(2:Int))else(out++[c],0))=r at *;go_enter func230,ntmps230;go_wp2_with fail;refine(V K).mono ?_;rintro N f ⟨A,rfl,G,E⟩
 have X:Sk .i32 f A []:=m1L
 obtain⟨s,M,rfl,_,_⟩:=X.shape;have o:=O (V n f E);have F0:Hid (Frm W f p wv ev):=Frm.of_below E;go_wp2_with fail;refine(V o).mono ?_;rintro Z b (⟨F,rfl,rfl⟩ | ⟨F,rfl,k,P,Q,L⟩)
 ·obtain rfl:=V i F;have T:x5t U.heap.size W p (.func (.func g) R Y) B wv ev ([],2) (.panicked [{ v:=.iface 29 (.int .i64 2),recovered:=false }]) b:=⟨V F0,.inl ⟨e8N,rfl⟩⟩;go_wp2;exact⟨rfl,T⟩
 ·obtain rfl:=V J F
  have T:x5t U.heap.size W p (.func (.func g) R Y) B wv ev (out++[c],0) (.returned (.tuple #[])) b :=
   ⟨(V F0).trans Q (x0V.refl _ _) (x0V.refl _ _),.inr ⟨rfl,rfl,wv,k,P,x0V.refl _ _,L.trans_left (V F0).size⟩⟩
  go_wp2;refine bodyPost_ret (results_none rfl _ _ _) rfl ?_;exact T
theorem x9Z(g:Nat)(R Y:Array Value)(rs:List Rec)(U:World)(H:y1u g R Y rs U)(y:∀args w,(callFunc g args).run prog w=.ok (.enter g args) w)(d:∀c,(Cn.opn rs c).length<=1000000000)(B:List Int)(c:Int)(out:List Int)(W:World)(p:Nat)(wv ev:Value)(f:B.length<=16)(i:Cn.opn rs c≠[])(X:c∈B)(I:Rune c)(t:Bw U W)(h:Wk U.heap.size W p (.func (.func g) R Y) B out wv ev) :
  Calls prog 230 #[.pointer (some ⟨p,0,none⟩),.int .i32 c] W (x5t U.heap.size W p (.func (.func g) R Y) B wv ev ([],72)):=by
 have K:=O (H c W t I);have x:W.cell? ⟨p,0,none⟩=some (.func (.func g) R Y):=cell_of (j:=0) h.blk T7e;have S:=d c;have F:0<(Cn.opn rs c).length:=List.length_pos_iff.2 i;have C:=O (fun W1 vt G=>OpB.apart (W1:=W1) (vt:=vt) (zs:=Cn.opn rs c) h G);have M:=O (fun W1 (k:Bw W W1)=>h.below k);have a:=h.w.sk.shape;generalize Cn.opn rs c=zs at *;have Q:((zs.length:Int)==0)=false:=(by grind);go_enter func230,ntmps230;go_wp2_with fail;refine(V K).mono ?_;rintro N W1 ⟨vt,rfl,G,E⟩
 have n:Sk .i32 W1 vt zs:=m1L
 have m:=V C W1 vt G;have D:=V M W1 E;have F0:Hid (Frm W W1 p wv ev):=Frm.of_below E;have z:Bw U W1:=t.trans (E.mono t.size);obtain⟨s,L,rfl,_,_⟩:=n.shape;obtain⟨A,J,rfl,_,_⟩:=a;have u:W1.cell? ⟨p,1,none⟩=some (.slice A B.length J):=cell_of (j:=1) D.blk f2O;have Z:=O (x2V _ B c W1 D.w.sk f6J);rw[d0t X]at Z;have T:x5t U.heap.size W p (.func (.func g) R Y) B (.slice A B.length J) ev ([],72) (.panicked [{ v:=.iface 29 (.int .i64 72),recovered:=false }]) W1:=⟨V F0,.inl ⟨e8N,rfl⟩⟩;go_wp2_with fail;refine c0m Z fun b P=>?_;subst P;go_wp2;exact⟨rfl,T⟩
theorem y7j(g:Nat)(R Y:Array Value)(rs:List Rec)(U:World)(H:y1u g R Y rs U)(y:∀args w,(callFunc g args).run prog w=.ok (.enter g args) w)(d:∀c,(Cn.opn rs c).length<=1000000000)(B:List Int)(c:Int)(out:List Int)(W:World)(p:Nat)(wv ev:Value)(f:B.length=16)(i:Cn.opn rs c≠[])(X:¬c∈B)(I:Rune c)(t:Bw U W)(h:Wk U.heap.size W p (.func (.func g) R Y) B out wv ev) :
  Calls prog 230 #[.pointer (some ⟨p,0,none⟩),.int .i32 c] W (x5t U.heap.size W p (.func (.func g) R Y) B wv ev ([],73)):=by
 have K:=O (H c W t I);have x:W.cell? ⟨p,0,none⟩=some (.func (.func g) R Y):=cell_of (j:=0) h.blk T7e;have S:=d c;have F:0<(Cn.opn rs c).length:=List.length_pos_iff.2 i;have C:=O (fun W1 vt G=>OpB.apart (W1:=W1) (vt:=vt) (zs:=Cn.opn rs c) h G);have M:=O (fun W1 (k:Bw W W1)=>h.below k);have a:=h.w.sk.shape;generalize Cn.opn rs c=zs at *;have Q:((zs.length:Int)==0)=false:=(by grind);go_enter func230,ntmps230;go_wp2_with fail;refine(V K).mono ?_;rintro N W1 ⟨vt,rfl,G,E⟩
 have n:Sk .i32 W1 vt zs:=m1L
 have m:=V C W1 vt G;have D:=V M W1 E;have F0:Hid (Frm W W1 p wv ev):=Frm.of_below E;have z:Bw U W1:=t.trans (E.mono t.size);obtain⟨s,L,rfl,_,_⟩:=n.shape;obtain⟨A,J,rfl,_,_⟩:=a;have u:W1.cell? ⟨p,1,none⟩=some (.slice A B.length J):=cell_of (j:=1) D.blk f2O;have Z:=O (x2V _ B c W1 D.w.sk f6J);rw[d0f X]at Z;have T:x5t U.heap.size W p (.func (.func g) R Y) B (.slice A B.length J) ev ([],73) (.panicked [{ v:=.iface 29 (.int .i64 73),recovered:=false }]) W1:=⟨V F0,.inl ⟨e8N,rfl⟩⟩;rw[f]at Z u T;go_wp2_with fail;refine c0m Z fun b P=>?_;subst P;go_wp2;exact⟨rfl,T⟩
theorem Sk.cellAt{K:IntKind}{w:World}{b off len cap:Nat}{zs:List Int}(h:Sk K w (.slice (some ⟨b,off,none⟩) len cap) zs){i:Nat}(hi:i<zs.length):w.cell? ⟨b,off+i,none⟩=some (.int K (zs.getD i 0)):=by
 obtain⟨X,U,J,e,_,_,I⟩:=h.place f6J;simp only[Value.slice.injEq,Option.some.injEq,Addr.mk.injEq,and_true]at e;obtain⟨⟨rfl,rfl⟩,_,_⟩:=e;exact I i hi
theorem z4B(g:Nat)(R Y:Array Value)(rs:List Rec)(w0:World)(hO:y1u g R Y rs w0)(eg:∀args w,(callFunc g args).run prog w=.ok (.enter g args) w)(d:∀c,(Cn.opn rs c).length<=1000000000)(B:List Int)(c:Int)(out:List Int)(W:World)(p:Nat)(wv ev:Value)(f:Nat)(ih:z6E g R Y rs w0 f)(bA:B.length+f+1=16)(aU:out.length<=32)(aV:Cn.opn rs c≠[])(aP:¬c∈B)(hc:Rune c)(t:Bw w0 W)(h:Wk w0.heap.size W p (.func (.func g) R Y) B out wv ev) :
  Calls prog 230 #[.pointer (some ⟨p,0,none⟩),.int .i32 c] W (x5t w0.heap.size W p (.func (.func g) R Y) B wv ev ((Cn.opn rs c).foldl (Cn.stepW rs f (B++[c])) (out,0))):=by
 have K:=O (hO c W t hc);have x0:W.cell? ⟨p,0,none⟩=some (.func (.func g) R Y):=cell_of (j:=0) h.blk T7e;obtain⟨i0,hi,aZ,ba,be⟩:=info_parts Tryz.info21;have aj:Hid (∀x o,o.length<=32->(Cn.walk rs f (B++[c]) x o).1.length<=32):=fun x o y=>Cn.x9J rs f (B++[c]) x o y;have Q:Hid (∀(m:List Int) (o:List Int) (k:Nat),k<m.length->(m.drop k).foldl (Cn.stepW rs f (B++[c])) (o,0)=(m.drop (k+1)).foldl (Cn.stepW rs f (B++[c])) (Cn.walk rs f (B++[c]) (m.getD k 0) o)):=fun m o k G=>Cn.x6r G;have C:Hid (∀(m:List Int) (s:List Int×Int),s.2≠0->m.foldl (Cn.stepW rs f (B++[c])) s=s):=Cn.x1J rs f (B++[c]);have IH:=O ih;have hl:=d c;have aT:0<(Cn.opn rs c).length:=List.length_pos_iff.2 aV;have HA:=O (fun W1 vt G=>OpB.apart (W1:=W1) (vt:=vt) (zs:=Cn.opn rs c) h G);have M:=O (fun W1 (hb:Bw W W1)=>h.below hb);have aY:=h.w.sk.shape;generalize Cn.opn rs c=zs at *;have bu:((zs.length:Int)==0)=false:=G9m;obtain⟨r,u⟩:∃r,zs.foldl (Cn.stepW rs f (B++[c])) (out,0)=r:=⟨_,rfl⟩;rw[u];have HR:=O u;go_enter func230,ntmps230;go_wp2_with fail;refine(V K).mono ?_;rintro e1 W1 ⟨vt,rfl,G,E⟩
 have hs:Sk .i32 W1 vt zs:=by
  rcases G with h | h
  ·exact(h.below t).below E
  ·exact h.sk
 have aK:=V HA W1 vt G;have h1:=V M W1 E;have F0:Hid (Frm W W1 p wv ev):=Frm.of_below E;have z:Bw w0 W1:=t.trans (E.mono t.size);obtain⟨tb,bp,bn,rfl,_,_,_⟩:=hs.place aT;obtain⟨A,J,rfl,_,_⟩:=aY;have x1:W1.cell? ⟨p,1,none⟩=some (.slice A B.length J):=cell_of (j:=1) h1.blk f2P;have KC:=O (x2V _ B c W1 h1.w.sk f6J);rw[d0f aP]at KC;have bm:((B.length:Int)==16)=false:=G9m;have aB:∀o,(W1.alloc o).ownsRow w0.heap.size 21 1 (.slice A B.length J) B.length (B.map (Value.int .i32)):=fun o=>h1.w.row.alloc o;have Z:=O aB;have HD:=O (fun o v' w1 a b c'=>h1.down (o:=o) (v':=v') (w1:=w1) (c:=c) f6J hc a b c');have HS:=O (fun W' p' D ae (hf:Frm W1 W' p' D ae) hn=>hs.frm (p:=p') (wv:=D) (ev:=ae) hf hn);have aH:=O aK;have aW:=z.size;have aJ:=O z;have bj:=hs.1;have H1:=O h1;have aI:=O (fun k G=>x1c hs (i:=k) G);go_wp2_with fail;refine c0m KC fun W2 bw=>?_;subst W2;go_wp2_with(at_builtin;refine wpList_append_own_at _ rfl (.tmp 40) (.tmp 42) 40 rfl w0.heap.size 21 i0 (.int .i32 0) 1 4 underlying40 hi aZ ba be rfl e8S _ _ _ rfl (V Z _) ⟨W1.heap.size,0,none⟩ 1 1 [.int .i32 c] rfl rfl (cell_one_new _ _ _) (x0J _ _) T7X f6J P8P ?_);intro v' w1 N aO _ ay;obtain⟨E,aC,aN,aR⟩:=V HD _ v' w1 N aO ay;have hm:(B++[c]).length=B.length+1:=(by simp);obtain⟨bt,bh,P,_,_⟩:=aC.w.sk.shape;rw[hm]at P;subst P;have y1:w1.cell? ⟨p,1,none⟩=some (.slice A B.length J):=cell_of (j:=1) E f2P;have yf:=x0e (j:=1) E;have M:=O aC;have ab:=O aN;have I:=O aR;go_wp2;go_loopw[6,48] (fun _ i wr=>∃(k:Nat) (o:List Int) (D ae:Value),i=.int .i64 k/\k<=zs.length/\o.length<=32/\Hid ((zs.drop k).foldl (Cn.stepW rs f (B++[c])) (o,0)=r)/\Hid (Wk w0.heap.size wr p (.func (.func g) R Y) (B++[c]) o D ae)/\Hid (Frm W1 wr p (.slice A B.length J) ev)/\Hid (x0V W1 (.slice A B.length J) D)/\Hid (x0V W1 ev ae)) (fun _ i _=>zs.length-(intOf i).toNat)
 case atStart=>exact⟨0,out,_,ev,rfl,f6J,aU,HR,M,ab,I,x0V.refl _ _⟩
 case round =>
  obtain⟨k,o,D,ae,rfl,G,y,HR,M,ab,I,U⟩:=hrel;by_cases H:k<zs.length
  ·have a0:=(V HS wr p (.slice A B.length J) ev (V ab) (V aH)).cellAt H;have aX:=V Q zs o k H;have aG:=(V C);have l:=(V M);have aL:Bw w0 wr:=(V aJ).trans ((V ab).below (V H1) aW);have KD:=O (V IH (B++[c]) (zs.getD k 0) o wr p D ae P8P y (V aI k H) aL l);have F:=V aj (zs.getD k 0) o y;have S:Hid ((zs.drop (k+1)).foldl (Cn.stepW rs f (B++[c])) (Cn.walk rs f (B++[c]) (zs.getD k 0) o)=r):=aX ▸ (V HR);have af:=(V ab).size;generalize Cn.walk rs f (B++[c]) (zs.getD k 0) o=q at *;generalize zs.getD k 0=x at *;go_wp2_with fail;refine(V KD).mono ?_;rintro e3 w3 ⟨az,⟨L,aA⟩ | ⟨L,rfl,aF,aw,aD,aS,aQ⟩⟩
   ·have u:q=r:=(V C _ q L).symm.trans (V S);subst u;unfold Gave at aA;subst aA
    have HF:x5t w0.heap.size W p (.func (.func g) R Y) B (.slice A B.length J) ev q (.panicked [{ v:=.iface 29 (.int .i64 q.2),recovered:=false }]) w3 :=
     ⟨(V F0).trans ((V ab).trans az (V I) (V U)) (x0V.refl _ _) (x0V.refl _ _),.inl ⟨L,rfl⟩⟩
    go_wp2;exact⟨rfl,HF⟩
   ·obtain⟨q1,q2⟩:=q;simp only at L F aD;subst L;have X:=O aD;have ai:Hid (Frm W1 w3 p (.slice A B.length J) ev):=(V ab).trans az (V I) (V U);have am:Hid (x0V W1 (.slice A B.length J) aF):=(V I).trans aS af;have aq:Hid (x0V W1 ev aw):=(V U).trans aQ af;go_wp2
    go_roundw
    case rel=>exact⟨k+1,q1,aF,aw,by go_num,f6J,F,S,X,ai,am,aq⟩
    case measure=>exact g7V
  ·obtain rfl:k=zs.length:=by omega
   have u:r=(o,0):=by
    have:=V HR;rw[List.drop_length]at this;exact this.symm
   subst u;have l:=V M;obtain⟨ar,T,rfl,_,_⟩:=l.w.sk.shape
   have ag:Hid (∀n,x5t w0.heap.size W p (.func (.func g) R Y) B (.slice A B.length J) ev (o,0) (.returned (.tuple #[])) ((wr.drewN n).setCell ⟨p,1,none⟩ (.slice ar B.length T))):=fun n=>by
    have hb:=x0k (w:=wr) ⟨n,rfl⟩;obtain⟨u1,u2,u3⟩:=(l.below hb).up;have g1:Frm W1 (wr.drewN n) p (.slice A B.length J) ev:=(V ab).trans (Frm.of_below hb) (V I) (V U);have s1:=(V ab).size;have s2:=hb.size;have s0:=(V F0).size;refine⟨(V F0).trans (g1.trans u2 (V I) (V U)) (x0V.refl _ _) (x0V.refl _ _),.inr ⟨rfl,rfl,_,ae,u1,?_,?_⟩⟩
    ·exact((V I).trans u3 f6J).trans_left s0
    ·exact(V U).trans_left s0
   have y1:wr.cell? ⟨p,1,none⟩=some (.slice ar (B++[c]).length T):=cell_of (j:=1) l.blk f2P;have yf:=x0e (j:=1) l.blk
   have aM:B.length+1<=T:=by
    obtain⟨_,_,e,h5,_⟩:=l.w.sk.shape;simp at e h5;omega
   rw[show(B++[c]).length=B.length+1 by simp]at y1;go_wp2;go_region;go_wp2;go_end0;exact V ag _
theorem z1g(g:Nat)(R Y:Array Value)(rs:List Rec)(U:World)(H:y1u g R Y rs U)(y:∀args w,(callFunc g args).run prog w=.ok (.enter g args) w)(d:∀c,(Cn.opn rs c).length<=1000000000):∀f,z6E g R Y rs U f:=by
 intro f
 induction f with
 | zero =>
  intro B c out W p C A z D I t h;by_cases i:Cn.opn rs c=[]
  ·exact R7l
  ·by_cases X:c∈B
   ·exact F4r
   ·rw[Cn.x7h i X];exact y7j g R Y rs U H y d B c out W p C A f6J i X I t h
 | succ f ih =>
  intro B c out W p C A z D I t h;by_cases i:Cn.opn rs c=[]
  ·exact R7l
  ·by_cases X:c∈B
   ·exact F4r
   ·rw[Cn.x7i i f X];exact z4B g R Y rs U H y d B c out W p C A f ih f6J D i X I t h
end Go.Proofs.YtbmckadcjdedcaaGreatDoor
namespace Go.Proofs.YtbmckadcjdedcaaGreatDoor.Cn
open Go.Proofs.Tryz
theorem x1y{p:Prop}[Decidable p](h:(if p then(0:Int)else 61)=0):p:=by grind
theorem x0v{r:Rec}(h:right r=0):fam r.kind≠0:=fun e=>by
 unfold right at h;rw[if_pos e]at h;exact absurd h e8M
theorem x0o{r:Rec}(h:right r=0)(G:r.kind≠15):0<=r.lo/\r.lo<=r.hi/\r.hi<=1114111:=by
 have z:=x0v h;unfold right at h;rw[if_neg z,if_neg G]at h;have I:=x1y h;rw[Bool.and_eq_true]at I;exact o0d I.1
theorem right_step{r:Rec}(h:right r=0):1<=step r/\step r<=64:=by
 unfold step;by_cases H:r.kind=4
 ·rw[if_pos H];have z:=x0v h;unfold right at h;rw[if_neg z,if_neg f6J]at h;have I:=x1y h;rw[Bool.and_eq_true,if_neg f6J,if_neg f6J,if_pos H]at I;have Z:=I.2;simp only[Bool.and_eq_true]at Z;have:=o0d Z.1.1.2;omega
 ·rw[if_neg H];omega
theorem x0t{x:List Int}{a b:Nat}(h:list x a b=true):(a<=x.length/\x.length<=b)/\∀c∈x,scalar c=true:=by
 unfold list at h;rw[Bool.and_eq_true]at h;exact⟨o0d h.1,List.all_eq_true.1 h.2⟩
theorem x0A{r:Rec}(h:right r=0)(x:r.kind=7):r.lo=r.hi/\scalar r.lo=true/\list r.to 2 2=true:=by
 have z:=x0v h;unfold right at h;rw[if_neg z,if_neg f6J]at h;have I:=x1y h;rw[Bool.and_eq_true,if_neg f6J,if_neg f6J,if_neg f6J,if_neg f6J,if_neg f6J,if_neg f6J,if_pos x]at I;exact p3d
theorem x2D{r:Rec}(h:right r=0)(L:r.kind=8):r.lo=r.hi/\scalar r.lo=true/\list r.to 1 2=true:=by
 have z:=x0v h;unfold right at h;rw[if_neg z,if_neg f6J]at h;have I:=x1y h;rw[Bool.and_eq_true,if_neg f6J,if_neg f6J,if_neg f6J,if_neg f6J,if_neg f6J,if_neg f6J,if_neg f6J,if_pos L]at I;exact p3d
theorem x4V:∀(l:List Rec) (i:Nat),x1f i l=Option.none->∀r∈l,right r=0
 | [],_,_=>fun r hr=>by cases hr
 | x::l,i,h=>fun r hr=>by
  rw[x1f]at h;split at h
  ·next hx =>
   rcases List.mem_cons.1 hr with rfl | hr
   ·exact hx
   ·exact x4V l (i+1) h r hr
  ·cases h
theorem x2l:∀(l:List Rec) (i:Nat) (x:Nat×Int),x1f i l=some x->x.2≠0
 | [],_,_,h=>by rw[x1f]at h;exact m5j
 | y::l,i,x,h=>by
  rw[x1f]at h;split at h
  ·exact x2l l (i+1) x h
  ·next hx=>cases h;exact hx
theorem x1I{l:List Rec}(h:(check6 l).2=0):l.length<=4096/\∀r∈l,right r=0:=by
 unfold check6 at h;split at h
 ·exact absurd h e8N
 ·next hl =>
  refine⟨f6J,?_⟩;split at h
  ·next x hx=>exact absurd h (x2l _ _ _ hx)
  ·next hx=>exact x4V _ _ hx
end Go.Proofs.YtbmckadcjdedcaaGreatDoor.Cn
