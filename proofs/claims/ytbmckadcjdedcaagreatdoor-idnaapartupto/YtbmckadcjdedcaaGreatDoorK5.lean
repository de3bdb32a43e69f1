/- Lemmas. -/
import Derived.Test.YtbmckadcjdedcaaGreatDoorK3
import Derived.Shelf.Abstract
import Derived.Lib.Walk
import Derived.Maps.AppendAt
import Derived.Deep.RegionHeld3
set_option maxHeartbeats 4000000
set_option maxRecDepth 8000
namespace Go.Proofs.YtbmckadcjdedcaaGreatDoor
open Go.Proofs.Tryz
open Go.RowKit
section
variable{p:Prop}
theorem F4o(h:p:=by simpa[List.getD,G]using L):p:=h
theorem t1T(h:p:=by simp[Value.ownBlock]at C;subst C;exact⟨t,Y⟩):p:=h
theorem n0L(h:p:=by go_wp2;go_ret;exact Y):p:=h
theorem I2e(h:p:=by have:=h.size;exact f6J):p:=h
theorem S8e(h:p:=by unfold Cn.opn;rw[if_neg X,D]):p:=h
theorem f3x(h:p:=by go_enter func265,ntmps265;go_wp2_with fail;refine c0m K fun I B=>?_;subst I;go_wp2;go_ret2;exact⟨rfl,rfl⟩):p:=h
theorem w6c(h:p:=by go_wp2_with fail;refine c0m K fun I B=>?_;subst I;go_wp2;go_ret;exact⟨rfl,rfl⟩):p:=h
theorem I7a(h:p:=by have D:=T.2;simp only[Bool.and_eq_true]at D;exact⟨o0d D.1.1.1,D.1.1.2,D.2⟩):p:=h
theorem V3q(h:p:=by rw[Cn.x2s y _ A];exact y0d g fa cb rs w0 b Z s B c out W p E D f6J y A T U h):p:=h
theorem W8h(h:p:=by go_enter func176,ntmps176;exact t6u):p:=h
theorem n0M(h:p:=by go_wp2;go_ret;exact Y):p:=h
theorem R3K(h:p:=by go_enter func133,ntmps133;go_wp2;go_ret;exact⟨rfl,((b0r).alloc (l0r _) _).alloc M7L _⟩):p:=h
theorem f2W(h:p:=by rw[Cn.x0Z y];exact y0c g fa cb rs w0 b Z B c out W p E D C y T U h):p:=h
theorem M8S(h:p:=by exact⟨rfl,V Y⟩):p:=h
theorem r6g(h:p:=by unfold Cn.syl at X;simpa using X):p:=h
theorem G5X(h:p:=by simpa[Value.ownBlock]using e):p:=h
theorem t9C(h:p:=by exact(b0r).alloc (l0r _) _):p:=h
theorem V1R(h:p:=by
 rcases G with h | h
 ·exact(h.below U).below E
 ·exact h.sk):p:=h
theorem e0B(h:p:=by rw[x1b];exact f6J):p:=h
theorem f2P(h:p:=by show 1<3;exact f6J):p:=h
theorem f5X(h:p:=by first| rfl | trivial):p:=h
theorem R1Z(h:p:=by simpa using X):p:=h
theorem M1U(h:p:=by simp[U]):p:=h
theorem U1q(h:p:=by
 rcases N with e | e
 ·exact .inl (e ▸ I)
 ·grind):p:=h
theorem T7e(h:p:=by show 0<3;exact f6J):p:=h
theorem U4w(h:p:=by show 2<3;exact f6J):p:=h
theorem G9l(h:p:=by rw[beq_eq_false_iff_ne];exact f6J):p:=h
theorem W2V(h:p:=by exact⟨k+1,g2A,f6J,V c,V Y⟩):p:=h
end
def fbR(p:Rec->Bool):Nat->List Rec->Int
 | _,[]=>-1
 | i,r::l=>if p r then(i:Int)else fbR p (i+1) l
theorem z5q{p:Rec->Bool}{rs:List Rec}{k x}(G:k<rs.length)(h:x=fbR p k (rs.drop k))(L:p (rs.getD k Cn.none)=true):x=(k:Int):=by
 rw[h,List.drop_eq_getElem_cons G,fbR,if_pos];exact F4o
theorem z1K{p:Rec->Bool}{rs:List Rec}{k x}(G:k<rs.length)(h:x=fbR p k (rs.drop k))(L:p (rs.getD k Cn.none)=false):x=fbR p (k+1) (rs.drop (k+1)):=by
 rw[h,List.drop_eq_getElem_cons G,fbR,if_neg];have:p rs[k]=false:=F4o;simp[this]
theorem z5p{p:Rec->Bool}{rs:List Rec}{x}(h:x=fbR p rs.length (rs.drop rs.length)):x=-1:=by
 rw[h,List.drop_length,fbR]
theorem y0g:∀args w,(callFunc 181 args).run prog w=.ok (.enter 181 args) w:=f0h
def AsksR(g:Nat)(cap:Array Value)(p:Rec->Bool)(w:World)(rs:List Rec):Prop:=∀(k:Nat) (vt:Value) (W:World),k<rs.length->Below w.heap.size w W->Sk .i32 W vt (rs.getD k Cn.none).to->Calls prog g (#[recV (rs.getD k Cn.none) vt]++cap) W (x0c W (p (rs.getD k Cn.none)))
def RIn(w:World)(v:Value)(rs:List Rec)(W:World):Prop:=Rcs W v rs/\Below w.heap.size w W
theorem RIn.on{w W W' v rs}(h:RIn w v rs W)(Q:Bw W W'):RIn w v rs W':=⟨h.1.below Q,h.2.trans (Q.mono h.2.size)⟩
theorem x7y B C(p:Rec->Bool) v rs w(N:Rcs w v rs)(L:AsksR 181 #[.pointer (some ⟨B,0,none⟩),.pointer (some ⟨C,0,none⟩)] p w rs) :
  Calls prog 168 #[v,.func (.func 181) #[] #[.pointer (some ⟨B,0,none⟩),.pointer (some ⟨C,0,none⟩)]] w (IntB w (fbR p 0 rs)):=by
 have Z:=y0g;have m:Hid (RIn w v rs w):=⟨N,b0r⟩;have U:=O L;have o:Hid (fbR p 0 rs=fbR p 0 (rs.drop 0)):=R6O;have s:=N.1;obtain⟨R,M,rfl,h1,D⟩:=N.shape;generalize hq:fbR p 0 rs=x at *;go_enter func168,ntmps168;go_wp2;go_loopw[5,8] (fun _ i wr=>∃k:Nat,i=.int .i64 k/\k<=rs.length/\x=fbR p k (rs.drop k)/\RIn w (.slice R rs.length M) rs wr) (fun _ i _=>rs.length-(intOf i).toNat)
 case atStart=>exact⟨0,rfl,f6J,V o,V m⟩
 case round =>
  obtain⟨k,rfl,G,u,A⟩:=hrel;by_cases H:k<rs.length
  ·obtain⟨b,P,J,d,q,F,T⟩:=A.1.place f6J;obtain⟨rfl,rfl⟩:R=some ⟨b,P,none⟩/\M=J:=V6s;obtain⟨z,x1,X,g,⟨vt,x4,W⟩,j,x6,Q⟩:=T k H;have r:=O (V U k vt wr H A.2 W);have t:Hid (p (rs.getD k Cn.none)=true->x=(k:Int)):=fun h=>z5q H u h;have f:Hid (p (rs.getD k Cn.none)=false->x=fbR p (k+1) (rs.drop (k+1))):=fun h=>z1K H u h;have S:=O A;obtain⟨K,tc,rfl,_,_⟩:=W.shape;clear u A T d W U;unfold recV at r;generalize p (rs.getD k Cn.none)=y at r t f;generalize(rs.getD k Cn.none).kind=kd,(rs.getD k Cn.none).lo=lo,(rs.getD k Cn.none).hi=hi,(rs.getD k Cn.none).n=n at *;generalize(rs.getD k Cn.none).name=nm,(rs.getD k Cn.none).other=ot,(rs.getD k Cn.none).wt=wt,(rs.getD k Cn.none).to.length=a at *
   cases y with
   | true =>
    obtain rfl:=V t rfl;go_wp2_with(go_at_fn 181;refine(V r).mono ?_;rintro e I ⟨rfl,E⟩);have Y:=O ((V S).on E).2;go_ret;exact M8S
   | false =>
    have c:=O (V f rfl);go_wp2_with(go_at_fn 181;refine(V r).mono ?_;rintro e I ⟨rfl,E⟩);have Y:=O ((V S).on E);go_round
    case rel=>exact W2V
    case measure=>exact g7T
  ·obtain rfl:k=rs.length:=f6J;obtain rfl:=z5p u;have Y:=O A.2;go_wp2;go_ret;exact M8S
theorem y3v(f c:Int):∀(l:List Rec) (i:Nat),fbR (fun r=>decide (Cn.fam r.kind=f)&&Cn.speaks r c) i l=Cn.findA f c i l
 | [],i=>rfl
 | r::l,i=>by
  rw[fbR,Cn.findA,y3v f c l];by_cases h:Cn.fam r.kind=f/\Cn.speaks r c=true
  ·rw[if_pos h,if_pos (by simp[h.1,h.2])]
  ·rw[if_neg h,if_neg S4r]
theorem y0l{f c:Int}(U:f<0\/10<f):∀(l:List Rec) (i:Nat),Cn.findA f c i l=-1
 | [],i=>rfl
 | r::l,i=>by
  have:=Cn.x6v r.kind;rw[Cn.findA,if_neg (fun a=>f6J),y0l U l]
theorem y3w{l f c}(U:f<=0\/10<=f):Cn.find l f c=-1:=by
 unfold Cn.find;split
 ·rfl
 ·exact y0l f6J l 0
def FindT:Prop:=∀(v:Value) (rs:List Rec) (f c:Int) (w:World),Glob w->Rcs w v rs->I64 f->(-2147483648<=c/\c<=2147483647)->Calls prog 133 #[v,.int .i64 f,.int .i32 c] w (IntB w (Cn.find rs f c))
theorem x8O:FindT:=by
 intro v rs f c w C N Q T;obtain⟨y,t⟩:=Q;by_cases m:f<=0
 ·rw[y3w (.inl m)];exact R3K
 ·by_cases l:10<=f
  ·rw[y3w (.inr l)];exact R3K
  ·have A:Bw w ((w.alloc (.cells #[.int .i64 f] 3)).alloc (.cells #[.int .i32 c] 21)):=((b0r).alloc (l0r _) _).alloc M7L _;have B:((w.alloc (.cells #[.int .i64 f] 3)).alloc (.cells #[.int .i32 c] 21)).cell? ⟨w.heap.size,0,none⟩=some (.int .i64 f):=f0k;have H:((w.alloc (.cells #[.int .i64 f] 3)).alloc (.cells #[.int .i32 c] 21)).cell? ⟨w.heap.size+1,0,none⟩=some (.int .i32 c):=f0k;have L:=N.below A;have P:=C.on A
   have e:Cn.find rs f c=fbR (fun r=>decide (Cn.fam r.kind=f)&&Cn.speaks r c) 0 rs:=by
    unfold Cn.find;rw[if_neg f6J,y3v]
   rw[e]
   have K:Hid (Calls prog 168 #[v,.func (.func 181) #[] #[.pointer (some ⟨w.heap.size,0,none⟩),.pointer (some ⟨w.heap.size+1,0,none⟩)]] ((w.alloc (.cells #[.int .i64 f] 3)).alloc (.cells #[.int .i32 c] 21)) (IntB ((w.alloc (.cells #[.int .i64 f] 3)).alloc (.cells #[.int .i32 c] 21)) (fbR (fun r=>decide (Cn.fam r.kind=f)&&Cn.speaks r c) 0 rs))) :=
    x7y _ _ _ v rs _ L (fun k F W G U _=>y8b _ F f c _ _ W (N.fit G) (P.on U) (by rw[U.cell (x0a B)];exact B) (by rw[U.cell (x0a H)];exact H) f6J T)
   obtain⟨R,M,rfl,Z,D⟩:=N.shape;generalize fbR (fun r=>decide (Cn.fam r.kind=f)&&Cn.speaks r c) 0 rs=x at *;go_enter func133,ntmps133;go_wp2_with fail;refine c0m K fun I E=>?_;have Y:IntB w x (.returned (.int .i64 x)) I:=⟨rfl,x0b A E⟩;go_wp2;go_ret;exact Y
theorem x3x c a b w:Calls prog 176 #[.int .i32 c,.int .i32 a,.int .i32 b] w fun e w'=>e=.returned (.bool (decide (a<=c/\c<=b)))/\w'=w:=by
 by_cases Z:a<=c
 ·by_cases D:c<=b
  ·rw[d0t ⟨Z,D⟩];exact W8h
  ·rw[d0f (fun h=>D h.2)];exact W8h
 ·rw[d0f (fun h=>Z h.1)];exact W8h
theorem x6G c w:Calls prog 174 #[.int .i32 c] w fun e w'=>e=.returned (.bool (Cn.syl c))/\w'=w:=by
 have K:=O (x3x c 44032 55203 w);have P:decide (44032<=c/\c<=55203)=Cn.syl c:=rfl;rw[P]at K;go_enter func174,ntmps174;exact w6c
theorem y4g c w(h:44032<=c/\c<=55203):Calls prog 175 #[.int .i32 c] w fun e w'=>e=.returned (.int .i32 ((c-44032)%28))/\w'=w:=by
 obtain⟨Z,D⟩:=h;have P:(c-44032).tmod 28=(c-44032)%28:=Int.tmod_eq_emod_of_nonneg f6J;go_enter func175,ntmps175;exact t6v
def sylA(c:Int):Int:=if(c-44032)%28=0 then 4352+(c-44032) / 588 else c-(c-44032)%28
def sylB(c:Int):Int:=if(c-44032)%28=0 then 4449+(c-44032) / 28%21 else 4519+(c-44032)%28
theorem z0s{rs c}(X:Cn.syl c=true):Cn.opn rs c=[sylA c,sylB c]:=by
 unfold Cn.opn sylA sylB;rw[if_pos X];split<;>rfl
theorem z6Q{c}(h:44032<=c/\c<=55203):(0<=sylA c/\sylA c<=100000)/\0<=sylB c/\sylB c<=100000:=by
 unfold sylA sylB;exact G7q
theorem x6T c w(h:44032<=c/\c<=55203):Calls prog 265 #[.int .i32 c] w fun e w'=>e=.returned (.tuple #[.int .i32 (sylA c),.int .i32 (sylB c)])/\w'=w:=by
 have K:=O (y4g c w h);obtain⟨Z,D⟩:=h;by_cases E:(c-44032)%28=0
 ·have A:sylA c=4352+(c-44032) / 28 / 21:=(by unfold sylA;rw[if_pos E];exact f6J);have C:sylB c=4449+(c-44032) / 28%21:=(by unfold sylB;rw[if_pos E]);rw[A,C];rw[E]at K;have J:(c-44032).tdiv 28=(c-44032) / 28:=Int.tdiv_eq_ediv_of_nonneg f6J;have o:((c-44032) / 28).tmod 21=(c-44032) / 28%21:=Int.tmod_eq_emod_of_nonneg f6J;have N:((c-44032) / 28).tdiv 21=(c-44032) / 28 / 21:=Int.tdiv_eq_ediv_of_nonneg f6J;exact f3x
 ·have A:sylA c=c-(c-44032)%28:=(by unfold sylA;rw[if_neg E]);have C:sylB c=4519+(c-44032)%28:=(by unfold sylB;rw[if_neg E]);rw[A,C];have M:0<(c-44032)%28:=f6J;have T:(c-44032)%28<28:=f6J;exact f3x
theorem fam7:Cn.fam 7=3:=e8M
theorem fam6:Cn.fam 6=2:=e8M
theorem x5v v rs c w(C:Glob w)(N:Rcs w v rs)(T:Rune c):Calls prog 266 #[v,.int .i32 c] w (IntB w (Cn.find rs 3 c)):=by
 have J:=O (x1n 7 w C w5o);rw[fam7]at J;have K:=O (fun W (Q:Bw w W)=>x8O v rs 3 c W (C.on Q) (N.below Q) w5o T);generalize Cn.find rs 3 c=r at *;obtain⟨R,M,rfl,_,_⟩:=N.shape;go_enter func266,ntmps266;go_wp2_with fail;refine c0m J fun I E=>?_;have g:=O (V K I E);go_wp2_with fail;refine c0m g fun d F=>?_;have Y:IntB w r (.returned (.int .i64 r)) d:=⟨rfl,x0b E F⟩;go_wp2;go_ret;exact Y
theorem z7K:z7k:=by
 intro v rs c w C N T;have J:=O (x1n 6 w C w5o);rw[fam6]at J;have K:=O (fun W (Q:Bw w W)=>x8O v rs 2 c W (C.on Q) (N.below Q) w5o T);obtain⟨o,G⟩:=T;rcases hit_at N 2 c with⟨Z,D⟩ | ⟨k,b,P,M,Z,H,D,rfl,S,y,u,U⟩
 ·have B:Cn.cls rs c=0:=N4U;rw[B];rw[Z]at K;obtain⟨R,M,rfl,_,_⟩:=N.shape;go_enter func233,ntmps233;go_wp2_with fail;refine c0m J fun I E=>?_;have g:=O (V K I E);go_wp2_with fail;refine c0m g fun d F=>?_;have Y:IntB w 0 (.returned (.int .i64 0)) d:=⟨rfl,x0b E F⟩;go_wp2;go_ret;exact Y
 ·have B:Cn.cls rs c=(rs.getD k Cn.none).n:=N4U;rw[B];rw[Z]at K;have a:=O u;have s:=N.1;generalize rs.getD k Cn.none=r at *;go_enter func233,ntmps233;go_wp2_with fail;refine c0m J fun I E=>?_;have g:=O (V K I E);go_wp2_with fail;refine c0m g fun d F=>?_;have L:=((V a).below (x0b E F)).n;have Y:IntB w r.n (.returned (.int .i64 r.n)) d:=⟨rfl,x0b E F⟩;go_wp2;go_ret;exact Y
def OpB(w0 w:World)(zs:List Int)(e:Ending)(w':World):Prop:=∃v,e=.returned v/\(Sk .i32 w0 v zs\/Ok .i32 21 w' w.heap.size v zs)/\Below w.heap.size w w'
theorem x8j v rs c w0 w(C:Glob w)(N:Rcs w0 v rs)(q:Bw w0 w)(T:Rune c):Calls prog 231 #[v,.int .i32 c] w (OpB w0 w (Cn.opn rs c)):=by
 have J:=O (x6G c w);by_cases X:Cn.syl c=true
 ·have i:44032<=c/\c<=55203:=r6g;rw[X]at J;rw[z0s X];obtain⟨⟨G,a⟩,f,d⟩:=z6Q i;have o:=O (x6T c w i);obtain⟨R,M,rfl,_,_⟩:=N.shape
  have Y:OpB w0 w [sylA c,sylB c] (.returned (.slice (some ⟨w.heap.size,0,none⟩) 2 2)) (w.alloc (.cells #[.int .i32 (sylA c),.int .i32 (sylB c)] 21)) :=
   ⟨_,rfl,.inr (ok_two w _ _ f6J f6J),(b0r).alloc (l0r _) _⟩
  go_enter func231,ntmps231;go_wp2_with fail;refine c0m J fun I B=>?_;subst I;go_wp2_with fail;refine c0m o fun I B=>?_;subst I;go_wp2;go_ret;exact Y
 ·have i:Cn.syl c=false:=R1Z;rw[i]at J;have K:=O (x5v v rs c w C (N.below q) T);rcases hit_at N 3 c with⟨Z,D⟩ | ⟨k,b,P,M,Z,H,D,rfl,S,y,u,U⟩
  ·have j:Cn.opn rs c=[]:=S8e;rw[j];rw[Z]at K;obtain⟨R,M,rfl,_,_⟩:=N.shape;go_enter func231,ntmps231;go_wp2_with fail;refine c0m J fun I B=>?_;subst I;go_wp2_with fail;refine c0m K fun I Q=>?_;have Y:OpB w0 w [] (.returned (.slice none 0 0)) I:=⟨_,rfl,.inr (Ok.nil _ _ _ _),Q⟩;go_wp2;go_ret;exact Y
  ·have j:Cn.opn rs c=(rs.getD k Cn.none).to:=S8e;rw[j];rw[Z]at K;have s:=N.1;obtain⟨F,x,A⟩:=u.to;have E:w.cell? ⟨b,P+k*8+4,none⟩=some F:=(by rw[q.cell (x0a x)];exact x);have m:Hid (∀W,Bw w W->W.cell? ⟨b,P+k*8+4,none⟩=some F):=fun W Q=>(by rw[Q.cell (x0a E)];exact E);have l:=O A;generalize(rs.getD k Cn.none).to=L at *;go_enter func231,ntmps231;go_wp2_with fail;refine c0m J fun I B=>?_;subst I;go_wp2_with fail;refine c0m K fun I Q=>?_;have x:=V m I Q;have Y:OpB w0 w L (.returned F) I:=⟨_,rfl,.inl (V l),Q⟩;go_wp2;go_ret;exact Y
theorem y9Y(w:World):(w.alloc (.cells #[] 21)).ownsRow w.heap.size 21 1 (.slice (some ⟨w.heap.size,0,none⟩) 0 0) 0 []:=by
 refine⟨rfl,.inr ⟨w.heap.size,0,#[],rfl,l0r _,?_,l0r _,T7W,rfl,rfl⟩⟩;exact R0n
theorem z8I ad n cap w:(binOp BinOp.eql 40 (.slice (some ad) n cap) (.slice none 0 0)).run prog w=.ok (.bool false) w:=f4x
theorem z6k w:(binOp BinOp.eql 40 (.slice none 0 0) (.slice none 0 0)).run prog w=.ok (.bool true) w:=f4x
theorem x2W v zs w(N:Sk .i32 w v zs)(S:zs.length<=1000000000):Calls prog 52 #[v] w (x0j w zs):=by
 obtain⟨r,hi,p,i,f⟩:=info_parts Tryz.info21;have l:=N.1;have b:(zs.map (Value.int .i32)).length=zs.length:=List.length_map _;rcases N.2.src with⟨F,rfl⟩ | ⟨q,L,rfl,g⟩
 ·obtain rfl:zs=[]:=i0P;have Y:x0j w [] (.returned (.slice none 0 0)) w:=⟨_,rfl,Ok.nil _ _ _ _,b0r⟩;have m:=z6k;go_enter func52,ntmps52;exact n0O
 ·have x:=O (y9Y w);rw[b]
  have A:∀j u,(zs.map (Value.int .i32))[j]?=some u->(w.alloc (.cells #[] 21)).cell? (q.add j)=some u:=by
   intro j u K;have h:=g j u K;have H:(q.add j).block<w.heap.size:=World.block_lt_of_cell? w _ h;exact(Below.cell ((Below.refl w.heap.size w).alloc (l0r _) _) H).trans h
  have t:Bw w (w.alloc (.cells #[] 21)):=(b0r).alloc (l0r _) _;have m:=z8I;go_enter func52,ntmps52;go_wp2_with(at_builtin;refine wpList_append_own _ rfl (.tmp 5) (.tmp 6) 40 rfl w.heap.size 21 r (.int .i32 0) 1 4 underlying40 hi p i f rfl e8P _ _ _ rfl (V x) q zs.length L (zs.map (Value.int .i32)) rfl M7M A (fun u W=>w8O) T7W f6J M7M ?_);intro s D C R _;have d:Bw w D:=t.grown R t.size (fun k G=>by simp[Value.ownBlock]at G;exact f6J);have Y:x0j w zs (.returned s) D:=⟨s,rfl,Ok.of l f6J C M7M M7M,d⟩;exact n0O
theorem z1B{w v rs}(N:Rcs w v rs) c:(Cn.opn rs c).length<=1000000000:=by
 unfold Cn.opn;split
 ·split<;>simp
 ·rcases hit_at N 3 c with⟨_,D⟩ | ⟨k,b,P,M,Z,H,D,_,_,_,_,U⟩
  ·rw[D];simp
  ·rw[D];exact U.len
theorem openC:OpenC:=by
 intro v rs c w C N T;have K:=O (x8j v rs c w w C N (b0r) T);have S:=z1B N c;obtain⟨R,M,rfl,_,_⟩:=N.shape;generalize Cn.opn rs c=L at *;go_enter func285,ntmps285;go_wp2_with fail;refine(V K).mono ?_;rintro e I ⟨u,rfl,G,E⟩
 have X:Sk .i32 I u L:=by
  rcases G with h | h
  ·exact h.below E
  ·exact h.sk
 have g:=O (x2W u L I X S);go_wp2_with fail;refine(V g).mono ?_;rintro e d ⟨U,rfl,f,F⟩;have Y:x0j w L (.returned U) d:=⟨U,rfl,f.lower E.size,x0b E F⟩;exact n0L
theorem primC:PrimC:=by
 intro v rs c w C N T;have J:=O (x6G c w);by_cases X:Cn.syl c=true
 ·have i:44032<=c/\c<=55203:=(by unfold Cn.syl at X;exact R1Z);rw[X]at J;have hp:Cn.prim rs c=some (sylA c,sylB c):=(by unfold Cn.prim;rw[if_pos X,z0s X];rfl);rw[hp];have o:=O (x6T c w i);obtain⟨R,M,rfl,_,_⟩:=N.shape;have Y:x6l w (some (sylA c,sylB c)) (.returned (.tuple #[.int .i32 (sylA c),.int .i32 (sylB c),.bool true])) w:=⟨rfl,b0r⟩;go_enter func234,ntmps234;go_wp2_with fail;refine c0m J fun I B=>?_;subst I;go_wp2_with fail;refine c0m o fun I B=>?_;subst I;go_wp2;go_ret3;exact Y
 ·have i:Cn.syl c=false:=R1Z;rw[i]at J;have K:=O (x5v v rs c w C N T);rcases hit_at N 3 c with⟨Z,h2⟩ | ⟨k,b,P,M,Z,H,h2,rfl,S,y,u,U⟩
  ·have ho:Cn.prim rs c=none:=(by unfold Cn.prim;rw[if_neg X,h2]);rw[ho];rw[Z]at K;obtain⟨R,M,rfl,_,_⟩:=N.shape;go_enter func234,ntmps234;go_wp2_with fail;refine c0m J fun I B=>?_;subst I;go_wp2_with fail;refine c0m K fun I Q=>?_;have HN:x6l w none (.returned (.tuple #[.int .i32 0,.int .i32 0,.bool false])) I:=⟨rfl,Q⟩;go_wp2;go_ret3;exact HN
  ·have l:Hid ((rs.getD k Cn.none).kind=7->(rs.getD k Cn.none).to.length=2->Cn.prim rs c=some ((rs.getD k Cn.none).to.getD 0 0,(rs.getD k Cn.none).to.getD 1 0)):=fun a b=>by
    unfold Cn.prim;rw[if_neg X,h2];simp only;rw[if_pos ⟨a,b⟩]
   have j:Hid (¬((rs.getD k Cn.none).kind=7/\(rs.getD k Cn.none).to.length=2)->Cn.prim rs c=none):=fun a=>by
    unfold Cn.prim;rw[if_neg X,h2];simp only;rw[if_neg a]
   rw[Z]at K;have HR:=O u;have s:=N.1;generalize rs.getD k Cn.none=r,Cn.prim rs c=pr at *;go_enter func234,ntmps234;go_wp2_with fail;refine c0m J fun I B=>?_;subst I;go_wp2_with fail;refine c0m K fun I Q=>?_;have ab:=(V HR).below Q;obtain⟨vt,x,A⟩:=ab.to;have x0:=ab.kind;generalize r.to=zs,r.kind=W at *;obtain⟨t,L,rfl,ae,af⟩:=A.shape;have HN:x6l w none (.returned (.tuple #[.int .i32 0,.int .i32 0,.bool false])) I:=⟨rfl,Q⟩;by_cases F:W=7
   ·subst F;by_cases f:zs.length=2
    ·obtain rfl:=V l rfl f;obtain⟨tb,G,D,d,_,_,z⟩:=A.place f6J;obtain⟨rfl,rfl⟩:t=some ⟨tb,G,none⟩/\L=D:=V6r;have E:=z 0 f6J;have m:=z 1 f6J;rw[Nat.add_zero]at E;rw[f]at x ae;exact V7E
    ·obtain rfl:=V j (fun h=>f h.2);have g:((zs.length:Int) != 2)=true:=P8P;exact F2f
   ·obtain rfl:=V j (fun h=>F h.1);have q7:(W != 7)=true:=(by simp[F]);exact F2f
theorem y8C v zs c w(N:Sk .i32 w v zs)(S:zs.length<=1000000000):Calls prog 254 #[v,.int .i32 c] w (fun e w'=>∃n:Int,e=.returned (.int .i64 n)/\(0<=n↔c∈zs)/\w'=w):=by
 rcases Nat.eq_zero_or_pos zs.length with h0 | h0
 ·obtain⟨R,M,rfl,_,_⟩:=N.shape;obtain rfl:zs=[]:=List.eq_nil_of_length_eq_zero h0;go_enter func254,ntmps254;go_wp2;refine wp_loop_rounds 1 ?_;rw[rounds_succ];go_wp2;go_ret;exact⟨-1,rfl,M7L,rfl⟩
 ·obtain⟨b,P,M,rfl,q,F,T⟩:=N.place h0;have B:=O T;clear N T;go_enter func254,ntmps254;go_wp2;go_loopw[5,8] (fun _ i wr=>∃k:Nat,i=.int .i64 k/\k<=zs.length/\wr=w/\Hid (∀j,j<k->zs.getD j 0≠c)) (fun _ i _=>zs.length-(intOf i).toNat)
  case atStart=>exact⟨0,rfl,f6J,rfl,fun j K=>f6J⟩
  case round =>
   obtain⟨k,rfl,A,rfl,p⟩:=hrel;by_cases H:k<zs.length
   ·have E:=V B k H;by_cases d:zs.getD k 0=c
    ·have G:Hid (c∈zs):=by
      show c∈zs;rw[<- d];exact N3K
     rw[d]at E;have Y:(c==c)=true:=M7L;go_wp2;go_ret;exact⟨k,rfl,⟨fun _=>V G,fun _=>f6J⟩,rfl⟩
    ·have Y:(c==zs.getD k 0)=false:=by
      rw[beq_eq_false_iff_ne];exact fun e=>d e.symm
     have f:Hid (∀j,j<k+1->zs.getD j 0≠c):=fun j K=>by
      rcases Nat.lt_or_ge j k with h | h
      ·exact V p j h
      ·grind
     generalize zs.getD k 0=t at E Y;go_wp2
     go_roundw
     case rel=>exact⟨k+1,g2A,f6J,f5X,f⟩
     case measure=>exact g7V
   ·have G:Hid (¬c∈zs):=fun y=>by
     obtain⟨j,K,e⟩:=List.getElem_of_mem y;exact V p j f6J (by simp[List.getD,K,e])
    go_wp2;go_ret;exact⟨-1,rfl,⟨fun h=>f6J,fun h=>absurd h (V G)⟩,rfl⟩
theorem x2Y v zs c w(N:Sk .i32 w v zs)(S:zs.length<=1000000000):Calls prog 208 #[v,.int .i32 c] w (fun e w'=>e=.returned (.bool (decide (c∈zs)))/\w'=w):=by
 have K:=O (y8C v zs c w N S);obtain⟨R,M,rfl,_,_⟩:=N.shape;have C:Hid (c∈zs->decide (c∈zs)=true):=fun h=>d0t h;have f:Hid (¬c∈zs->decide (c∈zs)=false):=fun h=>d0f h;generalize decide (c∈zs)=b at *;go_enter func208,ntmps208;go_wp2_with fail;refine(V K).mono ?_;rintro e I ⟨n,rfl,E,B⟩;subst I;by_cases h:0<=n
 ·obtain rfl:=V C (E.1 h);clear E C f;exact t6u
 ·obtain rfl:=V f (fun y=>h (E.2 y));have hd:decide (0<=n)=false:=d0f h;clear E C f;exact t6u
structure Wk(b0:Nat)(W:World)(p:Nat)(fv:Value)(way ends:List Int)(wv ev:Value):Prop where
 blk:W.heap[p]?=some (.cells #[fv,wv,ev] 303 (0,0))
 own:b0<=p
 w:Ok .i32 21 W b0 wv way
 e:Ok .i32 21 W b0 ev ends
 ap:∀g,wv.ownBlock=some g->ev.ownBlock≠some g
structure Frm(W W':World)(p:Nat)(wv ev:Value):Prop where
 os:W'.os=W.os
 tape:W'.tape=W.tape
 output:W'.output=W.output
 size:W.heap.size<=W'.heap.size
 keep:∀g,g<W.heap.size->g≠p->wv.ownBlock≠some g->ev.ownBlock≠some g->W'.heap[g]?=W.heap[g]?
def x0X(W:World)(v v':Value):Prop:=∀g,v'.ownBlock=some g->v.ownBlock=some g\/W.heap.size<=g
theorem x0X.refl W v:x0X W v v:=fun _ h=>.inl h
theorem x0X.trans{W W1 a b c}(h:x0X W a b)(k:x0X W1 b c)(X:W.heap.size<=W1.heap.size):x0X W a c:=fun g C=>by
 rcases k g C with h1 | h1
 ·exact h g h1
 ·exact e5w
theorem x0X.trans_left{W W1 a b}(h:x0X W1 a b)(X:W.heap.size<=W1.heap.size):x0X W a b:=(x0X.refl W a).trans h X
theorem y9o{w B v zs}(h:Ok .i32 21 w B v zs){g}(C:v.ownBlock=some g):∃t,w.heap[g]?=some (.cells t 21 (0,0)):=by
 rcases h.2.2.2 with⟨rfl,_⟩ | ⟨k,M,t,rfl,_,Y,_⟩
 ·cases C
 ·exact t1T
theorem Wk.pw{b0 W p fv}{way ends wv ev}(h:Wk b0 W p fv way ends wv ev):wv.ownBlock≠some p/\ev.ownBlock≠some p:=by
 refine⟨fun e=>?_,fun e=>?_⟩
 ·obtain⟨t,T⟩:=y9o h.w e;rw[h.blk]at T;simp at T
 ·obtain⟨t,T⟩:=y9o h.e e;rw[h.blk]at T;simp at T
theorem Wk.lt{b0 W p fv}{way ends wv ev}(h:Wk b0 W p fv way ends wv ev):p<W.heap.size:=by
 have:=h.blk;rcases Nat.lt_or_ge p W.heap.size with h1 | h1
 ·exact h1
 ·grind
theorem Wk.below{b0 W W' p fv}{way ends wv ev}(h:Wk b0 W p fv way ends wv ev)(Q:Bw W W'):Wk b0 W' p fv way ends wv ev :=
 ⟨by rw[Q.block p h.lt];exact h.blk,h.own,h.w.below Q,h.e.below Q,h.ap⟩
theorem Frm.below{b0 W W' p fv}{way ends wv ev}(h:Wk b0 W p fv way ends wv ev)(U:Frm W W' p wv ev)(X:b0<=W.heap.size):Below b0 W W' :=
 ⟨U.os,U.tape,U.output,U.size,fun k G=>U.keep k f6J (by have:=h.own;exact f6J) (fun e=>by have:=(h.w.2.2.lt k e).1;exact f6J) (fun e=>by have:=(h.e.2.2.lt k e).1;exact f6J)⟩
theorem Frm.of_below{W W' p wv ev}(Q:Bw W W'):Frm W W' p wv ev:=⟨Q.os,Q.tape,Q.output,Q.size,fun g C _ _ _=>Q.block g C⟩
theorem Frm.trans{W W1 W2 p wv ev wv1 ev1}(h:Frm W W1 p wv ev)(k:Frm W1 W2 p wv1 ev1)(q:x0X W wv wv1)(d:x0X W ev ev1):Frm W W2 p wv ev:=by
 refine⟨k.os.trans h.os,k.tape.trans h.tape,k.output.trans h.output,Nat.le_trans h.size k.size,fun g C Z D R=>?_⟩;rw[k.keep g I2e Z (fun e=>?_) (fun e=>?_),h.keep g C Z D R]
 ·rcases q g e with h4 | h4
  ·exact D h4
  ·omega
 ·rcases d g e with h4 | h4
  ·exact R h4
  ·omega
theorem Wk.taken{b0 W w1 p fv}{way ends wv ev v' o c}(h:Wk b0 W p fv way ends wv ev)(S:ends.length<=40)(T:Rune c)
  (E:w1.ownsRow b0 21 1 v' (ends.length+1) (ends.map (Value.int .i32)++[.int .i32 c])) (C:(W.alloc o).grownBy w1 ev.ownBlock) (N:v'.ownBlock=ev.ownBlock\/v'.ownBlock=some (W.heap.size+1)) :
  w1.heap[p]?=some (.cells #[fv,wv,ev] 303 (0,0))/\Wk b0 (w1.setCell ⟨p,2,none⟩ v') p fv way (ends++[c]) wv v'/\Frm W (w1.setCell ⟨p,2,none⟩ v') p wv ev/\x0X W ev v':=by
 have L:=h.lt;obtain⟨A,b⟩:=h.pw;have K:∀g,g<W.heap.size->(W.alloc o).heap[g]?=W.heap[g]?:=fun g C=>((Below.refl W.heap.size W).alloc (l0r _) _).block g C
 have B:∀g,g<W.heap.size->ev.ownBlock≠some g->w1.heap[g]?=W.heap[g]?:=fun g Z D=>by
  rw[C.block g P8P (fun e=>D e.symm),K g Z]
 have a:W.heap.size+1<=w1.heap.size:=(by simpa using C.size);have Q:w1.heap[p]?=some (.cells #[fv,wv,ev] 303 (0,0)):=by rw[B p L b];exact h.blk
 have U:x0X W ev v':=fun g I=>U1q
 have y:Ok .i32 21 w1 b0 v' (ends++[c]):=by
  refine Ok.of (h.e.1.snoc (x0V T)) P8P E M7M M7M
 have F:∀g,v'.ownBlock=some g->g≠p:=fun g Z D=>by
  subst D;rcases U g Z with h3 | h3
  ·exact b h3
  ·omega
 refine⟨Q,⟨?_,h.own,?_,?_,?_⟩,?_,U⟩
 ·rw[x0f Q];rfl
 ·refine h.w.keep fun g Z=>?_;have H:=(h.w.2.2.lt g Z).2;rw[x0g _ (fun e=>by subst e;exact A Z),B g H (h.ap g Z)]
 ·refine y.keep fun g Z=>?_;rw[x0g _ (F g Z)]
 ·intro g Z D;rcases U g D with h3 | h3
  ·exact h.ap g Z h3
  ·have:=(h.w.2.2.lt g Z).2;omega
 ·refine⟨?_,?_,?_,e0B,fun g Z D _ z=>by rw[x0g _ D,B g Z z]⟩
  ·have:=(x0d (Below.refl 0 w1) (g:=p) (j:=2) (Nat.zero_le _) v').os;rw[this,C.os];rfl
  ·have:=(x0d (Below.refl 0 w1) (g:=p) (j:=2) (Nat.zero_le _) v').tape;rw[this,C.tape];rfl
  ·have:=(x0d (Below.refl 0 w1) (g:=p) (j:=2) (Nat.zero_le _) v').output;rw[this,C.output];rfl
def Gave(n:Int)(e:Ending):Prop:=e=.panicked [{ v:=.iface 29 (.int .i64 n),recovered:=false }]
def z1a(b0:Nat)(W:World)(p:Nat)(fv:Value)(way ends:List Int)(wv ev:Value)(c:Int)(e:Ending)(W':World):Prop :=
 (32<=ends.length/\Gave 2 e/\W'=W)\/(ends.length<32/\e=.returned (.tuple #[])/\∃ev',Wk b0 W' p fv way (ends++[c]) wv ev'/\Frm W W' p wv ev/\x0X W ev ev')
theorem z3j b0 W p fv way ends wv ev c(h:Wk b0 W p fv way ends wv ev)(A:b0<=W.heap.size)(S:ends.length<=32)(T:Rune c) :
  Calls prog 264 #[.pointer (some ⟨p,0,none⟩),.int .i32 c] W (z1a b0 W p fv way ends wv ev c):=by
 obtain⟨r,hi,K,i,f⟩:=info_parts Tryz.info21;have X:W.cell? ⟨p,2,none⟩=some ev:=cell_of (j:=2) h.blk U4w;obtain⟨R,M,rfl,_,_⟩:=h.e.sk.shape;by_cases k:ends.length=32
 ·have Y:z1a b0 W p fv way ends wv (.slice R ends.length M) c (.panicked [{ v:=.iface 29 (.int .i64 2),recovered:=false }]) W:=.inl ⟨f6J,rfl,rfl⟩;rw[k]at X Y;have U:((32:Nat):Int)=32:=rfl;go_enter func264,ntmps264;go_wp2;exact⟨rfl,Y⟩
 ·have U:((ends.length:Int)==32)=false:=G9k;have L:∀o,(W.alloc o).ownsRow b0 21 1 (.slice R ends.length M) ends.length (ends.map (Value.int .i32)):=fun o=>h.e.row.alloc o;have I:=O L;have n:=O (fun o v' w1 a b N=>h.taken (o:=o) (v':=v') (w1:=w1) f6J T a b N);have G:ends.length<32:=f6J;go_enter func264,ntmps264;go_wp2_with(at_builtin;refine wpList_append_own_at _ rfl (.tmp 15) (.tmp 17) 40 rfl b0 21 r (.int .i32 0) 1 4 underlying40 hi K i f rfl e8P _ _ _ rfl (V I _) ⟨W.heap.size,0,none⟩ 1 1 [.int .i32 c] rfl rfl (cell_one_new _ _ _) (x0M _ _) T7X f6J P8P ?_);intro v' w1 D P _ F;obtain⟨E,B,Q,d⟩:=V n _ v' w1 D P F;obtain⟨g,J,rfl,_,_⟩:=B.e.sk.shape;have t:w1.cell? ⟨p,2,none⟩=some (.slice R ends.length M):=cell_of (j:=2) E U4w;have C:=x0e (j:=2) E;have Y:z1a b0 W p fv way ends wv (.slice R ends.length M) c (.returned (.tuple #[])) (w1.setCell ⟨p,2,none⟩ (.slice g (ends++[c]).length J)):=.inr ⟨G,rfl,_,B,Q,d⟩;generalize(ends++[c]).length=m at *;go_wp2;go_end0;exact Y
def y1z(g:Nat)(fa cb:Array Value)(rs:List Rec)(w0:World):Prop:=∀(c:Int) (W:World),Below w0.heap.size w0 W->Rune c->Calls prog g (fa++#[.int .i32 c]++cb) W (OpB w0 W (Cn.opn rs c))
def x5C(b0:Nat)(W:World)(p:Nat)(fv:Value)(way:List Int)(wv ev:Value)(r:List Int×Int)(e:Ending)(W':World):Prop :=
 Frm W W' p wv ev/\((r.2≠0/\Gave r.2 e)\/(r.2=0/\e=.returned (.tuple #[])/\∃wv' ev',Wk b0 W' p fv way r.1 wv' ev'/\x0X W wv wv'/\x0X W ev ev'))
theorem Wk.down{b0 W w1 p fv}{way ends wv ev v' o c}(h:Wk b0 W p fv way ends wv ev)(S:way.length<=40)(T:Rune c)
  (E:w1.ownsRow b0 21 1 v' (way.length+1) (way.map (Value.int .i32)++[.int .i32 c])) (C:(W.alloc o).grownBy w1 wv.ownBlock) (N:v'.ownBlock=wv.ownBlock\/v'.ownBlock=some (W.heap.size+1)) :
  w1.heap[p]?=some (.cells #[fv,wv,ev] 303 (0,0))/\Wk b0 (w1.setCell ⟨p,1,none⟩ v') p fv (way++[c]) ends v' ev/\Frm W (w1.setCell ⟨p,1,none⟩ v') p wv ev/\x0X W wv v':=by
 have L:=h.lt;obtain⟨A,b⟩:=h.pw;have K:∀g,g<W.heap.size->(W.alloc o).heap[g]?=W.heap[g]?:=fun g C=>((Below.refl W.heap.size W).alloc (l0r _) _).block g C
 have B:∀g,g<W.heap.size->wv.ownBlock≠some g->w1.heap[g]?=W.heap[g]?:=fun g Z D=>by
  rw[C.block g P8P (fun e=>D e.symm),K g Z]
 have a:W.heap.size+1<=w1.heap.size:=(by simpa using C.size);have Q:w1.heap[p]?=some (.cells #[fv,wv,ev] 303 (0,0)):=by rw[B p L A];exact h.blk
 have U:x0X W wv v':=fun g I=>U1q
 have y:Ok .i32 21 w1 b0 v' (way++[c]):=by
  refine Ok.of (h.w.1.snoc (x0V T)) P8P E M7M M7M
 have F:∀g,v'.ownBlock=some g->g≠p:=fun g Z D=>by
  subst D;rcases U g Z with h3 | h3
  ·exact A h3
  ·omega
 refine⟨Q,⟨?_,h.own,?_,?_,?_⟩,?_,U⟩
 ·rw[x0f Q];rfl
 ·refine y.keep fun g Z=>?_;rw[x0g _ (F g Z)]
 ·refine h.e.keep fun g Z=>?_;have H:=(h.e.2.2.lt g Z).2;rw[x0g _ (fun e=>by subst e;exact b Z),B g H (fun e=>h.ap g e Z)]
 ·intro g Z D;rcases U g Z with h3 | h3
  ·exact h.ap g h3 D
  ·have:=(h.e.2.2.lt g D).2;omega
 ·refine⟨?_,?_,?_,e0B,fun g Z D h3 _=>by rw[x0g _ D,B g Z h3]⟩
  ·have:=(x0d (Below.refl 0 w1) (g:=p) (j:=1) (Nat.zero_le _) v').os;rw[this,C.os];rfl
  ·have:=(x0d (Below.refl 0 w1) (g:=p) (j:=1) (Nat.zero_le _) v').tape;rw[this,C.tape];rfl
  ·have:=(x0d (Below.refl 0 w1) (g:=p) (j:=1) (Nat.zero_le _) v').output;rw[this,C.output];rfl
theorem Wk.up{b0 W p fv}{way ends ev ao len cap}{c}(h:Wk b0 W p fv (way++[c]) ends (.slice ao len cap) ev) :
  Wk b0 (W.setCell ⟨p,1,none⟩ (.slice ao way.length cap)) p fv way ends (.slice ao way.length cap) ev/\Frm W (W.setCell ⟨p,1,none⟩ (.slice ao way.length cap)) p (.slice ao len cap) ev/\x0X W (.slice ao len cap) (.slice ao way.length cap):=by
 obtain⟨A,b⟩:=h.pw
 have P:∀g,(Value.slice ao way.length cap).ownBlock=some g->(Value.slice ao len cap).ownBlock=some g:=fun g C=>by
  cases ao with
  | none=>simp[Value.ownBlock]at C
  | some a=>simpa[Value.ownBlock]using C
 have s:len=way.length+1:=by
  obtain⟨_,_,e,_,_⟩:=h.w.sk.shape;simp at e;omega
 have y:Ok .i32 21 W b0 (.slice ao way.length cap) way:=by
  refine⟨fun z o=>h.w.1 z (by simp[o]),by have:=h.w.2.1;simp at this ⊢;exact f6J,?_⟩;have D:=h.w.2.2;refine⟨M7L,?_⟩;rcases D.2 with⟨e,_⟩ | ⟨g,J,t,e,C,Y,E,F,B,I⟩
  ·simp at e;omega
  ·simp only[Value.slice.injEq]at e;obtain⟨rfl,f,rfl⟩:=e;simp only[List.length_map]at *;refine .inr ⟨g,cap,t,rfl,C,Y,by simp at E;exact f6J,F,B,?_⟩;have:=congrArg (List.take (way.length*1)) I;rw[List.take_take,List.map_append,List.take_append_of_le_length M7L]at this;rw[List.take_of_length_le (l:=way.map (Value.int .i32)) M7L]at this;simpa[Nat.min_eq_left (f6J:way.length<=way.length+1)]using this
 refine⟨⟨?_,h.own,?_,?_,?_⟩,?_,fun g C=>.inl (P g C)⟩
 ·rw[x0f h.blk];rfl
 ·refine y.keep fun g Z=>?_;rw[x0g _ (fun e=>by subst e;exact A (P _ Z))]
 ·refine h.e.keep fun g Z=>?_;rw[x0g _ (fun e=>by subst e;exact b Z)]
 ·exact fun g Z=>h.ap g (P g Z)
 ·refine⟨?_,?_,?_,e0B,fun g Z D _ _=>by rw[x0g _ D]⟩
  ·exact(x0d (Below.refl 0 W) (g:=p) (j:=1) (Nat.zero_le _) _).os
  ·simp_all
  ·exact(x0d (Below.refl 0 W) (g:=p) (j:=1) (Nat.zero_le _) _).output
theorem Sk.frm{W W' p wv ev v zs}(h:Sk .i32 W v zs)(U:Frm W W' p wv ev)(E:∀b off len cap,v=.slice (some ⟨b,off,none⟩) len cap->0<len->b≠p/\wv.ownBlock≠some b/\ev.ownBlock≠some b):Sk .i32 W' v zs:=by
 obtain⟨Z,D,R⟩:=h;refine⟨Z,D,?_⟩;rcases R with R | ⟨b,off,cap,N,S,y,T⟩
 ·exact .inl R
 ·refine .inr ⟨b,off,cap,N,S,y,fun i hi=>?_⟩;obtain⟨I,P,d⟩:=E b off _ cap N f6J;have H:=x0a (T i hi);rw[World.cell?_of_block (U.keep b H I P d)];exact T i hi
def z7m(g:Nat)(fa cb:Array Value)(rs:List Rec)(w0:World)(f:Nat):Prop:=∀(way:List Int) (c:Int) (out:List Int) (W:World) (p:Nat) (wv ev:Value),way.length+f=16->out.length<=32->Rune c->Below w0.heap.size w0 W ->
 Wk w0.heap.size W p (.func (.func g) fa cb) way out wv ev->Calls prog 230 #[.pointer (some ⟨p,0,none⟩),.int .i32 c] W (x5C w0.heap.size W p (.func (.func g) fa cb) way wv ev (Cn.walk rs f way c out))
theorem OpB.apart{w0 W W1 p fv way ends}{wv ev vt zs}(h:Wk w0.heap.size W p fv way ends wv ev)(hk:Sk .i32 w0 vt zs\/Ok .i32 21 W1 W.heap.size vt zs) :
  ∀b off len cap,vt=.slice (some ⟨b,off,none⟩) len cap->0<len->b≠p/\wv.ownBlock≠some b/\ev.ownBlock≠some b:=by
 intro b off len cap e S;have L:=h.lt;have j:=h.own;have q:∀g,wv.ownBlock=some g->w0.heap.size<=g/\g<W.heap.size:=fun g C=>h.w.2.2.lt g C;have A:∀g,ev.ownBlock=some g->w0.heap.size<=g/\g<W.heap.size:=fun g C=>h.e.2.2.lt g C
 have Q:b<w0.heap.size\/W.heap.size<=b:=by
  rcases hk with hk | hk
  ·left;subst e
   have o:0<zs.length:=by
    obtain⟨_,_,e,_,_⟩:=hk.shape;simp at e;omega
   obtain⟨z,d,J,e,_,_,T⟩:=hk.place o;simp at e;have:=x0a (T 0 o);omega
  ·right;exact(hk.2.2.lt b (by subst e;rfl)).1
 refine⟨f6J,fun e=>?_,fun e=>?_⟩
 ·have:=q b e;omega
 ·have:=A b e;omega
theorem y0c g fa cb rs w0(b:y1z g fa cb rs w0)(I:∀args w,(callFunc g args).run prog w=.ok (.enter g args) w) way c out W p wv ev(C:out.length<=32)(y:Cn.opn rs c=[])(T:Rune c)(U:Bw w0 W)(h:Wk w0.heap.size W p (.func (.func g) fa cb) way out wv ev) :
  Calls prog 230 #[.pointer (some ⟨p,0,none⟩),.int .i32 c] W (x5C w0.heap.size W p (.func (.func g) fa cb) way wv ev (if 32<=out.length then([],2)else(out++[c],0))):=by
 have K:=O (b c W U T);have z:W.cell? ⟨p,0,none⟩=some (.func (.func g) fa cb):=cell_of (j:=0) h.blk T7b;rw[y]at K;have n:Hid (∀q,Bw W q->Calls prog 264 #[.pointer (some ⟨p,0,none⟩),.int .i32 c] q (z1a w0.heap.size q p (.func (.func g) fa cb) way out wv ev c)):=fun q Q=>z3j _ q p _ way out wv ev c (h.below Q) (by have:=U.size;have:=Q.size;exact f6J) C T;have o:Hid (32<=out.length->(if 32<=out.length then(([]:List Int),(2:Int))else(out++[c],0))=([],2)):=fun h=>if_pos h;have Z:Hid (out.length<32->(if 32<=out.length then(([]:List Int),(2:Int))else(out++[c],0))=(out++[c],0)):=fun h=>if_neg f6J;generalize(if 32<=out.length then(([]:List Int),(2:Int))else(out++[c],0))=r at *;go_enter func230,ntmps230;go_wp2_with fail;refine(V K).mono ?_;rintro P q ⟨F,rfl,G,E⟩
 have X:Sk .i32 q F []:=V1R
 obtain⟨R,M,rfl,_,_⟩:=X.shape;have A:=O (V n q E);have F0:Hid (Frm W q p wv ev):=Frm.of_below E;go_wp2_with fail;refine(V A).mono ?_;rintro f x (⟨k,rfl,rfl⟩ | ⟨k,rfl,J,H,D,B⟩)
 ·obtain rfl:=V o k;have Y:x5C w0.heap.size W p (.func (.func g) fa cb) way wv ev ([],2) (.panicked [{ v:=.iface 29 (.int .i64 2),recovered:=false }]) x:=⟨V F0,.inl ⟨e8N,rfl⟩⟩;go_wp2;exact⟨rfl,Y⟩
 ·obtain rfl:=V Z k
  have Y:x5C w0.heap.size W p (.func (.func g) fa cb) way wv ev (out++[c],0) (.returned (.tuple #[])) x :=
   ⟨(V F0).trans D (x0X.refl _ _) (x0X.refl _ _),.inr ⟨rfl,rfl,wv,J,H,x0X.refl _ _,B.trans_left (V F0).size⟩⟩
  go_wp2;refine bodyPost_ret (results_none rfl _ _ _) rfl ?_;exact Y
theorem y0d g fa cb rs w0(b:y1z g fa cb rs w0)(f:∀args w,(callFunc g args).run prog w=.ok (.enter g args) w)(s:∀c,(Cn.opn rs c).length<=1000000000) way c out W p wv ev(I:way.length<=16)(y:Cn.opn rs c≠[])(A:c∈way)(T:Rune c)(U:Bw w0 W)(h:Wk w0.heap.size W p (.func (.func g) fa cb) way out wv ev) :
  Calls prog 230 #[.pointer (some ⟨p,0,none⟩),.int .i32 c] W (x5C w0.heap.size W p (.func (.func g) fa cb) way wv ev ([],72)):=by
 have K:=O (b c W U T);have z:W.cell? ⟨p,0,none⟩=some (.func (.func g) fa cb):=cell_of (j:=0) h.blk T7e;have S:=s c;have F:0<(Cn.opn rs c).length:=List.length_pos_iff.2 y;have d:=O (fun W1 vt G=>OpB.apart (W1:=W1) (vt:=vt) (zs:=Cn.opn rs c) h G);have B:=O (fun W1 (Q:Bw W W1)=>h.below Q);have R:=h.w.sk.shape;generalize Cn.opn rs c=zs at *;have D:((zs.length:Int)==0)=false:=(by grind);go_enter func230,ntmps230;go_wp2_with fail;refine(V K).mono ?_;rintro P W1 ⟨vt,rfl,G,E⟩
 have X:Sk .i32 W1 vt zs:=V1R
 have N:=V d W1 vt G;have Z:=V B W1 E;have F0:Hid (Frm W W1 p wv ev):=Frm.of_below E;have J:Bw w0 W1:=U.trans (E.mono U.size);obtain⟨t,L,rfl,_,_⟩:=X.shape;obtain⟨l,M,rfl,_,_⟩:=R;have u:W1.cell? ⟨p,1,none⟩=some (.slice l way.length M):=cell_of (j:=1) Z.blk f2O;have C:=O (x2Y _ way c W1 Z.w.sk f6J);rw[d0t A]at C;have Y:x5C w0.heap.size W p (.func (.func g) fa cb) way (.slice l way.length M) ev ([],72) (.panicked [{ v:=.iface 29 (.int .i64 72),recovered:=false }]) W1:=⟨V F0,.inl ⟨e8N,rfl⟩⟩;go_wp2_with fail;refine c0m C fun x H=>?_;subst H;go_wp2;exact⟨rfl,Y⟩
theorem y7G g fa cb rs w0(b:y1z g fa cb rs w0)(f:∀args w,(callFunc g args).run prog w=.ok (.enter g args) w)(s:∀c,(Cn.opn rs c).length<=1000000000) way c out W p wv ev(I:way.length=16)(y:Cn.opn rs c≠[])(A:¬c∈way)(T:Rune c)(U:Bw w0 W)(h:Wk w0.heap.size W p (.func (.func g) fa cb) way out wv ev) :
  Calls prog 230 #[.pointer (some ⟨p,0,none⟩),.int .i32 c] W (x5C w0.heap.size W p (.func (.func g) fa cb) way wv ev ([],73)):=by
 have K:=O (b c W U T);have z:W.cell? ⟨p,0,none⟩=some (.func (.func g) fa cb):=cell_of (j:=0) h.blk T7e;have S:=s c;have F:0<(Cn.opn rs c).length:=List.length_pos_iff.2 y;have d:=O (fun W1 vt G=>OpB.apart (W1:=W1) (vt:=vt) (zs:=Cn.opn rs c) h G);have B:=O (fun W1 (Q:Bw W W1)=>h.below Q);have R:=h.w.sk.shape;generalize Cn.opn rs c=zs at *;have D:((zs.length:Int)==0)=false:=(by grind);go_enter func230,ntmps230;go_wp2_with fail;refine(V K).mono ?_;rintro P W1 ⟨vt,rfl,G,E⟩
 have X:Sk .i32 W1 vt zs:=V1R
 have N:=V d W1 vt G;have Z:=V B W1 E;have F0:Hid (Frm W W1 p wv ev):=Frm.of_below E;have J:Bw w0 W1:=U.trans (E.mono U.size);obtain⟨t,L,rfl,_,_⟩:=X.shape;obtain⟨l,M,rfl,_,_⟩:=R;have u:W1.cell? ⟨p,1,none⟩=some (.slice l way.length M):=cell_of (j:=1) Z.blk f2O;have C:=O (x2Y _ way c W1 Z.w.sk f6J);rw[d0f A]at C;have Y:x5C w0.heap.size W p (.func (.func g) fa cb) way (.slice l way.length M) ev ([],73) (.panicked [{ v:=.iface 29 (.int .i64 73),recovered:=false }]) W1:=⟨V F0,.inl ⟨e8N,rfl⟩⟩;rw[I]at C u Y;go_wp2_with fail;refine c0m C fun x H=>?_;subst H;go_wp2;exact⟨rfl,Y⟩
theorem Sk.cellAt{K w b off len cap zs}(h:Sk K w (.slice (some ⟨b,off,none⟩) len cap) zs){i}(hi:i<zs.length):w.cell? ⟨b,off+i,none⟩=some (.int K (zs.getD i 0)):=by
 obtain⟨z,d,J,e,_,_,T⟩:=h.place f6J;simp only[Value.slice.injEq,Option.some.injEq,Addr.mk.injEq,and_true]at e;obtain⟨⟨rfl,rfl⟩,_,_⟩:=e;exact T i hi
theorem z5e g fa cb rs w0(hO:y1z g fa cb rs w0)(eg:∀args w,(callFunc g args).run prog w=.ok (.enter g args) w)(aA:∀c,(Cn.opn rs c).length<=1000000000) way c out W p wv ev f(ih:z7m g fa cb rs w0 f)(bt:way.length+f+1=16)(aR:out.length<=32)(aS:Cn.opn rs c≠[])(aN:¬c∈way)(hc:Rune c)(hW:Bw w0 W)(h:Wk w0.heap.size W p (.func (.func g) fa cb) way out wv ev) :
  Calls prog 230 #[.pointer (some ⟨p,0,none⟩),.int .i32 c] W (x5C w0.heap.size W p (.func (.func g) fa cb) way wv ev ((Cn.opn rs c).foldl (Cn.stepW rs f (way++[c])) (out,0))):=by
 have K:=O (hO c W hW hc);have x0:W.cell? ⟨p,0,none⟩=some (.func (.func g) fa cb):=cell_of (j:=0) h.blk T7e;obtain⟨i0,hi,aW,aX,aY⟩:=info_parts Tryz.info21;have A:Hid (∀x o,o.length<=32->(Cn.walk rs f (way++[c]) x o).1.length<=32):=fun x o ho=>Cn.x9M rs f (way++[c]) x o ho;have S:Hid (∀(t:List Int) (o:List Int) (k:Nat),k<t.length->(t.drop k).foldl (Cn.stepW rs f (way++[c])) (o,0)=(t.drop (k+1)).foldl (Cn.stepW rs f (way++[c])) (Cn.walk rs f (way++[c]) (t.getD k 0) o)):=fun t o k G=>Cn.x6x G;have D:Hid (∀(t:List Int) (s:List Int×Int),s.2≠0->t.foldl (Cn.stepW rs f (way++[c])) s=s):=Cn.x1K rs f (way++[c]);have IH:=O ih;have hl:=aA c;have aQ:0<(Cn.opn rs c).length:=List.length_pos_iff.2 aS;have HA:=O (fun W1 vt G=>OpB.apart (W1:=W1) (vt:=vt) (zs:=Cn.opn rs c) h G);have B:=O (fun W1 (Q:Bw W W1)=>h.below Q);have aV:=h.w.sk.shape;generalize Cn.opn rs c=zs at *;have bn:((zs.length:Int)==0)=false:=G9l;obtain⟨r,u⟩:∃r,zs.foldl (Cn.stepW rs f (way++[c])) (out,0)=r:=⟨_,rfl⟩;rw[u];have HR:=O u;go_enter func230,ntmps230;go_wp2_with fail;refine(V K).mono ?_;rintro e1 W1 ⟨vt,rfl,G,E⟩
 have hs:Sk .i32 W1 vt zs:=by
  rcases G with h | h
  ·exact(h.below hW).below E
  ·exact h.sk
 have aI:=V HA W1 vt G;have Z:=V B W1 E;have F0:Hid (Frm W W1 p wv ev):=Frm.of_below E;have ar:Bw w0 W1:=hW.trans (E.mono hW.size);obtain⟨tb,bj,bh,rfl,_,_,_⟩:=hs.place aQ;obtain⟨l,M,rfl,_,_⟩:=aV;have x1:W1.cell? ⟨p,1,none⟩=some (.slice l way.length M):=cell_of (j:=1) Z.blk f2P;have KC:=O (x2Y _ way c W1 Z.w.sk f6J);rw[d0f aN]at KC;have be:((way.length:Int)==16)=false:=G9l;have aB:∀o,(W1.alloc o).ownsRow w0.heap.size 21 1 (.slice l way.length M) way.length (way.map (Value.int .i32)):=fun o=>Z.w.row.alloc o;have I:=O aB;have HD:=O (fun o v' w1 a b c'=>Z.down (o:=o) (v':=v') (w1:=w1) (c:=c) f6J hc a b c');have HS:=O (fun W' p' C J (hf:Frm W1 W' p' C J) hn=>hs.frm (p:=p') (wv:=C) (ev:=J) hf hn);have aF:=O aI;have aT:=ar.size;have aH:=O ar;have ba:=hs.1;have H1:=O Z;have aG:=O (fun k G=>x1d hs (i:=k) G);go_wp2_with fail;refine c0m KC fun W2 bp=>?_;subst W2;go_wp2_with(at_builtin;refine wpList_append_own_at _ rfl (.tmp 40) (.tmp 42) 40 rfl w0.heap.size 21 i0 (.int .i32 0) 1 4 underlying40 hi aW aX aY rfl e8P _ _ _ rfl (V I _) ⟨W1.heap.size,0,none⟩ 1 1 [.int .i32 c] rfl rfl (cell_one_new _ _ _) (x0M _ _) T7X f6J P8P ?_);intro v' w1 ag aM _ aw;obtain⟨E,aC,aL,d⟩:=V HD _ v' w1 ag aM aw;have hm:(way++[c]).length=way.length+1:=(by simp);obtain⟨bm,aZ,z,_,_⟩:=aC.w.sk.shape;rw[hm]at z;subst z;have y1:w1.cell? ⟨p,1,none⟩=some (.slice l way.length M):=cell_of (j:=1) E f2P;have yf:=x0e (j:=1) E;have B:=O aC;have T:=O aL;have y:=O d;go_wp2;go_loopw[6,48] (fun _ i wr=>∃(k:Nat) (o:List Int) (C J:Value),i=.int .i64 k/\k<=zs.length/\o.length<=32/\Hid ((zs.drop k).foldl (Cn.stepW rs f (way++[c])) (o,0)=r)/\Hid (Wk w0.heap.size wr p (.func (.func g) fa cb) (way++[c]) o C J)/\Hid (Frm W1 wr p (.slice l way.length M) ev)/\Hid (x0X W1 (.slice l way.length M) C)/\Hid (x0X W1 ev J)) (fun _ i _=>zs.length-(intOf i).toNat)
 case atStart=>exact⟨0,out,_,ev,rfl,f6J,aR,HR,B,T,y,x0X.refl _ _⟩
 case round =>
  obtain⟨k,o,C,J,rfl,G,ho,HR,B,T,y,ab⟩:=hrel;by_cases H:k<zs.length
  ·have a0:=(V HS wr p (.slice l way.length M) ev (V T) (V aF)).cellAt H;have aU:=V S zs o k H;have Y:=(V D);have N:=(V B);have aJ:Bw w0 wr:=(V aH).trans ((V T).below (V H1) aT);have KD:=O (V IH (way++[c]) (zs.getD k 0) o wr p C J P8P ho (V aG k H) aJ N);have ae:=V A (zs.getD k 0) o ho;have F:Hid ((zs.drop (k+1)).foldl (Cn.stepW rs f (way++[c])) (Cn.walk rs f (way++[c]) (zs.getD k 0) o)=r):=aU ▸ (V HR);have af:=(V T).size;generalize Cn.walk rs f (way++[c]) (zs.getD k 0) o=q at *;generalize zs.getD k 0=x at *;go_wp2_with fail;refine(V KD).mono ?_;rintro e3 w3 ⟨ay,⟨m,az⟩ | ⟨m,rfl,X,U,aD,aP,aO⟩⟩
   ·have u:q=r:=(V D _ q m).symm.trans (V F);subst u;unfold Gave at az;subst az
    have HF:x5C w0.heap.size W p (.func (.func g) fa cb) way (.slice l way.length M) ev q (.panicked [{ v:=.iface 29 (.int .i64 q.2),recovered:=false }]) w3 :=
     ⟨(V F0).trans ((V T).trans ay (V y) (V ab)) (x0X.refl _ _) (x0X.refl _ _),.inl ⟨m,rfl⟩⟩
    go_wp2;exact⟨rfl,HF⟩
   ·obtain⟨q1,q2⟩:=q;simp only at m ae aD;subst m;have am:=O aD;have L:Hid (Frm W1 w3 p (.slice l way.length M) ev):=(V T).trans ay (V y) (V ab);have P:Hid (x0X W1 (.slice l way.length M) X):=(V y).trans aP af;have aj:Hid (x0X W1 ev U):=(V ab).trans aO af;go_wp2
    go_roundw
    case rel=>exact⟨k+1,q1,X,U,by go_num,f6J,ae,F,am,L,P,aj⟩
    case measure=>exact g7Y
  ·obtain rfl:k=zs.length:=by omega
   have u:r=(o,0):=by
    have:=V HR;rw[List.drop_length]at this;exact this.symm
   subst u;have N:=V B;obtain⟨aq,R,rfl,_,_⟩:=N.w.sk.shape
   have ai:Hid (∀n,x5C w0.heap.size W p (.func (.func g) fa cb) way (.slice l way.length M) ev (o,0) (.returned (.tuple #[])) ((wr.drewN n).setCell ⟨p,1,none⟩ (.slice aq way.length R))):=fun n=>by
    have Q:=x0k (w:=wr) ⟨n,rfl⟩;obtain⟨u1,u2,u3⟩:=(N.below Q).up;have g1:Frm W1 (wr.drewN n) p (.slice l way.length M) ev:=(V T).trans (Frm.of_below Q) (V y) (V ab);have s1:=(V T).size;have s2:=Q.size;have s0:=(V F0).size;refine⟨(V F0).trans (g1.trans u2 (V y) (V ab)) (x0X.refl _ _) (x0X.refl _ _),.inr ⟨rfl,rfl,_,J,u1,?_,?_⟩⟩
    ·exact((V y).trans u3 f6J).trans_left s0
    ·exact(V ab).trans_left s0
   have y1:wr.cell? ⟨p,1,none⟩=some (.slice aq (way++[c]).length R):=cell_of (j:=1) N.blk f2P;have yf:=x0e (j:=1) N.blk
   have aK:way.length+1<=R:=by
    obtain⟨_,_,e,h5,_⟩:=N.w.sk.shape;simp at e h5;omega
   rw[show(way++[c]).length=way.length+1 by simp]at y1;go_wp2;go_region;go_wp2;go_end0;exact V ai _
theorem z1E g fa cb rs w0(b:y1z g fa cb rs w0)(Z:∀args w,(callFunc g args).run prog w=.ok (.enter g args) w)(s:∀c,(Cn.opn rs c).length<=1000000000):∀f,z7m g fa cb rs w0 f:=by
 intro f
 induction f with
 | zero =>
  intro B c out W p E D F C T U h;by_cases y:Cn.opn rs c=[]
  ·exact f2W
  ·by_cases A:c∈B
   ·exact V3q
   ·rw[Cn.x7n y A];exact y7G g fa cb rs w0 b Z s B c out W p E D f6J y A T U h
 | succ f ih =>
  intro B c out W p E D F C T U h;by_cases y:Cn.opn rs c=[]
  ·exact f2W
  ·by_cases A:c∈B
   ·exact V3q
   ·rw[Cn.x7o y f A];exact z5e g fa cb rs w0 b Z s B c out W p E D f ih f6J C y A T U h
end Go.Proofs.YtbmckadcjdedcaaGreatDoor
namespace Go.Proofs.YtbmckadcjdedcaaGreatDoor.Cn
open Go.Proofs.Tryz
theorem x1z{p:Prop}[Decidable p](h:(if p then(0:Int)else 61)=0):p:=by grind
theorem x0w{r}(h:right r=0):fam r.kind≠0:=fun e=>by
 unfold right at h;rw[if_pos e]at h;exact absurd h e8M
theorem x0o{r}(h:right r=0)(G:r.kind≠15):0<=r.lo/\r.lo<=r.hi/\r.hi<=1114111:=by
 have U:=x0w h;unfold right at h;rw[if_neg U,if_neg G]at h;have T:=x1z h;rw[Bool.and_eq_true]at T;exact o0d T.1
theorem right_step{r}(h:right r=0):1<=step r/\step r<=64:=by
 unfold step;by_cases z:r.kind=4
 ·rw[if_pos z];have U:=x0w h;unfold right at h;rw[if_neg U,if_neg f6J]at h;have T:=x1z h;rw[Bool.and_eq_true,if_neg f6J,if_neg f6J,if_pos z]at T;have D:=T.2;simp only[Bool.and_eq_true]at D;have:=o0d D.1.1.2;omega
 ·rw[if_neg z];omega
theorem x0t{x a b}(h:list x a b=true):(a<=x.length/\x.length<=b)/\∀c∈x,scalar c=true:=by
 unfold list at h;rw[Bool.and_eq_true]at h;exact⟨o0d h.1,List.all_eq_true.1 h.2⟩
theorem x0A{r}(h:right r=0)(F:r.kind=7):r.lo=r.hi/\scalar r.lo=true/\list r.to 2 2=true:=by
 have U:=x0w h;unfold right at h;rw[if_neg U,if_neg f6J]at h;have T:=x1z h;rw[Bool.and_eq_true,if_neg f6J,if_neg f6J,if_neg f6J,if_neg f6J,if_neg f6J,if_neg f6J,if_pos F]at T;exact I7a
theorem x2H{r}(h:right r=0)(B:r.kind=8):r.lo=r.hi/\scalar r.lo=true/\list r.to 1 2=true:=by
 have U:=x0w h;unfold right at h;rw[if_neg U,if_neg f6J]at h;have T:=x1z h;rw[Bool.and_eq_true,if_neg f6J,if_neg f6J,if_neg f6J,if_neg f6J,if_neg f6J,if_neg f6J,if_neg f6J,if_pos B]at T;exact I7a
theorem x5e:∀(l:List Rec) (i:Nat),x1g i l=Option.none->∀r∈l,right r=0
 | [],_,_=>fun r hr=>by cases hr
 | x::l,i,h=>fun r hr=>by
  rw[x1g]at h;split at h
  ·next hx =>
   rcases List.mem_cons.1 hr with rfl | hr
   ·exact hx
   ·exact x5e l (i+1) h r hr
  ·cases h
theorem x2p:∀(l:List Rec) (i:Nat) (x:Nat×Int),x1g i l=some x->x.2≠0
 | [],_,_,h=>by rw[x1g]at h;exact m5j
 | y::l,i,x,h=>by
  rw[x1g]at h;split at h
  ·exact x2p l (i+1) x h
  ·next hx=>cases h;exact hx
theorem x1J{l}(h:(check6 l).2=0):l.length<=4096/\∀r∈l,right r=0:=by
 unfold check6 at h;split at h
 ·exact absurd h e8N
 ·next hl =>
  refine⟨f6J,?_⟩;split at h
  ·next x hx=>exact absurd h (x2p _ _ _ hx)
  ·next hx=>exact x5e _ _ hx
end Go.Proofs.YtbmckadcjdedcaaGreatDoor.Cn
