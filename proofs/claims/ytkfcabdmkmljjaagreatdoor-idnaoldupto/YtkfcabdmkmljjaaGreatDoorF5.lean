/- Lemmas. -/
import Derived.Test.YtkfcabdmkmljjaaGreatDoorF3
import Derived.Shelf.Abstract
import Derived.Lib.Walk
import Derived.Maps.AppendAt
import Derived.Deep.RegionHeld3
set_option maxHeartbeats 4000000
set_option maxRecDepth 8000
namespace Go.Proofs.YtkfcabdmkmljjaaGreatDoor
open Go.Proofs.Tryz
open Go.RowKit
section
variable{p:Prop}
theorem P6N(h:p:=by simpa[List.getD,G]using s):p:=h
theorem N2O(h:p:=by simp[Value.ownBlock]at H;subst H;exact⟨t,X⟩):p:=h
theorem U7G(h:p:=by go_wp2;go_ret;exact T):p:=h
theorem I2e(h:p:=by have:=h.size;exact f6J):p:=h
theorem P7T(h:p:=by unfold Cn.opn;rw[if_neg L,D]):p:=h
theorem G7O(h:p:=by go_enter func270,ntmps270;go_wp2_with fail;refine c0m K fun Q E=>?_;subst Q;go_wp2;go_ret2;exact⟨rfl,rfl⟩):p:=h
theorem N2w(h:p:=by go_wp2_with fail;refine c0m K fun Q E=>?_;subst Q;go_wp2;go_ret;exact⟨rfl,rfl⟩):p:=h
theorem m6R(h:p:=by have D:=I.2;simp only[Bool.and_eq_true]at D;exact⟨o0d D.1.1.1,D.1.1.2,D.2⟩):p:=h
theorem m4e(h:p:=by rw[Cn.x2Z n _ l];exact y0D g fa cb rs w0 m D B K c out W p E A f6J n l I U h):p:=h
theorem p1a(h:p:=by go_enter func187,ntmps187;exact t6u):p:=h
theorem U7H(h:p:=by go_wp2;go_ret;exact T):p:=h
theorem M4F(h:p:=by unfold Cn.syl at L;simpa using L):p:=h
theorem G7d(h:p:=by go_enter func142,ntmps142;go_wp2;go_ret;exact⟨rfl,((b0r).alloc (l0r _) _).alloc M7L _⟩):p:=h
theorem e9G(h:p:=by rw[Cn.x1k n];exact y0C g fa cb rs w0 m D K c out W p E A H n I U h):p:=h
theorem f5X(h:p:=by first| rfl | trivial):p:=h
theorem T7c(h:p:=by show 0<3;exact f6J):p:=h
theorem i0P(h:p:=by rw[x0Z];exact f6J):p:=h
theorem G9k(h:p:=by rw[beq_eq_false_iff_ne];exact f6J):p:=h
theorem v6l(h:p:=by
 rcases G with h | h
 ·exact(h.below U).below F
 ·exact h.sk):p:=h
theorem t0o(h:p:=by simp[u]):p:=h
theorem m2b(h:p:=by
 rcases U with e | e
 ·exact .inl (e ▸ Q)
 ·grind):p:=h
theorem U4u(h:p:=by show 2<3;exact f6J):p:=h
theorem P1e(h:p:=by simp[g]):p:=h
theorem r5O(h:p:=by exact(((b0r).alloc (l0r _) _).alloc M7M _).alloc P8P _):p:=h
theorem f2P(h:p:=by show 1<3;exact f6J):p:=h
theorem T7d(h:p:=by show 0<3;exact f6J):p:=h
end
def fbR(p:Rec->Bool):Nat->List Rec->Int
 | _,[]=>-1
 | i,r::l=>if p r then(i:Int)else fbR p (i+1) l
theorem z6D{p:Rec->Bool}{rs:List Rec}{k x}(G:k<rs.length)(h:x=fbR p k (rs.drop k))(s:p (rs.getD k Cn.none)=true):x=(k:Int):=by
 rw[h,List.drop_eq_getElem_cons G,fbR,if_pos];exact P6N
theorem z2L{p:Rec->Bool}{rs:List Rec}{k x}(G:k<rs.length)(h:x=fbR p k (rs.drop k))(s:p (rs.getD k Cn.none)=false):x=fbR p (k+1) (rs.drop (k+1)):=by
 rw[h,List.drop_eq_getElem_cons G,fbR,if_neg];have:p rs[k]=false:=P6N;simp[this]
theorem z6C{p:Rec->Bool}{rs:List Rec}{x}(h:x=fbR p rs.length (rs.drop rs.length)):x=-1:=by
 rw[h,List.drop_length,fbR]
theorem y0G:∀args w,(callFunc 192 args).run prog w=.ok (.enter 192 args) w:=f0h
def AsksR(g:Nat)(cap:Array Value)(p:Rec->Bool)(w:World)(rs:List Rec):Prop:=∀(k:Nat) (vt:Value) (W:World),k<rs.length->Below w.heap.size w W->Sk .i32 W vt (rs.getD k Cn.none).to->Calls prog g (#[recV (rs.getD k Cn.none) vt]++cap) W (x0g W (p (rs.getD k Cn.none)))
def RIn(w:World)(v:Value)(rs:List Rec)(W:World):Prop:=Rcs W v rs/\Below w.heap.size w W
theorem RIn.on{w W W' v rs}(h:RIn w v rs W)(Y:Bw W W'):RIn w v rs W':=⟨h.1.below Y,h.2.trans (Y.mono h.2.size)⟩
theorem x7N B C(p:Rec->Bool) v rs w(N:Rcs w v rs)(r:AsksR 192 #[.pointer (some ⟨B,0,none⟩),.pointer (some ⟨C,0,none⟩)] p w rs) :
  Calls prog 179 #[v,.func (.func 192) #[] #[.pointer (some ⟨B,0,none⟩),.pointer (some ⟨C,0,none⟩)]] w (IntB w (fbR p 0 rs)):=by
 have D:=y0G;have o:Hid (RIn w v rs w):=⟨N,b0r⟩;have Z:=O r;have Q:Hid (fbR p 0 rs=fbR p 0 (rs.drop 0)):=R6P;have a:=N.1;obtain⟨J,M,rfl,h1,h2⟩:=N.shape;generalize hq:fbR p 0 rs=x at *;go_enter func179,ntmps179;go_wp2;go_loopw[5,8] (fun _ i wr=>∃k:Nat,i=.int .i64 k/\k<=rs.length/\x=fbR p k (rs.drop k)/\RIn w (.slice J rs.length M) rs wr) (fun _ i _=>rs.length-(intOf i).toNat)
 case atStart=>exact⟨0,rfl,f6J,V Q,V o⟩
 case round =>
  obtain⟨k,rfl,G,X,l⟩:=hrel;by_cases E:k<rs.length
  ·obtain⟨b,P,A,s,z,t,I⟩:=l.1.place f6J;obtain⟨rfl,rfl⟩:J=some ⟨b,P,none⟩/\M=A:=G8S;obtain⟨x0,d,S,x3,⟨g,j,H⟩,m,U,u⟩:=I k E;have R:=O (V Z k g wr E l.2 H);have q:Hid (p (rs.getD k Cn.none)=true->x=(k:Int)):=fun h=>z6D E X h;have f:Hid (p (rs.getD k Cn.none)=false->x=fbR p (k+1) (rs.drop (k+1))):=fun h=>z2L E X h;have K:=O l;obtain⟨Y,c,rfl,_,_⟩:=H.shape;clear X l I s H Z;unfold recV at R;generalize p (rs.getD k Cn.none)=y at R q f;generalize(rs.getD k Cn.none).kind=kd,(rs.getD k Cn.none).lo=lo,(rs.getD k Cn.none).hi=hi,(rs.getD k Cn.none).n=n at *;generalize(rs.getD k Cn.none).name=nm,(rs.getD k Cn.none).other=ot,(rs.getD k Cn.none).wt=wt,(rs.getD k Cn.none).to.length=tl at *
   cases y with
   | true =>
    obtain rfl:=V q rfl;go_wp2_with(go_at_fn 192;refine(V R).mono ?_;rintro e w1 ⟨rfl,F⟩);have T:=O ((V K).on F).2;go_ret;exact i5u
   | false =>
    have L:=O (V f rfl);go_wp2_with(go_at_fn 192;refine(V R).mono ?_;rintro e w1 ⟨rfl,F⟩);have T:=O ((V K).on F);go_round
    case rel=>exact⟨k+1,g2A,f6J,V L,V T⟩
    case measure=>exact g7T
  ·obtain rfl:k=rs.length:=f6J;obtain rfl:=z6C X;have T:=O l.2;go_wp2;go_ret;exact i5u
theorem y3W(f c:Int):∀(l:List Rec) (i:Nat),fbR (fun r=>decide (Cn.fam r.kind=f)&&Cn.speaks r c) i l=Cn.findA f c i l
 | [],i=>rfl
 | r::l,i=>by
  rw[fbR,Cn.findA,y3W f c l];by_cases h:Cn.fam r.kind=f/\Cn.speaks r c=true
  ·rw[if_pos h,if_pos (by simp[h.1,h.2])]
  ·rw[if_neg h,if_neg S4r]
theorem y0K{f c:Int}(C:f<0\/10<f):∀(l:List Rec) (i:Nat),Cn.findA f c i l=-1
 | [],i=>rfl
 | r::l,i=>by
  have:=Cn.x6E r.kind;rw[Cn.findA,if_neg (fun a=>f6J),y0K C l]
theorem y3X{l f c}(C:f<=0\/10<=f):Cn.find l f c=-1:=by
 unfold Cn.find;split
 ·rfl
 ·exact y0K f6J l 0
def FindT:Prop:=∀(v:Value) (rs:List Rec) (f c:Int) (w:World),Glob w->Rcs w v rs->I64 f->(-2147483648<=c/\c<=2147483647)->Calls prog 142 #[v,.int .i64 f,.int .i32 c] w (IntB w (Cn.find rs f c))
theorem x9h:FindT:=by
 intro v rs f c w H R C I;obtain⟨t,s⟩:=C;by_cases N:f<=0
 ·rw[y3X (.inl N)];exact G7d
 ·by_cases J:10<=f
  ·rw[y3X (.inr J)];exact G7d
  ·have L:Bw w ((w.alloc (.cells #[.int .i64 f] 3)).alloc (.cells #[.int .i32 c] 21)):=((b0r).alloc (l0r _) _).alloc M7L _;have A:((w.alloc (.cells #[.int .i64 f] 3)).alloc (.cells #[.int .i32 c] 21)).cell? ⟨w.heap.size,0,none⟩=some (.int .i64 f):=f0k;have B:((w.alloc (.cells #[.int .i64 f] 3)).alloc (.cells #[.int .i32 c] 21)).cell? ⟨w.heap.size+1,0,none⟩=some (.int .i32 c):=f0k;have d:=R.below L;have P:=H.on L
   have e:Cn.find rs f c=fbR (fun r=>decide (Cn.fam r.kind=f)&&Cn.speaks r c) 0 rs:=by
    unfold Cn.find;rw[if_neg f6J,y3W]
   rw[e]
   have K:Hid (Calls prog 179 #[v,.func (.func 192) #[] #[.pointer (some ⟨w.heap.size,0,none⟩),.pointer (some ⟨w.heap.size+1,0,none⟩)]] ((w.alloc (.cells #[.int .i64 f] 3)).alloc (.cells #[.int .i32 c] 21)) (IntB ((w.alloc (.cells #[.int .i64 f] 3)).alloc (.cells #[.int .i32 c] 21)) (fbR (fun r=>decide (Cn.fam r.kind=f)&&Cn.speaks r c) 0 rs))) :=
    x7N _ _ _ v rs _ d (fun k g W G U _=>y8J _ g f c _ _ W (R.fit G) (P.on U) (by rw[U.cell (x0a A)];exact A) (by rw[U.cell (x0a B)];exact B) f6J I)
   obtain⟨S,M,rfl,Z,D⟩:=R.shape;generalize fbR (fun r=>decide (Cn.fam r.kind=f)&&Cn.speaks r c) 0 rs=x at *;go_enter func142,ntmps142;go_wp2_with fail;refine c0m K fun Q F=>?_;have T:IntB w x (.returned (.int .i64 x)) Q:=⟨rfl,bthen L F⟩;go_wp2;go_ret;exact T
theorem x3o c a b w:Calls prog 187 #[.int .i32 c,.int .i32 a,.int .i32 b] w fun e w'=>e=.returned (.bool (decide (a<=c/\c<=b)))/\w'=w:=by
 by_cases Z:a<=c
 ·by_cases D:c<=b
  ·rw[d0t ⟨Z,D⟩];exact p1a
  ·rw[d0f (fun h=>D h.2)];exact p1a
 ·rw[d0f (fun h=>Z h.1)];exact p1a
theorem x6S c w:Calls prog 185 #[.int .i32 c] w fun e w'=>e=.returned (.bool (Cn.syl c))/\w'=w:=by
 have K:=O (x3o c 44032 55203 w);have P:decide (44032<=c/\c<=55203)=Cn.syl c:=rfl;rw[P]at K;go_enter func185,ntmps185;exact N2w
theorem y4J c w(h:44032<=c/\c<=55203):Calls prog 186 #[.int .i32 c] w fun e w'=>e=.returned (.int .i32 ((c-44032)%28))/\w'=w:=by
 obtain⟨Z,D⟩:=h;have P:(c-44032).tmod 28=(c-44032)%28:=Int.tmod_eq_emod_of_nonneg f6J;go_enter func186,ntmps186;exact t6v
def sylA(c:Int):Int:=if(c-44032)%28=0 then 4352+(c-44032) / 588 else c-(c-44032)%28
def sylB(c:Int):Int:=if(c-44032)%28=0 then 4449+(c-44032) / 28%21 else 4519+(c-44032)%28
theorem z1k{rs c}(L:Cn.syl c=true):Cn.opn rs c=[sylA c,sylB c]:=by
 unfold Cn.opn sylA sylB;rw[if_pos L];split<;>rfl
theorem z8e{c}(h:44032<=c/\c<=55203):(0<=sylA c/\sylA c<=100000)/\0<=sylB c/\sylB c<=100000:=by
 unfold sylA sylB;exact G7p
theorem x7g c w(h:44032<=c/\c<=55203):Calls prog 270 #[.int .i32 c] w fun e w'=>e=.returned (.tuple #[.int .i32 (sylA c),.int .i32 (sylB c)])/\w'=w:=by
 have K:=O (y4J c w h);obtain⟨Z,D⟩:=h;by_cases n:(c-44032)%28=0
 ·have B:sylA c=4352+(c-44032) / 28 / 21:=(by unfold sylA;rw[if_pos n];exact f6J);have C:sylB c=4449+(c-44032) / 28%21:=(by unfold sylB;rw[if_pos n]);rw[B,C];rw[n]at K;have N:(c-44032).tdiv 28=(c-44032) / 28:=Int.tdiv_eq_ediv_of_nonneg f6J;have o:((c-44032) / 28).tmod 21=(c-44032) / 28%21:=Int.tmod_eq_emod_of_nonneg f6J;have F:((c-44032) / 28).tdiv 21=(c-44032) / 28 / 21:=Int.tdiv_eq_ediv_of_nonneg f6J;exact G7O
 ·have B:sylA c=c-(c-44032)%28:=(by unfold sylA;rw[if_neg n]);have C:sylB c=4519+(c-44032)%28:=(by unfold sylB;rw[if_neg n]);rw[B,C];have a:0<(c-44032)%28:=f6J;have A:(c-44032)%28<28:=f6J;exact G7O
theorem fam7:Cn.fam 7=3:=e8M
theorem fam6:Cn.fam 6=2:=e8M
theorem x5s v rs c w(H:Glob w)(N:Rcs w v rs)(I:Rune c):Calls prog 271 #[v,.int .i32 c] w (IntB w (Cn.find rs 3 c)):=by
 have G:=O (x1m 7 w H w5o);rw[fam7]at G;have K:=O (fun W (Y:Bw w W)=>x9h v rs 3 c W (H.on Y) (N.below Y) w5o I);generalize Cn.find rs 3 c=r at *;obtain⟨J,M,rfl,_,_⟩:=N.shape;go_enter func271,ntmps271;go_wp2_with fail;refine c0m G fun Q F=>?_;have j:=O (V K Q F);go_wp2_with fail;refine c0m j fun u t=>?_;have T:IntB w r (.returned (.int .i64 r)) u:=⟨rfl,bthen F t⟩;go_wp2;go_ret;exact T
theorem z9k:z8I:=by
 intro v rs c w H N I;have G:=O (x1m 6 w H w5o);rw[fam6]at G;have K:=O (fun W (Y:Bw w W)=>x9h v rs 2 c W (H.on Y) (N.below Y) w5o I);obtain⟨l,g⟩:=I;rcases hit_at N 2 c with⟨Z,D⟩ | ⟨k,b,P,M,Z,x,D,rfl,S,o,X,C⟩
 ·have L:Cn.cls rs c=0:=N4U;rw[L];rw[Z]at K;obtain⟨J,M,rfl,_,_⟩:=N.shape;go_enter func242,ntmps242;go_wp2_with fail;refine c0m G fun Q F=>?_;have j:=O (V K Q F);go_wp2_with fail;refine c0m j fun u t=>?_;have T:IntB w 0 (.returned (.int .i64 0)) u:=⟨rfl,bthen F t⟩;go_wp2;go_ret;exact T
 ·have L:Cn.cls rs c=(rs.getD k Cn.none).n:=N4U;rw[L];rw[Z]at K;have a:=O X;have B:=N.1;generalize rs.getD k Cn.none=r at *;go_enter func242,ntmps242;go_wp2_with fail;refine c0m G fun Q F=>?_;have j:=O (V K Q F);go_wp2_with fail;refine c0m j fun u t=>?_;have q:=((V a).below (bthen F t)).n;have T:IntB w r.n (.returned (.int .i64 r.n)) u:=⟨rfl,bthen F t⟩;go_wp2;go_ret;exact T
def OpB(w0 w:World)(zs:List Int)(e:Ending)(w':World):Prop:=∃v,e=.returned v/\(Sk .i32 w0 v zs\/Ok .i32 21 w' w.heap.size v zs)/\Below w.heap.size w w'
theorem x8z v rs c w0 w(H:Glob w)(N:Rcs w0 v rs)(y:Bw w0 w)(I:Rune c):Calls prog 240 #[v,.int .i32 c] w (OpB w0 w (Cn.opn rs c)):=by
 have G:=O (x6S c w);by_cases L:Cn.syl c=true
 ·have i:44032<=c/\c<=55203:=M4F;rw[L]at G;rw[z1k L];obtain⟨⟨F,U⟩,d,a⟩:=z8e i;have l:=O (x7g c w i);obtain⟨J,M,rfl,_,_⟩:=N.shape
  have T:OpB w0 w [sylA c,sylB c] (.returned (.slice (some ⟨w.heap.size,0,none⟩) 2 2)) (w.alloc (.cells #[.int .i32 (sylA c),.int .i32 (sylB c)] 21)) :=
   ⟨_,rfl,.inr (ok_two w _ _ f6J f6J),(b0r).alloc (l0r _) _⟩
  go_enter func240,ntmps240;go_wp2_with fail;refine c0m G fun Q E=>?_;subst Q;go_wp2_with fail;refine c0m l fun Q E=>?_;subst Q;go_wp2;go_ret;exact T
 ·have i:Cn.syl c=false:=U9j;rw[i]at G;have K:=O (x5s v rs c w H (N.below y) I);rcases hit_at N 3 c with⟨Z,D⟩ | ⟨k,b,P,M,Z,x,D,rfl,p,o,X,C⟩
  ·have R:Cn.opn rs c=[]:=P7T;rw[R];rw[Z]at K;obtain⟨J,M,rfl,_,_⟩:=N.shape;go_enter func240,ntmps240;go_wp2_with fail;refine c0m G fun Q E=>?_;subst Q;go_wp2_with fail;refine c0m K fun Q Y=>?_;have T:OpB w0 w [] (.returned (.slice none 0 0)) Q:=⟨_,rfl,.inr (Ok.nil _ _ _ _),Y⟩;go_wp2;go_ret;exact T
  ·have R:Cn.opn rs c=(rs.getD k Cn.none).to:=P7T;rw[R];rw[Z]at K;have B:=N.1;obtain⟨g,j,f⟩:=X.to;have A:w.cell? ⟨b,P+k*8+4,none⟩=some g:=(by rw[y.cell (x0a j)];exact j);have S:Hid (∀W,Bw w W->W.cell? ⟨b,P+k*8+4,none⟩=some g):=fun W Y=>(by rw[Y.cell (x0a A)];exact A);have r:=O f;generalize(rs.getD k Cn.none).to=m at *;go_enter func240,ntmps240;go_wp2_with fail;refine c0m G fun Q E=>?_;subst Q;go_wp2_with fail;refine c0m K fun Q Y=>?_;have j:=V S Q Y;have T:OpB w0 w m (.returned g) Q:=⟨_,rfl,.inl (V r),Y⟩;go_wp2;go_ret;exact T
theorem z0R(w:World):(w.alloc (.cells #[] 21)).ownsRow w.heap.size 21 1 (.slice (some ⟨w.heap.size,0,none⟩) 0 0) 0 []:=by
 refine⟨rfl,.inr ⟨w.heap.size,0,#[],rfl,l0r _,?_,l0r _,T7W,rfl,rfl⟩⟩;exact R0n
theorem q0n ad n cap w:(binOp BinOp.eql 36 (.slice (some ad) n cap) (.slice none 0 0)).run prog w=.ok (.bool false) w:=f4x
theorem z7x w:(binOp BinOp.eql 36 (.slice none 0 0) (.slice none 0 0)).run prog w=.ok (.bool true) w:=f4x
theorem x2L v zs w(N:Sk .i32 w v zs)(S:zs.length<=1000000000):Calls prog 148 #[v] w (x0h w zs):=by
 obtain⟨i,hi,q,Y,U⟩:=info_parts Tryz.info21;have K:=N.1;have H:(zs.map (Value.int .i32)).length=zs.length:=List.length_map _;rcases N.2.src with⟨y,rfl⟩ | ⟨f,J,rfl,c⟩
 ·obtain rfl:zs=[]:=G4d;have T:x0h w [] (.returned (.slice none 0 0)) w:=⟨_,rfl,Ok.nil _ _ _ _,b0r⟩;have d:=z7x;go_enter func148,ntmps148;exact U7J
 ·have D:=O (z0R w);rw[H]
  have A:∀j u,(zs.map (Value.int .i32))[j]?=some u->(w.alloc (.cells #[] 21)).cell? (f.add j)=some u:=by
   intro j u R;have h:=c j u R;have E:(f.add j).block<w.heap.size:=World.block_lt_of_cell? w _ h;exact(Below.cell ((Below.refl w.heap.size w).alloc (l0r _) _) E).trans h
  have x:Bw w (w.alloc (.cells #[] 21)):=(b0r).alloc (l0r _) _;have d:=q0n;go_enter func148,ntmps148;go_wp2_with(at_builtin;refine wpList_append_own _ rfl (.tmp 5) (.tmp 6) 36 rfl w.heap.size 21 i (.int .i32 0) 1 4 underlying36 hi q Y U rfl e8P _ _ _ rfl (V D) f zs.length J (zs.map (Value.int .i32)) rfl M7M A (fun u I=>by obtain⟨z,_,rfl⟩:=List.mem_map.1 I;rfl) T7W f6J M7M ?_);intro C W s p _;have B:Bw w W:=x.grown p x.size (fun k G=>by simp[Value.ownBlock]at G;exact f6J);have T:x0h w zs (.returned C) W:=⟨C,rfl,Ok.of K f6J s M7M M7M,B⟩;exact U7J
theorem z2C{w v rs}(N:Rcs w v rs) c:(Cn.opn rs c).length<=1000000000:=by
 unfold Cn.opn;split
 ·exact f1Z
 ·rcases hit_at N 3 c with⟨_,D⟩ | ⟨k,b,P,M,Z,x,D,_,_,_,_,C⟩
  ·rw[D];simp
  ·rw[D];exact C.len
theorem openC:OpenC:=by
 intro v rs c w H N I;have K:=O (x8z v rs c w w H N (b0r) I);have S:=z2C N c;obtain⟨J,M,rfl,_,_⟩:=N.shape;generalize Cn.opn rs c=m at *;go_enter func299,ntmps299;go_wp2_with fail;refine(V K).mono ?_;rintro e Q ⟨b,rfl,G,F⟩
 have L:Sk .i32 Q b m:=by
  rcases G with h | h
  ·exact h.below F
  ·exact h.sk
 have j:=O (x2L b m Q L S);go_wp2_with fail;refine(V j).mono ?_;rintro e u ⟨a,rfl,x,t⟩;have T:x0h w m (.returned a) u:=⟨a,rfl,x.lower F.size,bthen F t⟩;exact U7G
theorem primC:PrimC:=by
 intro v rs c w H N I;have G:=O (x6S c w);by_cases L:Cn.syl c=true
 ·have i:44032<=c/\c<=55203:=M4F;rw[L]at G;have hp:Cn.prim rs c=some (sylA c,sylB c):=(by unfold Cn.prim;rw[if_pos L,z1k L];rfl);rw[hp];have l:=O (x7g c w i);obtain⟨ao,M,rfl,_,_⟩:=N.shape;have T:x6q w (some (sylA c,sylB c)) (.returned (.tuple #[.int .i32 (sylA c),.int .i32 (sylB c),.bool true])) w:=⟨rfl,b0r⟩;go_enter func243,ntmps243;go_wp2_with fail;refine c0m G fun Q E=>?_;subst Q;go_wp2_with fail;refine c0m l fun Q E=>?_;subst Q;go_wp2;go_ret3;exact T
 ·have i:Cn.syl c=false:=(by simpa using L);rw[i]at G;have K:=O (x5s v rs c w H N I);rcases hit_at N 3 c with⟨Z,D⟩ | ⟨k,b,P,M,Z,x,D,rfl,S,o,X,C⟩
  ·have R:Cn.prim rs c=none:=V2B;rw[R];rw[Z]at K;obtain⟨ao,M,rfl,_,_⟩:=N.shape;go_enter func243,ntmps243;go_wp2_with fail;refine c0m G fun Q E=>?_;subst Q;go_wp2_with fail;refine c0m K fun Q Y=>?_;have HN:x6q w none (.returned (.tuple #[.int .i32 0,.int .i32 0,.bool false])) Q:=⟨rfl,Y⟩;go_wp2;go_ret3;exact HN
  ·have ae:Hid ((rs.getD k Cn.none).kind=7->(rs.getD k Cn.none).to.length=2->Cn.prim rs c=some ((rs.getD k Cn.none).to.getD 0 0,(rs.getD k Cn.none).to.getD 1 0)):=fun a b=>by
    unfold Cn.prim;rw[if_neg L,D];simp only;rw[if_pos ⟨a,b⟩]
   have W:Hid (¬((rs.getD k Cn.none).kind=7/\(rs.getD k Cn.none).to.length=2)->Cn.prim rs c=none):=fun a=>by
    unfold Cn.prim;rw[if_neg L,D];simp only;rw[if_neg a]
   rw[Z]at K;have HR:=O X;have B:=N.1;generalize rs.getD k Cn.none=r,Cn.prim rs c=pr at *;go_enter func243,ntmps243;go_wp2_with fail;refine c0m G fun Q E=>?_;subst Q;go_wp2_with fail;refine c0m K fun Q Y=>?_;have ab:=(V HR).below Y;obtain⟨g,j,f⟩:=ab.to;have x0:=ab.kind;generalize r.to=zs,r.kind=z at *;obtain⟨d,J,rfl,aj,am⟩:=f.shape;have HN:x6q w none (.returned (.tuple #[.int .i32 0,.int .i32 0,.bool false])) Q:=⟨rfl,Y⟩;by_cases y:z=7
   ·subst y;by_cases U:zs.length=2
    ·obtain rfl:=V ae rfl U;obtain⟨tb,t,A,s,_,_,u⟩:=f.place f6J;obtain⟨rfl,rfl⟩:d=some ⟨tb,t,none⟩/\J=A:=G8R;have y0:=u 0 f6J;have F:=u 1 f6J;rw[Nat.add_zero]at y0;rw[U]at j aj;generalize zs.getD 0 0=p,zs.getD 1 0=q at *;have T:∀n,x6q w (some (p,q)) (.returned (.tuple #[.int .i32 p,.int .i32 q,.bool true])) (Q.drewN n):=fun n=>⟨rfl,bthen Y (x0i ⟨n,rfl⟩)⟩;clear Y u s f HN U;go_wp2;go_big_quiet (fail);go_wp2;go_ret3;exact T _
    ·obtain rfl:=V W (fun h=>U h.2);have q2:((zs.length:Int) != 2)=true:=P8P;exact F2f
   ·obtain rfl:=V W (fun h=>y h.1);have m:(z != 7)=true:=(by simp[y]);exact F2f
theorem y9q v zs c w(N:Sk .i32 w v zs)(S:zs.length<=1000000000):Calls prog 259 #[v,.int .i32 c] w (fun e w'=>∃n:Int,e=.returned (.int .i64 n)/\(0<=n↔c∈zs)/\w'=w):=by
 rcases Nat.eq_zero_or_pos zs.length with h0 | h0
 ·obtain⟨J,M,rfl,_,_⟩:=N.shape;obtain rfl:zs=[]:=List.eq_nil_of_length_eq_zero h0;go_enter func259,ntmps259;go_wp2;refine wp_loop_rounds 1 ?_;rw[rounds_succ];go_wp2;go_ret;exact⟨-1,rfl,M7O,rfl⟩
 ·obtain⟨b,P,M,rfl,z,A,I⟩:=N.place h0;have H:=O I;clear N I;go_enter func259,ntmps259;go_wp2;go_loopw[5,8] (fun _ i wr=>∃k:Nat,i=.int .i64 k/\k<=zs.length/\wr=w/\Hid (∀j,j<k->zs.getD j 0≠c)) (fun _ i _=>zs.length-(intOf i).toNat)
  case atStart=>exact⟨0,rfl,f6J,rfl,fun j R=>f6J⟩
  case round =>
   obtain⟨k,rfl,G,rfl,X⟩:=hrel;by_cases E:k<zs.length
   ·have W:=V H k E;by_cases s:zs.getD k 0=c
    ·have l:Hid (c∈zs):=by
      show c∈zs;rw[<- s];exact N0e
     rw[s]at W;have g:(c==c)=true:=M7O;go_wp2;go_ret;exact⟨k,rfl,⟨fun _=>V l,fun _=>f6J⟩,rfl⟩
    ·have g:(c==zs.getD k 0)=false:=by
      rw[beq_eq_false_iff_ne];exact fun e=>s e.symm
     have f:Hid (∀j,j<k+1->zs.getD j 0≠c):=fun j R=>by
      rcases Nat.lt_or_ge j k with h | h
      ·exact V X j h
      ·grind
     generalize zs.getD k 0=t at W g;go_wp2
     go_roundw
     case rel=>exact⟨k+1,g2A,f6J,f5X,f⟩
     case measure=>exact g7T
   ·have l:Hid (¬c∈zs):=fun o=>by
     obtain⟨j,R,e⟩:=List.getElem_of_mem o;exact V X j f6J (by simp[List.getD,R,e])
    go_wp2;go_ret;exact⟨-1,rfl,⟨fun h=>f6J,fun h=>absurd h (V l)⟩,rfl⟩
theorem x2N v zs c w(N:Sk .i32 w v zs)(S:zs.length<=1000000000):Calls prog 217 #[v,.int .i32 c] w (fun e w'=>e=.returned (.bool (decide (c∈zs)))/\w'=w):=by
 have K:=O (y9q v zs c w N S);obtain⟨J,M,rfl,_,_⟩:=N.shape;have A:Hid (c∈zs->decide (c∈zs)=true):=fun h=>d0t h;have f:Hid (¬c∈zs->decide (c∈zs)=false):=fun h=>d0f h;generalize decide (c∈zs)=b at *;go_enter func217,ntmps217;go_wp2_with fail;refine(V K).mono ?_;rintro e Q ⟨n,rfl,F,E⟩;subst Q;by_cases h:0<=n
 ·obtain rfl:=V A (F.1 h);clear F A f;exact t6u
 ·obtain rfl:=V f (fun o=>h (F.2 o));have hd:decide (0<=n)=false:=d0f h;clear F A f;exact t6u
structure Wk(b0:Nat)(W:World)(p:Nat)(fv:Value)(way ends:List Int)(wv ev:Value):Prop where
 blk:W.heap[p]?=some (.cells #[fv,wv,ev] 314 (0,0))
 own:b0<=p
 w:Ok .i32 21 W b0 wv way
 e:Ok .i32 21 W b0 ev ends
 ap:∀g,wv.ownBlock=some g->ev.ownBlock≠some g
structure Frm(W W':World)(p:Nat)(wv ev:Value):Prop where
 os:W'.os=W.os
 tape:W'.tape=W.tape
 output:W'.output=W.output
 size:W.heap.size<=W'.heap.size
 keep:∀g,g<W.heap.size->g≠p->wv.ownBlock≠some g->ev.ownBlock≠some g->W'.heap[g]?=W.heap[g]?
def x0W(W:World)(v v':Value):Prop:=∀g,v'.ownBlock=some g->v.ownBlock=some g\/W.heap.size<=g
theorem x0W.refl W v:x0W W v v:=fun _ h=>.inl h
theorem x0W.trans{W W1 a b c}(h:x0W W a b)(k:x0W W1 b c)(L:W.heap.size<=W1.heap.size):x0W W a c:=fun g H=>by
 rcases k g H with h1 | h1
 ·exact h g h1
 ·exact e5w
theorem x0W.trans_left{W W1 a b}(h:x0W W1 a b)(L:W.heap.size<=W1.heap.size):x0W W a b:=(x0W.refl W a).trans h L
theorem z0h{w B v zs}(h:Ok .i32 21 w B v zs){g}(H:v.ownBlock=some g):∃t,w.heap[g]?=some (.cells t 21 (0,0)):=by
 rcases h.2.2.2 with⟨rfl,_⟩ | ⟨k,M,t,rfl,_,X,_⟩
 ·cases H
 ·exact N2O
theorem Wk.pw{b0 W p fv}{way ends wv ev}(h:Wk b0 W p fv way ends wv ev):wv.ownBlock≠some p/\ev.ownBlock≠some p:=by
 refine⟨fun e=>?_,fun e=>?_⟩
 ·obtain⟨t,I⟩:=z0h h.w e;rw[h.blk]at I;simp at I
 ·obtain⟨t,I⟩:=z0h h.e e;rw[h.blk]at I;simp at I
theorem Wk.lt{b0 W p fv}{way ends wv ev}(h:Wk b0 W p fv way ends wv ev):p<W.heap.size:=by
 have:=h.blk;rcases Nat.lt_or_ge p W.heap.size with h1 | h1
 ·exact h1
 ·grind
theorem Wk.below{b0 W W' p fv}{way ends wv ev}(h:Wk b0 W p fv way ends wv ev)(Y:Bw W W'):Wk b0 W' p fv way ends wv ev :=
 ⟨by rw[Y.block p h.lt];exact h.blk,h.own,h.w.below Y,h.e.below Y,h.ap⟩
theorem Frm.below{b0 W W' p fv}{way ends wv ev}(h:Wk b0 W p fv way ends wv ev)(C:Frm W W' p wv ev)(L:b0<=W.heap.size):Below b0 W W' :=
 ⟨C.os,C.tape,C.output,C.size,fun k G=>C.keep k f6J (by have:=h.own;exact f6J) (fun e=>by have:=(h.w.2.2.lt k e).1;exact f6J) (fun e=>by have:=(h.e.2.2.lt k e).1;exact f6J)⟩
theorem Frm.of_below{W W' p wv ev}(Y:Bw W W'):Frm W W' p wv ev:=⟨Y.os,Y.tape,Y.output,Y.size,fun g H _ _ _=>Y.block g H⟩
theorem Frm.trans{W W1 W2 p wv ev wv1 ev1}(h:Frm W W1 p wv ev)(k:Frm W1 W2 p wv1 ev1)(y:x0W W wv wv1)(s:x0W W ev ev1):Frm W W2 p wv ev:=by
 refine⟨k.os.trans h.os,k.tape.trans h.tape,k.output.trans h.output,Nat.le_trans h.size k.size,fun g H Z D J=>?_⟩;rw[k.keep g I2e Z (fun e=>?_) (fun e=>?_),h.keep g H Z D J]
 ·rcases y g e with h4 | h4
  ·exact D h4
  ·omega
 ·rcases s g e with h4 | h4
  ·exact J h4
  ·omega
theorem Wk.taken{b0 W w1 p fv}{way ends wv ev v' o c}(h:Wk b0 W p fv way ends wv ev)(S:ends.length<=40)(I:Rune c)
  (l:w1.ownsRow b0 21 1 v' (ends.length+1) (ends.map (Value.int .i32)++[.int .i32 c])) (H:(W.alloc o).grownBy w1 ev.ownBlock) (U:v'.ownBlock=ev.ownBlock\/v'.ownBlock=some (W.heap.size+1)) :
  w1.heap[p]?=some (.cells #[fv,wv,ev] 314 (0,0))/\Wk b0 (w1.setCell ⟨p,2,none⟩ v') p fv way (ends++[c]) wv v'/\Frm W (w1.setCell ⟨p,2,none⟩ v') p wv ev/\x0W W ev v':=by
 have s:=h.lt;obtain⟨J,N⟩:=h.pw;have K:∀g,g<W.heap.size->(W.alloc o).heap[g]?=W.heap[g]?:=fun g H=>((Below.refl W.heap.size W).alloc (l0r _) _).block g H
 have L:∀g,g<W.heap.size->ev.ownBlock≠some g->w1.heap[g]?=W.heap[g]?:=fun g Z D=>by
  rw[H.block g P8P (fun e=>D e.symm),K g Z]
 have f:W.heap.size+1<=w1.heap.size:=(by simpa using H.size);have Y:w1.heap[p]?=some (.cells #[fv,wv,ev] 314 (0,0)):=by rw[L p s N];exact h.blk
 have X:x0W W ev v':=fun g Q=>m2b
 have A:Ok .i32 21 w1 b0 v' (ends++[c]):=by
  refine Ok.of (h.e.1.snoc (x0O I)) P8P l M7M M7M
 have y:∀g,v'.ownBlock=some g->g≠p:=fun g Z D=>by
  subst D;rcases X g Z with h3 | h3
  ·exact N h3
  ·omega
 refine⟨Y,⟨?_,h.own,?_,?_,?_⟩,?_,X⟩
 ·rw[x0c Y];rfl
 ·refine h.w.keep fun g Z=>?_;have E:=(h.w.2.2.lt g Z).2;rw[x0e _ (fun e=>by subst e;exact J Z),L g E (h.ap g Z)]
 ·refine A.keep fun g Z=>?_;rw[x0e _ (y g Z)]
 ·intro g Z D;rcases X g D with h3 | h3
  ·exact h.ap g Z h3
  ·have:=(h.w.2.2.lt g Z).2;omega
 ·refine⟨?_,?_,?_,i0P,fun g Z D _ F=>by rw[x0e _ D,L g Z F]⟩
  ·have:=(x0b (Below.refl 0 w1) (g:=p) (j:=2) (Nat.zero_le _) v').os;rw[this,H.os];rfl
  ·have:=(x0b (Below.refl 0 w1) (g:=p) (j:=2) (Nat.zero_le _) v').tape;rw[this,H.tape];rfl
  ·have:=(x0b (Below.refl 0 w1) (g:=p) (j:=2) (Nat.zero_le _) v').output;rw[this,H.output];rfl
def Gave(n:Int)(e:Ending):Prop:=e=.panicked [{ v:=.iface 29 (.int .i64 n),recovered:=false }]
def z1T(b0:Nat)(W:World)(p:Nat)(fv:Value)(way ends:List Int)(wv ev:Value)(c:Int)(e:Ending)(W':World):Prop :=
 (32<=ends.length/\Gave 2 e/\W'=W)\/(ends.length<32/\e=.returned (.tuple #[])/\∃ev',Wk b0 W' p fv way (ends++[c]) wv ev'/\Frm W W' p wv ev/\x0W W ev ev')
theorem z4z b0 W p fv way ends wv ev c(h:Wk b0 W p fv way ends wv ev)(f:b0<=W.heap.size)(Z:ends.length<=32)(I:Rune c) :
  Calls prog 269 #[.pointer (some ⟨p,0,none⟩),.int .i32 c] W (z1T b0 W p fv way ends wv ev c):=by
 obtain⟨i,hi,q,Y,U⟩:=info_parts Tryz.info21;have S:W.cell? ⟨p,2,none⟩=some ev:=cell_of (j:=2) h.blk U4u;obtain⟨J,M,rfl,_,_⟩:=h.e.sk.shape;by_cases B:ends.length=32
 ·have T:z1T b0 W p fv way ends wv (.slice J ends.length M) c (.panicked [{ v:=.iface 29 (.int .i64 2),recovered:=false }]) W:=.inl ⟨f6J,rfl,rfl⟩;rw[B]at S T;have d:((32:Nat):Int)=32:=rfl;go_enter func269,ntmps269;go_wp2;exact⟨rfl,T⟩
 ·have d:((ends.length:Int)==32)=false:=G9k;have Q:∀o,(W.alloc o).ownsRow b0 21 1 (.slice J ends.length M) ends.length (ends.map (Value.int .i32)):=fun o=>h.e.row.alloc o;have C:=O Q;have n:=O (fun o v' w1 a b G=>h.taken (o:=o) (v':=v') (w1:=w1) f6J I a b G);have K:ends.length<32:=f6J;go_enter func269,ntmps269;go_wp2_with(at_builtin;refine wpList_append_own_at _ rfl (.tmp 15) (.tmp 17) 36 rfl b0 21 i (.int .i32 0) 1 4 underlying36 hi q Y U rfl e8P _ _ _ rfl (V C _) ⟨W.heap.size,0,none⟩ 1 1 [.int .i32 c] rfl rfl (cell_one_new _ _ _) (x0P _ _) T7X f6J P8P ?_);intro v' w1 N P _ H;obtain⟨F,E,R,t⟩:=V n _ v' w1 N P H;obtain⟨X,A,rfl,_,_⟩:=E.e.sk.shape;have s:w1.cell? ⟨p,2,none⟩=some (.slice J ends.length M):=cell_of (j:=2) F U4u;have D:=x0d (j:=2) F;have T:z1T b0 W p fv way ends wv (.slice J ends.length M) c (.returned (.tuple #[])) (w1.setCell ⟨p,2,none⟩ (.slice X (ends++[c]).length A)):=.inr ⟨K,rfl,_,E,R,t⟩;generalize(ends++[c]).length=m at *;go_wp2;go_end0;exact T
def y1Y(g:Nat)(fa cb:Array Value)(rs:List Rec)(w0:World):Prop:=∀(c:Int) (W:World),Below w0.heap.size w0 W->Rune c->Calls prog g (fa++#[.int .i32 c]++cb) W (OpB w0 W (Cn.opn rs c))
def x5A(b0:Nat)(W:World)(p:Nat)(fv:Value)(way:List Int)(wv ev:Value)(r:List Int×Int)(e:Ending)(W':World):Prop :=
 Frm W W' p wv ev/\((r.2≠0/\Gave r.2 e)\/(r.2=0/\e=.returned (.tuple #[])/\∃wv' ev',Wk b0 W' p fv way r.1 wv' ev'/\x0W W wv wv'/\x0W W ev ev'))
theorem Wk.down{b0 W w1 p fv}{way ends wv ev v' o c}(h:Wk b0 W p fv way ends wv ev)(S:way.length<=40)(I:Rune c)
  (l:w1.ownsRow b0 21 1 v' (way.length+1) (way.map (Value.int .i32)++[.int .i32 c])) (H:(W.alloc o).grownBy w1 wv.ownBlock) (U:v'.ownBlock=wv.ownBlock\/v'.ownBlock=some (W.heap.size+1)) :
  w1.heap[p]?=some (.cells #[fv,wv,ev] 314 (0,0))/\Wk b0 (w1.setCell ⟨p,1,none⟩ v') p fv (way++[c]) ends v' ev/\Frm W (w1.setCell ⟨p,1,none⟩ v') p wv ev/\x0W W wv v':=by
 have s:=h.lt;obtain⟨J,N⟩:=h.pw;have K:∀g,g<W.heap.size->(W.alloc o).heap[g]?=W.heap[g]?:=fun g H=>((Below.refl W.heap.size W).alloc (l0r _) _).block g H
 have L:∀g,g<W.heap.size->wv.ownBlock≠some g->w1.heap[g]?=W.heap[g]?:=fun g Z D=>by
  rw[H.block g P8P (fun e=>D e.symm),K g Z]
 have f:W.heap.size+1<=w1.heap.size:=(by simpa using H.size);have Y:w1.heap[p]?=some (.cells #[fv,wv,ev] 314 (0,0)):=by rw[L p s J];exact h.blk
 have X:x0W W wv v':=fun g Q=>m2b
 have A:Ok .i32 21 w1 b0 v' (way++[c]):=by
  refine Ok.of (h.w.1.snoc (x0O I)) P8P l M7M M7M
 have y:∀g,v'.ownBlock=some g->g≠p:=fun g Z D=>by
  subst D;rcases X g Z with h3 | h3
  ·exact J h3
  ·omega
 refine⟨Y,⟨?_,h.own,?_,?_,?_⟩,?_,X⟩
 ·rw[x0c Y];rfl
 ·refine A.keep fun g Z=>?_;rw[x0e _ (y g Z)]
 ·refine h.e.keep fun g Z=>?_;have E:=(h.e.2.2.lt g Z).2;rw[x0e _ (fun e=>by subst e;exact N Z),L g E (fun e=>h.ap g e Z)]
 ·intro g Z D;rcases X g Z with h3 | h3
  ·exact h.ap g h3 D
  ·have:=(h.e.2.2.lt g D).2;omega
 ·refine⟨?_,?_,?_,i0P,fun g Z D h3 _=>by rw[x0e _ D,L g Z h3]⟩
  ·have:=(x0b (Below.refl 0 w1) (g:=p) (j:=1) (Nat.zero_le _) v').os;rw[this,H.os];rfl
  ·have:=(x0b (Below.refl 0 w1) (g:=p) (j:=1) (Nat.zero_le _) v').tape;rw[this,H.tape];rfl
  ·have:=(x0b (Below.refl 0 w1) (g:=p) (j:=1) (Nat.zero_le _) v').output;rw[this,H.output];rfl
theorem Wk.up{b0 W p fv}{way ends ev ao len cap}{c}(h:Wk b0 W p fv (way++[c]) ends (.slice ao len cap) ev) :
  Wk b0 (W.setCell ⟨p,1,none⟩ (.slice ao way.length cap)) p fv way ends (.slice ao way.length cap) ev/\Frm W (W.setCell ⟨p,1,none⟩ (.slice ao way.length cap)) p (.slice ao len cap) ev/\x0W W (.slice ao len cap) (.slice ao way.length cap):=by
 obtain⟨J,N⟩:=h.pw
 have E:∀g,(Value.slice ao way.length cap).ownBlock=some g->(Value.slice ao len cap).ownBlock=some g:=fun g H=>by
  cases ao with
  | none=>simp[Value.ownBlock]at H
  | some a=>simpa[Value.ownBlock]using H
 have B:len=way.length+1:=by
  obtain⟨_,_,e,_,_⟩:=h.w.sk.shape;simp at e;omega
 have o:Ok .i32 21 W b0 (.slice ao way.length cap) way:=by
  refine⟨fun z u=>h.w.1 z t0o,by have:=h.w.2.1;simp at this ⊢;exact f6J,?_⟩;have D:=h.w.2.2;refine⟨M7L,?_⟩;rcases D.2 with⟨e,_⟩ | ⟨g,A,t,e,H,X,F,G,f,T⟩
  ·simp at e;omega
  ·simp only[Value.slice.injEq]at e;obtain⟨rfl,C,rfl⟩:=e;simp only[List.length_map]at *;refine .inr ⟨g,cap,t,rfl,H,X,by simp at F;exact f6J,G,f,?_⟩;have:=congrArg (List.take (way.length*1)) T;rw[List.take_take,List.map_append,List.take_append_of_le_length M7L]at this;rw[List.take_of_length_le (l:=way.map (Value.int .i32)) M7L]at this;simpa[Nat.min_eq_left (f6J:way.length<=way.length+1)]using this
 refine⟨⟨?_,h.own,?_,?_,?_⟩,?_,fun g H=>.inl (E g H)⟩
 ·rw[x0c h.blk];rfl
 ·refine o.keep fun g Z=>?_;rw[x0e _ (fun e=>by subst e;exact J (E _ Z))]
 ·refine h.e.keep fun g Z=>?_;rw[x0e _ (fun e=>by subst e;exact N Z)]
 ·exact fun g Z=>h.ap g (E g Z)
 ·refine⟨?_,?_,?_,i0P,fun g Z D _ _=>by rw[x0e _ D]⟩
  ·exact(x0b (Below.refl 0 W) (g:=p) (j:=1) (Nat.zero_le _) _).os
  ·simp_all
  ·exact(x0b (Below.refl 0 W) (g:=p) (j:=1) (Nat.zero_le _) _).output
theorem Sk.frm{W W' p wv ev v zs}(h:Sk .i32 W v zs)(C:Frm W W' p wv ev)(F:∀b off len cap,v=.slice (some ⟨b,off,none⟩) len cap->0<len->b≠p/\wv.ownBlock≠some b/\ev.ownBlock≠some b):Sk .i32 W' v zs:=by
 obtain⟨Z,D,J⟩:=h;refine⟨Z,D,?_⟩;rcases J with J | ⟨b,off,cap,N,S,o,I⟩
 ·exact .inl J
 ·refine .inr ⟨b,off,cap,N,S,o,fun i hi=>?_⟩;obtain⟨T,P,f⟩:=F b off _ cap N f6J;have E:=x0a (I i hi);rw[World.cell?_of_block (C.keep b E T P f)];exact I i hi
def z8K(g:Nat)(fa cb:Array Value)(rs:List Rec)(w0:World)(f:Nat):Prop:=∀(way:List Int) (c:Int) (out:List Int) (W:World) (p:Nat) (wv ev:Value),way.length+f=16->out.length<=32->Rune c->Below w0.heap.size w0 W ->
 Wk w0.heap.size W p (.func (.func g) fa cb) way out wv ev->Calls prog 239 #[.pointer (some ⟨p,0,none⟩),.int .i32 c] W (x5A w0.heap.size W p (.func (.func g) fa cb) way wv ev (Cn.walk rs f way c out))
theorem OpB.apart{w0 W W1 p fv way ends}{wv ev vt zs}(h:Wk w0.heap.size W p fv way ends wv ev)(hk:Sk .i32 w0 vt zs\/Ok .i32 21 W1 W.heap.size vt zs) :
  ∀b off len cap,vt=.slice (some ⟨b,off,none⟩) len cap->0<len->b≠p/\wv.ownBlock≠some b/\ev.ownBlock≠some b:=by
 intro b off len cap e S;have B:=h.lt;have R:=h.own;have y:∀g,wv.ownBlock=some g->w0.heap.size<=g/\g<W.heap.size:=fun g H=>h.w.2.2.lt g H;have s:∀g,ev.ownBlock=some g->w0.heap.size<=g/\g<W.heap.size:=fun g H=>h.e.2.2.lt g H
 have Y:b<w0.heap.size\/W.heap.size<=b:=by
  rcases hk with hk | hk
  ·left;subst e
   have u:0<zs.length:=by
    obtain⟨_,_,e,_,_⟩:=hk.shape;simp at e;omega
   obtain⟨L,l,A,e,_,_,I⟩:=hk.place u;simp at e;have:=x0a (I 0 u);omega
  ·right;exact(hk.2.2.lt b (by subst e;rfl)).1
 refine⟨f6J,fun e=>?_,fun e=>?_⟩
 ·have:=y b e;omega
 ·have:=s b e;omega
theorem y0C g fa cb rs w0(m:y1Y g fa cb rs w0)(D:∀args w,(callFunc g args).run prog w=.ok (.enter g args) w) way c out W p wv ev(H:out.length<=32)(n:Cn.opn rs c=[])(I:Rune c)(U:Bw w0 W)(h:Wk w0.heap.size W p (.func (.func g) fa cb) way out wv ev) :
  Calls prog 239 #[.pointer (some ⟨p,0,none⟩),.int .i32 c] W (x5A w0.heap.size W p (.func (.func g) fa cb) way wv ev (if 32<=out.length then([],2)else(out++[c],0))):=by
 have K:=O (m c W U I);have Z:W.cell? ⟨p,0,none⟩=some (.func (.func g) fa cb):=cell_of (j:=0) h.blk T7b;rw[n]at K;have C:Hid (∀q,Bw W q->Calls prog 269 #[.pointer (some ⟨p,0,none⟩),.int .i32 c] q (z1T w0.heap.size q p (.func (.func g) fa cb) way out wv ev c)):=fun q Y=>z4z _ q p _ way out wv ev c (h.below Y) (by have:=U.size;have:=Y.size;exact f6J) H I;have S:Hid (32<=out.length->(if 32<=out.length then(([]:List Int),(2:Int))else(out++[c],0))=([],2)):=fun h=>if_pos h;have i:Hid (out.length<32->(if 32<=out.length then(([]:List Int),(2:Int))else(out++[c],0))=(out++[c],0)):=fun h=>if_neg f6J;generalize(if 32<=out.length then(([]:List Int),(2:Int))else(out++[c],0))=r at *;go_enter func239,ntmps239;go_wp2_with fail;refine(V K).mono ?_;rintro P q ⟨X,rfl,G,F⟩
 have L:Sk .i32 q X []:=v6l
 obtain⟨J,Q,rfl,_,_⟩:=L.shape;have R:=O (V C q F);have F0:Hid (Frm W q p wv ev):=Frm.of_below F;go_wp2_with fail;refine(V R).mono ?_;rintro z M (⟨B,rfl,rfl⟩ | ⟨B,rfl,N,s,A,E⟩)
 ·obtain rfl:=V S B;have T:x5A w0.heap.size W p (.func (.func g) fa cb) way wv ev ([],2) (.panicked [{ v:=.iface 29 (.int .i64 2),recovered:=false }]) M:=⟨V F0,.inl ⟨e8N,rfl⟩⟩;go_wp2;exact⟨rfl,T⟩
 ·obtain rfl:=V i B
  have T:x5A w0.heap.size W p (.func (.func g) fa cb) way wv ev (out++[c],0) (.returned (.tuple #[])) M :=
   ⟨(V F0).trans A (x0W.refl _ _) (x0W.refl _ _),.inr ⟨rfl,rfl,wv,N,s,x0W.refl _ _,E.trans_left (V F0).size⟩⟩
  go_wp2;refine bodyPost_ret (results_none rfl _ _ _) rfl ?_;exact T
theorem y0D g fa cb rs w0(m:y1Y g fa cb rs w0)(D:∀args w,(callFunc g args).run prog w=.ok (.enter g args) w)(B:∀c,(Cn.opn rs c).length<=1000000000) way c out W p wv ev(R:way.length<=16)(n:Cn.opn rs c≠[])(l:c∈way)(I:Rune c)(U:Bw w0 W)(h:Wk w0.heap.size W p (.func (.func g) fa cb) way out wv ev) :
  Calls prog 239 #[.pointer (some ⟨p,0,none⟩),.int .i32 c] W (x5A w0.heap.size W p (.func (.func g) fa cb) way wv ev ([],72)):=by
 have K:=O (m c W U I);have b:W.cell? ⟨p,0,none⟩=some (.func (.func g) fa cb):=cell_of (j:=0) h.blk T7c;have S:=B c;have y:0<(Cn.opn rs c).length:=List.length_pos_iff.2 n;have E:=O (fun W1 vt G=>OpB.apart (W1:=W1) (vt:=vt) (zs:=Cn.opn rs c) h G);have C:=O (fun W1 (Y:Bw W W1)=>h.below Y);have Q:=h.w.sk.shape;generalize Cn.opn rs c=zs at *;have N:((zs.length:Int)==0)=false:=(by grind);go_enter func239,ntmps239;go_wp2_with fail;refine(V K).mono ?_;rintro P W1 ⟨vt,rfl,G,F⟩
 have L:Sk .i32 W1 vt zs:=v6l
 have X:=V E W1 vt G;have Z:=V C W1 F;have F0:Hid (Frm W W1 p wv ev):=Frm.of_below F;have z:Bw w0 W1:=U.trans (F.mono U.size);obtain⟨d,J,rfl,_,_⟩:=L.shape;obtain⟨u,A,rfl,_,_⟩:=Q;have f:W1.cell? ⟨p,1,none⟩=some (.slice u way.length A):=cell_of (j:=1) Z.blk f2O;have H:=O (x2N _ way c W1 Z.w.sk f6J);rw[d0t l]at H;have T:x5A w0.heap.size W p (.func (.func g) fa cb) way (.slice u way.length A) ev ([],72) (.panicked [{ v:=.iface 29 (.int .i64 72),recovered:=false }]) W1:=⟨V F0,.inl ⟨e8N,rfl⟩⟩;go_wp2_with fail;refine c0m H fun M s=>?_;subst s;go_wp2;exact⟨rfl,T⟩
theorem y8o g fa cb rs w0(m:y1Y g fa cb rs w0)(D:∀args w,(callFunc g args).run prog w=.ok (.enter g args) w)(B:∀c,(Cn.opn rs c).length<=1000000000) way c out W p wv ev(R:way.length=16)(n:Cn.opn rs c≠[])(l:¬c∈way)(I:Rune c)(U:Bw w0 W)(h:Wk w0.heap.size W p (.func (.func g) fa cb) way out wv ev) :
  Calls prog 239 #[.pointer (some ⟨p,0,none⟩),.int .i32 c] W (x5A w0.heap.size W p (.func (.func g) fa cb) way wv ev ([],73)):=by
 have K:=O (m c W U I);have f:W.cell? ⟨p,0,none⟩=some (.func (.func g) fa cb):=cell_of (j:=0) h.blk T7c;have S:=B c;have y:0<(Cn.opn rs c).length:=List.length_pos_iff.2 n;have E:=O (fun W1 vt G=>OpB.apart (W1:=W1) (vt:=vt) (zs:=Cn.opn rs c) h G);have C:=O (fun W1 (Y:Bw W W1)=>h.below Y);have Q:=h.w.sk.shape;generalize Cn.opn rs c=zs at *;have N:((zs.length:Int)==0)=false:=(by grind);go_enter func239,ntmps239;go_wp2_with fail;refine(V K).mono ?_;rintro P W1 ⟨vt,rfl,G,F⟩
 have L:Sk .i32 W1 vt zs:=v6l
 have X:=V E W1 vt G;have Z:=V C W1 F;have F0:Hid (Frm W W1 p wv ev):=Frm.of_below F;have z:Bw w0 W1:=U.trans (F.mono U.size);obtain⟨d,J,rfl,_,_⟩:=L.shape;obtain⟨u,A,rfl,_,_⟩:=Q;have b:W1.cell? ⟨p,1,none⟩=some (.slice u way.length A):=cell_of (j:=1) Z.blk f2O;have H:=O (x2N _ way c W1 Z.w.sk f6J);rw[d0f l]at H;have T:x5A w0.heap.size W p (.func (.func g) fa cb) way (.slice u way.length A) ev ([],73) (.panicked [{ v:=.iface 29 (.int .i64 73),recovered:=false }]) W1:=⟨V F0,.inl ⟨e8N,rfl⟩⟩;rw[R]at H b T;go_wp2_with fail;refine c0m H fun M s=>?_;subst s;go_wp2;exact⟨rfl,T⟩
theorem Sk.cellAt{K w b off len cap zs}(h:Sk K w (.slice (some ⟨b,off,none⟩) len cap) zs){i}(hi:i<zs.length):w.cell? ⟨b,off+i,none⟩=some (.int K (zs.getD i 0)):=by
 obtain⟨L,l,A,e,_,_,I⟩:=h.place f6J;simp only[Value.slice.injEq,Option.some.injEq,Addr.mk.injEq,and_true]at e;obtain⟨⟨rfl,rfl⟩,_,_⟩:=e;exact I i hi
theorem z6q g fa cb rs w0(hO:y1Y g fa cb rs w0)(eg:∀args w,(callFunc g args).run prog w=.ok (.enter g args) w)(aF:∀c,(Cn.opn rs c).length<=1000000000) way c out W p wv ev f(ih:z8K g fa cb rs w0 f)(bB:way.length+f+1=16)(aV:out.length<=32)(aW:Cn.opn rs c≠[])(l:¬c∈way)(hc:Rune c)(hW:Bw w0 W)(h:Wk w0.heap.size W p (.func (.func g) fa cb) way out wv ev) :
  Calls prog 239 #[.pointer (some ⟨p,0,none⟩),.int .i32 c] W (x5A w0.heap.size W p (.func (.func g) fa cb) way wv ev ((Cn.opn rs c).foldl (Cn.stepW rs f (way++[c])) (out,0))):=by
 have K:=O (hO c W hW hc);have x0:W.cell? ⟨p,0,none⟩=some (.func (.func g) fa cb):=cell_of (j:=0) h.blk T7d;obtain⟨i0,hi,ba,be,bh⟩:=info_parts Tryz.info21;have aq:Hid (∀x o,o.length<=32->(Cn.walk rs f (way++[c]) x o).1.length<=32):=fun x o R=>Cn.y0i rs f (way++[c]) x o R;have y:Hid (∀(D:List Int) (o:List Int) (k:Nat),k<D.length->(D.drop k).foldl (Cn.stepW rs f (way++[c])) (o,0)=(D.drop (k+1)).foldl (Cn.stepW rs f (way++[c])) (Cn.walk rs f (way++[c]) (D.getD k 0) o)):=fun D o k hk=>Cn.x6H hk;have B:Hid (∀(D:List Int) (s:List Int×Int),s.2≠0->D.foldl (Cn.stepW rs f (way++[c])) s=s):=Cn.x1G rs f (way++[c]);have IH:=O ih;have hl:=aF c;have aU:0<(Cn.opn rs c).length:=List.length_pos_iff.2 aW;have HA:=O (fun W1 vt hk=>OpB.apart (W1:=W1) (vt:=vt) (zs:=Cn.opn rs c) h hk);have C:=O (fun W1 (Y:Bw W W1)=>h.below Y);have aZ:=h.w.sk.shape;generalize Cn.opn rs c=zs at *;have bw:((zs.length:Int)==0)=false:=G9l;obtain⟨r,X⟩:∃r,zs.foldl (Cn.stepW rs f (way++[c])) (out,0)=r:=⟨_,rfl⟩;rw[X];have HR:=O X;go_enter func239,ntmps239;go_wp2_with fail;refine(V K).mono ?_;rintro e1 W1 ⟨vt,rfl,hk,F⟩
 have hs:Sk .i32 W1 vt zs:=by
  rcases hk with h | h
  ·exact(h.below hW).below F
  ·exact h.sk
 have aN:=V HA W1 vt hk;have Z:=V C W1 F;have F0:Hid (Frm W W1 p wv ev):=Frm.of_below F;have z:Bw w0 W1:=hW.trans (F.mono hW.size);obtain⟨tb,bt,bp,rfl,_,_,_⟩:=hs.place aU;obtain⟨u,A,rfl,_,_⟩:=aZ;have x1:W1.cell? ⟨p,1,none⟩=some (.slice u way.length A):=cell_of (j:=1) Z.blk f2P;have KC:=O (x2N _ way c W1 Z.w.sk f6J);rw[d0f l]at KC;have bn:((way.length:Int)==16)=false:=G9l;have aG:∀o,(W1.alloc o).ownsRow w0.heap.size 21 1 (.slice u way.length A) way.length (way.map (Value.int .i32)):=fun o=>Z.w.row.alloc o;have ar:=O aG;have HD:=O (fun o v' w1 a b c'=>Z.down (o:=o) (v':=v') (w1:=w1) (c:=c) f6J hc a b c');have HS:=O (fun W' p' M N (hf:Frm W1 W' p' M N) hn=>hs.frm (p:=p') (wv:=M) (ev:=N) hf hn);have J:=O aN;have aX:=z.size;have aM:=O z;have bm:=hs.1;have H1:=O Z;have aL:=O (fun k hk=>x0V hs (i:=k) hk);go_wp2_with fail;refine c0m KC fun W2 bA=>?_;subst W2;go_wp2_with(at_builtin;refine wpList_append_own_at _ rfl (.tmp 40) (.tmp 42) 36 rfl w0.heap.size 21 i0 (.int .i32 0) 1 4 underlying36 hi ba be bh rfl e8R _ _ _ rfl (V ar _) ⟨W1.heap.size,0,none⟩ 1 1 [.int .i32 c] rfl rfl (cell_one_new _ _ _) (x0P _ _) T7X f6J P8P ?_);intro v' w1 aj aR _ aB;obtain⟨F,aI,aQ,t⟩:=V HD _ v' w1 aj aR aB;have hm:(way++[c]).length=way.length+1:=M7P;obtain⟨bu,bj,aH,_,_⟩:=aI.w.sk.shape;rw[hm]at aH;subst aH;have y1:w1.cell? ⟨p,1,none⟩=some (.slice u way.length A):=cell_of (j:=1) F f2P;have yf:=x0d (j:=1) F;have C:=O aI;have m:=O aQ;have T:=O t;go_wp2;go_loopw[6,48] (fun _ i wr=>∃(k:Nat) (o:List Int) (M N:Value),i=.int .i64 k/\k<=zs.length/\o.length<=32/\Hid ((zs.drop k).foldl (Cn.stepW rs f (way++[c])) (o,0)=r)/\Hid (Wk w0.heap.size wr p (.func (.func g) fa cb) (way++[c]) o M N)/\Hid (Frm W1 wr p (.slice u way.length A) ev)/\Hid (x0W W1 (.slice u way.length A) M)/\Hid (x0W W1 ev N)) (fun _ i _=>zs.length-(intOf i).toNat)
 case atStart=>exact⟨0,out,_,ev,rfl,f6J,aV,HR,C,m,T,x0W.refl _ _⟩
 case round =>
  obtain⟨k,o,M,N,rfl,hk,R,HR,C,m,T,L⟩:=hrel;by_cases E:k<zs.length
  ·have a0:=(V HS wr p (.slice u way.length A) ev (V m) (V J)).cellAt E;have aY:=V y zs o k E;have aK:=(V B);have G:=(V C);have aO:Bw w0 wr:=(V aM).trans ((V m).below (V H1) aX);have KD:=O (V IH (way++[c]) (zs.getD k 0) o wr p M N P8P R (V aL k E) aO G);have ab:=V aq (zs.getD k 0) o R;have I:Hid ((zs.drop (k+1)).foldl (Cn.stepW rs f (way++[c])) (Cn.walk rs f (way++[c]) (zs.getD k 0) o)=r):=aY ▸ (V HR);have ae:=(V m).size;generalize Cn.walk rs f (way++[c]) (zs.getD k 0) o=q at *;generalize zs.getD k 0=x at *;go_wp2_with fail;refine(V KD).mono ?_;rintro e3 w3 ⟨aC,⟨d,aD⟩ | ⟨d,rfl,aJ,aA,U,aT,aS⟩⟩
   ·have X:q=r:=(V B _ q d).symm.trans (V I);subst X;unfold Gave at aD;subst aD
    have HF:x5A w0.heap.size W p (.func (.func g) fa cb) way (.slice u way.length A) ev q (.panicked [{ v:=.iface 29 (.int .i64 q.2),recovered:=false }]) w3 :=
     ⟨(V F0).trans ((V m).trans aC (V T) (V L)) (x0W.refl _ _) (x0W.refl _ _),.inl ⟨d,rfl⟩⟩
    go_wp2;exact⟨rfl,HF⟩
   ·obtain⟨q1,q2⟩:=q;simp only at d ab U;subst d;have aw:=O U;have P:Hid (Frm W1 w3 p (.slice u way.length A) ev):=(V m).trans aC (V T) (V L);have Q:Hid (x0W W1 (.slice u way.length A) aJ):=(V T).trans aT ae;have S:Hid (x0W W1 ev aA):=(V L).trans aS ae;go_wp2
    go_roundw
    case rel=>exact⟨k+1,q1,aJ,aA,g2C,f6J,ab,I,aw,P,Q,S⟩
    case measure=>exact g7W
  ·obtain rfl:k=zs.length:=by omega
   have X:r=(o,0):=by
    have:=V HR;rw[List.drop_length]at this;exact this.symm
   subst X;have G:=V C;obtain⟨ay,H,rfl,_,_⟩:=G.w.sk.shape
   have am:Hid (∀n,x5A w0.heap.size W p (.func (.func g) fa cb) way (.slice u way.length A) ev (o,0) (.returned (.tuple #[])) ((wr.drewN n).setCell ⟨p,1,none⟩ (.slice ay way.length H))):=fun n=>by
    have Y:=x0i (w:=wr) ⟨n,rfl⟩;obtain⟨u1,u2,u3⟩:=(G.below Y).up;have g1:Frm W1 (wr.drewN n) p (.slice u way.length A) ev:=(V m).trans (Frm.of_below Y) (V T) (V L);have s1:=(V m).size;have s2:=Y.size;have s0:=(V F0).size;refine⟨(V F0).trans (g1.trans u2 (V T) (V L)) (x0W.refl _ _) (x0W.refl _ _),.inr ⟨rfl,rfl,_,N,u1,?_,?_⟩⟩
    ·exact((V T).trans u3 f6J).trans_left s0
    ·exact(V L).trans_left s0
   have y1:wr.cell? ⟨p,1,none⟩=some (.slice ay (way++[c]).length H):=cell_of (j:=1) G.blk f2P;have yf:=x0d (j:=1) G.blk
   have aP:way.length+1<=H:=by
    obtain⟨_,_,e,h5,_⟩:=G.w.sk.shape;simp at e h5;omega
   rw[(M7P:(way++[c]).length=way.length+1)]at y1;go_wp2;go_region;go_wp2;go_end0;exact V am _
theorem z2F g fa cb rs w0(m:y1Y g fa cb rs w0)(D:∀args w,(callFunc g args).run prog w=.ok (.enter g args) w)(B:∀c,(Cn.opn rs c).length<=1000000000):∀f,z8K g fa cb rs w0 f:=by
 intro f
 induction f with
 | zero =>
  intro K c out W p E A C H I U h;by_cases n:Cn.opn rs c=[]
  ·exact e9G
  ·by_cases l:c∈K
   ·exact m4e
   ·rw[Cn.x7C n l];exact y8o g fa cb rs w0 m D B K c out W p E A f6J n l I U h
 | succ f ih =>
  intro K c out W p E A C H I U h;by_cases n:Cn.opn rs c=[]
  ·exact e9G
  ·by_cases l:c∈K
   ·exact m4e
   ·rw[Cn.x7D n f l];exact z6q g fa cb rs w0 m D B K c out W p E A f ih f6J H n l I U h
end Go.Proofs.YtkfcabdmkmljjaaGreatDoor
namespace Go.Proofs.YtkfcabdmkmljjaaGreatDoor.Cn
open Go.Proofs.Tryz
theorem x1x{p:Prop}[Decidable p](h:(if p then(0:Int)else 61)=0):p:=by grind
theorem x0z{r}(h:right r=0):fam r.kind≠0:=fun e=>by
 unfold right at h;rw[if_pos e]at h;exact absurd h e8M
theorem x0q{r}(h:right r=0)(G:r.kind≠15):0<=r.lo/\r.lo<=r.hi/\r.hi<=1114111:=by
 have C:=x0z h;unfold right at h;rw[if_neg C,if_neg G]at h;have I:=x1x h;rw[Bool.and_eq_true]at I;exact o0d I.1
theorem right_step{r}(h:right r=0):1<=step r/\step r<=64:=by
 unfold step;by_cases F:r.kind=4
 ·rw[if_pos F];have C:=x0z h;unfold right at h;rw[if_neg C,if_neg f6J]at h;have I:=x1x h;rw[Bool.and_eq_true,if_neg f6J,if_neg f6J,if_pos F]at I;have D:=I.2;simp only[Bool.and_eq_true]at D;have:=o0d D.1.1.2;omega
 ·rw[if_neg F];omega
theorem x0x{x a b}(h:list x a b=true):(a<=x.length/\x.length<=b)/\∀c∈x,scalar c=true:=by
 unfold list at h;rw[Bool.and_eq_true]at h;exact⟨o0d h.1,List.all_eq_true.1 h.2⟩
theorem x0E{r}(h:right r=0)(y:r.kind=7):r.lo=r.hi/\scalar r.lo=true/\list r.to 2 2=true:=by
 have C:=x0z h;unfold right at h;rw[if_neg C,if_neg f6J]at h;have I:=x1x h;rw[Bool.and_eq_true,if_neg f6J,if_neg f6J,if_neg f6J,if_neg f6J,if_neg f6J,if_neg f6J,if_pos y]at I;exact m6R
theorem x2x{r}(h:right r=0)(W:r.kind=8):r.lo=r.hi/\scalar r.lo=true/\list r.to 1 2=true:=by
 have C:=x0z h;unfold right at h;rw[if_neg C,if_neg f6J]at h;have I:=x1x h;rw[Bool.and_eq_true,if_neg f6J,if_neg f6J,if_neg f6J,if_neg f6J,if_neg f6J,if_neg f6J,if_neg f6J,if_pos W]at I;exact m6R
theorem x4X:∀(l:List Rec) (i:Nat),x1b i l=Option.none->∀r∈l,right r=0
 | [],_,_=>fun r hr=>by cases hr
 | x::l,i,h=>fun r hr=>by
  rw[x1b]at h;split at h
  ·next hx =>
   rcases List.mem_cons.1 hr with rfl | hr
   ·exact hx
   ·exact x4X l (i+1) h r hr
  ·cases h
theorem x2h:∀(l:List Rec) (i:Nat) (x:Nat×Int),x1b i l=some x->x.2≠0
 | [],_,_,h=>by rw[x1b]at h;exact m5j
 | y::l,i,x,h=>by
  rw[x1b]at h;split at h
  ·exact x2h l (i+1) x h
  ·next hx=>cases h;exact hx
theorem x1F{l}(h:(check6 l).2=0):l.length<=4096/\∀r∈l,right r=0:=by
 unfold check6 at h;split at h
 ·exact absurd h e8N
 ·next hl =>
  refine⟨f6J,?_⟩;split at h
  ·next x hx=>exact absurd h (x2h _ _ _ hx)
  ·next hx=>exact x4X _ _ hx
end Go.Proofs.YtkfcabdmkmljjaaGreatDoor.Cn
