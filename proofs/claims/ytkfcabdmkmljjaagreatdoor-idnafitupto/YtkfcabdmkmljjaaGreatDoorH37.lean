/- Lemmas. -/
import Derived.Test.YtkfcabdmkmljjaaGreatDoorH4
import Derived.Deep.RegionHeld3
set_option maxHeartbeats 4000000
set_option maxRecDepth 8000
namespace Go.Proofs.YtkfcabdmkmljjaaGreatDoor
open Go.Proofs.Tryz
section
variable{p:Prop}
theorem r4r(h:p:=by go_enter func300,ntmps300;go_wp2;go_ret;exact⟨rfl,x6y w⟩):p:=h
theorem w0p(h:p:=by rw[beq_eq_false_iff_ne];exact fun h=>T (.inl h)):p:=h
theorem R9l(h:p:=by rw[beq_eq_false_iff_ne];exact fun h=>T (.inr h)):p:=h
theorem I1n(h:p:=by rw[d0f (fun h=>T (.inl h)),d0f (fun h=>T (.inr h))];rfl):p:=h
theorem U6Q(h:p:=by rw[beq_eq_false_iff_ne];exact B):p:=h
theorem n5n(h:p:=by
 go_wp2
 try rw[Exit.noGoto_ret]
 go_ret;exact V (U) _):p:=h
end
namespace Jn
def near(j:Int->Int):List Int->Int
 | []=>0
 | c::l=>if j c=5 then near j l else j c
def lok(a:Int):Bool:=decide (a=2)||decide (a=3)
def rok(a:Int):Bool:=decide (a=1)||decide (a=3)
def vrl(cl:Int->Int):List Int->Bool
 | []=>false
 | v::_=>decide (cl v=9)
def fx(cl j:Int->Int)(l:List Int)(c:Int)(r:List Int):Bool:=if c=8204 then vrl cl l||(lok (near j l)&&rok (near j r))else if c=8205 then vrl cl l else true
def lf(j:Int->Int)(X:List Int)(i:Nat):Int:=near j (X.take i).reverse
def rt(j:Int->Int)(X:List Int)(i:Nat):Int:=near j (X.drop i)
def vir(cl:Int->Int)(X:List Int)(i:Nat):Bool:=vrl cl (X.take i).reverse
def btw(j:Int->Int)(X:List Int)(i:Nat):Bool:=lok (lf j X i)&&rok (rt j X (i+1))
def fit(cl j:Int->Int)(X:List Int)(i:Nat):Bool:=fx cl j (X.take i).reverse (X.getD i 0) (X.drop (i+1))
def chk(cl j:Int->Int)(X:List Int):Int:=match(List.range X.length).find? (fun i=>!fit cl j X i)with
 | some i=>i
 | none=>-1
variable {cl j:Int->Int} {X:List Int}
theorem z9D{i}(h:X.getD i 0=8204):fit cl j X i=(vir cl X i||btw j X i):=by
 unfold fit fx;rw[if_pos h];rfl
theorem z9C{i}(h:X.getD i 0=8205):fit cl j X i=vir cl X i:=by
 unfold fit fx;rw[if_neg f6J,if_pos h];rfl
theorem z9A{i}(h:X.getD i 0≠8204)(D:X.getD i 0≠8205):fit cl j X i=true:=by
 unfold fit fx;rw[if_neg h,if_neg D]
theorem x4y{i}(h:i<X.length):X.take (i+1)=X.take i++[X.getD i 0]:=f0h
theorem x4c{i}(h:i<X.length):X.drop i=X.getD i 0::X.drop (i+1):=f0h
theorem z4D:vir cl X 0=false:=rfl
theorem z4C{i}(h:i<X.length):vir cl X (i+1)=decide (cl (X.getD i 0)=9):=by
 unfold vir;rw[x4y h,List.reverse_append];rfl
theorem y9G{i}(h:i<X.length):lf j X (i+1)=if j (X.getD i 0)=5 then lf j X i else j (X.getD i 0):=by
 unfold lf;rw[x4y h,List.reverse_append];rfl
theorem lf_t{i}(h:i<X.length)(p:j (X.getD i 0)=5):lf j X (i+1)=lf j X i:=by rw[y9G h,if_pos p]
theorem lf_n{i}(h:i<X.length)(p:j (X.getD i 0)≠5):lf j X (i+1)=j (X.getD i 0):=by rw[y9G h,if_neg p]
theorem q0L{i}(h:X.length<=i):rt j X i=0:=by unfold rt;rw[List.drop_eq_nil_of_le h];rfl
theorem q0K{i}(h:i<X.length):rt j X i=if j (X.getD i 0)=5 then rt j X (i+1)else j (X.getD i 0):=by
 unfold rt;rw[x4c h];rfl
theorem rt_t{i}(h:i<X.length)(p:j (X.getD i 0)=5):rt j X i=rt j X (i+1):=by rw[q0K h,if_pos p]
theorem rt_n{i}(h:i<X.length)(p:j (X.getD i 0)≠5):rt j X i=j (X.getD i 0):=by rw[q0K h,if_neg p]
theorem y9F{a:Nat}:∀k,a<=k->k<=X.length->(∀m,a<=m->m<k->j (X.getD m 0)=5)->lf j X k=lf j X a
 | 0,h,_,_=>by rw[Nat.le_zero.1 h]
 | k+1,h,hk,ht=>by
  rcases Nat.lt_or_ge a (k+1)with h1 | h1
  ·rw[lf_t f6J (ht k f6J f6J)];exact y9F k f6J f6J fun m h1 D=>ht m h1 f6J
  ·rw[Nat.le_antisymm h h1]
theorem z0T{a:Nat}:∀k,a<=k->k<=X.length->(∀m,a<=m->m<k->j (X.getD m 0)=5)->rt j X a=rt j X k
 | 0,h,_,_=>by rw[Nat.le_zero.1 h]
 | k+1,h,hk,ht=>by
  rcases Nat.lt_or_ge a (k+1)with h1 | h1
  ·rw[<- rt_t f6J (ht k f6J f6J)];exact z0T k f6J f6J fun m h1 D=>ht m h1 f6J
  ·rw[Nat.le_antisymm h h1]
theorem z5Z{i k e}(Y:btw j X i=true)(hi:X.getD i 0=8204)(A:i<k)(F:k<e)(q:e<=X.length)(p:∀m,i<m->m<e->j (X.getD m 0)=5)(G:X.getD k 0=8204):btw j X k=true:=by
 have K:j (X.getD i 0)=5:=(by grind);unfold btw at Y ⊢
 rw[y9F (a:=i) k f6J f6J (fun m Z D=>by
  rcases Nat.lt_or_ge i m with h | h
  ·exact p m h f6J
  ·rw[(f6J:m=i)];exact K)]
 rw[<- z0T (a:=i+1) (k+1) f6J f6J (fun m Z D=>p m f6J f6J)];exact Y
theorem z2B(h:∀i,i<X.length->fit cl j X i=true):chk cl j X=-1:=by
 unfold chk;have:(List.range X.length).find? (fun i=>!fit cl j X i)=none:=(by grind);rw[this]
theorem z2C{k}(G:k<X.length)(h:∀i,i<k->fit cl j X i=true)(F:fit cl j X k=false):chk cl j X=k:=by
 unfold chk;have:(List.range X.length).find? (fun i=>!fit cl j X i)=some k:=f0h;rw[this]
end Jn
open Go.RowKit
def y1Z(w:World)(n:Int)(e:Ending)(w':World):Prop:=e=.returned (.int .i64 n)/\∃m,w'=w.drewN m
def x2k(f:Nat)(w0:World)(p:Nat)(cl:Int->Int):Prop:=∀c,Rune c->∀W,Below w0.heap.size w0 W->Calls prog f #[.pointer (some ⟨p,0,none⟩),.int .i32 c] W (y1Z W (cl c))
def LnAt(w:World)(b p:Nat)(xv:Value)(row:Nat):Prop:=w.heap[b]?=some (.cells #[.pointer (some ⟨p,0,none⟩),xv,.int .i64 row] 337 (0,0))
theorem LnAt.c0{w b p xv row}(h:LnAt w b p xv row):w.cell? ⟨b,0,none⟩=some (.pointer (some ⟨p,0,none⟩)):=cell_of (j:=0) h T7b
theorem LnAt.c1{w b p xv row}(h:LnAt w b p xv row):w.cell? ⟨b,1,none⟩=some xv:=cell_of (j:=1) h f2O
theorem LnAt.c2{w b p xv row}(h:LnAt w b p xv row):w.cell? ⟨b,2,none⟩=some (.int .i64 row):=cell_of (j:=2) h U4t
theorem LnAt.drewN{w b p xv row}(h:LnAt w b p xv row) m:LnAt (w.drewN m) b p xv row:=by
 unfold LnAt at *;have E:b<w.heap.size:=(by grind);rw[(x0i (w:=w) ⟨m,rfl⟩:Bw w (w.drewN m)).block b E];exact h
namespace Jn
def jat(j:Int->Int)(X:List Int)(k:Int):Int:=if 0<=k/\k<X.length then j (X.getD k.toNat 0)else 0
end Jn
theorem y2P{w0 p j xv}{X row}(N:x2k 311 w0 p j)(A:Sk .i32 w0 xv X) k(G:-10<=k/\k<=1000000000000000000) w(Y:Bw w0 w)(S:LnAt w w0.heap.size p xv row):Calls prog 300 #[.pointer (some ⟨w0.heap.size,0,none⟩),.int .i64 k] w (y1Z w (Jn.jat j X k)):=by
 have I:=S.c0;have J:=S.c1;obtain⟨t,x⟩:=G;unfold Jn.jat;have d:=A.len;by_cases R:0<=k
 ·by_cases Z:k<X.length
  ·rw[if_pos ⟨R,Z⟩];have E:=A.below Y;obtain⟨g,P,M,rfl,_,_,F⟩:=E.place f6J;obtain⟨n,rfl⟩:∃n:Nat,k=n:=⟨k.toNat,f6J⟩;have H:n<X.length:=f6J;have K:=F n H
   have U:Rune (X.getD n 0):=by
    have:=E.1 (X.getD n 0) (by simp[List.getD,H]);exact v9c
   have W:=fun m:Nat=>O (N (X.getD n 0) U (w.drewN m) (bthen Y (x0i ⟨m,rfl⟩)));rw[Int.toNat_natCast];clear N A Y S E F U;generalize X.getD n 0=c at *;go_enter func300,ntmps300;go_wp2;go_quiet(first| (go_at_call 311;exact Calls.quiet_of (V (W _))));go_wp2;go_ret;exact⟨rfl,nq,rfl⟩
  ·rw[if_neg f6J];obtain⟨B,M,rfl,_,_⟩:=A.shape;have D:(X.length:Int)<=k:=f6J;exact r4r
 ·rw[if_neg f6J];have D:k<0:=f6J;exact r4r
theorem y6d{w0 p cl xv}{X row}(o:x2k 161 w0 p cl)(A:Sk .i32 w0 xv X) i(hi:i<X.length) w(Y:Bw w0 w)(S:LnAt w w0.heap.size p xv row):Calls prog 290 #[.pointer (some ⟨w0.heap.size,0,none⟩),.int .i64 i] w (x3S w (Jn.vir cl X i)):=by
 have I:=S.c0;have J:=S.c1;have d:=A.len
 cases i with
 | zero =>
  rw[Jn.z4D];go_enter func290,ntmps290;go_wp2;go_quiet(fail);go_wp2;go_ret;exact⟨rfl,nq,rfl⟩
 | succ n =>
  have E:=A.below Y;obtain⟨g,P,M,rfl,_,_,F⟩:=E.place f6J;have G:n<X.length:=f6J;have K:=F n G
  have U:Rune (X.getD n 0):=by
   have:=E.1 (X.getD n 0) w8a;exact v9c
  rw[Jn.z4C G];have W:=fun m:Nat=>O (o (X.getD n 0) U (w.drewN m) (bthen Y (x0i ⟨m,rfl⟩)));have H:(n:Int)<X.length:=f6J;have T:IntKind.i64.wrap ((n:Int)+1-1)=n:=s7B;have s:(0:Int)<(n:Int)+1:=f6J;rw[Int.natCast_add];clear o A Y S E F U;generalize cl (X.getD n 0)=z at *;generalize X.getD n 0=c at *;obtain⟨b,B⟩:∃b,decide (z=9)=b:=⟨_,rfl⟩;have C:(z==9)=b:=f6J;rw[B];go_enter func290,ntmps290;go_wp2;go_quiet(first| (go_at_call 161;exact Calls.quiet_of (V (W _))));go_wp2;go_ret;exact⟨rfl,nq,rfl⟩
def BtwB(w0:World)(p:Nat)(xv:Value)(j:Int->Int)(X:List Int)(row i:Nat)(e:Ending)(w':World):Prop:=e=.returned (.bool (Jn.btw j X i))/\Below w0.heap.size w0 w'/\∃row',LnAt w' w0.heap.size p xv row'/\(row'=row\/(Jn.btw j X i=true/\i<row'/\row'<=X.length/\∀m,i<m->m<row'->j (X.getD m 0)=5))
theorem LnAt.set{w b p xv row}(h:LnAt w b p xv row)(e:Nat):LnAt (w.setCell ⟨b,2,none⟩ (.int .i64 e)) b p xv e:=by
 unfold LnAt at *;rw[x0c h];rfl
theorem y9s{j X}(e:Nat):Jn.jat j X e=if e<X.length then j (X.getD e 0)else 0:=by
 unfold Jn.jat;rw[Int.toNat_natCast];by_cases h:e<X.length
 ·omega
 ·rw[if_neg h,if_neg f6J]
theorem z3n{j X}(k:Nat)(G:k<=X.length):(Jn.jat j X ((k:Int)-1)=5->0<k/\Jn.lf j X k=Jn.lf j X (k-1))/\(Jn.jat j X ((k:Int)-1)≠5->Jn.lf j X k=Jn.jat j X ((k:Int)-1)):=by
 cases k with
 | zero =>
  have:Jn.jat j X (((0:Nat):Int)-1)=0:=(by unfold Jn.jat;rw[if_neg f6J]);rw[this];exact⟨fun h=>absurd h e8N,fun _=>rfl⟩
 | succ n =>
  have e:(((n+1:Nat):Int)-1)=(n:Int):=f6J;rw[e,y9s,if_pos f6J];exact⟨fun h=>⟨f6J,Jn.lf_t f6J h⟩,fun h=>Jn.lf_n f6J h⟩
theorem z3m{j X}(e:Nat)(q:e<=X.length):(Jn.jat j X e=5->e<X.length/\j (X.getD e 0)=5/\Jn.rt j X e=Jn.rt j X (e+1))/\(Jn.jat j X e≠5->Jn.rt j X e=Jn.jat j X e):=by
 rw[y9s];by_cases h:e<X.length
 ·rw[if_pos h];exact⟨fun K=>⟨h,K,Jn.rt_t h K⟩,fun K=>Jn.rt_n h K⟩
 ·rw[if_neg h];exact⟨fun h=>absurd h e8N,fun _=>Jn.q0L f6J⟩
theorem y6b{w0 p j xv}{X row}(hJ:x2k 311 w0 p j)(hx:Sk .i32 w0 xv X) i(hi:i<X.length)(hr:i<row->Jn.btw j X i=true) w(Y:Bw w0 w)(S:LnAt w w0.heap.size p xv row):Calls prog 291 #[.pointer (some ⟨w0.heap.size,0,none⟩),.int .i64 i] w (BtwB w0 p xv j X row i):=by
 have x2:=S.c2;have d:=hx.len;have f:Hid (∀(k:Int),(-10<=k/\k<=1000000000000000000)->∀m:Nat,Calls prog 300 #[.pointer (some ⟨w0.heap.size,0,none⟩),.int .i64 k] (w.drewN m) (y1Z (w.drewN m) (Jn.jat j X k))):=fun k hk m=>y2P hJ hx k hk (w.drewN m) (bthen Y (x0i ⟨m,rfl⟩)) (S.drewN m);have HB:=O Y;have HL:=O S;have ai:=O (fun k=>z3n (j:=j) (X:=X) k);have aj:=O (fun k=>z3m (j:=j) (X:=X) k);have C:Hid (Jn.btw j X i=(Jn.lok (Jn.lf j X i)&&Jn.rok (Jn.rt j X (i+1)))):=rfl;have P:Hid (∀m:Nat,∀l,l=Jn.btw j X i->BtwB w0 p xv j X row i (.returned (.bool l)) (w.drewN m)):=fun m l e=>⟨by rw[e],bthen Y (x0i ⟨m,rfl⟩),row,S.drewN m,.inl rfl⟩;have c:Hid (∀m e:Nat,Jn.btw j X i=true->i<e->e<=X.length->(∀m,i<m->m<e->j (X.getD m 0)=5)->BtwB w0 p xv j X row i (.returned (.bool true)) ((w.drewN m).setCell ⟨w0.heap.size,2,none⟩ (.int .i64 e))):=fun m e h1 D h3 h4=>⟨by rw[h1],x0b (bthen Y (x0i ⟨m,rfl⟩)) (l0r _) _,e,(S.drewN m).set e,.inr ⟨h1,D,h3,h4⟩⟩;have G:Hid (∀m:Nat,(w.drewN m).cell? ⟨w0.heap.size,2,none⟩=some (.int .i64 row)):=fun m=>(S.drewN m).c2;have HR:=O hr;go_enter func291,ntmps291;by_cases aA:(i:Int)<row
 ·have U:=O (V P 0 true (V HR f6J).symm);go_wp2;go_step3;go_wp2
  try rw[Exit.noGoto_ret]
  go_ret;exact V U
 ·have aB:(row:Int)<=i:=f6J;have aC:IntKind.i64.wrap ((i:Int)-1)=(i:Int)-1:=s7C;have aw:decide (i<row)=false:=d0f f6J;go_wp2;go_step3;go_wp2;go_step3;go_wp2;go_loopw[4,5] (fun r A wr=>∃k:Nat,r=.bool false/\A=.int .i64 ((k:Int)-1)/\k<=i/\Jn.lf j X i=Jn.lf j X k/\∃m,wr=w.drewN m) (fun _ A _=>(intOf A+1).toNat)
  case atStart=>exact⟨i,rfl,rfl,l0r _,rfl,x6y w⟩
  case round =>
   obtain⟨k,rfl,rfl,hk,am,m,rfl⟩:=hrel;have K:=O (V f ((k:Int)-1) ⟨f6J,f6J⟩ m);have F:=O (V ai k f6J);generalize Jn.jat j X ((k:Int)-1)=z at *;have n:=O am;by_cases B:z=5
   ·subst B;obtain⟨I,t⟩:=(V F).1 rfl;have ag:=O ((V n).trans t);have s:IntKind.i64.wrap ((k:Int)-1-1)=(k:Int)-1-1:=s7C;go_wp2_with fail;refine(V K).mono ?_;rintro e Q ⟨rfl,u,rfl⟩;have hd:∃W,(w.drewN m).drewN u=w.drewN W:=x6z ⟨m,rfl⟩ u;obtain⟨W,g⟩:=hd;rw[g];go_wp2
    go_roundw
    case rel=>exact⟨k-1,rfl,by congr 1;exact f6J,f6J,V ag,⟨W,rfl⟩⟩
    case measure=>exact g7T
   ·have N:=(V n).trans ((V F).2 B);have n5:(z==5)=false:=U6Q;by_cases T:z=2\/z=3
    ·have J:Hid (Jn.lok (Jn.lf j X i)=true):=by
      show Jn.lok (Jn.lf j X i)=true;rw[N];rcases T with rfl | rfl<;>rfl
     rcases T with rfl | rfl
     all_goals
      go_wp2_with fail;refine(V K).mono ?_;rintro e Q ⟨rfl,u,rfl⟩;have hd:∃W,(w.drewN m).drewN u=w.drewN W:=x6z ⟨m,rfl⟩ u;obtain⟨W,g⟩:=hd;rw[g];have aD:IntKind.i64.wrap ((i:Int)+1)=(i:Int)+1:=s7C;go_wp2;go_step3;go_wp2;go_loopw[4,6] (fun r A wr=>∃k:Nat,r=.bool false/\A=.int .i64 (k:Int)/\i<k/\k<=X.length/\(∀q,i<q->q<k->j (X.getD q 0)=5)/\Jn.rt j X (i+1)=Jn.rt j X k/\∃m,wr=w.drewN m) (fun _ A _=>(X.length+1-(intOf A).toNat))
      case atStart=>exact⟨i+1,rfl,rfl,f6J,f6J,fun q h1 D=>f6J,rfl,⟨W,rfl⟩⟩
      case round =>
       obtain⟨o,rfl,rfl,x,af,aq,E,Z,rfl⟩:=hrel;have K:=O (V f (o:Int) ⟨f6J,f6J⟩ Z);have ab:=O (V aj o af);have L:=O aq;have v:=O E;have ar:=(V G);generalize Jn.jat j X (o:Int)=z at *;by_cases B:z=5
       ·subst B;obtain⟨I,t,a⟩:=(V ab).1 rfl;have y:=O ((V v).trans a)
        have ae:Hid (∀q,i<q->q<o+1->j (X.getD q 0)=5):=fun q h1 D=>by
         rcases Nat.lt_or_ge q o with h | h
         ·exact V L q h1 h
         ·rw[(f6J:q=o)];exact t
        have aF:IntKind.i64.wrap ((o:Int)+1)=(o:Int)+1:=s7C;go_wp2_with fail;refine(V K).mono ?_;rintro e Q ⟨rfl,u,rfl⟩;obtain⟨b,M⟩:∃W,(w.drewN Z).drewN u=w.drewN W:=x6z ⟨Z,rfl⟩ u;rw[M];go_wp2
        go_roundw
        case rel=>exact⟨o+1,rfl,by first| rfl|(congr 1),f6J,f6J,V ae,V y,⟨b,rfl⟩⟩
        case measure=>exact g7T
       ·have R:=(V v).trans ((V ab).2 B);have n5:(z==5)=false:=U6Q;by_cases T:z=1\/z=3
        ·have H:Hid (Jn.btw j X i=true):=by
          show Jn.btw j X i=true;rw[V C,V J,R];rcases T with rfl | rfl<;>rfl
         rcases T with rfl | rfl
         all_goals
          go_wp2_with fail;refine(V K).mono ?_;rintro e Q ⟨rfl,u,rfl⟩;obtain⟨b,M⟩:∃W,(w.drewN Z).drewN u=w.drewN W:=x6z ⟨Z,rfl⟩ u;rw[M];have x3:=ar b;have az:=x0d (j:=2) ((V HL).drewN b);have U:=O (V c b o (V H) x af (V L));go_wp2
          try rw[Exit.noGoto_ret]
          go_ret;exact V U
        ·have U:Hid (∀m:Nat,BtwB w0 p xv j X row i (.returned (.bool false)) (w.drewN m)):=fun m=>V P m false (by
          rw[V C,R];have:Jn.rok z=false:=by unfold Jn.rok;exact I1n
          rw[this,Bool.and_false])
         have n1:(z==1)=false:=w0p;have n3:(z==3)=false:=R9l;go_wp2_with fail;refine(V K).mono ?_;rintro e Q ⟨rfl,u,rfl⟩;obtain⟨b,M⟩:∃W,(w.drewN Z).drewN u=w.drewN W:=x6z ⟨Z,rfl⟩ u;rw[M];exact n5n
    ·have U:Hid (∀m:Nat,BtwB w0 p xv j X row i (.returned (.bool false)) (w.drewN m)):=fun m=>V P m false (by
      rw[V C,N];have:Jn.lok z=false:=by unfold Jn.lok;exact I1n
      rw[this];rfl)
     have n2:(z==2)=false:=w0p;have n3:(z==3)=false:=R9l;go_wp2_with fail;refine(V K).mono ?_;rintro e Q ⟨rfl,u,rfl⟩;have hd:∃W,(w.drewN m).drewN u=w.drewN W:=x6z ⟨m,rfl⟩ u;obtain⟨W,g⟩:=hd;rw[g];exact n5n
def x7K(j:Int->Int)(X:List Int)(row i:Nat):Prop:=∀k,i<=k->k<row->k<X.length->X.getD k 0=8204->Jn.btw j X k=true
theorem x7K.next{j X row i}(h:x7K j X row i):x7K j X row (i+1):=fun k Z=>h k f6J
theorem x7K.row{j X row i}(Y:Jn.btw j X i=true)(hi:X.getD i 0=8204)(q:row<=X.length)(p:∀m,i<m->m<row->j (X.getD m 0)=5):x7K j X row (i+1):=fun _ Z D _ J=>Jn.z5Z Y hi f6J D q p J
def FitB(w0:World)(p:Nat)(xv:Value)(j:Int->Int)(X:List Int)(i:Nat)(bb:Bool)(e:Ending)(w':World):Prop:=e=.returned (.bool bb)/\Below w0.heap.size w0 w'/\∃row',LnAt w' w0.heap.size p xv row'/\x7K j X row' (i+1)
theorem y2O{w0 p cl j xv}{X row}(o:x2k 161 w0 p cl)(N:x2k 311 w0 p j)(A:Sk .i32 w0 xv X) i(hi:i<X.length)(hr:x7K j X row i) w(Y:Bw w0 w)(S:LnAt w w0.heap.size p xv row):Calls prog 260 #[.pointer (some ⟨w0.heap.size,0,none⟩),.int .i64 i] w (FitB w0 p xv j X i (Jn.fit cl j X i)):=by
 have k:=S.c1;have d:=A.len;have I:=O (y6d o A i hi w Y S);have E:=A.below Y;obtain⟨g,P,M,rfl,_,_,F⟩:=E.place f6J;have L:=F i hi;have R:(i:Int)<X.length:=f6J;by_cases Z:X.getD i 0=8204
 ·rw[Jn.z9D Z];have C:Hid (∀m:Nat,Calls prog 291 #[.pointer (some ⟨w0.heap.size,0,none⟩),.int .i64 i] (w.drewN m) (BtwB w0 p (.slice (some ⟨g,P,none⟩) X.length M) j X row i)):=fun m=>y6b N A i hi (fun h=>hr i (l0r _) h hi Z) (w.drewN m) (bthen Y (x0i ⟨m,rfl⟩)) (S.drewN m);have r:Hid (∀m:Nat,FitB w0 p (.slice (some ⟨g,P,none⟩) X.length M) j X i true (.returned (.bool true)) (w.drewN m)):=fun m=>⟨rfl,bthen Y (x0i ⟨m,rfl⟩),row,S.drewN m,hr.next⟩
  have f:Hid (∀l a,BtwB w0 p (.slice (some ⟨g,P,none⟩) X.length M) j X row i (.returned (.bool l)) a->FitB w0 p (.slice (some ⟨g,P,none⟩) X.length M) j X i (Jn.btw j X i) (.returned (.bool (Jn.btw j X i))) a):=fun l a h=>by
   obtain⟨_,D,z,J,H⟩:=h;refine⟨rfl,D,z,J,?_⟩;rcases H with rfl | ⟨K,_,x,n⟩
   ·exact hr.next
   ·exact x7K.row K Z x n
  rw[Z]at L;clear o N A hr Y S E F;generalize Jn.vir cl X i=s at *
  cases s with
  | true =>
   rw[Bool.true_or];go_enter func260,ntmps260;go_wp2_with fail;refine(V I).mono ?_;rintro e Q ⟨rfl,u,rfl⟩;have U:=O (V r u);exact s1g
  | false =>
   rw[Bool.false_or];go_enter func260,ntmps260;go_wp2_with fail;refine(V I).mono ?_;rintro e Q ⟨rfl,u,rfl⟩;have B:=O (V C u);go_wp2_with fail;refine(V B).mono ?_;rintro e t D;have q:=D.1;subst q;have U:=O (V f _ t D);exact s1g
 ·have T:(X.getD i 0==8204)=false:=W2z;by_cases D:X.getD i 0=8205
  ·rw[Jn.z9C D];rw[D]at L;have r:Hid (∀m:Nat,∀s,FitB w0 p (.slice (some ⟨g,P,none⟩) X.length M) j X i s (.returned (.bool s)) (w.drewN m)):=fun m s=>⟨rfl,bthen Y (x0i ⟨m,rfl⟩),row,S.drewN m,hr.next⟩;clear o N A hr Y S E F T;generalize Jn.vir cl X i=s at *;go_enter func260,ntmps260;go_wp2_with fail;refine(V I).mono ?_;rintro e Q ⟨rfl,u,rfl⟩;have U:=O (V r u s);go_wp2;go_ret;exact V U
  ·rw[Jn.z9A Z D];have W:(X.getD i 0==8205)=false:=(by grind);have U:Hid (FitB w0 p (.slice (some ⟨g,P,none⟩) X.length M) j X i true (.returned (.bool true)) w):=⟨rfl,Y,row,S,hr.next⟩;clear o N A hr Y S E F I Z D;generalize w0.heap.size=b,X.getD i 0=c at *;go_enter func260,ntmps260;exact s1g
theorem LnAt.new(w:World) p xv:LnAt (w.alloc (.cells #[.pointer (some ⟨p,0,none⟩),xv,.int .i64 0] 337)) w.heap.size p xv 0:=by
 unfold LnAt;exact R0n
def y7k(w:World)(n:Int)(e:Ending)(w':World):Prop:=e=.returned (.int .i64 n)/\Below w.heap.size w w'
theorem y2l{w p cl j xv}{X}(o:x2k 161 w p cl)(N:x2k 311 w p j)(A:Sk .i32 w xv X):Calls prog 222 #[.pointer (some ⟨p,0,none⟩),xv] w (y7k w (Jn.chk cl j X)):=by
 have d:=A.len;have Y:Bw w (w.alloc (.cells #[.pointer (some ⟨p,0,none⟩),xv,.int .i64 0] 337)):=(b0r).alloc (l0r _) _;have S:=LnAt.new w p xv;have P:Hid (∀(i:Nat),i<X.length->∀(c:Nat),x7K j X c i->∀W,Bw w W->LnAt W w.heap.size p xv c->Calls prog 260 #[.pointer (some ⟨w.heap.size,0,none⟩),.int .i64 i] W (FitB w p xv j X i (Jn.fit cl j X i))):=fun i hi c u W R J=>y2O o N A i hi u W R J;have t:Hid ((∀q,q<X.length->Jn.fit cl j X q=true)->∀W,Bw w W->y7k w (Jn.chk cl j X) (.returned (.int .i64 (-1))) W):=fun h W R=>⟨by rw[Jn.z2B h],R⟩;have H:Hid (∀k,k<X.length->(∀q,q<k->Jn.fit cl j X q=true)->Jn.fit cl j X k=false->∀W,Bw w W->y7k w (Jn.chk cl j X) (.returned (.int .i64 k)) W):=fun k G h F W R=>⟨by rw[Jn.z2C G h F],R⟩;obtain⟨B,M,rfl,_,_⟩:=A.shape;have l:=O Y;have n:=O S;go_enter func222,ntmps222;go_wp2;go_loopw[4,6,12] (fun r _ Z wr=>∃k c:Nat,r=.int .i64 0/\Z=.int .i64 (k:Int)/\k<=X.length/\(∀q,q<k->Jn.fit cl j X q=true)/\x7K j X c k/\LnAt wr w.heap.size p (.slice B X.length M) c/\Bw w wr) (fun _ _ Z _=>X.length-(intOf Z).toNat)
 case atStart=>exact⟨0,0,rfl,rfl,Nat.zero_le _,fun q h=>absurd h f6J,fun k _ h=>absurd h f6J,V n,V l⟩
 case round =>
  obtain⟨k,c,rfl,rfl,G,y,u,S,Y⟩:=hrel;by_cases E:k<X.length
  ·have J:(k:Int)<X.length:=f6J;have K:=O (V P k E c u wr Y S);have a:=O y
   cases hf:Jn.fit cl j X k with
   | true =>
    rw[hf]at K
    have D:Hid (∀q,q<k+1->Jn.fit cl j X q=true):=fun q h=>by
     rcases Nat.lt_or_ge q k with h1 | h1
     ·exact V a q h1
     ·rw[(f6J:q=k)];exact hf
    go_wp2_with fail;refine(V K).mono ?_;rintro e Q ⟨rfl,b1,z,v,I⟩;have x:=O b1;have T:=O v;have L:=O I;go_wp2
    go_roundw
    case rel=>exact⟨k+1,z,rfl,g2A,f6J,V D,V L,V T,V x⟩
    case measure=>exact g7T
   | false =>
    rw[hf]at K;have f:=O (V H k E (V a) hf);go_wp2_with fail;refine(V K).mono ?_;rintro e Q ⟨rfl,b1,_⟩;have U:=O (V f Q b1);exact s1h
  ·have U:=O (V t (fun q h=>y q f6J) wr Y);have J:¬((k:Int)<X.length):=f6J;exact s1h
