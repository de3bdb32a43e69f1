/- Lemmas. -/
import Derived.Test.YtkfcabdmkmljjaaGreatDoorG4
import Derived.Deep.RegionHeld3
set_option maxHeartbeats 4000000
set_option maxRecDepth 8000
namespace Go.Proofs.YtkfcabdmkmljjaaGreatDoor
open Go.Proofs.Tryz
section
variable{p:Prop}
theorem N1H(h:p:=by go_enter func300,ntmps300;go_wp2;go_ret;exact⟨rfl,x6D w⟩):p:=h
theorem w0p(h:p:=by rw[beq_eq_false_iff_ne];exact fun h=>T (.inl h)):p:=h
theorem R9l(h:p:=by rw[beq_eq_false_iff_ne];exact fun h=>T (.inr h)):p:=h
theorem I1n(h:p:=by rw[d0f (fun h=>T (.inl h)),d0f (fun h=>T (.inr h))];rfl):p:=h
theorem S2C(h:p:=by rw[beq_eq_false_iff_ne];exact E):p:=h
theorem n5n(h:p:=by
 go_wp2
 try rw[Exit.noGoto_ret]
 go_ret;exact V (U) _):p:=h
end
namespace Jn
def near(j:Int->Int):List Int->Int
 | []=>0
 | c::l=>if j c=5 then near j l else j c
def lok(a:Int):Bool:=decide (a=2)||decide (a=3)
def rok(a:Int):Bool:=decide (a=1)||decide (a=3)
def vrl(cl:Int->Int):List Int->Bool
 | []=>false
 | v::_=>decide (cl v=9)
def fx(cl j:Int->Int)(l:List Int)(c:Int)(r:List Int):Bool:=if c=8204 then vrl cl l||(lok (near j l)&&rok (near j r))else if c=8205 then vrl cl l else true
def lf(j:Int->Int)(X:List Int)(i:Nat):Int:=near j (X.take i).reverse
def rt(j:Int->Int)(X:List Int)(i:Nat):Int:=near j (X.drop i)
def vir(cl:Int->Int)(X:List Int)(i:Nat):Bool:=vrl cl (X.take i).reverse
def btw(j:Int->Int)(X:List Int)(i:Nat):Bool:=lok (lf j X i)&&rok (rt j X (i+1))
def fit(cl j:Int->Int)(X:List Int)(i:Nat):Bool:=fx cl j (X.take i).reverse (X.getD i 0) (X.drop (i+1))
def chk(cl j:Int->Int)(X:List Int):Int:=match(List.range X.length).find? (fun i=>!fit cl j X i)with
 | some i=>i
 | none=>-1
variable {cl j:Int->Int} {X:List Int}
theorem q0a{i}(h:X.getD i 0=8204):fit cl j X i=(vir cl X i||btw j X i):=by
 unfold fit fx;rw[if_pos h];rfl
theorem z9Z{i}(h:X.getD i 0=8205):fit cl j X i=vir cl X i:=by
 unfold fit fx;rw[if_neg f6J,if_pos h];rfl
theorem z9X{i}(h:X.getD i 0≠8204)(D:X.getD i 0≠8205):fit cl j X i=true:=by
 unfold fit fx;rw[if_neg h,if_neg D]
theorem x4y{i}(h:i<X.length):X.take (i+1)=X.take i++[X.getD i 0]:=f0h
theorem x4b{i}(h:i<X.length):X.drop i=X.getD i 0::X.drop (i+1):=f0h
theorem z4S:vir cl X 0=false:=rfl
theorem z4R{i}(h:i<X.length):vir cl X (i+1)=decide (cl (X.getD i 0)=9):=by
 unfold vir;rw[x4y h,List.reverse_append];rfl
theorem y9R{i}(h:i<X.length):lf j X (i+1)=if j (X.getD i 0)=5 then lf j X i else j (X.getD i 0):=by
 unfold lf;rw[x4y h,List.reverse_append];rfl
theorem lf_t{i}(h:i<X.length)(U:j (X.getD i 0)=5):lf j X (i+1)=lf j X i:=by rw[y9R h,if_pos U]
theorem lf_n{i}(h:i<X.length)(U:j (X.getD i 0)≠5):lf j X (i+1)=j (X.getD i 0):=by rw[y9R h,if_neg U]
theorem q1e{i}(h:X.length<=i):rt j X i=0:=by unfold rt;rw[List.drop_eq_nil_of_le h];rfl
theorem q1d{i}(h:i<X.length):rt j X i=if j (X.getD i 0)=5 then rt j X (i+1)else j (X.getD i 0):=by
 unfold rt;rw[x4b h];rfl
theorem rt_t{i}(h:i<X.length)(U:j (X.getD i 0)=5):rt j X i=rt j X (i+1):=by rw[q1d h,if_pos U]
theorem rt_n{i}(h:i<X.length)(U:j (X.getD i 0)≠5):rt j X i=j (X.getD i 0):=by rw[q1d h,if_neg U]
theorem y9Q{a:Nat}:∀k,a<=k->k<=X.length->(∀m,a<=m->m<k->j (X.getD m 0)=5)->lf j X k=lf j X a
 | 0,h,_,_=>by rw[Nat.le_zero.1 h]
 | k+1,h,hk,ht=>by
  rcases Nat.lt_or_ge a (k+1)with h1 | h1
  ·rw[lf_t f6J (ht k f6J f6J)];exact y9Q k f6J f6J fun m h1 D=>ht m h1 f6J
  ·rw[Nat.le_antisymm h h1]
theorem z1e{a:Nat}:∀k,a<=k->k<=X.length->(∀m,a<=m->m<k->j (X.getD m 0)=5)->rt j X a=rt j X k
 | 0,h,_,_=>by rw[Nat.le_zero.1 h]
 | k+1,h,hk,ht=>by
  rcases Nat.lt_or_ge a (k+1)with h1 | h1
  ·rw[<- rt_t f6J (ht k f6J f6J)];exact z1e k f6J f6J fun m h1 D=>ht m h1 f6J
  ·rw[Nat.le_antisymm h h1]
theorem z6p{i k e}(Y:btw j X i=true)(hi:X.getD i 0=8204)(S:i<k)(M:k<e)(P:e<=X.length)(U:∀m,i<m->m<e->j (X.getD m 0)=5)(G:X.getD k 0=8204):btw j X k=true:=by
 have K:j (X.getD i 0)=5:=(by grind);unfold btw at Y ⊢
 rw[y9Q (a:=i) k f6J f6J (fun m Z D=>by
  rcases Nat.lt_or_ge i m with h | h
  ·exact U m h f6J
  ·rw[(f6J:m=i)];exact K)]
 rw[<- z1e (a:=i+1) (k+1) f6J f6J (fun m Z D=>U m f6J f6J)];exact Y
theorem z2N(h:∀i,i<X.length->fit cl j X i=true):chk cl j X=-1:=by
 unfold chk;have:(List.range X.length).find? (fun i=>!fit cl j X i)=none:=(by grind);rw[this]
theorem z2O{k}(G:k<X.length)(h:∀i,i<k->fit cl j X i=true)(F:fit cl j X k=false):chk cl j X=k:=by
 unfold chk;have:(List.range X.length).find? (fun i=>!fit cl j X i)=some k:=f0h;rw[this]
end Jn
open Go.RowKit
def y2l(w:World)(n:Int)(e:Ending)(w':World):Prop:=e=.returned (.int .i64 n)/\∃m,w'=w.drewN m
def x2n(f:Nat)(w0:World)(p:Nat)(cl:Int->Int):Prop:=∀c,Rune c->∀W,Below w0.heap.size w0 W->Calls prog f #[.pointer (some ⟨p,0,none⟩),.int .i32 c] W (y2l W (cl c))
def LnAt(w:World)(b p:Nat)(xv:Value)(row:Nat):Prop:=w.heap[b]?=some (.cells #[.pointer (some ⟨p,0,none⟩),xv,.int .i64 row] 337 (0,0))
theorem LnAt.c0{w b p xv row}(h:LnAt w b p xv row):w.cell? ⟨b,0,none⟩=some (.pointer (some ⟨p,0,none⟩)):=cell_of (j:=0) h T7b
theorem LnAt.c1{w b p xv row}(h:LnAt w b p xv row):w.cell? ⟨b,1,none⟩=some xv:=cell_of (j:=1) h f2O
theorem LnAt.c2{w b p xv row}(h:LnAt w b p xv row):w.cell? ⟨b,2,none⟩=some (.int .i64 row):=cell_of (j:=2) h U4t
theorem LnAt.drewN{w b p xv row}(h:LnAt w b p xv row) m:LnAt (w.drewN m) b p xv row:=by
 unfold LnAt at *;have E:b<w.heap.size:=(by grind);rw[(x0i (w:=w) ⟨m,rfl⟩:Bw w (w.drewN m)).block b E];exact h
namespace Jn
def jat(j:Int->Int)(X:List Int)(k:Int):Int:=if 0<=k/\k<X.length then j (X.getD k.toNat 0)else 0
end Jn
theorem y3c{w0 p j xv}{X row}(s:x2n 311 w0 p j)(A:Sk .i32 w0 xv X) k(G:-10<=k/\k<=1000000000000000000) w(Y:Bw w0 w)(S:LnAt w w0.heap.size p xv row):Calls prog 300 #[.pointer (some ⟨w0.heap.size,0,none⟩),.int .i64 k] w (y2l w (Jn.jat j X k)):=by
 have d:=S.c0;have u:=S.c1;obtain⟨C,q⟩:=G;unfold Jn.jat;have B:=A.len;by_cases R:0<=k
 ·by_cases Z:k<X.length
  ·rw[if_pos ⟨R,Z⟩];have L:=A.below Y;obtain⟨g,I,M,rfl,_,_,F⟩:=L.place f6J;obtain⟨n,rfl⟩:∃n:Nat,k=n:=⟨k.toNat,f6J⟩;have H:n<X.length:=f6J;have K:=F n H
   have y:Rune (X.getD n 0):=by
    have:=L.1 (X.getD n 0) (by simp[List.getD,H]);exact v9d
   have z:=fun m:Nat=>O (s (X.getD n 0) y (w.drewN m) (bthen Y (x0i ⟨m,rfl⟩)));rw[Int.toNat_natCast];clear s A Y S L F y;generalize X.getD n 0=c at *;go_enter func300,ntmps300;go_wp2;go_quiet(first| (go_at_call 311;exact Calls.quiet_of (V (z _))));go_wp2;go_ret;exact⟨rfl,nq,rfl⟩
  ·rw[if_neg f6J];obtain⟨J,M,rfl,_,_⟩:=A.shape;have D:(X.length:Int)<=k:=f6J;exact N1H
 ·rw[if_neg f6J];have D:k<0:=f6J;exact N1H
theorem y6r{w0 p cl xv}{X row}(H:x2n 161 w0 p cl)(A:Sk .i32 w0 xv X) i(hi:i<X.length) w(Y:Bw w0 w)(S:LnAt w w0.heap.size p xv row):Calls prog 290 #[.pointer (some ⟨w0.heap.size,0,none⟩),.int .i64 i] w (x3P w (Jn.vir cl X i)):=by
 have d:=S.c0;have u:=S.c1;have B:=A.len
 cases i with
 | zero =>
  rw[Jn.z4S];go_enter func290,ntmps290;go_wp2;go_quiet(fail);go_wp2;go_ret;exact⟨rfl,nq,rfl⟩
 | succ n =>
  have L:=A.below Y;obtain⟨g,R,M,rfl,_,_,F⟩:=L.place f6J;have G:n<X.length:=f6J;have J:=F n G
  have y:Rune (X.getD n 0):=by
   have:=L.1 (X.getD n 0) w8a;exact v9d
  rw[Jn.z4R G];have I:=fun m:Nat=>O (H (X.getD n 0) y (w.drewN m) (bthen Y (x0i ⟨m,rfl⟩)));have a:(n:Int)<X.length:=f6J;have l:IntKind.i64.wrap ((n:Int)+1-1)=n:=s7B;have s:(0:Int)<(n:Int)+1:=f6J;rw[Int.natCast_add];clear H A Y S L F y;generalize cl (X.getD n 0)=z at *;generalize X.getD n 0=c at *;obtain⟨f,C⟩:∃f,decide (z=9)=f:=⟨_,rfl⟩;have D:(z==9)=f:=f6J;rw[C];go_enter func290,ntmps290;go_wp2;go_quiet(first| (go_at_call 161;exact Calls.quiet_of (V (I _))));go_wp2;go_ret;exact⟨rfl,nq,rfl⟩
def BtwB(w0:World)(p:Nat)(xv:Value)(j:Int->Int)(X:List Int)(row i:Nat)(e:Ending)(w':World):Prop:=e=.returned (.bool (Jn.btw j X i))/\Below w0.heap.size w0 w'/\∃row',LnAt w' w0.heap.size p xv row'/\(row'=row\/(Jn.btw j X i=true/\i<row'/\row'<=X.length/\∀m,i<m->m<row'->j (X.getD m 0)=5))
theorem LnAt.set{w b p xv row}(h:LnAt w b p xv row)(e:Nat):LnAt (w.setCell ⟨b,2,none⟩ (.int .i64 e)) b p xv e:=by
 unfold LnAt at *;rw[x0c h];rfl
theorem y9D{j X}(e:Nat):Jn.jat j X e=if e<X.length then j (X.getD e 0)else 0:=by
 unfold Jn.jat;rw[Int.toNat_natCast];by_cases h:e<X.length
 ·omega
 ·rw[if_neg h,if_neg f6J]
theorem z3B{j X}(k:Nat)(G:k<=X.length):(Jn.jat j X ((k:Int)-1)=5->0<k/\Jn.lf j X k=Jn.lf j X (k-1))/\(Jn.jat j X ((k:Int)-1)≠5->Jn.lf j X k=Jn.jat j X ((k:Int)-1)):=by
 cases k with
 | zero =>
  have:Jn.jat j X (((0:Nat):Int)-1)=0:=(by unfold Jn.jat;rw[if_neg f6J]);rw[this];exact⟨fun h=>absurd h e8N,fun _=>rfl⟩
 | succ n =>
  have e:(((n+1:Nat):Int)-1)=(n:Int):=f6J;rw[e,y9D,if_pos f6J];exact⟨fun h=>⟨f6J,Jn.lf_t f6J h⟩,fun h=>Jn.lf_n f6J h⟩
theorem z3A{j X}(e:Nat)(P:e<=X.length):(Jn.jat j X e=5->e<X.length/\j (X.getD e 0)=5/\Jn.rt j X e=Jn.rt j X (e+1))/\(Jn.jat j X e≠5->Jn.rt j X e=Jn.jat j X e):=by
 rw[y9D];by_cases h:e<X.length
 ·rw[if_pos h];exact⟨fun K=>⟨h,K,Jn.rt_t h K⟩,fun K=>Jn.rt_n h K⟩
 ·rw[if_neg h];exact⟨fun h=>absurd h e8N,fun _=>Jn.q1e f6J⟩
theorem y6p{w0 p j xv}{X row}(s:x2n 311 w0 p j)(hx:Sk .i32 w0 xv X) i(hi:i<X.length)(hr:i<row->Jn.btw j X i=true) w(Y:Bw w0 w)(S:LnAt w w0.heap.size p xv row):Calls prog 291 #[.pointer (some ⟨w0.heap.size,0,none⟩),.int .i64 i] w (BtwB w0 p xv j X row i):=by
 have x2:=S.c2;have ay:=hx.len;have HJ:Hid (∀(k:Int),(-10<=k/\k<=1000000000000000000)->∀m:Nat,Calls prog 300 #[.pointer (some ⟨w0.heap.size,0,none⟩),.int .i64 k] (w.drewN m) (y2l (w.drewN m) (Jn.jat j X k))):=fun k hk m=>y3c s hx k hk (w.drewN m) (bthen Y (x0i ⟨m,rfl⟩)) (S.drewN m);have HB:=O Y;have HL:=O S;have aj:=O (fun k=>z3B (j:=j) (X:=X) k);have aq:=O (fun k=>z3A (j:=j) (X:=X) k);have L:Hid (Jn.btw j X i=(Jn.lok (Jn.lf j X i)&&Jn.rok (Jn.rt j X (i+1)))):=rfl;have R:Hid (∀m:Nat,∀r,r=Jn.btw j X i->BtwB w0 p xv j X row i (.returned (.bool r)) (w.drewN m)):=fun m r e=>⟨by rw[e],bthen Y (x0i ⟨m,rfl⟩),row,S.drewN m,.inl rfl⟩;have ab:Hid (∀m e:Nat,Jn.btw j X i=true->i<e->e<=X.length->(∀m,i<m->m<e->j (X.getD m 0)=5)->BtwB w0 p xv j X row i (.returned (.bool true)) ((w.drewN m).setCell ⟨w0.heap.size,2,none⟩ (.int .i64 e))):=fun m e Z D h3 h4=>⟨by rw[Z],x0b (bthen Y (x0i ⟨m,rfl⟩)) (l0r _) _,e,(S.drewN m).set e,.inr ⟨Z,D,h3,h4⟩⟩;have g:Hid (∀m:Nat,(w.drewN m).cell? ⟨w0.heap.size,2,none⟩=some (.int .i64 row)):=fun m=>(S.drewN m).c2;have a:=O hr;go_enter func291,ntmps291;by_cases aB:(i:Int)<row
 ·have U:=O (V R 0 true (V a f6J).symm);go_wp2;go_step3;go_wp2
  try rw[Exit.noGoto_ret]
  go_ret;exact V U
 ·have l:(row:Int)<=i:=f6J;have aC:IntKind.i64.wrap ((i:Int)-1)=(i:Int)-1:=s7C;have az:decide (i<row)=false:=d0f f6J;go_wp2;go_step3;go_wp2;go_step3;go_wp2;go_loopw[4,5] (fun v A wr=>∃k:Nat,v=.bool false/\A=.int .i64 ((k:Int)-1)/\k<=i/\Jn.lf j X i=Jn.lf j X k/\∃m,wr=w.drewN m) (fun _ A _=>(intOf A+1).toNat)
  case atStart=>exact⟨i,rfl,rfl,l0r _,rfl,x6D w⟩
  case round =>
   obtain⟨k,rfl,rfl,hk,B,m,rfl⟩:=hrel;have K:=O (V HJ ((k:Int)-1) ⟨f6J,f6J⟩ m);have N:=O (V aj k f6J);generalize Jn.jat j X ((k:Int)-1)=z at *;have c:=O B;by_cases E:z=5
   ·subst E;obtain⟨I,C⟩:=(V N).1 rfl;have J:=O ((V c).trans C);have aD:IntKind.i64.wrap ((k:Int)-1-1)=(k:Int)-1-1:=s7C;go_wp2_with fail;refine(V K).mono ?_;rintro e Q ⟨rfl,u,rfl⟩;have hd:∃P,(w.drewN m).drewN u=w.drewN P:=x6E ⟨m,rfl⟩ u;obtain⟨P,o⟩:=hd;rw[o];go_wp2
    go_roundw
    case rel=>exact⟨k-1,rfl,by congr 1;exact f6J,f6J,V J,⟨P,rfl⟩⟩
    case measure=>exact g7T
   ·have ai:=(V c).trans ((V N).2 E);have n5:(z==5)=false:=S2C;by_cases T:z=2\/z=3
    ·have H:Hid (Jn.lok (Jn.lf j X i)=true):=by
      show Jn.lok (Jn.lf j X i)=true;rw[ai];rcases T with rfl | rfl<;>rfl
     rcases T with rfl | rfl
     all_goals
      go_wp2_with fail;refine(V K).mono ?_;rintro e Q ⟨rfl,u,rfl⟩;have hd:∃P,(w.drewN m).drewN u=w.drewN P:=x6E ⟨m,rfl⟩ u;obtain⟨P,o⟩:=hd;rw[o];have aF:IntKind.i64.wrap ((i:Int)+1)=(i:Int)+1:=s7C;go_wp2;go_step3;go_wp2;go_loopw[4,6] (fun v A wr=>∃k:Nat,v=.bool false/\A=.int .i64 (k:Int)/\i<k/\k<=X.length/\(∀q,i<q->q<k->j (X.getD q 0)=5)/\Jn.rt j X (i+1)=Jn.rt j X k/\∃m,wr=w.drewN m) (fun _ A _=>(X.length+1-(intOf A).toNat))
      case atStart=>exact⟨i+1,rfl,rfl,f6J,f6J,fun q Z D=>f6J,rfl,⟨P,rfl⟩⟩
      case round =>
       obtain⟨M,rfl,rfl,ar,b,aw,F,d,rfl⟩:=hrel;have K:=O (V HJ (M:Int) ⟨f6J,f6J⟩ d);have ae:=O (V aq M b);have af:=O aw;have y:=O F;have W:=(V g);generalize Jn.jat j X (M:Int)=z at *;by_cases E:z=5
       ·subst E;obtain⟨I,C,n⟩:=(V ae).1 rfl;have am:=O ((V y).trans n)
        have ag:Hid (∀q,i<q->q<M+1->j (X.getD q 0)=5):=fun q Z D=>by
         rcases Nat.lt_or_ge q M with h | h
         ·exact V af q Z h
         ·rw[(f6J:q=M)];exact C
        have aG:IntKind.i64.wrap ((M:Int)+1)=(M:Int)+1:=s7C;go_wp2_with fail;refine(V K).mono ?_;rintro e Q ⟨rfl,u,rfl⟩;obtain⟨x,t⟩:∃P,(w.drewN d).drewN u=w.drewN P:=x6E ⟨d,rfl⟩ u;rw[t];go_wp2
        go_roundw
        case rel=>exact⟨M+1,rfl,by first| rfl|(congr 1),f6J,f6J,V ag,V am,⟨x,rfl⟩⟩
        case measure=>exact g7T
       ·have f:=(V y).trans ((V ae).2 E);have n5:(z==5)=false:=S2C;by_cases T:z=1\/z=3
        ·have G:Hid (Jn.btw j X i=true):=by
          show Jn.btw j X i=true;rw[V L,V H,f];rcases T with rfl | rfl<;>rfl
         rcases T with rfl | rfl
         all_goals
          go_wp2_with fail;refine(V K).mono ?_;rintro e Q ⟨rfl,u,rfl⟩;obtain⟨x,t⟩:∃P,(w.drewN d).drewN u=w.drewN P:=x6E ⟨d,rfl⟩ u;rw[t];have x3:=W x;have aA:=x0d (j:=2) ((V HL).drewN x);have U:=O (V ab x M (V G) ar b (V af));go_wp2
          try rw[Exit.noGoto_ret]
          go_ret;exact V U
        ·have U:Hid (∀m:Nat,BtwB w0 p xv j X row i (.returned (.bool false)) (w.drewN m)):=fun m=>V R m false (by
          rw[V L,f];have:Jn.rok z=false:=by unfold Jn.rok;exact I1n
          rw[this,Bool.and_false])
         have n1:(z==1)=false:=w0p;have n3:(z==3)=false:=R9l;go_wp2_with fail;refine(V K).mono ?_;rintro e Q ⟨rfl,u,rfl⟩;obtain⟨x,t⟩:∃P,(w.drewN d).drewN u=w.drewN P:=x6E ⟨d,rfl⟩ u;rw[t];exact n5n
    ·have U:Hid (∀m:Nat,BtwB w0 p xv j X row i (.returned (.bool false)) (w.drewN m)):=fun m=>V R m false (by
      rw[V L,ai];have:Jn.lok z=false:=by unfold Jn.lok;exact I1n
      rw[this];rfl)
     have n2:(z==2)=false:=w0p;have n3:(z==3)=false:=R9l;go_wp2_with fail;refine(V K).mono ?_;rintro e Q ⟨rfl,u,rfl⟩;have hd:∃P,(w.drewN m).drewN u=w.drewN P:=x6E ⟨m,rfl⟩ u;obtain⟨P,o⟩:=hd;rw[o];exact n5n
def x7S(j:Int->Int)(X:List Int)(row i:Nat):Prop:=∀k,i<=k->k<row->k<X.length->X.getD k 0=8204->Jn.btw j X k=true
theorem x7S.next{j X row i}(h:x7S j X row i):x7S j X row (i+1):=fun k Z=>h k f6J
theorem x7S.row{j X row i}(Y:Jn.btw j X i=true)(hi:X.getD i 0=8204)(P:row<=X.length)(U:∀m,i<m->m<row->j (X.getD m 0)=5):x7S j X row (i+1):=fun _ Z D _ J=>Jn.z6p Y hi f6J D P U J
def FitB(w0:World)(p:Nat)(xv:Value)(j:Int->Int)(X:List Int)(i:Nat)(bb:Bool)(e:Ending)(w':World):Prop:=e=.returned (.bool bb)/\Below w0.heap.size w0 w'/\∃row',LnAt w' w0.heap.size p xv row'/\x7S j X row' (i+1)
theorem y3b{w0 p cl j xv}{X row}(H:x2n 161 w0 p cl)(s:x2n 311 w0 p j)(A:Sk .i32 w0 xv X) i(hi:i<X.length)(hr:x7S j X row i) w(Y:Bw w0 w)(S:LnAt w w0.heap.size p xv row):Calls prog 260 #[.pointer (some ⟨w0.heap.size,0,none⟩),.int .i64 i] w (FitB w0 p xv j X i (Jn.fit cl j X i)):=by
 have v:=S.c1;have B:=A.len;have E:=O (y6r H A i hi w Y S);have L:=A.below Y;obtain⟨g,R,M,rfl,_,_,F⟩:=L.place f6J;have l:=F i hi;have a:(i:Int)<X.length:=f6J;by_cases Z:X.getD i 0=8204
 ·rw[Jn.q0a Z];have C:Hid (∀m:Nat,Calls prog 291 #[.pointer (some ⟨w0.heap.size,0,none⟩),.int .i64 i] (w.drewN m) (BtwB w0 p (.slice (some ⟨g,R,none⟩) X.length M) j X row i)):=fun m=>y6p s A i hi (fun h=>hr i (l0r _) h hi Z) (w.drewN m) (bthen Y (x0i ⟨m,rfl⟩)) (S.drewN m);have r:Hid (∀m:Nat,FitB w0 p (.slice (some ⟨g,R,none⟩) X.length M) j X i true (.returned (.bool true)) (w.drewN m)):=fun m=>⟨rfl,bthen Y (x0i ⟨m,rfl⟩),row,S.drewN m,hr.next⟩
  have f:Hid (∀k o,BtwB w0 p (.slice (some ⟨g,R,none⟩) X.length M) j X row i (.returned (.bool k)) o->FitB w0 p (.slice (some ⟨g,R,none⟩) X.length M) j X i (Jn.btw j X i) (.returned (.bool (Jn.btw j X i))) o):=fun k o h=>by
   obtain⟨_,D,t,J,n⟩:=h;refine⟨rfl,D,t,J,?_⟩;rcases n with rfl | ⟨K,_,y,W⟩
   ·exact hr.next
   ·exact x7S.row K Z y W
  rw[Z]at l;clear H s A hr Y S L F;generalize Jn.vir cl X i=N at *
  cases N with
  | true =>
   rw[Bool.true_or];go_enter func260,ntmps260;go_wp2_with fail;refine(V E).mono ?_;rintro e Q ⟨rfl,u,rfl⟩;have U:=O (V r u);exact s1g
  | false =>
   rw[Bool.false_or];go_enter func260,ntmps260;go_wp2_with fail;refine(V E).mono ?_;rintro e Q ⟨rfl,u,rfl⟩;have I:=O (V C u);go_wp2_with fail;refine(V I).mono ?_;rintro e T D;have P:=D.1;subst P;have U:=O (V f _ T D);exact s1g
 ·have q:(X.getD i 0==8204)=false:=W2z;by_cases D:X.getD i 0=8205
  ·rw[Jn.z9Z D];rw[D]at l;have r:Hid (∀m:Nat,∀N,FitB w0 p (.slice (some ⟨g,R,none⟩) X.length M) j X i N (.returned (.bool N)) (w.drewN m)):=fun m N=>⟨rfl,bthen Y (x0i ⟨m,rfl⟩),row,S.drewN m,hr.next⟩;clear H s A hr Y S L F q;generalize Jn.vir cl X i=N at *;go_enter func260,ntmps260;go_wp2_with fail;refine(V E).mono ?_;rintro e Q ⟨rfl,u,rfl⟩;have U:=O (V r u N);go_wp2;go_ret;exact V U
  ·rw[Jn.z9X Z D];have d:(X.getD i 0==8205)=false:=(by grind);have U:Hid (FitB w0 p (.slice (some ⟨g,R,none⟩) X.length M) j X i true (.returned (.bool true)) w):=⟨rfl,Y,row,S,hr.next⟩;clear H s A hr Y S L F E Z D;generalize w0.heap.size=b,X.getD i 0=c at *;go_enter func260,ntmps260;exact s1g
theorem LnAt.new(w:World) p xv:LnAt (w.alloc (.cells #[.pointer (some ⟨p,0,none⟩),xv,.int .i64 0] 337)) w.heap.size p xv 0:=by
 unfold LnAt;exact R0n
def y7y(w:World)(n:Int)(e:Ending)(w':World):Prop:=e=.returned (.int .i64 n)/\Below w.heap.size w w'
theorem y2w{w p cl j xv}{X}(H:x2n 161 w p cl)(s:x2n 311 w p j)(A:Sk .i32 w xv X):Calls prog 222 #[.pointer (some ⟨p,0,none⟩),xv] w (y7y w (Jn.chk cl j X)):=by
 have B:=A.len;have Y:Bw w (w.alloc (.cells #[.pointer (some ⟨p,0,none⟩),xv,.int .i64 0] 337)):=(b0r).alloc (l0r _) _;have S:=LnAt.new w p xv;have b:Hid (∀(i:Nat),i<X.length->∀(c:Nat),x7S j X c i->∀W,Bw w W->LnAt W w.heap.size p xv c->Calls prog 260 #[.pointer (some ⟨w.heap.size,0,none⟩),.int .i64 i] W (FitB w p xv j X i (Jn.fit cl j X i))):=fun i hi c u W P a=>y3b H s A i hi u W P a;have z:Hid ((∀q,q<X.length->Jn.fit cl j X q=true)->∀W,Bw w W->y7y w (Jn.chk cl j X) (.returned (.int .i64 (-1))) W):=fun h W P=>⟨by rw[Jn.z2N h],P⟩;have l:Hid (∀k,k<X.length->(∀q,q<k->Jn.fit cl j X q=true)->Jn.fit cl j X k=false->∀W,Bw w W->y7y w (Jn.chk cl j X) (.returned (.int .i64 k)) W):=fun k G h R W P=>⟨by rw[Jn.z2O G h R],P⟩;obtain⟨J,M,rfl,_,_⟩:=A.shape;have L:=O Y;have n:=O S;go_enter func222,ntmps222;go_wp2;go_loopw[4,6,12] (fun v _ Z wr=>∃k c:Nat,v=.int .i64 0/\Z=.int .i64 (k:Int)/\k<=X.length/\(∀q,q<k->Jn.fit cl j X q=true)/\x7S j X c k/\LnAt wr w.heap.size p (.slice J X.length M) c/\Bw w wr) (fun _ _ Z _=>X.length-(intOf Z).toNat)
 case atStart=>exact⟨0,0,rfl,rfl,Nat.zero_le _,fun q h=>absurd h f6J,fun k _ h=>absurd h f6J,V n,V L⟩
 case round =>
  obtain⟨k,c,rfl,rfl,G,d,u,S,Y⟩:=hrel;by_cases E:k<X.length
  ·have a:(k:Int)<X.length:=f6J;have K:=O (V b k E c u wr Y S);have o:=O d
   cases hf:Jn.fit cl j X k with
   | true =>
    rw[hf]at K
    have D:Hid (∀q,q<k+1->Jn.fit cl j X q=true):=fun q h=>by
     rcases Nat.lt_or_ge q k with h1 | h1
     ·exact V o q h1
     ·rw[(f6J:q=k)];exact hf
    go_wp2_with fail;refine(V K).mono ?_;rintro e Q ⟨rfl,b1,t,T,I⟩;have x:=O b1;have F:=O T;have N:=O I;go_wp2
    go_roundw
    case rel=>exact⟨k+1,t,rfl,g2B,f6J,V D,V N,V F,V x⟩
    case measure=>exact g7T
   | false =>
    rw[hf]at K;have f:=O (V l k E (V o) hf);go_wp2_with fail;refine(V K).mono ?_;rintro e Q ⟨rfl,b1,_⟩;have U:=O (V f Q b1);exact s1h
  ·have U:=O (V z (fun q h=>d q f6J) wr Y);have a:¬((k:Int)<X.length):=f6J;exact s1h
