/- Lemmas. -/
import Derived.Test.YtbmckadcjdedcaaGreatDoorK4
import Derived.Deep.RegionHeld3
set_option maxHeartbeats 4000000
set_option maxRecDepth 8000
namespace Go.Proofs.YtbmckadcjdedcaaGreatDoor
open Go.Proofs.Tryz
section
variable{p:Prop}
theorem s8j(h:p:=by go_enter func297,ntmps297;go_wp2;go_ret;exact⟨rfl,x4g w⟩):p:=h
theorem g4S(h:p:=by have:=C.1 (X.getD n 0) N3H;exact⟨this.1,this.2⟩):p:=h
theorem i9o(h:p:=by rw[beq_eq_false_iff_ne];exact L):p:=h
theorem S5f(h:p:=by rw[beq_eq_false_iff_ne];exact fun h=>o (.inl h)):p:=h
theorem M1m(h:p:=by rw[beq_eq_false_iff_ne];exact fun h=>o (.inr h)):p:=h
theorem i4E(h:p:=by rw[d0f (fun h=>o (.inl h)),d0f (fun h=>o (.inr h))];rfl):p:=h
theorem u7Q(h:p:=by
 go_wp2
 try rw[Exit.noGoto_ret]
 go_ret;exact V (HF) _):p:=h
end
namespace Jn
def near(j:Int->Int):List Int->Int
 | []=>0
 | c::l=>if j c=5 then near j l else j c
def lok(a:Int):Bool:=decide (a=2)||decide (a=3)
def rok(a:Int):Bool:=decide (a=1)||decide (a=3)
def vrl(cl:Int->Int):List Int->Bool
 | []=>false
 | v::_=>decide (cl v=9)
def fx(cl j:Int->Int)(l:List Int)(c:Int)(r:List Int):Bool:=if c=8204 then vrl cl l||(lok (near j l)&&rok (near j r))else if c=8205 then vrl cl l else true
def lf(j:Int->Int)(X:List Int)(i:Nat):Int:=near j (X.take i).reverse
def rt(j:Int->Int)(X:List Int)(i:Nat):Int:=near j (X.drop i)
def vir(cl:Int->Int)(X:List Int)(i:Nat):Bool:=vrl cl (X.take i).reverse
def btw(j:Int->Int)(X:List Int)(i:Nat):Bool:=lok (lf j X i)&&rok (rt j X (i+1))
def fit(cl j:Int->Int)(X:List Int)(i:Nat):Bool:=fx cl j (X.take i).reverse (X.getD i 0) (X.drop (i+1))
def chk(cl j:Int->Int)(X:List Int):Int:=match(List.range X.length).find? (fun i=>!fit cl j X i)with
 | some i=>i
 | none=>-1
variable {cl j:Int->Int} {X:List Int}
theorem z8i{i}(h:X.getD i 0=8204):fit cl j X i=(vir cl X i||btw j X i):=by
 unfold fit fx;rw[if_pos h];rfl
theorem z8h{i}(h:X.getD i 0=8205):fit cl j X i=vir cl X i:=by
 unfold fit fx;rw[if_neg f6J,if_pos h];rfl
theorem z8f{i}(h:X.getD i 0≠8204)(D:X.getD i 0≠8205):fit cl j X i=true:=by
 unfold fit fx;rw[if_neg h,if_neg D]
theorem x4C{i}(h:i<X.length):X.take (i+1)=X.take i++[X.getD i 0]:=f0h
theorem x4h{i}(h:i<X.length):X.drop i=X.getD i 0::X.drop (i+1):=f0h
theorem z3p:vir cl X 0=false:=rfl
theorem z3o{i}(h:i<X.length):vir cl X (i+1)=decide (cl (X.getD i 0)=9):=by
 unfold vir;rw[x4C h,List.reverse_append];rfl
theorem y8U{i}(h:i<X.length):lf j X (i+1)=if j (X.getD i 0)=5 then lf j X i else j (X.getD i 0):=by
 unfold lf;rw[x4C h,List.reverse_append];rfl
theorem lf_t{i}(h:i<X.length)(K:j (X.getD i 0)=5):lf j X (i+1)=lf j X i:=by rw[y8U h,if_pos K]
theorem lf_n{i}(h:i<X.length)(K:j (X.getD i 0)≠5):lf j X (i+1)=j (X.getD i 0):=by rw[y8U h,if_neg K]
theorem z9r{i}(h:X.length<=i):rt j X i=0:=by unfold rt;rw[List.drop_eq_nil_of_le h];rfl
theorem z9q{i}(h:i<X.length):rt j X i=if j (X.getD i 0)=5 then rt j X (i+1)else j (X.getD i 0):=by
 unfold rt;rw[x4h h];rfl
theorem rt_t{i}(h:i<X.length)(K:j (X.getD i 0)=5):rt j X i=rt j X (i+1):=by rw[z9q h,if_pos K]
theorem rt_n{i}(h:i<X.length)(K:j (X.getD i 0)≠5):rt j X i=j (X.getD i 0):=by rw[z9q h,if_neg K]
theorem y8T{a:Nat}:∀k,a<=k->k<=X.length->(∀m,a<=m->m<k->j (X.getD m 0)=5)->lf j X k=lf j X a
 | 0,h,_,_=>by rw[Nat.le_zero.1 h]
 | k+1,h,hk,ht=>by
  rcases Nat.lt_or_ge a (k+1)with h1 | h1
  ·rw[lf_t f6J (ht k f6J f6J)];exact y8T k f6J f6J fun m h1 D=>ht m h1 f6J
  ·rw[Nat.le_antisymm h h1]
theorem z0a{a:Nat}:∀k,a<=k->k<=X.length->(∀m,a<=m->m<k->j (X.getD m 0)=5)->rt j X a=rt j X k
 | 0,h,_,_=>by rw[Nat.le_zero.1 h]
 | k+1,h,hk,ht=>by
  rcases Nat.lt_or_ge a (k+1)with h1 | h1
  ·rw[<- rt_t f6J (ht k f6J f6J)];exact z0a k f6J f6J fun m h1 D=>ht m h1 f6J
  ·rw[Nat.le_antisymm h h1]
theorem z4L{i k e}(Q:btw j X i=true)(hi:X.getD i 0=8204)(M:i<k)(I:k<e)(d:e<=X.length)(K:∀m,i<m->m<e->j (X.getD m 0)=5)(G:X.getD k 0=8204):btw j X k=true:=by
 have H:j (X.getD i 0)=5:=(by grind);unfold btw at Q ⊢
 rw[y8T (a:=i) k f6J f6J (fun m Z D=>by
  rcases Nat.lt_or_ge i m with h | h
  ·exact K m h f6J
  ·rw[(f6J:m=i)];exact H)]
 rw[<- z0a (a:=i+1) (k+1) f6J f6J (fun m Z D=>K m f6J f6J)];exact Q
theorem z1x(h:∀i,i<X.length->fit cl j X i=true):chk cl j X=-1:=by
 unfold chk;have:(List.range X.length).find? (fun i=>!fit cl j X i)=none:=(by grind);rw[this]
theorem z1y{k}(G:k<X.length)(h:∀i,i<k->fit cl j X i=true)(E:fit cl j X k=false):chk cl j X=k:=by
 unfold chk;have:(List.range X.length).find? (fun i=>!fit cl j X i)=some k:=f0h;rw[this]
end Jn
open Go.RowKit
def y1y(w:World)(n:Int)(e:Ending)(w':World):Prop:=e=.returned (.int .i64 n)/\∃m,w'=w.drewN m
def x2w(f:Nat)(w0:World)(p:Nat)(cl:Int->Int):Prop:=∀c,Rune c->∀W,Below w0.heap.size w0 W->Calls prog f #[.pointer (some ⟨p,0,none⟩),.int .i32 c] W (y1y W (cl c))
def LnAt(w:World)(b p:Nat)(xv:Value)(row:Nat):Prop:=w.heap[b]?=some (.cells #[.pointer (some ⟨p,0,none⟩),xv,.int .i64 row] 332 (0,0))
theorem LnAt.c0{w b p xv row}(h:LnAt w b p xv row):w.cell? ⟨b,0,none⟩=some (.pointer (some ⟨p,0,none⟩)):=cell_of (j:=0) h T7b
theorem LnAt.c1{w b p xv row}(h:LnAt w b p xv row):w.cell? ⟨b,1,none⟩=some xv:=cell_of (j:=1) h f2O
theorem LnAt.c2{w b p xv row}(h:LnAt w b p xv row):w.cell? ⟨b,2,none⟩=some (.int .i64 row):=cell_of (j:=2) h U4t
theorem LnAt.drewN{w b p xv row}(h:LnAt w b p xv row) m:LnAt (w.drewN m) b p xv row:=by
 unfold LnAt at *;have H:b<w.heap.size:=(by grind);rw[(x0k (w:=w) ⟨m,rfl⟩:Bw w (w.drewN m)).block b H];exact h
namespace Jn
def jat(j:Int->Int)(X:List Int)(k:Int):Int:=if 0<=k/\k<X.length then j (X.getD k.toNat 0)else 0
end Jn
theorem y2q{w0 p j xv}{X row}(r:x2w 309 w0 p j)(J:Sk .i32 w0 xv X) k(G:-10<=k/\k<=1000000000000000000) w(Q:Bw w0 w)(S:LnAt w w0.heap.size p xv row):Calls prog 297 #[.pointer (some ⟨w0.heap.size,0,none⟩),.int .i64 k] w (y1y w (Jn.jat j X k)):=by
 have z:=S.c0;have u:=S.c1;obtain⟨F,f⟩:=G;unfold Jn.jat;have s:=J.len;by_cases A:0<=k
 ·by_cases Z:k<X.length
  ·rw[if_pos ⟨A,Z⟩];have C:=J.below Q;obtain⟨g,P,M,rfl,_,_,E⟩:=C.place f6J;obtain⟨n,rfl⟩:∃n:Nat,k=n:=⟨k.toNat,f6J⟩;have H:n<X.length:=f6J;have x:=E n H
   have N:Rune (X.getD n 0):=g4S
   have K:=fun m:Nat=>O (r (X.getD n 0) N (w.drewN m) (x0b Q (x0k ⟨m,rfl⟩)));rw[Int.toNat_natCast];clear r J Q S C E N;generalize X.getD n 0=c at *;go_enter func297,ntmps297;go_wp2;go_quiet(first| (go_at_call 309;exact Calls.quiet_of (V (K _))));go_wp2;go_ret;exact⟨rfl,nq,rfl⟩
  ·rw[if_neg f6J];obtain⟨R,M,rfl,_,_⟩:=J.shape;have D:(X.length:Int)<=k:=f6J;exact s8j
 ·rw[if_neg f6J];have D:k<0:=f6J;exact s8j
theorem y5v{w0 p cl xv}{X row}(o:x2w 98 w0 p cl)(J:Sk .i32 w0 xv X) i(hi:i<X.length) w(Q:Bw w0 w)(S:LnAt w w0.heap.size p xv row):Calls prog 287 #[.pointer (some ⟨w0.heap.size,0,none⟩),.int .i64 i] w (x1x w (Jn.vir cl X i)):=by
 have I:=S.c0;have u:=S.c1;have s:=J.len
 cases i with
 | zero =>
  rw[Jn.z3p];go_enter func287,ntmps287;go_wp2;go_quiet(fail);go_wp2;go_ret;exact⟨rfl,nq,rfl⟩
 | succ n =>
  have C:=J.below Q;obtain⟨g,P,M,rfl,_,_,E⟩:=C.place f6J;have H:n<X.length:=f6J;have x:=E n H
  have N:Rune (X.getD n 0):=g4S
  rw[Jn.z3o H];have K:=fun m:Nat=>O (o (X.getD n 0) N (w.drewN m) (x0b Q (x0k ⟨m,rfl⟩)));have v:(n:Int)<X.length:=f6J;have B:IntKind.i64.wrap ((n:Int)+1-1)=n:=s7B;have L:(0:Int)<(n:Int)+1:=f6J;rw[Int.natCast_add];clear o J Q S C E N;generalize cl (X.getD n 0)=z at *;generalize X.getD n 0=c at *;obtain⟨G,A⟩:∃G,decide (z=9)=G:=⟨_,rfl⟩;have D:(z==9)=G:=f6J;rw[A];go_enter func287,ntmps287;go_wp2;go_quiet(first| (go_at_call 98;exact Calls.quiet_of (V (K _))));go_wp2;go_ret;exact⟨rfl,nq,rfl⟩
def BtwB(w0:World)(p:Nat)(xv:Value)(j:Int->Int)(X:List Int)(row i:Nat)(e:Ending)(w':World):Prop:=e=.returned (.bool (Jn.btw j X i))/\Below w0.heap.size w0 w'/\∃row',LnAt w' w0.heap.size p xv row'/\(row'=row\/(Jn.btw j X i=true/\i<row'/\row'<=X.length/\∀m,i<m->m<row'->j (X.getD m 0)=5))
theorem LnAt.set{w b p xv row}(h:LnAt w b p xv row)(e:Nat):LnAt (w.setCell ⟨b,2,none⟩ (.int .i64 e)) b p xv e:=by
 unfold LnAt at *;rw[x0f h];rfl
theorem y8G{j X}(e:Nat):Jn.jat j X e=if e<X.length then j (X.getD e 0)else 0:=by
 unfold Jn.jat;rw[Int.toNat_natCast];by_cases h:e<X.length
 ·omega
 ·rw[if_neg h,if_neg f6J]
theorem z2e{j X}(k:Nat)(G:k<=X.length):(Jn.jat j X ((k:Int)-1)=5->0<k/\Jn.lf j X k=Jn.lf j X (k-1))/\(Jn.jat j X ((k:Int)-1)≠5->Jn.lf j X k=Jn.jat j X ((k:Int)-1)):=by
 cases k with
 | zero =>
  have:Jn.jat j X (((0:Nat):Int)-1)=0:=(by unfold Jn.jat;rw[if_neg f6J]);rw[this];exact⟨fun h=>absurd h e8N,fun _=>rfl⟩
 | succ n =>
  have e:(((n+1:Nat):Int)-1)=(n:Int):=f6J;rw[e,y8G,if_pos f6J];exact⟨fun h=>⟨f6J,Jn.lf_t f6J h⟩,fun h=>Jn.lf_n f6J h⟩
theorem z2d{j X}(e:Nat)(d:e<=X.length):(Jn.jat j X e=5->e<X.length/\j (X.getD e 0)=5/\Jn.rt j X e=Jn.rt j X (e+1))/\(Jn.jat j X e≠5->Jn.rt j X e=Jn.jat j X e):=by
 rw[y8G];by_cases h:e<X.length
 ·rw[if_pos h];exact⟨fun H=>⟨h,H,Jn.rt_t h H⟩,fun H=>Jn.rt_n h H⟩
 ·rw[if_neg h];exact⟨fun h=>absurd h e8N,fun _=>Jn.z9r f6J⟩
theorem y5t{w0 p j xv}{X row}(r:x2w 309 w0 p j)(hx:Sk .i32 w0 xv X) i(hi:i<X.length)(hr:i<row->Jn.btw j X i=true) w(Q:Bw w0 w)(S:LnAt w w0.heap.size p xv row):Calls prog 288 #[.pointer (some ⟨w0.heap.size,0,none⟩),.int .i64 i] w (BtwB w0 p xv j X row i):=by
 have x2:=S.c2;have s:=hx.len;have l:Hid (∀(k:Int),(-10<=k/\k<=1000000000000000000)->∀m:Nat,Calls prog 297 #[.pointer (some ⟨w0.heap.size,0,none⟩),.int .i64 k] (w.drewN m) (y1y (w.drewN m) (Jn.jat j X k))):=fun k hk m=>y2q r hx k hk (w.drewN m) (x0b Q (x0k ⟨m,rfl⟩)) (S.drewN m);have HB:=O Q;have b:=O S;have ai:=O (fun k=>z2e (j:=j) (X:=X) k);have C:=O (fun k=>z2d (j:=j) (X:=X) k);have A:Hid (Jn.btw j X i=(Jn.lok (Jn.lf j X i)&&Jn.rok (Jn.rt j X (i+1)))):=rfl;have P:Hid (∀m:Nat,∀bb,bb=Jn.btw j X i->BtwB w0 p xv j X row i (.returned (.bool bb)) (w.drewN m)):=fun m bb e=>⟨by rw[e],x0b Q (x0k ⟨m,rfl⟩),row,S.drewN m,.inl rfl⟩;have c:Hid (∀m e:Nat,Jn.btw j X i=true->i<e->e<=X.length->(∀m,i<m->m<e->j (X.getD m 0)=5)->BtwB w0 p xv j X row i (.returned (.bool true)) ((w.drewN m).setCell ⟨w0.heap.size,2,none⟩ (.int .i64 e))):=fun m e Z D R h4=>⟨by rw[Z],x0d (x0b Q (x0k ⟨m,rfl⟩)) (l0r _) _,e,(S.drewN m).set e,.inr ⟨Z,D,R,h4⟩⟩;have G:Hid (∀m:Nat,(w.drewN m).cell? ⟨w0.heap.size,2,none⟩=some (.int .i64 row)):=fun m=>(S.drewN m).c2;have a:=O hr;go_enter func288,ntmps288;by_cases az:(i:Int)<row
 ·have HF:=O (V P 0 true (V a f6J).symm);go_wp2;go_step3;go_wp2
  try rw[Exit.noGoto_ret]
  go_ret;exact V HF
 ·have aA:(row:Int)<=i:=f6J;have aB:IntKind.i64.wrap ((i:Int)-1)=(i:Int)-1:=s7C;have aw:decide (i<row)=false:=d0f f6J;go_wp2;go_step3;go_wp2;go_step3;go_wp2;go_loopw[4,5] (fun x B wr=>∃k:Nat,x=.bool false/\B=.int .i64 ((k:Int)-1)/\k<=i/\Jn.lf j X i=Jn.lf j X k/\∃m,wr=w.drewN m) (fun _ B _=>(intOf B+1).toNat)
  case atStart=>exact⟨i,rfl,rfl,l0r _,rfl,x4g w⟩
  case round =>
   obtain⟨k,rfl,rfl,hk,aq,m,rfl⟩:=hrel;have K:=O (V l ((k:Int)-1) ⟨f6J,f6J⟩ m);have t:=O (V ai k f6J);generalize Jn.jat j X ((k:Int)-1)=z at *;have n:=O aq;by_cases L:z=5
   ·subst L;obtain⟨am,F⟩:=(V t).1 rfl;have d:=O ((V n).trans F);have aC:IntKind.i64.wrap ((k:Int)-1-1)=(k:Int)-1-1:=s7C;go_wp2_with fail;refine(V K).mono ?_;rintro e w1 ⟨rfl,y,rfl⟩;have hd:∃M,(w.drewN m).drewN y=w.drewN M:=x4O ⟨m,rfl⟩ y;obtain⟨M,u⟩:=hd;rw[u];go_wp2
    go_roundw
    case rel=>exact⟨k-1,rfl,by congr 1;exact f6J,f6J,V d,⟨M,rfl⟩⟩
    case measure=>exact g7T
   ·have N:=(V n).trans ((V t).2 L);have n5:(z==5)=false:=i9o;by_cases o:z=2\/z=3
    ·have I:Hid (Jn.lok (Jn.lf j X i)=true):=by
      show Jn.lok (Jn.lf j X i)=true;rw[N];rcases o with rfl | rfl<;>rfl
     rcases o with rfl | rfl
     all_goals
      go_wp2_with fail;refine(V K).mono ?_;rintro e w1 ⟨rfl,y,rfl⟩;have hd:∃M,(w.drewN m).drewN y=w.drewN M:=x4O ⟨m,rfl⟩ y;obtain⟨M,u⟩:=hd;rw[u];have aD:IntKind.i64.wrap ((i:Int)+1)=(i:Int)+1:=s7C;go_wp2;go_step3;go_wp2;go_loopw[4,6] (fun x B wr=>∃k:Nat,x=.bool false/\B=.int .i64 (k:Int)/\i<k/\k<=X.length/\(∀q,i<q->q<k->j (X.getD q 0)=5)/\Jn.rt j X (i+1)=Jn.rt j X k/\∃m,wr=w.drewN m) (fun _ B _=>(X.length+1-(intOf B).toNat))
      case atStart=>exact⟨i+1,rfl,rfl,f6J,f6J,fun q Z D=>f6J,rfl,⟨M,rfl⟩⟩
      case round =>
       obtain⟨E,rfl,rfl,f,U,v,ar,W,rfl⟩:=hrel;have K:=O (V l (E:Int) ⟨f6J,f6J⟩ W);have J:=O (V C E U);have ae:=O v;have ab:=O ar;have T:=(V G);generalize Jn.jat j X (E:Int)=z at *;by_cases L:z=5
       ·subst L;obtain⟨am,F,g⟩:=(V J).1 rfl;have aj:=O ((V ab).trans g)
        have af:Hid (∀q,i<q->q<E+1->j (X.getD q 0)=5):=fun q Z D=>by
         rcases Nat.lt_or_ge q E with h | h
         ·exact V ae q Z h
         ·rw[(f6J:q=E)];exact F
        have aF:IntKind.i64.wrap ((E:Int)+1)=(E:Int)+1:=s7C;go_wp2_with fail;refine(V K).mono ?_;rintro e w1 ⟨rfl,y,rfl⟩;obtain⟨m3,Y⟩:∃M,(w.drewN W).drewN y=w.drewN M:=x4O ⟨W,rfl⟩ y;rw[Y];go_wp2
        go_roundw
        case rel=>exact⟨E+1,rfl,by first| rfl|(congr 1),f6J,f6J,V af,V aj,⟨m3,rfl⟩⟩
        case measure=>exact g7T
       ·have ag:=(V ab).trans ((V J).2 L);have n5:(z==5)=false:=i9o;by_cases o:z=1\/z=3
        ·have H:Hid (Jn.btw j X i=true):=by
          show Jn.btw j X i=true;rw[V A,V I,ag];rcases o with rfl | rfl<;>rfl
         rcases o with rfl | rfl
         all_goals
          go_wp2_with fail;refine(V K).mono ?_;rintro e w1 ⟨rfl,y,rfl⟩;obtain⟨m3,Y⟩:∃M,(w.drewN W).drewN y=w.drewN M:=x4O ⟨W,rfl⟩ y;rw[Y];have x3:=T m3;have ay:=x0e (j:=2) ((V b).drewN m3);have HF:=O (V c m3 E (V H) f U (V ae));go_wp2
          try rw[Exit.noGoto_ret]
          go_ret;exact V HF
        ·have HF:Hid (∀m:Nat,BtwB w0 p xv j X row i (.returned (.bool false)) (w.drewN m)):=fun m=>V P m false (by
          rw[V A,ag];have:Jn.rok z=false:=by unfold Jn.rok;exact i4E
          rw[this,Bool.and_false])
         have n1:(z==1)=false:=S5f;have n3:(z==3)=false:=M1m;go_wp2_with fail;refine(V K).mono ?_;rintro e w1 ⟨rfl,y,rfl⟩;obtain⟨m3,Y⟩:∃M,(w.drewN W).drewN y=w.drewN M:=x4O ⟨W,rfl⟩ y;rw[Y];exact u7Q
    ·have HF:Hid (∀m:Nat,BtwB w0 p xv j X row i (.returned (.bool false)) (w.drewN m)):=fun m=>V P m false (by
      rw[V A,N];have:Jn.lok z=false:=by unfold Jn.lok;exact i4E
      rw[this];rfl)
     have n2:(z==2)=false:=S5f;have n3:(z==3)=false:=M1m;go_wp2_with fail;refine(V K).mono ?_;rintro e w1 ⟨rfl,y,rfl⟩;have hd:∃M,(w.drewN m).drewN y=w.drewN M:=x4O ⟨m,rfl⟩ y;obtain⟨M,u⟩:=hd;rw[u];exact u7Q
def x7s(j:Int->Int)(X:List Int)(row i:Nat):Prop:=∀k,i<=k->k<row->k<X.length->X.getD k 0=8204->Jn.btw j X k=true
theorem x7s.next{j X row i}(h:x7s j X row i):x7s j X row (i+1):=fun k Z=>h k f6J
theorem x7s.row{j X row i}(Q:Jn.btw j X i=true)(hi:X.getD i 0=8204)(d:row<=X.length)(K:∀m,i<m->m<row->j (X.getD m 0)=5):x7s j X row (i+1):=fun _ Z D _ R=>Jn.z4L Q hi f6J D d K R
def FitB(w0:World)(p:Nat)(xv:Value)(j:Int->Int)(X:List Int)(i:Nat)(bb:Bool)(e:Ending)(w':World):Prop:=e=.returned (.bool bb)/\Below w0.heap.size w0 w'/\∃row',LnAt w' w0.heap.size p xv row'/\x7s j X row' (i+1)
theorem y2p{w0 p cl j xv}{X row}(o:x2w 98 w0 p cl)(r:x2w 309 w0 p j)(J:Sk .i32 w0 xv X) i(hi:i<X.length)(hr:x7s j X row i) w(Q:Bw w0 w)(S:LnAt w w0.heap.size p xv row):Calls prog 255 #[.pointer (some ⟨w0.heap.size,0,none⟩),.int .i64 i] w (FitB w0 p xv j X i (Jn.fit cl j X i)):=by
 have u:=S.c1;have s:=J.len;have T:=O (y5v o J i hi w Q S);have C:=J.below Q;obtain⟨g,P,M,rfl,_,_,E⟩:=C.place f6J;have x:=E i hi;have k:(i:Int)<X.length:=f6J;by_cases Z:X.getD i 0=8204
 ·rw[Jn.z8i Z];have v:Hid (∀m:Nat,Calls prog 288 #[.pointer (some ⟨w0.heap.size,0,none⟩),.int .i64 i] (w.drewN m) (BtwB w0 p (.slice (some ⟨g,P,none⟩) X.length M) j X row i)):=fun m=>y5t r J i hi (fun h=>hr i (l0r _) h hi Z) (w.drewN m) (x0b Q (x0k ⟨m,rfl⟩)) (S.drewN m);have U:Hid (∀m:Nat,FitB w0 p (.slice (some ⟨g,P,none⟩) X.length M) j X i true (.returned (.bool true)) (w.drewN m)):=fun m=>⟨rfl,x0b Q (x0k ⟨m,rfl⟩),row,S.drewN m,hr.next⟩
  have f:Hid (∀N l,BtwB w0 p (.slice (some ⟨g,P,none⟩) X.length M) j X row i (.returned (.bool N)) l->FitB w0 p (.slice (some ⟨g,P,none⟩) X.length M) j X i (Jn.btw j X i) (.returned (.bool (Jn.btw j X i))) l):=fun N l h=>by
   obtain⟨_,D,A,R,z⟩:=h;refine⟨rfl,D,A,R,?_⟩;rcases z with rfl | ⟨H,_,F,B⟩
   ·exact hr.next
   ·exact x7s.row H Z F B
  rw[Z]at x;clear o r J hr Q S C E;generalize Jn.vir cl X i=L at *
  cases L with
  | true =>
   rw[Bool.true_or];go_enter func255,ntmps255;go_wp2_with fail;refine(V T).mono ?_;rintro e I ⟨rfl,y,rfl⟩;have Y:=O (V U y);exact R3J
  | false =>
   rw[Bool.false_or];go_enter func255,ntmps255;go_wp2_with fail;refine(V T).mono ?_;rintro e I ⟨rfl,y,rfl⟩;have K:=O (V v y);go_wp2_with fail;refine(V K).mono ?_;rintro e a D;have d:=D.1;subst d;have Y:=O (V f _ a D);exact R3J
 ·have W:(X.getD i 0==8204)=false:=W2z;by_cases D:X.getD i 0=8205
  ·rw[Jn.z8h D];rw[D]at x;have U:Hid (∀m:Nat,∀L,FitB w0 p (.slice (some ⟨g,P,none⟩) X.length M) j X i L (.returned (.bool L)) (w.drewN m)):=fun m L=>⟨rfl,x0b Q (x0k ⟨m,rfl⟩),row,S.drewN m,hr.next⟩;clear o r J hr Q S C E W;generalize Jn.vir cl X i=L at *;go_enter func255,ntmps255;go_wp2_with fail;refine(V T).mono ?_;rintro e I ⟨rfl,y,rfl⟩;have Y:=O (V U y L);go_wp2;go_ret;exact V Y
  ·rw[Jn.z8f Z D];have n:(X.getD i 0==8205)=false:=(by grind);have Y:Hid (FitB w0 p (.slice (some ⟨g,P,none⟩) X.length M) j X i true (.returned (.bool true)) w):=⟨rfl,Q,row,S,hr.next⟩;clear o r J hr Q S C E T Z D;generalize w0.heap.size=b,X.getD i 0=c at *;go_enter func255,ntmps255;exact R3J
theorem LnAt.new(w:World) p xv:LnAt (w.alloc (.cells #[.pointer (some ⟨p,0,none⟩),xv,.int .i64 0] 332)) w.heap.size p xv 0:=by
 unfold LnAt;exact R0n
def y6C(w:World)(n:Int)(e:Ending)(w':World):Prop:=e=.returned (.int .i64 n)/\Below w.heap.size w w'
theorem y1J{w p cl j xv}{X}(o:x2w 98 w p cl)(r:x2w 309 w p j)(J:Sk .i32 w xv X):Calls prog 213 #[.pointer (some ⟨p,0,none⟩),xv] w (y6C w (Jn.chk cl j X)):=by
 have s:=J.len;have Q:Bw w (w.alloc (.cells #[.pointer (some ⟨p,0,none⟩),xv,.int .i64 0] 332)):=(b0r).alloc (l0r _) _;have S:=LnAt.new w p xv;have T:Hid (∀(i:Nat),i<X.length->∀(D:Nat),x7s j X D i->∀W,Bw w W->LnAt W w.heap.size p xv D->Calls prog 255 #[.pointer (some ⟨w.heap.size,0,none⟩),.int .i64 i] W (FitB w p xv j X i (Jn.fit cl j X i))):=fun i hi D u W U v=>y2p o r J i hi u W U v;have C:Hid ((∀q,q<X.length->Jn.fit cl j X q=true)->∀W,Bw w W->y6C w (Jn.chk cl j X) (.returned (.int .i64 (-1))) W):=fun h W U=>⟨by rw[Jn.z1x h],U⟩;have l:Hid (∀k,k<X.length->(∀q,q<k->Jn.fit cl j X q=true)->Jn.fit cl j X k=false->∀W,Bw w W->y6C w (Jn.chk cl j X) (.returned (.int .i64 k)) W):=fun k G h E W U=>⟨by rw[Jn.z1y G h E],U⟩;obtain⟨R,M,rfl,_,_⟩:=J.shape;have L:=O Q;have F:=O S;go_enter func213,ntmps213;go_wp2;go_loopw[4,6,12] (fun x _ N wr=>∃k D:Nat,x=.int .i64 0/\N=.int .i64 (k:Int)/\k<=X.length/\(∀q,q<k->Jn.fit cl j X q=true)/\x7s j X D k/\LnAt wr w.heap.size p (.slice R X.length M) D/\Bw w wr) (fun _ _ N _=>X.length-(intOf N).toNat)
 case atStart=>exact⟨0,0,rfl,rfl,Nat.zero_le _,fun q h=>absurd h f6J,fun k _ h=>absurd h f6J,V F,V L⟩
 case round =>
  obtain⟨k,D,rfl,rfl,G,m,u,S,Q⟩:=hrel;by_cases H:k<X.length
  ·have v:(k:Int)<X.length:=f6J;have K:=O (V T k H D u wr Q S);have P:=O m
   cases hf:Jn.fit cl j X k with
   | true =>
    rw[hf]at K
    have y:Hid (∀q,q<k+1->Jn.fit cl j X q=true):=fun q h=>by
     rcases Nat.lt_or_ge q k with h1 | h1
     ·exact V P q h1
     ·rw[(f6J:q=k)];exact hf
    go_wp2_with fail;refine(V K).mono ?_;rintro e I ⟨rfl,b1,A,Z,c⟩;have t:=O b1;have b:=O Z;have a:=O c;go_wp2
    go_roundw
    case rel=>exact⟨k+1,A,rfl,g2A,f6J,V y,V a,V b,V t⟩
    case measure=>exact g7T
   | false =>
    rw[hf]at K;have f:=O (V l k H (V P) hf);go_wp2_with fail;refine(V K).mono ?_;rintro e I ⟨rfl,b1,_⟩;have Y:=O (V f I b1);exact R3L
  ·have Y:=O (V C (fun q h=>m q f6J) wr Q);have v:¬((k:Int)<X.length):=f6J;exact R3L
