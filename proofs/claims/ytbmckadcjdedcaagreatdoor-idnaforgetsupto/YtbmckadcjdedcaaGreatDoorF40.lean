import Derived.Test.YtbmckadcjdedcaaGreatDoorF4
import Derived.Deep.RegionHeld3
set_option maxHeartbeats 4000000
set_option maxRecDepth 8000
namespace Go.Proofs.YtbmckadcjdedcaaGreatDoor
open Go.Proofs.Tryz
section
variable{p:Prop}
theorem s8j(h:p:=by go_enter func297,ntmps297;go_wp2;go_ret;exact⟨rfl,x4g w⟩):p:=h
theorem G1E(h:p:=by have:=B.1 (X.getD n 0) (by simp[List.getD,E]);exact⟨this.1,this.2⟩):p:=h
theorem S5f(h:p:=by rw[beq_eq_false_iff_ne];exact fun h=>o (.inl h)):p:=h
theorem M1m(h:p:=by rw[beq_eq_false_iff_ne];exact fun h=>o (.inr h)):p:=h
theorem i4E(h:p:=by rw[d0f (fun h=>o (.inl h)),d0f (fun h=>o (.inr h))];rfl):p:=h
theorem n2F(h:p:=by rw[beq_eq_false_iff_ne];exact I):p:=h
theorem F7c(h:p:=by
 go_wp2
 try rw[Exit.noGoto_ret]
 go_ret;exact V (T) _):p:=h
end
namespace Jn
def near(j:Int->Int):List Int->Int
 | []=>0
 | c::l=>if j c=5 then near j l else j c
def lok(a:Int):Bool:=decide (a=2)||decide (a=3)
def rok(a:Int):Bool:=decide (a=1)||decide (a=3)
def vrl(cl:Int->Int):List Int->Bool
 | []=>false
 | v::_=>decide (cl v=9)
def fx(cl j:Int->Int)(l:List Int)(c:Int)(r:List Int):Bool:=if c=8204 then vrl cl l||(lok (near j l)&&rok (near j r))else if c=8205 then vrl cl l else true
def lf(j:Int->Int)(X:List Int)(i:Nat):Int:=near j (X.take i).reverse
def rt(j:Int->Int)(X:List Int)(i:Nat):Int:=near j (X.drop i)
def vir(cl:Int->Int)(X:List Int)(i:Nat):Bool:=vrl cl (X.take i).reverse
def btw(j:Int->Int)(X:List Int)(i:Nat):Bool:=lok (lf j X i)&&rok (rt j X (i+1))
def fit(cl j:Int->Int)(X:List Int)(i:Nat):Bool:=fx cl j (X.take i).reverse (X.getD i 0) (X.drop (i+1))
def chk(cl j:Int->Int)(X:List Int):Int:=match(List.range X.length).find? (fun i=>!fit cl j X i)with
 | some i=>i
 | none=>-1
variable {cl j:Int->Int} {X:List Int}
theorem z8j{i}(h:X.getD i 0=8204):fit cl j X i=(vir cl X i||btw j X i):=by
 unfold fit fx;rw[if_pos h];rfl
theorem z8i{i}(h:X.getD i 0=8205):fit cl j X i=vir cl X i:=by
 unfold fit fx;rw[if_neg f6J,if_pos h];rfl
theorem z8g{i}(h:X.getD i 0≠8204)(D:X.getD i 0≠8205):fit cl j X i=true:=by
 unfold fit fx;rw[if_neg h,if_neg D]
theorem x4B{i}(h:i<X.length):X.take (i+1)=X.take i++[X.getD i 0]:=f0h
theorem x4h{i}(h:i<X.length):X.drop i=X.getD i 0::X.drop (i+1):=f0h
theorem z3u:vir cl X 0=false:=rfl
theorem z3t{i}(h:i<X.length):vir cl X (i+1)=decide (cl (X.getD i 0)=9):=by
 unfold vir;rw[x4B h,List.reverse_append];rfl
theorem y9a{i}(h:i<X.length):lf j X (i+1)=if j (X.getD i 0)=5 then lf j X i else j (X.getD i 0):=by
 unfold lf;rw[x4B h,List.reverse_append];rfl
theorem lf_t{i}(h:i<X.length)(Q:j (X.getD i 0)=5):lf j X (i+1)=lf j X i:=by rw[y9a h,if_pos Q]
theorem lf_n{i}(h:i<X.length)(Q:j (X.getD i 0)≠5):lf j X (i+1)=j (X.getD i 0):=by rw[y9a h,if_neg Q]
theorem z9r{i}(h:X.length<=i):rt j X i=0:=by unfold rt;rw[List.drop_eq_nil_of_le h];rfl
theorem z9q{i}(h:i<X.length):rt j X i=if j (X.getD i 0)=5 then rt j X (i+1)else j (X.getD i 0):=by
 unfold rt;rw[x4h h];rfl
theorem rt_t{i}(h:i<X.length)(Q:j (X.getD i 0)=5):rt j X i=rt j X (i+1):=by rw[z9q h,if_pos Q]
theorem rt_n{i}(h:i<X.length)(Q:j (X.getD i 0)≠5):rt j X i=j (X.getD i 0):=by rw[z9q h,if_neg Q]
theorem y8Z{a:Nat}:∀k,a<=k->k<=X.length->(∀m,a<=m->m<k->j (X.getD m 0)=5)->lf j X k=lf j X a
 | 0,h,_,_=>by rw[Nat.le_zero.1 h]
 | k+1,h,hk,ht=>by
  rcases Nat.lt_or_ge a (k+1)with h1|h1
  ·rw[lf_t f6J (ht k f6J f6J)];exact y8Z k f6J f6J fun m h1 D=>ht m h1 f6J
  ·rw[Nat.le_antisymm h h1]
theorem z0h{a:Nat}:∀k,a<=k->k<=X.length->(∀m,a<=m->m<k->j (X.getD m 0)=5)->rt j X a=rt j X k
 | 0,h,_,_=>by rw[Nat.le_zero.1 h]
 | k+1,h,hk,ht=>by
  rcases Nat.lt_or_ge a (k+1)with h1|h1
  ·rw[<- rt_t f6J (ht k f6J f6J)];exact z0h k f6J f6J fun m h1 D=>ht m h1 f6J
  ·rw[Nat.le_antisymm h h1]
theorem z4Q{i k e}(Y:btw j X i=true)(hi:X.getD i 0=8204)(U:i<k)(u:k<e)(d:e<=X.length)(Q:∀m,i<m->m<e->j (X.getD m 0)=5)(G:X.getD k 0=8204):btw j X k=true:=by
 have p:j (X.getD i 0)=5:=(by grind);unfold btw at Y ⊢
 rw[y8Z (a:=i) k f6J f6J (fun m Z D=>by
  rcases Nat.lt_or_ge i m with h|h
  ·exact Q m h f6J
  ·rw[(f6J:m=i)];exact p)]
 rw[<- z0h (a:=i+1) (k+1) f6J f6J (fun m Z D=>Q m f6J f6J)];exact Y
theorem z1B(h:∀i,i<X.length->fit cl j X i=true):chk cl j X=-1:=by
 unfold chk;have:(List.range X.length).find? (fun i=>!fit cl j X i)=none:=(by grind);rw[this]
theorem z1C{k}(G:k<X.length)(h:∀i,i<k->fit cl j X i=true)(E:fit cl j X k=false):chk cl j X=k:=by
 unfold chk;have:(List.range X.length).find? (fun i=>!fit cl j X i)=some k:=f0h;rw[this]
end Jn
open Go.RowKit
def y1I(w:World)(n:Int)(e:Ending)(w':World):Prop:=e=.returned (.int .i64 n)/\∃m,w'=w.drewN m
def x2z(f:Nat)(w0:World)(p:Nat)(cl:Int->Int):Prop:=∀c,Rune c->∀W,Below w0.heap.size w0 W->Calls prog f #[.pointer (some ⟨p,0,none⟩),.int .i32 c] W (y1I W (cl c))
def LnAt(w:World)(b p:Nat)(xv:Value)(row:Nat):Prop:=w.heap[b]?=some (.cells #[.pointer (some ⟨p,0,none⟩),xv,.int .i64 row] 332 (0,0))
theorem LnAt.c0{w b p xv row}(h:LnAt w b p xv row):w.cell? ⟨b,0,none⟩=some (.pointer (some ⟨p,0,none⟩)):=cell_of (j:=0) h T7b
theorem LnAt.c1{w b p xv row}(h:LnAt w b p xv row):w.cell? ⟨b,1,none⟩=some xv:=cell_of (j:=1) h f2O
theorem LnAt.c2{w b p xv row}(h:LnAt w b p xv row):w.cell? ⟨b,2,none⟩=some (.int .i64 row):=cell_of (j:=2) h U4t
theorem LnAt.drewN{w b p xv row}(h:LnAt w b p xv row) m:LnAt (w.drewN m) b p xv row:=by
 unfold LnAt at *;have H:b<w.heap.size:=(by grind);rw[(x0k (w:=w) ⟨m,rfl⟩:Bw w (w.drewN m)).block b H];exact h
namespace Jn
def jat(j:Int->Int)(X:List Int)(k:Int):Int:=if 0<=k/\k<X.length then j (X.getD k.toNat 0)else 0
end Jn
theorem y2y{w0 p j xv}{X row}(L:x2z 309 w0 p j)(J:Sk .i32 w0 xv X) k(G:-10<=k/\k<=1000000000000000000) w(Y:Bw w0 w)(S:LnAt w w0.heap.size p xv row):Calls prog 297 #[.pointer (some ⟨w0.heap.size,0,none⟩),.int .i64 k] w (y1I w (Jn.jat j X k)):=by
 have x:=S.c0;have u:=S.c1;obtain⟨U,f⟩:=G;unfold Jn.jat;have s:=J.len;by_cases A:0<=k
 ·by_cases Z:k<X.length
  ·rw[if_pos ⟨A,Z⟩];have B:=J.below Y;obtain⟨g,P,M,rfl,_,_,t⟩:=B.place f6J;obtain⟨n,rfl⟩:∃n:Nat,k=n:=⟨k.toNat,f6J⟩;have E:n<X.length:=f6J;have F:=t n E
   have N:Rune (X.getD n 0):=G1E
   have W:=fun m:Nat=>O (L (X.getD n 0) N (w.drewN m) (x0b Y (x0k ⟨m,rfl⟩)));rw[Int.toNat_natCast];clear L J Y S B t N;generalize X.getD n 0=c at *;go_enter func297,ntmps297;go_wp2;go_quiet(first| (go_at_call 309;exact Calls.quiet_of (V (W _))));go_wp2;go_ret;exact⟨rfl,nq,rfl⟩
  ·rw[if_neg f6J];obtain⟨R,M,rfl,_,_⟩:=J.shape;have D:(X.length:Int)<=k:=f6J;exact s8j
 ·rw[if_neg f6J];have D:k<0:=f6J;exact s8j
theorem y5F{w0 p cl xv}{X row}(y:x2z 98 w0 p cl)(J:Sk .i32 w0 xv X) i(hi:i<X.length) w(Y:Bw w0 w)(S:LnAt w w0.heap.size p xv row):Calls prog 287 #[.pointer (some ⟨w0.heap.size,0,none⟩),.int .i64 i] w (x1x w (Jn.vir cl X i)):=by
 have x:=S.c0;have u:=S.c1;have s:=J.len
 cases i with
 | zero =>
  rw[Jn.z3u];go_enter func287,ntmps287;go_wp2;go_quiet(fail);go_wp2;go_ret;exact⟨rfl,nq,rfl⟩
 | succ n =>
  have B:=J.below Y;obtain⟨g,P,M,rfl,_,_,t⟩:=B.place f6J;have E:n<X.length:=f6J;have H:=t n E
  have N:Rune (X.getD n 0):=G1E
  rw[Jn.z3t E];have W:=fun m:Nat=>O (y (X.getD n 0) N (w.drewN m) (x0b Y (x0k ⟨m,rfl⟩)));have r:(n:Int)<X.length:=f6J;have F:IntKind.i64.wrap ((n:Int)+1-1)=n:=s7B;have L:(0:Int)<(n:Int)+1:=f6J;rw[Int.natCast_add];clear y J Y S B t N;generalize cl (X.getD n 0)=z at *;generalize X.getD n 0=c at *;obtain⟨C,A⟩:∃C,decide (z=9)=C:=⟨_,rfl⟩;have D:(z==9)=C:=f6J;rw[A];go_enter func287,ntmps287;go_wp2;go_quiet(first| (go_at_call 98;exact Calls.quiet_of (V (W _))));go_wp2;go_ret;exact⟨rfl,nq,rfl⟩
def BtwB(w0:World)(p:Nat)(xv:Value)(j:Int->Int)(X:List Int)(row i:Nat)(e:Ending)(w':World):Prop:=e=.returned (.bool (Jn.btw j X i))/\Below w0.heap.size w0 w'/\∃row',LnAt w' w0.heap.size p xv row'/\(row'=row\/(Jn.btw j X i=true/\i<row'/\row'<=X.length/\∀m,i<m->m<row'->j (X.getD m 0)=5))
theorem LnAt.set{w b p xv row}(h:LnAt w b p xv row)(e:Nat):LnAt (w.setCell ⟨b,2,none⟩ (.int .i64 e)) b p xv e:=by
 unfold LnAt at *;rw[x0f h];rfl
theorem y8M{j X}(e:Nat):Jn.jat j X e=if e<X.length then j (X.getD e 0)else 0:=by
 unfold Jn.jat;rw[Int.toNat_natCast];by_cases h:e<X.length
 ·omega
 ·rw[if_neg h,if_neg f6J]
theorem z2h{j X}(k:Nat)(G:k<=X.length):(Jn.jat j X ((k:Int)-1)=5->0<k/\Jn.lf j X k=Jn.lf j X (k-1))/\(Jn.jat j X ((k:Int)-1)≠5->Jn.lf j X k=Jn.jat j X ((k:Int)-1)):=by
 cases k with
 | zero =>
  have:Jn.jat j X (((0:Nat):Int)-1)=0:=(by unfold Jn.jat;rw[if_neg f6J]);rw[this];exact⟨fun h=>absurd h e8N,fun _=>rfl⟩
 | succ n =>
  have e:(((n+1:Nat):Int)-1)=(n:Int):=f6J;rw[e,y8M,if_pos f6J];exact⟨fun h=>⟨f6J,Jn.lf_t f6J h⟩,fun h=>Jn.lf_n f6J h⟩
theorem z2g{j X}(e:Nat)(d:e<=X.length):(Jn.jat j X e=5->e<X.length/\j (X.getD e 0)=5/\Jn.rt j X e=Jn.rt j X (e+1))/\(Jn.jat j X e≠5->Jn.rt j X e=Jn.jat j X e):=by
 rw[y8M];by_cases h:e<X.length
 ·rw[if_pos h];exact⟨fun p=>⟨h,p,Jn.rt_t h p⟩,fun p=>Jn.rt_n h p⟩
 ·rw[if_neg h];exact⟨fun h=>absurd h e8N,fun _=>Jn.z9r f6J⟩
theorem y5D{w0 p j xv}{X row}(hJ:x2z 309 w0 p j)(hx:Sk .i32 w0 xv X) i(hi:i<X.length)(hr:i<row->Jn.btw j X i=true) w(Y:Bw w0 w)(S:LnAt w w0.heap.size p xv row):Calls prog 288 #[.pointer (some ⟨w0.heap.size,0,none⟩),.int .i64 i] w (BtwB w0 p xv j X row i):=by
 have x2:=S.c2;have s:=hx.len;have HJ:Hid (∀(k:Int),(-10<=k/\k<=1000000000000000000)->∀m:Nat,Calls prog 297 #[.pointer (some ⟨w0.heap.size,0,none⟩),.int .i64 k] (w.drewN m) (y1I (w.drewN m) (Jn.jat j X k))):=fun k hk m=>y2y hJ hx k hk (w.drewN m) (x0b Y (x0k ⟨m,rfl⟩)) (S.drewN m);have HB:=O Y;have HL:=O S;have ai:=O (fun k=>z2h (j:=j) (X:=X) k);have D:=O (fun k=>z2g (j:=j) (X:=X) k);have A:Hid (Jn.btw j X i=(Jn.lok (Jn.lf j X i)&&Jn.rok (Jn.rt j X (i+1)))):=rfl;have P:Hid (∀m:Nat,∀C,C=Jn.btw j X i->BtwB w0 p xv j X row i (.returned (.bool C)) (w.drewN m)):=fun m C e=>⟨by rw[e],x0b Y (x0k ⟨m,rfl⟩),row,S.drewN m,.inl rfl⟩;have t:Hid (∀m e:Nat,Jn.btw j X i=true->i<e->e<=X.length->(∀m,i<m->m<e->j (X.getD m 0)=5)->BtwB w0 p xv j X row i (.returned (.bool true)) ((w.drewN m).setCell ⟨w0.heap.size,2,none⟩ (.int .i64 e))):=fun m e Z h2 h3 h4=>⟨by rw[Z],x0d (x0b Y (x0k ⟨m,rfl⟩)) (l0r _) _,e,(S.drewN m).set e,.inr ⟨Z,h2,h3,h4⟩⟩;have v:Hid (∀m:Nat,(w.drewN m).cell? ⟨w0.heap.size,2,none⟩=some (.int .i64 row)):=fun m=>(S.drewN m).c2;have a:=O hr;go_enter func288,ntmps288;by_cases aq:(i:Int)<row
 ·have T:=O (V P 0 true (V a f6J).symm);go_wp2;go_step3;go_wp2
  try rw[Exit.noGoto_ret]
  go_ret;exact V T
 ·have ar:(row:Int)<=i:=f6J;have aw:IntKind.i64.wrap ((i:Int)-1)=(i:Int)-1:=s7C;have r:decide (i<row)=false:=d0f f6J;go_wp2;go_step3;go_wp2;go_step3;go_wp2;go_loopw[4,5] (fun rv av wr=>∃k:Nat,rv=.bool false/\av=.int .i64 ((k:Int)-1)/\k<=i/\Jn.lf j X i=Jn.lf j X k/\∃m,wr=w.drewN m) (fun _ av _=>(intOf av+1).toNat)
  case atStart=>exact⟨i,rfl,rfl,l0r _,rfl,x4g w⟩
  case round =>
   obtain⟨k,rfl,rfl,hk,y,m,rfl⟩:=hrel;have K:=O (V HJ ((k:Int)-1) ⟨f6J,f6J⟩ m);have E:=O (V ai k f6J);generalize Jn.jat j X ((k:Int)-1)=z at *;have g:=O y;by_cases I:z=5
   ·subst I;obtain⟨L,ab⟩:=(V E).1 rfl;have ag:=O ((V g).trans ab);have ay:IntKind.i64.wrap ((k:Int)-1-1)=(k:Int)-1-1:=s7C;go_wp2_with fail;refine(V K).mono ?_;rintro e w1 ⟨rfl,U,rfl⟩;have hd:∃B,(w.drewN m).drewN U=w.drewN B:=x4M ⟨m,rfl⟩ U;obtain⟨B,l⟩:=hd;rw[l];go_wp2
    go_roundw
    case rel=>exact⟨k-1,rfl,by congr 1;exact f6J,f6J,V ag,⟨B,rfl⟩⟩
    case measure=>exact g7T
   ·have R:=(V g).trans ((V E).2 I);have n5:(z==5)=false:=n2F;by_cases o:z=2\/z=3
    ·have ae:Hid (Jn.lok (Jn.lf j X i)=true):=by
      show Jn.lok (Jn.lf j X i)=true;rw[R];rcases o with rfl|rfl<;>rfl
     rcases o with rfl|rfl
     all_goals
      go_wp2_with fail;refine(V K).mono ?_;rintro e w1 ⟨rfl,U,rfl⟩;have hd:∃B,(w.drewN m).drewN U=w.drewN B:=x4M ⟨m,rfl⟩ U;obtain⟨B,l⟩:=hd;rw[l];have az:IntKind.i64.wrap ((i:Int)+1)=(i:Int)+1:=s7C;go_wp2;go_step3;go_wp2;go_loopw[4,6] (fun rv av wr=>∃k:Nat,rv=.bool false/\av=.int .i64 (k:Int)/\i<k/\k<=X.length/\(∀q,i<q->q<k->j (X.getD q 0)=5)/\Jn.rt j X (i+1)=Jn.rt j X k/\∃m,wr=w.drewN m) (fun _ av _=>(X.length+1-(intOf av).toNat))
      case atStart=>exact⟨i+1,rfl,rfl,f6J,f6J,fun q Z h2=>f6J,rfl,⟨B,rfl⟩⟩
      case round =>
       obtain⟨M,rfl,rfl,f,b,J,aj,G,rfl⟩:=hrel;have K:=O (V HJ (M:Int) ⟨f6J,f6J⟩ G);have N:=O (V D M b);have af:=O J;have n:=O aj;have W:=(V v);generalize Jn.jat j X (M:Int)=z at *;by_cases I:z=5
       ·subst I;obtain⟨L,ab,d⟩:=(V N).1 rfl;have u:=O ((V n).trans d)
        have Q:Hid (∀q,i<q->q<M+1->j (X.getD q 0)=5):=fun q Z h2=>by
         rcases Nat.lt_or_ge q M with h|h
         ·exact V af q Z h
         ·rw[(f6J:q=M)];exact ab
        have aA:IntKind.i64.wrap ((M:Int)+1)=(M:Int)+1:=s7C;go_wp2_with fail;refine(V K).mono ?_;rintro e w1 ⟨rfl,U,rfl⟩;obtain⟨x,c⟩:∃B,(w.drewN G).drewN U=w.drewN B:=x4M ⟨G,rfl⟩ U;rw[c];go_wp2
        go_roundw
        case rel=>exact⟨M+1,rfl,by first| rfl|(congr 1),f6J,f6J,V Q,V u,⟨x,rfl⟩⟩
        case measure=>exact g7T
       ·have F:=(V n).trans ((V N).2 I);have n5:(z==5)=false:=n2F;by_cases o:z=1\/z=3
        ·have H:Hid (Jn.btw j X i=true):=by
          show Jn.btw j X i=true;rw[V A,V ae,F];rcases o with rfl|rfl<;>rfl
         rcases o with rfl|rfl
         all_goals
          go_wp2_with fail;refine(V K).mono ?_;rintro e w1 ⟨rfl,U,rfl⟩;obtain⟨x,c⟩:∃B,(w.drewN G).drewN U=w.drewN B:=x4M ⟨G,rfl⟩ U;rw[c];have x3:=W x;have am:=x0e (j:=2) ((V HL).drewN x);have T:=O (V t x M (V H) f b (V af));go_wp2
          try rw[Exit.noGoto_ret]
          go_ret;exact V T
        ·have T:Hid (∀m:Nat,BtwB w0 p xv j X row i (.returned (.bool false)) (w.drewN m)):=fun m=>V P m false (by
          rw[V A,F];have:Jn.rok z=false:=by unfold Jn.rok;exact i4E
          rw[this,Bool.and_false])
         have n1:(z==1)=false:=S5f;have n3:(z==3)=false:=M1m;go_wp2_with fail;refine(V K).mono ?_;rintro e w1 ⟨rfl,U,rfl⟩;obtain⟨x,c⟩:∃B,(w.drewN G).drewN U=w.drewN B:=x4M ⟨G,rfl⟩ U;rw[c];exact F7c
    ·have T:Hid (∀m:Nat,BtwB w0 p xv j X row i (.returned (.bool false)) (w.drewN m)):=fun m=>V P m false (by
      rw[V A,R];have:Jn.lok z=false:=by unfold Jn.lok;exact i4E
      rw[this];rfl)
     have n2:(z==2)=false:=S5f;have n3:(z==3)=false:=M1m;go_wp2_with fail;refine(V K).mono ?_;rintro e w1 ⟨rfl,U,rfl⟩;have hd:∃B,(w.drewN m).drewN U=w.drewN B:=x4M ⟨m,rfl⟩ U;obtain⟨B,l⟩:=hd;rw[l];exact F7c
def x7u(j:Int->Int)(X:List Int)(row i:Nat):Prop:=∀k,i<=k->k<row->k<X.length->X.getD k 0=8204->Jn.btw j X k=true
theorem x7u.next{j X row i}(h:x7u j X row i):x7u j X row (i+1):=fun k Z=>h k f6J
theorem x7u.row{j X row i}(Y:Jn.btw j X i=true)(hi:X.getD i 0=8204)(d:row<=X.length)(Q:∀m,i<m->m<row->j (X.getD m 0)=5):x7u j X row (i+1):=fun _ Z D _ R=>Jn.z4Q Y hi f6J D d Q R
def FitB(w0:World)(p:Nat)(xv:Value)(j:Int->Int)(X:List Int)(i:Nat)(bb:Bool)(e:Ending)(w':World):Prop:=e=.returned (.bool bb)/\Below w0.heap.size w0 w'/\∃row',LnAt w' w0.heap.size p xv row'/\x7u j X row' (i+1)
theorem y2x{w0 p cl j xv}{X row}(y:x2z 98 w0 p cl)(L:x2z 309 w0 p j)(J:Sk .i32 w0 xv X) i(hi:i<X.length)(hr:x7u j X row i) w(Y:Bw w0 w)(S:LnAt w w0.heap.size p xv row):Calls prog 255 #[.pointer (some ⟨w0.heap.size,0,none⟩),.int .i64 i] w (FitB w0 p xv j X i (Jn.fit cl j X i)):=by
 have u:=S.c1;have N:=J.len;have s:=O (y5F y J i hi w Y S);have B:=J.below Y;obtain⟨g,P,M,rfl,_,_,t⟩:=B.place f6J;have W:=t i hi;have r:(i:Int)<X.length:=f6J;by_cases Z:X.getD i 0=8204
 ·rw[Jn.z8j Z];have v:Hid (∀m:Nat,Calls prog 288 #[.pointer (some ⟨w0.heap.size,0,none⟩),.int .i64 i] (w.drewN m) (BtwB w0 p (.slice (some ⟨g,P,none⟩) X.length M) j X row i)):=fun m=>y5D L J i hi (fun h=>hr i (l0r _) h hi Z) (w.drewN m) (x0b Y (x0k ⟨m,rfl⟩)) (S.drewN m);have K:Hid (∀m:Nat,FitB w0 p (.slice (some ⟨g,P,none⟩) X.length M) j X i true (.returned (.bool true)) (w.drewN m)):=fun m=>⟨rfl,x0b Y (x0k ⟨m,rfl⟩),row,S.drewN m,hr.next⟩
  have f:Hid (∀C l,BtwB w0 p (.slice (some ⟨g,P,none⟩) X.length M) j X row i (.returned (.bool C)) l->FitB w0 p (.slice (some ⟨g,P,none⟩) X.length M) j X i (Jn.btw j X i) (.returned (.bool (Jn.btw j X i))) l):=fun C l h=>by
   obtain⟨_,D,A,R,H⟩:=h;refine⟨rfl,D,A,R,?_⟩;rcases H with rfl|⟨a,_,o,E⟩
   ·exact hr.next
   ·exact x7u.row a Z o E
  rw[Z]at W;clear y L J hr Y S B t;generalize Jn.vir cl X i=G at *
  cases G with
  | true =>
   rw[Bool.true_or];go_enter func255,ntmps255;go_wp2_with fail;refine(V s).mono ?_;rintro e Q ⟨rfl,U,rfl⟩;have T:=O (V K U);exact v8m
  | false =>
   rw[Bool.false_or];go_enter func255,ntmps255;go_wp2_with fail;refine(V s).mono ?_;rintro e Q ⟨rfl,U,rfl⟩;have I:=O (V v U);go_wp2_with fail;refine(V I).mono ?_;rintro e n D;have d:=D.1;subst d;have T:=O (V f _ n D);exact v8m
 ·have k:(X.getD i 0==8204)=false:=W2z;by_cases D:X.getD i 0=8205
  ·rw[Jn.z8i D];rw[D]at W;have K:Hid (∀m:Nat,∀G,FitB w0 p (.slice (some ⟨g,P,none⟩) X.length M) j X i G (.returned (.bool G)) (w.drewN m)):=fun m G=>⟨rfl,x0b Y (x0k ⟨m,rfl⟩),row,S.drewN m,hr.next⟩;clear y L J hr Y S B t k;generalize Jn.vir cl X i=G at *;go_enter func255,ntmps255;go_wp2_with fail;refine(V s).mono ?_;rintro e Q ⟨rfl,U,rfl⟩;have T:=O (V K U G);go_wp2;go_ret;exact V T
  ·rw[Jn.z8g Z D];have z:(X.getD i 0==8205)=false:=(by grind);have T:Hid (FitB w0 p (.slice (some ⟨g,P,none⟩) X.length M) j X i true (.returned (.bool true)) w):=⟨rfl,Y,row,S,hr.next⟩;clear y L J hr Y S B t s Z D;generalize w0.heap.size=b,X.getD i 0=c at *;go_enter func255,ntmps255;exact v8m
theorem LnAt.new(w:World) p xv:LnAt (w.alloc (.cells #[.pointer (some ⟨p,0,none⟩),xv,.int .i64 0] 332)) w.heap.size p xv 0:=by
 unfold LnAt;exact R0n
def y6N(w:World)(n:Int)(e:Ending)(w':World):Prop:=e=.returned (.int .i64 n)/\Below w.heap.size w w'
theorem y1U{w p cl j xv}{X}(y:x2z 98 w p cl)(L:x2z 309 w p j)(J:Sk .i32 w xv X):Calls prog 213 #[.pointer (some ⟨p,0,none⟩),xv] w (y6N w (Jn.chk cl j X)):=by
 have s:=J.len;have Y:Bw w (w.alloc (.cells #[.pointer (some ⟨p,0,none⟩),xv,.int .i64 0] 332)):=(b0r).alloc (l0r _) _;have S:=LnAt.new w p xv;have o:Hid (∀(i:Nat),i<X.length->∀(D:Nat),x7u j X D i->∀W,Bw w W->LnAt W w.heap.size p xv D->Calls prog 255 #[.pointer (some ⟨w.heap.size,0,none⟩),.int .i64 i] W (FitB w p xv j X i (Jn.fit cl j X i))):=fun i hi D u W t r=>y2x y L J i hi u W t r;have d:Hid ((∀q,q<X.length->Jn.fit cl j X q=true)->∀W,Bw w W->y6N w (Jn.chk cl j X) (.returned (.int .i64 (-1))) W):=fun h W t=>⟨by rw[Jn.z1B h],t⟩;have l:Hid (∀k,k<X.length->(∀q,q<k->Jn.fit cl j X q=true)->Jn.fit cl j X k=false->∀W,Bw w W->y6N w (Jn.chk cl j X) (.returned (.int .i64 k)) W):=fun k G h E W t=>⟨by rw[Jn.z1C G h E],t⟩;obtain⟨R,M,rfl,_,_⟩:=J.shape;have U:=O Y;have n:=O S;go_enter func213,ntmps213;go_wp2;go_loopw[4,6,12] (fun C _ Z wr=>∃k D:Nat,C=.int .i64 0/\Z=.int .i64 (k:Int)/\k<=X.length/\(∀q,q<k->Jn.fit cl j X q=true)/\x7u j X D k/\LnAt wr w.heap.size p (.slice R X.length M) D/\Bw w wr) (fun _ _ Z _=>X.length-(intOf Z).toNat)
 case atStart=>exact⟨0,0,rfl,rfl,Nat.zero_le _,fun q h=>absurd h f6J,fun k _ h=>absurd h f6J,V n,V U⟩
 case round =>
  obtain⟨k,D,rfl,rfl,G,m,u,S,Y⟩:=hrel;by_cases H:k<X.length
  ·have r:(k:Int)<X.length:=f6J;have K:=O (V o k H D u wr Y S);have I:=O m
   cases hf:Jn.fit cl j X k with
   | true =>
    rw[hf]at K
    have x:Hid (∀q,q<k+1->Jn.fit cl j X q=true):=fun q h=>by
     rcases Nat.lt_or_ge q k with h1|h1
     ·exact V I q h1
     ·rw[(f6J:q=k)];exact hf
    go_wp2_with fail;refine(V K).mono ?_;rintro e Q ⟨rfl,b1,A,N,P⟩;have B:=O b1;have v:=O N;have a:=O P;go_wp2
    go_roundw
    case rel=>exact⟨k+1,A,rfl,g2A,f6J,V x,V a,V v,V B⟩
    case measure=>exact g7T
   | false =>
    rw[hf]at K;have f:=O (V l k H (V I) hf);go_wp2_with fail;refine(V K).mono ?_;rintro e Q ⟨rfl,b1,_⟩;have T:=O (V f Q b1);exact v8o
  ·have T:=O (V d (fun q h=>m q f6J) wr Y);have r:¬((k:Int)<X.length):=f6J;exact v8o
