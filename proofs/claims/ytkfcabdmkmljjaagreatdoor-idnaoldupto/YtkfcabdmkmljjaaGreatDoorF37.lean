/- Lemmas. -/
import Derived.Test.YtkfcabdmkmljjaaGreatDoorF4
import Derived.Deep.RegionHeld3
set_option maxHeartbeats 4000000
set_option maxRecDepth 8000
namespace Go.Proofs.YtkfcabdmkmljjaaGreatDoor
open Go.Proofs.Tryz
section
variable{p:Prop}
theorem U5o(h:p:=by go_enter func300,ntmps300;go_wp2;go_ret;exact⟨rfl,x6z w⟩):p:=h
theorem s5k(h:p:=by have:=K.1 (X.getD n 0) (by simp[List.getD,F]);exact⟨this.1,this.2⟩):p:=h
theorem f8a(h:p:=by rw[beq_eq_false_iff_ne];exact fun h=>u (.inl h)):p:=h
theorem R1X(h:p:=by rw[beq_eq_false_iff_ne];exact fun h=>u (.inr h)):p:=h
theorem f9C(h:p:=by rw[d0f (fun h=>u (.inl h)),d0f (fun h=>u (.inr h))];rfl):p:=h
theorem v5D(h:p:=by rw[beq_eq_false_iff_ne];exact P):p:=h
theorem F7c(h:p:=by
 go_wp2
 try rw[Exit.noGoto_ret]
 go_ret;exact V (T) _):p:=h
end
namespace Jn
def near(j:Int->Int):List Int->Int
 | []=>0
 | c::l=>if j c=5 then near j l else j c
def lok(a:Int):Bool:=decide (a=2)||decide (a=3)
def rok(a:Int):Bool:=decide (a=1)||decide (a=3)
def vrl(cl:Int->Int):List Int->Bool
 | []=>false
 | v::_=>decide (cl v=9)
def fx(cl j:Int->Int)(l:List Int)(c:Int)(r:List Int):Bool:=if c=8204 then vrl cl l||(lok (near j l)&&rok (near j r))else if c=8205 then vrl cl l else true
def lf(j:Int->Int)(X:List Int)(i:Nat):Int:=near j (X.take i).reverse
def rt(j:Int->Int)(X:List Int)(i:Nat):Int:=near j (X.drop i)
def vir(cl:Int->Int)(X:List Int)(i:Nat):Bool:=vrl cl (X.take i).reverse
def btw(j:Int->Int)(X:List Int)(i:Nat):Bool:=lok (lf j X i)&&rok (rt j X (i+1))
def fit(cl j:Int->Int)(X:List Int)(i:Nat):Bool:=fx cl j (X.take i).reverse (X.getD i 0) (X.drop (i+1))
def chk(cl j:Int->Int)(X:List Int):Int:=match(List.range X.length).find? (fun i=>!fit cl j X i)with
 | some i=>i
 | none=>-1
variable {cl j:Int->Int} {X:List Int}
theorem z9K{i}(h:X.getD i 0=8204):fit cl j X i=(vir cl X i||btw j X i):=by
 unfold fit fx;rw[if_pos h];rfl
theorem z9J{i}(h:X.getD i 0=8205):fit cl j X i=vir cl X i:=by
 unfold fit fx;rw[if_neg f6J,if_pos h];rfl
theorem z9H{i}(h:X.getD i 0≠8204)(D:X.getD i 0≠8205):fit cl j X i=true:=by
 unfold fit fx;rw[if_neg h,if_neg D]
theorem x4x{i}(h:i<X.length):X.take (i+1)=X.take i++[X.getD i 0]:=f0h
theorem x4c{i}(h:i<X.length):X.drop i=X.getD i 0::X.drop (i+1):=f0h
theorem z4F:vir cl X 0=false:=rfl
theorem z4E{i}(h:i<X.length):vir cl X (i+1)=decide (cl (X.getD i 0)=9):=by
 unfold vir;rw[x4x h,List.reverse_append];rfl
theorem y9I{i}(h:i<X.length):lf j X (i+1)=if j (X.getD i 0)=5 then lf j X i else j (X.getD i 0):=by
 unfold lf;rw[x4x h,List.reverse_append];rfl
theorem lf_t{i}(h:i<X.length)(K:j (X.getD i 0)=5):lf j X (i+1)=lf j X i:=by rw[y9I h,if_pos K]
theorem lf_n{i}(h:i<X.length)(K:j (X.getD i 0)≠5):lf j X (i+1)=j (X.getD i 0):=by rw[y9I h,if_neg K]
theorem q0N{i}(h:X.length<=i):rt j X i=0:=by unfold rt;rw[List.drop_eq_nil_of_le h];rfl
theorem q0M{i}(h:i<X.length):rt j X i=if j (X.getD i 0)=5 then rt j X (i+1)else j (X.getD i 0):=by
 unfold rt;rw[x4c h];rfl
theorem rt_t{i}(h:i<X.length)(K:j (X.getD i 0)=5):rt j X i=rt j X (i+1):=by rw[q0M h,if_pos K]
theorem rt_n{i}(h:i<X.length)(K:j (X.getD i 0)≠5):rt j X i=j (X.getD i 0):=by rw[q0M h,if_neg K]
theorem y9H{a:Nat}:∀k,a<=k->k<=X.length->(∀m,a<=m->m<k->j (X.getD m 0)=5)->lf j X k=lf j X a
 | 0,h,_,_=>by rw[Nat.le_zero.1 h]
 | k+1,h,hk,ht=>by
  rcases Nat.lt_or_ge a (k+1)with h1 | h1
  ·rw[lf_t f6J (ht k f6J f6J)];exact y9H k f6J f6J fun m h1 D=>ht m h1 f6J
  ·rw[Nat.le_antisymm h h1]
theorem z0T{a:Nat}:∀k,a<=k->k<=X.length->(∀m,a<=m->m<k->j (X.getD m 0)=5)->rt j X a=rt j X k
 | 0,h,_,_=>by rw[Nat.le_zero.1 h]
 | k+1,h,hk,ht=>by
  rcases Nat.lt_or_ge a (k+1)with h1 | h1
  ·rw[<- rt_t f6J (ht k f6J f6J)];exact z0T k f6J f6J fun m h1 D=>ht m h1 f6J
  ·rw[Nat.le_antisymm h h1]
theorem z6a{i k e}(Y:btw j X i=true)(hi:X.getD i 0=8204)(J:i<k)(C:k<e)(s:e<=X.length)(K:∀m,i<m->m<e->j (X.getD m 0)=5)(G:X.getD k 0=8204):btw j X k=true:=by
 have E:j (X.getD i 0)=5:=(by grind);unfold btw at Y ⊢
 rw[y9H (a:=i) k f6J f6J (fun m Z D=>by
  rcases Nat.lt_or_ge i m with h | h
  ·exact K m h f6J
  ·rw[(f6J:m=i)];exact E)]
 rw[<- z0T (a:=i+1) (k+1) f6J f6J (fun m Z D=>K m f6J f6J)];exact Y
theorem z2y(h:∀i,i<X.length->fit cl j X i=true):chk cl j X=-1:=by
 unfold chk;have:(List.range X.length).find? (fun i=>!fit cl j X i)=none:=(by grind);rw[this]
theorem z2z{k}(G:k<X.length)(h:∀i,i<k->fit cl j X i=true)(F:fit cl j X k=false):chk cl j X=k:=by
 unfold chk;have:(List.range X.length).find? (fun i=>!fit cl j X i)=some k:=f0h;rw[this]
end Jn
open Go.RowKit
def y1X(w:World)(n:Int)(e:Ending)(w':World):Prop:=e=.returned (.int .i64 n)/\∃m,w'=w.drewN m
def x2m(f:Nat)(w0:World)(p:Nat)(cl:Int->Int):Prop:=∀c,Rune c->∀W,Below w0.heap.size w0 W->Calls prog f #[.pointer (some ⟨p,0,none⟩),.int .i32 c] W (y1X W (cl c))
def LnAt(w:World)(b p:Nat)(xv:Value)(row:Nat):Prop:=w.heap[b]?=some (.cells #[.pointer (some ⟨p,0,none⟩),xv,.int .i64 row] 337 (0,0))
theorem LnAt.c0{w b p xv row}(h:LnAt w b p xv row):w.cell? ⟨b,0,none⟩=some (.pointer (some ⟨p,0,none⟩)):=cell_of (j:=0) h T7b
theorem LnAt.c1{w b p xv row}(h:LnAt w b p xv row):w.cell? ⟨b,1,none⟩=some xv:=cell_of (j:=1) h f2O
theorem LnAt.c2{w b p xv row}(h:LnAt w b p xv row):w.cell? ⟨b,2,none⟩=some (.int .i64 row):=cell_of (j:=2) h U4t
theorem LnAt.drewN{w b p xv row}(h:LnAt w b p xv row) m:LnAt (w.drewN m) b p xv row:=by
 unfold LnAt at *;have E:b<w.heap.size:=(by grind);rw[(x0i (w:=w) ⟨m,rfl⟩:Bw w (w.drewN m)).block b E];exact h
namespace Jn
def jat(j:Int->Int)(X:List Int)(k:Int):Int:=if 0<=k/\k<X.length then j (X.getD k.toNat 0)else 0
end Jn
theorem y2P{w0 p j xv}{X row}(t:x2m 311 w0 p j)(A:Sk .i32 w0 xv X) k(G:-10<=k/\k<=1000000000000000000) w(Y:Bw w0 w)(S:LnAt w w0.heap.size p xv row):Calls prog 300 #[.pointer (some ⟨w0.heap.size,0,none⟩),.int .i64 k] w (y1X w (Jn.jat j X k)):=by
 have I:=S.c0;have d:=S.c1;obtain⟨E,x⟩:=G;unfold Jn.jat;have B:=A.len;by_cases U:0<=k
 ·by_cases Z:k<X.length
  ·rw[if_pos ⟨U,Z⟩];have K:=A.below Y;obtain⟨g,P,M,rfl,_,_,L⟩:=K.place f6J;obtain⟨n,rfl⟩:∃n:Nat,k=n:=⟨k.toNat,f6J⟩;have F:n<X.length:=f6J;have N:=L n F
   have H:Rune (X.getD n 0):=s5k
   have o:=fun m:Nat=>O (t (X.getD n 0) H (w.drewN m) (bthen Y (x0i ⟨m,rfl⟩)));rw[Int.toNat_natCast];clear t A Y S K L H;generalize X.getD n 0=c at *;go_enter func300,ntmps300;go_wp2;go_quiet(first| (go_at_call 311;exact Calls.quiet_of (V (o _))));go_wp2;go_ret;exact⟨rfl,nq,rfl⟩
  ·rw[if_neg f6J];obtain⟨J,M,rfl,_,_⟩:=A.shape;have D:(X.length:Int)<=k:=f6J;exact U5o
 ·rw[if_neg f6J];have D:k<0:=f6J;exact U5o
theorem y5Y{w0 p cl xv}{X row}(l:x2m 161 w0 p cl)(A:Sk .i32 w0 xv X) i(hi:i<X.length) w(Y:Bw w0 w)(S:LnAt w w0.heap.size p xv row):Calls prog 290 #[.pointer (some ⟨w0.heap.size,0,none⟩),.int .i64 i] w (x3S w (Jn.vir cl X i)):=by
 have J:=S.c0;have d:=S.c1;have B:=A.len
 cases i with
 | zero =>
  rw[Jn.z4F];go_enter func290,ntmps290;go_wp2;go_quiet(fail);go_wp2;go_ret;exact⟨rfl,nq,rfl⟩
 | succ n =>
  have K:=A.below Y;obtain⟨g,P,M,rfl,_,_,L⟩:=K.place f6J;have F:n<X.length:=f6J;have N:=L n F
  have H:Rune (X.getD n 0):=s5k
  rw[Jn.z4E F];have o:=fun m:Nat=>O (l (X.getD n 0) H (w.drewN m) (bthen Y (x0i ⟨m,rfl⟩)));have r:(n:Int)<X.length:=f6J;have E:IntKind.i64.wrap ((n:Int)+1-1)=n:=s7B;have s:(0:Int)<(n:Int)+1:=f6J;rw[Int.natCast_add];clear l A Y S K L H;generalize cl (X.getD n 0)=z at *;generalize X.getD n 0=c at *;obtain⟨C,D⟩:∃C,decide (z=9)=C:=⟨_,rfl⟩;have G:(z==9)=C:=f6J;rw[D];go_enter func290,ntmps290;go_wp2;go_quiet(first| (go_at_call 161;exact Calls.quiet_of (V (o _))));go_wp2;go_ret;exact⟨rfl,nq,rfl⟩
def BtwB(w0:World)(p:Nat)(xv:Value)(j:Int->Int)(X:List Int)(row i:Nat)(e:Ending)(w':World):Prop:=e=.returned (.bool (Jn.btw j X i))/\Below w0.heap.size w0 w'/\∃row',LnAt w' w0.heap.size p xv row'/\(row'=row\/(Jn.btw j X i=true/\i<row'/\row'<=X.length/\∀m,i<m->m<row'->j (X.getD m 0)=5))
theorem LnAt.set{w b p xv row}(h:LnAt w b p xv row)(e:Nat):LnAt (w.setCell ⟨b,2,none⟩ (.int .i64 e)) b p xv e:=by
 unfold LnAt at *;rw[x0c h];rfl
theorem y9u{j X}(e:Nat):Jn.jat j X e=if e<X.length then j (X.getD e 0)else 0:=by
 unfold Jn.jat;rw[Int.toNat_natCast];by_cases h:e<X.length
 ·omega
 ·rw[if_neg h,if_neg f6J]
theorem z3k{j X}(k:Nat)(G:k<=X.length):(Jn.jat j X ((k:Int)-1)=5->0<k/\Jn.lf j X k=Jn.lf j X (k-1))/\(Jn.jat j X ((k:Int)-1)≠5->Jn.lf j X k=Jn.jat j X ((k:Int)-1)):=by
 cases k with
 | zero =>
  have:Jn.jat j X (((0:Nat):Int)-1)=0:=(by unfold Jn.jat;rw[if_neg f6J]);rw[this];exact⟨fun h=>absurd h e8N,fun _=>rfl⟩
 | succ n =>
  have e:(((n+1:Nat):Int)-1)=(n:Int):=f6J;rw[e,y9u,if_pos f6J];exact⟨fun h=>⟨f6J,Jn.lf_t f6J h⟩,fun h=>Jn.lf_n f6J h⟩
theorem z3j{j X}(e:Nat)(s:e<=X.length):(Jn.jat j X e=5->e<X.length/\j (X.getD e 0)=5/\Jn.rt j X e=Jn.rt j X (e+1))/\(Jn.jat j X e≠5->Jn.rt j X e=Jn.jat j X e):=by
 rw[y9u];by_cases h:e<X.length
 ·rw[if_pos h];exact⟨fun E=>⟨h,E,Jn.rt_t h E⟩,fun E=>Jn.rt_n h E⟩
 ·rw[if_neg h];exact⟨fun h=>absurd h e8N,fun _=>Jn.q0N f6J⟩
theorem y5V{w0 p j xv}{X row}(t:x2m 311 w0 p j)(hx:Sk .i32 w0 xv X) i(hi:i<X.length)(hr:i<row->Jn.btw j X i=true) w(Y:Bw w0 w)(S:LnAt w w0.heap.size p xv row):Calls prog 291 #[.pointer (some ⟨w0.heap.size,0,none⟩),.int .i64 i] w (BtwB w0 p xv j X row i):=by
 have x2:=S.c2;have aA:=hx.len;have HJ:Hid (∀(k:Int),(-10<=k/\k<=1000000000000000000)->∀m:Nat,Calls prog 300 #[.pointer (some ⟨w0.heap.size,0,none⟩),.int .i64 k] (w.drewN m) (y1X (w.drewN m) (Jn.jat j X k))):=fun k hk m=>y2P t hx k hk (w.drewN m) (bthen Y (x0i ⟨m,rfl⟩)) (S.drewN m);have HB:=O Y;have v:=O S;have aq:=O (fun k=>z3k (j:=j) (X:=X) k);have C:=O (fun k=>z3j (j:=j) (X:=X) k);have I:Hid (Jn.btw j X i=(Jn.lok (Jn.lf j X i)&&Jn.rok (Jn.rt j X (i+1)))):=rfl;have W:Hid (∀m:Nat,∀bb,bb=Jn.btw j X i->BtwB w0 p xv j X row i (.returned (.bool bb)) (w.drewN m)):=fun m bb e=>⟨by rw[e],bthen Y (x0i ⟨m,rfl⟩),row,S.drewN m,.inl rfl⟩;have D:Hid (∀m e:Nat,Jn.btw j X i=true->i<e->e<=X.length->(∀m,i<m->m<e->j (X.getD m 0)=5)->BtwB w0 p xv j X row i (.returned (.bool true)) ((w.drewN m).setCell ⟨w0.heap.size,2,none⟩ (.int .i64 e))):=fun m e Z h2 h3 h4=>⟨by rw[Z],x0b (bthen Y (x0i ⟨m,rfl⟩)) (l0r _) _,e,(S.drewN m).set e,.inr ⟨Z,h2,h3,h4⟩⟩;have n:Hid (∀m:Nat,(w.drewN m).cell? ⟨w0.heap.size,2,none⟩=some (.int .i64 row)):=fun m=>(S.drewN m).c2;have a:=O hr;go_enter func291,ntmps291;by_cases aC:(i:Int)<row
 ·have T:=O (V W 0 true (V a f6J).symm);go_wp2;go_step3;go_wp2
  try rw[Exit.noGoto_ret]
  go_ret;exact V T
 ·have aD:(row:Int)<=i:=f6J;have aF:IntKind.i64.wrap ((i:Int)-1)=(i:Int)-1:=s7D;have aB:decide (i<row)=false:=d0f f6J;go_wp2;go_step3;go_wp2;go_step3;go_wp2;go_loopw[4,5] (fun g A wr=>∃k:Nat,g=.bool false/\A=.int .i64 ((k:Int)-1)/\k<=i/\Jn.lf j X i=Jn.lf j X k/\∃m,wr=w.drewN m) (fun _ A _=>(intOf A+1).toNat)
  case atStart=>exact⟨i,rfl,rfl,l0r _,rfl,x6z w⟩
  case round =>
   obtain⟨k,rfl,rfl,hk,B,m,rfl⟩:=hrel;have K:=O (V HJ ((k:Int)-1) ⟨f6J,f6J⟩ m);have d:=O (V aq k f6J);generalize Jn.jat j X ((k:Int)-1)=z at *;have o:=O B;by_cases P:z=5
   ·subst P;obtain⟨r,H⟩:=(V d).1 rfl;have am:=O ((V o).trans H);have s:IntKind.i64.wrap ((k:Int)-1-1)=(k:Int)-1-1:=s7D;go_wp2_with fail;refine(V K).mono ?_;rintro e w1 ⟨rfl,l,rfl⟩;have hd:∃U,(w.drewN m).drewN l=w.drewN U:=x6A ⟨m,rfl⟩ l;obtain⟨U,c⟩:=hd;rw[c];go_wp2
    go_roundw
    case rel=>exact⟨k-1,rfl,by congr 1;exact f6J,f6J,V am,⟨U,rfl⟩⟩
    case measure=>exact g7T
   ·have aj:=(V o).trans ((V d).2 P);have n5:(z==5)=false:=v5D;by_cases u:z=2\/z=3
    ·have ab:Hid (Jn.lok (Jn.lf j X i)=true):=by
      show Jn.lok (Jn.lf j X i)=true;rw[aj];rcases u with rfl | rfl<;>rfl
     rcases u with rfl | rfl
     all_goals
      go_wp2_with fail;refine(V K).mono ?_;rintro e w1 ⟨rfl,l,rfl⟩;have hd:∃U,(w.drewN m).drewN l=w.drewN U:=x6A ⟨m,rfl⟩ l;obtain⟨U,c⟩:=hd;rw[c];have aG:IntKind.i64.wrap ((i:Int)+1)=(i:Int)+1:=s7D;go_wp2;go_step3;go_wp2;go_loopw[4,6] (fun g A wr=>∃k:Nat,g=.bool false/\A=.int .i64 (k:Int)/\i<k/\k<=X.length/\(∀q,i<q->q<k->j (X.getD q 0)=5)/\Jn.rt j X (i+1)=Jn.rt j X k/\∃m,wr=w.drewN m) (fun _ A _=>(X.length+1-(intOf A).toNat))
      case atStart=>exact⟨i+1,rfl,rfl,f6J,f6J,fun q Z h2=>f6J,rfl,⟨U,rfl⟩⟩
      case round =>
       obtain⟨Q,rfl,rfl,x,R,aw,F,L,rfl⟩:=hrel;have K:=O (V HJ (Q:Int) ⟨f6J,f6J⟩ L);have M:=O (V C Q R);have N:=O aw;have f:=O F;have ay:=(V n);generalize Jn.jat j X (Q:Int)=z at *;by_cases P:z=5
       ·subst P;obtain⟨r,H,b⟩:=(V M).1 rfl;have ar:=O ((V f).trans b)
        have ae:Hid (∀q,i<q->q<Q+1->j (X.getD q 0)=5):=fun q Z h2=>by
         rcases Nat.lt_or_ge q Q with h | h
         ·exact V N q Z h
         ·rw[(f6J:q=Q)];exact H
        have aH:IntKind.i64.wrap ((Q:Int)+1)=(Q:Int)+1:=s7D;go_wp2_with fail;refine(V K).mono ?_;rintro e w1 ⟨rfl,l,rfl⟩;obtain⟨m3,J⟩:∃U,(w.drewN L).drewN l=w.drewN U:=x6A ⟨L,rfl⟩ l;rw[J];go_wp2
        go_roundw
        case rel=>exact⟨Q+1,rfl,by first| rfl|(congr 1),f6J,f6J,V ae,V ar,⟨m3,rfl⟩⟩
        case measure=>exact g7T
       ·have y:=(V f).trans ((V M).2 P);have n5:(z==5)=false:=v5D;by_cases u:z=1\/z=3
        ·have G:Hid (Jn.btw j X i=true):=by
          show Jn.btw j X i=true;rw[V I,V ab,y];rcases u with rfl | rfl<;>rfl
         rcases u with rfl | rfl
         all_goals
          go_wp2_with fail;refine(V K).mono ?_;rintro e w1 ⟨rfl,l,rfl⟩;obtain⟨m3,J⟩:∃U,(w.drewN L).drewN l=w.drewN U:=x6A ⟨L,rfl⟩ l;rw[J];have x3:=ay m3;have E:=x0d (j:=2) ((V v).drewN m3);have T:=O (V D m3 Q (V G) x R (V N));go_wp2
          try rw[Exit.noGoto_ret]
          go_ret;exact V T
        ·have T:Hid (∀m:Nat,BtwB w0 p xv j X row i (.returned (.bool false)) (w.drewN m)):=fun m=>V W m false (by
          rw[V I,y];have:Jn.rok z=false:=by unfold Jn.rok;exact f9C
          rw[this,Bool.and_false])
         have n1:(z==1)=false:=f8a;have n3:(z==3)=false:=R1X;go_wp2_with fail;refine(V K).mono ?_;rintro e w1 ⟨rfl,l,rfl⟩;obtain⟨m3,J⟩:∃U,(w.drewN L).drewN l=w.drewN U:=x6A ⟨L,rfl⟩ l;rw[J];exact F7c
    ·have T:Hid (∀m:Nat,BtwB w0 p xv j X row i (.returned (.bool false)) (w.drewN m)):=fun m=>V W m false (by
      rw[V I,aj];have:Jn.lok z=false:=by unfold Jn.lok;exact f9C
      rw[this];rfl)
     have n2:(z==2)=false:=f8a;have n3:(z==3)=false:=R1X;go_wp2_with fail;refine(V K).mono ?_;rintro e w1 ⟨rfl,l,rfl⟩;have hd:∃U,(w.drewN m).drewN l=w.drewN U:=x6A ⟨m,rfl⟩ l;obtain⟨U,c⟩:=hd;rw[c];exact F7c
def x7I(j:Int->Int)(X:List Int)(row i:Nat):Prop:=∀k,i<=k->k<row->k<X.length->X.getD k 0=8204->Jn.btw j X k=true
theorem x7I.next{j X row i}(h:x7I j X row i):x7I j X row (i+1):=fun k Z=>h k f6J
theorem x7I.row{j X row i}(Y:Jn.btw j X i=true)(hi:X.getD i 0=8204)(s:row<=X.length)(K:∀m,i<m->m<row->j (X.getD m 0)=5):x7I j X row (i+1):=fun _ Z D _ J=>Jn.z6a Y hi f6J D s K J
def FitB(w0:World)(p:Nat)(xv:Value)(j:Int->Int)(X:List Int)(i:Nat)(bb:Bool)(e:Ending)(w':World):Prop:=e=.returned (.bool bb)/\Below w0.heap.size w0 w'/\∃row',LnAt w' w0.heap.size p xv row'/\x7I j X row' (i+1)
theorem y2O{w0 p cl j xv}{X row}(U:x2m 161 w0 p cl)(t:x2m 311 w0 p j)(A:Sk .i32 w0 xv X) i(hi:i<X.length)(hr:x7I j X row i) w(Y:Bw w0 w)(S:LnAt w w0.heap.size p xv row):Calls prog 260 #[.pointer (some ⟨w0.heap.size,0,none⟩),.int .i64 i] w (FitB w0 p xv j X i (Jn.fit cl j X i)):=by
 have d:=S.c1;have B:=A.len;have H:=O (y5Y U A i hi w Y S);have K:=A.below Y;obtain⟨g,P,M,rfl,_,_,L⟩:=K.place f6J;have a:=L i hi;have o:(i:Int)<X.length:=f6J;by_cases Z:X.getD i 0=8204
 ·rw[Jn.z9K Z];have v:Hid (∀m:Nat,Calls prog 291 #[.pointer (some ⟨w0.heap.size,0,none⟩),.int .i64 i] (w.drewN m) (BtwB w0 p (.slice (some ⟨g,P,none⟩) X.length M) j X row i)):=fun m=>y5V t A i hi (fun h=>hr i (l0r _) h hi Z) (w.drewN m) (bthen Y (x0i ⟨m,rfl⟩)) (S.drewN m);have r:Hid (∀m:Nat,FitB w0 p (.slice (some ⟨g,P,none⟩) X.length M) j X i true (.returned (.bool true)) (w.drewN m)):=fun m=>⟨rfl,bthen Y (x0i ⟨m,rfl⟩),row,S.drewN m,hr.next⟩
  have f:Hid (∀N C,BtwB w0 p (.slice (some ⟨g,P,none⟩) X.length M) j X row i (.returned (.bool N)) C->FitB w0 p (.slice (some ⟨g,P,none⟩) X.length M) j X i (Jn.btw j X i) (.returned (.bool (Jn.btw j X i))) C):=fun N C h=>by
   obtain⟨_,D,n,J,F⟩:=h;refine⟨rfl,D,n,J,?_⟩;rcases F with rfl | ⟨E,_,y,W⟩
   ·exact hr.next
   ·exact x7I.row E Z y W
  rw[Z]at a;clear U t A hr Y S K L;generalize Jn.vir cl X i=R at *
  cases R with
  | true =>
   rw[Bool.true_or];go_enter func260,ntmps260;go_wp2_with fail;refine(V H).mono ?_;rintro e Q ⟨rfl,l,rfl⟩;have T:=O (V r l);exact v8m
  | false =>
   rw[Bool.false_or];go_enter func260,ntmps260;go_wp2_with fail;refine(V H).mono ?_;rintro e Q ⟨rfl,l,rfl⟩;have I:=O (V v l);go_wp2_with fail;refine(V I).mono ?_;rintro e u D;have s:=D.1;subst s;have T:=O (V f _ u D);exact v8m
 ·have k:(X.getD i 0==8204)=false:=W2z;by_cases D:X.getD i 0=8205
  ·rw[Jn.z9J D];rw[D]at a;have r:Hid (∀m:Nat,∀R,FitB w0 p (.slice (some ⟨g,P,none⟩) X.length M) j X i R (.returned (.bool R)) (w.drewN m)):=fun m R=>⟨rfl,bthen Y (x0i ⟨m,rfl⟩),row,S.drewN m,hr.next⟩;clear U t A hr Y S K L k;generalize Jn.vir cl X i=R at *;go_enter func260,ntmps260;go_wp2_with fail;refine(V H).mono ?_;rintro e Q ⟨rfl,l,rfl⟩;have T:=O (V r l R);go_wp2;go_ret;exact V T
  ·rw[Jn.z9H Z D];have q:(X.getD i 0==8205)=false:=(by grind);have T:Hid (FitB w0 p (.slice (some ⟨g,P,none⟩) X.length M) j X i true (.returned (.bool true)) w):=⟨rfl,Y,row,S,hr.next⟩;clear U t A hr Y S K L H Z D;generalize w0.heap.size=b,X.getD i 0=c at *;go_enter func260,ntmps260;exact v8m
theorem LnAt.new(w:World) p xv:LnAt (w.alloc (.cells #[.pointer (some ⟨p,0,none⟩),xv,.int .i64 0] 337)) w.heap.size p xv 0:=by
 unfold LnAt;exact R0n
def y7h(w:World)(n:Int)(e:Ending)(w':World):Prop:=e=.returned (.int .i64 n)/\Below w.heap.size w w'
theorem y2k{w p cl j xv}{X}(l:x2m 161 w p cl)(t:x2m 311 w p j)(A:Sk .i32 w xv X):Calls prog 222 #[.pointer (some ⟨p,0,none⟩),xv] w (y7h w (Jn.chk cl j X)):=by
 have B:=A.len;have Y:Bw w (w.alloc (.cells #[.pointer (some ⟨p,0,none⟩),xv,.int .i64 0] 337)):=(b0r).alloc (l0r _) _;have S:=LnAt.new w p xv;have P:Hid (∀(i:Nat),i<X.length->∀(c:Nat),x7I j X c i->∀W,Bw w W->LnAt W w.heap.size p xv c->Calls prog 260 #[.pointer (some ⟨w.heap.size,0,none⟩),.int .i64 i] W (FitB w p xv j X i (Jn.fit cl j X i))):=fun i hi c H W U r=>y2O l t A i hi H W U r;have D:Hid ((∀q,q<X.length->Jn.fit cl j X q=true)->∀W,Bw w W->y7h w (Jn.chk cl j X) (.returned (.int .i64 (-1))) W):=fun h W U=>⟨by rw[Jn.z2y h],U⟩;have m:Hid (∀k,k<X.length->(∀q,q<k->Jn.fit cl j X q=true)->Jn.fit cl j X k=false->∀W,Bw w W->y7h w (Jn.chk cl j X) (.returned (.int .i64 k)) W):=fun k G h F W U=>⟨by rw[Jn.z2z G h F],U⟩;obtain⟨J,M,rfl,_,_⟩:=A.shape;have R:=O Y;have L:=O S;go_enter func222,ntmps222;go_wp2;go_loopw[4,6,12] (fun g _ Z wr=>∃k c:Nat,g=.int .i64 0/\Z=.int .i64 (k:Int)/\k<=X.length/\(∀q,q<k->Jn.fit cl j X q=true)/\x7I j X c k/\LnAt wr w.heap.size p (.slice J X.length M) c/\Bw w wr) (fun _ _ Z _=>X.length-(intOf Z).toNat)
 case atStart=>exact⟨0,0,rfl,rfl,Nat.zero_le _,fun q h=>absurd h f6J,fun k _ h=>absurd h f6J,V L,V R⟩
 case round =>
  obtain⟨k,c,rfl,rfl,G,d,H,S,Y⟩:=hrel;by_cases E:k<X.length
  ·have r:(k:Int)<X.length:=f6J;have K:=O (V P k E c H wr Y S);have o:=O d
   cases hf:Jn.fit cl j X k with
   | true =>
    rw[hf]at K
    have y:Hid (∀q,q<k+1->Jn.fit cl j X q=true):=fun q h=>by
     rcases Nat.lt_or_ge q k with h1 | h1
     ·exact V o q h1
     ·rw[(f6J:q=k)];exact hf
    go_wp2_with fail;refine(V K).mono ?_;rintro e Q ⟨rfl,b1,n,u,s⟩;have x:=O b1;have v:=O u;have a:=O s;go_wp2
    go_roundw
    case rel=>exact⟨k+1,n,rfl,g2A,f6J,V y,V a,V v,V x⟩
    case measure=>exact g7T
   | false =>
    rw[hf]at K;have f:=O (V m k E (V o) hf);go_wp2_with fail;refine(V K).mono ?_;rintro e Q ⟨rfl,b1,_⟩;have T:=O (V f Q b1);exact v8n
  ·have T:=O (V D (fun q h=>d q f6J) wr Y);have r:¬((k:Int)<X.length):=f6J;exact v8n
