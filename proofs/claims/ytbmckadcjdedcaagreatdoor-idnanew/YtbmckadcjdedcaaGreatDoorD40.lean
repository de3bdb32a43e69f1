/- Ja16 Jb16 Jc16 Jd16 Je16 Jf16 -/
import Derived.Test.YtbmckadcjdedcaaGreatDoorD4
import Derived.Deep.RegionHeld3
set_option maxHeartbeats 4000000
set_option maxRecDepth 8000
namespace Go.Proofs.YtbmckadcjdedcaaGreatDoor
open Go.Proofs.Tryz
section
variable{p:Prop}
theorem v6O(h:p:=by go_enter func297,ntmps297;go_wp2;go_ret;exact⟨rfl,x6k w⟩):p:=h
theorem r4S(h:p:=by have:=K.1 (X.getD n 0) (by simp[List.getD,E]);exact⟨this.1,this.2⟩):p:=h
theorem S5f(h:p:=by rw[beq_eq_false_iff_ne];exact fun h=>o (.inl h)):p:=h
theorem M1m(h:p:=by rw[beq_eq_false_iff_ne];exact fun h=>o (.inr h)):p:=h
theorem i4E(h:p:=by rw[d0f (fun h=>o (.inl h)),d0f (fun h=>o (.inr h))];rfl):p:=h
theorem U8p(h:p:=by rw[beq_eq_false_iff_ne];exact M):p:=h
theorem F7c(h:p:=by
 go_wp2
 try rw[Exit.noGoto_ret]
 go_ret;exact V (T) _):p:=h
end
namespace Jn
def near(j:Int->Int):List Int->Int
 | []=>0
 | c::l=>if j c=5 then near j l else j c
def lok(a:Int):Bool:=decide (a=2)||decide (a=3)
def rok(a:Int):Bool:=decide (a=1)||decide (a=3)
def vrl(cl:Int->Int):List Int->Bool
 | []=>false
 | v::_=>decide (cl v=9)
def fx(cl j:Int->Int)(l:List Int)(c:Int)(r:List Int):Bool:=if c=8204 then vrl cl l||(lok (near j l)&&rok (near j r))else if c=8205 then vrl cl l else true
def lf(j:Int->Int)(X:List Int)(i:Nat):Int:=near j (X.take i).reverse
def rt(j:Int->Int)(X:List Int)(i:Nat):Int:=near j (X.drop i)
def vir(cl:Int->Int)(X:List Int)(i:Nat):Bool:=vrl cl (X.take i).reverse
def btw(j:Int->Int)(X:List Int)(i:Nat):Bool:=lok (lf j X i)&&rok (rt j X (i+1))
def fit(cl j:Int->Int)(X:List Int)(i:Nat):Bool:=fx cl j (X.take i).reverse (X.getD i 0) (X.drop (i+1))
def chk(cl j:Int->Int)(X:List Int):Int:=match(List.range X.length).find? (fun i=>!fit cl j X i)with
 | some i=>i
 | none=>-1
variable {cl j:Int->Int} {X:List Int}
theorem z7z{i:Nat}(h:X.getD i 0=8204):fit cl j X i=(vir cl X i||btw j X i):=by
 unfold fit fx;rw[if_pos h];rfl
theorem z7y{i:Nat}(h:X.getD i 0=8205):fit cl j X i=vir cl X i:=by
 unfold fit fx;rw[if_neg f6J,if_pos h];rfl
theorem z7w{i:Nat}(h:X.getD i 0≠8204)(Z:X.getD i 0≠8205):fit cl j X i=true:=by
 unfold fit fx;rw[if_neg h,if_neg Z]
theorem x4v{i:Nat}(h:i<X.length):X.take (i+1)=X.take i++[X.getD i 0]:=f0h
theorem x4c{i:Nat}(h:i<X.length):X.drop i=X.getD i 0::X.drop (i+1):=f0h
theorem z2O:vir cl X 0=false:=rfl
theorem z2N{i:Nat}(h:i<X.length):vir cl X (i+1)=decide (cl (X.getD i 0)=9):=by
 unfold vir;rw[x4v h,List.reverse_append];rfl
theorem y8x{i:Nat}(h:i<X.length):lf j X (i+1)=if j (X.getD i 0)=5 then lf j X i else j (X.getD i 0):=by
 unfold lf;rw[x4v h,List.reverse_append];rfl
theorem lf_t{i:Nat}(h:i<X.length)(K:j (X.getD i 0)=5):lf j X (i+1)=lf j X i:=by rw[y8x h,if_pos K]
theorem lf_n{i:Nat}(h:i<X.length)(K:j (X.getD i 0)≠5):lf j X (i+1)=j (X.getD i 0):=by rw[y8x h,if_neg K]
theorem z8I{i:Nat}(h:X.length<=i):rt j X i=0:=by unfold rt;rw[List.drop_eq_nil_of_le h];rfl
theorem z8H{i:Nat}(h:i<X.length):rt j X i=if j (X.getD i 0)=5 then rt j X (i+1)else j (X.getD i 0):=by
 unfold rt;rw[x4c h];rfl
theorem rt_t{i:Nat}(h:i<X.length)(K:j (X.getD i 0)=5):rt j X i=rt j X (i+1):=by rw[z8H h,if_pos K]
theorem rt_n{i:Nat}(h:i<X.length)(K:j (X.getD i 0)≠5):rt j X i=j (X.getD i 0):=by rw[z8H h,if_neg K]
theorem y8w{a:Nat}:∀k,a<=k->k<=X.length->(∀m,a<=m->m<k->j (X.getD m 0)=5)->lf j X k=lf j X a
 | 0,h,_,_=>by rw[Nat.le_zero.1 h]
 | k+1,h,hk,ht=>by
  rcases Nat.lt_or_ge a (k+1)with h1 | h1
  ·rw[lf_t f6J (ht k f6J f6J)];exact y8w k f6J f6J fun m h1 Z=>ht m h1 f6J
  ·rw[Nat.le_antisymm h h1]
theorem y9G{a:Nat}:∀k,a<=k->k<=X.length->(∀m,a<=m->m<k->j (X.getD m 0)=5)->rt j X a=rt j X k
 | 0,h,_,_=>by rw[Nat.le_zero.1 h]
 | k+1,h,hk,ht=>by
  rcases Nat.lt_or_ge a (k+1)with h1 | h1
  ·rw[<- rt_t f6J (ht k f6J f6J)];exact y9G k f6J f6J fun m h1 Z=>ht m h1 f6J
  ·rw[Nat.le_antisymm h h1]
theorem z4i{i k e:Nat}(C:btw j X i=true)(hi:X.getD i 0=8204)(H:i<k)(N:k<e)(q:e<=X.length)(K:∀m,i<m->m<e->j (X.getD m 0)=5)(G:X.getD k 0=8204):btw j X k=true:=by
 have p:j (X.getD i 0)=5:=(by grind);unfold btw at C ⊢
 rw[y8w (a:=i) k f6J f6J (fun m D Z=>by
  rcases Nat.lt_or_ge i m with h | h
  ·exact K m h f6J
  ·rw[(f6J:m=i)];exact p)]
 rw[<- y9G (a:=i+1) (k+1) f6J f6J (fun m D Z=>K m f6J f6J)];exact C
theorem z0Z(h:∀i,i<X.length->fit cl j X i=true):chk cl j X=-1:=by
 unfold chk;have:(List.range X.length).find? (fun i=>!fit cl j X i)=none:=(by grind);rw[this]
theorem z1a{k:Nat}(G:k<X.length)(h:∀i,i<k->fit cl j X i=true)(E:fit cl j X k=false):chk cl j X=k:=by
 unfold chk;have:(List.range X.length).find? (fun i=>!fit cl j X i)=some k:=f0h;rw[this]
end Jn
open Go.RowKit
def y1t(w:World)(n:Int)(e:Ending)(w':World):Prop:=e=.returned (.int .i64 n)/\∃m,w'=w.drewN m
def x2r(f:Nat)(w0:World)(p:Nat)(cl:Int->Int):Prop:=∀c,Rune c->∀W,Below w0.heap.size w0 W->Calls prog f #[.pointer (some ⟨p,0,none⟩),.int .i32 c] W (y1t W (cl c))
def LnAt(w:World)(b p:Nat)(xv:Value)(row:Nat):Prop:=w.heap[b]?=some (.cells #[.pointer (some ⟨p,0,none⟩),xv,.int .i64 row] 332 (0,0))
theorem LnAt.c0{w:World}{b p:Nat}{a:Value}{row:Nat}(h:LnAt w b p a row):w.cell? ⟨b,0,none⟩=some (.pointer (some ⟨p,0,none⟩)):=cell_of (j:=0) h T7b
theorem LnAt.c1{w:World}{b p:Nat}{a:Value}{row:Nat}(h:LnAt w b p a row):w.cell? ⟨b,1,none⟩=some a:=cell_of (j:=1) h f2O
theorem LnAt.c2{w:World}{b p:Nat}{a:Value}{row:Nat}(h:LnAt w b p a row):w.cell? ⟨b,2,none⟩=some (.int .i64 row):=cell_of (j:=2) h U4t
theorem LnAt.drewN{w:World}{b p:Nat}{a:Value}{row:Nat}(h:LnAt w b p a row)(m:Nat):LnAt (w.drewN m) b p a row:=by
 unfold LnAt at *;have H:b<w.heap.size:=(by grind);rw[(x0k (w:=w) ⟨m,rfl⟩:Bw w (w.drewN m)).block b H];exact h
namespace Jn
def jat(j:Int->Int)(X:List Int)(k:Int):Int:=if 0<=k/\k<X.length then j (X.getD k.toNat 0)else 0
end Jn
theorem y2g{U:World}{p:Nat}{j:Int->Int}{a:Value}{X:List Int}{row:Nat}(o:x2r 309 U p j)(J:Sk .i32 U a X)(k:Int)(G:-10<=k/\k<=1000000000000000000)(w:World)(C:Bw U w)(S:LnAt w U.heap.size p a row):Calls prog 297 #[.pointer (some ⟨U.heap.size,0,none⟩),.int .i64 k] w (y1t w (Jn.jat j X k)):=by
 have x:=S.c0;have u:=S.c1;obtain⟨Y,b⟩:=G;unfold Jn.jat;have d:=J.len;by_cases T:0<=k
 ·by_cases D:k<X.length
  ·rw[if_pos ⟨T,D⟩];have K:=J.below C;obtain⟨g,P,M,rfl,_,_,y⟩:=K.place f6J;obtain⟨n,rfl⟩:∃n:Nat,k=n:=⟨k.toNat,f6J⟩;have E:n<X.length:=f6J;have F:=y n E
   have L:Rune (X.getD n 0):=r4S
   have W:=fun m:Nat=>O (o (X.getD n 0) L (w.drewN m) (x0b C (x0k ⟨m,rfl⟩)));rw[Int.toNat_natCast];clear o J C S K y L;generalize X.getD n 0=c at *;go_enter func297,ntmps297;go_wp2;go_quiet(first| (go_at_call 309;exact Calls.quiet_of (V (W _))));go_wp2;go_ret;exact⟨rfl,nq,rfl⟩
  ·rw[if_neg f6J];obtain⟨s,M,rfl,_,_⟩:=J.shape;have Z:(X.length:Int)<=k:=f6J;exact v6O
 ·rw[if_neg f6J];have Z:k<0:=f6J;exact v6O
theorem y5e{U:World}{p:Nat}{cl:Int->Int}{a:Value}{X:List Int}{row:Nat}(N:x2r 98 U p cl)(J:Sk .i32 U a X)(i:Nat)(hi:i<X.length)(w:World)(C:Bw U w)(S:LnAt w U.heap.size p a row):Calls prog 287 #[.pointer (some ⟨U.heap.size,0,none⟩),.int .i64 i] w (x3V w (Jn.vir cl X i)):=by
 have x:=S.c0;have u:=S.c1;have d:=J.len
 cases i with
 | zero =>
  rw[Jn.z2O];go_enter func287,ntmps287;go_wp2;go_quiet(fail);go_wp2;go_ret;exact⟨rfl,nq,rfl⟩
 | succ n =>
  have K:=J.below C;obtain⟨g,P,M,rfl,_,_,y⟩:=K.place f6J;have E:n<X.length:=f6J;have F:=y n E
  have L:Rune (X.getD n 0):=r4S
  rw[Jn.z2N E];have W:=fun m:Nat=>O (N (X.getD n 0) L (w.drewN m) (x0b C (x0k ⟨m,rfl⟩)));have Q:(n:Int)<X.length:=f6J;have H:IntKind.i64.wrap ((n:Int)+1-1)=n:=s7B;have A:(0:Int)<(n:Int)+1:=f6J;rw[Int.natCast_add];clear N J C S K y L;generalize cl (X.getD n 0)=z at *;generalize X.getD n 0=c at *;obtain⟨D,B⟩:∃D,decide (z=9)=D:=⟨_,rfl⟩;have G:(z==9)=D:=f6J;rw[B];go_enter func287,ntmps287;go_wp2;go_quiet(first| (go_at_call 98;exact Calls.quiet_of (V (W _))));go_wp2;go_ret;exact⟨rfl,nq,rfl⟩
def BtwB(w0:World)(p:Nat)(xv:Value)(j:Int->Int)(X:List Int)(row i:Nat)(e:Ending)(w':World):Prop:=e=.returned (.bool (Jn.btw j X i))/\Below w0.heap.size w0 w'/\∃row',LnAt w' w0.heap.size p xv row'/\(row'=row\/(Jn.btw j X i=true/\i<row'/\row'<=X.length/\∀m,i<m->m<row'->j (X.getD m 0)=5))
theorem LnAt.set{w:World}{b p:Nat}{a:Value}{row:Nat}(h:LnAt w b p a row)(e:Nat):LnAt (w.setCell ⟨b,2,none⟩ (.int .i64 e)) b p a e:=by
 unfold LnAt at *;rw[x0f h];rfl
theorem y8j{j:Int->Int}{X:List Int}(e:Nat):Jn.jat j X e=if e<X.length then j (X.getD e 0)else 0:=by
 unfold Jn.jat;rw[Int.toNat_natCast];by_cases h:e<X.length
 ·omega
 ·rw[if_neg h,if_neg f6J]
theorem z1F{j:Int->Int}{X:List Int}(k:Nat)(G:k<=X.length):(Jn.jat j X ((k:Int)-1)=5->0<k/\Jn.lf j X k=Jn.lf j X (k-1))/\(Jn.jat j X ((k:Int)-1)≠5->Jn.lf j X k=Jn.jat j X ((k:Int)-1)):=by
 cases k with
 | zero =>
  have:Jn.jat j X (((0:Nat):Int)-1)=0:=(by unfold Jn.jat;rw[if_neg f6J]);rw[this];exact⟨fun h=>absurd h e8N,fun _=>rfl⟩
 | succ n =>
  have e:(((n+1:Nat):Int)-1)=(n:Int):=f6J;rw[e,y8j,if_pos f6J];exact⟨fun h=>⟨f6J,Jn.lf_t f6J h⟩,fun h=>Jn.lf_n f6J h⟩
theorem z1E{j:Int->Int}{X:List Int}(e:Nat)(q:e<=X.length):(Jn.jat j X e=5->e<X.length/\j (X.getD e 0)=5/\Jn.rt j X e=Jn.rt j X (e+1))/\(Jn.jat j X e≠5->Jn.rt j X e=Jn.jat j X e):=by
 rw[y8j];by_cases h:e<X.length
 ·rw[if_pos h];exact⟨fun p=>⟨h,p,Jn.rt_t h p⟩,fun p=>Jn.rt_n h p⟩
 ·rw[if_neg h];exact⟨fun h=>absurd h e8N,fun _=>Jn.z8I f6J⟩
theorem y5d{U:World}{p:Nat}{j:Int->Int}{a:Value}{X:List Int}{row:Nat}(hJ:x2r 309 U p j)(hx:Sk .i32 U a X)(i:Nat)(hi:i<X.length)(hr:i<row->Jn.btw j X i=true)(w:World)(C:Bw U w)(hl:LnAt w U.heap.size p a row):Calls prog 288 #[.pointer (some ⟨U.heap.size,0,none⟩),.int .i64 i] w (BtwB U p a j X row i):=by
 have x2:=hl.c2;have aw:=hx.len;have d:Hid (∀(k:Int),(-10<=k/\k<=1000000000000000000)->∀m:Nat,Calls prog 297 #[.pointer (some ⟨U.heap.size,0,none⟩),.int .i64 k] (w.drewN m) (y1t (w.drewN m) (Jn.jat j X k))):=fun k hk m=>y2g hJ hx k hk (w.drewN m) (x0b C (x0k ⟨m,rfl⟩)) (hl.drewN m);have HB:=O C;have HL:=O hl;have N:=O (fun k=>z1F (j:=j) (X:=X) k);have ai:=O (fun k=>z1E (j:=j) (X:=X) k);have E:Hid (Jn.btw j X i=(Jn.lok (Jn.lf j X i)&&Jn.rok (Jn.rt j X (i+1)))):=rfl;have P:Hid (∀m:Nat,∀l,l=Jn.btw j X i->BtwB U p a j X row i (.returned (.bool l)) (w.drewN m)):=fun m l e=>⟨by rw[e],x0b C (x0k ⟨m,rfl⟩),row,hl.drewN m,.inl rfl⟩;have t:Hid (∀m e:Nat,Jn.btw j X i=true->i<e->e<=X.length->(∀m,i<m->m<e->j (X.getD m 0)=5)->BtwB U p a j X row i (.returned (.bool true)) ((w.drewN m).setCell ⟨U.heap.size,2,none⟩ (.int .i64 e))):=fun m e D Z h3 h4=>⟨by rw[D],x0d (x0b C (x0k ⟨m,rfl⟩)) (l0r _) _,e,(hl.drewN m).set e,.inr ⟨D,Z,h3,h4⟩⟩;have v:Hid (∀m:Nat,(w.drewN m).cell? ⟨U.heap.size,2,none⟩=some (.int .i64 row)):=fun m=>(hl.drewN m).c2;have g:=O hr;go_enter func288,ntmps288;by_cases aA:(i:Int)<row
 ·have T:=O (V P 0 true (V g f6J).symm);go_wp2;go_step3;go_wp2
  try rw[Exit.noGoto_ret]
  go_ret;exact V T
 ·have aB:(row:Int)<=i:=f6J;have aC:IntKind.i64.wrap ((i:Int)-1)=(i:Int)-1:=s7C;have ay:decide (i<row)=false:=d0f f6J;go_wp2;go_step3;go_wp2;go_step3;go_wp2;go_loopw[4,5] (fun y B wr=>∃k:Nat,y=.bool false/\B=.int .i64 ((k:Int)-1)/\k<=i/\Jn.lf j X i=Jn.lf j X k/\∃m,wr=w.drewN m) (fun _ B _=>(intOf B+1).toNat)
  case atStart=>exact⟨i,rfl,rfl,l0r _,rfl,x6k w⟩
  case round =>
   obtain⟨k,rfl,rfl,hk,am,m,rfl⟩:=hrel;have K:=O (V d ((k:Int)-1) ⟨f6J,f6J⟩ m);have s:=O (V N k f6J);generalize Jn.jat j X ((k:Int)-1)=z at *;have x:=O am;by_cases M:z=5
   ·subst M;obtain⟨aj,Y⟩:=(V s).1 rfl;have ag:=O ((V x).trans Y);have aD:IntKind.i64.wrap ((k:Int)-1-1)=(k:Int)-1-1:=s7C;go_wp2_with fail;refine(V K).mono ?_;rintro e Q ⟨rfl,S,rfl⟩;have hd:∃A,(w.drewN m).drewN S=w.drewN A:=x6l ⟨m,rfl⟩ S;obtain⟨A,f⟩:=hd;rw[f];go_wp2
    go_roundw
    case rel=>exact⟨k-1,rfl,by congr 1;exact f6J,f6J,V ag,⟨A,rfl⟩⟩
    case measure=>exact g7T
   ·have af:=(V x).trans ((V s).2 M);have n5:(z==5)=false:=U8p;by_cases o:z=2\/z=3
    ·have H:Hid (Jn.lok (Jn.lf j X i)=true):=by
      show Jn.lok (Jn.lf j X i)=true;rw[af];rcases o with rfl | rfl<;>rfl
     rcases o with rfl | rfl
     all_goals
      go_wp2_with fail;refine(V K).mono ?_;rintro e Q ⟨rfl,S,rfl⟩;have hd:∃A,(w.drewN m).drewN S=w.drewN A:=x6l ⟨m,rfl⟩ S;obtain⟨A,f⟩:=hd;rw[f];have aF:IntKind.i64.wrap ((i:Int)+1)=(i:Int)+1:=s7C;go_wp2;go_step3;go_wp2;go_loopw[4,6] (fun y B wr=>∃k:Nat,y=.bool false/\B=.int .i64 (k:Int)/\i<k/\k<=X.length/\(∀q,i<q->q<k->j (X.getD q 0)=5)/\Jn.rt j X (i+1)=Jn.rt j X k/\∃m,wr=w.drewN m) (fun _ B _=>(X.length+1-(intOf B).toNat))
      case atStart=>exact⟨i+1,rfl,rfl,f6J,f6J,fun q D Z=>f6J,rfl,⟨A,rfl⟩⟩
      case round =>
       obtain⟨r,rfl,rfl,b,ae,F,aq,m2,rfl⟩:=hrel;have K:=O (V d (r:Int) ⟨f6J,f6J⟩ m2);have I:=O (V ai r ae);have ab:=O F;have R:=O aq;have ar:=(V v);generalize Jn.jat j X (r:Int)=z at *;by_cases M:z=5
       ·subst M;obtain⟨aj,Y,n⟩:=(V I).1 rfl;have J:=O ((V R).trans n)
        have L:Hid (∀q,i<q->q<r+1->j (X.getD q 0)=5):=fun q D Z=>by
         rcases Nat.lt_or_ge q r with h | h
         ·exact V ab q D h
         ·rw[(f6J:q=r)];exact Y
        have aG:IntKind.i64.wrap ((r:Int)+1)=(r:Int)+1:=s7C;go_wp2_with fail;refine(V K).mono ?_;rintro e Q ⟨rfl,S,rfl⟩;obtain⟨u,W⟩:∃A,(w.drewN m2).drewN S=w.drewN A:=x6l ⟨m2,rfl⟩ S;rw[W];go_wp2
        go_roundw
        case rel=>exact⟨r+1,rfl,by first| rfl|(congr 1),f6J,f6J,V L,V J,⟨u,rfl⟩⟩
        case measure=>exact g7T
       ·have c:=(V R).trans ((V I).2 M);have n5:(z==5)=false:=U8p;by_cases o:z=1\/z=3
        ·have G:Hid (Jn.btw j X i=true):=by
          show Jn.btw j X i=true;rw[V E,V H,c];rcases o with rfl | rfl<;>rfl
         rcases o with rfl | rfl
         all_goals
          go_wp2_with fail;refine(V K).mono ?_;rintro e Q ⟨rfl,S,rfl⟩;obtain⟨u,W⟩:∃A,(w.drewN m2).drewN S=w.drewN A:=x6l ⟨m2,rfl⟩ S;rw[W];have x3:=ar u;have az:=x0e (j:=2) ((V HL).drewN u);have T:=O (V t u r (V G) b ae (V ab));go_wp2
          try rw[Exit.noGoto_ret]
          go_ret;exact V T
        ·have T:Hid (∀m:Nat,BtwB U p a j X row i (.returned (.bool false)) (w.drewN m)):=fun m=>V P m false (by
          rw[V E,c];have:Jn.rok z=false:=by unfold Jn.rok;exact i4E
          rw[this,Bool.and_false])
         have n1:(z==1)=false:=S5f;have n3:(z==3)=false:=M1m;go_wp2_with fail;refine(V K).mono ?_;rintro e Q ⟨rfl,S,rfl⟩;obtain⟨u,W⟩:∃A,(w.drewN m2).drewN S=w.drewN A:=x6l ⟨m2,rfl⟩ S;rw[W];exact F7c
    ·have T:Hid (∀m:Nat,BtwB U p a j X row i (.returned (.bool false)) (w.drewN m)):=fun m=>V P m false (by
      rw[V E,af];have:Jn.lok z=false:=by unfold Jn.lok;exact i4E
      rw[this];rfl)
     have n2:(z==2)=false:=S5f;have n3:(z==3)=false:=M1m;go_wp2_with fail;refine(V K).mono ?_;rintro e Q ⟨rfl,S,rfl⟩;have hd:∃A,(w.drewN m).drewN S=w.drewN A:=x6l ⟨m,rfl⟩ S;obtain⟨A,f⟩:=hd;rw[f];exact F7c
def x7m(j:Int->Int)(X:List Int)(row i:Nat):Prop:=∀k,i<=k->k<row->k<X.length->X.getD k 0=8204->Jn.btw j X k=true
theorem x7m.next{j:Int->Int}{X:List Int}{row i:Nat}(h:x7m j X row i):x7m j X row (i+1):=fun k D=>h k f6J
theorem x7m.row{j:Int->Int}{X:List Int}{row i:Nat}(C:Jn.btw j X i=true)(hi:X.getD i 0=8204)(q:row<=X.length)(K:∀m,i<m->m<row->j (X.getD m 0)=5):x7m j X row (i+1):=fun _ D Z _ R=>Jn.z4i C hi f6J Z q K R
def FitB(w0:World)(p:Nat)(xv:Value)(j:Int->Int)(X:List Int)(i:Nat)(bb:Bool)(e:Ending)(w':World):Prop:=e=.returned (.bool bb)/\Below w0.heap.size w0 w'/\∃row',LnAt w' w0.heap.size p xv row'/\x7m j X row' (i+1)
theorem y2f{U:World}{p:Nat}{cl j:Int->Int}{a:Value}{X:List Int}{row:Nat}(N:x2r 98 U p cl)(o:x2r 309 U p j)(J:Sk .i32 U a X)(i:Nat)(hi:i<X.length)(hr:x7m j X row i)(w:World)(C:Bw U w)(S:LnAt w U.heap.size p a row):Calls prog 255 #[.pointer (some ⟨U.heap.size,0,none⟩),.int .i64 i] w (FitB U p a j X i (Jn.fit cl j X i)):=by
 have u:=S.c1;have d:=J.len;have n:=O (y5e N J i hi w C S);have K:=J.below C;obtain⟨g,P,M,rfl,_,_,y⟩:=K.place f6J;have F:=y i hi;have z:(i:Int)<X.length:=f6J;by_cases D:X.getD i 0=8204
 ·rw[Jn.z7z D];have Y:Hid (∀m:Nat,Calls prog 288 #[.pointer (some ⟨U.heap.size,0,none⟩),.int .i64 i] (w.drewN m) (BtwB U p (.slice (some ⟨g,P,none⟩) X.length M) j X row i)):=fun m=>y5d o J i hi (fun h=>hr i (l0r _) h hi D) (w.drewN m) (x0b C (x0k ⟨m,rfl⟩)) (S.drewN m);have r:Hid (∀m:Nat,FitB U p (.slice (some ⟨g,P,none⟩) X.length M) j X i true (.returned (.bool true)) (w.drewN m)):=fun m=>⟨rfl,x0b C (x0k ⟨m,rfl⟩),row,S.drewN m,hr.next⟩
  have B:Hid (∀l R,BtwB U p (.slice (some ⟨g,P,none⟩) X.length M) j X row i (.returned (.bool l)) R->FitB U p (.slice (some ⟨g,P,none⟩) X.length M) j X i (Jn.btw j X i) (.returned (.bool (Jn.btw j X i))) R):=fun l R h=>by
   obtain⟨_,Z,f,s,H⟩:=h;refine⟨rfl,Z,f,s,?_⟩;rcases H with rfl | ⟨v,_,x,L⟩
   ·exact hr.next
   ·exact x7m.row v D x L
  rw[D]at F;clear N o J hr C S K y;generalize Jn.vir cl X i=G at *
  cases G with
  | true =>
   rw[Bool.true_or];go_enter func255,ntmps255;go_wp2_with fail;refine(V n).mono ?_;rintro e Q ⟨rfl,k,rfl⟩;have T:=O (V r k);exact v8m
  | false =>
   rw[Bool.false_or];go_enter func255,ntmps255;go_wp2_with fail;refine(V n).mono ?_;rintro e Q ⟨rfl,k,rfl⟩;have I:=O (V Y k);go_wp2_with fail;refine(V I).mono ?_;rintro e A Z;have q:=Z.1;subst q;have T:=O (V B _ A Z);exact v8m
 ·have t:(X.getD i 0==8204)=false:=U1s;by_cases Z:X.getD i 0=8205
  ·rw[Jn.z7y Z];rw[Z]at F;have r:Hid (∀m:Nat,∀G,FitB U p (.slice (some ⟨g,P,none⟩) X.length M) j X i G (.returned (.bool G)) (w.drewN m)):=fun m G=>⟨rfl,x0b C (x0k ⟨m,rfl⟩),row,S.drewN m,hr.next⟩;clear N o J hr C S K y t;generalize Jn.vir cl X i=G at *;go_enter func255,ntmps255;go_wp2_with fail;refine(V n).mono ?_;rintro e Q ⟨rfl,k,rfl⟩;have T:=O (V r k G);go_wp2;go_ret;exact V T
  ·rw[Jn.z7w D Z];have E:(X.getD i 0==8205)=false:=(by grind);have T:Hid (FitB U p (.slice (some ⟨g,P,none⟩) X.length M) j X i true (.returned (.bool true)) w):=⟨rfl,C,row,S,hr.next⟩;clear N o J hr C S K y n D Z;generalize U.heap.size=b,X.getD i 0=c at *;go_enter func255,ntmps255;exact v8m
theorem LnAt.new(w:World)(p:Nat)(a:Value):LnAt (w.alloc (.cells #[.pointer (some ⟨p,0,none⟩),a,.int .i64 0] 332)) w.heap.size p a 0:=by
 unfold LnAt;exact R0n
def y6i(w:World)(n:Int)(e:Ending)(w':World):Prop:=e=.returned (.int .i64 n)/\Below w.heap.size w w'
theorem y1E{w:World}{p:Nat}{cl j:Int->Int}{a:Value}{X:List Int}(b:x2r 98 w p cl)(o:x2r 309 w p j)(J:Sk .i32 w a X):Calls prog 213 #[.pointer (some ⟨p,0,none⟩),a] w (y6i w (Jn.chk cl j X)):=by
 have d:=J.len;have C:Bw w (w.alloc (.cells #[.pointer (some ⟨p,0,none⟩),a,.int .i64 0] 332)):=(b0r).alloc (l0r _) _;have S:=LnAt.new w p a;have D:Hid (∀(i:Nat),i<X.length->∀(N:Nat),x7m j X N i->∀W,Bw w W->LnAt W w.heap.size p a N->Calls prog 255 #[.pointer (some ⟨w.heap.size,0,none⟩),.int .i64 i] W (FitB w p a j X i (Jn.fit cl j X i))):=fun i hi N u W t P=>y2f b o J i hi u W t P;have M:Hid ((∀q,q<X.length->Jn.fit cl j X q=true)->∀W,Bw w W->y6i w (Jn.chk cl j X) (.returned (.int .i64 (-1))) W):=fun h W t=>⟨by rw[Jn.z0Z h],t⟩;have m:Hid (∀k,k<X.length->(∀q,q<k->Jn.fit cl j X q=true)->Jn.fit cl j X k=false->∀W,Bw w W->y6i w (Jn.chk cl j X) (.returned (.int .i64 k)) W):=fun k G h E W t=>⟨by rw[Jn.z1a G h E],t⟩;obtain⟨s,I,rfl,_,_⟩:=J.shape;have l:=O C;have c:=O S;go_enter func213,ntmps213;go_wp2;go_loopw[4,6,12] (fun y _ R wr=>∃k N:Nat,y=.int .i64 0/\R=.int .i64 (k:Int)/\k<=X.length/\(∀q,q<k->Jn.fit cl j X q=true)/\x7m j X N k/\LnAt wr w.heap.size p (.slice s X.length I) N/\Bw w wr) (fun _ _ R _=>X.length-(intOf R).toNat)
 case atStart=>exact⟨0,0,rfl,rfl,Nat.zero_le _,fun q h=>absurd h f6J,fun k _ h=>absurd h f6J,V c,V l⟩
 case round =>
  obtain⟨k,N,rfl,rfl,G,L,u,S,C⟩:=hrel;by_cases H:k<X.length
  ·have P:(k:Int)<X.length:=f6J;have K:=O (V D k H N u wr C S);have U:=O L
   cases hf:Jn.fit cl j X k with
   | true =>
    rw[hf]at K
    have Z:Hid (∀q,q<k+1->Jn.fit cl j X q=true):=fun q h=>by
     rcases Nat.lt_or_ge q k with h1 | h1
     ·exact V U q h1
     ·rw[(f6J:q=k)];exact hf
    go_wp2_with fail;refine(V K).mono ?_;rintro e Q ⟨rfl,b1,f,v,n⟩;have B:=O b1;have F:=O v;have g:=O n;go_wp2
    go_roundw
    case rel=>exact⟨k+1,f,rfl,g2A,f6J,V Z,V g,V F,V B⟩
    case measure=>exact g7T
   | false =>
    rw[hf]at K;have Y:=O (V m k H (V U) hf);go_wp2_with fail;refine(V K).mono ?_;rintro e Q ⟨rfl,b1,_⟩;have T:=O (V Y Q b1);exact v8n
  ·have T:=O (V M (fun q h=>L q f6J) wr C);have P:¬((k:Int)<X.length):=f6J;exact v8n
