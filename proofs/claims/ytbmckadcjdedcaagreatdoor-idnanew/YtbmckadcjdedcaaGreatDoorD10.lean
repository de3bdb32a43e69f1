/- TbE7 TbF7 TbN7 TbG7 TbH7 TbI7 TbJ7 TbK7 TbL7 Rs7 Lay7 -/
import Derived.Test.YtbmckadcjdedcaaGreatDoorD5
import Derived.Shelf.Abstract
import Derived.Lib.Walk
import Derived.WalkMore
import Derived.Test.YtbmckadcjdedcaaGreatDoorD16
import Derived.Test.YtbmckadcjdedcaaGreatDoorRows
import Derived.ProofKit
import Derived.OpenShut
import Derived.ShutString
import Derived.LaidMore
import Derived.Lay
import Derived.Stop.LaidErr
import Derived.Deep.DeepHandedRow
import Derived.Lib.LaidTab
import Derived.MakeChecks
import Derived.Shelf.Vars
set_option maxHeartbeats 4000000
set_option maxRecDepth 20000
namespace Go.Proofs.YtbmckadcjdedcaaGreatDoor
open Go.Proofs.Tryz
open Go.RowKit
section
variable{p:Prop}
theorem p2L(h:p:=by go_enter func333,ntmps333;go_wp2_with fail;refine c0m K fun Q E=>?_;have L:=x0i (j:=5) E rfl;have I:=x0i (j:=6) E rfl;have C:=x0b U E;go_wp2_with fail;refine c1m (V KN _) fun A F=>?_;have M:A.cell? ⟨w.heap.size+1,5,none⟩=_:=(F.cell (x0a L)).trans L;have B:A.cell? ⟨w.heap.size+1,6,none⟩=_:=(F.cell (x0a I)).trans I;have C:=x0b C F;go_wp2_with fail;refine c1m (V s _) fun u c=>?_;have M:u.cell? ⟨w.heap.size+1,5,none⟩=_:=(c.cell (x0a M)).trans M;have B:u.cell? ⟨w.heap.size+1,6,none⟩=_:=(c.cell (x0a B)).trans B;have C:=x0b C c;go_wp2;go_ret;exact⟨rfl,C⟩):p:=h
theorem f5W(h:p:=by go_enter func335,ntmps335;go_wp2_with fail;refine c0m K fun Q E=>?_;have i:=x0i (j:=3) E rfl;have C:=x0b U E;have A:=x2f i;go_wp2;go_ret;exact⟨rfl,C.alloc C.size _⟩):p:=h
theorem m8c(h:p:=by go_enter func346,ntmps346;go_wp2_with fail;refine c1m (V i _) fun A P=>?_;subst A;go_wp2_with fail;refine c1m (V j _) fun A P=>?_;subst A;go_wp2;go_ret;exact⟨rfl,C⟩):p:=h
theorem W1m(h:p:=by go_enter func338,ntmps338;go_wp2_with fail;refine c0m K fun Q E=>?_;have B:=x0i (j:=4) E rfl;have C:=x0b U E;have F:=x2f B;go_wp2;go_ret;exact⟨rfl,C.alloc C.size _⟩):p:=h
theorem g4c(h:p:=by go_wp2;go_ret;exact⟨rfl,C⟩):p:=h
theorem M0h(h:p:=by simp[Ieee.Datum.order,Ieee.Datum.isNaN,Std.ReflCmp.compare_self]):p:=h
theorem U0P(h:p:=by go_enter func333,ntmps333;go_wp2_with fail;refine c0m K fun Q E=>?_;have L:=x0i (j:=5) E rfl;have I:=x0i (j:=6) E rfl;have C:=x0b U E;go_wp2;go_ret;exact⟨rfl,C⟩):p:=h
theorem v9i(h:p:=by go_enter func342,ntmps342;go_wp2_with fail;refine(V i).mono ?_;rintro e w ⟨rfl,rfl⟩;go_wp2_with fail;refine(V j).mono ?_;rintro e w ⟨rfl,rfl⟩;exact t6u):p:=h
theorem P3y(h:p:=by go_enter func354,ntmps354;exact g4c):p:=h
theorem t2a(h:p:=by go_enter func347,ntmps347;go_wp2_with fail;refine c0m i fun Q E=>?_;have t:=x0i (j:=1) E rfl;have q:=x0i (j:=2) E rfl;have B:=x0i (j:=4) E rfl;have C:=x0b U E;have T:Q.cell? ⟨b,S,none⟩=some (.int .i32 x):=(C.cell (by exact F)).trans J;go_wp2_with fail;refine c1m (V H _) fun A P=>?_;subst A;go_wp2_with fail;refine c1m (V Y _) fun A P=>?_;subst A;go_wp2;go_ret;exact⟨rfl,C⟩):p:=h
theorem U4B(h:p:=by go_enter func333,ntmps333;go_wp2_with fail;refine c0m K fun Q E=>?_;have L:=x0i (j:=5) E rfl;have I:=x0i (j:=6) E rfl;have C:=x0b U E;go_wp2_with fail;refine c1m (V KN _) fun A F=>?_;have B:A.cell? ⟨w.heap.size+1,6,none⟩=_:=(F.cell (x0a I)).trans I;have C:=x0b C F;go_wp2;go_ret;exact⟨rfl,C⟩):p:=h
theorem m0x(h:p:=by go_enter func339,ntmps339;go_wp2_with fail;refine c0m K fun Q E=>?_;have J:=x0i (j:=7) E rfl;have C:=x0b U E;go_wp2_with fail;refine c1m (V KN _) fun A P=>?_;subst A;go_wp2_with fail;refine c1m (V s _) fun A P=>?_;subst A;go_wp2;go_ret;exact⟨rfl,C⟩):p:=h
theorem N6l(h:p:=by show((w.heap.push _).push _)[w.heap.size+1]?=_;rw[Array.getElem?_push];simp):p:=h
theorem R0k(h:p:=by rw[(e8N:((2^IntKind.u64.bits:Nat):Int)=18446744073709551616)];omega):p:=h
theorem N7n(h:p:=by go_enter func339,ntmps339;go_wp2_with fail;refine c0m K fun Q E=>?_;have J:=x0i (j:=7) E rfl;have C:=x0b U E;go_wp2_with fail;refine c1m (V Y _) fun A P=>?_;subst A;go_wp2;go_ret;exact⟨rfl,C⟩):p:=h
theorem n1v(h:p:=by go_enter func343,ntmps343;go_wp2_with fail;refine(V i).mono ?_;rintro e w ⟨rfl,rfl⟩;go_wp2_with fail;refine(V j).mono ?_;rintro e w ⟨rfl,rfl⟩;exact t6w):p:=h
theorem W3M(h:p:=by simpa using q):p:=h
theorem G5Y(h:p:=by have G:Cn.scalar c=false:=d0f f6J;exact T5p):p:=h
theorem T8N(h:p:=by simpa using z):p:=h
theorem G9l(h:p:=by have T:=V A f6J;clear A B L;go_enter func114,ntmps114;exact U7I):p:=h
end
theorem x9I(c:Int)(w:World)(h:-2147483648<=c/\c<=2147483647) :
  Calls prog 102 #[.int .i32 c] w fun e w'=>e=.returned (.bool (Cn.scalar c))/\w'=w:=by
 by_cases D:0<=c
 ·by_cases Z:c<55296
  ·have G:Cn.scalar c=true:=d0t f6J;exact T5p
  ·by_cases R:57343<c
   ·by_cases H:c<=1114111
    ·have G:Cn.scalar c=true:=d0t f6J;exact T5p
    ·exact G5Y
   ·exact G5Y
 ·exact G5Y
theorem y1l(c:Int)(w:World)(h:-2147483648<=c/\c<=2147483647) :
  Calls prog 60 #[.int .i32 c] w fun e w'=>e=.returned (.bool (Cn.scalar c))/\w'=w:=by
 have H:=O (x9I c w h);go_enter func60,ntmps60;go_wp2_with fail;refine(V H).mono ?_;rintro e w ⟨rfl,rfl⟩;go_wp2;go_ret;exact⟨rfl,rfl⟩
theorem y1k(c:Int)(w:World)(h:-2147483648<=c/\c<=2147483647) :
  Calls prog 59 #[.int .i32 c] w fun e w'=>e=.returned (.bool (!Cn.scalar c))/\w'=w:=by
 have H:=O (y1l c w h);go_enter func59,ntmps59;go_wp2_with fail;refine(V H).mono ?_;rintro e w ⟨rfl,rfl⟩;go_wp2;go_ret;exact⟨rfl,rfl⟩
theorem y0a{xs:List Int}{k:Nat}(G:k<xs.length):xs.drop k=xs.getD k 0::xs.drop (k+1):=f0h
def fb(p:Int->Bool):Nat->List Int->Int
 | _,[]=>-1
 | i,c::r=>if p c then(i:Int)else fb p (i+1) r
theorem z7v{p:Int->Bool}{xs:List Int}{k:Nat}{r:Int}(G:k<xs.length)(h:r=fb p k (xs.drop k))(A:p (xs.getD k 0)=true):r=(k:Int):=by
 rw[h,y0a G,fb,if_pos A]
theorem z4O{p:Int->Bool}{xs:List Int}{k:Nat}{r:Int}(G:k<xs.length)(h:r=fb p k (xs.drop k))(A:p (xs.getD k 0)=false):r=fb p (k+1) (xs.drop (k+1)):=by
 rw[h,y0a G,fb,A];rfl
theorem z3e{p:Int->Bool}{xs:List Int}{k:Nat}{r:Int}(G:xs.length<=k)(h:r=fb p k (xs.drop k)):r=-1:=by
 rw[h,List.drop_eq_nil_of_le G,fb]
theorem z7u(p:Int->Bool)(i:Nat)(xs:List Int):decide (fb p i xs<0)=xs.all (fun c=>!p c):=by
 induction xs generalizing i with
 | nil=>rfl
 | cons c r ih =>
  simp only[fb,List.all_cons];exact W2F
theorem x8T(p:Int->Bool)(g:Nat)(A:∀x w,(-2147483648<=x/\x<=2147483647)->Calls prog g #[.int .i32 x] w fun e w'=>e=.returned (.bool (p x))/\w'=w)(y:∀args w,(callFunc g args).run prog w=.ok (.enter g args) w)
  (v:Value) (xs:List Int) (w:World) (N:Sk .i32 w v xs) :
  Calls prog 58 #[v,.func (.func g) #[] #[]] w fun e w'=>e=.returned (.int .i64 (fb p 0 xs))/\w'=w:=by
 have t:=N.len;have J:fb p 0 xs=fb p 0 (xs.drop 0):=s4M;rcases Nat.eq_zero_or_pos xs.length with h0 | h0
 ·have L:=z3e f6J J;exact S3Y
 ·have o:=O N.1;obtain⟨b,P,M,rfl,f,Q,I⟩:=N.place h0;have Y:=O I;have a:=O J;have l:=O A;clear N I J A;generalize L:fb p 0 xs=r at *;go_enter func58,ntmps58;go_wp2;go_loop [5,8] (fun _ i=>∃k:Nat,i=.int .i64 k/\k<=xs.length/\r=fb p k (xs.drop k)) (fun _ i=>xs.length-(intOf i).toNat)
  case atStart=>exact⟨0,rfl,f6J,V a⟩
  case round =>
   obtain⟨k,rfl,G,u⟩:=hrel;by_cases H:k<xs.length
   ·have X:=V Y k H;have T:=(V o).i32at k;have j:=O (V l (xs.getD k 0) w T)
    cases hok:p (xs.getD k 0)with
    | true =>
     have C:=z7v H u hok;rw[hok]at j;subst C;clear u hok a;generalize xs.getD k 0=c at *;go_wp2_with(go_at_fn g;refine(V j).mono ?_;rintro e w ⟨rfl,rfl⟩);go_ret;exact⟨rfl,rfl⟩
    | false =>
     have B:=O (z4O H u hok);rw[hok]at j;generalize xs.getD k 0=c at *;go_wp2_with(go_at_fn g;refine(V j).mono ?_;rintro e w ⟨rfl,rfl⟩);go_round
     case rel=>exact⟨k+1,g2A,f6J,V B⟩
     case measure=>exact g7T
   ·have C:=z3e f6J u;subst C;exact t6x
theorem y7w:∀args w,(callFunc 59 args).run prog w=.ok (.enter 59 args) w:=f0h
theorem x5x(v:Value)(xs:List Int)(w:World)(N:Sk .i32 w v xs) :
  Calls prog 32 #[v] w fun e w'=>e=.returned (.int .i64 (fb (fun c=>!Cn.scalar c) 0 xs))/\w'=w:=by
 have H:=O (x8T (fun c=>!Cn.scalar c) 59 y1k y7w v xs w N);go_enter func32,ntmps32;go_wp2_with fail;refine(V H).mono ?_;rintro e w ⟨rfl,rfl⟩;go_wp2;go_ret;exact⟨rfl,rfl⟩
theorem y9R(v:Value)(xs:List Int)(w:World)(N:Sk .i32 w v xs) :
  Calls prog 190 #[v] w fun e w'=>e=.returned (.bool (xs.all Cn.scalar))/\w'=w:=by
 have H:=O (x5x v xs w N);have e:xs.all Cn.scalar=decide (fb (fun c=>!Cn.scalar c) 0 xs<0):=(by rw[z7u];exact M7K);rw[e];go_enter func190,ntmps190;go_wp2_with fail;refine(V H).mono ?_;rintro e w ⟨rfl,rfl⟩;go_wp2;go_ret;exact⟨rfl,rfl⟩
def nanB(u:Nat):Bool:=decide (9218868437227405312<u%9223372036854775808)
theorem y5p(d:Ieee.Datum):d.order d=if d.isNaN then none else some .eq:=by
 cases d with
 | number s m i =>exact M0h
 | infinity s=>exact M0h
 | nan s t=>simp[Ieee.Datum.order,Ieee.Datum.isNaN]
theorem z2r(u:Nat):(FloatKind.f64.format.read u).isNaN=nanB u:=by
 have N:FloatKind.f64.format.signWeight=9223372036854775808:=e8N;have f:FloatKind.f64.format.binade=4503599627370496:=e8N;have E:FloatKind.f64.format.infRung=9218868437227405312:=e8N;unfold Ieee.Format.read nanB;simp only[N,f,E];split
 ·rw[d0f f6J];rfl
 ·split
  ·rw[d0f f6J];rfl
  ·split
   ·rw[d0f f6J];rfl
   ·rw[d0t f6J];rfl
theorem z2b(u:Nat):(FloatKind.f64.format.order u u != some .eq)=nanB u:=by
 unfold Ieee.Format.order;rw[y5p,<- z2r];cases(FloatKind.f64.format.read u).isNaN<;>rfl
theorem y0s(u:Nat)(w:World):Calls prog 188 #[.float .f64 u] w fun e w'=>e=.returned (.bool (nanB u))/\w'=w:=by
 have e:=z2b u;go_enter func188,ntmps188;exact t6u
def rankN(u:Nat):Int:=if nanB u then 18446744073709551615 else if u<9223372036854775808 then(u:Int)+9223372036854775808 else 18446744073709551615-u
theorem z5L{u:Nat}(h:u<9223372036854775808):bits .or .u64 (u:Int) 9223372036854775808=(u:Int)+9223372036854775808:=by
 unfold bits;simp only[]
 have e:(BitVec.ofInt IntKind.u64.bits (u:Int)|||BitVec.ofInt IntKind.u64.bits 9223372036854775808).toNat=u+9223372036854775808:=by
  rw[BitVec.toNat_or,BitVec.toNat_ofInt,BitVec.toNat_ofInt]
  have N:((u:Int)%((2^IntKind.u64.bits:Nat):Int)).toNat=u:=R0k
  have f:((9223372036854775808:Int)%((2^IntKind.u64.bits:Nat):Int)).toNat=9223372036854775808:=e8N;rw[N,f,Nat.or_comm];have:=Nat.two_pow_add_eq_or_of_lt (i:=63) (b:=u) f6J 1;rw[(e8N:(2:Nat)^63*1=9223372036854775808)]at this;omega
 rw[e,IntWalk.u64_in _ ⟨f6J,f6J⟩];omega
theorem z6r{u:Nat}(h:u<18446744073709551616):bits .xor .u64 IntKind.u64.max (u:Int)=18446744073709551615-(u:Int):=by
 unfold bits;simp only[]
 have e:(BitVec.ofInt IntKind.u64.bits IntKind.u64.max ^^^ BitVec.ofInt IntKind.u64.bits (u:Int)).toNat=18446744073709551615-u:=by
  rw[(e8N:BitVec.ofInt IntKind.u64.bits IntKind.u64.max=BitVec.allOnes IntKind.u64.bits),BitVec.allOnes_xor,BitVec.toNat_not,BitVec.toNat_ofInt]
  have N:((u:Int)%((2^IntKind.u64.bits:Nat):Int)).toNat=u:=R0k
  rw[N];rfl
 rw[e,IntWalk.u64_in _ ⟨f6J,f6J⟩];omega
theorem y3J(u:Nat)(w:World)(B:u<18446744073709551616):Calls prog 343 #[.float .f64 u] w fun e w'=>e=.returned (.int .u64 (rankN u))/\w'=w:=by
 have i:=O (x3l u w);have j:=O (y0s u w);unfold rankN
 cases hn:nanB u with
 | true =>
  rw[hn]at j;rw[if_pos rfl];exact n1v
 | false =>
  rw[hn]at j;rw[if_neg e8N];by_cases X:u<9223372036854775808
  ·rw[if_pos X];have N:¬(9223372036854775808:Int)<=(u:Int):=f6J;have y:=z5L X;have o:(0:Int)<=(u:Int):=f6J;have E:(u:Int)<9223372036854775808:=f6J;generalize(u:Int)=x at *;exact n1v
  ·rw[if_neg X];have N:(9223372036854775808:Int)<=(u:Int):=f6J;have J:=z6r B;go_enter func343,ntmps343;go_wp2_with fail;refine(V i).mono ?_;rintro e w ⟨rfl,rfl⟩;go_wp2_with fail;refine(V j).mono ?_;rintro e w ⟨rfl,rfl⟩;go_wp2;go_ret;refine⟨?_,rfl⟩;rw[<- J];rfl
def okAt(k:Nat)(c:Int):Prop:=if k=0 then 65<=c/\c<=90 else 97<=c/\c<=122
theorem x9h(l:List Int):Scn.name l=true↔(l.length=4/\∀k,k<4->okAt k (l.getD k 0)):=by
 unfold Scn.name;rw[decide_eq_true_iff];constructor
 ·rintro⟨T,D,Z,R,H,p⟩;refine⟨T,fun k G=>?_⟩;unfold okAt;obtain rfl | rfl | rfl | rfl:k=0\/k=1\/k=2\/k=3:=by omega
  ·exact⟨D,Z⟩
  ·exact R
  ·exact H
  ·exact p
 ·rintro⟨T,h⟩;exact⟨T,(h 0 f6J).1,(h 0 f6J).2,h 1 f6J,h 2 f6J,h 3 f6J⟩
theorem y0Z(s:ByteArray)(w:World):Calls prog 340 #[.string s] w (x0c w (Scn.name (nums s))):=by
 have d:=nums_length s;by_cases X:s.size=4
 ·have S:Hid ((∀k,k<4->okAt k ((nums s).getD k 0))->∀R,Bw w R->x0c w (Scn.name (nums s)) (.returned (.bool true)) R):=fun h R C=>⟨by rw[(x9h _).2 ⟨f6J,h⟩],C⟩
  have D:Hid (∀k,k<4->¬okAt k ((nums s).getD k 0)->∀R,Bw w R->x0c w (Scn.name (nums s)) (.returned (.bool false)) R):=fun k G h R C=>by
   have:Scn.name (nums s)=false:=by
    cases hn:Scn.name (nums s)with
    | false=>rfl
    | true=>exact absurd (((x9h _).1 hn).2 k G) h
   exact⟨by rw[this],C⟩
  have E:=O (fun k=>(y3D s).at k);have F:((s.size:Int) != 4)=false:=(by rw[X];rfl);go_enter func340,ntmps340;go_wp2;go_loopw[3,4] (fun _ _ wr=>∃k:Nat,wr=w.iter s k/\k<=4/\∀j,j<k->okAt j ((nums s).getD j 0)) (fun _ _ wr=>4-wr.iterPos w.heap.size)
  case atStart=>exact⟨0,rfl,f6J,fun j K=>absurd K (Nat.not_lt_zero _)⟩
  case round =>
   obtain⟨k,rfl,G,y⟩:=hrel;have Z:=O y;by_cases H:k<4
   ·have n:=fun N=>run_next_any (P:=prog) w s k N f6J;obtain⟨o,z⟩:=V E k;rcases Int.lt_or_le ((nums s).getD k 0) 128 with a | hhi
    ·obtain⟨g,Q⟩:=y7f s k f6J a;rw[g,Q]at n;have B:=O (V D k H)
     have f:Hid (okAt k ((nums s).getD k 0)->∀j,j<k+1->okAt j ((nums s).getD j 0)):=fun h j K=>by
      rcases Nat.lt_or_ge j k with hj2 | hj2
      ·exact V Z j hj2
      ·obtain rfl:j=k:=f6J;exact h
     have b:4-(k+1)<4-(w.iter s k).iterPos w.heap.size:=(by rw[World.iterPos_iter];exact f6J);generalize hcg:(nums s).getD k 0=c at n o z a B f;by_cases I:k=0
     ·subst I;by_cases i:65<=c
      ·by_cases U:c<=90
       ·have L:=O (V f ⟨i,U⟩);go_wp2
        go_roundw
        case rel=>exact⟨0+1,rfl,f6J,V L⟩
        case measure=>rw[World.iterPos_iter];exact b
       ·have T:=V B (fun h=>U h.2) (w.iter s (0+1)) ((b0r).alloc (l0r _) _);exact U7H
      ·have T:=V B (fun h=>i h.1) (w.iter s (0+1)) ((b0r).alloc (l0r _) _);exact U7H
     ·have Y:((k:Int)==0)=false:=b0f f6J;have J:okAt k c=(97<=c/\c<=122):=(by unfold okAt;rw[if_neg I]);rw[J]at B f;by_cases i:97<=c
      ·by_cases U:c<=122
       ·have L:=O (V f ⟨i,U⟩);go_wp2
        go_roundw
        case rel=>exact⟨k+1,rfl,f6J,V L⟩
        case measure=>rw[World.iterPos_iter];exact b
       ·have T:=V B (fun h=>U h.2) (w.iter s (k+1)) ((b0r).alloc (l0r _) _);exact U7H
      ·have T:=V B (fun h=>i h.1) (w.iter s (k+1)) ((b0r).alloc (l0r _) _);exact U7H
    ·obtain⟨g,Q,t,A⟩:=z1f s k f6J hhi;have v:=z4z s k;have T:=V D k H (fun h=>by unfold okAt at h;split at h<;>omega) (w.iter s (k+(Utf8.decode s k).2)) ((b0r).alloc (l0r _) _);by_cases I:k=0
     ·subst I;rw[Nat.zero_add]at T n;exact U7H
     ·have Y:((k:Int)==0)=false:=b0f f6J;exact U7H
   ·obtain rfl:k=4:=f6J;have n:=fun N=>run_next_end (P:=prog) w s 4 N f6J;have T:=V S (V Z) (w.iter s 4) ((b0r).alloc (l0r _) _);go_wp2;go_ret;exact T
 ·have T:x0c w (Scn.name (nums s)) (.returned (.bool false)) w:=by
   have:Scn.name (nums s)=false:=by
    cases hn:Scn.name (nums s)with
    | false=>rfl
    | true=>exact absurd ((x9h _).1 hn).1 f6J
   exact⟨by rw[this],b0r⟩
  have F:((s.size:Int) != 4)=true:=P8P;go_enter func340,ntmps340;exact U7H
def cmpI(a b:Int):Int:=if a<b then -1 else if b<a then 1 else 0
theorem x7O(a:Int)(w:World):Calls prog 344 #[.int .u64 a] w fun e w'=>e=.returned (.bool false)/\w'=w:=by
 have h:(a != a)=false:=M7L;go_enter func344,ntmps344;exact t6u
theorem y1G(a b:Int)(w:World):Calls prog 342 #[.int .u64 a,.int .u64 b] w fun e w'=>e=.returned (.int .i64 (cmpI a b))/\w'=w:=by
 have i:=O (x7O a w);have j:=O (x7O b w);unfold cmpI;by_cases D:a<b
 ·rw[if_pos D];exact v9i
 ·rw[if_neg D];by_cases Z:b<a
  ·rw[if_pos Z];exact v9i
  ·rw[if_neg Z];exact v9i
theorem x7G(u v:Nat)(w:World)(B:u<18446744073709551616)(N:v<18446744073709551616):Calls prog 341 #[.float .f64 u,.float .f64 v] w fun e w'=>e=.returned (.int .i64 (cmpI (rankN u) (rankN v)))/\w'=w:=by
 have i:=O (y3J u w B);have j:=O (y3J v w N);have S:=O (y1G (rankN u) (rankN v) w);go_enter func341,ntmps341;go_wp2_with fail;refine(V i).mono ?_;rintro e w ⟨rfl,rfl⟩;go_wp2_with fail;refine(V j).mono ?_;rintro e w ⟨rfl,rfl⟩;go_wp2_with fail;refine(V S).mono ?_;rintro e w ⟨rfl,rfl⟩;exact t6u
theorem y1n{u:Nat}(h:u<18446744073709551616):(!nanB u&&decide (0<=cmpI (rankN u) (rankN 0)))=Cn.weight u:=by
 have M:rankN 0=9223372036854775808:=e8N;rw[M];by_cases E:nanB u=true
 ·rw[E];have:9218868437227405312<u%9223372036854775808:=o0d E;unfold Cn.weight;rw[d0f (p:=u<=9218868437227405312) f6J];rfl
 ·have L:nanB u=false:=(by simpa using E);have:¬9218868437227405312<u%9223372036854775808:=of_decide_eq_false L;by_cases X:u<9223372036854775808
  ·have e:rankN u=(u:Int)+9223372036854775808:=by unfold rankN;rw[L,if_neg e8N,if_pos X]
   have I:0<=cmpI (rankN u) 9223372036854775808:=by
    rw[e];unfold cmpI;rw[if_neg f6J];split<;>decide
   unfold Cn.weight;rw[L,d0t I,d0t (p:=u<=9218868437227405312) f6J];rfl
  ·have e:rankN u=18446744073709551615-(u:Int):=by unfold rankN;rw[L,if_neg e8N,if_neg X]
   have I:¬0<=cmpI (rankN u) 9223372036854775808:=by
    rw[e];unfold cmpI;rw[if_pos f6J];decide
   unfold Cn.weight;rw[L,d0f I,d0f (p:=u<=9218868437227405312) f6J];rfl
theorem x2J(w:World)(a b:Obj):Bw w ((w.alloc a).alloc b):=((b0r).alloc (l0r _) _).alloc M7K _
def numB(k:Int)(r:Rec):Bool:=decide ((Cn.rowK k).low<=r.n/\r.n<=(Cn.rowK k).high)
theorem x0i{w w1:World}{a:Obj}{cs:Array Value}{t:TypeId}{j:Nat}{v:Value}(C:Below ((w.alloc a).alloc (.cells cs t)).heap.size ((w.alloc a).alloc (.cells cs t)) w1)(h:cs[j]?=some v):w1.cell? ⟨w.heap.size+1,j,none⟩=some v:=by
 have T:((w.alloc a).alloc (.cells cs t)).heap[w.heap.size+1]?=some (.cells cs t (0,0)):=N6l
 have D:w1.heap[w.heap.size+1]?=some (.cells cs t (0,0)):=by
  rw[C.block _ M7K,T]
 have K:j<cs.size:=(by grind);rw[cell_of (j:=j) D K];simp[Array.getD,K]at h ⊢;simpa[Array.getElem?_eq_getElem K]using h
theorem x2f{w:World}{b i:Nat}{v:Value}(h:w.cell? ⟨b,i,none⟩=some v)(o:Obj):(w.alloc o).cell? ⟨b,i,none⟩=some v:=by
 rw[World.cell?_alloc_lt _ _ _ (x0a h)];exact h
theorem y0D(k:Int)(r:Rec)(vt:Value)(w:World)(Y:Glob w)(G:I64 k)(F:I64 r.n):Calls prog 335 #[shV k,recV r vt] w (x0c w (numB k r)):=by
 have U:=x2J w (.cells #[.int .i64 k] 257) (.cells #[.int .i64 r.kind,.int .i64 r.lo,.int .i64 r.hi,.int .i64 r.n,vt,.string r.name,.string r.other,.float .f64 r.wt] 67);have K:=O (x6V k ((w.alloc (.cells #[.int .i64 k] 257)).alloc (.cells #[.int .i64 r.kind,.int .i64 r.lo,.int .i64 r.hi,.int .i64 r.n,vt,.string r.name,.string r.other,.float .f64 r.wt] 67)) (Y.on U) G);unfold numB shV recV rowV at *;generalize Cn.rowK k=q at *;obtain⟨R,t⟩:=F;generalize r.n=n at *;by_cases D:q.low<=n
 ·by_cases Z:n<=q.high
  ·rw[d0t ⟨D,Z⟩];have g:=d0t D;have L:=d0t Z;exact f5W
  ·rw[d0f (fun h=>Z h.2)];have g:=d0t D;have L:=d0f Z;exact f5W
 ·rw[d0f (fun h=>D h.1)];have g:=d0f D;exact f5W
def weiB(k:Int)(r:Rec):Bool:=if(Cn.rowK k).wei=true then Cn.weight r.wt else decide (r.wt=0)
theorem y2K(k:Int)(r:Rec)(vt:Value)(w:World)(F:Glob w)(G:I64 k)(D:r.wt<18446744073709551616):Calls prog 339 #[shV k,recV r vt] w (x0c w (weiB k r)):=by
 have U:=x2J w (.cells #[.int .i64 k] 257) (.cells #[.int .i64 r.kind,.int .i64 r.lo,.int .i64 r.hi,.int .i64 r.n,vt,.string r.name,.string r.other,.float .f64 r.wt] 67);have K:=O (x6V k ((w.alloc (.cells #[.int .i64 k] 257)).alloc (.cells #[.int .i64 r.kind,.int .i64 r.lo,.int .i64 r.hi,.int .i64 r.n,vt,.string r.name,.string r.other,.float .f64 r.wt] 67)) (F.on U) G);unfold weiB shV recV rowV at *;generalize Cn.rowK k=q at *;have z:=fld8 q;rw[<- y1n D];have KN:=O (fun w=>y0s r.wt w);have s:=O (fun w=>x7G r.wt 0 w D e8N);have Y:=O (fun w=>x3l r.wt w);generalize r.n=n,r.lo=lo at *;generalize r.hi=hi,r.name=Z at *;generalize r.other=ot,r.wt=X at *;generalize cmpI (rankN X) (rankN 0)=c at *
 cases hw:q.wei with
 | true =>
  rw[if_pos rfl];rw[hw]at z K
  cases hn:nanB X with
  | true =>
   rw[hn]at KN;go_enter func339,ntmps339;go_wp2_with fail;refine c0m K fun Q E=>?_;have J:=x0i (j:=7) E rfl;have C:=x0b U E;go_wp2_with fail;refine c1m (V KN _) fun A P=>?_;subst A;go_wp2;go_ret;exact⟨rfl,C⟩
  | false =>
   rw[hn]at KN;by_cases I:0<=c
   ·rw[d0t I];have g:=d0t I;exact m0x
   ·rw[d0f I];have g:=d0f I;exact m0x
 | false =>
  rw[if_neg e8N];rw[hw]at z K;by_cases T:X=0
  ·rw[d0t T];subst T;exact N7n
  ·rw[d0f T];have y:((X:Int)==0)=false:=b0f f6J;exact N7n
theorem z1Z(s:ByteArray):Cn.nameL s=Scn.name (nums s):=by
 unfold Cn.nameL Scn.name nums Scn.small;generalize s.data.toList=l
 match l with
 | []=>rfl
 | [_]=>rfl
 | [_,_]=>rfl
 | [_,_,_]=>rfl
 | [a,b,c,d]=>grind
 | _::_::_::_::_::_=>grind
theorem l_ne{b:ByteArray}(h:¬b.size=0):¬b.toList=[]:=fun e=>h (by
 have:b.data.toList.length=0:=I7C;show b.data.size=0;rw[<- Array.length_toList]
 exact this)
theorem z5n{b:ByteArray}(h:¬b.size=0):b.toList.isEmpty=false:=List.isEmpty_eq_false_iff.2 (l_ne h)
theorem z5o{b:ByteArray}(h:b.size=0):b=⟨#[]⟩:=by
 cases b with
 | mk a =>
  have:a.size=0:=h;rw[Array.eq_empty_of_size_eq_zero this]
def namB(k:Int)(r:Rec):Bool:=if(Cn.rowK k).scr=1 then Cn.nameL r.name&&decide (r.other.size=0)else if(Cn.rowK k).scr=2 then Cn.nameL r.name&&(Cn.nameL r.other&&decide (r.name≠r.other))else decide (r.name.size=0)&&decide (r.other.size=0)
theorem x4r(s:ByteArray)(w:World):Calls prog 340 #[.string s] w (x0c w (Cn.nameL s)):=by
 rw[z1Z];exact y0Z s w
theorem y8L(k:Int)(r:Rec)(vt:Value)(w:World)(Y:Glob w)(G:I64 k):Calls prog 333 #[shV k,recV r vt] w (x0c w (namB k r)):=by
 have U:=x2J w (.cells #[.int .i64 k] 257) (.cells #[.int .i64 r.kind,.int .i64 r.lo,.int .i64 r.hi,.int .i64 r.n,vt,.string r.name,.string r.other,.float .f64 r.wt] 67);have K:=O (x6V k ((w.alloc (.cells #[.int .i64 k] 257)).alloc (.cells #[.int .i64 r.kind,.int .i64 r.lo,.int .i64 r.hi,.int .i64 r.n,vt,.string r.name,.string r.other,.float .f64 r.wt] 67)) (Y.on U) G);unfold namB shV recV rowV at *;generalize Cn.rowK k=q at *;have z:=fld7 q;have KN:=O (fun w=>x4r r.name w);have s:=O (fun w=>x4r r.other w);generalize r.n=n,r.lo=lo at *;generalize r.hi=hi,r.name=Z at *;generalize r.other=ot,r.wt=X at *;generalize Cn.nameL Z=a,Cn.nameL ot=b at *;by_cases J:q.scr=1
 ·rw[if_pos J];rw[J]at z K
  cases a with
  | false =>
   show Calls prog _ _ w (x0c w false);go_enter func333,ntmps333;go_wp2_with fail;refine c0m K fun Q E=>?_;have L:=x0i (j:=5) E rfl;have I:=x0i (j:=6) E rfl;have C:=x0b U E;go_wp2_with fail;refine c1m (V KN _) fun A F=>?_;have B:A.cell? ⟨w.heap.size+1,6,none⟩=_:=(F.cell (x0a I)).trans I;have C:=x0b C F;go_wp2;go_ret;exact⟨rfl,C⟩
  | true =>
   by_cases T:ot.size=0
   ·rw[d0t T];obtain rfl:=z5o T;show Calls prog _ _ w (x0c w true);exact U4B
   ·rw[d0f T];have f:=l_ne T;have H:=z5n T;show Calls prog _ _ w (x0c w false);exact U4B
 ·rw[if_neg J];have P:(q.scr==1)=false:=b0f J;by_cases d:q.scr=2
  ·rw[if_pos d];rw[d]at z K
   cases a with
   | false =>
    show Calls prog _ _ w (x0c w false);go_enter func333,ntmps333;go_wp2_with fail;refine c0m K fun Q E=>?_;have L:=x0i (j:=5) E rfl;have I:=x0i (j:=6) E rfl;have C:=x0b U E;go_wp2_with fail;refine c1m (V KN _) fun A F=>?_;have B:A.cell? ⟨w.heap.size+1,6,none⟩=_:=(F.cell (x0a I)).trans I;have C:=x0b C F;go_wp2;go_ret;exact⟨rfl,C⟩
   | true =>
    cases b with
    | false =>
     show Calls prog _ _ w (x0c w false);go_enter func333,ntmps333;go_wp2_with fail;refine c0m K fun Q E=>?_;have L:=x0i (j:=5) E rfl;have I:=x0i (j:=6) E rfl;have C:=x0b U E;go_wp2_with fail;refine c1m (V KN _) fun A F=>?_;have M:A.cell? ⟨w.heap.size+1,5,none⟩=_:=(F.cell (x0a L)).trans L;have B:A.cell? ⟨w.heap.size+1,6,none⟩=_:=(F.cell (x0a I)).trans I;have C:=x0b C F;go_wp2_with fail;refine c1m (V s _) fun u c=>?_;have M:u.cell? ⟨w.heap.size+1,5,none⟩=_:=(c.cell (x0a M)).trans M;have B:u.cell? ⟨w.heap.size+1,6,none⟩=_:=(c.cell (x0a B)).trans B;have C:=x0b C c;go_wp2;go_ret;exact⟨rfl,C⟩
    | true =>
     by_cases T:Z=ot
     ·rw[d0f (fun h=>h T)];subst T;show Calls prog _ _ w (x0c w false);exact p2L
     ·rw[d0t T]
      have f:¬Z.toList=ot.toList:=fun e=>T (by
       rw[ByteArray.toList_eq,ByteArray.toList_eq]at e;cases Z;cases ot
       simp_all)
      have N:(Z.toList==ot.toList)=false:=b0f f;show Calls prog _ _ w (x0c w true);exact p2L
  ·rw[if_neg d];have R:(q.scr==2)=false:=b0f d;by_cases T:Z.size=0
   ·rw[d0t T];obtain rfl:=z5o T;by_cases D:ot.size=0
    ·rw[d0t D];obtain rfl:=z5o D;show Calls prog _ _ w (x0c w true);exact U0P
    ·rw[d0f D];have f:=l_ne D;have H:=z5n D;show Calls prog _ _ w (x0c w false);exact U0P
   ·rw[d0f T];have f:=l_ne T;have H:=z5n T;show Calls prog _ _ w (x0c w false);exact U0P
def tarB(k:Int)(r:Rec):Bool:=decide ((Cn.rowK k).least<=(r.to.length:Int)/\(r.to.length:Int)<=(Cn.rowK k).most)&&r.to.all Cn.scalar
theorem y1g(k:Int)(r:Rec)(vt:Value)(w:World)(Y:Glob w)(G:I64 k)(X:Sk .i32 w vt r.to):Calls prog 338 #[shV k,recV r vt] w (x0c w (tarB k r)):=by
 have U:=x2J w (.cells #[.int .i64 k] 257) (.cells #[.int .i64 r.kind,.int .i64 r.lo,.int .i64 r.hi,.int .i64 r.n,vt,.string r.name,.string r.other,.float .f64 r.wt] 67);have K:=O (x6V k ((w.alloc (.cells #[.int .i64 k] 257)).alloc (.cells #[.int .i64 r.kind,.int .i64 r.lo,.int .i64 r.hi,.int .i64 r.n,vt,.string r.name,.string r.other,.float .f64 r.wt] 67)) (Y.on U) G);unfold tarB shV recV rowV at *;generalize Cn.rowK k=q at *;have d:Hid (∀W,Bw w W->Calls prog 190 #[vt] W fun e R=>e=.returned (.bool (r.to.all Cn.scalar))/\R=W):=fun W h=>y9R vt r.to W (X.below h);obtain⟨s,M,rfl,_,_⟩:=X.shape;generalize r.n=n,r.lo=lo at *;generalize r.hi=hi,r.name=I at *;generalize r.other=ot,r.wt=wt,r.to.all Cn.scalar=b,r.to.length=m at *;by_cases D:q.least<=(m:Int)
 ·have g:=d0t D;by_cases Z:(m:Int)<=q.most
  ·have L:=d0t Z;rw[d0t ⟨D,Z⟩,Bool.true_and];go_enter func338,ntmps338;go_wp2_with fail;refine c0m K fun Q E=>?_;have B:=x0i (j:=4) E rfl;have C:=x0b U E;have F:=x2f B;go_wp2_with fail;refine c1m (V d _ (C.alloc C.size _)) fun A P=>?_;subst A;go_wp2;go_ret;exact⟨rfl,C.alloc C.size _⟩
  ·have L:=d0f Z;rw[d0f (fun h=>Z h.2),Bool.false_and];exact W1m
 ·have g:=d0f D;rw[d0f (fun h=>D h.1),Bool.false_and];exact W1m
theorem x3a(c:Int)(w:World)(I:I64 c):Calls prog 349 #[.int .i64 c] w fun e w'=>e=.returned (.bool (Cn.scalar c))/\w'=w:=by
 have K:=O (x2w c w I);by_cases A:0<=c/\c<=1114111
 ·have e:isPt c=true:=d0t A;rw[e]at K;have t:IntKind.i32.wrap c=c:=IntWalk.i32_in _ ⟨f6J,f6J⟩;have j:=O (y1l c w ⟨f6J,f6J⟩);go_enter func349,ntmps349;go_wp2_with fail;refine c0m K fun Q H=>?_;subst Q;go_wp2_with fail;refine c0m j fun Q H=>?_;subst Q;go_wp2;go_ret;exact⟨rfl,rfl⟩
 ·have e:isPt c=false:=d0f A;rw[e]at K;have f:Cn.scalar c=false:=d0f f6J;rw[f];go_enter func349,ntmps349;exact n3j
theorem x5C(k:Int)(r:Rec)(vt:Value)(w:World)(z:RecFit r):Calls prog 354 #[shV k,recV r vt] w (x0c w (decide (r.lo=0/\r.hi=0))):=by
 have C:=x2J w (.cells #[.int .i64 k] 311) (.cells #[.int .i64 r.kind,.int .i64 r.lo,.int .i64 r.hi,.int .i64 r.n,vt,.string r.name,.string r.other,.float .f64 r.wt] 67);have a:=z.lo;have p:=z.hi;unfold shV recV at *;generalize r.lo=lo,r.hi=hi at *;by_cases D:lo=0
 ·by_cases Z:hi=0
  ·rw[d0t ⟨D,Z⟩];subst D Z;exact P3y
  ·rw[d0f (fun h=>Z h.2)];subst D;have L:(hi==0)=false:=b0f Z;exact P3y
 ·rw[d0f (fun h=>D h.1)];have g:(lo==0)=false:=b0f D;exact P3y
theorem x5D(k:Int)(r:Rec)(vt:Value)(w:World)(z:RecFit r):Calls prog 351 #[shV k,recV r vt] w (x0c w (decide (r.lo=r.hi)&&Cn.scalar r.lo)):=by
 have C:=x2J w (.cells #[.int .i64 k] 310) (.cells #[.int .i64 r.kind,.int .i64 r.lo,.int .i64 r.hi,.int .i64 r.n,vt,.string r.name,.string r.other,.float .f64 r.wt] 67);have a:=z.lo;have p:=z.hi;have K:=O (fun w=>x3a r.lo w z.lo);unfold shV recV at *;generalize r.lo=lo,r.hi=hi at *;by_cases D:lo=hi
 ·rw[d0t D,Bool.true_and];subst D;have g:(lo==lo)=true:=beq_self_eq_true _;go_enter func351,ntmps351;go_wp2_with fail;refine c1m (V K _) fun A P=>?_;subst A;go_wp2;go_ret;exact⟨rfl,C⟩
 ·rw[d0f D,Bool.false_and];have g:(lo==hi)=false:=b0f D;go_enter func351,ntmps351;exact g4c
def spanB(r:Rec):Bool:=decide (0<=r.lo/\r.lo<=1114111/\0<=r.hi/\r.hi<=1114111/\r.lo<=r.hi)
theorem x2j(k:Int)(r:Rec)(vt:Value)(w:World)(z:RecFit r):Calls prog 346 #[shV k,recV r vt] w (x0c w (spanB r)):=by
 have C:=x2J w (.cells #[.int .i64 k] 307) (.cells #[.int .i64 r.kind,.int .i64 r.lo,.int .i64 r.hi,.int .i64 r.n,vt,.string r.name,.string r.other,.float .f64 r.wt] 67);have a:=z.lo;have p:=z.hi;have i:=O (fun w=>x2w r.lo w z.lo);have j:=O (fun w=>x2w r.hi w z.hi);unfold spanB shV recV at *;generalize r.lo=lo,r.hi=hi at *;by_cases D:0<=lo/\lo<=1114111
 ·have N:isPt lo=true:=d0t D;rw[N]at i;by_cases Z:0<=hi/\hi<=1114111
  ·have f:isPt hi=true:=d0t Z;rw[f]at j;by_cases R:lo<=hi
   ·rw[d0t ⟨D.1,D.2,Z.1,Z.2,R⟩];have t:=d0t R;exact m8c
   ·rw[d0f (fun h=>R h.2.2.2.2)];have t:=d0f R;exact m8c
  ·have f:isPt hi=false:=d0f Z;rw[f]at j;rw[d0f (fun h=>Z ⟨h.2.2.1,h.2.2.2.1⟩)];exact m8c
 ·have N:isPt lo=false:=d0f D;rw[N]at i;rw[d0f (fun h=>D ⟨h.1,h.2.1⟩)];go_enter func346,ntmps346;go_wp2_with fail;refine c1m (V i _) fun A P=>?_;subst A;go_wp2;go_ret;exact⟨rfl,C⟩
def shiftB(r:Rec):Bool:=spanB r&&(decide (r.to.length=1)&&(Cn.scalar (r.to.getD 0 0)&&(Cn.scalar (r.to.getD 0 0+r.hi-r.lo)&&(decide (r.to.getD 0 0<55296)==decide (r.to.getD 0 0+r.hi-r.lo<55296)))))
theorem x4P(k:Int)(r:Rec)(vt:Value)(w:World)(z:RecFit r)(X:Sk .i32 w vt r.to):Calls prog 347 #[shV k,recV r vt] w (x0c w (shiftB r)):=by
 have U:=x2J w (.cells #[.int .i64 k] 309) (.cells #[.int .i64 r.kind,.int .i64 r.lo,.int .i64 r.hi,.int .i64 r.n,vt,.string r.name,.string r.other,.float .f64 r.wt] 67);have i:=O (x2j k r vt ((w.alloc (.cells #[.int .i64 k] 309)).alloc (.cells #[.int .i64 r.kind,.int .i64 r.lo,.int .i64 r.hi,.int .i64 r.n,vt,.string r.name,.string r.other,.float .f64 r.wt] 67)) z);have d:=z.len;unfold shiftB
 cases hsp:spanB r with
 | false =>
  rw[hsp]at i;rw[Bool.false_and];unfold shV recV at *;go_enter func347,ntmps347;go_wp2_with fail;refine c0m i fun Q E=>?_;have C:=x0b U E;go_wp2;go_ret;exact⟨rfl,C⟩
 | true =>
  rw[hsp]at i;rw[Bool.true_and];by_cases D:r.to.length=1
  ·rw[d0t D,Bool.true_and];obtain⟨b,S,M,rfl,f,c,I⟩:=X.place f6J;have J:=I 0 f6J;have L:=X.1.i32at 0;obtain⟨K,p,v,a,G⟩:0<=r.lo/\r.lo<=1114111/\0<=r.hi/\r.hi<=1114111/\r.lo<=r.hi:=o0d hsp;rw[D]at i f U;have F:=x0a J;have H:=O (fun w=>x3a (r.to.getD 0 0) w ⟨f6J,f6J⟩);have Y:=O (fun w=>x3a (r.to.getD 0 0+r.hi-r.lo) w ⟨f6J,f6J⟩);rw[D];unfold shV recV at *;generalize r.n=n,r.lo=lo at *;generalize r.hi=hi,r.name=Z at *;generalize r.other=ot,r.wt=wt,r.to.getD 0 0=x at *;have N:IntKind.i64.wrap (x+hi)=x+hi:=IntWalk.i64_in _ ⟨f6J,f6J⟩;have l:IntKind.i64.wrap (x+hi-lo)=x+hi-lo:=IntWalk.i64_in _ ⟨f6J,f6J⟩;have o:IntKind.i64.wrap x=x:=IntWalk.i64_in _ ⟨f6J,f6J⟩
   cases ha:Cn.scalar x with
   | false =>
    rw[ha]at H;rw[Bool.false_and];go_enter func347,ntmps347;go_wp2_with fail;refine c0m i fun Q E=>?_;have t:=x0i (j:=1) E rfl;have q:=x0i (j:=2) E rfl;have B:=x0i (j:=4) E rfl;have C:=x0b U E;have T:Q.cell? ⟨b,S,none⟩=some (.int .i32 x):=(C.cell (by exact F)).trans J;go_wp2_with fail;refine c1m (V H _) fun A P=>?_;subst A;go_wp2;go_ret;exact⟨rfl,C⟩
   | true =>
    rw[ha]at H;rw[Bool.true_and]
    cases hz:Cn.scalar (x+hi-lo)with
    | false =>
     rw[hz]at Y;rw[Bool.false_and];exact t2a
    | true =>
     rw[hz]at Y;rw[Bool.true_and];exact t2a
  ·rw[d0f D,Bool.false_and];have g:((r.to.length:Int) != 1)=true:=P8P;obtain⟨s,M,rfl,_,_⟩:=X.shape;unfold shV recV at *;generalize r.kind=kd,r.n=n,r.lo=lo,r.hi=hi at *;generalize r.name=Z,r.other=ot,r.wt=wt,r.to.length=m at *;go_enter func347,ntmps347;go_wp2_with fail;refine c0m i fun Q E=>?_;have B:=x0i (j:=4) E rfl;have C:=x0b U E;go_wp2;go_ret;exact⟨rfl,C⟩
def x2P(w:World)(b:Bool)(e:Ending)(w':World):Prop:=e=.returned (.bool b)/\w'=w
theorem x2P.mk{w:World}{b c:Bool}(h:c=b):x2P w b (.returned (.bool c)) w:=t5o
theorem y2v(s:ByteArray)(w:World):Calls prog 114 #[.string s] w (x2P w (Scn.name (nums s))):=by
 have d:=nums_length s;have q:=fun i k hi G w=>x2m s i k hi G w;have K:=fun k=>(y3D s).at k;have I:Hid (¬s.size=4->x2P w (Scn.name (nums s)) (.returned (.bool false)) w):=fun h=>x2P.mk (by unfold Scn.name;rw[d0f];exact f6J);have A:Hid (¬(65<=(nums s).getD 0 0/\(nums s).getD 0 0<=90)->x2P w (Scn.name (nums s)) (.returned (.bool false)) w):=fun h=>x2P.mk (by unfold Scn.name;rw[d0f];exact fun x=>h ⟨x.2.1,x.2.2.1⟩)
 have B:Hid (∀k,1<=k->k<4->¬(97<=(nums s).getD k 0/\(nums s).getD k 0<=122)->x2P w (Scn.name (nums s)) (.returned (.bool false)) w):=fun k D Z h=>x2P.mk (by
  unfold Scn.name;rw[d0f];intro x;obtain⟨_,_,_,u,p,t⟩:=x;have:k=1\/k=2\/k=3:=f6J;rcases this with e | e | e<;>subst e
  ·exact h u
  ·exact h p
  ·exact h t)
 have n:Hid (s.size=4->65<=(nums s).getD 0 0->(nums s).getD 0 0<=90->(∀k,1<=k->k<4->97<=(nums s).getD k 0/\(nums s).getD k 0<=122)->x2P w (Scn.name (nums s)) (.returned (.bool true)) w):=fun D Z R H=>x2P.mk (by
  unfold Scn.name;rw[d0t]
  exact⟨f6J,Z,R,H 1 f6J f6J,H 2 f6J f6J,H 3 f6J f6J⟩)
 by_cases f:s.size=4
 ·have o:=q 0 0 rfl f6J;obtain⟨U,X⟩:=K 0;have a:=O q;have E:=O K;have L:=O (V n f);have F:((s.size:Int) != 4)=false:=(by simp[f]);clear q K I n;generalize(nums s).getD 0 0=Y at *;by_cases J:Y<65
  ·exact G9l
  ·by_cases v:90<Y
   ·exact G9l
   ·have C:=O (V L f6J f6J);clear A L;go_enter func114,ntmps114;go_wp2;go_loop [3] (fun i=>∃k:Nat,i=.int .i64 k/\1<=k/\k<=4/\∀j,1<=j->j<k->97<=(nums s).getD j 0/\(nums s).getD j 0<=122) (fun i=>4-(intOf i).toNat)
    case atStart=>exact⟨1,rfl,f6J,f6J,fun j D Z=>f6J⟩
    case round =>
     clear o U X;obtain⟨k,rfl,M,r,S⟩:=hrel;by_cases g:k<4
     ·have G:=V a (k:Int) k rfl f6J;obtain⟨b1,m⟩:=V E k
      have P:Hid (97<=(nums s).getD k 0->(nums s).getD k 0<=122->∀j,1<=j->j<k+1->97<=(nums s).getD j 0/\(nums s).getD j 0<=122):=fun D Z j Q j2=>by
       by_cases e:j=k
       ·subst e;exact⟨D,Z⟩
       ·exact S j Q f6J
      have N:=O (V B k M g);clear S;generalize(nums s).getD k 0=c at *;by_cases y:c<97
      ·have T:=V N f6J;clear N P B C;exact U7I
      ·by_cases z:122<c
       ·have T:=V N f6J;clear N P B C;exact U7I
       ·have l:=O (V P f6J f6J);clear N P B C;go_wp2;go_round
        case rel=>exact⟨k+1,g2A,f6J,f6J,V l⟩
        case measure=>exact g7V
     ·obtain rfl:k=4:=f6J;have T:=V C S;clear B C S;exact U7I
 ·have T:=V I f;have F:((s.size:Int) != 4)=true:=P8P;clear I A B n q K;go_enter func114,ntmps114;exact U7I
theorem z5B(s:ByteArray):Cn.nameL s=Scn.name (nums s):=by
 unfold Cn.nameL Scn.name nums Scn.small;generalize s.data.toList=l
 match l with
 | []=>rfl
 | [_]=>rfl
 | [_,_]=>rfl
 | [_,_,_]=>rfl
 | [a,b,c,d] =>
  simp only[List.map_cons,List.map_nil,List.length_cons,List.length_nil,List.getD_cons_zero,List.getD_cons_succ];rw[decide_eq_decide];constructor
  ·intro h;exact⟨trivial,(f6J:65<=(a.toNat:Int)),(f6J:(a.toNat:Int)<=90),⟨(f6J:97<=(b.toNat:Int)),(f6J:(b.toNat:Int)<=122)⟩,⟨(f6J:97<=(c.toNat:Int)),(f6J:(c.toNat:Int)<=122)⟩,(f6J:97<=(d.toNat:Int)),(f6J:(d.toNat:Int)<=122)⟩
  ·rintro⟨_,D,Z,⟨R,H⟩,⟨p,F⟩,x,L⟩;have i:65<=(a.toNat:Int):=D;have U:(a.toNat:Int)<=90:=Z;have M:97<=(b.toNat:Int):=R;have Y:(b.toNat:Int)<=122:=H;have j:97<=(c.toNat:Int):=p;have q:(c.toNat:Int)<=122:=F;have S:97<=(d.toNat:Int):=x;have C:(d.toNat:Int)<=122:=L;omega
 | _::_::_::_::_::_ =>
  simp only[List.map_cons,List.length_cons];symm;rw[decide_eq_false_iff_not];omega
theorem x5r(s:ByteArray)(w:World):Calls prog 114 #[.string s] w fun e w'=>e=.returned (.bool (Cn.nameL s))/\w'=w:=by
 rw[z5B];exact y2v s w
def theLaid:List (String×DataW Unit):=Rows.idnaNewRow.laid
def rowD(r:Row9):DataW Unit:=.agg [.lit (.string r.word.data.toList),.lit (.int .i64 r.fam),.lit (.int .i64 r.least),.lit (.int .i64 r.most),.lit (.int .i64 r.low),.lit (.int .i64 r.high),.lit (.string r.said.data.toList),.lit (.int .i64 r.scr),.lit (.bool r.wei)]
theorem y8t:(Rows.laid_endonym_table_rows:DataW Unit)=.agg ((List.range 16).map fun k=>rowD (Cn.rowT k)):=f4x
theorem z7G : Tryz.prog.globalNamed "endonym/table.rows" = some 1 := f4x
theorem y7R:(prog.globals[1]?).map (·.type)=some 350:=f4x
theorem z6O{a b:ByteArray}(h:a.data.toList=b.data.toList):a=b:=by
 cases a;cases b;simp_all
def rowL(r:Row9):List Value:=[.string r.word,.int .i64 r.fam,.int .i64 r.least,.int .i64 r.most,.int .i64 r.low,.int .i64 r.high,.string r.said,.int .i64 r.scr,.bool r.wei]
section
variable {enc:TypeId×Value->Unit} {W:World} {base:Nat} {sp:Nat->Bool} {held:Bool}
theorem y9D{B:Nat}{cs:List Value}{r:Row9}{p:List MemPlace}(h:DataW.trod enc prog W base sp held B 313 cs=some (rowD r,p)):cs=rowL r:=by
 obtain⟨m,k,G,J,y,D,z⟩:=DataW.trod_struct underlying313 h;have c9:prog.cellsOf 313=9:=f4x;have o:prog.cellsOf 3=1:=f4x;have s:prog.cellsOf 9=1:=f4x;have K:prog.cellsOf 4=1:=f4x;rw[c9]at y
 match m,D,cs,y with
 | [y0,y1,y2,y3,y4,y5,y6,y7,y8],_,[v0,v1,v2,v3,v4,v5,v6,v7,v8],_ =>
  have hd:[y0.1,y1.1,y2.1,y3.1,y4.1,y5.1,y6.1,y7.1,y8.1]=[.lit (.string r.word.data.toList),.lit (.int .i64 r.fam),.lit (.int .i64 r.least),.lit (.int .i64 r.most),.lit (.int .i64 r.low),.lit (.int .i64 r.high),.lit (.string r.said.data.toList),.lit (.int .i64 r.scr),.lit (.bool r.wei)]:=by
   have:=congrArg Prod.fst J;simpa[rowD]using this.symm
  simp only[List.cons.injEq,and_true]at hd;obtain⟨d0,g,L,t,A,v,C,b,d8⟩:=hd;have X:=z 0 _ rfl;have i:=z 1 _ rfl;have U:=z 2 _ rfl;have M:=z 3 _ rfl;have Y:=z 4 _ rfl;have j:=z 5 _ rfl;have q:=z 6 _ rfl;have S:=z 7 _ rfl;have g8:=z 8 _ rfl;simp[o,s,K]at X i U M Y j q S g8;obtain⟨T,H,x,_⟩:=DataW.trod_string underlying9 X;obtain⟨n1,N,P,_⟩:=DataW.trod_int underlying3 i;obtain⟨n2,f,l,_⟩:=DataW.trod_int underlying3 U;obtain⟨a,E,c,_⟩:=DataW.trod_int underlying3 M;obtain⟨n4,I,F,_⟩:=DataW.trod_int underlying3 Y;obtain⟨n5,d,u,_⟩:=DataW.trod_int underlying3 j;obtain⟨n,Z,R,_⟩:=DataW.trod_string underlying9 q;obtain⟨n7,e7,Q,_⟩:=DataW.trod_int underlying3 S;obtain⟨b8,e8,q8⟩:=DataW.trod_bool underlying4 g8;rw[x]at d0;rw[P]at g;rw[l]at L;rw[c]at t;rw[F]at A;rw[u]at v;rw[R]at C;rw[Q]at b;rw[q8]at d8;simp only[DataW.lit.injEq,Lit.string.injEq,Lit.int.injEq,Lit.bool.injEq,true_and]at d0 g L t A v C b d8;simp only[List.cons.injEq,and_true]at H N f E I d Z e7 e8;rw[H,N,f,E,I,d,Z,e7,e8,z6O d0,g,L,t,A,v,z6O C,b,d8];rfl
end
theorem y0L:(theLaid.all fun x=>x.2.handleName?.isNone)=true:=f4x
theorem z0X:prog.cellsOf 313=9:=f4x
theorem glob_of{W:World}(h:laidMetH prog theLaid W):Glob W:=by
 rw[MakeChecks.laidMetH_plain _ _ _ y0L]at h;obtain⟨x,⟨c,E,f,B,p,q,Q,C,A,hd,_,_⟩,_⟩:=h;obtain rfl:=Option.some.inj (z7G.symm.trans Q);obtain rfl:=Option.some.inj (y7R.symm.trans C);obtain⟨M,m,_,J,y,P,L⟩:=DataW.trod_array underlying350 hd
 have n:M.map (·.1)=(List.range 16).map fun k=>rowD (Cn.rowT k):=by
  have D:=congrArg Prod.fst J;have Z:(Rows.laid_endonym_table_rows:DataW Unit)=.agg (M.map (·.1)):=D;rw[y8t]at Z;simpa using Z.symm
 intro k G
 have F:∃pk,M[k]?=some (rowD (Cn.rowT k),pk):=by
  have D:(M.map (·.1))[k]?=some (rowD (Cn.rowT k)):=by
   rw[n];simp[G]
  rw[List.getElem?_map,Option.map_eq_some_iff]at D;obtain⟨⟨a,b⟩,Z,R⟩:=D;exact⟨b,by rw[Z];simp at R;rw[R]⟩
 obtain⟨pk,F⟩:=F;have R:=L k G;rw[F,z0X]at R;have H:=y9D R
 have X:∀j v,(rowL (Cn.rowT k))[j]?=some v->W.cell? ⟨1,k*9+j,none⟩=some v:=fun j v N=>by
  have I:=World.var?_cell z7G A (k*9+j);rw[<- H]at N
  have K:j<9:=by
   rcases Nat.lt_or_ge j 9 with hh | hh
   ·exact hh
   ·rw[List.getElem?_eq_none U3s]at N;cases N
  rw[List.getElem?_take_of_lt K,List.getElem?_drop]at N;rw[I];simpa using N
 exact⟨X 0 _ rfl,X 1 _ rfl,X 2 _ rfl,X 3 _ rfl,X 4 _ rfl,X 5 _ rfl,X 6 _ rfl,X 7 _ rfl,X 8 _ rfl⟩
theorem own:ownKnob prog.godebug=none:=f4x
theorem laidOut:laidOutB prog=true:=f4x
theorem start_met(b:Os)(args:Array Value):laidMetH prog theLaid ((World.laidAll prog b theLaid).forCall (fun _ _=>0) ⟨#[],args,[]⟩).memory:=by
 rw[MakeChecks.laidMetH_plain _ _ _ y0L];exact laidMet_laidAll _ f4x f4x
theorem y2G(b:Os)(args:Array Value):((World.laidAll prog b theLaid).forCall (fun _ _=>0) ⟨#[],args,[]⟩).Shaped prog:=World.shaped_of_ZipB f4x f4x
theorem start_at{H:Type}{enc:TypeId×Value->H}{b:Os}{f:FuncId}{Z:Func}{s:OpenSpec}{B:List PathCond}(args:Array Value)
  (y:Input.okWideB Tryz.checked.prog ((World.laidAll prog b theLaid).forCall (fun _ _=>0) ⟨#[],args,[]⟩) f ⟨#[],args,[]⟩=true)
  (a:s.preRow enc Tryz.checked.prog Z B false theLaid ((World.laidAll prog b theLaid).forCall (fun _ _=>0) ⟨#[],args,[]⟩).memory args) :
  ∃(w:World) (A:Tape) (i:Input),w.os=b/\(w.forCall A i).Shaped Tryz.checked.prog/\i.vars=[]/\Input.okWide Tryz.checked.prog (w.forCall A i) .any w.heap.size f i /\
   s.preRow enc Tryz.checked.prog Z B false theLaid (w.forCall A i).memory i.args/\({}:Assume).holds Tryz.checked.prog (lone (Frame.enter Tryz.checked.prog f i.args .normal) [] (w.forCall A i)) :=
 ⟨World.laidAll prog b theLaid,fun _ _=>0,⟨#[],args,[]⟩,World.laidAll_os _ _ _,y2G b args,(Input.okWide_of_okWideB (base:=0) y).1,(Input.okWide_of_okWideB y).2,a,by
  simp only[Assume.holds]
  exact⟨M7K,M7K,fun _=>Modest.zero,M7K,M7K⟩⟩
