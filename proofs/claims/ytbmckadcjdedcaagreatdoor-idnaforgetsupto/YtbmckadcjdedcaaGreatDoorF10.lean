import Derived.Test.YtbmckadcjdedcaaGreatDoorF5
import Derived.Shelf.Abstract
import Derived.Lib.Walk
import Derived.WalkMore
import Derived.Test.YtbmckadcjdedcaaGreatDoorF16
import Derived.Test.YtbmckadcjdedcaaGreatDoorRows
import Derived.ProofKit
import Derived.OpenShut
import Derived.ShutString
import Derived.LaidMore
import Derived.Lay
import Derived.Stop.LaidErr
import Derived.Deep.DeepHandedRow
import Derived.Lib.LaidTab
import Derived.MakeChecks
import Derived.Shelf.Vars
set_option maxHeartbeats 4000000
set_option maxRecDepth 20000
namespace Go.Proofs.YtbmckadcjdedcaaGreatDoor
open Go.Proofs.Tryz
open Go.RowKit
section
variable{p:Prop}
theorem M2u(h:p:=by go_enter func333,ntmps333;go_wp2_with fail;refine c0m K fun Q E=>?_;have B:=x0i (j:=5) E rfl;have L:=x0i (j:=6) E rfl;have Y:=x0b A E;go_wp2_with fail;refine c1m (V KN _) fun d F=>?_;have I:d.cell? ⟨w.heap.size+1,5,none⟩=_:=(F.cell (x0a B)).trans B;have D:d.cell? ⟨w.heap.size+1,6,none⟩=_:=(F.cell (x0a L)).trans L;have Y:=x0b Y F;go_wp2_with fail;refine c1m (V M _) fun x s=>?_;have I:x.cell? ⟨w.heap.size+1,5,none⟩=_:=(s.cell (x0a I)).trans I;have D:x.cell? ⟨w.heap.size+1,6,none⟩=_:=(s.cell (x0a D)).trans D;have Y:=x0b Y s;go_wp2;go_ret;exact⟨rfl,Y⟩):p:=h
theorem r6H(h:p:=by go_enter func335,ntmps335;go_wp2_with fail;refine c0m K fun Q E=>?_;have N:=x0i (j:=3) E rfl;have Y:=x0b A E;have F:=x2k N;go_wp2;go_ret;exact⟨rfl,Y.alloc Y.size _⟩):p:=h
theorem m1s(h:p:=by go_enter func346,ntmps346;go_wp2_with fail;refine c1m (V H _) fun d N=>?_;subst d;go_wp2_with fail;refine c1m (V o _) fun d N=>?_;subst d;go_wp2;go_ret;exact⟨rfl,Y⟩):p:=h
theorem i9X(h:p:=by go_enter func338,ntmps338;go_wp2_with fail;refine c0m K fun Q E=>?_;have C:=x0i (j:=4) E rfl;have Y:=x0b A E;have B:=x2k C;go_wp2;go_ret;exact⟨rfl,Y.alloc Y.size _⟩):p:=h
theorem T1E(h:p:=by go_wp2;go_ret;exact⟨rfl,Y⟩):p:=h
theorem M0h(h:p:=by simp[Ieee.Datum.order,Ieee.Datum.isNaN,Std.ReflCmp.compare_self]):p:=h
theorem T3j(h:p:=by go_enter func333,ntmps333;go_wp2_with fail;refine c0m K fun Q E=>?_;have B:=x0i (j:=5) E rfl;have L:=x0i (j:=6) E rfl;have Y:=x0b A E;go_wp2;go_ret;exact⟨rfl,Y⟩):p:=h
theorem S2A(h:p:=by go_enter func342,ntmps342;go_wp2_with fail;refine(V H).mono ?_;rintro e w ⟨rfl,rfl⟩;go_wp2_with fail;refine(V o).mono ?_;rintro e w ⟨rfl,rfl⟩;exact t6u):p:=h
theorem i6A(h:p:=by go_enter func354,ntmps354;exact T1E):p:=h
theorem S2j(h:p:=by go_enter func347,ntmps347;go_wp2_with fail;refine c0m H fun Q E=>?_;have S:=x0i (j:=1) E rfl;have a:=x0i (j:=2) E rfl;have C:=x0i (j:=4) E rfl;have Y:=x0b A E;have L:Q.cell? ⟨b,P,none⟩=some (.int .i32 x):=(Y.cell (by exact B)).trans J;go_wp2_with fail;refine c1m (V l _) fun d N=>?_;subst d;go_wp2_with fail;refine c1m (V v _) fun d N=>?_;subst d;go_wp2;go_ret;exact⟨rfl,Y⟩):p:=h
theorem r3B(h:p:=by go_enter func333,ntmps333;go_wp2_with fail;refine c0m K fun Q E=>?_;have B:=x0i (j:=5) E rfl;have L:=x0i (j:=6) E rfl;have Y:=x0b A E;go_wp2_with fail;refine c1m (V KN _) fun d F=>?_;have D:d.cell? ⟨w.heap.size+1,6,none⟩=_:=(F.cell (x0a L)).trans L;have Y:=x0b Y F;go_wp2;go_ret;exact⟨rfl,Y⟩):p:=h
theorem s7X(h:p:=by go_enter func339,ntmps339;go_wp2_with fail;refine c0m K fun Q E=>?_;have H:=x0i (j:=7) E rfl;have Y:=x0b A E;go_wp2_with fail;refine c1m (V KN _) fun d N=>?_;subst d;go_wp2_with fail;refine c1m (V M _) fun d N=>?_;subst d;go_wp2;go_ret;exact⟨rfl,Y⟩):p:=h
theorem N6l(h:p:=by show((w.heap.push _).push _)[w.heap.size+1]?=_;rw[Array.getElem?_push];simp):p:=h
theorem R0k(h:p:=by rw[(e8N:((2^IntKind.u64.bits:Nat):Int)=18446744073709551616)];omega):p:=h
theorem I1X(h:p:=by go_enter func339,ntmps339;go_wp2_with fail;refine c0m K fun Q E=>?_;have H:=x0i (j:=7) E rfl;have Y:=x0b A E;go_wp2_with fail;refine c1m (V v _) fun d N=>?_;subst d;go_wp2;go_ret;exact⟨rfl,Y⟩):p:=h
theorem S0u(h:p:=by go_enter func343,ntmps343;go_wp2_with fail;refine(V H).mono ?_;rintro e w ⟨rfl,rfl⟩;go_wp2_with fail;refine(V o).mono ?_;rintro e w ⟨rfl,rfl⟩;exact t6w):p:=h
theorem G5Y(h:p:=by have G:Cn.scalar c=false:=d0f f6J;exact T5p):p:=h
theorem R7P(h:p:=by rw[U];exact f6J):p:=h
theorem v8t(h:p:=by have T:=V I f6J;clear I f X;go_enter func114,ntmps114;exact U7J):p:=h
theorem M1X(h:p:=by simp[U]):p:=h
end
theorem x9T c w(h:-2147483648<=c/\c<=2147483647) :
  Calls prog 102 #[.int .i32 c] w fun e w'=>e=.returned (.bool (Cn.scalar c))/\w'=w:=by
 by_cases Z:0<=c
 ·by_cases D:c<55296
  ·have G:Cn.scalar c=true:=d0t f6J;exact T5p
  ·by_cases R:57343<c
   ·by_cases H:c<=1114111
    ·have G:Cn.scalar c=true:=d0t f6J;exact T5p
    ·exact G5Y
   ·exact G5Y
 ·exact G5Y
theorem y1A c w(h:-2147483648<=c/\c<=2147483647) :
  Calls prog 60 #[.int .i32 c] w fun e w'=>e=.returned (.bool (Cn.scalar c))/\w'=w:=by
 have H:=O (x9T c w h);go_enter func60,ntmps60;go_wp2_with fail;refine(V H).mono ?_;rintro e w ⟨rfl,rfl⟩;go_wp2;go_ret;exact⟨rfl,rfl⟩
theorem y1z c w(h:-2147483648<=c/\c<=2147483647) :
  Calls prog 59 #[.int .i32 c] w fun e w'=>e=.returned (.bool (!Cn.scalar c))/\w'=w:=by
 have H:=O (y1A c w h);go_enter func59,ntmps59;go_wp2_with fail;refine(V H).mono ?_;rintro e w ⟨rfl,rfl⟩;go_wp2;go_ret;exact⟨rfl,rfl⟩
theorem y0m{xs:List Int}{k}(G:k<xs.length):xs.drop k=xs.getD k 0::xs.drop (k+1):=f0h
def fb(p:Int->Bool):Nat->List Int->Int
 | _,[]=>-1
 | i,c::r=>if p c then(i:Int)else fb p (i+1) r
theorem z8f{p:Int->Bool}{xs:List Int}{k r}(G:k<xs.length)(h:r=fb p k (xs.drop k))(L:p (xs.getD k 0)=true):r=(k:Int):=by
 rw[h,y0m G,fb,if_pos L]
theorem z5w{p:Int->Bool}{xs:List Int}{k r}(G:k<xs.length)(h:r=fb p k (xs.drop k))(L:p (xs.getD k 0)=false):r=fb p (k+1) (xs.drop (k+1)):=by
 rw[h,y0m G,fb,L];rfl
theorem z3J{p:Int->Bool}{xs:List Int}{k r}(G:xs.length<=k)(h:r=fb p k (xs.drop k)):r=-1:=by
 rw[h,List.drop_eq_nil_of_le G,fb]
theorem z8e(p:Int->Bool) i xs:decide (fb p i xs<0)=xs.all (fun c=>!p c):=by
 induction xs generalizing i with
 | nil=>rfl
 | cons c r ih =>
  simp only[fb,List.all_cons];exact u5V
theorem x9a(p:Int->Bool)(g:Nat)(L:∀x w,(-2147483648<=x/\x<=2147483647)->Calls prog g #[.int .i32 x] w fun e w'=>e=.returned (.bool (p x))/\w'=w)(D:∀args w,(callFunc g args).run prog w=.ok (.enter g args) w)
  v xs w (N:Sk .i32 w v xs) :
  Calls prog 58 #[v,.func (.func g) #[] #[]] w fun e w'=>e=.returned (.int .i64 (fb p 0 xs))/\w'=w:=by
 have t:=N.len;have Q:fb p 0 xs=fb p 0 (xs.drop 0):=s4M;rcases Nat.eq_zero_or_pos xs.length with h0|h0
 ·have m:=z3J f6J Q;exact P6X
 ·have l:=O N.1;obtain⟨b,P,M,rfl,o,q,I⟩:=N.place h0;have C:=O I;have F:=O Q;have A:=O L;clear N I Q L;generalize m:fb p 0 xs=r at *;go_enter func58,ntmps58;go_wp2;go_loop [5,8] (fun _ i=>∃k:Nat,i=.int .i64 k/\k<=xs.length/\r=fb p k (xs.drop k)) (fun _ i=>xs.length-(intOf i).toNat)
  case atStart=>exact⟨0,rfl,f6J,V F⟩
  case round =>
   obtain⟨k,rfl,G,u⟩:=hrel;by_cases H:k<xs.length
   ·have y:=V C k H;have S:=(V l).i32at k;have E:=O (V A (xs.getD k 0) w S)
    cases hok:p (xs.getD k 0)with
    | true =>
     have Y:=z8f H u hok;rw[hok]at E;subst Y;clear u hok F;generalize xs.getD k 0=c at *;go_wp2_with(go_at_fn g;refine(V E).mono ?_;rintro e w ⟨rfl,rfl⟩);go_ret;exact⟨rfl,rfl⟩
    | false =>
     have a:=O (z5w H u hok);rw[hok]at E;generalize xs.getD k 0=c at *;go_wp2_with(go_at_fn g;refine(V E).mono ?_;rintro e w ⟨rfl,rfl⟩);go_round
     case rel=>exact⟨k+1,g2A,f6J,V a⟩
     case measure=>exact g7T
   ·have Y:=z3J f6J u;subst Y;exact t6x
theorem y7Y:∀args w,(callFunc 59 args).run prog w=.ok (.enter 59 args) w:=f0h
theorem x5C v xs w(N:Sk .i32 w v xs) :
  Calls prog 32 #[v] w fun e w'=>e=.returned (.int .i64 (fb (fun c=>!Cn.scalar c) 0 xs))/\w'=w:=by
 have H:=O (x9a (fun c=>!Cn.scalar c) 59 y1z y7Y v xs w N);go_enter func32,ntmps32;go_wp2_with fail;refine(V H).mono ?_;rintro e w ⟨rfl,rfl⟩;go_wp2;go_ret;exact⟨rfl,rfl⟩
theorem z0s v xs w(N:Sk .i32 w v xs) :
  Calls prog 190 #[v] w fun e w'=>e=.returned (.bool (xs.all Cn.scalar))/\w'=w:=by
 have H:=O (x5C v xs w N);have e:xs.all Cn.scalar=decide (fb (fun c=>!Cn.scalar c) 0 xs<0):=(by rw[z8e];exact M7K);rw[e];go_enter func190,ntmps190;go_wp2_with fail;refine(V H).mono ?_;rintro e w ⟨rfl,rfl⟩;go_wp2;go_ret;exact⟨rfl,rfl⟩
def nanB(u:Nat):Bool:=decide (9218868437227405312<u%9223372036854775808)
theorem y5R(d:Ieee.Datum):d.order d=if d.isNaN then none else some .eq:=by
 cases d with
 | number s m i =>exact M0h
 | infinity s=>exact M0h
 | nan s t=>simp[Ieee.Datum.order,Ieee.Datum.isNaN]
theorem z2X u:(FloatKind.f64.format.read u).isNaN=nanB u:=by
 have P:FloatKind.f64.format.signWeight=9223372036854775808:=e8N;have f:FloatKind.f64.format.binade=4503599627370496:=e8N;have E:FloatKind.f64.format.infRung=9218868437227405312:=e8N;unfold Ieee.Format.read nanB;simp only[P,f,E];split
 ·rw[d0f f6J];rfl
 ·split
  ·rw[d0f f6J];rfl
  ·split
   ·rw[d0f f6J];rfl
   ·rw[d0t f6J];rfl
theorem z2D u:(FloatKind.f64.format.order u u != some .eq)=nanB u:=by
 unfold Ieee.Format.order;rw[y5R,<- z2X];cases(FloatKind.f64.format.read u).isNaN<;>rfl
theorem y0E u w:Calls prog 188 #[.float .f64 u] w fun e w'=>e=.returned (.bool (nanB u))/\w'=w:=by
 have e:=z2D u;go_enter func188,ntmps188;exact t6u
def rankN(u:Nat):Int:=if nanB u then 18446744073709551615 else if u<9223372036854775808 then(u:Int)+9223372036854775808 else 18446744073709551615-u
theorem z6t{u:Nat}(h:u<9223372036854775808):bits .or .u64 (u:Int) 9223372036854775808=(u:Int)+9223372036854775808:=by
 unfold bits;simp only[]
 have e:(BitVec.ofInt IntKind.u64.bits (u:Int)|||BitVec.ofInt IntKind.u64.bits 9223372036854775808).toNat=u+9223372036854775808:=by
  rw[BitVec.toNat_or,BitVec.toNat_ofInt,BitVec.toNat_ofInt]
  have P:((u:Int)%((2^IntKind.u64.bits:Nat):Int)).toNat=u:=R0k
  have f:((9223372036854775808:Int)%((2^IntKind.u64.bits:Nat):Int)).toNat=9223372036854775808:=e8N;rw[P,f,Nat.or_comm];have:=Nat.two_pow_add_eq_or_of_lt (i:=63) (b:=u) f6J 1;rw[(e8N:(2:Nat)^63*1=9223372036854775808)]at this;omega
 rw[e,IntWalk.u64_in _ ⟨f6J,f6J⟩];omega
theorem z7a{u:Nat}(h:u<18446744073709551616):bits .xor .u64 IntKind.u64.max (u:Int)=18446744073709551615-(u:Int):=by
 unfold bits;simp only[]
 have e:(BitVec.ofInt IntKind.u64.bits IntKind.u64.max ^^^ BitVec.ofInt IntKind.u64.bits (u:Int)).toNat=18446744073709551615-u:=by
  rw[(e8N:BitVec.ofInt IntKind.u64.bits IntKind.u64.max=BitVec.allOnes IntKind.u64.bits),BitVec.allOnes_xor,BitVec.toNat_not,BitVec.toNat_ofInt]
  have P:((u:Int)%((2^IntKind.u64.bits:Nat):Int)).toNat=u:=R0k
  rw[P];rfl
 rw[e,IntWalk.u64_in _ ⟨f6J,f6J⟩];omega
theorem y4k u w(B:u<18446744073709551616):Calls prog 343 #[.float .f64 u] w fun e w'=>e=.returned (.int .u64 (rankN u))/\w'=w:=by
 have H:=O (x3s u w);have o:=O (y0E u w);unfold rankN
 cases hn:nanB u with
 | true =>
  rw[hn]at o;rw[if_pos rfl];exact S0u
 | false =>
  rw[hn]at o;rw[if_neg e8N];by_cases U:u<9223372036854775808
  ·rw[if_pos U];have T:¬(9223372036854775808:Int)<=(u:Int):=f6J;have y:=z6t U;have C:(0:Int)<=(u:Int):=f6J;have i:(u:Int)<9223372036854775808:=f6J;generalize(u:Int)=x at *;exact S0u
  ·rw[if_neg U];have T:(9223372036854775808:Int)<=(u:Int):=f6J;have J:=z7a B;go_enter func343,ntmps343;go_wp2_with fail;refine(V H).mono ?_;rintro e w ⟨rfl,rfl⟩;go_wp2_with fail;refine(V o).mono ?_;rintro e w ⟨rfl,rfl⟩;go_wp2;go_ret;refine⟨?_,rfl⟩;rw[<- J];rfl
def okAt(k:Nat)(c:Int):Prop:=if k=0 then 65<=c/\c<=90 else 97<=c/\c<=122
theorem x9p l:Scn.name l=true↔(l.length=4/\∀k,k<4->okAt k (l.getD k 0)):=by
 unfold Scn.name;rw[decide_eq_true_iff];constructor
 ·rintro⟨A,Z,D,R,H,p⟩;refine⟨A,fun k G=>?_⟩;unfold okAt;obtain rfl|rfl|rfl|rfl:k=0\/k=1\/k=2\/k=3:=by omega
  ·exact⟨Z,D⟩
  ·exact R
  ·exact H
  ·exact p
 ·rintro⟨A,h⟩;exact⟨A,(h 0 f6J).1,(h 0 f6J).2,h 1 f6J,h 2 f6J,h 3 f6J⟩
theorem y1o s w:Calls prog 340 #[.string s] w (x0c w (Scn.name (nums s))):=by
 have a:=nums_length s;by_cases p:s.size=4
 ·have n:Hid ((∀k,k<4->okAt k ((nums s).getD k 0))->∀l,Bw w l->x0c w (Scn.name (nums s)) (.returned (.bool true)) l):=fun h l Y=>⟨by rw[(x9p _).2 ⟨f6J,h⟩],Y⟩
  have A:Hid (∀k,k<4->¬okAt k ((nums s).getD k 0)->∀l,Bw w l->x0c w (Scn.name (nums s)) (.returned (.bool false)) l):=fun k G h l Y=>by
   have:Scn.name (nums s)=false:=by
    cases hn:Scn.name (nums s)with
    | false=>rfl
    | true=>exact absurd (((x9p _).1 hn).2 k G) h
   exact⟨by rw[this],Y⟩
  have E:=O (fun k=>(y4e s).at k);have N:((s.size:Int) != 4)=false:=(by rw[p];rfl);go_enter func340,ntmps340;go_wp2;go_loopw[3,4] (fun _ _ wr=>∃k:Nat,wr=w.iter s k/\k<=4/\∀j,j<k->okAt j ((nums s).getD j 0)) (fun _ _ wr=>4-wr.iterPos w.heap.size)
  case atStart=>exact⟨0,rfl,f6J,fun j K=>absurd K (Nat.not_lt_zero _)⟩
  case round =>
   obtain⟨k,rfl,G,X⟩:=hrel;have D:=O X;by_cases H:k<4
   ·have U:=fun B=>run_next_any (P:=prog) w s k B f6J;obtain⟨d,o⟩:=V E k;rcases Int.lt_or_le ((nums s).getD k 0) 128 with m|hhi
    ·obtain⟨g,i⟩:=y7I s k f6J m;rw[g,i]at U;have f:=O (V A k H)
     have C:Hid (okAt k ((nums s).getD k 0)->∀j,j<k+1->okAt j ((nums s).getD j 0)):=fun h j K=>by
      rcases Nat.lt_or_ge j k with hj2|hj2
      ·exact V D j hj2
      ·obtain rfl:j=k:=f6J;exact h
     have R:4-(k+1)<4-(w.iter s k).iterPos w.heap.size:=(by rw[World.iterPos_iter];exact f6J);generalize hcg:(nums s).getD k 0=c at U d o m f C;by_cases L:k=0
     ·subst L;by_cases J:65<=c
      ·by_cases I:c<=90
       ·have r:=O (V C ⟨J,I⟩);go_wp2
        go_roundw
        case rel=>exact⟨0+1,rfl,f6J,V r⟩
        case measure=>rw[World.iterPos_iter];exact R
       ·have T:=V f (fun h=>I h.2) (w.iter s (0+1)) ((b0r).alloc (l0r _) _);exact U7H
      ·have T:=V f (fun h=>J h.1) (w.iter s (0+1)) ((b0r).alloc (l0r _) _);exact U7H
     ·have Z:((k:Int)==0)=false:=b0f f6J;have M:okAt k c=(97<=c/\c<=122):=(by unfold okAt;rw[if_neg L]);rw[M]at f C;by_cases J:97<=c
      ·by_cases I:c<=122
       ·have r:=O (V C ⟨J,I⟩);go_wp2
        go_roundw
        case rel=>exact⟨k+1,rfl,f6J,V r⟩
        case measure=>rw[World.iterPos_iter];exact R
       ·have T:=V f (fun h=>I h.2) (w.iter s (k+1)) ((b0r).alloc (l0r _) _);exact U7H
      ·have T:=V f (fun h=>J h.1) (w.iter s (k+1)) ((b0r).alloc (l0r _) _);exact U7H
    ·obtain⟨g,i,Q,b⟩:=z1I s k f6J hhi;have F:=z5g s k;have T:=V A k H (fun h=>by unfold okAt at h;split at h<;>omega) (w.iter s (k+(Utf8.decode s k).2)) ((b0r).alloc (l0r _) _);by_cases L:k=0
     ·subst L;rw[Nat.zero_add]at T U;exact U7H
     ·have Z:((k:Int)==0)=false:=b0f f6J;exact U7H
   ·obtain rfl:k=4:=f6J;have U:=fun B=>run_next_end (P:=prog) w s 4 B f6J;have T:=V n (V D) (w.iter s 4) ((b0r).alloc (l0r _) _);go_wp2;go_ret;exact T
 ·have T:x0c w (Scn.name (nums s)) (.returned (.bool false)) w:=by
   have:Scn.name (nums s)=false:=by
    cases hn:Scn.name (nums s)with
    | false=>rfl
    | true=>exact absurd ((x9p _).1 hn).1 f6J
   exact⟨by rw[this],b0r⟩
  have N:((s.size:Int) != 4)=true:=P8P;go_enter func340,ntmps340;exact U7H
def cmpI(a b:Int):Int:=if a<b then -1 else if b<a then 1 else 0
theorem x7W a w:Calls prog 344 #[.int .u64 a] w fun e w'=>e=.returned (.bool false)/\w'=w:=by
 have h:(a != a)=false:=M7L;go_enter func344,ntmps344;exact t6u
theorem y1W a b w:Calls prog 342 #[.int .u64 a,.int .u64 b] w fun e w'=>e=.returned (.int .i64 (cmpI a b))/\w'=w:=by
 have H:=O (x7W a w);have o:=O (x7W b w);unfold cmpI;by_cases Z:a<b
 ·rw[if_pos Z];exact S2A
 ·rw[if_neg Z];by_cases D:b<a
  ·rw[if_pos D];exact S2A
  ·rw[if_neg D];exact S2A
theorem x7O u v w(B:u<18446744073709551616)(N:v<18446744073709551616):Calls prog 341 #[.float .f64 u,.float .f64 v] w fun e w'=>e=.returned (.int .i64 (cmpI (rankN u) (rankN v)))/\w'=w:=by
 have H:=O (y4k u w B);have o:=O (y4k v w N);have G:=O (y1W (rankN u) (rankN v) w);go_enter func341,ntmps341;go_wp2_with fail;refine(V H).mono ?_;rintro e w ⟨rfl,rfl⟩;go_wp2_with fail;refine(V o).mono ?_;rintro e w ⟨rfl,rfl⟩;go_wp2_with fail;refine(V G).mono ?_;rintro e w ⟨rfl,rfl⟩;exact t6u
theorem y1C{u}(h:u<18446744073709551616):(!nanB u&&decide (0<=cmpI (rankN u) (rankN 0)))=Cn.weight u:=by
 have M:rankN 0=9223372036854775808:=e8N;rw[M];by_cases E:nanB u=true
 ·rw[E];have:9218868437227405312<u%9223372036854775808:=o0d E;unfold Cn.weight;rw[d0f (p:=u<=9218868437227405312) f6J];rfl
 ·have Z:nanB u=false:=f3L;have:¬9218868437227405312<u%9223372036854775808:=of_decide_eq_false Z;by_cases U:u<9223372036854775808
  ·have e:rankN u=(u:Int)+9223372036854775808:=by unfold rankN;rw[Z,if_neg e8N,if_pos U]
   have I:0<=cmpI (rankN u) 9223372036854775808:=by
    rw[e];unfold cmpI;rw[if_neg f6J];split<;>decide
   unfold Cn.weight;rw[Z,d0t I,d0t (p:=u<=9218868437227405312) f6J];rfl
  ·have e:rankN u=18446744073709551615-(u:Int):=by unfold rankN;rw[Z,if_neg e8N,if_neg U]
   have I:¬0<=cmpI (rankN u) 9223372036854775808:=by
    rw[e];unfold cmpI;rw[if_pos f6J];decide
   unfold Cn.weight;rw[Z,d0f I,d0f (p:=u<=9218868437227405312) f6J];rfl
theorem x2P w a b:Bw w ((w.alloc a).alloc b):=((b0r).alloc (l0r _) _).alloc M7K _
def numB(k:Int)(r:Rec):Bool:=decide ((Cn.rowK k).low<=r.n/\r.n<=(Cn.rowK k).high)
theorem x0i{w w1:World}{a cs t j}{v}(Y:Below ((w.alloc a).alloc (.cells cs t)).heap.size ((w.alloc a).alloc (.cells cs t)) w1)(h:cs[j]?=some v):w1.cell? ⟨w.heap.size+1,j,none⟩=some v:=by
 have A:((w.alloc a).alloc (.cells cs t)).heap[w.heap.size+1]?=some (.cells cs t (0,0)):=N6l
 have Z:w1.heap[w.heap.size+1]?=some (.cells cs t (0,0)):=by
  rw[Y.block _ M7K,A]
 have K:j<cs.size:=(by grind);rw[cell_of (j:=j) Z K];simp[Array.getD,K]at h ⊢;simpa[Array.getElem?_eq_getElem K]using h
theorem x2k{w:World}{b i v}(h:w.cell? ⟨b,i,none⟩=some v) o:(w.alloc o).cell? ⟨b,i,none⟩=some v:=by
 rw[World.cell?_alloc_lt _ _ _ (x0a h)];exact h
theorem y0R k r vt w(C:Glob w)(G:I64 k)(H:I64 r.n):Calls prog 335 #[shV k,recV r vt] w (x0c w (numB k r)):=by
 have A:=x2P w (.cells #[.int .i64 k] 257) (.cells #[.int .i64 r.kind,.int .i64 r.lo,.int .i64 r.hi,.int .i64 r.n,vt,.string r.name,.string r.other,.float .f64 r.wt] 67);have K:=O (x7b k ((w.alloc (.cells #[.int .i64 k] 257)).alloc (.cells #[.int .i64 r.kind,.int .i64 r.lo,.int .i64 r.hi,.int .i64 r.n,vt,.string r.name,.string r.other,.float .f64 r.wt] 67)) (C.on A) G);unfold numB shV recV rowV at *;generalize Cn.rowK k=q at *;obtain⟨J,S⟩:=H;generalize r.n=n at *;by_cases Z:q.low<=n
 ·by_cases D:n<=q.high
  ·rw[d0t ⟨Z,D⟩];have g:=d0t Z;have i:=d0t D;exact r6H
  ·rw[d0f (fun h=>D h.2)];have g:=d0t Z;have i:=d0f D;exact r6H
 ·rw[d0f (fun h=>Z h.1)];have g:=d0f Z;exact r6H
def weiB(k:Int)(r:Rec):Bool:=if(Cn.rowK k).wei=true then Cn.weight r.wt else decide (r.wt=0)
theorem y3h k r vt w(C:Glob w)(G:I64 k)(F:r.wt<18446744073709551616):Calls prog 339 #[shV k,recV r vt] w (x0c w (weiB k r)):=by
 have A:=x2P w (.cells #[.int .i64 k] 257) (.cells #[.int .i64 r.kind,.int .i64 r.lo,.int .i64 r.hi,.int .i64 r.n,vt,.string r.name,.string r.other,.float .f64 r.wt] 67);have K:=O (x7b k ((w.alloc (.cells #[.int .i64 k] 257)).alloc (.cells #[.int .i64 r.kind,.int .i64 r.lo,.int .i64 r.hi,.int .i64 r.n,vt,.string r.name,.string r.other,.float .f64 r.wt] 67)) (C.on A) G);unfold weiB shV recV rowV at *;generalize Cn.rowK k=q at *;have X:=fld8 q;rw[<- y1C F];have KN:=O (fun w=>y0E r.wt w);have M:=O (fun w=>x7O r.wt 0 w F e8N);have v:=O (fun w=>x3s r.wt w);generalize r.n=n,r.lo=lo at *;generalize r.hi=hi,r.name=L at *;generalize r.other=ot,r.wt=J at *;generalize cmpI (rankN J) (rankN 0)=c at *
 cases hw:q.wei with
 | true =>
  rw[if_pos rfl];rw[hw]at X K
  cases hn:nanB J with
  | true =>
   rw[hn]at KN;go_enter func339,ntmps339;go_wp2_with fail;refine c0m K fun Q E=>?_;have H:=x0i (j:=7) E rfl;have Y:=x0b A E;go_wp2_with fail;refine c1m (V KN _) fun d N=>?_;subst d;go_wp2;go_ret;exact⟨rfl,Y⟩
  | false =>
   rw[hn]at KN;by_cases I:0<=c
   ·rw[d0t I];have g:=d0t I;exact s7X
   ·rw[d0f I];have g:=d0f I;exact s7X
 | false =>
  rw[if_neg e8N];rw[hw]at X K;by_cases D:J=0
  ·rw[d0t D];subst D;exact I1X
  ·rw[d0f D];have s:((J:Int)==0)=false:=b0f f6J;exact I1X
theorem z2B s:Cn.nameL s=Scn.name (nums s):=by
 unfold Cn.nameL Scn.name nums Scn.small;generalize s.data.toList=l
 match l with
 | []=>rfl
 | [_]=>rfl
 | [_,_]=>rfl
 | [_,_,_]=>rfl
 | [a,b,c,d]=>grind
 | _::_::_::_::_::_=>grind
theorem l_ne{b:ByteArray}(h:¬b.size=0):¬b.toList=[]:=fun e=>h (by
 have:b.data.toList.length=0:=I7C;show b.data.size=0;rw[<- Array.length_toList]
 exact this)
theorem z5S{b:ByteArray}(h:¬b.size=0):b.toList.isEmpty=false:=List.isEmpty_eq_false_iff.2 (l_ne h)
theorem z5T{b:ByteArray}(h:b.size=0):b=⟨#[]⟩:=by
 cases b with
 | mk a =>
  have:a.size=0:=h;rw[Array.eq_empty_of_size_eq_zero this]
def namB(k:Int)(r:Rec):Bool:=if(Cn.rowK k).scr=1 then Cn.nameL r.name&&decide (r.other.size=0)else if(Cn.rowK k).scr=2 then Cn.nameL r.name&&(Cn.nameL r.other&&decide (r.name≠r.other))else decide (r.name.size=0)&&decide (r.other.size=0)
theorem x4x s w:Calls prog 340 #[.string s] w (x0c w (Cn.nameL s)):=by
 rw[z2B];exact y1o s w
theorem y9m k r vt w(C:Glob w)(G:I64 k):Calls prog 333 #[shV k,recV r vt] w (x0c w (namB k r)):=by
 have A:=x2P w (.cells #[.int .i64 k] 257) (.cells #[.int .i64 r.kind,.int .i64 r.lo,.int .i64 r.hi,.int .i64 r.n,vt,.string r.name,.string r.other,.float .f64 r.wt] 67);have K:=O (x7b k ((w.alloc (.cells #[.int .i64 k] 257)).alloc (.cells #[.int .i64 r.kind,.int .i64 r.lo,.int .i64 r.hi,.int .i64 r.n,vt,.string r.name,.string r.other,.float .f64 r.wt] 67)) (C.on A) G);unfold namB shV recV rowV at *;generalize Cn.rowK k=q at *;have X:=fld7 q;have KN:=O (fun w=>x4x r.name w);have M:=O (fun w=>x4x r.other w);generalize r.n=n,r.lo=lo at *;generalize r.hi=hi,r.name=c at *;generalize r.other=ot,r.wt=J at *;generalize Cn.nameL c=a,Cn.nameL ot=b at *;by_cases N:q.scr=1
 ·rw[if_pos N];rw[N]at X K
  cases a with
  | false =>
   show Calls prog _ _ w (x0c w false);go_enter func333,ntmps333;go_wp2_with fail;refine c0m K fun Q E=>?_;have B:=x0i (j:=5) E rfl;have L:=x0i (j:=6) E rfl;have Y:=x0b A E;go_wp2_with fail;refine c1m (V KN _) fun d F=>?_;have D:d.cell? ⟨w.heap.size+1,6,none⟩=_:=(F.cell (x0a L)).trans L;have Y:=x0b Y F;go_wp2;go_ret;exact⟨rfl,Y⟩
  | true =>
   by_cases U:ot.size=0
   ·rw[d0t U];obtain rfl:=z5T U;show Calls prog _ _ w (x0c w true);exact r3B
   ·rw[d0f U];have f:=l_ne U;have P:=z5S U;show Calls prog _ _ w (x0c w false);exact r3B
 ·rw[if_neg N];have R:(q.scr==1)=false:=b0f N;by_cases g:q.scr=2
  ·rw[if_pos g];rw[g]at X K
   cases a with
   | false =>
    show Calls prog _ _ w (x0c w false);go_enter func333,ntmps333;go_wp2_with fail;refine c0m K fun Q E=>?_;have B:=x0i (j:=5) E rfl;have L:=x0i (j:=6) E rfl;have Y:=x0b A E;go_wp2_with fail;refine c1m (V KN _) fun d F=>?_;have D:d.cell? ⟨w.heap.size+1,6,none⟩=_:=(F.cell (x0a L)).trans L;have Y:=x0b Y F;go_wp2;go_ret;exact⟨rfl,Y⟩
   | true =>
    cases b with
    | false =>
     show Calls prog _ _ w (x0c w false);go_enter func333,ntmps333;go_wp2_with fail;refine c0m K fun Q E=>?_;have B:=x0i (j:=5) E rfl;have L:=x0i (j:=6) E rfl;have Y:=x0b A E;go_wp2_with fail;refine c1m (V KN _) fun d F=>?_;have I:d.cell? ⟨w.heap.size+1,5,none⟩=_:=(F.cell (x0a B)).trans B;have D:d.cell? ⟨w.heap.size+1,6,none⟩=_:=(F.cell (x0a L)).trans L;have Y:=x0b Y F;go_wp2_with fail;refine c1m (V M _) fun x s=>?_;have I:x.cell? ⟨w.heap.size+1,5,none⟩=_:=(s.cell (x0a I)).trans I;have D:x.cell? ⟨w.heap.size+1,6,none⟩=_:=(s.cell (x0a D)).trans D;have Y:=x0b Y s;go_wp2;go_ret;exact⟨rfl,Y⟩
    | true =>
     by_cases U:c=ot
     ·rw[d0f (fun h=>h U)];subst U;show Calls prog _ _ w (x0c w false);exact M2u
     ·rw[d0t U]
      have f:¬c.toList=ot.toList:=fun e=>U (by
       rw[ByteArray.toList_eq,ByteArray.toList_eq]at e;cases c;cases ot
       simp_all)
      have H:(c.toList==ot.toList)=false:=b0f f;show Calls prog _ _ w (x0c w true);exact M2u
  ·rw[if_neg g];have S:(q.scr==2)=false:=b0f g;by_cases U:c.size=0
   ·rw[d0t U];obtain rfl:=z5T U;by_cases Z:ot.size=0
    ·rw[d0t Z];obtain rfl:=z5T Z;show Calls prog _ _ w (x0c w true);exact T3j
    ·rw[d0f Z];have f:=l_ne Z;have P:=z5S Z;show Calls prog _ _ w (x0c w false);exact T3j
   ·rw[d0f U];have f:=l_ne U;have P:=z5S U;show Calls prog _ _ w (x0c w false);exact T3j
def tarB(k:Int)(r:Rec):Bool:=decide ((Cn.rowK k).least<=(r.to.length:Int)/\(r.to.length:Int)<=(Cn.rowK k).most)&&r.to.all Cn.scalar
theorem y1v k r vt w(H:Glob w)(G:I64 k)(U:Sk .i32 w vt r.to):Calls prog 338 #[shV k,recV r vt] w (x0c w (tarB k r)):=by
 have A:=x2P w (.cells #[.int .i64 k] 257) (.cells #[.int .i64 r.kind,.int .i64 r.lo,.int .i64 r.hi,.int .i64 r.n,vt,.string r.name,.string r.other,.float .f64 r.wt] 67);have K:=O (x7b k ((w.alloc (.cells #[.int .i64 k] 257)).alloc (.cells #[.int .i64 r.kind,.int .i64 r.lo,.int .i64 r.hi,.int .i64 r.n,vt,.string r.name,.string r.other,.float .f64 r.wt] 67)) (H.on A) G);unfold tarB shV recV rowV at *;generalize Cn.rowK k=q at *;have t:Hid (∀W,Bw w W->Calls prog 190 #[vt] W fun e l=>e=.returned (.bool (r.to.all Cn.scalar))/\l=W):=fun W h=>z0s vt r.to W (U.below h);obtain⟨R,M,rfl,_,_⟩:=U.shape;generalize r.n=n,r.lo=lo at *;generalize r.hi=hi,r.name=c at *;generalize r.other=ot,r.wt=wt,r.to.all Cn.scalar=b,r.to.length=m at *;by_cases Z:q.least<=(m:Int)
 ·have g:=d0t Z;by_cases D:(m:Int)<=q.most
  ·have i:=d0t D;rw[d0t ⟨Z,D⟩,Bool.true_and];go_enter func338,ntmps338;go_wp2_with fail;refine c0m K fun Q E=>?_;have C:=x0i (j:=4) E rfl;have Y:=x0b A E;have B:=x2k C;go_wp2_with fail;refine c1m (V t _ (Y.alloc Y.size _)) fun d N=>?_;subst d;go_wp2;go_ret;exact⟨rfl,Y.alloc Y.size _⟩
  ·have i:=d0f D;rw[d0f (fun h=>D h.2),Bool.false_and];exact i9X
 ·have g:=d0f Z;rw[d0f (fun h=>Z h.1),Bool.false_and];exact i9X
theorem x3h c w(I:I64 c):Calls prog 349 #[.int .i64 c] w fun e w'=>e=.returned (.bool (Cn.scalar c))/\w'=w:=by
 have K:=O (x2D c w I);by_cases L:0<=c/\c<=1114111
 ·have e:isPt c=true:=d0t L;rw[e]at K;have t:IntKind.i32.wrap c=c:=IntWalk.i32_in _ ⟨f6J,f6J⟩;have o:=O (y1A c w ⟨f6J,f6J⟩);go_enter func349,ntmps349;go_wp2_with fail;refine c0m K fun Q F=>?_;subst Q;go_wp2_with fail;refine c0m o fun Q F=>?_;subst Q;go_wp2;go_ret;exact⟨rfl,rfl⟩
 ·have e:isPt c=false:=d0f L;rw[e]at K;have f:Cn.scalar c=false:=d0f f6J;rw[f];go_enter func349,ntmps349;exact v9L
theorem x5H k r vt w(X:RecFit r):Calls prog 354 #[shV k,recV r vt] w (x0c w (decide (r.lo=0/\r.hi=0))):=by
 have Y:=x2P w (.cells #[.int .i64 k] 311) (.cells #[.int .i64 r.kind,.int .i64 r.lo,.int .i64 r.hi,.int .i64 r.n,vt,.string r.name,.string r.other,.float .f64 r.wt] 67);have m:=X.lo;have E:=X.hi;unfold shV recV at *;generalize r.lo=lo,r.hi=hi at *;by_cases Z:lo=0
 ·by_cases D:hi=0
  ·rw[d0t ⟨Z,D⟩];subst Z D;exact i6A
  ·rw[d0f (fun h=>D h.2)];subst Z;have i:(hi==0)=false:=b0f D;exact i6A
 ·rw[d0f (fun h=>Z h.1)];have g:(lo==0)=false:=b0f Z;exact i6A
theorem x5I k r vt w(X:RecFit r):Calls prog 351 #[shV k,recV r vt] w (x0c w (decide (r.lo=r.hi)&&Cn.scalar r.lo)):=by
 have Y:=x2P w (.cells #[.int .i64 k] 310) (.cells #[.int .i64 r.kind,.int .i64 r.lo,.int .i64 r.hi,.int .i64 r.n,vt,.string r.name,.string r.other,.float .f64 r.wt] 67);have m:=X.lo;have E:=X.hi;have K:=O (fun w=>x3h r.lo w X.lo);unfold shV recV at *;generalize r.lo=lo,r.hi=hi at *;by_cases Z:lo=hi
 ·rw[d0t Z,Bool.true_and];subst Z;have g:(lo==lo)=true:=beq_self_eq_true _;go_enter func351,ntmps351;go_wp2_with fail;refine c1m (V K _) fun d N=>?_;subst d;go_wp2;go_ret;exact⟨rfl,Y⟩
 ·rw[d0f Z,Bool.false_and];have g:(lo==hi)=false:=b0f Z;go_enter func351,ntmps351;exact T1E
def spanB(r:Rec):Bool:=decide (0<=r.lo/\r.lo<=1114111/\0<=r.hi/\r.hi<=1114111/\r.lo<=r.hi)
theorem x2q k r vt w(X:RecFit r):Calls prog 346 #[shV k,recV r vt] w (x0c w (spanB r)):=by
 have Y:=x2P w (.cells #[.int .i64 k] 307) (.cells #[.int .i64 r.kind,.int .i64 r.lo,.int .i64 r.hi,.int .i64 r.n,vt,.string r.name,.string r.other,.float .f64 r.wt] 67);have m:=X.lo;have E:=X.hi;have H:=O (fun w=>x2D r.lo w X.lo);have o:=O (fun w=>x2D r.hi w X.hi);unfold spanB shV recV at *;generalize r.lo=lo,r.hi=hi at *;by_cases Z:0<=lo/\lo<=1114111
 ·have P:isPt lo=true:=d0t Z;rw[P]at H;by_cases D:0<=hi/\hi<=1114111
  ·have f:isPt hi=true:=d0t D;rw[f]at o;by_cases R:lo<=hi
   ·rw[d0t ⟨Z.1,Z.2,D.1,D.2,R⟩];have Q:=d0t R;exact m1s
   ·rw[d0f (fun h=>R h.2.2.2.2)];have Q:=d0f R;exact m1s
  ·have f:isPt hi=false:=d0f D;rw[f]at o;rw[d0f (fun h=>D ⟨h.2.2.1,h.2.2.2.1⟩)];exact m1s
 ·have P:isPt lo=false:=d0f Z;rw[P]at H;rw[d0f (fun h=>Z ⟨h.1,h.2.1⟩)];go_enter func346,ntmps346;go_wp2_with fail;refine c1m (V H _) fun d N=>?_;subst d;go_wp2;go_ret;exact⟨rfl,Y⟩
def shiftB(r:Rec):Bool:=spanB r&&(decide (r.to.length=1)&&(Cn.scalar (r.to.getD 0 0)&&(Cn.scalar (r.to.getD 0 0+r.hi-r.lo)&&(decide (r.to.getD 0 0<55296)==decide (r.to.getD 0 0+r.hi-r.lo<55296)))))
theorem x4V k r vt w(X:RecFit r)(U:Sk .i32 w vt r.to):Calls prog 347 #[shV k,recV r vt] w (x0c w (shiftB r)):=by
 have A:=x2P w (.cells #[.int .i64 k] 309) (.cells #[.int .i64 r.kind,.int .i64 r.lo,.int .i64 r.hi,.int .i64 r.n,vt,.string r.name,.string r.other,.float .f64 r.wt] 67);have H:=O (x2q k r vt ((w.alloc (.cells #[.int .i64 k] 309)).alloc (.cells #[.int .i64 r.kind,.int .i64 r.lo,.int .i64 r.hi,.int .i64 r.n,vt,.string r.name,.string r.other,.float .f64 r.wt] 67)) X);have s:=X.len;unfold shiftB
 cases hsp:spanB r with
 | false =>
  rw[hsp]at H;rw[Bool.false_and];unfold shV recV at *;go_enter func347,ntmps347;go_wp2_with fail;refine c0m H fun Q E=>?_;have Y:=x0b A E;go_wp2;go_ret;exact⟨rfl,Y⟩
 | true =>
  rw[hsp]at H;rw[Bool.true_and];by_cases Z:r.to.length=1
  ·rw[d0t Z,Bool.true_and];obtain⟨b,P,M,rfl,o,q,I⟩:=U.place f6J;have J:=I 0 f6J;have T:=U.1.i32at 0;obtain⟨F,t,D,u,G⟩:0<=r.lo/\r.lo<=1114111/\0<=r.hi/\r.hi<=1114111/\r.lo<=r.hi:=o0d hsp;rw[Z]at H o A;have B:=x0a J;have l:=O (fun w=>x3h (r.to.getD 0 0) w ⟨f6J,f6J⟩);have v:=O (fun w=>x3h (r.to.getD 0 0+r.hi-r.lo) w ⟨f6J,f6J⟩);rw[Z];unfold shV recV at *;generalize r.n=n,r.lo=lo at *;generalize r.hi=hi,r.name=c at *;generalize r.other=ot,r.wt=wt,r.to.getD 0 0=x at *;have i:IntKind.i64.wrap (x+hi)=x+hi:=IntWalk.i64_in _ ⟨f6J,f6J⟩;have f:IntKind.i64.wrap (x+hi-lo)=x+hi-lo:=IntWalk.i64_in _ ⟨f6J,f6J⟩;have p:IntKind.i64.wrap x=x:=IntWalk.i64_in _ ⟨f6J,f6J⟩
   cases ha:Cn.scalar x with
   | false =>
    rw[ha]at l;rw[Bool.false_and];go_enter func347,ntmps347;go_wp2_with fail;refine c0m H fun Q E=>?_;have S:=x0i (j:=1) E rfl;have a:=x0i (j:=2) E rfl;have C:=x0i (j:=4) E rfl;have Y:=x0b A E;have L:Q.cell? ⟨b,P,none⟩=some (.int .i32 x):=(Y.cell (by exact B)).trans J;go_wp2_with fail;refine c1m (V l _) fun d N=>?_;subst d;go_wp2;go_ret;exact⟨rfl,Y⟩
   | true =>
    rw[ha]at l;rw[Bool.true_and]
    cases hz:Cn.scalar (x+hi-lo)with
    | false =>
     rw[hz]at v;rw[Bool.false_and];exact S2j
    | true =>
     rw[hz]at v;rw[Bool.true_and];exact S2j
  ·rw[d0f Z,Bool.false_and];have g:((r.to.length:Int) != 1)=true:=P8P;obtain⟨R,M,rfl,_,_⟩:=U.shape;unfold shV recV at *;generalize r.kind=kd,r.n=n,r.lo=lo,r.hi=hi at *;generalize r.name=c,r.other=ot,r.wt=wt,r.to.length=m at *;go_enter func347,ntmps347;go_wp2_with fail;refine c0m H fun Q E=>?_;have C:=x0i (j:=4) E rfl;have Y:=x0b A E;go_wp2;go_ret;exact⟨rfl,Y⟩
def x2V(w:World)(b:Bool)(e:Ending)(w':World):Prop:=e=.returned (.bool b)/\w'=w
theorem x2V.mk{w b c}(h:c=b):x2V w b (.returned (.bool c)) w:=t5o
theorem y2O s w:Calls prog 114 #[.string s] w (x2V w (Scn.name (nums s))):=by
 have v:=nums_length s;have N:=fun i k hi G w=>x2t s i k hi G w;have K:=fun k=>(y4e s).at k;have a:Hid (¬s.size=4->x2V w (Scn.name (nums s)) (.returned (.bool false)) w):=fun h=>x2V.mk (by unfold Scn.name;rw[d0f];exact f6J);have I:Hid (¬(65<=(nums s).getD 0 0/\(nums s).getD 0 0<=90)->x2V w (Scn.name (nums s)) (.returned (.bool false)) w):=fun h=>x2V.mk (by unfold Scn.name;rw[d0f];exact fun x=>h ⟨x.2.1,x.2.2.1⟩)
 have f:Hid (∀k,1<=k->k<4->¬(97<=(nums s).getD k 0/\(nums s).getD k 0<=122)->x2V w (Scn.name (nums s)) (.returned (.bool false)) w):=fun k Z D h=>x2V.mk (by
  unfold Scn.name;rw[d0f];intro x;obtain⟨_,_,_,u,S,p⟩:=x;have:k=1\/k=2\/k=3:=f6J;rcases this with e|e|e<;>subst e
  ·exact h u
  ·exact h S
  ·exact h p)
 have n:Hid (s.size=4->65<=(nums s).getD 0 0->(nums s).getD 0 0<=90->(∀k,1<=k->k<4->97<=(nums s).getD k 0/\(nums s).getD k 0<=122)->x2V w (Scn.name (nums s)) (.returned (.bool true)) w):=fun Z D R H=>x2V.mk (by
  unfold Scn.name;rw[d0t]
  exact⟨f6J,D,R,H 1 f6J f6J,H 2 f6J f6J,H 3 f6J f6J⟩)
 by_cases L:s.size=4
 ·have A:=N 0 0 rfl f6J;obtain⟨J,g⟩:=K 0;have Y:=O N;have E:=O K;have X:=O (V n L);have F:((s.size:Int) != 4)=false:=(by simp[L]);clear N K a n;generalize(nums s).getD 0 0=l at *;by_cases P:l<65
  ·exact v8t
  ·by_cases t:90<l
   ·exact v8t
   ·have C:=O (V X f6J f6J);clear I X;go_enter func114,ntmps114;go_wp2;go_loop [3] (fun i=>∃k:Nat,i=.int .i64 k/\1<=k/\k<=4/\∀j,1<=j->j<k->97<=(nums s).getD j 0/\(nums s).getD j 0<=122) (fun i=>4-(intOf i).toNat)
    case atStart=>exact⟨1,rfl,f6J,f6J,fun j Z D=>f6J⟩
    case round =>
     clear A J g;obtain⟨k,rfl,B,M,z⟩:=hrel;by_cases q:k<4
     ·have G:=V Y (k:Int) k rfl f6J;obtain⟨b1,m⟩:=V E k
      have U:Hid (97<=(nums s).getD k 0->(nums s).getD k 0<=122->∀j,1<=j->j<k+1->97<=(nums s).getD j 0/\(nums s).getD j 0<=122):=fun Z D j y o=>by
       by_cases e:j=k
       ·subst e;exact⟨Z,D⟩
       ·exact z j y f6J
      have Q:=O (V f k B q);clear z;generalize(nums s).getD k 0=c at *;by_cases b:c<97
      ·have T:=V Q f6J;clear Q U f C;exact U7J
      ·by_cases b4:122<c
       ·have T:=V Q f6J;clear Q U f C;exact U7J
       ·have r:=O (V U f6J f6J);clear Q U f C;go_wp2;go_round
        case rel=>exact⟨k+1,g2A,f6J,f6J,V r⟩
        case measure=>exact g7V
     ·obtain rfl:k=4:=f6J;have T:=V C z;clear f C z;exact U7J
 ·have T:=V a L;have F:((s.size:Int) != 4)=true:=P8P;clear a I f n N K;go_enter func114,ntmps114;exact U7J
theorem z6i s:Cn.nameL s=Scn.name (nums s):=by
 unfold Cn.nameL Scn.name nums Scn.small;generalize s.data.toList=l
 match l with
 | []=>rfl
 | [_]=>rfl
 | [_,_]=>rfl
 | [_,_,_]=>rfl
 | [a,b,c,d] =>
  simp only[List.map_cons,List.map_nil,List.length_cons,List.length_nil,List.getD_cons_zero,List.getD_cons_succ];rw[decide_eq_decide];constructor
  ·intro h;exact⟨trivial,(f6J:65<=(a.toNat:Int)),(f6J:(a.toNat:Int)<=90),⟨(f6J:97<=(b.toNat:Int)),(f6J:(b.toNat:Int)<=122)⟩,⟨(f6J:97<=(c.toNat:Int)),(f6J:(c.toNat:Int)<=122)⟩,(f6J:97<=(d.toNat:Int)),(f6J:(d.toNat:Int)<=122)⟩
  ·rintro⟨_,Z,D,⟨R,H⟩,⟨p,F⟩,o,E⟩;have J:65<=(a.toNat:Int):=Z;have I:(a.toNat:Int)<=90:=D;have M:97<=(b.toNat:Int):=R;have U:(b.toNat:Int)<=122:=H;have g:97<=(c.toNat:Int):=p;have u:(c.toNat:Int)<=122:=F;have m:97<=(d.toNat:Int):=o;have B:(d.toNat:Int)<=122:=E;omega
 | _::_::_::_::_::_ =>
  simp only[List.map_cons,List.length_cons];symm;rw[decide_eq_false_iff_not];omega
theorem x5w s w:Calls prog 114 #[.string s] w fun e w'=>e=.returned (.bool (Cn.nameL s))/\w'=w:=by
 rw[z6i];exact y2O s w
def theLaid:List (String×DataW Unit):=Rows.idnaNewRow.laid
def rowD(r:Row9):DataW Unit:=.agg [.lit (.string r.word.data.toList),.lit (.int .i64 r.fam),.lit (.int .i64 r.least),.lit (.int .i64 r.most),.lit (.int .i64 r.low),.lit (.int .i64 r.high),.lit (.string r.said.data.toList),.lit (.int .i64 r.scr),.lit (.bool r.wei)]
theorem y8W:(Rows.laid_endonym_table_rows:DataW Unit)=.agg ((List.range 16).map fun k=>rowD (Cn.rowT k)):=f4x
theorem z8p : Tryz.prog.globalNamed "endonym/table.rows" = some 1 := f4x
theorem y8s:(prog.globals[1]?).map (·.type)=some 350:=f4x
theorem z7y{a b:ByteArray}(h:a.data.toList=b.data.toList):a=b:=by
 cases a;cases b;simp_all
def rowL(r:Row9):List Value:=[.string r.word,.int .i64 r.fam,.int .i64 r.least,.int .i64 r.most,.int .i64 r.low,.int .i64 r.high,.string r.said,.int .i64 r.scr,.bool r.wei]
section
variable {enc:TypeId×Value->Unit} {W:World} {base:Nat} {sp:Nat->Bool} {held:Bool}
theorem z0e{B:Nat}{cs:List Value}{r:Row9}{p:List MemPlace}(h:DataW.trod enc prog W base sp held B 313 cs=some (rowD r,p)):cs=rowL r:=by
 obtain⟨L,k,G,ae,t,ab,X⟩:=DataW.trod_struct underlying313 h;have S:prog.cellsOf 313=9:=f4x;have j:prog.cellsOf 3=1:=f4x;have q:prog.cellsOf 9=1:=f4x;have T:prog.cellsOf 4=1:=f4x;rw[S]at t
 match L,ab,cs,t with
 | [y0,y1,y2,y3,y4,y5,y6,y7,y8],_,[v0,v1,v2,v3,v4,v5,v6,v7,v8],_ =>
  have hd:[y0.1,y1.1,y2.1,y3.1,y4.1,y5.1,y6.1,y7.1,y8.1]=[.lit (.string r.word.data.toList),.lit (.int .i64 r.fam),.lit (.int .i64 r.least),.lit (.int .i64 r.most),.lit (.int .i64 r.low),.lit (.int .i64 r.high),.lit (.string r.said.data.toList),.lit (.int .i64 r.scr),.lit (.bool r.wei)]:=by
   have:=congrArg Prod.fst ae;simpa[rowD]using this.symm
  simp only[List.cons.injEq,and_true]at hd;obtain⟨s,g,i,Q,b,F,d,Y,A⟩:=hd;have C:=X 0 _ rfl;have J:=X 1 _ rfl;have I:=X 2 _ rfl;have M:=X 3 _ rfl;have U:=X 4 _ rfl;have g5:=X 5 _ rfl;have u:=X 6 _ rfl;have m:=X 7 _ rfl;have g8:=X 8 _ rfl;simp[j,q,T]at C J I M U g5 u m g8;obtain⟨s0,e0,n,_⟩:=DataW.trod_string underlying9 C;obtain⟨n1,P,q1,_⟩:=DataW.trod_int underlying3 J;obtain⟨z,f,x,_⟩:=DataW.trod_int underlying3 I;obtain⟨n3,E,D,_⟩:=DataW.trod_int underlying3 M;obtain⟨n4,o,N,_⟩:=DataW.trod_int underlying3 U;obtain⟨H,e5,c,_⟩:=DataW.trod_int underlying3 g5;obtain⟨a,Z,R,_⟩:=DataW.trod_string underlying9 u;obtain⟨n7,v,q7,_⟩:=DataW.trod_int underlying3 m;obtain⟨l,y,K⟩:=DataW.trod_bool underlying4 g8;rw[n]at s;rw[q1]at g;rw[x]at i;rw[D]at Q;rw[N]at b;rw[c]at F;rw[R]at d;rw[q7]at Y;rw[K]at A;simp only[DataW.lit.injEq,Lit.string.injEq,Lit.int.injEq,Lit.bool.injEq,true_and]at s g i Q b F d Y A;simp only[List.cons.injEq,and_true]at e0 P f E o e5 Z v y;rw[e0,P,f,E,o,e5,Z,v,y,z7y s,g,i,Q,b,F,z7y d,Y,A];rfl
end
theorem y0Z:(theLaid.all fun x=>x.2.handleName?.isNone)=true:=f4x
theorem z1y:prog.cellsOf 313=9:=f4x
theorem glob_of{W:World}(h:laidMetH prog theLaid W):Glob W:=by
 rw[MakeChecks.laidMetH_plain _ _ _ y0Z]at h;obtain⟨d,⟨S,E,f,B,p,q,Q,C,A,hd,_,_⟩,_⟩:=h;obtain rfl:=Option.some.inj (z8p.symm.trans Q);obtain rfl:=Option.some.inj (y8s.symm.trans C);obtain⟨L,m,_,J,t,F,P⟩:=DataW.trod_array underlying350 hd
 have n:L.map (·.1)=(List.range 16).map fun k=>rowD (Cn.rowT k):=by
  have Z:=congrArg Prod.fst J;have D:(Rows.laid_endonym_table_rows:DataW Unit)=.agg (L.map (·.1)):=Z;rw[y8W]at D;simpa using D.symm
 intro k G
 have X:∃pk,L[k]?=some (rowD (Cn.rowT k),pk):=by
  have Z:(L.map (·.1))[k]?=some (rowD (Cn.rowT k)):=by
   rw[n];simp[G]
  rw[List.getElem?_map,Option.map_eq_some_iff]at Z;obtain⟨⟨a,b⟩,D,R⟩:=Z;exact⟨b,by rw[D];simp at R;rw[R]⟩
 obtain⟨pk,X⟩:=X;have R:=P k G;rw[X,z1y]at R;have H:=z0e R
 have y:∀j v,(rowL (Cn.rowT k))[j]?=some v->W.cell? ⟨1,k*9+j,none⟩=some v:=fun j v N=>by
  have I:=World.var?_cell z8p A (k*9+j);rw[<- H]at N
  have K:j<9:=by
   rcases Nat.lt_or_ge j 9 with hh|hh
   ·exact hh
   ·rw[List.getElem?_eq_none U3s]at N;cases N
  rw[List.getElem?_take_of_lt K,List.getElem?_drop]at N;rw[I];simpa using N
 exact⟨y 0 _ rfl,y 1 _ rfl,y 2 _ rfl,y 3 _ rfl,y 4 _ rfl,y 5 _ rfl,y 6 _ rfl,y 7 _ rfl,y 8 _ rfl⟩
theorem own:ownKnob prog.godebug=none:=f4x
theorem laidOut:laidOutB prog=true:=f4x
theorem start_met(Y:Os)(args:Array Value):laidMetH prog theLaid ((World.laidAll prog Y theLaid).forCall (fun _ _=>0) ⟨#[],args,[]⟩).memory:=by
 rw[MakeChecks.laidMetH_plain _ _ _ y0Z];exact laidMet_laidAll _ f4x f4x
theorem y3b(Y:Os)(args:Array Value):((World.laidAll prog Y theLaid).forCall (fun _ _=>0) ⟨#[],args,[]⟩).Shaped prog:=World.shaped_of_ZipB f4x f4x
theorem start_at{H:Type}{enc:TypeId×Value->H}{Y:Os}{f:FuncId}{fn:Func}{s:OpenSpec}{conds:List PathCond}(args:Array Value)
  (X:Input.okWideB Tryz.checked.prog ((World.laidAll prog Y theLaid).forCall (fun _ _=>0) ⟨#[],args,[]⟩) f ⟨#[],args,[]⟩=true)
  (L:s.preRow enc Tryz.checked.prog fn conds false theLaid ((World.laidAll prog Y theLaid).forCall (fun _ _=>0) ⟨#[],args,[]⟩).memory args) :
  ∃(w:World) (A:Tape) (i:Input),w.os=Y/\(w.forCall A i).Shaped Tryz.checked.prog/\i.vars=[]/\Input.okWide Tryz.checked.prog (w.forCall A i) .any w.heap.size f i /\
   s.preRow enc Tryz.checked.prog fn conds false theLaid (w.forCall A i).memory i.args/\({}:Assume).holds Tryz.checked.prog (lone (Frame.enter Tryz.checked.prog f i.args .normal) [] (w.forCall A i)) :=
 ⟨World.laidAll prog Y theLaid,fun _ _=>0,⟨#[],args,[]⟩,World.laidAll_os _ _ _,y3b Y args,(Input.okWide_of_okWideB (base:=0) X).1,(Input.okWide_of_okWideB X).2,L,by
  simp only[Assume.holds]
  exact⟨M7K,M7K,fun _=>Modest.zero,M7K,M7K⟩⟩
