/- Lemmas. -/
import Derived.Test.YtbmckadcjdedcaaGreatDoorK5
import Derived.Shelf.Abstract
import Derived.Lib.Walk
import Derived.WalkMore
import Derived.Test.YtbmckadcjdedcaaGreatDoorK16
import Derived.Test.YtbmckadcjdedcaaGreatDoorRows
import Derived.ProofKit
import Derived.OpenShut
import Derived.ShutString
import Derived.LaidMore
import Derived.Lay
import Derived.Stop.LaidErr
import Derived.Deep.DeepHandedRow
import Derived.Lib.LaidTab
import Derived.MakeChecks
import Derived.Shelf.Vars
set_option maxHeartbeats 4000000
set_option maxRecDepth 20000
namespace Go.Proofs.YtbmckadcjdedcaaGreatDoor
open Go.Proofs.Tryz
open Go.RowKit
section
variable{p:Prop}
theorem p4x(h:p:=by go_enter func333,ntmps333;go_wp2_with fail;refine c0m K fun I E=>?_;have f:=x0i (j:=5) E rfl;have o:=x0i (j:=6) E rfl;have Q:=x0b A E;go_wp2_with fail;refine c1m (V KN _) fun d F=>?_;have L:d.cell? ⟨w.heap.size+1,5,none⟩=_:=(F.cell (x0a f)).trans f;have D:d.cell? ⟨w.heap.size+1,6,none⟩=_:=(F.cell (x0a o)).trans o;have Q:=x0b Q F;go_wp2_with fail;refine c1m (V c _) fun P s=>?_;have L:P.cell? ⟨w.heap.size+1,5,none⟩=_:=(s.cell (x0a L)).trans L;have D:P.cell? ⟨w.heap.size+1,6,none⟩=_:=(s.cell (x0a D)).trans D;have Q:=x0b Q s;go_wp2;go_ret;exact⟨rfl,Q⟩):p:=h
theorem w2y(h:p:=by go_enter func335,ntmps335;go_wp2_with fail;refine c0m K fun I E=>?_;have a:=x0i (j:=3) E rfl;have Q:=x0b A E;have F:=x2i a;go_wp2;go_ret;exact⟨rfl,Q.alloc Q.size _⟩):p:=h
theorem w7i(h:p:=by go_enter func346,ntmps346;go_wp2_with fail;refine c1m (V o _) fun d H=>?_;subst d;go_wp2_with fail;refine c1m (V g _) fun d H=>?_;subst d;go_wp2;go_ret;exact⟨rfl,Q⟩):p:=h
theorem R5t(h:p:=by go_enter func338,ntmps338;go_wp2_with fail;refine c0m K fun I E=>?_;have L:=x0i (j:=4) E rfl;have Q:=x0b A E;have B:=x2i L;go_wp2;go_ret;exact⟨rfl,Q.alloc Q.size _⟩):p:=h
theorem v9U(h:p:=by go_wp2;go_ret;exact⟨rfl,Q⟩):p:=h
theorem M0h(h:p:=by simp[Ieee.Datum.order,Ieee.Datum.isNaN,Std.ReflCmp.compare_self]):p:=h
theorem p3I(h:p:=by go_enter func333,ntmps333;go_wp2_with fail;refine c0m K fun I E=>?_;have f:=x0i (j:=5) E rfl;have o:=x0i (j:=6) E rfl;have Q:=x0b A E;go_wp2;go_ret;exact⟨rfl,Q⟩):p:=h
theorem U3m(h:p:=by go_enter func342,ntmps342;go_wp2_with fail;refine(V o).mono ?_;rintro e w ⟨rfl,rfl⟩;go_wp2_with fail;refine(V g).mono ?_;rintro e w ⟨rfl,rfl⟩;exact t6u):p:=h
theorem i6s(h:p:=by go_enter func354,ntmps354;exact v9U):p:=h
theorem G9c(h:p:=by go_enter func347,ntmps347;go_wp2_with fail;refine c0m o fun I E=>?_;have a:=x0i (j:=1) E rfl;have t:=x0i (j:=2) E rfl;have L:=x0i (j:=4) E rfl;have Q:=x0b A E;have S:I.cell? ⟨b,P,none⟩=some (.int .i32 x):=(Q.cell (by exact C)).trans J;go_wp2_with fail;refine c1m (V B _) fun d H=>?_;subst d;go_wp2_with fail;refine c1m (V v _) fun d H=>?_;subst d;go_wp2;go_ret;exact⟨rfl,Q⟩):p:=h
theorem S0n(h:p:=by go_enter func333,ntmps333;go_wp2_with fail;refine c0m K fun I E=>?_;have f:=x0i (j:=5) E rfl;have o:=x0i (j:=6) E rfl;have Q:=x0b A E;go_wp2_with fail;refine c1m (V KN _) fun d F=>?_;have D:d.cell? ⟨w.heap.size+1,6,none⟩=_:=(F.cell (x0a o)).trans o;have Q:=x0b Q F;go_wp2;go_ret;exact⟨rfl,Q⟩):p:=h
theorem p6p(h:p:=by go_enter func339,ntmps339;go_wp2_with fail;refine c0m K fun I E=>?_;have N:=x0i (j:=7) E rfl;have Q:=x0b A E;go_wp2_with fail;refine c1m (V KN _) fun d H=>?_;subst d;go_wp2_with fail;refine c1m (V F _) fun d H=>?_;subst d;go_wp2;go_ret;exact⟨rfl,Q⟩):p:=h
theorem N6l(h:p:=by show((w.heap.push _).push _)[w.heap.size+1]?=_;rw[Array.getElem?_push];simp):p:=h
theorem R0k(h:p:=by rw[(e8N:((2^IntKind.u64.bits:Nat):Int)=18446744073709551616)];omega):p:=h
theorem P3o(h:p:=by go_enter func339,ntmps339;go_wp2_with fail;refine c0m K fun I E=>?_;have N:=x0i (j:=7) E rfl;have Q:=x0b A E;go_wp2_with fail;refine c1m (V v _) fun d H=>?_;subst d;go_wp2;go_ret;exact⟨rfl,Q⟩):p:=h
theorem s9i(h:p:=by go_enter func343,ntmps343;go_wp2_with fail;refine(V o).mono ?_;rintro e w ⟨rfl,rfl⟩;go_wp2_with fail;refine(V g).mono ?_;rintro e w ⟨rfl,rfl⟩;exact t6w):p:=h
theorem G5Y(h:p:=by have G:Cn.scalar c=false:=d0f f6J;exact T5p):p:=h
theorem r5f(h:p:=by have Y:=V T f6J;clear T f L;go_enter func114,ntmps114;exact n0O):p:=h
theorem e7v(h:p:=by simp[s]):p:=h
end
theorem x9L c w(h:-2147483648<=c/\c<=2147483647) :
  Calls prog 102 #[.int .i32 c] w fun e w'=>e=.returned (.bool (Cn.scalar c))/\w'=w:=by
 by_cases Z:0<=c
 ·by_cases D:c<55296
  ·have G:Cn.scalar c=true:=d0t f6J;exact T5p
  ·by_cases R:57343<c
   ·by_cases z:c<=1114111
    ·have G:Cn.scalar c=true:=d0t f6J;exact T5p
    ·exact G5Y
   ·exact G5Y
 ·exact G5Y
theorem y1q c w(h:-2147483648<=c/\c<=2147483647) :
  Calls prog 60 #[.int .i32 c] w fun e w'=>e=.returned (.bool (Cn.scalar c))/\w'=w:=by
 have H:=O (x9L c w h);go_enter func60,ntmps60;go_wp2_with fail;refine(V H).mono ?_;rintro e w ⟨rfl,rfl⟩;go_wp2;go_ret;exact⟨rfl,rfl⟩
theorem y1p c w(h:-2147483648<=c/\c<=2147483647) :
  Calls prog 59 #[.int .i32 c] w fun e w'=>e=.returned (.bool (!Cn.scalar c))/\w'=w:=by
 have H:=O (y1q c w h);go_enter func59,ntmps59;go_wp2_with fail;refine(V H).mono ?_;rintro e w ⟨rfl,rfl⟩;go_wp2;go_ret;exact⟨rfl,rfl⟩
theorem y0e{xs:List Int}{k}(G:k<xs.length):xs.drop k=xs.getD k 0::xs.drop (k+1):=f0h
def fb(p:Int->Bool):Nat->List Int->Int
 | _,[]=>-1
 | i,c::r=>if p c then(i:Int)else fb p (i+1) r
theorem z8e{p:Int->Bool}{xs:List Int}{k r}(G:k<xs.length)(h:r=fb p k (xs.drop k))(L:p (xs.getD k 0)=true):r=(k:Int):=by
 rw[h,y0e G,fb,if_pos L]
theorem z5s{p:Int->Bool}{xs:List Int}{k r}(G:k<xs.length)(h:r=fb p k (xs.drop k))(L:p (xs.getD k 0)=false):r=fb p (k+1) (xs.drop (k+1)):=by
 rw[h,y0e G,fb,L];rfl
theorem z3E{p:Int->Bool}{xs:List Int}{k r}(G:xs.length<=k)(h:r=fb p k (xs.drop k)):r=-1:=by
 rw[h,List.drop_eq_nil_of_le G,fb]
theorem z8d(p:Int->Bool) i xs:decide (fb p i xs<0)=xs.all (fun c=>!p c):=by
 induction xs generalizing i with
 | nil=>rfl
 | cons c r ih =>
  simp only[fb,List.all_cons];exact u5V
theorem x8W(p:Int->Bool)(g:Nat)(L:∀x w,(-2147483648<=x/\x<=2147483647)->Calls prog g #[.int .i32 x] w fun e w'=>e=.returned (.bool (p x))/\w'=w)(Z:∀args w,(callFunc g args).run prog w=.ok (.enter g args) w)
  v xs w (N:Sk .i32 w v xs) :
  Calls prog 58 #[v,.func (.func g) #[] #[]] w fun e w'=>e=.returned (.int .i64 (fb p 0 xs))/\w'=w:=by
 have j:=N.len;have I:fb p 0 xs=fb p 0 (xs.drop 0):=s4M;rcases Nat.eq_zero_or_pos xs.length with h0 | h0
 ·have m:=z3E f6J I;exact P6X
 ·have l:=O N.1;obtain⟨b,P,M,rfl,q,F,T⟩:=N.place h0;have B:=O T;have o:=O I;have U:=O L;clear N T I L;generalize m:fb p 0 xs=r at *;go_enter func58,ntmps58;go_wp2;go_loop [5,8] (fun _ i=>∃k:Nat,i=.int .i64 k/\k<=xs.length/\r=fb p k (xs.drop k)) (fun _ i=>xs.length-(intOf i).toNat)
  case atStart=>exact⟨0,rfl,f6J,V o⟩
  case round =>
   obtain⟨k,rfl,G,u⟩:=hrel;by_cases H:k<xs.length
   ·have X:=V B k H;have C:=(V l).i32at k;have A:=O (V U (xs.getD k 0) w C)
    cases hok:p (xs.getD k 0)with
    | true =>
     have Q:=z8e H u hok;rw[hok]at A;subst Q;clear u hok o;generalize xs.getD k 0=c at *;go_wp2_with(go_at_fn g;refine(V A).mono ?_;rintro e w ⟨rfl,rfl⟩);go_ret;exact⟨rfl,rfl⟩
    | false =>
     have a:=O (z5s H u hok);rw[hok]at A;generalize xs.getD k 0=c at *;go_wp2_with(go_at_fn g;refine(V A).mono ?_;rintro e w ⟨rfl,rfl⟩);go_round
     case rel=>exact⟨k+1,g2A,f6J,V a⟩
     case measure=>exact g7T
   ·have Q:=z3E f6J u;subst Q;exact t6x
theorem y7T:∀args w,(callFunc 59 args).run prog w=.ok (.enter 59 args) w:=f0h
theorem x5G v xs w(N:Sk .i32 w v xs) :
  Calls prog 32 #[v] w fun e w'=>e=.returned (.int .i64 (fb (fun c=>!Cn.scalar c) 0 xs))/\w'=w:=by
 have H:=O (x8W (fun c=>!Cn.scalar c) 59 y1p y7T v xs w N);go_enter func32,ntmps32;go_wp2_with fail;refine(V H).mono ?_;rintro e w ⟨rfl,rfl⟩;go_wp2;go_ret;exact⟨rfl,rfl⟩
theorem z0o v xs w(N:Sk .i32 w v xs) :
  Calls prog 190 #[v] w fun e w'=>e=.returned (.bool (xs.all Cn.scalar))/\w'=w:=by
 have H:=O (x5G v xs w N);have e:xs.all Cn.scalar=decide (fb (fun c=>!Cn.scalar c) 0 xs<0):=(by rw[z8d];exact M7K);rw[e];go_enter func190,ntmps190;go_wp2_with fail;refine(V H).mono ?_;rintro e w ⟨rfl,rfl⟩;go_wp2;go_ret;exact⟨rfl,rfl⟩
def nanB(u:Nat):Bool:=decide (9218868437227405312<u%9223372036854775808)
theorem y5G(d:Ieee.Datum):d.order d=if d.isNaN then none else some .eq:=by
 cases d with
 | number s m i =>exact M0h
 | infinity s=>exact M0h
 | nan s t=>simp[Ieee.Datum.order,Ieee.Datum.isNaN]
theorem z2S u:(FloatKind.f64.format.read u).isNaN=nanB u:=by
 have P:FloatKind.f64.format.signWeight=9223372036854775808:=e8N;have f:FloatKind.f64.format.binade=4503599627370496:=e8N;have J:FloatKind.f64.format.infRung=9218868437227405312:=e8N;unfold Ieee.Format.read nanB;simp only[P,f,J];split
 ·rw[d0f f6J];rfl
 ·split
  ·rw[d0f f6J];rfl
  ·split
   ·rw[d0f f6J];rfl
   ·rw[d0t f6J];rfl
theorem z2A u:(FloatKind.f64.format.order u u != some .eq)=nanB u:=by
 unfold Ieee.Format.order;rw[y5G,<- z2S];cases(FloatKind.f64.format.read u).isNaN<;>rfl
theorem y0v u w:Calls prog 188 #[.float .f64 u] w fun e w'=>e=.returned (.bool (nanB u))/\w'=w:=by
 have e:=z2A u;go_enter func188,ntmps188;exact t6u
def rankN(u:Nat):Int:=if nanB u then 18446744073709551615 else if u<9223372036854775808 then(u:Int)+9223372036854775808 else 18446744073709551615-u
theorem z6s{u:Nat}(h:u<9223372036854775808):bits .or .u64 (u:Int) 9223372036854775808=(u:Int)+9223372036854775808:=by
 unfold bits;simp only[]
 have e:(BitVec.ofInt IntKind.u64.bits (u:Int)|||BitVec.ofInt IntKind.u64.bits 9223372036854775808).toNat=u+9223372036854775808:=by
  rw[BitVec.toNat_or,BitVec.toNat_ofInt,BitVec.toNat_ofInt]
  have P:((u:Int)%((2^IntKind.u64.bits:Nat):Int)).toNat=u:=R0k
  have f:((9223372036854775808:Int)%((2^IntKind.u64.bits:Nat):Int)).toNat=9223372036854775808:=e8N;rw[P,f,Nat.or_comm];have:=Nat.two_pow_add_eq_or_of_lt (i:=63) (b:=u) f6J 1;rw[(e8N:(2:Nat)^63*1=9223372036854775808)]at this;omega
 rw[e,IntWalk.u64_in _ ⟨f6J,f6J⟩];omega
theorem z6Z{u:Nat}(h:u<18446744073709551616):bits .xor .u64 IntKind.u64.max (u:Int)=18446744073709551615-(u:Int):=by
 unfold bits;simp only[]
 have e:(BitVec.ofInt IntKind.u64.bits IntKind.u64.max ^^^ BitVec.ofInt IntKind.u64.bits (u:Int)).toNat=18446744073709551615-u:=by
  rw[(e8N:BitVec.ofInt IntKind.u64.bits IntKind.u64.max=BitVec.allOnes IntKind.u64.bits),BitVec.allOnes_xor,BitVec.toNat_not,BitVec.toNat_ofInt]
  have P:((u:Int)%((2^IntKind.u64.bits:Nat):Int)).toNat=u:=R0k
  rw[P];rfl
 rw[e,IntWalk.u64_in _ ⟨f6J,f6J⟩];omega
theorem y3Z u w(B:u<18446744073709551616):Calls prog 343 #[.float .f64 u] w fun e w'=>e=.returned (.int .u64 (rankN u))/\w'=w:=by
 have o:=O (x3p u w);have g:=O (y0v u w);unfold rankN
 cases hn:nanB u with
 | true =>
  rw[hn]at g;rw[if_pos rfl];exact s9i
 | false =>
  rw[hn]at g;rw[if_neg e8N];by_cases X:u<9223372036854775808
  ·rw[if_pos X];have N:¬(9223372036854775808:Int)<=(u:Int):=f6J;have j:=z6s X;have C:(0:Int)<=(u:Int):=f6J;have i:(u:Int)<9223372036854775808:=f6J;generalize(u:Int)=x at *;exact s9i
  ·rw[if_neg X];have N:(9223372036854775808:Int)<=(u:Int):=f6J;have J:=z6Z B;go_enter func343,ntmps343;go_wp2_with fail;refine(V o).mono ?_;rintro e w ⟨rfl,rfl⟩;go_wp2_with fail;refine(V g).mono ?_;rintro e w ⟨rfl,rfl⟩;go_wp2;go_ret;refine⟨?_,rfl⟩;rw[<- J];rfl
def okAt(k:Nat)(c:Int):Prop:=if k=0 then 65<=c/\c<=90 else 97<=c/\c<=122
theorem x9j l:Scn.name l=true↔(l.length=4/\∀k,k<4->okAt k (l.getD k 0)):=by
 unfold Scn.name;rw[decide_eq_true_iff];constructor
 ·rintro⟨A,Z,D,R,z,H⟩;refine⟨A,fun k G=>?_⟩;unfold okAt;obtain rfl | rfl | rfl | rfl:k=0\/k=1\/k=2\/k=3:=by omega
  ·exact⟨Z,D⟩
  ·exact R
  ·exact z
  ·exact H
 ·rintro⟨A,h⟩;exact⟨A,(h 0 f6J).1,(h 0 f6J).2,h 1 f6J,h 2 f6J,h 3 f6J⟩
theorem y1e s w:Calls prog 340 #[.string s] w (x0c w (Scn.name (nums s))):=by
 have S:=nums_length s;by_cases z:s.size=4
 ·have d:Hid ((∀k,k<4->okAt k ((nums s).getD k 0))->∀l,Bw w l->x0c w (Scn.name (nums s)) (.returned (.bool true)) l):=fun h l Q=>⟨by rw[(x9j _).2 ⟨f6J,h⟩],Q⟩
  have A:Hid (∀k,k<4->¬okAt k ((nums s).getD k 0)->∀l,Bw w l->x0c w (Scn.name (nums s)) (.returned (.bool false)) l):=fun k G h l Q=>by
   have:Scn.name (nums s)=false:=by
    cases hn:Scn.name (nums s)with
    | false=>rfl
    | true=>exact absurd (((x9j _).1 hn).2 k G) h
   exact⟨by rw[this],Q⟩
  have J:=O (fun k=>(y3U s).at k);have X:((s.size:Int) != 4)=false:=(by rw[z];rfl);go_enter func340,ntmps340;go_wp2;go_loopw[3,4] (fun _ _ wr=>∃k:Nat,wr=w.iter s k/\k<=4/\∀j,j<k->okAt j ((nums s).getD j 0)) (fun _ _ wr=>4-wr.iterPos w.heap.size)
  case atStart=>exact⟨0,rfl,f6J,fun j K=>absurd K (Nat.not_lt_zero _)⟩
  case round =>
   obtain⟨k,rfl,G,N⟩:=hrel;have Z:=O N;by_cases H:k<4
   ·have n:=fun R=>run_next_any (P:=prog) w s k R f6J;obtain⟨g,U⟩:=V J k;rcases Int.lt_or_le ((nums s).getD k 0) 128 with m | hhi
    ·obtain⟨i,p⟩:=y7y s k f6J m;rw[i,p]at n;have f:=O (V A k H)
     have E:Hid (okAt k ((nums s).getD k 0)->∀j,j<k+1->okAt j ((nums s).getD j 0)):=fun h j K=>by
      rcases Nat.lt_or_ge j k with hj2 | hj2
      ·exact V Z j hj2
      ·obtain rfl:j=k:=f6J;exact h
     have y:4-(k+1)<4-(w.iter s k).iterPos w.heap.size:=(by rw[World.iterPos_iter];exact f6J);generalize hcg:(nums s).getD k 0=c at n g U m f E;by_cases C:k=0
     ·subst C;by_cases M:65<=c
      ·by_cases T:c<=90
       ·have b:=O (V E ⟨M,T⟩);go_wp2
        go_roundw
        case rel=>exact⟨0+1,rfl,f6J,V b⟩
        case measure=>rw[World.iterPos_iter];exact y
       ·have Y:=V f (fun h=>T h.2) (w.iter s (0+1)) ((b0r).alloc (l0r _) _);exact n0M
      ·have Y:=V f (fun h=>M h.1) (w.iter s (0+1)) ((b0r).alloc (l0r _) _);exact n0M
     ·have F:((k:Int)==0)=false:=b0f f6J;have B:okAt k c=(97<=c/\c<=122):=(by unfold okAt;rw[if_neg C]);rw[B]at f E;by_cases M:97<=c
      ·by_cases T:c<=122
       ·have b:=O (V E ⟨M,T⟩);go_wp2
        go_roundw
        case rel=>exact⟨k+1,rfl,f6J,V b⟩
        case measure=>rw[World.iterPos_iter];exact y
       ·have Y:=V f (fun h=>T h.2) (w.iter s (k+1)) ((b0r).alloc (l0r _) _);exact n0M
      ·have Y:=V f (fun h=>M h.1) (w.iter s (k+1)) ((b0r).alloc (l0r _) _);exact n0M
    ·obtain⟨i,p,a,I⟩:=z1C s k f6J hhi;have L:=z5b s k;have Y:=V A k H (fun h=>by unfold okAt at h;split at h<;>omega) (w.iter s (k+(Utf8.decode s k).2)) ((b0r).alloc (l0r _) _);by_cases C:k=0
     ·subst C;rw[Nat.zero_add]at Y n;exact n0M
     ·have F:((k:Int)==0)=false:=b0f f6J;exact n0M
   ·obtain rfl:k=4:=f6J;have n:=fun R=>run_next_end (P:=prog) w s 4 R f6J;have Y:=V d (V Z) (w.iter s 4) ((b0r).alloc (l0r _) _);go_wp2;go_ret;exact Y
 ·have Y:x0c w (Scn.name (nums s)) (.returned (.bool false)) w:=by
   have:Scn.name (nums s)=false:=by
    cases hn:Scn.name (nums s)with
    | false=>rfl
    | true=>exact absurd ((x9j _).1 hn).1 f6J
   exact⟨by rw[this],b0r⟩
  have X:((s.size:Int) != 4)=true:=P8P;go_enter func340,ntmps340;exact n0M
def cmpI(a b:Int):Int:=if a<b then -1 else if b<a then 1 else 0
theorem x7U a w:Calls prog 344 #[.int .u64 a] w fun e w'=>e=.returned (.bool false)/\w'=w:=by
 have h:(a != a)=false:=M7L;go_enter func344,ntmps344;exact t6u
theorem y1L a b w:Calls prog 342 #[.int .u64 a,.int .u64 b] w fun e w'=>e=.returned (.int .i64 (cmpI a b))/\w'=w:=by
 have o:=O (x7U a w);have g:=O (x7U b w);unfold cmpI;by_cases Z:a<b
 ·rw[if_pos Z];exact U3m
 ·rw[if_neg Z];by_cases D:b<a
  ·rw[if_pos D];exact U3m
  ·rw[if_neg D];exact U3m
theorem x7M u v w(B:u<18446744073709551616)(N:v<18446744073709551616):Calls prog 341 #[.float .f64 u,.float .f64 v] w fun e w'=>e=.returned (.int .i64 (cmpI (rankN u) (rankN v)))/\w'=w:=by
 have o:=O (y3Z u w B);have g:=O (y3Z v w N);have G:=O (y1L (rankN u) (rankN v) w);go_enter func341,ntmps341;go_wp2_with fail;refine(V o).mono ?_;rintro e w ⟨rfl,rfl⟩;go_wp2_with fail;refine(V g).mono ?_;rintro e w ⟨rfl,rfl⟩;go_wp2_with fail;refine(V G).mono ?_;rintro e w ⟨rfl,rfl⟩;exact t6u
theorem y1s{u}(h:u<18446744073709551616):(!nanB u&&decide (0<=cmpI (rankN u) (rankN 0)))=Cn.weight u:=by
 have L:rankN 0=9223372036854775808:=e8N;rw[L];by_cases E:nanB u=true
 ·rw[E];have:9218868437227405312<u%9223372036854775808:=o0d E;unfold Cn.weight;rw[d0f (p:=u<=9218868437227405312) f6J];rfl
 ·have B:nanB u=false:=f3L;have:¬9218868437227405312<u%9223372036854775808:=of_decide_eq_false B;by_cases X:u<9223372036854775808
  ·have e:rankN u=(u:Int)+9223372036854775808:=by unfold rankN;rw[B,if_neg e8N,if_pos X]
   have T:0<=cmpI (rankN u) 9223372036854775808:=by
    rw[e];unfold cmpI;rw[if_neg f6J];split<;>decide
   unfold Cn.weight;rw[B,d0t T,d0t (p:=u<=9218868437227405312) f6J];rfl
  ·have e:rankN u=18446744073709551615-(u:Int):=by unfold rankN;rw[B,if_neg e8N,if_neg X]
   have T:¬0<=cmpI (rankN u) 9223372036854775808:=by
    rw[e];unfold cmpI;rw[if_pos f6J];decide
   unfold Cn.weight;rw[B,d0f T,d0f (p:=u<=9218868437227405312) f6J];rfl
theorem x2N w a b:Bw w ((w.alloc a).alloc b):=((b0r).alloc (l0r _) _).alloc M7K _
def numB(k:Int)(r:Rec):Bool:=decide ((Cn.rowK k).low<=r.n/\r.n<=(Cn.rowK k).high)
theorem x0i{w w1:World}{a cs t j}{v}(Q:Below ((w.alloc a).alloc (.cells cs t)).heap.size ((w.alloc a).alloc (.cells cs t)) w1)(h:cs[j]?=some v):w1.cell? ⟨w.heap.size+1,j,none⟩=some v:=by
 have A:((w.alloc a).alloc (.cells cs t)).heap[w.heap.size+1]?=some (.cells cs t (0,0)):=N6l
 have Z:w1.heap[w.heap.size+1]?=some (.cells cs t (0,0)):=by
  rw[Q.block _ M7K,A]
 have K:j<cs.size:=(by grind);rw[cell_of (j:=j) Z K];simp[Array.getD,K]at h ⊢;simpa[Array.getElem?_eq_getElem K]using h
theorem x2i{w:World}{b i v}(h:w.cell? ⟨b,i,none⟩=some v) o:(w.alloc o).cell? ⟨b,i,none⟩=some v:=by
 rw[World.cell?_alloc_lt _ _ _ (x0a h)];exact h
theorem y0I k r vt w(C:Glob w)(G:I64 k)(H:I64 r.n):Calls prog 335 #[shV k,recV r vt] w (x0c w (numB k r)):=by
 have A:=x2N w (.cells #[.int .i64 k] 257) (.cells #[.int .i64 r.kind,.int .i64 r.lo,.int .i64 r.hi,.int .i64 r.n,vt,.string r.name,.string r.other,.float .f64 r.wt] 67);have K:=O (x7b k ((w.alloc (.cells #[.int .i64 k] 257)).alloc (.cells #[.int .i64 r.kind,.int .i64 r.lo,.int .i64 r.hi,.int .i64 r.n,vt,.string r.name,.string r.other,.float .f64 r.wt] 67)) (C.on A) G);unfold numB shV recV rowV at *;generalize Cn.rowK k=q at *;obtain⟨J,S⟩:=H;generalize r.n=n at *;by_cases Z:q.low<=n
 ·by_cases D:n<=q.high
  ·rw[d0t ⟨Z,D⟩];have i:=d0t Z;have p:=d0t D;exact w2y
  ·rw[d0f (fun h=>D h.2)];have i:=d0t Z;have p:=d0f D;exact w2y
 ·rw[d0f (fun h=>Z h.1)];have i:=d0f Z;exact w2y
def weiB(k:Int)(r:Rec):Bool:=if(Cn.rowK k).wei=true then Cn.weight r.wt else decide (r.wt=0)
theorem y2X k r vt w(C:Glob w)(G:I64 k)(L:r.wt<18446744073709551616):Calls prog 339 #[shV k,recV r vt] w (x0c w (weiB k r)):=by
 have A:=x2N w (.cells #[.int .i64 k] 257) (.cells #[.int .i64 r.kind,.int .i64 r.lo,.int .i64 r.hi,.int .i64 r.n,vt,.string r.name,.string r.other,.float .f64 r.wt] 67);have K:=O (x7b k ((w.alloc (.cells #[.int .i64 k] 257)).alloc (.cells #[.int .i64 r.kind,.int .i64 r.lo,.int .i64 r.hi,.int .i64 r.n,vt,.string r.name,.string r.other,.float .f64 r.wt] 67)) (C.on A) G);unfold weiB shV recV rowV at *;generalize Cn.rowK k=q at *;have U:=fld8 q;rw[<- y1s L];have KN:=O (fun w=>y0v r.wt w);have F:=O (fun w=>x7M r.wt 0 w L e8N);have v:=O (fun w=>x3p r.wt w);generalize r.n=n,r.lo=lo at *;generalize r.hi=hi,r.name=Y at *;generalize r.other=ot,r.wt=J at *;generalize cmpI (rankN J) (rankN 0)=c at *
 cases hw:q.wei with
 | true =>
  rw[if_pos rfl];rw[hw]at U K
  cases hn:nanB J with
  | true =>
   rw[hn]at KN;go_enter func339,ntmps339;go_wp2_with fail;refine c0m K fun I E=>?_;have N:=x0i (j:=7) E rfl;have Q:=x0b A E;go_wp2_with fail;refine c1m (V KN _) fun d H=>?_;subst d;go_wp2;go_ret;exact⟨rfl,Q⟩
  | false =>
   rw[hn]at KN;by_cases T:0<=c
   ·rw[d0t T];have i:=d0t T;exact p6p
   ·rw[d0f T];have i:=d0f T;exact p6p
 | false =>
  rw[if_neg e8N];rw[hw]at U K;by_cases D:J=0
  ·rw[d0t D];subst D;exact P3o
  ·rw[d0f D];have l:((J:Int)==0)=false:=b0f f6J;exact P3o
theorem z2y s:Cn.nameL s=Scn.name (nums s):=by
 unfold Cn.nameL Scn.name nums Scn.small;generalize s.data.toList=l
 match l with
 | []=>rfl
 | [_]=>rfl
 | [_,_]=>rfl
 | [_,_,_]=>rfl
 | [a,b,c,d]=>grind
 | _::_::_::_::_::_=>grind
theorem l_ne{b:ByteArray}(h:¬b.size=0):¬b.toList=[]:=fun e=>h (by
 have:b.data.toList.length=0:=I7C;show b.data.size=0;rw[<- Array.length_toList]
 exact this)
theorem z5Q{b:ByteArray}(h:¬b.size=0):b.toList.isEmpty=false:=List.isEmpty_eq_false_iff.2 (l_ne h)
theorem z5R{b:ByteArray}(h:b.size=0):b=⟨#[]⟩:=by
 cases b with
 | mk a =>
  have:a.size=0:=h;rw[Array.eq_empty_of_size_eq_zero this]
def namB(k:Int)(r:Rec):Bool:=if(Cn.rowK k).scr=1 then Cn.nameL r.name&&decide (r.other.size=0)else if(Cn.rowK k).scr=2 then Cn.nameL r.name&&(Cn.nameL r.other&&decide (r.name≠r.other))else decide (r.name.size=0)&&decide (r.other.size=0)
theorem x4y s w:Calls prog 340 #[.string s] w (x0c w (Cn.nameL s)):=by
 rw[z2y];exact y1e s w
theorem y9h k r vt w(C:Glob w)(G:I64 k):Calls prog 333 #[shV k,recV r vt] w (x0c w (namB k r)):=by
 have A:=x2N w (.cells #[.int .i64 k] 257) (.cells #[.int .i64 r.kind,.int .i64 r.lo,.int .i64 r.hi,.int .i64 r.n,vt,.string r.name,.string r.other,.float .f64 r.wt] 67);have K:=O (x7b k ((w.alloc (.cells #[.int .i64 k] 257)).alloc (.cells #[.int .i64 r.kind,.int .i64 r.lo,.int .i64 r.hi,.int .i64 r.n,vt,.string r.name,.string r.other,.float .f64 r.wt] 67)) (C.on A) G);unfold namB shV recV rowV at *;generalize Cn.rowK k=q at *;have U:=fld7 q;have KN:=O (fun w=>x4y r.name w);have c:=O (fun w=>x4y r.other w);generalize r.n=n,r.lo=lo at *;generalize r.hi=hi,r.name=Y at *;generalize r.other=ot,r.wt=J at *;generalize Cn.nameL Y=a,Cn.nameL ot=b at *;by_cases N:q.scr=1
 ·rw[if_pos N];rw[N]at U K
  cases a with
  | false =>
   show Calls prog _ _ w (x0c w false);go_enter func333,ntmps333;go_wp2_with fail;refine c0m K fun I E=>?_;have f:=x0i (j:=5) E rfl;have o:=x0i (j:=6) E rfl;have Q:=x0b A E;go_wp2_with fail;refine c1m (V KN _) fun d F=>?_;have D:d.cell? ⟨w.heap.size+1,6,none⟩=_:=(F.cell (x0a o)).trans o;have Q:=x0b Q F;go_wp2;go_ret;exact⟨rfl,Q⟩
  | true =>
   by_cases X:ot.size=0
   ·rw[d0t X];obtain rfl:=z5R X;show Calls prog _ _ w (x0c w true);exact S0n
   ·rw[d0f X];have g:=l_ne X;have M:=z5Q X;show Calls prog _ _ w (x0c w false);exact S0n
 ·rw[if_neg N];have R:(q.scr==1)=false:=b0f N;by_cases B:q.scr=2
  ·rw[if_pos B];rw[B]at U K
   cases a with
   | false =>
    show Calls prog _ _ w (x0c w false);go_enter func333,ntmps333;go_wp2_with fail;refine c0m K fun I E=>?_;have f:=x0i (j:=5) E rfl;have o:=x0i (j:=6) E rfl;have Q:=x0b A E;go_wp2_with fail;refine c1m (V KN _) fun d F=>?_;have D:d.cell? ⟨w.heap.size+1,6,none⟩=_:=(F.cell (x0a o)).trans o;have Q:=x0b Q F;go_wp2;go_ret;exact⟨rfl,Q⟩
   | true =>
    cases b with
    | false =>
     show Calls prog _ _ w (x0c w false);go_enter func333,ntmps333;go_wp2_with fail;refine c0m K fun I E=>?_;have f:=x0i (j:=5) E rfl;have o:=x0i (j:=6) E rfl;have Q:=x0b A E;go_wp2_with fail;refine c1m (V KN _) fun d F=>?_;have L:d.cell? ⟨w.heap.size+1,5,none⟩=_:=(F.cell (x0a f)).trans f;have D:d.cell? ⟨w.heap.size+1,6,none⟩=_:=(F.cell (x0a o)).trans o;have Q:=x0b Q F;go_wp2_with fail;refine c1m (V c _) fun P s=>?_;have L:P.cell? ⟨w.heap.size+1,5,none⟩=_:=(s.cell (x0a L)).trans L;have D:P.cell? ⟨w.heap.size+1,6,none⟩=_:=(s.cell (x0a D)).trans D;have Q:=x0b Q s;go_wp2;go_ret;exact⟨rfl,Q⟩
    | true =>
     by_cases X:Y=ot
     ·rw[d0f (fun h=>h X)];subst X;show Calls prog _ _ w (x0c w false);exact p4x
     ·rw[d0t X]
      have g:¬Y.toList=ot.toList:=fun e=>X (by
       rw[ByteArray.toList_eq,ByteArray.toList_eq]at e;cases Y;cases ot
       simp_all)
      have H:(Y.toList==ot.toList)=false:=b0f g;show Calls prog _ _ w (x0c w true);exact p4x
  ·rw[if_neg B];have S:(q.scr==2)=false:=b0f B;by_cases X:Y.size=0
   ·rw[d0t X];obtain rfl:=z5R X;by_cases Z:ot.size=0
    ·rw[d0t Z];obtain rfl:=z5R Z;show Calls prog _ _ w (x0c w true);exact p3I
    ·rw[d0f Z];have g:=l_ne Z;have M:=z5Q Z;show Calls prog _ _ w (x0c w false);exact p3I
   ·rw[d0f X];have g:=l_ne X;have M:=z5Q X;show Calls prog _ _ w (x0c w false);exact p3I
def tarB(k:Int)(r:Rec):Bool:=decide ((Cn.rowK k).least<=(r.to.length:Int)/\(r.to.length:Int)<=(Cn.rowK k).most)&&r.to.all Cn.scalar
theorem y1l k r vt w(C:Glob w)(G:I64 k)(X:Sk .i32 w vt r.to):Calls prog 338 #[shV k,recV r vt] w (x0c w (tarB k r)):=by
 have A:=x2N w (.cells #[.int .i64 k] 257) (.cells #[.int .i64 r.kind,.int .i64 r.lo,.int .i64 r.hi,.int .i64 r.n,vt,.string r.name,.string r.other,.float .f64 r.wt] 67);have K:=O (x7b k ((w.alloc (.cells #[.int .i64 k] 257)).alloc (.cells #[.int .i64 r.kind,.int .i64 r.lo,.int .i64 r.hi,.int .i64 r.n,vt,.string r.name,.string r.other,.float .f64 r.wt] 67)) (C.on A) G);unfold tarB shV recV rowV at *;generalize Cn.rowK k=q at *;have t:Hid (∀W,Bw w W->Calls prog 190 #[vt] W fun e l=>e=.returned (.bool (r.to.all Cn.scalar))/\l=W):=fun W h=>z0o vt r.to W (X.below h);obtain⟨R,M,rfl,_,_⟩:=X.shape;generalize r.n=n,r.lo=lo at *;generalize r.hi=hi,r.name=Y at *;generalize r.other=ot,r.wt=wt,r.to.all Cn.scalar=b,r.to.length=m at *;by_cases Z:q.least<=(m:Int)
 ·have i:=d0t Z;by_cases D:(m:Int)<=q.most
  ·have p:=d0t D;rw[d0t ⟨Z,D⟩,Bool.true_and];go_enter func338,ntmps338;go_wp2_with fail;refine c0m K fun I E=>?_;have L:=x0i (j:=4) E rfl;have Q:=x0b A E;have B:=x2i L;go_wp2_with fail;refine c1m (V t _ (Q.alloc Q.size _)) fun d H=>?_;subst d;go_wp2;go_ret;exact⟨rfl,Q.alloc Q.size _⟩
  ·have p:=d0f D;rw[d0f (fun h=>D h.2),Bool.false_and];exact R5t
 ·have i:=d0f Z;rw[d0f (fun h=>Z h.1),Bool.false_and];exact R5t
theorem x3d c w(T:I64 c):Calls prog 349 #[.int .i64 c] w fun e w'=>e=.returned (.bool (Cn.scalar c))/\w'=w:=by
 have K:=O (x2A c w T);by_cases L:0<=c/\c<=1114111
 ·have e:isPt c=true:=d0t L;rw[e]at K;have q:IntKind.i32.wrap c=c:=IntWalk.i32_in _ ⟨f6J,f6J⟩;have g:=O (y1q c w ⟨f6J,f6J⟩);go_enter func349,ntmps349;go_wp2_with fail;refine c0m K fun I B=>?_;subst I;go_wp2_with fail;refine c0m g fun I B=>?_;subst I;go_wp2;go_ret;exact⟨rfl,rfl⟩
 ·have e:isPt c=false:=d0f L;rw[e]at K;have f:Cn.scalar c=false:=d0f f6J;rw[f];go_enter func349,ntmps349;exact w6c
theorem x5L k r vt w(U:RecFit r):Calls prog 354 #[shV k,recV r vt] w (x0c w (decide (r.lo=0/\r.hi=0))):=by
 have Q:=x2N w (.cells #[.int .i64 k] 311) (.cells #[.int .i64 r.kind,.int .i64 r.lo,.int .i64 r.hi,.int .i64 r.n,vt,.string r.name,.string r.other,.float .f64 r.wt] 67);have m:=U.lo;have l:=U.hi;unfold shV recV at *;generalize r.lo=lo,r.hi=hi at *;by_cases Z:lo=0
 ·by_cases D:hi=0
  ·rw[d0t ⟨Z,D⟩];subst Z D;exact i6s
  ·rw[d0f (fun h=>D h.2)];subst Z;have p:(hi==0)=false:=b0f D;exact i6s
 ·rw[d0f (fun h=>Z h.1)];have i:(lo==0)=false:=b0f Z;exact i6s
theorem x5M k r vt w(U:RecFit r):Calls prog 351 #[shV k,recV r vt] w (x0c w (decide (r.lo=r.hi)&&Cn.scalar r.lo)):=by
 have Q:=x2N w (.cells #[.int .i64 k] 310) (.cells #[.int .i64 r.kind,.int .i64 r.lo,.int .i64 r.hi,.int .i64 r.n,vt,.string r.name,.string r.other,.float .f64 r.wt] 67);have m:=U.lo;have l:=U.hi;have K:=O (fun w=>x3d r.lo w U.lo);unfold shV recV at *;generalize r.lo=lo,r.hi=hi at *;by_cases Z:lo=hi
 ·rw[d0t Z,Bool.true_and];subst Z;have i:(lo==lo)=true:=beq_self_eq_true _;go_enter func351,ntmps351;go_wp2_with fail;refine c1m (V K _) fun d H=>?_;subst d;go_wp2;go_ret;exact⟨rfl,Q⟩
 ·rw[d0f Z,Bool.false_and];have i:(lo==hi)=false:=b0f Z;go_enter func351,ntmps351;exact v9U
def spanB(r:Rec):Bool:=decide (0<=r.lo/\r.lo<=1114111/\0<=r.hi/\r.hi<=1114111/\r.lo<=r.hi)
theorem x2n k r vt w(U:RecFit r):Calls prog 346 #[shV k,recV r vt] w (x0c w (spanB r)):=by
 have Q:=x2N w (.cells #[.int .i64 k] 307) (.cells #[.int .i64 r.kind,.int .i64 r.lo,.int .i64 r.hi,.int .i64 r.n,vt,.string r.name,.string r.other,.float .f64 r.wt] 67);have m:=U.lo;have l:=U.hi;have o:=O (fun w=>x2A r.lo w U.lo);have g:=O (fun w=>x2A r.hi w U.hi);unfold spanB shV recV at *;generalize r.lo=lo,r.hi=hi at *;by_cases Z:0<=lo/\lo<=1114111
 ·have P:isPt lo=true:=d0t Z;rw[P]at o;by_cases D:0<=hi/\hi<=1114111
  ·have f:isPt hi=true:=d0t D;rw[f]at g;by_cases R:lo<=hi
   ·rw[d0t ⟨Z.1,Z.2,D.1,D.2,R⟩];have a:=d0t R;exact w7i
   ·rw[d0f (fun h=>R h.2.2.2.2)];have a:=d0f R;exact w7i
  ·have f:isPt hi=false:=d0f D;rw[f]at g;rw[d0f (fun h=>D ⟨h.2.2.1,h.2.2.2.1⟩)];exact w7i
 ·have P:isPt lo=false:=d0f Z;rw[P]at o;rw[d0f (fun h=>Z ⟨h.1,h.2.1⟩)];go_enter func346,ntmps346;go_wp2_with fail;refine c1m (V o _) fun d H=>?_;subst d;go_wp2;go_ret;exact⟨rfl,Q⟩
def shiftB(r:Rec):Bool:=spanB r&&(decide (r.to.length=1)&&(Cn.scalar (r.to.getD 0 0)&&(Cn.scalar (r.to.getD 0 0+r.hi-r.lo)&&(decide (r.to.getD 0 0<55296)==decide (r.to.getD 0 0+r.hi-r.lo<55296)))))
theorem x4Y k r vt w(U:RecFit r)(X:Sk .i32 w vt r.to):Calls prog 347 #[shV k,recV r vt] w (x0c w (shiftB r)):=by
 have A:=x2N w (.cells #[.int .i64 k] 309) (.cells #[.int .i64 r.kind,.int .i64 r.lo,.int .i64 r.hi,.int .i64 r.n,vt,.string r.name,.string r.other,.float .f64 r.wt] 67);have o:=O (x2n k r vt ((w.alloc (.cells #[.int .i64 k] 309)).alloc (.cells #[.int .i64 r.kind,.int .i64 r.lo,.int .i64 r.hi,.int .i64 r.n,vt,.string r.name,.string r.other,.float .f64 r.wt] 67)) U);have s:=U.len;unfold shiftB
 cases hsp:spanB r with
 | false =>
  rw[hsp]at o;rw[Bool.false_and];unfold shV recV at *;go_enter func347,ntmps347;go_wp2_with fail;refine c0m o fun I E=>?_;have Q:=x0b A E;go_wp2;go_ret;exact⟨rfl,Q⟩
 | true =>
  rw[hsp]at o;rw[Bool.true_and];by_cases Z:r.to.length=1
  ·rw[d0t Z,Bool.true_and];obtain⟨b,P,M,rfl,q,F,T⟩:=X.place f6J;have J:=T 0 f6J;have N:=X.1.i32at 0;obtain⟨G,l,y,p,D⟩:0<=r.lo/\r.lo<=1114111/\0<=r.hi/\r.hi<=1114111/\r.lo<=r.hi:=o0d hsp;rw[Z]at o q A;have C:=x0a J;have B:=O (fun w=>x3d (r.to.getD 0 0) w ⟨f6J,f6J⟩);have v:=O (fun w=>x3d (r.to.getD 0 0+r.hi-r.lo) w ⟨f6J,f6J⟩);rw[Z];unfold shV recV at *;generalize r.n=n,r.lo=lo at *;generalize r.hi=hi,r.name=Y at *;generalize r.other=ot,r.wt=wt,r.to.getD 0 0=x at *;have c:IntKind.i64.wrap (x+hi)=x+hi:=IntWalk.i64_in _ ⟨f6J,f6J⟩;have f:IntKind.i64.wrap (x+hi-lo)=x+hi-lo:=IntWalk.i64_in _ ⟨f6J,f6J⟩;have g:IntKind.i64.wrap x=x:=IntWalk.i64_in _ ⟨f6J,f6J⟩
   cases ha:Cn.scalar x with
   | false =>
    rw[ha]at B;rw[Bool.false_and];go_enter func347,ntmps347;go_wp2_with fail;refine c0m o fun I E=>?_;have a:=x0i (j:=1) E rfl;have t:=x0i (j:=2) E rfl;have L:=x0i (j:=4) E rfl;have Q:=x0b A E;have S:I.cell? ⟨b,P,none⟩=some (.int .i32 x):=(Q.cell (by exact C)).trans J;go_wp2_with fail;refine c1m (V B _) fun d H=>?_;subst d;go_wp2;go_ret;exact⟨rfl,Q⟩
   | true =>
    rw[ha]at B;rw[Bool.true_and]
    cases hz:Cn.scalar (x+hi-lo)with
    | false =>
     rw[hz]at v;rw[Bool.false_and];exact G9c
    | true =>
     rw[hz]at v;rw[Bool.true_and];exact G9c
  ·rw[d0f Z,Bool.false_and];have i:((r.to.length:Int) != 1)=true:=P8P;obtain⟨R,M,rfl,_,_⟩:=X.shape;unfold shV recV at *;generalize r.kind=kd,r.n=n,r.lo=lo,r.hi=hi at *;generalize r.name=Y,r.other=ot,r.wt=wt,r.to.length=m at *;go_enter func347,ntmps347;go_wp2_with fail;refine c0m o fun I E=>?_;have L:=x0i (j:=4) E rfl;have Q:=x0b A E;go_wp2;go_ret;exact⟨rfl,Q⟩
def x2S(w:World)(b:Bool)(e:Ending)(w':World):Prop:=e=.returned (.bool b)/\w'=w
theorem x2S.mk{w b c}(h:c=b):x2S w b (.returned (.bool c)) w:=t5o
theorem y2G s w:Calls prog 114 #[.string s] w (x2S w (Scn.name (nums s))):=by
 have v:=nums_length s;have N:=fun i k hi G w=>x2q s i k hi G w;have J:=fun k=>(y3U s).at k;have r:Hid (¬s.size=4->x2S w (Scn.name (nums s)) (.returned (.bool false)) w):=fun h=>x2S.mk (by unfold Scn.name;rw[d0f];exact f6J);have T:Hid (¬(65<=(nums s).getD 0 0/\(nums s).getD 0 0<=90)->x2S w (Scn.name (nums s)) (.returned (.bool false)) w):=fun h=>x2S.mk (by unfold Scn.name;rw[d0f];exact fun x=>h ⟨x.2.1,x.2.2.1⟩)
 have f:Hid (∀k,1<=k->k<4->¬(97<=(nums s).getD k 0/\(nums s).getD k 0<=122)->x2S w (Scn.name (nums s)) (.returned (.bool false)) w):=fun k Z D h=>x2S.mk (by
  unfold Scn.name;rw[d0f];intro x;obtain⟨_,_,_,u,X,g⟩:=x;have:k=1\/k=2\/k=3:=f6J;rcases this with e | e | e<;>subst e
  ·exact h u
  ·exact h X
  ·exact h g)
 have n:Hid (s.size=4->65<=(nums s).getD 0 0->(nums s).getD 0 0<=90->(∀k,1<=k->k<4->97<=(nums s).getD k 0/\(nums s).getD k 0<=122)->x2S w (Scn.name (nums s)) (.returned (.bool true)) w):=fun Z D R z=>x2S.mk (by
  unfold Scn.name;rw[d0t]
  exact⟨f6J,D,R,z 1 f6J f6J,z 2 f6J f6J,z 3 f6J f6J⟩)
 by_cases I:s.size=4
 ·have A:=N 0 0 rfl f6J;obtain⟨a,U⟩:=J 0;have Q:=O N;have q:=O J;have L:=O (V n I);have F:((s.size:Int) != 4)=false:=(by simp[I]);clear N J r n;generalize(nums s).getD 0 0=o at *;by_cases P:o<65
  ·exact r5f
  ·by_cases d:90<o
   ·exact r5f
   ·have C:=O (V L f6J f6J);clear T L;go_enter func114,ntmps114;go_wp2;go_loop [3] (fun i=>∃k:Nat,i=.int .i64 k/\1<=k/\k<=4/\∀j,1<=j->j<k->97<=(nums s).getD j 0/\(nums s).getD j 0<=122) (fun i=>4-(intOf i).toNat)
    case atStart=>exact⟨1,rfl,f6J,f6J,fun j Z D=>f6J⟩
    case round =>
     clear A a U;obtain⟨k,rfl,B,E,S⟩:=hrel;by_cases H:k<4
     ·have G:=V Q (k:Int) k rfl f6J;obtain⟨b1,m⟩:=V q k
      have M:Hid (97<=(nums s).getD k 0->(nums s).getD k 0<=122->∀j,1<=j->j<k+1->97<=(nums s).getD j 0/\(nums s).getD j 0<=122):=fun Z D j p t=>by
       by_cases e:j=k
       ·subst e;exact⟨Z,D⟩
       ·exact S j p f6J
      have K:=O (V f k B H);clear S;generalize(nums s).getD k 0=c at *;by_cases y:c<97
      ·have Y:=V K f6J;clear K M f C;exact n0O
      ·by_cases b4:122<c
       ·have Y:=V K f6J;clear K M f C;exact n0O
       ·have b:=O (V M f6J f6J);clear K M f C;go_wp2;go_round
        case rel=>exact⟨k+1,g2A,f6J,f6J,V b⟩
        case measure=>exact g7V
     ·obtain rfl:k=4:=f6J;have Y:=V C S;clear f C S;exact n0O
 ·have Y:=V r I;have F:((s.size:Int) != 4)=true:=P8P;clear r T f n N J;go_enter func114,ntmps114;exact n0O
theorem z6h s:Cn.nameL s=Scn.name (nums s):=by
 unfold Cn.nameL Scn.name nums Scn.small;generalize s.data.toList=l
 match l with
 | []=>rfl
 | [_]=>rfl
 | [_,_]=>rfl
 | [_,_,_]=>rfl
 | [a,b,c,d] =>
  simp only[List.map_cons,List.map_nil,List.length_cons,List.length_nil,List.getD_cons_zero,List.getD_cons_succ];rw[decide_eq_decide];constructor
  ·intro h;exact⟨trivial,(f6J:65<=(a.toNat:Int)),(f6J:(a.toNat:Int)<=90),⟨(f6J:97<=(b.toNat:Int)),(f6J:(b.toNat:Int)<=122)⟩,⟨(f6J:97<=(c.toNat:Int)),(f6J:(c.toNat:Int)<=122)⟩,(f6J:97<=(d.toNat:Int)),(f6J:(d.toNat:Int)<=122)⟩
  ·rintro⟨_,Z,D,⟨R,z⟩,⟨H,q⟩,F,B⟩;have M:65<=(a.toNat:Int):=Z;have T:(a.toNat:Int)<=90:=D;have I:97<=(b.toNat:Int):=R;have K:(b.toNat:Int)<=122:=z;have X:97<=(c.toNat:Int):=H;have Y:(c.toNat:Int)<=122:=q;have m:97<=(d.toNat:Int):=F;have C:(d.toNat:Int)<=122:=B;omega
 | _::_::_::_::_::_ =>
  simp only[List.map_cons,List.length_cons];symm;rw[decide_eq_false_iff_not];omega
theorem x5A s w:Calls prog 114 #[.string s] w fun e w'=>e=.returned (.bool (Cn.nameL s))/\w'=w:=by
 rw[z6h];exact y2G s w
def theLaid:List (String×DataW Unit):=Rows.idnaNewRow.laid
def rowD(r:Row9):DataW Unit:=.agg [.lit (.string r.word.data.toList),.lit (.int .i64 r.fam),.lit (.int .i64 r.least),.lit (.int .i64 r.most),.lit (.int .i64 r.low),.lit (.int .i64 r.high),.lit (.string r.said.data.toList),.lit (.int .i64 r.scr),.lit (.bool r.wei)]
theorem y8Q:(Rows.laid_endonym_table_rows:DataW Unit)=.agg ((List.range 16).map fun k=>rowD (Cn.rowT k)):=f4x
theorem z8p : Tryz.prog.globalNamed "endonym/table.rows" = some 1 := f4x
theorem y8o:(prog.globals[1]?).map (·.type)=some 350:=f4x
theorem z7x{a b:ByteArray}(h:a.data.toList=b.data.toList):a=b:=by
 cases a;cases b;simp_all
def rowL(r:Row9):List Value:=[.string r.word,.int .i64 r.fam,.int .i64 r.least,.int .i64 r.most,.int .i64 r.low,.int .i64 r.high,.string r.said,.int .i64 r.scr,.bool r.wei]
section
variable {enc:TypeId×Value->Unit} {W:World} {base:Nat} {sp:Nat->Bool} {held:Bool}
theorem y9X{B:Nat}{cs:List Value}{r:Row9}{p:List MemPlace}(h:DataW.trod enc prog W base sp held B 313 cs=some (rowD r,p)):cs=rowL r:=by
 obtain⟨t,k,G,ab,E,j,U⟩:=DataW.trod_struct underlying313 h;have y:prog.cellsOf 313=9:=f4x;have c1:prog.cellsOf 3=1:=f4x;have s:prog.cellsOf 9=1:=f4x;have u:prog.cellsOf 4=1:=f4x;rw[y]at E
 match t,j,cs,E with
 | [y0,y1,y2,y3,y4,y5,y6,y7,y8],_,[v0,v1,v2,v3,v4,v5,v6,v7,v8],_ =>
  have hd:[y0.1,y1.1,y2.1,y3.1,y4.1,y5.1,y6.1,y7.1,y8.1]=[.lit (.string r.word.data.toList),.lit (.int .i64 r.fam),.lit (.int .i64 r.least),.lit (.int .i64 r.most),.lit (.int .i64 r.low),.lit (.int .i64 r.high),.lit (.string r.said.data.toList),.lit (.int .i64 r.scr),.lit (.bool r.wei)]:=by
   have:=congrArg Prod.fst ab;simpa[rowD]using this.symm
  simp only[List.cons.injEq,and_true]at hd;obtain⟨l,i,d2,a,I,L,b,Q,A⟩:=hd;have q:=U 0 _ rfl;have M:=U 1 _ rfl;have T:=U 2 _ rfl;have g3:=U 3 _ rfl;have K:=U 4 _ rfl;have X:=U 5 _ rfl;have Y:=U 6 _ rfl;have m:=U 7 _ rfl;have C:=U 8 _ rfl;simp[c1,s,u]at q M T g3 K X Y m C;obtain⟨s0,v,R,_⟩:=DataW.trod_string underlying9 q;obtain⟨S,P,q1,_⟩:=DataW.trod_int underlying3 M;obtain⟨z,f,g,_⟩:=DataW.trod_int underlying3 T;obtain⟨n3,J,D,_⟩:=DataW.trod_int underlying3 g3;obtain⟨n4,o,q4,_⟩:=DataW.trod_int underlying3 K;obtain⟨n5,N,F,_⟩:=DataW.trod_int underlying3 X;obtain⟨s6,Z,c,_⟩:=DataW.trod_string underlying9 Y;obtain⟨H,e7,q7,_⟩:=DataW.trod_int underlying3 m;obtain⟨x,n,d⟩:=DataW.trod_bool underlying4 C;rw[R]at l;rw[q1]at i;rw[g]at d2;rw[D]at a;rw[q4]at I;rw[F]at L;rw[c]at b;rw[q7]at Q;rw[d]at A;simp only[DataW.lit.injEq,Lit.string.injEq,Lit.int.injEq,Lit.bool.injEq,true_and]at l i d2 a I L b Q A;simp only[List.cons.injEq,and_true]at v P f J o N Z e7 n;rw[v,P,f,J,o,N,Z,e7,n,z7x l,i,d2,a,I,L,z7x b,Q,A];rfl
end
theorem y0Q:(theLaid.all fun x=>x.2.handleName?.isNone)=true:=f4x
theorem z1v:prog.cellsOf 313=9:=f4x
theorem glob_of{W:World}(h:laidMetH prog theLaid W):Glob W:=by
 rw[MakeChecks.laidMetH_plain _ _ _ y0Q]at h;obtain⟨s,⟨S,L,P,B,p,q,I,H,F,hd,_,_⟩,_⟩:=h;obtain rfl:=Option.some.inj (z8p.symm.trans I);obtain rfl:=Option.some.inj (y8o.symm.trans H);obtain⟨t,m,_,J,E,M,C⟩:=DataW.trod_array underlying350 hd
 have g:t.map (·.1)=(List.range 16).map fun k=>rowD (Cn.rowT k):=by
  have Z:=congrArg Prod.fst J;have D:(Rows.laid_endonym_table_rows:DataW Unit)=.agg (t.map (·.1)):=Z;rw[y8Q]at D;simpa using D.symm
 intro k G
 have A:∃pk,t[k]?=some (rowD (Cn.rowT k),pk):=by
  have Z:(t.map (·.1))[k]?=some (rowD (Cn.rowT k)):=by
   rw[g];simp[G]
  rw[List.getElem?_map,Option.map_eq_some_iff]at Z;obtain⟨⟨a,b⟩,D,R⟩:=Z;exact⟨b,by rw[D];simp at R;rw[R]⟩
 obtain⟨pk,A⟩:=A;have R:=C k G;rw[A,z1v]at R;have z:=y9X R
 have X:∀j v,(rowL (Cn.rowT k))[j]?=some v->W.cell? ⟨1,k*9+j,none⟩=some v:=fun j v N=>by
  have T:=World.var?_cell z8p F (k*9+j);rw[<- z]at N
  have K:j<9:=by
   rcases Nat.lt_or_ge j 9 with hh | hh
   ·exact hh
   ·rw[List.getElem?_eq_none U3s]at N;cases N
  rw[List.getElem?_take_of_lt K,List.getElem?_drop]at N;rw[T];simpa using N
 exact⟨X 0 _ rfl,X 1 _ rfl,X 2 _ rfl,X 3 _ rfl,X 4 _ rfl,X 5 _ rfl,X 6 _ rfl,X 7 _ rfl,X 8 _ rfl⟩
theorem own:ownKnob prog.godebug=none:=f4x
theorem laidOut:laidOutB prog=true:=f4x
theorem start_met(Q:Os)(args:Array Value):laidMetH prog theLaid ((World.laidAll prog Q theLaid).forCall (fun _ _=>0) ⟨#[],args,[]⟩).memory:=by
 rw[MakeChecks.laidMetH_plain _ _ _ y0Q];exact laidMet_laidAll _ f4x f4x
theorem y2S(Q:Os)(args:Array Value):((World.laidAll prog Q theLaid).forCall (fun _ _=>0) ⟨#[],args,[]⟩).Shaped prog:=World.shaped_of_ZipB f4x f4x
theorem start_at{H:Type}{enc:TypeId×Value->H}{Q:Os}{f:FuncId}{fn:Func}{s:OpenSpec}{conds:List PathCond}(args:Array Value)
  (y:Input.okWideB Tryz.checked.prog ((World.laidAll prog Q theLaid).forCall (fun _ _=>0) ⟨#[],args,[]⟩) f ⟨#[],args,[]⟩=true)
  (L:s.preRow enc Tryz.checked.prog fn conds false theLaid ((World.laidAll prog Q theLaid).forCall (fun _ _=>0) ⟨#[],args,[]⟩).memory args) :
  ∃(w:World) (A:Tape) (i:Input),w.os=Q/\(w.forCall A i).Shaped Tryz.checked.prog/\i.vars=[]/\Input.okWide Tryz.checked.prog (w.forCall A i) .any w.heap.size f i /\
   s.preRow enc Tryz.checked.prog fn conds false theLaid (w.forCall A i).memory i.args/\({}:Assume).holds Tryz.checked.prog (lone (Frame.enter Tryz.checked.prog f i.args .normal) [] (w.forCall A i)) :=
 ⟨World.laidAll prog Q theLaid,fun _ _=>0,⟨#[],args,[]⟩,World.laidAll_os _ _ _,y2S Q args,(Input.okWide_of_okWideB (base:=0) y).1,(Input.okWide_of_okWideB y).2,L,by
  simp only[Assume.holds]
  exact⟨M7K,M7K,fun _=>Modest.zero,M7K,M7K⟩⟩
