/- Lemmas. -/
import Derived.Test.YtkfcabdmkmljjaaGreatDoorG5
import Derived.Shelf.Abstract
import Derived.Lib.Walk
import Derived.WalkMore
import Derived.Test.YtkfcabdmkmljjaaGreatDoorG16
import Derived.Test.YtkfcabdmkmljjaaGreatDoorRows
import Derived.ProofKit
import Derived.OpenShut
import Derived.ShutString
import Derived.LaidMore
import Derived.Lay
import Derived.Stop.LaidErr
import Derived.Deep.DeepHandedRow
import Derived.Lib.LaidTab
import Derived.MakeChecks
import Derived.Shelf.Vars
set_option maxHeartbeats 4000000
set_option maxRecDepth 20000
namespace Go.Proofs.YtkfcabdmkmljjaaGreatDoor
open Go.Proofs.Tryz
open Go.RowKit
section
variable{p:Prop}
theorem P1t(h:p:=by go_enter func336,ntmps336;go_wp2_with fail;refine c0m K fun Q F=>?_;have v:=x0l (j:=3) F rfl;have Y:=bthen f F;have B:=x2b v;go_wp2;go_ret;exact⟨rfl,Y.alloc Y.size _⟩):p:=h
theorem T3Y(h:p:=by go_enter func347,ntmps347;go_wp2_with fail;refine c1m (V q _) fun T a=>?_;subst T;go_wp2_with fail;refine c1m (V g _) fun T a=>?_;subst T;go_wp2;go_ret;exact⟨rfl,Y⟩):p:=h
theorem t8P(h:p:=by go_enter func339,ntmps339;go_wp2_with fail;refine c0m K fun Q F=>?_;have z:=x0l (j:=4) F rfl;have Y:=bthen f F;have A:=x2b z;go_wp2;go_ret;exact⟨rfl,Y.alloc Y.size _⟩):p:=h
theorem T1E(h:p:=by go_wp2;go_ret;exact⟨rfl,Y⟩):p:=h
theorem M0h(h:p:=by simp[Ieee.Datum.order,Ieee.Datum.isNaN,Std.ReflCmp.compare_self]):p:=h
theorem P5p(h:p:=by go_enter func343,ntmps343;go_wp2_with fail;refine(V q).mono ?_;rintro e w ⟨rfl,rfl⟩;go_wp2_with fail;refine(V g).mono ?_;rintro e w ⟨rfl,rfl⟩;exact t6u):p:=h
theorem E3G(h:p:=by go_enter func355,ntmps355;exact T1E):p:=h
theorem P3C(h:p:=by go_enter func348,ntmps348;go_wp2_with fail;refine c0m q fun Q F=>?_;have g:=x0l (j:=1) F rfl;have P:=x0l (j:=2) F rfl;have z:=x0l (j:=4) F rfl;have Y:=bthen f F;have hy:Q.cell? ⟨b,R,none⟩=some (.int .i32 x):=(Y.cell (by exact K)).trans A;go_wp2_with fail;refine c1m (V D _) fun T a=>?_;subst T;go_wp2_with fail;refine c1m (V C _) fun T a=>?_;subst T;go_wp2;go_ret;exact⟨rfl,Y⟩):p:=h
theorem v1C(h:p:=by go_enter func340,ntmps340;go_wp2_with fail;refine c0m K fun Q F=>?_;have Z:=x0l (j:=7) F rfl;have Y:=bthen f F;go_wp2_with fail;refine c1m (V KN _) fun T a=>?_;subst T;go_wp2_with fail;refine c1m (V J _) fun T a=>?_;subst T;go_wp2;go_ret;exact⟨rfl,Y⟩):p:=h
theorem N6l(h:p:=by show((w.heap.push _).push _)[w.heap.size+1]?=_;rw[Array.getElem?_push];simp):p:=h
theorem R0k(h:p:=by rw[(e8N:((2^IntKind.u64.bits:Nat):Int)=18446744073709551616)];omega):p:=h
theorem N3I(h:p:=by go_enter func340,ntmps340;go_wp2_with fail;refine c0m K fun Q F=>?_;have Z:=x0l (j:=7) F rfl;have Y:=bthen f F;go_wp2_with fail;refine c1m (V C _) fun T a=>?_;subst T;go_wp2;go_ret;exact⟨rfl,Y⟩):p:=h
theorem V7i(h:p:=by go_enter func344,ntmps344;go_wp2_with fail;refine(V q).mono ?_;rintro e w ⟨rfl,rfl⟩;go_wp2_with fail;refine(V g).mono ?_;rintro e w ⟨rfl,rfl⟩;exact t6w):p:=h
theorem u4u(h:p:=by have G:Cn.scalar c=false:=d0f f6J;exact w6e):p:=h
theorem m2J(h:p:=by go_wp2;go_ret;exact U):p:=h
theorem I1y(h:p:=by have U:=V b f6J;clear b f A;go_enter func123,ntmps123;exact m2J):p:=h
end
theorem y0u c w(h:-2147483648<=c/\c<=2147483647) :
  Calls prog 108 #[.int .i32 c] w fun e w'=>e=.returned (.bool (Cn.scalar c))/\w'=w:=by
 by_cases Z:0<=c
 ·by_cases D:c<55296
  ·have G:Cn.scalar c=true:=d0t f6J;exact w6e
  ·by_cases J:57343<c
   ·by_cases H:c<=1114111
    ·have G:Cn.scalar c=true:=d0t f6J;exact w6e
    ·exact u4u
   ·exact u4u
 ·exact u4u
theorem y2f c w(h:-2147483648<=c/\c<=2147483647) :
  Calls prog 62 #[.int .i32 c] w fun e w'=>e=.returned (.bool (Cn.scalar c))/\w'=w:=by
 have H:=O (y0u c w h);go_enter func62,ntmps62;go_wp2_with fail;refine(V H).mono ?_;rintro e w ⟨rfl,rfl⟩;go_wp2;go_ret;exact⟨rfl,rfl⟩
theorem y2e c w(h:-2147483648<=c/\c<=2147483647) :
  Calls prog 156 #[.int .i32 c] w fun e w'=>e=.returned (.bool (!Cn.scalar c))/\w'=w:=by
 have H:=O (y2f c w h);go_enter func156,ntmps156;go_wp2_with fail;refine(V H).mono ?_;rintro e w ⟨rfl,rfl⟩;go_wp2;go_ret;exact⟨rfl,rfl⟩
theorem y0Q{xs:List Int}{k}(G:k<xs.length):xs.drop k=xs.getD k 0::xs.drop (k+1):=f0h
def fb(p:Int->Bool):Nat->List Int->Int
 | _,[]=>-1
 | i,c::r=>if p c then(i:Int)else fb p (i+1) r
theorem z9W{p:Int->Bool}{xs:List Int}{k r}(G:k<xs.length)(h:r=fb p k (xs.drop k))(s:p (xs.getD k 0)=true):r=(k:Int):=by
 rw[h,y0Q G,fb,if_pos s]
theorem z6Y{p:Int->Bool}{xs:List Int}{k r}(G:k<xs.length)(h:r=fb p k (xs.drop k))(s:p (xs.getD k 0)=false):r=fb p (k+1) (xs.drop (k+1)):=by
 rw[h,y0Q G,fb,s];rfl
theorem z5l{p:Int->Bool}{xs:List Int}{k r}(G:xs.length<=k)(h:r=fb p k (xs.drop k)):r=-1:=by
 rw[h,List.drop_eq_nil_of_le G,fb]
theorem z9V(p:Int->Bool) i xs:decide (fb p i xs<0)=xs.all (fun c=>!p c):=by
 induction xs generalizing i with
 | nil=>rfl
 | cons c r ih =>
  simp only[fb,List.all_cons];exact e4k
theorem x9B(p:Int->Bool)(g:Nat)(D:∀x w,(-2147483648<=x/\x<=2147483647)->Calls prog g #[.int .i32 x] w fun e w'=>e=.returned (.bool (p x))/\w'=w)(q:∀args w,(callFunc g args).run prog w=.ok (.enter g args) w)
  v xs w (N:Sk .i32 w v xs) :
  Calls prog 66 #[v,.func (.func g) #[] #[]] w fun e w'=>e=.returned (.int .i64 (fb p 0 xs))/\w'=w:=by
 have z:=N.len;have j:fb p 0 xs=fb p 0 (xs.drop 0):=s4M;rcases Nat.eq_zero_or_pos xs.length with h0 | h0
 ·have d:=z5l f6J j;exact f6u
 ·have s:=O N.1;obtain⟨b,R,M,rfl,H,F,I⟩:=N.place h0;have C:=O I;have Q:=O j;have A:=O D;clear N I j D;generalize d:fb p 0 xs=r at *;go_enter func66,ntmps66;go_wp2;go_loop [5,8] (fun _ i=>∃k:Nat,i=.int .i64 k/\k<=xs.length/\r=fb p k (xs.drop k)) (fun _ i=>xs.length-(intOf i).toNat)
  case atStart=>exact⟨0,rfl,f6J,V Q⟩
  case round =>
   obtain⟨k,rfl,G,u⟩:=hrel;by_cases E:k<xs.length
   ·have K:=V C k E;have B:=(V s).i32at k;have L:=O (V A (xs.getD k 0) w B)
    cases hok:p (xs.getD k 0)with
    | true =>
     have Y:=z9W E u hok;rw[hok]at L;subst Y;clear u hok Q;generalize xs.getD k 0=c at *;go_wp2_with(go_at_fn g;refine(V L).mono ?_;rintro e w ⟨rfl,rfl⟩);go_ret;exact⟨rfl,rfl⟩
    | false =>
     have a:=O (z6Y E u hok);rw[hok]at L;generalize xs.getD k 0=c at *;go_wp2_with(go_at_fn g;refine(V L).mono ?_;rintro e w ⟨rfl,rfl⟩);go_round
     case rel=>exact⟨k+1,g2B,f6J,V a⟩
     case measure=>exact g7T
   ·have Y:=z5l f6J u;subst Y;exact t6x
theorem y8O:∀args w,(callFunc 156 args).run prog w=.ok (.enter 156 args) w:=f0h
theorem x5K v xs w(N:Sk .i32 w v xs) :
  Calls prog 104 #[v] w fun e w'=>e=.returned (.int .i64 (fb (fun c=>!Cn.scalar c) 0 xs))/\w'=w:=by
 have H:=O (x9B (fun c=>!Cn.scalar c) 156 y2e y8O v xs w N);go_enter func104,ntmps104;go_wp2_with fail;refine(V H).mono ?_;rintro e w ⟨rfl,rfl⟩;go_wp2;go_ret;exact⟨rfl,rfl⟩
theorem z1s v xs w(N:Sk .i32 w v xs) :
  Calls prog 152 #[v] w fun e w'=>e=.returned (.bool (xs.all Cn.scalar))/\w'=w:=by
 have H:=O (x5K v xs w N);have e:xs.all Cn.scalar=decide (fb (fun c=>!Cn.scalar c) 0 xs<0):=(by rw[z9V];exact M7K);rw[e];go_enter func152,ntmps152;go_wp2_with fail;refine(V H).mono ?_;rintro e w ⟨rfl,rfl⟩;go_wp2;go_ret;exact⟨rfl,rfl⟩
def nanB(u:Nat):Bool:=decide (9218868437227405312<u%9223372036854775808)
theorem y6B(d:Ieee.Datum):d.order d=if d.isNaN then none else some .eq:=by
 cases d with
 | number s m i =>exact M0h
 | infinity s=>exact M0h
 | nan s t=>simp[Ieee.Datum.order,Ieee.Datum.isNaN]
theorem z4p u:(FloatKind.f64.format.read u).isNaN=nanB u:=by
 have t:FloatKind.f64.format.signWeight=9223372036854775808:=e8N;have E:FloatKind.f64.format.binade=4503599627370496:=e8N;have N:FloatKind.f64.format.infRung=9218868437227405312:=e8N;unfold Ieee.Format.read nanB;simp only[t,E,N];split
 ·rw[d0f f6J];rfl
 ·split
  ·rw[d0f f6J];rfl
  ·split
   ·rw[d0f f6J];rfl
   ·rw[d0t f6J];rfl
theorem z3W u:(FloatKind.f64.format.order u u != some .eq)=nanB u:=by
 unfold Ieee.Format.order;rw[y6B,<- z4p];cases(FloatKind.f64.format.read u).isNaN<;>rfl
theorem y1k u w:Calls prog 199 #[.float .f64 u] w fun e w'=>e=.returned (.bool (nanB u))/\w'=w:=by
 have e:=z3W u;go_enter func199,ntmps199;exact t6u
def rankN(u:Nat):Int:=if nanB u then 18446744073709551615 else if u<9223372036854775808 then(u:Int)+9223372036854775808 else 18446744073709551615-u
theorem z7X{u:Nat}(h:u<9223372036854775808):bits .or .u64 (u:Int) 9223372036854775808=(u:Int)+9223372036854775808:=by
 unfold bits;simp only[]
 have e:(BitVec.ofInt IntKind.u64.bits (u:Int)|||BitVec.ofInt IntKind.u64.bits 9223372036854775808).toNat=u+9223372036854775808:=by
  rw[BitVec.toNat_or,BitVec.toNat_ofInt,BitVec.toNat_ofInt]
  have t:((u:Int)%((2^IntKind.u64.bits:Nat):Int)).toNat=u:=R0k
  have E:((9223372036854775808:Int)%((2^IntKind.u64.bits:Nat):Int)).toNat=9223372036854775808:=e8N;rw[t,E,Nat.or_comm];have:=Nat.two_pow_add_eq_or_of_lt (i:=63) (b:=u) f6J 1;rw[(e8N:(2:Nat)^63*1=9223372036854775808)]at this;omega
 rw[e,IntWalk.u64_in _ ⟨f6J,f6J⟩];omega
theorem z8P{u:Nat}(h:u<18446744073709551616):bits .xor .u64 IntKind.u64.max (u:Int)=18446744073709551615-(u:Int):=by
 unfold bits;simp only[]
 have e:(BitVec.ofInt IntKind.u64.bits IntKind.u64.max ^^^ BitVec.ofInt IntKind.u64.bits (u:Int)).toNat=18446744073709551615-u:=by
  rw[(e8N:BitVec.ofInt IntKind.u64.bits IntKind.u64.max=BitVec.allOnes IntKind.u64.bits),BitVec.allOnes_xor,BitVec.toNat_not,BitVec.toNat_ofInt]
  have t:((u:Int)%((2^IntKind.u64.bits:Nat):Int)).toNat=u:=R0k
  rw[t];rfl
 rw[e,IntWalk.u64_in _ ⟨f6J,f6J⟩];omega
theorem y4U u w(d:u<18446744073709551616):Calls prog 344 #[.float .f64 u] w fun e w'=>e=.returned (.int .u64 (rankN u))/\w'=w:=by
 have q:=O (x3U u w);have g:=O (y1k u w);unfold rankN
 cases hn:nanB u with
 | true =>
  rw[hn]at g;rw[if_pos rfl];exact V7i
 | false =>
  rw[hn]at g;rw[if_neg e8N];by_cases L:u<9223372036854775808
  ·rw[if_pos L];have N:¬(9223372036854775808:Int)<=(u:Int):=f6J;have j:=z7X L;have T:(0:Int)<=(u:Int):=f6J;have i:(u:Int)<9223372036854775808:=f6J;generalize(u:Int)=x at *;exact V7i
  ·rw[if_neg L];have N:(9223372036854775808:Int)<=(u:Int):=f6J;have A:=z8P d;go_enter func344,ntmps344;go_wp2_with fail;refine(V q).mono ?_;rintro e w ⟨rfl,rfl⟩;go_wp2_with fail;refine(V g).mono ?_;rintro e w ⟨rfl,rfl⟩;go_wp2;go_ret;refine⟨?_,rfl⟩;rw[<- A];rfl
def okAt(k:Nat)(c:Int):Prop:=if k=0 then 65<=c/\c<=90 else 97<=c/\c<=122
theorem x9P l:Scn.name l=true↔(l.length=4/\∀k,k<4->okAt k (l.getD k 0)):=by
 unfold Scn.name;rw[decide_eq_true_iff];constructor
 ·rintro⟨R,Z,D,J,H,K⟩;refine⟨R,fun k G=>?_⟩;unfold okAt;obtain rfl | rfl | rfl | rfl:k=0\/k=1\/k=2\/k=3:=by omega
  ·exact⟨Z,D⟩
  ·exact J
  ·exact H
  ·exact K
 ·rintro⟨R,h⟩;exact⟨R,(h 0 f6J).1,(h 0 f6J).2,h 1 f6J,h 2 f6J,h 3 f6J⟩
theorem y1U s w:Calls prog 341 #[.string s] w (x0g w (Scn.name (nums s))):=by
 have B:=nums_length s;by_cases H:s.size=4
 ·have n:Hid ((∀k,k<4->okAt k ((nums s).getD k 0))->∀o,Bw w o->x0g w (Scn.name (nums s)) (.returned (.bool true)) o):=fun h o Y=>⟨by rw[(x9P _).2 ⟨f6J,h⟩],Y⟩
  have D:Hid (∀k,k<4->¬okAt k ((nums s).getD k 0)->∀o,Bw w o->x0g w (Scn.name (nums s)) (.returned (.bool false)) o):=fun k G h o Y=>by
   have:Scn.name (nums s)=false:=by
    cases hn:Scn.name (nums s)with
    | false=>rfl
    | true=>exact absurd (((x9P _).1 hn).2 k G) h
   exact⟨by rw[this],Y⟩
  have Q:=O (fun k=>(y4O s).at k);have T:((s.size:Int) != 4)=false:=(by rw[H];rfl);go_enter func341,ntmps341;go_wp2;go_loopw[3,4] (fun _ _ wr=>∃k:Nat,wr=w.iter s k/\k<=4/\∀j,j<k->okAt j ((nums s).getD j 0)) (fun _ _ wr=>4-wr.iterPos w.heap.size)
  case atStart=>exact⟨0,rfl,f6J,fun j S=>absurd S (Nat.not_lt_zero _)⟩
  case round =>
   obtain⟨k,rfl,G,l⟩:=hrel;have X:=O l;by_cases E:k<4
   ·have m:=fun d=>run_next_any (P:=prog) w s k d f6J;obtain⟨Z,K⟩:=V Q k;rcases Int.lt_or_le ((nums s).getD k 0) 128 with y | hhi
    ·obtain⟨u,a⟩:=y8C s k f6J y;rw[u,a]at m;have f:=O (V D k E)
     have M:Hid (okAt k ((nums s).getD k 0)->∀j,j<k+1->okAt j ((nums s).getD j 0)):=fun h j S=>by
      rcases Nat.lt_or_ge j k with hj2 | hj2
      ·exact V X j hj2
      ·obtain rfl:j=k:=f6J;exact h
     have J:4-(k+1)<4-(w.iter s k).iterPos w.heap.size:=(by rw[World.iterPos_iter];exact f6J);generalize hcg:(nums s).getD k 0=c at m Z K y f M;by_cases I:k=0
     ·subst I;by_cases i:65<=c
      ·by_cases A:c<=90
       ·have R:=O (V M ⟨i,A⟩);go_wp2
        go_roundw
        case rel=>exact⟨0+1,rfl,f6J,V R⟩
        case measure=>rw[World.iterPos_iter];exact J
       ·have U:=V f (fun h=>A h.2) (w.iter s (0+1)) ((b0r).alloc (l0r _) _);exact m2H
      ·have U:=V f (fun h=>i h.1) (w.iter s (0+1)) ((b0r).alloc (l0r _) _);exact m2H
     ·have C:((k:Int)==0)=false:=b0f f6J;have L:okAt k c=(97<=c/\c<=122):=(by unfold okAt;rw[if_neg I]);rw[L]at f M;by_cases i:97<=c
      ·by_cases A:c<=122
       ·have R:=O (V M ⟨i,A⟩);go_wp2
        go_roundw
        case rel=>exact⟨k+1,rfl,f6J,V R⟩
        case measure=>rw[World.iterPos_iter];exact J
       ·have U:=V f (fun h=>A h.2) (w.iter s (k+1)) ((b0r).alloc (l0r _) _);exact m2H
      ·have U:=V f (fun h=>i h.1) (w.iter s (k+1)) ((b0r).alloc (l0r _) _);exact m2H
    ·obtain⟨u,a,b,v⟩:=z2U s k f6J hhi;have F:=z6H s k;have U:=V D k E (fun h=>by unfold okAt at h;split at h<;>omega) (w.iter s (k+(Utf8.decode s k).2)) ((b0r).alloc (l0r _) _);by_cases I:k=0
     ·subst I;rw[Nat.zero_add]at U m;exact m2H
     ·have C:((k:Int)==0)=false:=b0f f6J;exact m2H
   ·obtain rfl:k=4:=f6J;have m:=fun d=>run_next_end (P:=prog) w s 4 d f6J;have U:=V n (V X) (w.iter s 4) ((b0r).alloc (l0r _) _);go_wp2;go_ret;exact U
 ·have U:x0g w (Scn.name (nums s)) (.returned (.bool false)) w:=by
   have:Scn.name (nums s)=false:=by
    cases hn:Scn.name (nums s)with
    | false=>rfl
    | true=>exact absurd ((x9P _).1 hn).1 f6J
   exact⟨by rw[this],b0r⟩
  have T:((s.size:Int) != 4)=true:=P8P;go_enter func341,ntmps341;exact m2H
def cmpI(a b:Int):Int:=if a<b then -1 else if b<a then 1 else 0
theorem x8t a w:Calls prog 345 #[.int .u64 a] w fun e w'=>e=.returned (.bool false)/\w'=w:=by
 have h:(a != a)=false:=M7L;go_enter func345,ntmps345;exact t6u
theorem y2z a b w:Calls prog 343 #[.int .u64 a,.int .u64 b] w fun e w'=>e=.returned (.int .i64 (cmpI a b))/\w'=w:=by
 have q:=O (x8t a w);have g:=O (x8t b w);unfold cmpI;by_cases Z:a<b
 ·rw[if_pos Z];exact P5p
 ·rw[if_neg Z];by_cases D:b<a
  ·rw[if_pos D];exact P5p
  ·rw[if_neg D];exact P5p
theorem x8l u v w(d:u<18446744073709551616)(N:v<18446744073709551616):Calls prog 342 #[.float .f64 u,.float .f64 v] w fun e w'=>e=.returned (.int .i64 (cmpI (rankN u) (rankN v)))/\w'=w:=by
 have q:=O (y4U u w d);have g:=O (y4U v w N);have S:=O (y2z (rankN u) (rankN v) w);go_enter func342,ntmps342;go_wp2_with fail;refine(V q).mono ?_;rintro e w ⟨rfl,rfl⟩;go_wp2_with fail;refine(V g).mono ?_;rintro e w ⟨rfl,rfl⟩;go_wp2_with fail;refine(V S).mono ?_;rintro e w ⟨rfl,rfl⟩;exact t6u
theorem y2h{u}(h:u<18446744073709551616):(!nanB u&&decide (0<=cmpI (rankN u) (rankN 0)))=Cn.weight u:=by
 have M:rankN 0=9223372036854775808:=e8N;rw[M];by_cases F:nanB u=true
 ·rw[F];have:9218868437227405312<u%9223372036854775808:=o0d F;unfold Cn.weight;rw[d0f (p:=u<=9218868437227405312) f6J];rfl
 ·have b:nanB u=false:=i0O;have:¬9218868437227405312<u%9223372036854775808:=of_decide_eq_false b;by_cases L:u<9223372036854775808
  ·have e:rankN u=(u:Int)+9223372036854775808:=by unfold rankN;rw[b,if_neg e8N,if_pos L]
   have I:0<=cmpI (rankN u) 9223372036854775808:=by
    rw[e];unfold cmpI;rw[if_neg f6J];split<;>decide
   unfold Cn.weight;rw[b,d0t I,d0t (p:=u<=9218868437227405312) f6J];rfl
  ·have e:rankN u=18446744073709551615-(u:Int):=by unfold rankN;rw[b,if_neg e8N,if_neg L]
   have I:¬0<=cmpI (rankN u) 9223372036854775808:=by
    rw[e];unfold cmpI;rw[if_pos f6J];decide
   unfold Cn.weight;rw[b,d0f I,d0f (p:=u<=9218868437227405312) f6J];rfl
theorem x2D w a b:Bw w ((w.alloc a).alloc b):=((b0r).alloc (l0r _) _).alloc M7K _
def numB(k:Int)(r:Rec):Bool:=decide ((Cn.rowK k).low<=r.n/\r.n<=(Cn.rowK k).high)
theorem x0l{w w1:World}{a cs t j}{v}(Y:Below ((w.alloc a).alloc (.cells cs t)).heap.size ((w.alloc a).alloc (.cells cs t)) w1)(h:cs[j]?=some v):w1.cell? ⟨w.heap.size+1,j,none⟩=some v:=by
 have R:((w.alloc a).alloc (.cells cs t)).heap[w.heap.size+1]?=some (.cells cs t (0,0)):=N6l
 have Z:w1.heap[w.heap.size+1]?=some (.cells cs t (0,0)):=by
  rw[Y.block _ M7K,R]
 have X:j<cs.size:=(by grind);rw[cell_of (j:=j) Z X];simp[Array.getD,X]at h ⊢;simpa[Array.getElem?_eq_getElem X]using h
theorem x2b{w:World}{b i v}(h:w.cell? ⟨b,i,none⟩=some v) o:(w.alloc o).cell? ⟨b,i,none⟩=some v:=by
 rw[World.cell?_alloc_lt _ _ _ (x0a h)];exact h
theorem y1x k r vt w(C:Glob w)(G:I64 k)(E:I64 r.n):Calls prog 336 #[shV k,recV r vt] w (x0g w (numB k r)):=by
 have f:=x2D w (.cells #[.int .i64 k] 270) (.cells #[.int .i64 r.kind,.int .i64 r.lo,.int .i64 r.hi,.int .i64 r.n,vt,.string r.name,.string r.other,.float .f64 r.wt] 60);have K:=O (x7y k ((w.alloc (.cells #[.int .i64 k] 270)).alloc (.cells #[.int .i64 r.kind,.int .i64 r.lo,.int .i64 r.hi,.int .i64 r.n,vt,.string r.name,.string r.other,.float .f64 r.wt] 60)) (C.on f) G);unfold numB shV recV rowV at *;generalize Cn.rowK k=q at *;obtain⟨m,U⟩:=E;generalize r.n=n at *;by_cases Z:q.low<=n
 ·by_cases D:n<=q.high
  ·rw[d0t ⟨Z,D⟩];have u:=d0t Z;have a:=d0t D;exact P1t
  ·rw[d0f (fun h=>D h.2)];have u:=d0t Z;have a:=d0f D;exact P1t
 ·rw[d0f (fun h=>Z h.1)];have u:=d0f Z;exact P1t
def weiB(k:Int)(r:Rec):Bool:=if(Cn.rowK k).wei=true then Cn.weight r.wt else decide (r.wt=0)
theorem y3I k r vt w(B:Glob w)(G:I64 k)(d:r.wt<18446744073709551616):Calls prog 340 #[shV k,recV r vt] w (x0g w (weiB k r)):=by
 have f:=x2D w (.cells #[.int .i64 k] 270) (.cells #[.int .i64 r.kind,.int .i64 r.lo,.int .i64 r.hi,.int .i64 r.n,vt,.string r.name,.string r.other,.float .f64 r.wt] 60);have K:=O (x7y k ((w.alloc (.cells #[.int .i64 k] 270)).alloc (.cells #[.int .i64 r.kind,.int .i64 r.lo,.int .i64 r.hi,.int .i64 r.n,vt,.string r.name,.string r.other,.float .f64 r.wt] 60)) (B.on f) G);unfold weiB shV recV rowV at *;generalize Cn.rowK k=q at *;have o:=fld8 q;rw[<- y2h d];have KN:=O (fun w=>y1k r.wt w);have J:=O (fun w=>x8l r.wt 0 w d e8N);have C:=O (fun w=>x3U r.wt w);generalize r.n=n,r.lo=lo at *;generalize r.hi=hi,r.name=E at *;generalize r.other=ot,r.wt=X at *;generalize cmpI (rankN X) (rankN 0)=c at *
 cases hw:q.wei with
 | true =>
  rw[if_pos rfl];rw[hw]at o K
  cases hn:nanB X with
  | true =>
   rw[hn]at KN;go_enter func340,ntmps340;go_wp2_with fail;refine c0m K fun Q F=>?_;have Z:=x0l (j:=7) F rfl;have Y:=bthen f F;go_wp2_with fail;refine c1m (V KN _) fun T a=>?_;subst T;go_wp2;go_ret;exact⟨rfl,Y⟩
  | false =>
   rw[hn]at KN;by_cases I:0<=c
   ·rw[d0t I];have u:=d0t I;exact v1C
   ·rw[d0f I];have u:=d0f I;exact v1C
 | false =>
  rw[if_neg e8N];rw[hw]at o K;by_cases R:X=0
  ·rw[d0t R];subst R;exact N3I
  ·rw[d0f R];have D:((X:Int)==0)=false:=b0f f6J;exact N3I
theorem z3U s:Cn.nameL s=Scn.name (nums s):=by
 unfold Cn.nameL Scn.name nums Scn.small;generalize s.data.toList=l
 match l with
 | []=>rfl
 | [_]=>rfl
 | [_,_]=>rfl
 | [_,_,_]=>rfl
 | [a,b,c,d]=>grind
 | _::_::_::_::_::_=>grind
theorem l_ne{b:ByteArray}(h:¬b.size=0):¬b.toList=[]:=fun e=>h (by
 have:b.data.toList.length=0:=I7C;show b.data.size=0;rw[<- Array.length_toList]
 exact this)
theorem z7w{b:ByteArray}(h:¬b.size=0):b.toList.isEmpty=false:=List.isEmpty_eq_false_iff.2 (l_ne h)
theorem z7x{b:ByteArray}(h:b.size=0):b=⟨#[]⟩:=by
 cases b with
 | mk a =>
  have:a.size=0:=h;rw[Array.eq_empty_of_size_eq_zero this]
def namB(k:Int)(r:Rec):Bool:=if(Cn.rowK k).scr=1 then Cn.nameL r.name&&decide (r.other.size=0)else if(Cn.rowK k).scr=2 then Cn.nameL r.name&&(Cn.nameL r.other&&decide (r.name≠r.other))else decide (r.name.size=0)&&decide (r.other.size=0)
theorem x4t s w:Calls prog 341 #[.string s] w (x0g w (Cn.nameL s)):=by
 rw[z3U];exact y1U s w
theorem z0g k r vt w(C:Glob w)(G:I64 k):Calls prog 334 #[shV k,recV r vt] w (x0g w (namB k r)):=by
 have f:=x2D w (.cells #[.int .i64 k] 270) (.cells #[.int .i64 r.kind,.int .i64 r.lo,.int .i64 r.hi,.int .i64 r.n,vt,.string r.name,.string r.other,.float .f64 r.wt] 60);have K:=O (x7y k ((w.alloc (.cells #[.int .i64 k] 270)).alloc (.cells #[.int .i64 r.kind,.int .i64 r.lo,.int .i64 r.hi,.int .i64 r.n,vt,.string r.name,.string r.other,.float .f64 r.wt] 60)) (C.on f) G);unfold namB shV recV rowV at *;generalize Cn.rowK k=q at *;have o:=fld7 q;have KN:=O (fun w=>x4t r.name w);have J:=O (fun w=>x4t r.other w);generalize r.n=n,r.lo=lo at *;generalize r.hi=hi,r.name=c at *;generalize r.other=ot,r.wt=X at *;generalize Cn.nameL c=a,Cn.nameL ot=b at *;by_cases P:q.scr=1;rw[if_pos P];rw[P]at o K;cases a;rotate_left;by_cases R:ot.size=0;rw[d0t R];obtain rfl:=z7x R;rotate_left;rw[d0f R];have y:=l_ne R;have I:=z7w R;rotate_left;rw[if_neg P];have D:(q.scr==1)=false:=b0f P;by_cases s:q.scr=2;rw[if_pos s];rw[s]at o K;cases a;rotate_left;cases b;rotate_left;by_cases R:c=ot;rw[d0f (fun h=>h R)];subst R;rotate_left;rw[d0t R]
 have y:¬c.toList=ot.toList:=fun e=>R (by
  rw[ByteArray.toList_eq,ByteArray.toList_eq]at e;cases c;cases ot
  simp_all)
 have E:(c.toList==ot.toList)=false:=b0f y;rotate_left;rw[if_neg s];have L:(q.scr==2)=false:=b0f s;by_cases R:c.size=0;rw[d0t R];obtain rfl:=z7x R;by_cases Z:ot.size=0;rw[d0t Z];obtain rfl:=z7x Z;rotate_left;rw[d0f Z];have y:=l_ne Z;have I:=z7w Z;rotate_left;rw[d0f R];have y:=l_ne R;have I:=z7w R
 all_goals
  go_enter func334,ntmps334;go_wp2_with fail;refine c0m K fun Q F=>?_;have M:=x0l (j:=5) F rfl;have A:=x0l (j:=6) F rfl;have Y:=bthen f F
  try
   go_wp2_with fail;refine c1m (V KN _) fun T H=>?_;have M:=(H.cell (x0a M)).trans M;have A:=(H.cell (x0a A)).trans A;have Y:=bthen Y H
  try
   go_wp2_with fail;refine c1m (V J _) fun B t=>?_;have M:=(t.cell (x0a M)).trans M;have A:=(t.cell (x0a A)).trans A;have Y:=bthen Y t
  go_wp2;go_ret;exact⟨rfl,Y⟩
def tarB(k:Int)(r:Rec):Bool:=decide ((Cn.rowK k).least<=(r.to.length:Int)/\(r.to.length:Int)<=(Cn.rowK k).most)&&r.to.all Cn.scalar
theorem y2b k r vt w(C:Glob w)(G:I64 k)(L:Sk .i32 w vt r.to):Calls prog 339 #[shV k,recV r vt] w (x0g w (tarB k r)):=by
 have f:=x2D w (.cells #[.int .i64 k] 270) (.cells #[.int .i64 r.kind,.int .i64 r.lo,.int .i64 r.hi,.int .i64 r.n,vt,.string r.name,.string r.other,.float .f64 r.wt] 60);have K:=O (x7y k ((w.alloc (.cells #[.int .i64 k] 270)).alloc (.cells #[.int .i64 r.kind,.int .i64 r.lo,.int .i64 r.hi,.int .i64 r.n,vt,.string r.name,.string r.other,.float .f64 r.wt] 60)) (C.on f) G);unfold tarB shV recV rowV at *;generalize Cn.rowK k=q at *;have t:Hid (∀W,Bw w W->Calls prog 152 #[vt] W fun e o=>e=.returned (.bool (r.to.all Cn.scalar))/\o=W):=fun W h=>z1s vt r.to W (L.below h);obtain⟨J,M,rfl,_,_⟩:=L.shape;generalize r.n=n,r.lo=lo at *;generalize r.hi=hi,r.name=c at *;generalize r.other=ot,r.wt=wt,r.to.all Cn.scalar=b,r.to.length=m at *;by_cases Z:q.least<=(m:Int)
 ·have u:=d0t Z;by_cases D:(m:Int)<=q.most
  ·have a:=d0t D;rw[d0t ⟨Z,D⟩,Bool.true_and];go_enter func339,ntmps339;go_wp2_with fail;refine c0m K fun Q F=>?_;have z:=x0l (j:=4) F rfl;have Y:=bthen f F;have A:=x2b z;go_wp2_with fail;refine c1m (V t _ (Y.alloc Y.size _)) fun T E=>?_;subst T;go_wp2;go_ret;exact⟨rfl,Y.alloc Y.size _⟩
  ·have a:=d0f D;rw[d0f (fun h=>D h.2),Bool.false_and];exact t8P
 ·have u:=d0f Z;rw[d0f (fun h=>Z h.1),Bool.false_and];exact t8P
theorem x2M c w(I:I64 c):Calls prog 350 #[.int .i64 c] w fun e w'=>e=.returned (.bool (Cn.scalar c))/\w'=w:=by
 have K:=O (x2q c w I);by_cases s:0<=c/\c<=1114111
 ·have e:isPt c=true:=d0t s;rw[e]at K;have q:IntKind.i32.wrap c=c:=IntWalk.i32_in _ ⟨f6J,f6J⟩;have g:=O (y2f c w ⟨f6J,f6J⟩);go_enter func350,ntmps350;go_wp2_with fail;refine c0m K fun Q l=>?_;subst Q;go_wp2_with fail;refine c0m g fun Q l=>?_;subst Q;go_wp2;go_ret;exact⟨rfl,rfl⟩
 ·have e:isPt c=false:=d0f s;rw[e]at K;have E:Cn.scalar c=false:=d0f f6J;rw[E];go_enter func350,ntmps350;exact r7U
theorem x5P k r vt w(o:RecFit r):Calls prog 355 #[shV k,recV r vt] w (x0g w (decide (r.lo=0/\r.hi=0))):=by
 have Y:=x2D w (.cells #[.int .i64 k] 322) (.cells #[.int .i64 r.kind,.int .i64 r.lo,.int .i64 r.hi,.int .i64 r.n,vt,.string r.name,.string r.other,.float .f64 r.wt] 60);have y:=o.lo;have Q:=o.hi;unfold shV recV at *;generalize r.lo=lo,r.hi=hi at *;by_cases Z:lo=0
 ·by_cases D:hi=0
  ·rw[d0t ⟨Z,D⟩];subst Z D;exact E3G
  ·rw[d0f (fun h=>D h.2)];subst Z;have a:(hi==0)=false:=b0f D;exact E3G
 ·rw[d0f (fun h=>Z h.1)];have u:(lo==0)=false:=b0f Z;exact E3G
theorem x5Q k r vt w(o:RecFit r):Calls prog 352 #[shV k,recV r vt] w (x0g w (decide (r.lo=r.hi)&&Cn.scalar r.lo)):=by
 have Y:=x2D w (.cells #[.int .i64 k] 321) (.cells #[.int .i64 r.kind,.int .i64 r.lo,.int .i64 r.hi,.int .i64 r.n,vt,.string r.name,.string r.other,.float .f64 r.wt] 60);have y:=o.lo;have Q:=o.hi;have K:=O (fun w=>x2M r.lo w o.lo);unfold shV recV at *;generalize r.lo=lo,r.hi=hi at *;by_cases Z:lo=hi
 ·rw[d0t Z,Bool.true_and];subst Z;have u:(lo==lo)=true:=beq_self_eq_true _;go_enter func352,ntmps352;go_wp2_with fail;refine c1m (V K _) fun T a=>?_;subst T;go_wp2;go_ret;exact⟨rfl,Y⟩
 ·rw[d0f Z,Bool.false_and];have u:(lo==hi)=false:=b0f Z;go_enter func352,ntmps352;exact T1E
def x3L(r:Rec):Bool:=decide (0<=r.lo/\r.lo<=1114111/\0<=r.hi/\r.hi<=1114111/\r.lo<=r.hi)
theorem x2h k r vt w(o:RecFit r):Calls prog 347 #[shV k,recV r vt] w (x0g w (x3L r)):=by
 have Y:=x2D w (.cells #[.int .i64 k] 318) (.cells #[.int .i64 r.kind,.int .i64 r.lo,.int .i64 r.hi,.int .i64 r.n,vt,.string r.name,.string r.other,.float .f64 r.wt] 60);have y:=o.lo;have Q:=o.hi;have q:=O (fun w=>x2q r.lo w o.lo);have g:=O (fun w=>x2q r.hi w o.hi);unfold x3L shV recV at *;generalize r.lo=lo,r.hi=hi at *;by_cases Z:0<=lo/\lo<=1114111
 ·have t:isPt lo=true:=d0t Z;rw[t]at q;by_cases D:0<=hi/\hi<=1114111
  ·have E:isPt hi=true:=d0t D;rw[E]at g;by_cases J:lo<=hi
   ·rw[d0t ⟨Z.1,Z.2,D.1,D.2,J⟩];have b:=d0t J;exact T3Y
   ·rw[d0f (fun h=>J h.2.2.2.2)];have b:=d0f J;exact T3Y
  ·have E:isPt hi=false:=d0f D;rw[E]at g;rw[d0f (fun h=>D ⟨h.2.2.1,h.2.2.2.1⟩)];exact T3Y
 ·have t:isPt lo=false:=d0f Z;rw[t]at q;rw[d0f (fun h=>Z ⟨h.1,h.2.1⟩)];go_enter func347,ntmps347;go_wp2_with fail;refine c1m (V q _) fun T a=>?_;subst T;go_wp2;go_ret;exact⟨rfl,Y⟩
def x4v(r:Rec):Bool:=x3L r&&(decide (r.to.length=1)&&(Cn.scalar (r.to.getD 0 0)&&(Cn.scalar (r.to.getD 0 0+r.hi-r.lo)&&(decide (r.to.getD 0 0<55296)==decide (r.to.getD 0 0+r.hi-r.lo<55296)))))
theorem x4X k r vt w(o:RecFit r)(L:Sk .i32 w vt r.to):Calls prog 348 #[shV k,recV r vt] w (x0g w (x4v r)):=by
 have f:=x2D w (.cells #[.int .i64 k] 320) (.cells #[.int .i64 r.kind,.int .i64 r.lo,.int .i64 r.hi,.int .i64 r.n,vt,.string r.name,.string r.other,.float .f64 r.wt] 60);have q:=O (x2h k r vt ((w.alloc (.cells #[.int .i64 k] 320)).alloc (.cells #[.int .i64 r.kind,.int .i64 r.lo,.int .i64 r.hi,.int .i64 r.n,vt,.string r.name,.string r.other,.float .f64 r.wt] 60)) o);have B:=o.len;unfold x4v
 cases hsp:x3L r with
 | false =>
  rw[hsp]at q;rw[Bool.false_and];unfold shV recV at *;go_enter func348,ntmps348;go_wp2_with fail;refine c0m q fun Q F=>?_;have Y:=bthen f F;go_wp2;go_ret;exact⟨rfl,Y⟩
 | true =>
  rw[hsp]at q;rw[Bool.true_and];by_cases Z:r.to.length=1
  ·rw[d0t Z,Bool.true_and];obtain⟨b,R,M,rfl,H,d,I⟩:=L.place f6J;have A:=I 0 f6J;have y:=L.1.i32at 0;obtain⟨S,G,U,i,l⟩:0<=r.lo/\r.lo<=1114111/\0<=r.hi/\r.hi<=1114111/\r.lo<=r.hi:=o0d hsp;rw[Z]at q H f;have K:=x0a A;have D:=O (fun w=>x2M (r.to.getD 0 0) w ⟨f6J,f6J⟩);have C:=O (fun w=>x2M (r.to.getD 0 0+r.hi-r.lo) w ⟨f6J,f6J⟩);rw[Z];unfold shV recV at *;generalize r.n=n,r.lo=lo at *;generalize r.hi=hi,r.name=c at *;generalize r.other=ot,r.wt=wt,r.to.getD 0 0=x at *;have t:IntKind.i64.wrap (x+hi)=x+hi:=IntWalk.i64_in _ ⟨f6J,f6J⟩;have E:IntKind.i64.wrap (x+hi-lo)=x+hi-lo:=IntWalk.i64_in _ ⟨f6J,f6J⟩;have N:IntKind.i64.wrap x=x:=IntWalk.i64_in _ ⟨f6J,f6J⟩
   cases ha:Cn.scalar x with
   | false =>
    rw[ha]at D;rw[Bool.false_and];go_enter func348,ntmps348;go_wp2_with fail;refine c0m q fun Q F=>?_;have g:=x0l (j:=1) F rfl;have P:=x0l (j:=2) F rfl;have z:=x0l (j:=4) F rfl;have Y:=bthen f F;have hy:Q.cell? ⟨b,R,none⟩=some (.int .i32 x):=(Y.cell (by exact K)).trans A;go_wp2_with fail;refine c1m (V D _) fun T a=>?_;subst T;go_wp2;go_ret;exact⟨rfl,Y⟩
   | true =>
    rw[ha]at D;rw[Bool.true_and]
    cases hz:Cn.scalar (x+hi-lo)with
    | false =>
     rw[hz]at C;rw[Bool.false_and];exact P3C
    | true =>
     rw[hz]at C;rw[Bool.true_and];exact P3C
  ·rw[d0f Z,Bool.false_and];have u:((r.to.length:Int) != 1)=true:=P8P;obtain⟨J,M,rfl,_,_⟩:=L.shape;unfold shV recV at *;generalize r.kind=kd,r.n=n,r.lo=lo,r.hi=hi at *;generalize r.name=c,r.other=ot,r.wt=wt,r.to.length=m at *;go_enter func348,ntmps348;go_wp2_with fail;refine c0m q fun Q F=>?_;have z:=x0l (j:=4) F rfl;have Y:=bthen f F;go_wp2;go_ret;exact⟨rfl,Y⟩
def x2B(w:World)(b:Bool)(e:Ending)(w':World):Prop:=e=.returned (.bool b)/\w'=w
theorem x2B.mk{w b c}(h:c=b):x2B w b (.returned (.bool c)) w:=t5o
theorem y3s s w:Calls prog 123 #[.string s] w (x2B w (Scn.name (nums s))):=by
 have B:=nums_length s;have X:=fun i k hi G w=>x4r s i k hi G w;have K:=fun k=>(y4O s).at k;have C:Hid (¬s.size=4->x2B w (Scn.name (nums s)) (.returned (.bool false)) w):=fun h=>x2B.mk (by unfold Scn.name;rw[d0f];exact f6J);have b:Hid (¬(65<=(nums s).getD 0 0/\(nums s).getD 0 0<=90)->x2B w (Scn.name (nums s)) (.returned (.bool false)) w):=fun h=>x2B.mk (by unfold Scn.name;rw[d0f];exact fun x=>h ⟨x.2.1,x.2.2.1⟩)
 have f:Hid (∀k,1<=k->k<4->¬(97<=(nums s).getD k 0/\(nums s).getD k 0<=122)->x2B w (Scn.name (nums s)) (.returned (.bool false)) w):=fun k Z D h=>x2B.mk (by
  unfold Scn.name;rw[d0f];intro x;obtain⟨_,_,_,u,S,m⟩:=x;have:k=1\/k=2\/k=3:=f6J;rcases this with e | e | e<;>subst e
  ·exact h u
  ·exact h S
  ·exact h m)
 have n:Hid (s.size=4->65<=(nums s).getD 0 0->(nums s).getD 0 0<=90->(∀k,1<=k->k<4->97<=(nums s).getD k 0/\(nums s).getD k 0<=122)->x2B w (Scn.name (nums s)) (.returned (.bool true)) w):=fun Z D J H=>x2B.mk (by
  unfold Scn.name;rw[d0t]
  exact⟨f6J,D,J,H 1 f6J f6J,H 2 f6J f6J,H 3 f6J f6J⟩)
 by_cases t:s.size=4
 ·have R:=X 0 0 rfl f6J;obtain⟨Y,N⟩:=K 0;have d:=O X;have Q:=O K;have A:=O (V n t);have y:((s.size:Int) != 4)=false:=(by simp[t]);clear X K C n;generalize(nums s).getD 0 0=p at *;by_cases r:p<65
  ·exact I1y
  ·by_cases T:90<p
   ·exact I1y
   ·have F:=O (V A f6J f6J);clear b A;go_enter func123,ntmps123;go_wp2;go_loop [3] (fun i=>∃k:Nat,i=.int .i64 k/\1<=k/\k<=4/\∀j,1<=j->j<k->97<=(nums s).getD j 0/\(nums s).getD j 0<=122) (fun i=>4-(intOf i).toNat)
    case atStart=>exact⟨1,rfl,f6J,f6J,fun j Z D=>f6J⟩
    case round =>
     clear R Y N;obtain⟨k,rfl,L,M,z⟩:=hrel;by_cases E:k<4
     ·have G:=V d (k:Int) k rfl f6J;obtain⟨b1,v⟩:=V Q k
      have q:Hid (97<=(nums s).getD k 0->(nums s).getD k 0<=122->∀j,1<=j->j<k+1->97<=(nums s).getD j 0/\(nums s).getD j 0<=122):=fun Z D j a g=>by
       by_cases e:j=k
       ·subst e;exact⟨Z,D⟩
       ·exact z j a f6J
      have P:=O (V f k L E);clear z;generalize(nums s).getD k 0=c at *;by_cases b3:c<97
      ·have U:=V P f6J;clear P q f F;exact m2J
      ·by_cases I:122<c
       ·have U:=V P f6J;clear P q f F;exact m2J
       ·have o:=O (V q f6J f6J);clear P q f F;go_wp2;go_round
        case rel=>exact⟨k+1,g2B,f6J,f6J,V o⟩
        case measure=>exact g7W
     ·obtain rfl:k=4:=f6J;have U:=V F z;clear f F z;exact m2J
 ·have U:=V C t;have y:((s.size:Int) != 4)=true:=P8P;clear C b f n X K;go_enter func123,ntmps123;exact m2J
theorem z7O s:Cn.nameL s=Scn.name (nums s):=by
 unfold Cn.nameL Scn.name nums Scn.small;generalize s.data.toList=l
 match l with
 | []=>rfl
 | [_]=>rfl
 | [_,_]=>rfl
 | [_,_,_]=>rfl
 | [a,b,c,d] =>
  simp only[List.map_cons,List.map_nil,List.length_cons,List.length_nil,List.getD_cons_zero,List.getD_cons_succ];rw[decide_eq_decide];constructor
  ·intro h;exact⟨trivial,(f6J:65<=(a.toNat:Int)),(f6J:(a.toNat:Int)<=90),⟨(f6J:97<=(b.toNat:Int)),(f6J:(b.toNat:Int)<=122)⟩,⟨(f6J:97<=(c.toNat:Int)),(f6J:(c.toNat:Int)<=122)⟩,(f6J:97<=(d.toNat:Int)),(f6J:(d.toNat:Int)<=122)⟩
  ·rintro⟨_,Z,D,⟨J,H⟩,⟨K,q⟩,y,B⟩;have i:65<=(a.toNat:Int):=Z;have A:(a.toNat:Int)<=90:=D;have Q:97<=(b.toNat:Int):=J;have j:(b.toNat:Int)<=122:=H;have r:97<=(c.toNat:Int):=K;have L:(c.toNat:Int)<=122:=q;have I:97<=(d.toNat:Int):=y;have E:(d.toNat:Int)<=122:=B;omega
 | _::_::_::_::_::_ =>
  simp only[List.map_cons,List.length_cons];symm;rw[decide_eq_false_iff_not];omega
theorem x5D s w:Calls prog 123 #[.string s] w fun e w'=>e=.returned (.bool (Cn.nameL s))/\w'=w:=by
 rw[z7O];exact y3s s w
def theLaid:List (String×DataW Unit):=Rows.idnaBackRow.laid
def rowD(r:Row9):DataW Unit:=.agg [.lit (.string r.word.data.toList),.lit (.int .i64 r.fam),.lit (.int .i64 r.least),.lit (.int .i64 r.most),.lit (.int .i64 r.low),.lit (.int .i64 r.high),.lit (.string r.said.data.toList),.lit (.int .i64 r.scr),.lit (.bool r.wei)]
theorem y9O:(Rows.laid_endonym_table_rows:DataW Unit)=.agg ((List.range 16).map fun k=>rowD (Cn.rowT k)):=f4x
theorem q0h : Tryz.prog.globalNamed "endonym/table.rows" = some 2 := f4x
theorem y9i:(prog.globals[2]?).map (·.type)=some 355:=f4x
theorem z9n{a b:ByteArray}(h:a.data.toList=b.data.toList):a=b:=by
 cases a;cases b;simp_all
def rowL(r:Row9):List Value:=[.string r.word,.int .i64 r.fam,.int .i64 r.least,.int .i64 r.most,.int .i64 r.low,.int .i64 r.high,.string r.said,.int .i64 r.scr,.bool r.wei]
section
variable {enc:TypeId×Value->Unit} {W:World} {base:Nat} {sp:Nat->Bool} {held:Bool}
theorem z1b{M:Nat}{cs:List Value}{r:Row9}{p:List MemPlace}(h:DataW.trod enc prog W base sp held M 324 cs=some (rowD r,p)):cs=rowL r:=by
 obtain⟨xs,k,G,C,F,z,o⟩:=DataW.trod_struct underlying324 h;have x:prog.cellsOf 324=9:=f4x;have X:prog.cellsOf 3=1:=f4x;have S:prog.cellsOf 9=1:=f4x;have l:prog.cellsOf 4=1:=f4x;rw[x]at F
 match xs,z,cs,F with
 | [y0,y1,y2,y3,y4,y5,y6,y7,y8],_,[v0,v1,v2,v3,v4,v5,v6,v7,v8],_ =>
  have hd:[y0.1,y1.1,y2.1,y3.1,y4.1,y5.1,y6.1,y7.1,y8.1]=[.lit (.string r.word.data.toList),.lit (.int .i64 r.fam),.lit (.int .i64 r.least),.lit (.int .i64 r.most),.lit (.int .i64 r.low),.lit (.int .i64 r.high),.lit (.string r.said.data.toList),.lit (.int .i64 r.scr),.lit (.bool r.wei)]:=by
   have:=congrArg Prod.fst C;simpa[rowD]using this.symm
  simp only[List.cons.injEq,and_true]at hd;obtain⟨D,u,a,b,v,d5,i,K,B⟩:=hd;have J:=o 0 _ rfl;have g1:=o 1 _ rfl;have g2:=o 2 _ rfl;have Q:=o 3 _ rfl;have j:=o 4 _ rfl;have g5:=o 5 _ rfl;have L:=o 6 _ rfl;have I:=o 7 _ rfl;have g8:=o 8 _ rfl;simp[X,S,l]at J g1 g2 Q j g5 L I g8;obtain⟨g,e0,H,_⟩:=DataW.trod_string underlying9 J;obtain⟨U,t,q1,_⟩:=DataW.trod_int underlying3 g1;obtain⟨d,E,s,_⟩:=DataW.trod_int underlying3 g2;obtain⟨n,N,f,_⟩:=DataW.trod_int underlying3 Q;obtain⟨n4,R,T,_⟩:=DataW.trod_int underlying3 j;obtain⟨n5,P,y,_⟩:=DataW.trod_int underlying3 g5;obtain⟨q,Z,q6,_⟩:=DataW.trod_string underlying9 L;obtain⟨n7,e7,m,_⟩:=DataW.trod_int underlying3 I;obtain⟨Y,A,c⟩:=DataW.trod_bool underlying4 g8;rw[H]at D;rw[q1]at u;rw[s]at a;rw[f]at b;rw[T]at v;rw[y]at d5;rw[q6]at i;rw[m]at K;rw[c]at B;simp only[DataW.lit.injEq,Lit.string.injEq,Lit.int.injEq,Lit.bool.injEq,true_and]at D u a b v d5 i K B;simp only[List.cons.injEq,and_true]at e0 t E N R P Z e7 A;rw[e0,t,E,N,R,P,Z,e7,A,z9n D,u,a,b,v,d5,z9n i,K,B];rfl
end
theorem y1F:(theLaid.all fun x=>x.2.handleName?.isNone)=true:=f4x
theorem z2L:prog.cellsOf 324=9:=f4x
theorem glob_of{W:World}(h:laidMetH prog theLaid W):Glob W:=by
 rw[MakeChecks.laidMetH_plain _ _ _ y1F]at h;obtain⟨R,⟨S,P,L,M,p,q,Q,E,B,hd,_,_⟩,_⟩:=h;obtain rfl:=Option.some.inj (q0h.symm.trans Q);obtain rfl:=Option.some.inj (y9i.symm.trans E);obtain⟨X,m,_,A,F,z,i⟩:=DataW.trod_array underlying355 hd
 have n:X.map (·.1)=(List.range 16).map fun k=>rowD (Cn.rowT k):=by
  have Z:=congrArg Prod.fst A;have D:(Rows.laid_endonym_table_rows:DataW Unit)=.agg (X.map (·.1)):=Z;rw[y9O]at D;simpa using D.symm
 intro k G
 have C:∃pk,X[k]?=some (rowD (Cn.rowT k),pk):=by
  have Z:(X.map (·.1))[k]?=some (rowD (Cn.rowT k)):=by
   rw[n];simp[G]
  rw[List.getElem?_map,Option.map_eq_some_iff]at Z;obtain⟨⟨a,b⟩,D,J⟩:=Z;exact⟨b,by rw[D];simp at J;rw[J]⟩
 obtain⟨pk,C⟩:=C;have J:=i k G;rw[C,z2L]at J;have H:=z1b J
 have K:∀j v,(rowL (Cn.rowT k))[j]?=some v->W.cell? ⟨2,k*9+j,none⟩=some v:=fun j v N=>by
  have I:=World.var?_cell q0h B (k*9+j);rw[<- H]at N
  have T:j<9:=by
   rcases Nat.lt_or_ge j 9 with hh | hh
   ·exact hh
   ·rw[List.getElem?_eq_none U3s]at N;cases N
  rw[List.getElem?_take_of_lt T,List.getElem?_drop]at N;rw[I];simpa using N
 exact⟨K 0 _ rfl,K 1 _ rfl,K 2 _ rfl,K 3 _ rfl,K 4 _ rfl,K 5 _ rfl,K 6 _ rfl,K 7 _ rfl,K 8 _ rfl⟩
theorem own:ownKnob prog.godebug=none:=f4x
theorem laidOut:laidOutB prog=true:=f4x
theorem start_met(m:Os)(args:Array Value):laidMetH prog theLaid ((World.laidAll prog m theLaid).forCall (fun _ _=>0) ⟨#[],args,[]⟩).memory:=by
 rw[MakeChecks.laidMetH_plain _ _ _ y1F];exact laidMet_laidAll _ f4x f4x
theorem y3D(m:Os)(args:Array Value):((World.laidAll prog m theLaid).forCall (fun _ _=>0) ⟨#[],args,[]⟩).Shaped prog:=World.shaped_of_ZipB f4x f4x
theorem start_at{H:Type}{enc:TypeId×Value->H}{m:Os}{f:FuncId}{fn:Func}{s:OpenSpec}{conds:List PathCond}(args:Array Value)
  (l:Input.okWideB Tryz.checked.prog ((World.laidAll prog m theLaid).forCall (fun _ _=>0) ⟨#[],args,[]⟩) f ⟨#[],args,[]⟩=true)
  (Q:s.preRow enc Tryz.checked.prog fn conds false theLaid ((World.laidAll prog m theLaid).forCall (fun _ _=>0) ⟨#[],args,[]⟩).memory args) :
  ∃(w:World) (A:Tape) (i:Input),w.os=m/\(w.forCall A i).Shaped Tryz.checked.prog/\i.vars=[]/\Input.okWide Tryz.checked.prog (w.forCall A i) .any w.heap.size f i /\
   s.preRow enc Tryz.checked.prog fn conds false theLaid (w.forCall A i).memory i.args/\({}:Assume).holds Tryz.checked.prog (lone (Frame.enter Tryz.checked.prog f i.args .normal) [] (w.forCall A i)) :=
 ⟨World.laidAll prog m theLaid,fun _ _=>0,⟨#[],args,[]⟩,World.laidAll_os _ _ _,y3D m args,(Input.okWide_of_okWideB (base:=0) l).1,(Input.okWide_of_okWideB l).2,Q,by
  simp only[Assume.holds]
  exact⟨M7K,M7K,fun _=>Modest.zero,M7K,M7K⟩⟩
