/- Lemmas. -/
import Derived.Test.YtkfcabdmkmljjaaGreatDoorF5
import Derived.Shelf.Abstract
import Derived.Lib.Walk
import Derived.WalkMore
import Derived.Test.YtkfcabdmkmljjaaGreatDoorF16
import Derived.Test.YtkfcabdmkmljjaaGreatDoorRows
import Derived.ProofKit
import Derived.OpenShut
import Derived.ShutString
import Derived.LaidMore
import Derived.Lay
import Derived.Stop.LaidErr
import Derived.Deep.DeepHandedRow
import Derived.Lib.LaidTab
import Derived.MakeChecks
import Derived.Shelf.Vars
set_option maxHeartbeats 4000000
set_option maxRecDepth 20000
namespace Go.Proofs.YtkfcabdmkmljjaaGreatDoor
open Go.Proofs.Tryz
open Go.RowKit
section
variable{p:Prop}
theorem p8r(h:p:=by go_enter func336,ntmps336;go_wp2_with fail;refine c0m K fun Q F=>?_;have o:=x0l (j:=3) F rfl;have Y:=bthen f F;have B:=x1Z o;go_wp2;go_ret;exact⟨rfl,Y.alloc Y.size _⟩):p:=h
theorem g4e(h:p:=by go_enter func347,ntmps347;go_wp2_with fail;refine c1m (V l _) fun u s=>?_;subst u;go_wp2_with fail;refine c1m (V j _) fun u s=>?_;subst u;go_wp2;go_ret;exact⟨rfl,Y⟩):p:=h
theorem p6D(h:p:=by go_enter func339,ntmps339;go_wp2_with fail;refine c0m K fun Q F=>?_;have a:=x0l (j:=4) F rfl;have Y:=bthen f F;have A:=x1Z a;go_wp2;go_ret;exact⟨rfl,Y.alloc Y.size _⟩):p:=h
theorem T1E(h:p:=by go_wp2;go_ret;exact⟨rfl,Y⟩):p:=h
theorem M0h(h:p:=by simp[Ieee.Datum.order,Ieee.Datum.isNaN,Std.ReflCmp.compare_self]):p:=h
theorem G5b(h:p:=by go_enter func343,ntmps343;go_wp2_with fail;refine(V l).mono ?_;rintro e w ⟨rfl,rfl⟩;go_wp2_with fail;refine(V j).mono ?_;rintro e w ⟨rfl,rfl⟩;exact t6u):p:=h
theorem E3G(h:p:=by go_enter func355,ntmps355;exact T1E):p:=h
theorem S5y(h:p:=by go_enter func348,ntmps348;go_wp2_with fail;refine c0m l fun Q F=>?_;have T:=x0l (j:=1) F rfl;have U:=x0l (j:=2) F rfl;have a:=x0l (j:=4) F rfl;have Y:=bthen f F;have g:Q.cell? ⟨b,P,none⟩=some (.int .i32 x):=(Y.cell (by exact D)).trans A;go_wp2_with fail;refine c1m (V B _) fun u s=>?_;subst u;go_wp2_with fail;refine c1m (V v _) fun u s=>?_;subst u;go_wp2;go_ret;exact⟨rfl,Y⟩):p:=h
theorem M5I(h:p:=by go_enter func340,ntmps340;go_wp2_with fail;refine c0m K fun Q F=>?_;have A:=x0l (j:=7) F rfl;have Y:=bthen f F;go_wp2_with fail;refine c1m (V KN _) fun u s=>?_;subst u;go_wp2_with fail;refine c1m (V l _) fun u s=>?_;subst u;go_wp2;go_ret;exact⟨rfl,Y⟩):p:=h
theorem N6l(h:p:=by show((w.heap.push _).push _)[w.heap.size+1]?=_;rw[Array.getElem?_push];simp):p:=h
theorem R0k(h:p:=by rw[(e8N:((2^IntKind.u64.bits:Nat):Int)=18446744073709551616)];omega):p:=h
theorem U5E(h:p:=by go_enter func340,ntmps340;go_wp2_with fail;refine c0m K fun Q F=>?_;have A:=x0l (j:=7) F rfl;have Y:=bthen f F;go_wp2_with fail;refine c1m (V v _) fun u s=>?_;subst u;go_wp2;go_ret;exact⟨rfl,Y⟩):p:=h
theorem p8x(h:p:=by go_enter func344,ntmps344;go_wp2_with fail;refine(V l).mono ?_;rintro e w ⟨rfl,rfl⟩;go_wp2_with fail;refine(V j).mono ?_;rintro e w ⟨rfl,rfl⟩;exact t6w):p:=h
theorem u4u(h:p:=by have G:Cn.scalar c=false:=d0f f6J;exact w6e):p:=h
theorem V3x(h:p:=by have T:=V m f6J;clear m X A;go_enter func123,ntmps123;exact U7J):p:=h
end
theorem y0h c w(h:-2147483648<=c/\c<=2147483647) :
  Calls prog 108 #[.int .i32 c] w fun e w'=>e=.returned (.bool (Cn.scalar c))/\w'=w:=by
 by_cases Z:0<=c
 ·by_cases D:c<55296
  ·have G:Cn.scalar c=true:=d0t f6J;exact w6e
  ·by_cases J:57343<c
   ·by_cases F:c<=1114111
    ·have G:Cn.scalar c=true:=d0t f6J;exact w6e
    ·exact u4u
   ·exact u4u
 ·exact u4u
theorem y1R c w(h:-2147483648<=c/\c<=2147483647) :
  Calls prog 62 #[.int .i32 c] w fun e w'=>e=.returned (.bool (Cn.scalar c))/\w'=w:=by
 have H:=O (y0h c w h);go_enter func62,ntmps62;go_wp2_with fail;refine(V H).mono ?_;rintro e w ⟨rfl,rfl⟩;go_wp2;go_ret;exact⟨rfl,rfl⟩
theorem y1Q c w(h:-2147483648<=c/\c<=2147483647) :
  Calls prog 156 #[.int .i32 c] w fun e w'=>e=.returned (.bool (!Cn.scalar c))/\w'=w:=by
 have H:=O (y1R c w h);go_enter func156,ntmps156;go_wp2_with fail;refine(V H).mono ?_;rintro e w ⟨rfl,rfl⟩;go_wp2;go_ret;exact⟨rfl,rfl⟩
theorem y0E{xs:List Int}{k}(G:k<xs.length):xs.drop k=xs.getD k 0::xs.drop (k+1):=f0h
def fb(p:Int->Bool):Nat->List Int->Int
 | _,[]=>-1
 | i,c::r=>if p c then(i:Int)else fb p (i+1) r
theorem z9G{p:Int->Bool}{xs:List Int}{k r}(G:k<xs.length)(h:r=fb p k (xs.drop k))(s:p (xs.getD k 0)=true):r=(k:Int):=by
 rw[h,y0E G,fb,if_pos s]
theorem z6F{p:Int->Bool}{xs:List Int}{k r}(G:k<xs.length)(h:r=fb p k (xs.drop k))(s:p (xs.getD k 0)=false):r=fb p (k+1) (xs.drop (k+1)):=by
 rw[h,y0E G,fb,s];rfl
theorem z4V{p:Int->Bool}{xs:List Int}{k r}(G:xs.length<=k)(h:r=fb p k (xs.drop k)):r=-1:=by
 rw[h,List.drop_eq_nil_of_le G,fb]
theorem z9F(p:Int->Bool) i xs:decide (fb p i xs<0)=xs.all (fun c=>!p c):=by
 induction xs generalizing i with
 | nil=>rfl
 | cons c r ih =>
  simp only[fb,List.all_cons];exact e4k
theorem x9p(p:Int->Bool)(g:Nat)(s:∀x w,(-2147483648<=x/\x<=2147483647)->Calls prog g #[.int .i32 x] w fun e w'=>e=.returned (.bool (p x))/\w'=w)(D:∀args w,(callFunc g args).run prog w=.ok (.enter g args) w)
  v xs w (N:Sk .i32 w v xs) :
  Calls prog 66 #[v,.func (.func g) #[] #[]] w fun e w'=>e=.returned (.int .i64 (fb p 0 xs))/\w'=w:=by
 have o:=N.len;have j:fb p 0 xs=fb p 0 (xs.drop 0):=s4S;rcases Nat.eq_zero_or_pos xs.length with h0 | h0
 ·have d:=z4V f6J j;exact f6u
 ·have K:=O N.1;obtain⟨b,P,M,rfl,z,t,I⟩:=N.place h0;have H:=O I;have Q:=O j;have Z:=O s;clear N I j s;generalize d:fb p 0 xs=r at *;go_enter func66,ntmps66;go_wp2;go_loop [5,8] (fun _ i=>∃k:Nat,i=.int .i64 k/\k<=xs.length/\r=fb p k (xs.drop k)) (fun _ i=>xs.length-(intOf i).toNat)
  case atStart=>exact⟨0,rfl,f6J,V Q⟩
  case round =>
   obtain⟨k,rfl,G,X⟩:=hrel;by_cases E:k<xs.length
   ·have y:=V H k E;have T:=(V K).i32at k;have R:=O (V Z (xs.getD k 0) w T)
    cases hok:p (xs.getD k 0)with
    | true =>
     have Y:=z9G E X hok;rw[hok]at R;subst Y;clear X hok Q;generalize xs.getD k 0=c at *;go_wp2_with(go_at_fn g;refine(V R).mono ?_;rintro e w ⟨rfl,rfl⟩);go_ret;exact⟨rfl,rfl⟩
    | false =>
     have a:=O (z6F E X hok);rw[hok]at R;generalize xs.getD k 0=c at *;go_wp2_with(go_at_fn g;refine(V R).mono ?_;rintro e w ⟨rfl,rfl⟩);go_round
     case rel=>exact⟨k+1,g2A,f6J,V a⟩
     case measure=>exact g7T
   ·have Y:=z4V f6J X;subst Y;exact t6x
theorem y8z:∀args w,(callFunc 156 args).run prog w=.ok (.enter 156 args) w:=f0h
theorem x5F v xs w(N:Sk .i32 w v xs) :
  Calls prog 104 #[v] w fun e w'=>e=.returned (.int .i64 (fb (fun c=>!Cn.scalar c) 0 xs))/\w'=w:=by
 have H:=O (x9p (fun c=>!Cn.scalar c) 156 y1Q y8z v xs w N);go_enter func104,ntmps104;go_wp2_with fail;refine(V H).mono ?_;rintro e w ⟨rfl,rfl⟩;go_wp2;go_ret;exact⟨rfl,rfl⟩
theorem z1e v xs w(N:Sk .i32 w v xs) :
  Calls prog 152 #[v] w fun e w'=>e=.returned (.bool (xs.all Cn.scalar))/\w'=w:=by
 have H:=O (x5F v xs w N);have e:xs.all Cn.scalar=decide (fb (fun c=>!Cn.scalar c) 0 xs<0):=(by rw[z9F];exact M7K);rw[e];go_enter func152,ntmps152;go_wp2_with fail;refine(V H).mono ?_;rintro e w ⟨rfl,rfl⟩;go_wp2;go_ret;exact⟨rfl,rfl⟩
def nanB(u:Nat):Bool:=decide (9218868437227405312<u%9223372036854775808)
theorem y6k(d:Ieee.Datum):d.order d=if d.isNaN then none else some .eq:=by
 cases d with
 | number s m i =>exact M0h
 | infinity s=>exact M0h
 | nan s t=>simp[Ieee.Datum.order,Ieee.Datum.isNaN]
theorem z4c u:(FloatKind.f64.format.read u).isNaN=nanB u:=by
 have P:FloatKind.f64.format.signWeight=9223372036854775808:=e8N;have z:FloatKind.f64.format.binade=4503599627370496:=e8N;have N:FloatKind.f64.format.infRung=9218868437227405312:=e8N;unfold Ieee.Format.read nanB;simp only[P,z,N];split
 ·rw[d0f f6J];rfl
 ·split
  ·rw[d0f f6J];rfl
  ·split
   ·rw[d0f f6J];rfl
   ·rw[d0t f6J];rfl
theorem z3G u:(FloatKind.f64.format.order u u != some .eq)=nanB u:=by
 unfold Ieee.Format.order;rw[y6k,<- z4c];cases(FloatKind.f64.format.read u).isNaN<;>rfl
theorem y0W u w:Calls prog 199 #[.float .f64 u] w fun e w'=>e=.returned (.bool (nanB u))/\w'=w:=by
 have e:=z3G u;go_enter func199,ntmps199;exact t6u
def rankN(u:Nat):Int:=if nanB u then 18446744073709551615 else if u<9223372036854775808 then(u:Int)+9223372036854775808 else 18446744073709551615-u
theorem z7F{u:Nat}(h:u<9223372036854775808):bits .or .u64 (u:Int) 9223372036854775808=(u:Int)+9223372036854775808:=by
 unfold bits;simp only[]
 have e:(BitVec.ofInt IntKind.u64.bits (u:Int)|||BitVec.ofInt IntKind.u64.bits 9223372036854775808).toNat=u+9223372036854775808:=by
  rw[BitVec.toNat_or,BitVec.toNat_ofInt,BitVec.toNat_ofInt]
  have P:((u:Int)%((2^IntKind.u64.bits:Nat):Int)).toNat=u:=R0k
  have z:((9223372036854775808:Int)%((2^IntKind.u64.bits:Nat):Int)).toNat=9223372036854775808:=e8N;rw[P,z,Nat.or_comm];have:=Nat.two_pow_add_eq_or_of_lt (i:=63) (b:=u) f6J 1;rw[(e8N:(2:Nat)^63*1=9223372036854775808)]at this;omega
 rw[e,IntWalk.u64_in _ ⟨f6J,f6J⟩];omega
theorem z8x{u:Nat}(h:u<18446744073709551616):bits .xor .u64 IntKind.u64.max (u:Int)=18446744073709551615-(u:Int):=by
 unfold bits;simp only[]
 have e:(BitVec.ofInt IntKind.u64.bits IntKind.u64.max ^^^ BitVec.ofInt IntKind.u64.bits (u:Int)).toNat=18446744073709551615-u:=by
  rw[(e8N:BitVec.ofInt IntKind.u64.bits IntKind.u64.max=BitVec.allOnes IntKind.u64.bits),BitVec.allOnes_xor,BitVec.toNat_not,BitVec.toNat_ofInt]
  have P:((u:Int)%((2^IntKind.u64.bits:Nat):Int)).toNat=u:=R0k
  rw[P];rfl
 rw[e,IntWalk.u64_in _ ⟨f6J,f6J⟩];omega
theorem y4A u w(d:u<18446744073709551616):Calls prog 344 #[.float .f64 u] w fun e w'=>e=.returned (.int .u64 (rankN u))/\w'=w:=by
 have l:=O (x3W u w);have j:=O (y0W u w);unfold rankN
 cases hn:nanB u with
 | true =>
  rw[hn]at j;rw[if_pos rfl];exact p8x
 | false =>
  rw[hn]at j;rw[if_neg e8N];by_cases L:u<9223372036854775808
  ·rw[if_pos L];have N:¬(9223372036854775808:Int)<=(u:Int):=f6J;have R:=z7F L;have C:(0:Int)<=(u:Int):=f6J;have i:(u:Int)<9223372036854775808:=f6J;generalize(u:Int)=x at *;exact p8x
  ·rw[if_neg L];have N:(9223372036854775808:Int)<=(u:Int):=f6J;have A:=z8x d;go_enter func344,ntmps344;go_wp2_with fail;refine(V l).mono ?_;rintro e w ⟨rfl,rfl⟩;go_wp2_with fail;refine(V j).mono ?_;rintro e w ⟨rfl,rfl⟩;go_wp2;go_ret;refine⟨?_,rfl⟩;rw[<- A];rfl
def okAt(k:Nat)(c:Int):Prop:=if k=0 then 65<=c/\c<=90 else 97<=c/\c<=122
theorem x9E l:Scn.name l=true↔(l.length=4/\∀k,k<4->okAt k (l.getD k 0)):=by
 unfold Scn.name;rw[decide_eq_true_iff];constructor
 ·rintro⟨U,Z,D,J,F,E⟩;refine⟨U,fun k G=>?_⟩;unfold okAt;obtain rfl | rfl | rfl | rfl:k=0\/k=1\/k=2\/k=3:=by omega
  ·exact⟨Z,D⟩
  ·exact J
  ·exact F
  ·exact E
 ·rintro⟨U,h⟩;exact⟨U,(h 0 f6J).1,(h 0 f6J).2,h 1 f6J,h 2 f6J,h 3 f6J⟩
theorem y1H s w:Calls prog 341 #[.string s] w (x0g w (Scn.name (nums s))):=by
 have B:=nums_length s;by_cases F:s.size=4
 ·have n:Hid ((∀k,k<4->okAt k ((nums s).getD k 0))->∀C,Bw w C->x0g w (Scn.name (nums s)) (.returned (.bool true)) C):=fun h C Y=>⟨by rw[(x9E _).2 ⟨f6J,h⟩],Y⟩
  have D:Hid (∀k,k<4->¬okAt k ((nums s).getD k 0)->∀C,Bw w C->x0g w (Scn.name (nums s)) (.returned (.bool false)) C):=fun k G h C Y=>by
   have:Scn.name (nums s)=false:=by
    cases hn:Scn.name (nums s)with
    | false=>rfl
    | true=>exact absurd (((x9E _).1 hn).2 k G) h
   exact⟨by rw[this],Y⟩
  have d:=O (fun k=>(y4u s).at k);have f:((s.size:Int) != 4)=false:=(by rw[F];rfl);go_enter func341,ntmps341;go_wp2;go_loopw[3,4] (fun _ _ wr=>∃k:Nat,wr=w.iter s k/\k<=4/\∀j,j<k->okAt j ((nums s).getD j 0)) (fun _ _ wr=>4-wr.iterPos w.heap.size)
  case atStart=>exact r9b
  case round =>
   obtain⟨k,rfl,G,o⟩:=hrel;have L:=O o;by_cases E:k<4
   ·have u:=fun M=>run_next_any (P:=prog) w s k M f6J;obtain⟨g,Q⟩:=V d k;rcases Int.lt_or_le ((nums s).getD k 0) 128 with N | hhi
    ·obtain⟨i,b⟩:=y8l s k f6J N;rw[i,b]at u;have X:=O (V D k E)
     have Z:Hid (okAt k ((nums s).getD k 0)->∀j,j<k+1->okAt j ((nums s).getD j 0)):=fun h j R=>by
      rcases Nat.lt_or_ge j k with hj2 | hj2
      ·exact V L j hj2
      ·obtain rfl:j=k:=f6J;exact h
     have J:4-(k+1)<4-(w.iter s k).iterPos w.heap.size:=(by rw[World.iterPos_iter];exact f6J);generalize hcg:(nums s).getD k 0=c at u g Q N X Z;by_cases r:k=0
     ·subst r;by_cases a:65<=c
      ·by_cases A:c<=90
       ·have S:=O (V Z ⟨a,A⟩);go_wp2
        go_roundw
        case rel=>exact⟨0+1,rfl,f6J,V S⟩
        case measure=>rw[World.iterPos_iter];exact J
       ·have T:=V X (fun h=>A h.2) (w.iter s (0+1)) ((b0r).alloc (l0r _) _);exact U7H
      ·have T:=V X (fun h=>a h.1) (w.iter s (0+1)) ((b0r).alloc (l0r _) _);exact U7H
     ·have H:((k:Int)==0)=false:=b0f f6J;have I:okAt k c=(97<=c/\c<=122):=(by unfold okAt;rw[if_neg r]);rw[I]at X Z;by_cases a:97<=c
      ·by_cases A:c<=122
       ·have S:=O (V Z ⟨a,A⟩);go_wp2
        go_roundw
        case rel=>exact⟨k+1,rfl,f6J,V S⟩
        case measure=>rw[World.iterPos_iter];exact J
       ·have T:=V X (fun h=>A h.2) (w.iter s (k+1)) ((b0r).alloc (l0r _) _);exact U7H
      ·have T:=V X (fun h=>a h.1) (w.iter s (k+1)) ((b0r).alloc (l0r _) _);exact U7H
    ·obtain⟨i,b,K,l⟩:=z2E s k f6J hhi;have t:=z6o s k;have T:=V D k E (fun h=>by unfold okAt at h;split at h<;>omega) (w.iter s (k+(Utf8.decode s k).2)) ((b0r).alloc (l0r _) _);by_cases r:k=0
     ·subst r;rw[Nat.zero_add]at T u;exact U7H
     ·have H:((k:Int)==0)=false:=b0f f6J;exact U7H
   ·obtain rfl:k=4:=f6J;have u:=fun M=>run_next_end (P:=prog) w s 4 M f6J;have T:=V n (V L) (w.iter s 4) ((b0r).alloc (l0r _) _);go_wp2;go_ret;exact T
 ·have T:x0g w (Scn.name (nums s)) (.returned (.bool false)) w:=by
   have:Scn.name (nums s)=false:=by
    cases hn:Scn.name (nums s)with
    | false=>rfl
    | true=>exact absurd ((x9E _).1 hn).1 f6J
   exact⟨by rw[this],b0r⟩
  have f:((s.size:Int) != 4)=true:=P8P;go_enter func341,ntmps341;exact U7H
def cmpI(a b:Int):Int:=if a<b then -1 else if b<a then 1 else 0
theorem x8i a w:Calls prog 345 #[.int .u64 a] w fun e w'=>e=.returned (.bool false)/\w'=w:=by
 have h:(a != a)=false:=M7L;go_enter func345,ntmps345;exact t6u
theorem y2m a b w:Calls prog 343 #[.int .u64 a,.int .u64 b] w fun e w'=>e=.returned (.int .i64 (cmpI a b))/\w'=w:=by
 have l:=O (x8i a w);have j:=O (x8i b w);unfold cmpI;by_cases Z:a<b
 ·rw[if_pos Z];exact G5b
 ·rw[if_neg Z];by_cases D:b<a
  ·rw[if_pos D];exact G5b
  ·rw[if_neg D];exact G5b
theorem x8b u v w(d:u<18446744073709551616)(N:v<18446744073709551616):Calls prog 342 #[.float .f64 u,.float .f64 v] w fun e w'=>e=.returned (.int .i64 (cmpI (rankN u) (rankN v)))/\w'=w:=by
 have l:=O (y4A u w d);have j:=O (y4A v w N);have k:=O (y2m (rankN u) (rankN v) w);go_enter func342,ntmps342;go_wp2_with fail;refine(V l).mono ?_;rintro e w ⟨rfl,rfl⟩;go_wp2_with fail;refine(V j).mono ?_;rintro e w ⟨rfl,rfl⟩;go_wp2_with fail;refine(V k).mono ?_;rintro e w ⟨rfl,rfl⟩;exact t6u
theorem y1T{u}(h:u<18446744073709551616):(!nanB u&&decide (0<=cmpI (rankN u) (rankN 0)))=Cn.weight u:=by
 have D:rankN 0=9223372036854775808:=e8N;rw[D];by_cases F:nanB u=true
 ·rw[F];have:9218868437227405312<u%9223372036854775808:=o0d F;unfold Cn.weight;rw[d0f (p:=u<=9218868437227405312) f6J];rfl
 ·have E:nanB u=false:=(by simpa using F);have:¬9218868437227405312<u%9223372036854775808:=of_decide_eq_false E;by_cases L:u<9223372036854775808
  ·have e:rankN u=(u:Int)+9223372036854775808:=by unfold rankN;rw[E,if_neg e8N,if_pos L]
   have I:0<=cmpI (rankN u) 9223372036854775808:=by
    rw[e];unfold cmpI;rw[if_neg f6J];split<;>decide
   unfold Cn.weight;rw[E,d0t I,d0t (p:=u<=9218868437227405312) f6J];rfl
  ·have e:rankN u=18446744073709551615-(u:Int):=by unfold rankN;rw[E,if_neg e8N,if_neg L]
   have I:¬0<=cmpI (rankN u) 9223372036854775808:=by
    rw[e];unfold cmpI;rw[if_pos f6J];decide
   unfold Cn.weight;rw[E,d0f I,d0f (p:=u<=9218868437227405312) f6J];rfl
theorem x2I w a b:Bw w ((w.alloc a).alloc b):=((b0r).alloc (l0r _) _).alloc M7K _
def numB(k:Int)(r:Rec):Bool:=decide ((Cn.rowK k).low<=r.n/\r.n<=(Cn.rowK k).high)
theorem x0l{w w1:World}{a cs t j}{v}(Y:Below ((w.alloc a).alloc (.cells cs t)).heap.size ((w.alloc a).alloc (.cells cs t)) w1)(h:cs[j]?=some v):w1.cell? ⟨w.heap.size+1,j,none⟩=some v:=by
 have U:((w.alloc a).alloc (.cells cs t)).heap[w.heap.size+1]?=some (.cells cs t (0,0)):=N6l
 have Z:w1.heap[w.heap.size+1]?=some (.cells cs t (0,0)):=by
  rw[Y.block _ M7K,U]
 have R:j<cs.size:=(by grind);rw[cell_of (j:=j) Z R];simp[Array.getD,R]at h ⊢;simpa[Array.getElem?_eq_getElem R]using h
theorem x1Z{w:World}{b i v}(h:w.cell? ⟨b,i,none⟩=some v) o:(w.alloc o).cell? ⟨b,i,none⟩=some v:=by
 rw[World.cell?_alloc_lt _ _ _ (x0a h)];exact h
theorem y1j k r vt w(H:Glob w)(G:I64 k)(C:I64 r.n):Calls prog 336 #[shV k,recV r vt] w (x0g w (numB k r)):=by
 have f:=x2I w (.cells #[.int .i64 k] 270) (.cells #[.int .i64 r.kind,.int .i64 r.lo,.int .i64 r.hi,.int .i64 r.n,vt,.string r.name,.string r.other,.float .f64 r.wt] 60);have K:=O (x7r k ((w.alloc (.cells #[.int .i64 k] 270)).alloc (.cells #[.int .i64 r.kind,.int .i64 r.lo,.int .i64 r.hi,.int .i64 r.n,vt,.string r.name,.string r.other,.float .f64 r.wt] 60)) (H.on f) G);unfold numB shV recV rowV at *;generalize Cn.rowK k=q at *;obtain⟨y,J⟩:=C;generalize r.n=n at *;by_cases Z:q.low<=n
 ·by_cases D:n<=q.high
  ·rw[d0t ⟨Z,D⟩];have i:=d0t Z;have b:=d0t D;exact p8r
  ·rw[d0f (fun h=>D h.2)];have i:=d0t Z;have b:=d0f D;exact p8r
 ·rw[d0f (fun h=>Z h.1)];have i:=d0f Z;exact p8r
def weiB(k:Int)(r:Rec):Bool:=if(Cn.rowK k).wei=true then Cn.weight r.wt else decide (r.wt=0)
theorem y3v k r vt w(H:Glob w)(G:I64 k)(d:r.wt<18446744073709551616):Calls prog 340 #[shV k,recV r vt] w (x0g w (weiB k r)):=by
 have f:=x2I w (.cells #[.int .i64 k] 270) (.cells #[.int .i64 r.kind,.int .i64 r.lo,.int .i64 r.hi,.int .i64 r.n,vt,.string r.name,.string r.other,.float .f64 r.wt] 60);have K:=O (x7r k ((w.alloc (.cells #[.int .i64 k] 270)).alloc (.cells #[.int .i64 r.kind,.int .i64 r.lo,.int .i64 r.hi,.int .i64 r.n,vt,.string r.name,.string r.other,.float .f64 r.wt] 60)) (H.on f) G);unfold weiB shV recV rowV at *;generalize Cn.rowK k=q at *;have C:=fld8 q;rw[<- y1T d];have KN:=O (fun w=>y0W r.wt w);have l:=O (fun w=>x8b r.wt 0 w d e8N);have v:=O (fun w=>x3W r.wt w);generalize r.n=n,r.lo=lo at *;generalize r.hi=hi,r.name=R at *;generalize r.other=ot,r.wt=D at *;generalize cmpI (rankN D) (rankN 0)=c at *
 cases hw:q.wei with
 | true =>
  rw[if_pos rfl];rw[hw]at C K
  cases hn:nanB D with
  | true =>
   rw[hn]at KN;go_enter func340,ntmps340;go_wp2_with fail;refine c0m K fun Q F=>?_;have A:=x0l (j:=7) F rfl;have Y:=bthen f F;go_wp2_with fail;refine c1m (V KN _) fun u s=>?_;subst u;go_wp2;go_ret;exact⟨rfl,Y⟩
  | false =>
   rw[hn]at KN;by_cases I:0<=c
   ·rw[d0t I];have i:=d0t I;exact M5I
   ·rw[d0f I];have i:=d0f I;exact M5I
 | false =>
  rw[if_neg e8N];rw[hw]at C K;by_cases U:D=0
  ·rw[d0t U];subst U;exact U5E
  ·rw[d0f U];have x:((D:Int)==0)=false:=b0f f6J;exact U5E
theorem z3E s:Cn.nameL s=Scn.name (nums s):=by
 unfold Cn.nameL Scn.name nums Scn.small;generalize s.data.toList=l
 match l with
 | []=>rfl
 | [_]=>rfl
 | [_,_]=>rfl
 | [_,_,_]=>rfl
 | [a,b,c,d]=>grind
 | _::_::_::_::_::_=>grind
theorem l_ne{b:ByteArray}(h:¬b.size=0):¬b.toList=[]:=fun e=>h (by
 have:b.data.toList.length=0:=I7C;show b.data.size=0;rw[<- Array.length_toList]
 exact this)
theorem z7d{b:ByteArray}(h:¬b.size=0):b.toList.isEmpty=false:=List.isEmpty_eq_false_iff.2 (l_ne h)
theorem z7e{b:ByteArray}(h:b.size=0):b=⟨#[]⟩:=by
 cases b with
 | mk a =>
  have:a.size=0:=h;rw[Array.eq_empty_of_size_eq_zero this]
def namB(k:Int)(r:Rec):Bool:=if(Cn.rowK k).scr=1 then Cn.nameL r.name&&decide (r.other.size=0)else if(Cn.rowK k).scr=2 then Cn.nameL r.name&&(Cn.nameL r.other&&decide (r.name≠r.other))else decide (r.name.size=0)&&decide (r.other.size=0)
theorem x4s s w:Calls prog 341 #[.string s] w (x0g w (Cn.nameL s)):=by
 rw[z3E];exact y1H s w
theorem y9X k r vt w(S:Glob w)(G:I64 k):Calls prog 334 #[shV k,recV r vt] w (x0g w (namB k r)):=by
 have f:=x2I w (.cells #[.int .i64 k] 270) (.cells #[.int .i64 r.kind,.int .i64 r.lo,.int .i64 r.hi,.int .i64 r.n,vt,.string r.name,.string r.other,.float .f64 r.wt] 60);have K:=O (x7r k ((w.alloc (.cells #[.int .i64 k] 270)).alloc (.cells #[.int .i64 r.kind,.int .i64 r.lo,.int .i64 r.hi,.int .i64 r.n,vt,.string r.name,.string r.other,.float .f64 r.wt] 60)) (S.on f) G);unfold namB shV recV rowV at *;generalize Cn.rowK k=q at *;have C:=fld7 q;have KN:=O (fun w=>x4s r.name w);have l:=O (fun w=>x4s r.other w);generalize r.n=n,r.lo=lo at *;generalize r.hi=hi,r.name=R at *;generalize r.other=ot,r.wt=D at *;generalize Cn.nameL R=a,Cn.nameL ot=b at *;by_cases A:q.scr=1;rw[if_pos A];rw[A]at C K;cases a;rotate_left;by_cases U:ot.size=0;rw[d0t U];obtain rfl:=z7e U;rotate_left;rw[d0f U];have y:=l_ne U;have E:=z7d U;rotate_left;rw[if_neg A];have J:(q.scr==1)=false:=b0f A;by_cases H:q.scr=2;rw[if_pos H];rw[H]at C K;cases a;rotate_left;cases b;rotate_left;by_cases U:R=ot;rw[d0f (fun h=>h U)];subst U;rotate_left;rw[d0t U]
 have y:¬R.toList=ot.toList:=fun e=>U (by
  rw[ByteArray.toList_eq,ByteArray.toList_eq]at e;cases R;cases ot
  simp_all)
 have I:(R.toList==ot.toList)=false:=b0f y;rotate_left;rw[if_neg H];have N:(q.scr==2)=false:=b0f H;by_cases U:R.size=0;rw[d0t U];obtain rfl:=z7e U;by_cases Z:ot.size=0;rw[d0t Z];obtain rfl:=z7e Z;rotate_left;rw[d0f Z];have y:=l_ne Z;have E:=z7d Z;rotate_left;rw[d0f U];have y:=l_ne U;have E:=z7d U
 all_goals
  go_enter func334,ntmps334;go_wp2_with fail;refine c0m K fun Q F=>?_;have g:=x0l (j:=5) F rfl;have M:=x0l (j:=6) F rfl;have Y:=bthen f F
  try
   go_wp2_with fail;refine c1m (V KN _) fun u t=>?_;have g:=(t.cell (x0a g)).trans g;have M:=(t.cell (x0a M)).trans M;have Y:=bthen Y t
  try
   go_wp2_with fail;refine c1m (V l _) fun B L=>?_;have g:=(L.cell (x0a g)).trans g;have M:=(L.cell (x0a M)).trans M;have Y:=bthen Y L
  go_wp2;go_ret;exact⟨rfl,Y⟩
def tarB(k:Int)(r:Rec):Bool:=decide ((Cn.rowK k).least<=(r.to.length:Int)/\(r.to.length:Int)<=(Cn.rowK k).most)&&r.to.all Cn.scalar
theorem y1N k r vt w(H:Glob w)(G:I64 k)(L:Sk .i32 w vt r.to):Calls prog 339 #[shV k,recV r vt] w (x0g w (tarB k r)):=by
 have f:=x2I w (.cells #[.int .i64 k] 270) (.cells #[.int .i64 r.kind,.int .i64 r.lo,.int .i64 r.hi,.int .i64 r.n,vt,.string r.name,.string r.other,.float .f64 r.wt] 60);have K:=O (x7r k ((w.alloc (.cells #[.int .i64 k] 270)).alloc (.cells #[.int .i64 r.kind,.int .i64 r.lo,.int .i64 r.hi,.int .i64 r.n,vt,.string r.name,.string r.other,.float .f64 r.wt] 60)) (H.on f) G);unfold tarB shV recV rowV at *;generalize Cn.rowK k=q at *;have z:Hid (∀W,Bw w W->Calls prog 152 #[vt] W fun e C=>e=.returned (.bool (r.to.all Cn.scalar))/\C=W):=fun W h=>z1e vt r.to W (L.below h);obtain⟨J,M,rfl,_,_⟩:=L.shape;generalize r.n=n,r.lo=lo at *;generalize r.hi=hi,r.name=R at *;generalize r.other=ot,r.wt=wt,r.to.all Cn.scalar=b,r.to.length=m at *;by_cases Z:q.least<=(m:Int)
 ·have i:=d0t Z;by_cases D:(m:Int)<=q.most
  ·have E:=d0t D;rw[d0t ⟨Z,D⟩,Bool.true_and];go_enter func339,ntmps339;go_wp2_with fail;refine c0m K fun Q F=>?_;have a:=x0l (j:=4) F rfl;have Y:=bthen f F;have A:=x1Z a;go_wp2_with fail;refine c1m (V z _ (Y.alloc Y.size _)) fun u s=>?_;subst u;go_wp2;go_ret;exact⟨rfl,Y.alloc Y.size _⟩
  ·have E:=d0f D;rw[d0f (fun h=>D h.2),Bool.false_and];exact p6D
 ·have i:=d0f Z;rw[d0f (fun h=>Z h.1),Bool.false_and];exact p6D
theorem x2R c w(I:I64 c):Calls prog 350 #[.int .i64 c] w fun e w'=>e=.returned (.bool (Cn.scalar c))/\w'=w:=by
 have K:=O (x2r c w I);by_cases s:0<=c/\c<=1114111
 ·have e:isPt c=true:=d0t s;rw[e]at K;have y:IntKind.i32.wrap c=c:=IntWalk.i32_in _ ⟨f6J,f6J⟩;have j:=O (y1R c w ⟨f6J,f6J⟩);go_enter func350,ntmps350;go_wp2_with fail;refine c0m K fun Q E=>?_;subst Q;go_wp2_with fail;refine c0m j fun Q E=>?_;subst Q;go_wp2;go_ret;exact⟨rfl,rfl⟩
 ·have e:isPt c=false:=d0f s;rw[e]at K;have z:Cn.scalar c=false:=d0f f6J;rw[z];go_enter func350,ntmps350;exact N2w
theorem x5M k r vt w(C:RecFit r):Calls prog 355 #[shV k,recV r vt] w (x0g w (decide (r.lo=0/\r.hi=0))):=by
 have Y:=x2I w (.cells #[.int .i64 k] 322) (.cells #[.int .i64 r.kind,.int .i64 r.lo,.int .i64 r.hi,.int .i64 r.n,vt,.string r.name,.string r.other,.float .f64 r.wt] 60);have N:=C.lo;have J:=C.hi;unfold shV recV at *;generalize r.lo=lo,r.hi=hi at *;by_cases Z:lo=0
 ·by_cases D:hi=0
  ·rw[d0t ⟨Z,D⟩];subst Z D;exact E3G
  ·rw[d0f (fun h=>D h.2)];subst Z;have b:(hi==0)=false:=b0f D;exact E3G
 ·rw[d0f (fun h=>Z h.1)];have i:(lo==0)=false:=b0f Z;exact E3G
theorem x5N k r vt w(C:RecFit r):Calls prog 352 #[shV k,recV r vt] w (x0g w (decide (r.lo=r.hi)&&Cn.scalar r.lo)):=by
 have Y:=x2I w (.cells #[.int .i64 k] 321) (.cells #[.int .i64 r.kind,.int .i64 r.lo,.int .i64 r.hi,.int .i64 r.n,vt,.string r.name,.string r.other,.float .f64 r.wt] 60);have N:=C.lo;have J:=C.hi;have K:=O (fun w=>x2R r.lo w C.lo);unfold shV recV at *;generalize r.lo=lo,r.hi=hi at *;by_cases Z:lo=hi
 ·rw[d0t Z,Bool.true_and];subst Z;have i:(lo==lo)=true:=beq_self_eq_true _;go_enter func352,ntmps352;go_wp2_with fail;refine c1m (V K _) fun u s=>?_;subst u;go_wp2;go_ret;exact⟨rfl,Y⟩
 ·rw[d0f Z,Bool.false_and];have i:(lo==hi)=false:=b0f Z;go_enter func352,ntmps352;exact T1E
def x3M(r:Rec):Bool:=decide (0<=r.lo/\r.lo<=1114111/\0<=r.hi/\r.hi<=1114111/\r.lo<=r.hi)
theorem x2f k r vt w(C:RecFit r):Calls prog 347 #[shV k,recV r vt] w (x0g w (x3M r)):=by
 have Y:=x2I w (.cells #[.int .i64 k] 318) (.cells #[.int .i64 r.kind,.int .i64 r.lo,.int .i64 r.hi,.int .i64 r.n,vt,.string r.name,.string r.other,.float .f64 r.wt] 60);have N:=C.lo;have B:=C.hi;have l:=O (fun w=>x2r r.lo w C.lo);have j:=O (fun w=>x2r r.hi w C.hi);unfold x3M shV recV at *;generalize r.lo=lo,r.hi=hi at *;by_cases Z:0<=lo/\lo<=1114111
 ·have P:isPt lo=true:=d0t Z;rw[P]at l;by_cases D:0<=hi/\hi<=1114111
  ·have z:isPt hi=true:=d0t D;rw[z]at j;by_cases J:lo<=hi
   ·rw[d0t ⟨Z.1,Z.2,D.1,D.2,J⟩];have K:=d0t J;exact g4e
   ·rw[d0f (fun h=>J h.2.2.2.2)];have K:=d0f J;exact g4e
  ·have z:isPt hi=false:=d0f D;rw[z]at j;rw[d0f (fun h=>D ⟨h.2.2.1,h.2.2.2.1⟩)];exact g4e
 ·have P:isPt lo=false:=d0f Z;rw[P]at l;rw[d0f (fun h=>Z ⟨h.1,h.2.1⟩)];go_enter func347,ntmps347;go_wp2_with fail;refine c1m (V l _) fun u s=>?_;subst u;go_wp2;go_ret;exact⟨rfl,Y⟩
def x4u(r:Rec):Bool:=x3M r&&(decide (r.to.length=1)&&(Cn.scalar (r.to.getD 0 0)&&(Cn.scalar (r.to.getD 0 0+r.hi-r.lo)&&(decide (r.to.getD 0 0<55296)==decide (r.to.getD 0 0+r.hi-r.lo<55296)))))
theorem x4S k r vt w(C:RecFit r)(L:Sk .i32 w vt r.to):Calls prog 348 #[shV k,recV r vt] w (x0g w (x4u r)):=by
 have f:=x2I w (.cells #[.int .i64 k] 320) (.cells #[.int .i64 r.kind,.int .i64 r.lo,.int .i64 r.hi,.int .i64 r.n,vt,.string r.name,.string r.other,.float .f64 r.wt] 60);have l:=O (x2f k r vt ((w.alloc (.cells #[.int .i64 k] 320)).alloc (.cells #[.int .i64 r.kind,.int .i64 r.lo,.int .i64 r.hi,.int .i64 r.n,vt,.string r.name,.string r.other,.float .f64 r.wt] 60)) C);have S:=C.len;unfold x4u
 cases hsp:x3M r with
 | false =>
  rw[hsp]at l;rw[Bool.false_and];unfold shV recV at *;go_enter func348,ntmps348;go_wp2_with fail;refine c0m l fun Q F=>?_;have Y:=bthen f F;go_wp2;go_ret;exact⟨rfl,Y⟩
 | true =>
  rw[hsp]at l;rw[Bool.true_and];by_cases Z:r.to.length=1
  ·rw[d0t Z,Bool.true_and];obtain⟨b,P,M,rfl,z,t,I⟩:=L.place f6J;have A:=I 0 f6J;have H:=L.1.i32at 0;obtain⟨E,d,o,p,G⟩:0<=r.lo/\r.lo<=1114111/\0<=r.hi/\r.hi<=1114111/\r.lo<=r.hi:=o0d hsp;rw[Z]at l z f;have D:=x0a A;have B:=O (fun w=>x2R (r.to.getD 0 0) w ⟨f6J,f6J⟩);have v:=O (fun w=>x2R (r.to.getD 0 0+r.hi-r.lo) w ⟨f6J,f6J⟩);rw[Z];unfold shV recV at *;generalize r.n=n,r.lo=lo at *;generalize r.hi=hi,r.name=R at *;generalize r.other=ot,r.wt=wt,r.to.getD 0 0=x at *;have X:IntKind.i64.wrap (x+hi)=x+hi:=IntWalk.i64_in _ ⟨f6J,f6J⟩;have c:IntKind.i64.wrap (x+hi-lo)=x+hi-lo:=IntWalk.i64_in _ ⟨f6J,f6J⟩;have N:IntKind.i64.wrap x=x:=IntWalk.i64_in _ ⟨f6J,f6J⟩
   cases ha:Cn.scalar x with
   | false =>
    rw[ha]at B;rw[Bool.false_and];go_enter func348,ntmps348;go_wp2_with fail;refine c0m l fun Q F=>?_;have T:=x0l (j:=1) F rfl;have U:=x0l (j:=2) F rfl;have a:=x0l (j:=4) F rfl;have Y:=bthen f F;have g:Q.cell? ⟨b,P,none⟩=some (.int .i32 x):=(Y.cell (by exact D)).trans A;go_wp2_with fail;refine c1m (V B _) fun u s=>?_;subst u;go_wp2;go_ret;exact⟨rfl,Y⟩
   | true =>
    rw[ha]at B;rw[Bool.true_and]
    cases hz:Cn.scalar (x+hi-lo)with
    | false =>
     rw[hz]at v;rw[Bool.false_and];exact S5y
    | true =>
     rw[hz]at v;rw[Bool.true_and];exact S5y
  ·rw[d0f Z,Bool.false_and];have i:((r.to.length:Int) != 1)=true:=P8P;obtain⟨J,M,rfl,_,_⟩:=L.shape;unfold shV recV at *;generalize r.kind=kd,r.n=n,r.lo=lo,r.hi=hi at *;generalize r.name=R,r.other=ot,r.wt=wt,r.to.length=m at *;go_enter func348,ntmps348;go_wp2_with fail;refine c0m l fun Q F=>?_;have a:=x0l (j:=4) F rfl;have Y:=bthen f F;go_wp2;go_ret;exact⟨rfl,Y⟩
def x2G(w:World)(b:Bool)(e:Ending)(w':World):Prop:=e=.returned (.bool b)/\w'=w
theorem x2G.mk{w b c}(h:c=b):x2G w b (.returned (.bool c)) w:=t5o
theorem y3f s w:Calls prog 123 #[.string s] w (x2G w (Scn.name (nums s))):=by
 have B:=nums_length s;have U:=fun i k hi G w=>x1O s i k hi G w;have K:=fun k=>(y4u s).at k;have H:Hid (¬s.size=4->x2G w (Scn.name (nums s)) (.returned (.bool false)) w):=fun h=>x2G.mk (by unfold Scn.name;rw[d0f];exact f6J);have m:Hid (¬(65<=(nums s).getD 0 0/\(nums s).getD 0 0<=90)->x2G w (Scn.name (nums s)) (.returned (.bool false)) w):=fun h=>x2G.mk (by unfold Scn.name;rw[d0f];exact fun x=>h ⟨x.2.1,x.2.2.1⟩)
 have X:Hid (∀k,1<=k->k<4->¬(97<=(nums s).getD k 0/\(nums s).getD k 0<=122)->x2G w (Scn.name (nums s)) (.returned (.bool false)) w):=fun k Z D h=>x2G.mk (by
  unfold Scn.name;rw[d0f];intro x;obtain⟨_,_,_,d,u,q⟩:=x;have:k=1\/k=2\/k=3:=f6J;rcases this with e | e | e<;>subst e
  ·exact h d
  ·exact h u
  ·exact h q)
 have n:Hid (s.size=4->65<=(nums s).getD 0 0->(nums s).getD 0 0<=90->(∀k,1<=k->k<4->97<=(nums s).getD k 0/\(nums s).getD k 0<=122)->x2G w (Scn.name (nums s)) (.returned (.bool true)) w):=fun Z D J F=>x2G.mk (by
  unfold Scn.name;rw[d0t]
  exact⟨f6J,D,J,F 1 f6J f6J,F 2 f6J f6J,F 3 f6J f6J⟩)
 by_cases r:s.size=4
 ·have t:=U 0 0 rfl f6J;obtain⟨C,a⟩:=K 0;have R:=O U;have p:=O K;have A:=O (V n r);have y:((s.size:Int) != 4)=false:=(by simp[r]);clear U K H n;generalize(nums s).getD 0 0=l at *;by_cases P:l<65
  ·exact V3x
  ·by_cases f:90<l
   ·exact V3x
   ·have Q:=O (V A f6J f6J);clear m A;go_enter func123,ntmps123;go_wp2;go_loop [3] (fun i=>∃k:Nat,i=.int .i64 k/\1<=k/\k<=4/\∀j,1<=j->j<k->97<=(nums s).getD j 0/\(nums s).getD j 0<=122) (fun i=>4-(intOf i).toNat)
    case atStart=>exact⟨1,rfl,f6J,f6J,fun j Z D=>f6J⟩
    case round =>
     clear t C a;obtain⟨k,rfl,L,k2,o⟩:=hrel;by_cases E:k<4
     ·have G:=V R (k:Int) k rfl f6J;obtain⟨b1,v⟩:=V p k
      have N:Hid (97<=(nums s).getD k 0->(nums s).getD k 0<=122->∀j,1<=j->j<k+1->97<=(nums s).getD j 0/\(nums s).getD j 0<=122):=fun Z D j b g=>by
       by_cases e:j=k
       ·subst e;exact⟨Z,D⟩
       ·exact o j b f6J
      have M:=O (V X k L E);clear o;generalize(nums s).getD k 0=c at *;by_cases z:c<97
      ·have T:=V M f6J;clear M N X Q;exact U7J
      ·by_cases I:122<c
       ·have T:=V M f6J;clear M N X Q;exact U7J
       ·have S:=O (V N f6J f6J);clear M N X Q;go_wp2;go_round
        case rel=>exact⟨k+1,g2A,f6J,f6J,V S⟩
        case measure=>exact g7W
     ·obtain rfl:k=4:=f6J;have T:=V Q o;clear X Q o;exact U7J
 ·have T:=V H r;have y:((s.size:Int) != 4)=true:=P8P;clear H m X n U K;go_enter func123,ntmps123;exact U7J
theorem z7v s:Cn.nameL s=Scn.name (nums s):=by
 unfold Cn.nameL Scn.name nums Scn.small;generalize s.data.toList=l
 match l with
 | []=>rfl
 | [_]=>rfl
 | [_,_]=>rfl
 | [_,_,_]=>rfl
 | [a,b,c,d] =>
  simp only[List.map_cons,List.map_nil,List.length_cons,List.length_nil,List.getD_cons_zero,List.getD_cons_succ];rw[decide_eq_decide];constructor
  ·intro h;exact⟨trivial,(f6J:65<=(a.toNat:Int)),(f6J:(a.toNat:Int)<=90),⟨(f6J:97<=(b.toNat:Int)),(f6J:(b.toNat:Int)<=122)⟩,⟨(f6J:97<=(c.toNat:Int)),(f6J:(c.toNat:Int)<=122)⟩,(f6J:97<=(d.toNat:Int)),(f6J:(d.toNat:Int)<=122)⟩
  ·rintro⟨_,Z,D,⟨J,F⟩,⟨E,q⟩,y,B⟩;have C:65<=(a.toNat:Int):=Z;have A:(a.toNat:Int)<=90:=D;have K:97<=(b.toNat:Int):=J;have R:(b.toNat:Int)<=122:=F;have n:97<=(c.toNat:Int):=E;have X:(c.toNat:Int)<=122:=q;have I:97<=(d.toNat:Int):=y;have G:(d.toNat:Int)<=122:=B;omega
 | _::_::_::_::_::_ =>
  simp only[List.map_cons,List.length_cons];symm;rw[decide_eq_false_iff_not];omega
theorem x5y s w:Calls prog 123 #[.string s] w fun e w'=>e=.returned (.bool (Cn.nameL s))/\w'=w:=by
 rw[z7v];exact y3f s w
def theLaid:List (String×DataW Unit):=Rows.idnaBackRow.laid
def rowD(r:Row9):DataW Unit:=.agg [.lit (.string r.word.data.toList),.lit (.int .i64 r.fam),.lit (.int .i64 r.least),.lit (.int .i64 r.most),.lit (.int .i64 r.low),.lit (.int .i64 r.high),.lit (.string r.said.data.toList),.lit (.int .i64 r.scr),.lit (.bool r.wei)]
theorem y9F:(Rows.laid_endonym_table_rows:DataW Unit)=.agg ((List.range 16).map fun k=>rowD (Cn.rowT k)):=f4x
theorem z9R : Tryz.prog.globalNamed "endonym/table.rows" = some 2 := f4x
theorem y8V:(prog.globals[2]?).map (·.type)=some 355:=f4x
theorem z8V{a b:ByteArray}(h:a.data.toList=b.data.toList):a=b:=by
 cases a;cases b;simp_all
def rowL(r:Row9):List Value:=[.string r.word,.int .i64 r.fam,.int .i64 r.least,.int .i64 r.most,.int .i64 r.low,.int .i64 r.high,.string r.said,.int .i64 r.scr,.bool r.wei]
section
variable {enc:TypeId×Value->Unit} {W:World} {base:Nat} {sp:Nat->Bool} {held:Bool}
theorem z0Q{M:Nat}{cs:List Value}{r:Row9}{p:List MemPlace}(h:DataW.trod enc prog W base sp held M 324 cs=some (rowD r,p)):cs=rowL r:=by
 obtain⟨D,k,hk,s,L,ab,C⟩:=DataW.trod_struct underlying324 h;have c9:prog.cellsOf 324=9:=f4x;have g:prog.cellsOf 3=1:=f4x;have u:prog.cellsOf 9=1:=f4x;have S:prog.cellsOf 4=1:=f4x;rw[c9]at L
 match D,ab,cs,L with
 | [y0,y1,y2,y3,y4,y5,y6,y7,y8],_,[v0,v1,v2,v3,v4,v5,v6,v7,v8],_ =>
  have hd:[y0.1,y1.1,y2.1,y3.1,y4.1,y5.1,y6.1,y7.1,y8.1]=[.lit (.string r.word.data.toList),.lit (.int .i64 r.fam),.lit (.int .i64 r.least),.lit (.int .i64 r.most),.lit (.int .i64 r.low),.lit (.int .i64 r.high),.lit (.string r.said.data.toList),.lit (.int .i64 r.scr),.lit (.bool r.wei)]:=by
   have:=congrArg Prod.fst s;simpa[rowD]using this.symm
  simp only[List.cons.injEq,and_true]at hd;obtain⟨x,i,b,K,l,t,X,c,B⟩:=hd;have g0:=C 0 _ rfl;have a:=C 1 _ rfl;have A:=C 2 _ rfl;have g3:=C 3 _ rfl;have R:=C 4 _ rfl;have n:=C 5 _ rfl;have g6:=C 6 _ rfl;have I:=C 7 _ rfl;have G:=C 8 _ rfl;simp[g,u,S]at g0 a A g3 R n g6 I G;obtain⟨T,v,j,_⟩:=DataW.trod_string underlying9 g0;obtain⟨J,P,y,_⟩:=DataW.trod_int underlying3 a;obtain⟨q,z,q2,_⟩:=DataW.trod_int underlying3 A;obtain⟨d,N,q3,_⟩:=DataW.trod_int underlying3 g3;obtain⟨n4,o,f,_⟩:=DataW.trod_int underlying3 R;obtain⟨E,F,H,_⟩:=DataW.trod_int underlying3 n;obtain⟨s6,Z,q6,_⟩:=DataW.trod_string underlying9 g6;obtain⟨n7,U,m,_⟩:=DataW.trod_int underlying3 I;obtain⟨Q,Y,q8⟩:=DataW.trod_bool underlying4 G;rw[j]at x;rw[y]at i;rw[q2]at b;rw[q3]at K;rw[f]at l;rw[H]at t;rw[q6]at X;rw[m]at c;rw[q8]at B;simp only[DataW.lit.injEq,Lit.string.injEq,Lit.int.injEq,Lit.bool.injEq,true_and]at x i b K l t X c B;simp only[List.cons.injEq,and_true]at v P z N o F Z U Y;rw[v,P,z,N,o,F,Z,U,Y,z8V x,i,b,K,l,t,z8V X,c,B];rfl
end
theorem y1t:(theLaid.all fun x=>x.2.handleName?.isNone)=true:=f4x
theorem z2w:prog.cellsOf 324=9:=f4x
theorem glob_of{W:World}(h:laidMetH prog theLaid W):Glob W:=by
 rw[MakeChecks.laidMetH_plain _ _ _ y1t]at h;obtain⟨K,⟨S,E,Y,M,p,q,Q,C,B,hd,_,_⟩,_⟩:=h;obtain rfl:=Option.some.inj (z9R.symm.trans Q);obtain rfl:=Option.some.inj (y8V.symm.trans C);obtain⟨P,m,_,A,T,t,L⟩:=DataW.trod_array underlying355 hd
 have c:P.map (·.1)=(List.range 16).map fun k=>rowD (Cn.rowT k):=by
  have Z:=congrArg Prod.fst A;have D:(Rows.laid_endonym_table_rows:DataW Unit)=.agg (P.map (·.1)):=Z;rw[y9F]at D;simpa using D.symm
 intro k G
 have H:∃pk,P[k]?=some (rowD (Cn.rowT k),pk):=by
  have Z:(P.map (·.1))[k]?=some (rowD (Cn.rowT k)):=by
   rw[c];simp[G]
  rw[List.getElem?_map,Option.map_eq_some_iff]at Z;obtain⟨⟨a,b⟩,D,J⟩:=Z;exact⟨b,by rw[D];simp at J;rw[J]⟩
 obtain⟨pk,H⟩:=H;have J:=L k G;rw[H,z2w]at J;have F:=z0Q J
 have y:∀j v,(rowL (Cn.rowT k))[j]?=some v->W.cell? ⟨2,k*9+j,none⟩=some v:=fun j v N=>by
  have I:=World.var?_cell z9R B (k*9+j);rw[<- F]at N
  have R:j<9:=by
   rcases Nat.lt_or_ge j 9 with hh | hh
   ·exact hh
   ·rw[List.getElem?_eq_none U3s]at N;cases N
  rw[List.getElem?_take_of_lt R,List.getElem?_drop]at N;rw[I];simpa using N
 exact⟨y 0 _ rfl,y 1 _ rfl,y 2 _ rfl,y 3 _ rfl,y 4 _ rfl,y 5 _ rfl,y 6 _ rfl,y 7 _ rfl,y 8 _ rfl⟩
theorem own:ownKnob prog.godebug=none:=f4x
theorem laidOut:laidOutB prog=true:=f4x
theorem start_met(s:Os)(args:Array Value):laidMetH prog theLaid ((World.laidAll prog s theLaid).forCall (fun _ _=>0) ⟨#[],args,[]⟩).memory:=by
 rw[MakeChecks.laidMetH_plain _ _ _ y1t];exact laidMet_laidAll _ f4x f4x
theorem y3p(s:Os)(args:Array Value):((World.laidAll prog s theLaid).forCall (fun _ _=>0) ⟨#[],args,[]⟩).Shaped prog:=World.shaped_of_ZipB f4x f4x
theorem start_at{H:Type}{enc:TypeId×Value->H}{B:Os}{f:FuncId}{fn:Func}{s:OpenSpec}{conds:List PathCond}(args:Array Value)
  (o:Input.okWideB Tryz.checked.prog ((World.laidAll prog B theLaid).forCall (fun _ _=>0) ⟨#[],args,[]⟩) f ⟨#[],args,[]⟩=true)
  (Q:s.preRow enc Tryz.checked.prog fn conds false theLaid ((World.laidAll prog B theLaid).forCall (fun _ _=>0) ⟨#[],args,[]⟩).memory args) :
  ∃(w:World) (A:Tape) (i:Input),w.os=B/\(w.forCall A i).Shaped Tryz.checked.prog/\i.vars=[]/\Input.okWide Tryz.checked.prog (w.forCall A i) .any w.heap.size f i /\
   s.preRow enc Tryz.checked.prog fn conds false theLaid (w.forCall A i).memory i.args/\({}:Assume).holds Tryz.checked.prog (lone (Frame.enter Tryz.checked.prog f i.args .normal) [] (w.forCall A i)) :=
 ⟨World.laidAll prog B theLaid,fun _ _=>0,⟨#[],args,[]⟩,World.laidAll_os _ _ _,y3p B args,(Input.okWide_of_okWideB (base:=0) o).1,(Input.okWide_of_okWideB o).2,Q,by
  simp only[Assume.holds]
  exact⟨M7K,M7K,fun _=>Modest.zero,M7K,M7K⟩⟩
