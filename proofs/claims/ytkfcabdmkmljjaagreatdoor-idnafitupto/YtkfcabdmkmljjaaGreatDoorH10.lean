/- Lemmas. -/
import Derived.Test.YtkfcabdmkmljjaaGreatDoorH5
import Derived.Shelf.Abstract
import Derived.Lib.Walk
import Derived.WalkMore
import Derived.Test.YtkfcabdmkmljjaaGreatDoorH16
import Derived.Test.YtkfcabdmkmljjaaGreatDoorRows
import Derived.ProofKit
import Derived.OpenShut
import Derived.ShutString
import Derived.LaidMore
import Derived.Lay
import Derived.Stop.LaidErr
import Derived.Deep.DeepHandedRow
import Derived.Lib.LaidTab
import Derived.MakeChecks
import Derived.Shelf.Vars
set_option maxHeartbeats 4000000
set_option maxRecDepth 20000
namespace Go.Proofs.YtkfcabdmkmljjaaGreatDoor
open Go.Proofs.Tryz
open Go.RowKit
section
variable{p:Prop}
theorem P5p(h:p:=by go_enter func336,ntmps336;go_wp2_with fail;refine c0m K fun Q F=>?_;have v:=x0l (j:=3) F rfl;have Y:=bthen f F;have B:=x1Z v;go_wp2;go_ret;exact⟨rfl,Y.alloc Y.size _⟩):p:=h
theorem I6o(h:p:=by go_enter func347,ntmps347;go_wp2_with fail;refine c1m (V i _) fun t s=>?_;subst t;go_wp2_with fail;refine c1m (V j _) fun t s=>?_;subst t;go_wp2;go_ret;exact⟨rfl,Y⟩):p:=h
theorem T1E(h:p:=by go_wp2;go_ret;exact⟨rfl,Y⟩):p:=h
theorem v2d(h:p:=by go_enter func339,ntmps339;go_wp2_with fail;refine c0m K fun Q F=>?_;have S:=x0l (j:=4) F rfl;have Y:=bthen f F;have A:=x1Z S;go_wp2;go_ret;exact⟨rfl,Y.alloc Y.size _⟩):p:=h
theorem M0h(h:p:=by simp[Ieee.Datum.order,Ieee.Datum.isNaN,Std.ReflCmp.compare_self]):p:=h
theorem u3m(h:p:=by go_enter func343,ntmps343;go_wp2_with fail;refine(V i).mono ?_;rintro e w ⟨rfl,rfl⟩;go_wp2_with fail;refine(V j).mono ?_;rintro e w ⟨rfl,rfl⟩;exact t6u):p:=h
theorem E3G(h:p:=by go_enter func355,ntmps355;exact T1E):p:=h
theorem n7F(h:p:=by go_enter func348,ntmps348;go_wp2_with fail;refine c0m i fun Q F=>?_;have E:=x0l (j:=1) F rfl;have a:=x0l (j:=2) F rfl;have S:=x0l (j:=4) F rfl;have Y:=bthen f F;have hy:Q.cell? ⟨b,P,none⟩=some (.int .i32 x):=(Y.cell (by exact D)).trans A;go_wp2_with fail;refine c1m (V q _) fun t s=>?_;subst t;go_wp2_with fail;refine c1m (V C _) fun t s=>?_;subst t;go_wp2;go_ret;exact⟨rfl,Y⟩):p:=h
theorem u6c(h:p:=by go_enter func340,ntmps340;go_wp2_with fail;refine c0m K fun Q F=>?_;have L:=x0l (j:=7) F rfl;have Y:=bthen f F;go_wp2_with fail;refine c1m (V KN _) fun t s=>?_;subst t;go_wp2_with fail;refine c1m (V d _) fun t s=>?_;subst t;go_wp2;go_ret;exact⟨rfl,Y⟩):p:=h
theorem i0O(h:p:=by simpa using F):p:=h
theorem N6l(h:p:=by show((w.heap.push _).push _)[w.heap.size+1]?=_;rw[Array.getElem?_push];simp):p:=h
theorem R0k(h:p:=by rw[(e8N:((2^IntKind.u64.bits:Nat):Int)=18446744073709551616)];omega):p:=h
theorem u9N(h:p:=by go_enter func340,ntmps340;go_wp2_with fail;refine c0m K fun Q F=>?_;have L:=x0l (j:=7) F rfl;have Y:=bthen f F;go_wp2_with fail;refine c1m (V C _) fun t s=>?_;subst t;go_wp2;go_ret;exact⟨rfl,Y⟩):p:=h
theorem P8z(h:p:=by go_enter func344,ntmps344;go_wp2_with fail;refine(V i).mono ?_;rintro e w ⟨rfl,rfl⟩;go_wp2_with fail;refine(V j).mono ?_;rintro e w ⟨rfl,rfl⟩;exact t6w):p:=h
theorem W3N(h:p:=by simpa using q):p:=h
theorem u4u(h:p:=by have G:Cn.scalar c=false:=d0f f6J;exact w6e):p:=h
theorem t6k(h:p:=by have U:=V m f6J;clear m T A;go_enter func123,ntmps123;exact m2J):p:=h
end
theorem y0k c w(h:-2147483648<=c/\c<=2147483647) :
  Calls prog 108 #[.int .i32 c] w fun e w'=>e=.returned (.bool (Cn.scalar c))/\w'=w:=by
 by_cases Z:0<=c
 ·by_cases D:c<55296
  ·have G:Cn.scalar c=true:=d0t f6J;exact w6e
  ·by_cases J:57343<c
   ·by_cases H:c<=1114111
    ·have G:Cn.scalar c=true:=d0t f6J;exact w6e
    ·exact u4u
   ·exact u4u
 ·exact u4u
theorem y1T c w(h:-2147483648<=c/\c<=2147483647) :
  Calls prog 62 #[.int .i32 c] w fun e w'=>e=.returned (.bool (Cn.scalar c))/\w'=w:=by
 have H:=O (y0k c w h);go_enter func62,ntmps62;go_wp2_with fail;refine(V H).mono ?_;rintro e w ⟨rfl,rfl⟩;go_wp2;go_ret;exact⟨rfl,rfl⟩
theorem y1S c w(h:-2147483648<=c/\c<=2147483647) :
  Calls prog 156 #[.int .i32 c] w fun e w'=>e=.returned (.bool (!Cn.scalar c))/\w'=w:=by
 have H:=O (y1T c w h);go_enter func156,ntmps156;go_wp2_with fail;refine(V H).mono ?_;rintro e w ⟨rfl,rfl⟩;go_wp2;go_ret;exact⟨rfl,rfl⟩
theorem y0F{xs:List Int}{k}(G:k<xs.length):xs.drop k=xs.getD k 0::xs.drop (k+1):=f0h
def fb(p:Int->Bool):Nat->List Int->Int
 | _,[]=>-1
 | i,c::r=>if p c then(i:Int)else fb p (i+1) r
theorem z9z{p:Int->Bool}{xs:List Int}{k r}(G:k<xs.length)(h:r=fb p k (xs.drop k))(s:p (xs.getD k 0)=true):r=(k:Int):=by
 rw[h,y0F G,fb,if_pos s]
theorem z6F{p:Int->Bool}{xs:List Int}{k r}(G:k<xs.length)(h:r=fb p k (xs.drop k))(s:p (xs.getD k 0)=false):r=fb p (k+1) (xs.drop (k+1)):=by
 rw[h,y0F G,fb,s];rfl
theorem z4W{p:Int->Bool}{xs:List Int}{k r}(G:xs.length<=k)(h:r=fb p k (xs.drop k)):r=-1:=by
 rw[h,List.drop_eq_nil_of_le G,fb]
theorem z9y(p:Int->Bool) i xs:decide (fb p i xs<0)=xs.all (fun c=>!p c):=by
 induction xs generalizing i with
 | nil=>rfl
 | cons c r ih =>
  simp only[fb,List.all_cons];exact e4k
theorem x9t(p:Int->Bool)(g:Nat)(A:∀x w,(-2147483648<=x/\x<=2147483647)->Calls prog g #[.int .i32 x] w fun e w'=>e=.returned (.bool (p x))/\w'=w)(m:∀args w,(callFunc g args).run prog w=.ok (.enter g args) w)
  v xs w (N:Sk .i32 w v xs) :
  Calls prog 66 #[v,.func (.func g) #[] #[]] w fun e w'=>e=.returned (.int .i64 (fb p 0 xs))/\w'=w:=by
 have z:=N.len;have J:fb p 0 xs=fb p 0 (xs.drop 0):=s4M;rcases Nat.eq_zero_or_pos xs.length with h0 | h0
 ·have y:=z4W f6J J;exact P9P
 ·have s:=O N.1;obtain⟨b,P,M,rfl,l,H,I⟩:=N.place h0;have C:=O I;have a:=O J;have Q:=O A;clear N I J A;generalize y:fb p 0 xs=r at *;go_enter func66,ntmps66;go_wp2;go_loop [5,8] (fun _ i=>∃k:Nat,i=.int .i64 k/\k<=xs.length/\r=fb p k (xs.drop k)) (fun _ i=>xs.length-(intOf i).toNat)
  case atStart=>exact⟨0,rfl,f6J,V a⟩
  case round =>
   obtain⟨k,rfl,G,u⟩:=hrel;by_cases E:k<xs.length
   ·have K:=V C k E;have U:=(V s).i32at k;have R:=O (V Q (xs.getD k 0) w U)
    cases hok:p (xs.getD k 0)with
    | true =>
     have Y:=z9z E u hok;rw[hok]at R;subst Y;clear u hok a;generalize xs.getD k 0=c at *;go_wp2_with(go_at_fn g;refine(V R).mono ?_;rintro e w ⟨rfl,rfl⟩);go_ret;exact⟨rfl,rfl⟩
    | false =>
     have L:=O (z6F E u hok);rw[hok]at R;generalize xs.getD k 0=c at *;go_wp2_with(go_at_fn g;refine(V R).mono ?_;rintro e w ⟨rfl,rfl⟩);go_round
     case rel=>exact⟨k+1,g2A,f6J,V L⟩
     case measure=>exact g7T
   ·have Y:=z4W f6J u;subst Y;exact t6x
theorem y8B:∀args w,(callFunc 156 args).run prog w=.ok (.enter 156 args) w:=f0h
theorem x5J v xs w(N:Sk .i32 w v xs) :
  Calls prog 104 #[v] w fun e w'=>e=.returned (.int .i64 (fb (fun c=>!Cn.scalar c) 0 xs))/\w'=w:=by
 have H:=O (x9t (fun c=>!Cn.scalar c) 156 y1S y8B v xs w N);go_enter func104,ntmps104;go_wp2_with fail;refine(V H).mono ?_;rintro e w ⟨rfl,rfl⟩;go_wp2;go_ret;exact⟨rfl,rfl⟩
theorem z1f v xs w(N:Sk .i32 w v xs) :
  Calls prog 152 #[v] w fun e w'=>e=.returned (.bool (xs.all Cn.scalar))/\w'=w:=by
 have H:=O (x5J v xs w N);have e:xs.all Cn.scalar=decide (fb (fun c=>!Cn.scalar c) 0 xs<0):=(by rw[z9y];exact M7K);rw[e];go_enter func152,ntmps152;go_wp2_with fail;refine(V H).mono ?_;rintro e w ⟨rfl,rfl⟩;go_wp2;go_ret;exact⟨rfl,rfl⟩
def nanB(u:Nat):Bool:=decide (9218868437227405312<u%9223372036854775808)
theorem y6o(d:Ieee.Datum):d.order d=if d.isNaN then none else some .eq:=by
 cases d with
 | number s m i =>exact M0h
 | infinity s=>exact M0h
 | nan s t=>simp[Ieee.Datum.order,Ieee.Datum.isNaN]
theorem z4a u:(FloatKind.f64.format.read u).isNaN=nanB u:=by
 have P:FloatKind.f64.format.signWeight=9223372036854775808:=e8N;have E:FloatKind.f64.format.binade=4503599627370496:=e8N;have N:FloatKind.f64.format.infRung=9218868437227405312:=e8N;unfold Ieee.Format.read nanB;simp only[P,E,N];split
 ·rw[d0f f6J];rfl
 ·split
  ·rw[d0f f6J];rfl
  ·split
   ·rw[d0f f6J];rfl
   ·rw[d0t f6J];rfl
theorem z3J u:(FloatKind.f64.format.order u u != some .eq)=nanB u:=by
 unfold Ieee.Format.order;rw[y6o,<- z4a];cases(FloatKind.f64.format.read u).isNaN<;>rfl
theorem y0Y u w:Calls prog 199 #[.float .f64 u] w fun e w'=>e=.returned (.bool (nanB u))/\w'=w:=by
 have e:=z3J u;go_enter func199,ntmps199;exact t6u
def rankN(u:Nat):Int:=if nanB u then 18446744073709551615 else if u<9223372036854775808 then(u:Int)+9223372036854775808 else 18446744073709551615-u
theorem z7D{u:Nat}(h:u<9223372036854775808):bits .or .u64 (u:Int) 9223372036854775808=(u:Int)+9223372036854775808:=by
 unfold bits;simp only[]
 have e:(BitVec.ofInt IntKind.u64.bits (u:Int)|||BitVec.ofInt IntKind.u64.bits 9223372036854775808).toNat=u+9223372036854775808:=by
  rw[BitVec.toNat_or,BitVec.toNat_ofInt,BitVec.toNat_ofInt]
  have P:((u:Int)%((2^IntKind.u64.bits:Nat):Int)).toNat=u:=R0k
  have E:((9223372036854775808:Int)%((2^IntKind.u64.bits:Nat):Int)).toNat=9223372036854775808:=e8N;rw[P,E,Nat.or_comm];have:=Nat.two_pow_add_eq_or_of_lt (i:=63) (b:=u) f6J 1;rw[(e8N:(2:Nat)^63*1=9223372036854775808)]at this;omega
 rw[e,IntWalk.u64_in _ ⟨f6J,f6J⟩];omega
theorem z8s{u:Nat}(h:u<18446744073709551616):bits .xor .u64 IntKind.u64.max (u:Int)=18446744073709551615-(u:Int):=by
 unfold bits;simp only[]
 have e:(BitVec.ofInt IntKind.u64.bits IntKind.u64.max ^^^ BitVec.ofInt IntKind.u64.bits (u:Int)).toNat=18446744073709551615-u:=by
  rw[(e8N:BitVec.ofInt IntKind.u64.bits IntKind.u64.max=BitVec.allOnes IntKind.u64.bits),BitVec.allOnes_xor,BitVec.toNat_not,BitVec.toNat_ofInt]
  have P:((u:Int)%((2^IntKind.u64.bits:Nat):Int)).toNat=u:=R0k
  rw[P];rfl
 rw[e,IntWalk.u64_in _ ⟨f6J,f6J⟩];omega
theorem y4F u w(C:u<18446744073709551616):Calls prog 344 #[.float .f64 u] w fun e w'=>e=.returned (.int .u64 (rankN u))/\w'=w:=by
 have i:=O (x3W u w);have j:=O (y0Y u w);unfold rankN
 cases hn:nanB u with
 | true =>
  rw[hn]at j;rw[if_pos rfl];exact P8z
 | false =>
  rw[hn]at j;rw[if_neg e8N];by_cases L:u<9223372036854775808
  ·rw[if_pos L];have N:¬(9223372036854775808:Int)<=(u:Int):=f6J;have X:=z7D L;have T:(0:Int)<=(u:Int):=f6J;have F:(u:Int)<9223372036854775808:=f6J;generalize(u:Int)=x at *;exact P8z
  ·rw[if_neg L];have N:(9223372036854775808:Int)<=(u:Int):=f6J;have A:=z8s C;go_enter func344,ntmps344;go_wp2_with fail;refine(V i).mono ?_;rintro e w ⟨rfl,rfl⟩;go_wp2_with fail;refine(V j).mono ?_;rintro e w ⟨rfl,rfl⟩;go_wp2;go_ret;refine⟨?_,rfl⟩;rw[<- A];rfl
def okAt(k:Nat)(c:Int):Prop:=if k=0 then 65<=c/\c<=90 else 97<=c/\c<=122
theorem x9I l:Scn.name l=true↔(l.length=4/\∀k,k<4->okAt k (l.getD k 0)):=by
 unfold Scn.name;rw[decide_eq_true_iff];constructor
 ·rintro⟨R,Z,D,J,H,K⟩;refine⟨R,fun k G=>?_⟩;unfold okAt;obtain rfl | rfl | rfl | rfl:k=0\/k=1\/k=2\/k=3:=by omega
  ·exact⟨Z,D⟩
  ·exact J
  ·exact H
  ·exact K
 ·rintro⟨R,h⟩;exact⟨R,(h 0 f6J).1,(h 0 f6J).2,h 1 f6J,h 2 f6J,h 3 f6J⟩
theorem y1I s w:Calls prog 341 #[.string s] w (x0g w (Scn.name (nums s))):=by
 have d:=nums_length s;by_cases H:s.size=4
 ·have n:Hid ((∀k,k<4->okAt k ((nums s).getD k 0))->∀a,Bw w a->x0g w (Scn.name (nums s)) (.returned (.bool true)) a):=fun h a Y=>⟨by rw[(x9I _).2 ⟨f6J,h⟩],Y⟩
  have D:Hid (∀k,k<4->¬okAt k ((nums s).getD k 0)->∀a,Bw w a->x0g w (Scn.name (nums s)) (.returned (.bool false)) a):=fun k G h a Y=>by
   have:Scn.name (nums s)=false:=by
    cases hn:Scn.name (nums s)with
    | false=>rfl
    | true=>exact absurd (((x9I _).1 hn).2 k G) h
   exact⟨by rw[this],Y⟩
  have C:=O (fun k=>(y4y s).at k);have f:((s.size:Int) != 4)=false:=(by rw[H];rfl);go_enter func341,ntmps341;go_wp2;go_loopw[3,4] (fun _ _ wr=>∃k:Nat,wr=w.iter s k/\k<=4/\∀j,j<k->okAt j ((nums s).getD j 0)) (fun _ _ wr=>4-wr.iterPos w.heap.size)
  case atStart=>exact w6X
  case round =>
   obtain⟨k,rfl,G,o⟩:=hrel;have Q:=O o;by_cases E:k<4
   ·have K:=fun B=>run_next_any (P:=prog) w s k B f6J;obtain⟨y,q⟩:=V C k;rcases Int.lt_or_le ((nums s).getD k 0) 128 with N | hhi
    ·obtain⟨u,g⟩:=y8o s k f6J N;rw[u,g]at K;have T:=O (V D k E)
     have M:Hid (okAt k ((nums s).getD k 0)->∀j,j<k+1->okAt j ((nums s).getD j 0)):=fun h j X=>by
      rcases Nat.lt_or_ge j k with hj2 | hj2
      ·exact V Q j hj2
      ·obtain rfl:j=k:=f6J;exact h
     have F:4-(k+1)<4-(w.iter s k).iterPos w.heap.size:=(by rw[World.iterPos_iter];exact f6J);generalize hcg:(nums s).getD k 0=c at K y q N T M;by_cases I:k=0
     ·subst I;by_cases i:65<=c
      ·by_cases A:c<=90
       ·have L:=O (V M ⟨i,A⟩);go_wp2
        go_roundw
        case rel=>exact⟨0+1,rfl,f6J,V L⟩
        case measure=>rw[World.iterPos_iter];exact F
       ·have U:=V T (fun h=>A h.2) (w.iter s (0+1)) ((b0r).alloc (l0r _) _);exact m2H
      ·have U:=V T (fun h=>i h.1) (w.iter s (0+1)) ((b0r).alloc (l0r _) _);exact m2H
     ·have t:((k:Int)==0)=false:=b0f f6J;have J:okAt k c=(97<=c/\c<=122):=(by unfold okAt;rw[if_neg I]);rw[J]at T M;by_cases i:97<=c
      ·by_cases A:c<=122
       ·have L:=O (V M ⟨i,A⟩);go_wp2
        go_roundw
        case rel=>exact⟨k+1,rfl,f6J,V L⟩
        case measure=>rw[World.iterPos_iter];exact F
       ·have U:=V T (fun h=>A h.2) (w.iter s (k+1)) ((b0r).alloc (l0r _) _);exact m2H
      ·have U:=V T (fun h=>i h.1) (w.iter s (k+1)) ((b0r).alloc (l0r _) _);exact m2H
    ·obtain⟨u,g,l,v⟩:=z2H s k f6J hhi;have R:=z6o s k;have U:=V D k E (fun h=>by unfold okAt at h;split at h<;>omega) (w.iter s (k+(Utf8.decode s k).2)) ((b0r).alloc (l0r _) _);by_cases I:k=0
     ·subst I;rw[Nat.zero_add]at U K;exact m2H
     ·have t:((k:Int)==0)=false:=b0f f6J;exact m2H
   ·obtain rfl:k=4:=f6J;have K:=fun B=>run_next_end (P:=prog) w s 4 B f6J;have U:=V n (V Q) (w.iter s 4) ((b0r).alloc (l0r _) _);go_wp2;go_ret;exact U
 ·have U:x0g w (Scn.name (nums s)) (.returned (.bool false)) w:=by
   have:Scn.name (nums s)=false:=by
    cases hn:Scn.name (nums s)with
    | false=>rfl
    | true=>exact absurd ((x9I _).1 hn).1 f6J
   exact⟨by rw[this],b0r⟩
  have f:((s.size:Int) != 4)=true:=P8P;go_enter func341,ntmps341;exact m2H
def cmpI(a b:Int):Int:=if a<b then -1 else if b<a then 1 else 0
theorem x8l a w:Calls prog 345 #[.int .u64 a] w fun e w'=>e=.returned (.bool false)/\w'=w:=by
 have h:(a != a)=false:=M7L;go_enter func345,ntmps345;exact t6u
theorem y2n a b w:Calls prog 343 #[.int .u64 a,.int .u64 b] w fun e w'=>e=.returned (.int .i64 (cmpI a b))/\w'=w:=by
 have i:=O (x8l a w);have j:=O (x8l b w);unfold cmpI;by_cases Z:a<b
 ·rw[if_pos Z];exact u3m
 ·rw[if_neg Z];by_cases D:b<a
  ·rw[if_pos D];exact u3m
  ·rw[if_neg D];exact u3m
theorem x8d u v w(B:u<18446744073709551616)(N:v<18446744073709551616):Calls prog 342 #[.float .f64 u,.float .f64 v] w fun e w'=>e=.returned (.int .i64 (cmpI (rankN u) (rankN v)))/\w'=w:=by
 have i:=O (y4F u w B);have j:=O (y4F v w N);have k:=O (y2n (rankN u) (rankN v) w);go_enter func342,ntmps342;go_wp2_with fail;refine(V i).mono ?_;rintro e w ⟨rfl,rfl⟩;go_wp2_with fail;refine(V j).mono ?_;rintro e w ⟨rfl,rfl⟩;go_wp2_with fail;refine(V k).mono ?_;rintro e w ⟨rfl,rfl⟩;exact t6u
theorem y1V{u}(h:u<18446744073709551616):(!nanB u&&decide (0<=cmpI (rankN u) (rankN 0)))=Cn.weight u:=by
 have D:rankN 0=9223372036854775808:=e8N;rw[D];by_cases F:nanB u=true
 ·rw[F];have:9218868437227405312<u%9223372036854775808:=o0d F;unfold Cn.weight;rw[d0f (p:=u<=9218868437227405312) f6J];rfl
 ·have q:nanB u=false:=i0O;have:¬9218868437227405312<u%9223372036854775808:=of_decide_eq_false q;by_cases L:u<9223372036854775808
  ·have e:rankN u=(u:Int)+9223372036854775808:=by unfold rankN;rw[q,if_neg e8N,if_pos L]
   have I:0<=cmpI (rankN u) 9223372036854775808:=by
    rw[e];unfold cmpI;rw[if_neg f6J];split<;>decide
   unfold Cn.weight;rw[q,d0t I,d0t (p:=u<=9218868437227405312) f6J];rfl
  ·have e:rankN u=18446744073709551615-(u:Int):=by unfold rankN;rw[q,if_neg e8N,if_neg L]
   have I:¬0<=cmpI (rankN u) 9223372036854775808:=by
    rw[e];unfold cmpI;rw[if_pos f6J];decide
   unfold Cn.weight;rw[q,d0f I,d0f (p:=u<=9218868437227405312) f6J];rfl
theorem x2F w a b:Bw w ((w.alloc a).alloc b):=((b0r).alloc (l0r _) _).alloc M7K _
def numB(k:Int)(r:Rec):Bool:=decide ((Cn.rowK k).low<=r.n/\r.n<=(Cn.rowK k).high)
theorem x0l{w w1:World}{a cs t j}{v}(Y:Below ((w.alloc a).alloc (.cells cs t)).heap.size ((w.alloc a).alloc (.cells cs t)) w1)(h:cs[j]?=some v):w1.cell? ⟨w.heap.size+1,j,none⟩=some v:=by
 have R:((w.alloc a).alloc (.cells cs t)).heap[w.heap.size+1]?=some (.cells cs t (0,0)):=N6l
 have Z:w1.heap[w.heap.size+1]?=some (.cells cs t (0,0)):=by
  rw[Y.block _ M7K,R]
 have X:j<cs.size:=(by grind);rw[cell_of (j:=j) Z X];simp[Array.getD,X]at h ⊢;simpa[Array.getElem?_eq_getElem X]using h
theorem x1Z{w:World}{b i v}(h:w.cell? ⟨b,i,none⟩=some v) o:(w.alloc o).cell? ⟨b,i,none⟩=some v:=by
 rw[World.cell?_alloc_lt _ _ _ (x0a h)];exact h
theorem y1l k r vt w(C:Glob w)(G:I64 k)(H:I64 r.n):Calls prog 336 #[shV k,recV r vt] w (x0g w (numB k r)):=by
 have f:=x2F w (.cells #[.int .i64 k] 270) (.cells #[.int .i64 r.kind,.int .i64 r.lo,.int .i64 r.hi,.int .i64 r.n,vt,.string r.name,.string r.other,.float .f64 r.wt] 60);have K:=O (x7s k ((w.alloc (.cells #[.int .i64 k] 270)).alloc (.cells #[.int .i64 r.kind,.int .i64 r.lo,.int .i64 r.hi,.int .i64 r.n,vt,.string r.name,.string r.other,.float .f64 r.wt] 60)) (C.on f) G);unfold numB shV recV rowV at *;generalize Cn.rowK k=q at *;obtain⟨A,T⟩:=H;generalize r.n=n at *;by_cases Z:q.low<=n
 ·by_cases D:n<=q.high
  ·rw[d0t ⟨Z,D⟩];have u:=d0t Z;have g:=d0t D;exact P5p
  ·rw[d0f (fun h=>D h.2)];have u:=d0t Z;have g:=d0f D;exact P5p
 ·rw[d0f (fun h=>Z h.1)];have u:=d0f Z;exact P5p
def weiB(k:Int)(r:Rec):Bool:=if(Cn.rowK k).wei=true then Cn.weight r.wt else decide (r.wt=0)
theorem y3w k r vt w(D:Glob w)(G:I64 k)(B:r.wt<18446744073709551616):Calls prog 340 #[shV k,recV r vt] w (x0g w (weiB k r)):=by
 have f:=x2F w (.cells #[.int .i64 k] 270) (.cells #[.int .i64 r.kind,.int .i64 r.lo,.int .i64 r.hi,.int .i64 r.n,vt,.string r.name,.string r.other,.float .f64 r.wt] 60);have K:=O (x7s k ((w.alloc (.cells #[.int .i64 k] 270)).alloc (.cells #[.int .i64 r.kind,.int .i64 r.lo,.int .i64 r.hi,.int .i64 r.n,vt,.string r.name,.string r.other,.float .f64 r.wt] 60)) (D.on f) G);unfold weiB shV recV rowV at *;generalize Cn.rowK k=q at *;have z:=fld8 q;rw[<- y1V B];have KN:=O (fun w=>y0Y r.wt w);have d:=O (fun w=>x8d r.wt 0 w B e8N);have C:=O (fun w=>x3W r.wt w);generalize r.n=n,r.lo=lo at *;generalize r.hi=hi,r.name=y at *;generalize r.other=ot,r.wt=J at *;generalize cmpI (rankN J) (rankN 0)=c at *
 cases hw:q.wei with
 | true =>
  rw[if_pos rfl];rw[hw]at z K
  cases hn:nanB J with
  | true =>
   rw[hn]at KN;go_enter func340,ntmps340;go_wp2_with fail;refine c0m K fun Q F=>?_;have L:=x0l (j:=7) F rfl;have Y:=bthen f F;go_wp2_with fail;refine c1m (V KN _) fun t s=>?_;subst t;go_wp2;go_ret;exact⟨rfl,Y⟩
  | false =>
   rw[hn]at KN;by_cases I:0<=c
   ·rw[d0t I];have u:=d0t I;exact u6c
   ·rw[d0f I];have u:=d0f I;exact u6c
 | false =>
  rw[if_neg e8N];rw[hw]at z K;by_cases R:J=0
  ·rw[d0t R];subst R;exact u9N
  ·rw[d0f R];have Z:((J:Int)==0)=false:=b0f f6J;exact u9N
theorem z3H s:Cn.nameL s=Scn.name (nums s):=by
 unfold Cn.nameL Scn.name nums Scn.small;generalize s.data.toList=l
 match l with
 | []=>rfl
 | [_]=>rfl
 | [_,_]=>rfl
 | [_,_,_]=>rfl
 | [a,b,c,d]=>grind
 | _::_::_::_::_::_=>grind
theorem l_ne{b:ByteArray}(h:¬b.size=0):¬b.toList=[]:=fun e=>h (by
 have:b.data.toList.length=0:=I7C;show b.data.size=0;rw[<- Array.length_toList]
 exact this)
theorem z7f{b:ByteArray}(h:¬b.size=0):b.toList.isEmpty=false:=List.isEmpty_eq_false_iff.2 (l_ne h)
theorem z7g{b:ByteArray}(h:b.size=0):b=⟨#[]⟩:=by
 cases b with
 | mk a =>
  have:a.size=0:=h;rw[Array.eq_empty_of_size_eq_zero this]
def namB(k:Int)(r:Rec):Bool:=if(Cn.rowK k).scr=1 then Cn.nameL r.name&&decide (r.other.size=0)else if(Cn.rowK k).scr=2 then Cn.nameL r.name&&(Cn.nameL r.other&&decide (r.name≠r.other))else decide (r.name.size=0)&&decide (r.other.size=0)
theorem x4t s w:Calls prog 341 #[.string s] w (x0g w (Cn.nameL s)):=by
 rw[z3H];exact y1I s w
theorem y9V k r vt w(C:Glob w)(G:I64 k):Calls prog 334 #[shV k,recV r vt] w (x0g w (namB k r)):=by
 have f:=x2F w (.cells #[.int .i64 k] 270) (.cells #[.int .i64 r.kind,.int .i64 r.lo,.int .i64 r.hi,.int .i64 r.n,vt,.string r.name,.string r.other,.float .f64 r.wt] 60);have K:=O (x7s k ((w.alloc (.cells #[.int .i64 k] 270)).alloc (.cells #[.int .i64 r.kind,.int .i64 r.lo,.int .i64 r.hi,.int .i64 r.n,vt,.string r.name,.string r.other,.float .f64 r.wt] 60)) (C.on f) G);unfold namB shV recV rowV at *;generalize Cn.rowK k=q at *;have z:=fld7 q;have KN:=O (fun w=>x4t r.name w);have d:=O (fun w=>x4t r.other w);generalize r.n=n,r.lo=lo at *;generalize r.hi=hi,r.name=y at *;generalize r.other=ot,r.wt=J at *;generalize Cn.nameL y=a,Cn.nameL ot=b at *;by_cases U:q.scr=1;rw[if_pos U];rw[U]at z K;cases a;rotate_left;by_cases R:ot.size=0;rw[d0t R];obtain rfl:=z7g R;rotate_left;rw[d0f R];have t:=l_ne R;have E:=z7f R;rotate_left;rw[if_neg U];have D:(q.scr==1)=false:=b0f U;by_cases B:q.scr=2;rw[if_pos B];rw[B]at z K;cases a;rotate_left;cases b;rotate_left;by_cases R:y=ot;rw[d0f (fun h=>h R)];subst R;rotate_left;rw[d0t R]
 have t:¬y.toList=ot.toList:=fun e=>R (by
  rw[ByteArray.toList_eq,ByteArray.toList_eq]at e;cases y;cases ot
  simp_all)
 have P:(y.toList==ot.toList)=false:=b0f t;rotate_left;rw[if_neg B];have I:(q.scr==2)=false:=b0f B;by_cases R:y.size=0;rw[d0t R];obtain rfl:=z7g R;by_cases Z:ot.size=0;rw[d0t Z];obtain rfl:=z7g Z;rotate_left;rw[d0f Z];have t:=l_ne Z;have E:=z7f Z;rotate_left;rw[d0f R];have t:=l_ne R;have E:=z7f R
 all_goals
  go_enter func334,ntmps334;go_wp2_with fail;refine c0m K fun Q F=>?_;have A:=x0l (j:=5) F rfl;have M:=x0l (j:=6) F rfl;have Y:=bthen f F
  try
   go_wp2_with fail;refine c1m (V KN _) fun S H=>?_;have A:=(H.cell (x0a A)).trans A;have M:=(H.cell (x0a M)).trans M;have Y:=bthen Y H
  try
   go_wp2_with fail;refine c1m (V d _) fun T L=>?_;have A:=(L.cell (x0a A)).trans A;have M:=(L.cell (x0a M)).trans M;have Y:=bthen Y L
  go_wp2;go_ret;exact⟨rfl,Y⟩
def tarB(k:Int)(r:Rec):Bool:=decide ((Cn.rowK k).least<=(r.to.length:Int)/\(r.to.length:Int)<=(Cn.rowK k).most)&&r.to.all Cn.scalar
theorem y1P k r vt w(C:Glob w)(G:I64 k)(L:Sk .i32 w vt r.to):Calls prog 339 #[shV k,recV r vt] w (x0g w (tarB k r)):=by
 have f:=x2F w (.cells #[.int .i64 k] 270) (.cells #[.int .i64 r.kind,.int .i64 r.lo,.int .i64 r.hi,.int .i64 r.n,vt,.string r.name,.string r.other,.float .f64 r.wt] 60);have K:=O (x7s k ((w.alloc (.cells #[.int .i64 k] 270)).alloc (.cells #[.int .i64 r.kind,.int .i64 r.lo,.int .i64 r.hi,.int .i64 r.n,vt,.string r.name,.string r.other,.float .f64 r.wt] 60)) (C.on f) G);unfold tarB shV recV rowV at *;generalize Cn.rowK k=q at *;have p:Hid (∀W,Bw w W->Calls prog 152 #[vt] W fun e a=>e=.returned (.bool (r.to.all Cn.scalar))/\a=W):=fun W h=>z1f vt r.to W (L.below h);obtain⟨B,M,rfl,_,_⟩:=L.shape;generalize r.n=n,r.lo=lo at *;generalize r.hi=hi,r.name=y at *;generalize r.other=ot,r.wt=wt,r.to.all Cn.scalar=b,r.to.length=m at *;by_cases Z:q.least<=(m:Int)
 ·have u:=d0t Z;by_cases D:(m:Int)<=q.most
  ·have g:=d0t D;rw[d0t ⟨Z,D⟩,Bool.true_and];go_enter func339,ntmps339;go_wp2_with fail;refine c0m K fun Q F=>?_;have S:=x0l (j:=4) F rfl;have Y:=bthen f F;have A:=x1Z S;go_wp2_with fail;refine c1m (V p _ (Y.alloc Y.size _)) fun t s=>?_;subst t;go_wp2;go_ret;exact⟨rfl,Y.alloc Y.size _⟩
  ·have g:=d0f D;rw[d0f (fun h=>D h.2),Bool.false_and];exact v2d
 ·have u:=d0f Z;rw[d0f (fun h=>Z h.1),Bool.false_and];exact v2d
theorem x2P c w(I:I64 c):Calls prog 350 #[.int .i64 c] w fun e w'=>e=.returned (.bool (Cn.scalar c))/\w'=w:=by
 have K:=O (x2o c w I);by_cases s:0<=c/\c<=1114111
 ·have e:isPt c=true:=d0t s;rw[e]at K;have m:IntKind.i32.wrap c=c:=IntWalk.i32_in _ ⟨f6J,f6J⟩;have j:=O (y1T c w ⟨f6J,f6J⟩);go_enter func350,ntmps350;go_wp2_with fail;refine c0m K fun Q T=>?_;subst Q;go_wp2_with fail;refine c0m j fun Q T=>?_;subst Q;go_wp2;go_ret;exact⟨rfl,rfl⟩
 ·have e:isPt c=false:=d0f s;rw[e]at K;have E:Cn.scalar c=false:=d0f f6J;rw[E];go_enter func350,ntmps350;exact f1i
theorem x5O k r vt w(z:RecFit r):Calls prog 355 #[shV k,recV r vt] w (x0g w (decide (r.lo=0/\r.hi=0))):=by
 have Y:=x2F w (.cells #[.int .i64 k] 322) (.cells #[.int .i64 r.kind,.int .i64 r.lo,.int .i64 r.hi,.int .i64 r.n,vt,.string r.name,.string r.other,.float .f64 r.wt] 60);have N:=z.lo;have J:=z.hi;unfold shV recV at *;generalize r.lo=lo,r.hi=hi at *;by_cases Z:lo=0
 ·by_cases D:hi=0
  ·rw[d0t ⟨Z,D⟩];subst Z D;exact E3G
  ·rw[d0f (fun h=>D h.2)];subst Z;have g:(hi==0)=false:=b0f D;exact E3G
 ·rw[d0f (fun h=>Z h.1)];have u:(lo==0)=false:=b0f Z;exact E3G
theorem x5P k r vt w(z:RecFit r):Calls prog 352 #[shV k,recV r vt] w (x0g w (decide (r.lo=r.hi)&&Cn.scalar r.lo)):=by
 have Y:=x2F w (.cells #[.int .i64 k] 321) (.cells #[.int .i64 r.kind,.int .i64 r.lo,.int .i64 r.hi,.int .i64 r.n,vt,.string r.name,.string r.other,.float .f64 r.wt] 60);have N:=z.lo;have J:=z.hi;have K:=O (fun w=>x2P r.lo w z.lo);unfold shV recV at *;generalize r.lo=lo,r.hi=hi at *;by_cases Z:lo=hi
 ·rw[d0t Z,Bool.true_and];subst Z;have u:(lo==lo)=true:=beq_self_eq_true _;go_enter func352,ntmps352;go_wp2_with fail;refine c1m (V K _) fun t s=>?_;subst t;go_wp2;go_ret;exact⟨rfl,Y⟩
 ·rw[d0f Z,Bool.false_and];have u:(lo==hi)=false:=b0f Z;go_enter func352,ntmps352;exact T1E
def x3N(r:Rec):Bool:=decide (0<=r.lo/\r.lo<=1114111/\0<=r.hi/\r.hi<=1114111/\r.lo<=r.hi)
theorem x2e k r vt w(z:RecFit r):Calls prog 347 #[shV k,recV r vt] w (x0g w (x3N r)):=by
 have Y:=x2F w (.cells #[.int .i64 k] 318) (.cells #[.int .i64 r.kind,.int .i64 r.lo,.int .i64 r.hi,.int .i64 r.n,vt,.string r.name,.string r.other,.float .f64 r.wt] 60);have N:=z.lo;have B:=z.hi;have i:=O (fun w=>x2o r.lo w z.lo);have j:=O (fun w=>x2o r.hi w z.hi);unfold x3N shV recV at *;generalize r.lo=lo,r.hi=hi at *;by_cases Z:0<=lo/\lo<=1114111
 ·have P:isPt lo=true:=d0t Z;rw[P]at i;by_cases D:0<=hi/\hi<=1114111
  ·have E:isPt hi=true:=d0t D;rw[E]at j;by_cases J:lo<=hi
   ·rw[d0t ⟨Z.1,Z.2,D.1,D.2,J⟩];have l:=d0t J;exact I6o
   ·rw[d0f (fun h=>J h.2.2.2.2)];have l:=d0f J;exact I6o
  ·have E:isPt hi=false:=d0f D;rw[E]at j;rw[d0f (fun h=>D ⟨h.2.2.1,h.2.2.2.1⟩)];exact I6o
 ·have P:isPt lo=false:=d0f Z;rw[P]at i;rw[d0f (fun h=>Z ⟨h.1,h.2.1⟩)];go_enter func347,ntmps347;go_wp2_with fail;refine c1m (V i _) fun t s=>?_;subst t;go_wp2;go_ret;exact⟨rfl,Y⟩
def x4v(r:Rec):Bool:=x3N r&&(decide (r.to.length=1)&&(Cn.scalar (r.to.getD 0 0)&&(Cn.scalar (r.to.getD 0 0+r.hi-r.lo)&&(decide (r.to.getD 0 0<55296)==decide (r.to.getD 0 0+r.hi-r.lo<55296)))))
theorem x4V k r vt w(z:RecFit r)(L:Sk .i32 w vt r.to):Calls prog 348 #[shV k,recV r vt] w (x0g w (x4v r)):=by
 have f:=x2F w (.cells #[.int .i64 k] 320) (.cells #[.int .i64 r.kind,.int .i64 r.lo,.int .i64 r.hi,.int .i64 r.n,vt,.string r.name,.string r.other,.float .f64 r.wt] 60);have i:=O (x2e k r vt ((w.alloc (.cells #[.int .i64 k] 320)).alloc (.cells #[.int .i64 r.kind,.int .i64 r.lo,.int .i64 r.hi,.int .i64 r.n,vt,.string r.name,.string r.other,.float .f64 r.wt] 60)) z);have d:=z.len;unfold x4v
 cases hsp:x3N r with
 | false =>
  rw[hsp]at i;rw[Bool.false_and];unfold shV recV at *;go_enter func348,ntmps348;go_wp2_with fail;refine c0m i fun Q F=>?_;have Y:=bthen f F;go_wp2;go_ret;exact⟨rfl,Y⟩
 | true =>
  rw[hsp]at i;rw[Bool.true_and];by_cases Z:r.to.length=1
  ·rw[d0t Z,Bool.true_and];obtain⟨b,P,M,rfl,l,H,I⟩:=L.place f6J;have A:=I 0 f6J;have U:=L.1.i32at 0;obtain⟨K,J,G,g,R⟩:0<=r.lo/\r.lo<=1114111/\0<=r.hi/\r.hi<=1114111/\r.lo<=r.hi:=o0d hsp;rw[Z]at i l f;have D:=x0a A;have q:=O (fun w=>x2P (r.to.getD 0 0) w ⟨f6J,f6J⟩);have C:=O (fun w=>x2P (r.to.getD 0 0+r.hi-r.lo) w ⟨f6J,f6J⟩);rw[Z];unfold shV recV at *;generalize r.n=n,r.lo=lo at *;generalize r.hi=hi,r.name=y at *;generalize r.other=ot,r.wt=wt,r.to.getD 0 0=x at *;have X:IntKind.i64.wrap (x+hi)=x+hi:=IntWalk.i64_in _ ⟨f6J,f6J⟩;have c:IntKind.i64.wrap (x+hi-lo)=x+hi-lo:=IntWalk.i64_in _ ⟨f6J,f6J⟩;have N:IntKind.i64.wrap x=x:=IntWalk.i64_in _ ⟨f6J,f6J⟩
   cases ha:Cn.scalar x with
   | false =>
    rw[ha]at q;rw[Bool.false_and];go_enter func348,ntmps348;go_wp2_with fail;refine c0m i fun Q F=>?_;have E:=x0l (j:=1) F rfl;have a:=x0l (j:=2) F rfl;have S:=x0l (j:=4) F rfl;have Y:=bthen f F;have hy:Q.cell? ⟨b,P,none⟩=some (.int .i32 x):=(Y.cell (by exact D)).trans A;go_wp2_with fail;refine c1m (V q _) fun t s=>?_;subst t;go_wp2;go_ret;exact⟨rfl,Y⟩
   | true =>
    rw[ha]at q;rw[Bool.true_and]
    cases hz:Cn.scalar (x+hi-lo)with
    | false =>
     rw[hz]at C;rw[Bool.false_and];exact n7F
    | true =>
     rw[hz]at C;rw[Bool.true_and];exact n7F
  ·rw[d0f Z,Bool.false_and];have u:((r.to.length:Int) != 1)=true:=P8P;obtain⟨B,M,rfl,_,_⟩:=L.shape;unfold shV recV at *;generalize r.kind=kd,r.n=n,r.lo=lo,r.hi=hi at *;generalize r.name=y,r.other=ot,r.wt=wt,r.to.length=m at *;go_enter func348,ntmps348;go_wp2_with fail;refine c0m i fun Q F=>?_;have S:=x0l (j:=4) F rfl;have Y:=bthen f F;go_wp2;go_ret;exact⟨rfl,Y⟩
def x2D(w:World)(b:Bool)(e:Ending)(w':World):Prop:=e=.returned (.bool b)/\w'=w
theorem x2D.mk{w b c}(h:c=b):x2D w b (.returned (.bool c)) w:=t5o
theorem y3f s w:Calls prog 123 #[.string s] w (x2D w (Scn.name (nums s))):=by
 have v:=nums_length s;have l:=fun i k hi G w=>x2A s i k hi G w;have g:=fun k=>(y4y s).at k;have C:Hid (¬s.size=4->x2D w (Scn.name (nums s)) (.returned (.bool false)) w):=fun h=>x2D.mk (by unfold Scn.name;rw[d0f];exact f6J);have m:Hid (¬(65<=(nums s).getD 0 0/\(nums s).getD 0 0<=90)->x2D w (Scn.name (nums s)) (.returned (.bool false)) w):=fun h=>x2D.mk (by unfold Scn.name;rw[d0f];exact fun x=>h ⟨x.2.1,x.2.2.1⟩)
 have T:Hid (∀k,1<=k->k<4->¬(97<=(nums s).getD k 0/\(nums s).getD k 0<=122)->x2D w (Scn.name (nums s)) (.returned (.bool false)) w):=fun k Z D h=>x2D.mk (by
  unfold Scn.name;rw[d0f];intro x;obtain⟨_,_,_,S,p,K⟩:=x;have:k=1\/k=2\/k=3:=f6J;rcases this with e | e | e<;>subst e
  ·exact h S
  ·exact h p
  ·exact h K)
 have n:Hid (s.size=4->65<=(nums s).getD 0 0->(nums s).getD 0 0<=90->(∀k,1<=k->k<4->97<=(nums s).getD k 0/\(nums s).getD k 0<=122)->x2D w (Scn.name (nums s)) (.returned (.bool true)) w):=fun Z D J H=>x2D.mk (by
  unfold Scn.name;rw[d0t]
  exact⟨f6J,D,J,H 1 f6J f6J,H 2 f6J f6J,H 3 f6J f6J⟩)
 by_cases d:s.size=4
 ·have R:=l 0 0 rfl f6J;obtain⟨y,q⟩:=g 0;have Y:=O l;have r:=O g;have A:=O (V n d);have t:((s.size:Int) != 4)=false:=(by simp[d]);clear l g C n;generalize(nums s).getD 0 0=X at *;by_cases P:X<65
  ·exact t6k
  ·by_cases f:90<X
   ·exact t6k
   ·have F:=O (V A f6J f6J);clear m A;go_enter func123,ntmps123;go_wp2;go_loop [3] (fun i=>∃k:Nat,i=.int .i64 k/\1<=k/\k<=4/\∀j,1<=j->j<k->97<=(nums s).getD j 0/\(nums s).getD j 0<=122) (fun i=>4-(intOf i).toNat)
    case atStart=>exact⟨1,rfl,f6J,f6J,fun j Z D=>f6J⟩
    case round =>
     clear R y q;obtain⟨k,rfl,M,o,Q⟩:=hrel;by_cases E:k<4
     ·have G:=V Y (k:Int) k rfl f6J;obtain⟨b1,u⟩:=V r k
      have I:Hid (97<=(nums s).getD k 0->(nums s).getD k 0<=122->∀j,1<=j->j<k+1->97<=(nums s).getD j 0/\(nums s).getD j 0<=122):=fun Z D j N a=>by
       by_cases e:j=k
       ·subst e;exact⟨Z,D⟩
       ·exact Q j N f6J
      have B:=O (V T k M E);clear Q;generalize(nums s).getD k 0=c at *;by_cases z:c<97
      ·have U:=V B f6J;clear B I T F;exact m2J
      ·by_cases b4:122<c
       ·have U:=V B f6J;clear B I T F;exact m2J
       ·have L:=O (V I f6J f6J);clear B I T F;go_wp2;go_round
        case rel=>exact⟨k+1,g2A,f6J,f6J,V L⟩
        case measure=>exact g7W
     ·obtain rfl:k=4:=f6J;have U:=V F Q;clear T F Q;exact m2J
 ·have U:=V C d;have t:((s.size:Int) != 4)=true:=P8P;clear C m T n l g;go_enter func123,ntmps123;exact m2J
theorem z7u s:Cn.nameL s=Scn.name (nums s):=by
 unfold Cn.nameL Scn.name nums Scn.small;generalize s.data.toList=l
 match l with
 | []=>rfl
 | [_]=>rfl
 | [_,_]=>rfl
 | [_,_,_]=>rfl
 | [a,b,c,d] =>
  simp only[List.map_cons,List.map_nil,List.length_cons,List.length_nil,List.getD_cons_zero,List.getD_cons_succ];rw[decide_eq_decide];constructor
  ·intro h;exact⟨trivial,(f6J:65<=(a.toNat:Int)),(f6J:(a.toNat:Int)<=90),⟨(f6J:97<=(b.toNat:Int)),(f6J:(b.toNat:Int)<=122)⟩,⟨(f6J:97<=(c.toNat:Int)),(f6J:(c.toNat:Int)<=122)⟩,(f6J:97<=(d.toNat:Int)),(f6J:(d.toNat:Int)<=122)⟩
  ·rintro⟨_,Z,D,⟨J,H⟩,⟨K,y⟩,x,n⟩;have i:65<=(a.toNat:Int):=Z;have A:(a.toNat:Int)<=90:=D;have M:97<=(b.toNat:Int):=J;have j:(b.toNat:Int)<=122:=H;have B:97<=(c.toNat:Int):=K;have L:(c.toNat:Int)<=122:=y;have Y:97<=(d.toNat:Int):=x;have E:(d.toNat:Int)<=122:=n;omega
 | _::_::_::_::_::_ =>
  simp only[List.map_cons,List.length_cons];symm;rw[decide_eq_false_iff_not];omega
theorem x5D s w:Calls prog 123 #[.string s] w fun e w'=>e=.returned (.bool (Cn.nameL s))/\w'=w:=by
 rw[z7u];exact y3f s w
def theLaid:List (String×DataW Unit):=Rows.idnaBackRow.laid
def rowD(r:Row9):DataW Unit:=.agg [.lit (.string r.word.data.toList),.lit (.int .i64 r.fam),.lit (.int .i64 r.least),.lit (.int .i64 r.most),.lit (.int .i64 r.low),.lit (.int .i64 r.high),.lit (.string r.said.data.toList),.lit (.int .i64 r.scr),.lit (.bool r.wei)]
theorem y9D:(Rows.laid_endonym_table_rows:DataW Unit)=.agg ((List.range 16).map fun k=>rowD (Cn.rowT k)):=f4x
theorem z9K : Tryz.prog.globalNamed "endonym/table.rows" = some 2 := f4x
theorem y8W:(prog.globals[2]?).map (·.type)=some 355:=f4x
theorem z8Q{a b:ByteArray}(h:a.data.toList=b.data.toList):a=b:=by
 cases a;cases b;simp_all
def rowL(r:Row9):List Value:=[.string r.word,.int .i64 r.fam,.int .i64 r.least,.int .i64 r.most,.int .i64 r.low,.int .i64 r.high,.string r.said,.int .i64 r.scr,.bool r.wei]
section
variable {enc:TypeId×Value->Unit} {W:World} {base:Nat} {sp:Nat->Bool} {held:Bool}
theorem z0Q{B:Nat}{cs:List Value}{r:Row9}{p:List MemPlace}(h:DataW.trod enc prog W base sp held B 324 cs=some (rowD r,p)):cs=rowL r:=by
 obtain⟨X,k,G,J,F,ab,z⟩:=DataW.trod_struct underlying324 h;have n:prog.cellsOf 324=9:=f4x;have y:prog.cellsOf 3=1:=f4x;have K:prog.cellsOf 9=1:=f4x;have S:prog.cellsOf 4=1:=f4x;rw[n]at F
 match X,ab,cs,F with
 | [y0,y1,y2,y3,y4,y5,y6,y7,y8],_,[v0,v1,v2,v3,v4,v5,v6,v7,v8],_ =>
  have hd:[y0.1,y1.1,y2.1,y3.1,y4.1,y5.1,y6.1,y7.1,y8.1]=[.lit (.string r.word.data.toList),.lit (.int .i64 r.fam),.lit (.int .i64 r.least),.lit (.int .i64 r.most),.lit (.int .i64 r.low),.lit (.int .i64 r.high),.lit (.string r.said.data.toList),.lit (.int .i64 r.scr),.lit (.bool r.wei)]:=by
   have:=congrArg Prod.fst J;simpa[rowD]using this.symm
  simp only[List.cons.injEq,and_true]at hd;obtain⟨Z,u,g,l,v,R,t,H,x⟩:=hd;have m:=z 0 _ rfl;have i:=z 1 _ rfl;have A:=z 2 _ rfl;have M:=z 3 _ rfl;have j:=z 4 _ rfl;have g5:=z 5 _ rfl;have L:=z 6 _ rfl;have Y:=z 7 _ rfl;have g8:=z 8 _ rfl;simp[y,K,S]at m i A M j g5 L Y g8;obtain⟨s0,e0,q,_⟩:=DataW.trod_string underlying9 m;obtain⟨n1,P,q1,_⟩:=DataW.trod_int underlying3 i;obtain⟨a,E,s,_⟩:=DataW.trod_int underlying3 A;obtain⟨D,N,q3,_⟩:=DataW.trod_int underlying3 M;obtain⟨n4,I,f,_⟩:=DataW.trod_int underlying3 j;obtain⟨n5,U,q5,_⟩:=DataW.trod_int underlying3 g5;obtain⟨o,C,T,_⟩:=DataW.trod_string underlying9 L;obtain⟨n7,e7,c,_⟩:=DataW.trod_int underlying3 Y;obtain⟨d,b,Q⟩:=DataW.trod_bool underlying4 g8;rw[q]at Z;rw[q1]at u;rw[s]at g;rw[q3]at l;rw[f]at v;rw[q5]at R;rw[T]at t;rw[c]at H;rw[Q]at x;simp only[DataW.lit.injEq,Lit.string.injEq,Lit.int.injEq,Lit.bool.injEq,true_and]at Z u g l v R t H x;simp only[List.cons.injEq,and_true]at e0 P E N I U C e7 b;rw[e0,P,E,N,I,U,C,e7,b,z8Q Z,u,g,l,v,R,z8Q t,H,x];rfl
end
theorem y1t:(theLaid.all fun x=>x.2.handleName?.isNone)=true:=f4x
theorem z2z:prog.cellsOf 324=9:=f4x
theorem glob_of{W:World}(h:laidMetH prog theLaid W):Glob W:=by
 rw[MakeChecks.laidMetH_plain _ _ _ y1t]at h;obtain⟨L,⟨S,Q,M,B,p,q,U,P,E,hd,_,_⟩,_⟩:=h;obtain rfl:=Option.some.inj (z9K.symm.trans U);obtain rfl:=Option.some.inj (y8W.symm.trans P);obtain⟨X,m,_,A,F,z,T⟩:=DataW.trod_array underlying355 hd
 have C:X.map (·.1)=(List.range 16).map fun k=>rowD (Cn.rowT k):=by
  have Z:=congrArg Prod.fst A;have D:(Rows.laid_endonym_table_rows:DataW Unit)=.agg (X.map (·.1)):=Z;rw[y9D]at D;simpa using D.symm
 intro k G
 have f:∃pk,X[k]?=some (rowD (Cn.rowT k),pk):=by
  have Z:(X.map (·.1))[k]?=some (rowD (Cn.rowT k)):=by
   rw[C];simp[G]
  rw[List.getElem?_map,Option.map_eq_some_iff]at Z;obtain⟨⟨a,b⟩,D,J⟩:=Z;exact⟨b,by rw[D];simp at J;rw[J]⟩
 obtain⟨pk,f⟩:=f;have J:=T k G;rw[f,z2z]at J;have H:=z0Q J
 have K:∀j v,(rowL (Cn.rowT k))[j]?=some v->W.cell? ⟨2,k*9+j,none⟩=some v:=fun j v N=>by
  have I:=World.var?_cell z9K E (k*9+j);rw[<- H]at N
  have R:j<9:=by
   rcases Nat.lt_or_ge j 9 with hh | hh
   ·exact hh
   ·rw[List.getElem?_eq_none U3s]at N;cases N
  rw[List.getElem?_take_of_lt R,List.getElem?_drop]at N;rw[I];simpa using N
 exact⟨K 0 _ rfl,K 1 _ rfl,K 2 _ rfl,K 3 _ rfl,K 4 _ rfl,K 5 _ rfl,K 6 _ rfl,K 7 _ rfl,K 8 _ rfl⟩
theorem own:ownKnob prog.godebug=none:=f4x
theorem laidOut:laidOutB prog=true:=f4x
theorem start_met(u:Os)(args:Array Value):laidMetH prog theLaid ((World.laidAll prog u theLaid).forCall (fun _ _=>0) ⟨#[],args,[]⟩).memory:=by
 rw[MakeChecks.laidMetH_plain _ _ _ y1t];exact laidMet_laidAll _ f4x f4x
theorem y3q(u:Os)(args:Array Value):((World.laidAll prog u theLaid).forCall (fun _ _=>0) ⟨#[],args,[]⟩).Shaped prog:=World.shaped_of_ZipB f4x f4x
theorem start_at{H:Type}{enc:TypeId×Value->H}{u:Os}{f:FuncId}{fn:Func}{s:OpenSpec}{conds:List PathCond}(args:Array Value)
  (o:Input.okWideB Tryz.checked.prog ((World.laidAll prog u theLaid).forCall (fun _ _=>0) ⟨#[],args,[]⟩) f ⟨#[],args,[]⟩=true)
  (J:s.preRow enc Tryz.checked.prog fn conds false theLaid ((World.laidAll prog u theLaid).forCall (fun _ _=>0) ⟨#[],args,[]⟩).memory args) :
  ∃(w:World) (A:Tape) (i:Input),w.os=u/\(w.forCall A i).Shaped Tryz.checked.prog/\i.vars=[]/\Input.okWide Tryz.checked.prog (w.forCall A i) .any w.heap.size f i /\
   s.preRow enc Tryz.checked.prog fn conds false theLaid (w.forCall A i).memory i.args/\({}:Assume).holds Tryz.checked.prog (lone (Frame.enter Tryz.checked.prog f i.args .normal) [] (w.forCall A i)) :=
 ⟨World.laidAll prog u theLaid,fun _ _=>0,⟨#[],args,[]⟩,World.laidAll_os _ _ _,y3q u args,(Input.okWide_of_okWideB (base:=0) o).1,(Input.okWide_of_okWideB o).2,J,by
  simp only[Assume.holds]
  exact⟨M7K,M7K,fun _=>Modest.zero,M7K,M7K⟩⟩
