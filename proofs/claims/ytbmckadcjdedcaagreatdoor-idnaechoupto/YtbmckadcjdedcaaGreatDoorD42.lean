/- YPu11 YPuA11 YPuB11 YPuM11 YPuC11 -/
import Derived.Test.YtbmckadcjdedcaaGreatDoorD41
import Derived.Laws.IdiomCopy
import Derived.Laws.NewBlocks
import Derived.Deep.RegionHeld3
set_option maxHeartbeats 4000000
namespace Go.Proofs.YtbmckadcjdedcaaGreatDoor
open Go.Proofs.Tryz
section
variable{p:Prop}
theorem g5g(h:p:=by rw[u];clear u;go_enter func201,ntmps201;go_wp2;go_ret;exact x0C.mk rfl):p:=h
theorem n8A(h:p:=by rw[h,x0Q G];generalize zs.getD k 0=z at *;simp[Pu.basicB,o]):p:=h
theorem i8U(h:p:=by have g:=O u;clear u;go_enter func200,ntmps200;go_wp2;go_ret2;exact x2q.yes (V g) f6J):p:=h
theorem p2V(h:p:=by unfold Pu.thr;rw[if_neg D,if_neg Z]):p:=h
theorem U6t(h:p:=by first| rfl | go_num):p:=h
theorem p4I(h:p:=by unfold Pu.thr;rw[if_neg D,if_pos Z]):p:=h
theorem p8u(h:p:=by unfold Pu.thr;rw[if_pos D]):p:=h
end
namespace Pu
def thr(k bias:Int):Int:=if 36*k-bias<1 then 1 else if 26<36*k-bias then 26 else 36*k-bias
theorem x1Q(k bias:Int):1<=thr k bias/\thr k bias<=26:=by unfold thr;split<;>(try split)<;>omega
def adE(d k:Int):Int:=k+36*d / (d+38)
def adA:Nat->Int->Int->Int
 | 0,d,k=>adE d k
 | f+1,d,k=>if 455<d then adA f (d / 35) (k+36)else adE d k
def ad0(delta points:Int)(first:Bool):Int :=
 let d:=(if delta<0 then 0 else delta) / (if first then 700 else 2)
 d+d / (if points<1 then 1 else points)
def adapt(delta points:Int)(first:Bool):Int:=adA 12 (ad0 delta points first) 0
theorem z3Q(f:Nat)(d k:Int)(h:455<d):adA (f+1) d k=adA f (d / 35) (k+36):=by rw[adA,if_pos h]
theorem z3R(f:Nat)(d k:Int)(h:¬455<d):adA f d k=adE d k:=by cases f with
 | zero=>rfl
 | succ f=>rw[adA,if_neg h]
theorem x4z{d k:Int}(T:0<=d)(D:d<=455)(G:0<=k):0<=adE d k/\adE d k<=k+36:=by
 unfold adE;have N:0<=36*d / (d+38):=Int.ediv_nonneg f6J f6J;have f:36*d / (d+38)<37:=Int.ediv_lt_of_lt_mul f6J f6J;omega
def x7C:Nat->Int
 | 0=>455
 | f+1=>35*x7C f+34
theorem y4a(f:Nat)(d k:Int)(T:0<=d)(D:d<=x7C f)(G:0<=k):0<=adA f d k/\adA f d k<=k+36*(f+1):=by
 induction f generalizing d k with
 | zero=>rw[adA];have:=x4z T (by simpa[x7C]using D) G;omega
 | succ f ih =>
  rw[adA];split
  ·have:=ih (d / 35) (k+36) f6J (by simp only[x7C]at D;exact f6J) f6J;omega
  ·have:=x4z T f6J G;omega
theorem y3H:(9223372036854775807:Int)<=x7C 12:=e8M
theorem x7H{delta points:Int}{first:Bool}(h:delta<=9223372036854775807):0<=ad0 delta points first/\ad0 delta points first<=9223372036854775806:=by
 unfold ad0;have hd:0<=(if delta<0 then 0 else delta) / (if first then 700 else 2)/\(if delta<0 then 0 else delta) / (if first then 700 else 2)<=4611686018427387903:=(by grind);generalize(if delta<0 then 0 else delta) / (if first then 700 else 2)=d at *;have A:1<=(if points<1 then 1 else points):=f6J;generalize(if points<1 then 1 else points)=p at *;have N:0<=d / p:=Int.ediv_nonneg hd.1 f6J;have f:d / p<=d:=Int.ediv_le_self _ hd.1;simp only;omega
theorem x2Q(delta points:Int)(first:Bool)(h:delta<=9223372036854775807):0<=adapt delta points first/\adapt delta points first<=468:=by
 have T:=x7H (points:=points) (first:=first) h;have:=y4a 12 (ad0 delta points first) 0 T.1 (by have:=y3H;exact f6J) f6J;unfold adapt;omega
def dig(b:Int):Int:=if 97<=b/\b<=122 then b-97 else if 65<=b/\b<=90 then b-65 else if 48<=b/\b<=57 then b-48+26 else -1
theorem y7i(b:Int):-1<=dig b/\dig b<=35:=by unfold dig;split<;>(try split)<;>(try split)<;>omega
def rdN(bias:Int):List Int->Int->Int->Int->Int×Int×List Int
 | [],_,_,_=>(112,0,[])
 | z::r,k,v,w=>if dig z<0 then(110,0,[])else if dig z<thr k bias then(0,v+dig z*w,r)else
   rdN bias r (k+1) (v+dig z*w) (if 2147483648<w*(36-thr k bias)then 2147483648 else w*(36-thr k bias))
structure St where
 xs:List Int
 n:Int
 i:Int
 bias:Int
 first:Bool
def begin(xs:List Int):St:=⟨xs,128,0,72,true⟩
def ins(xs:List Int)(p:Nat)(c:Int):List Int:=xs.take p++c::xs.drop p
def stepN(s:St)(d:Int):Int:=s.n+(s.i+d) / (s.xs.length+1)
def stepP(s:St)(d:Int):Int:=(s.i+d)%(s.xs.length+1)
def step(s:St)(d:Int):St:=⟨ins s.xs (stepP s d).toNat (stepN s d),stepN s d,stepP s d+1,adapt d (s.xs.length+1) s.first,false⟩
def x4S:Nat->List Int->St->List Int×Int
 | 0,_,s=>(s.xs,0)
 | f+1,zs,s=>if zs=[]then(s.xs,0)else
   if(rdN s.bias zs 1 0 1).1≠0 then([],(rdN s.bias zs 1 0 1).1)else
   if 2147483647<(rdN s.bias zs 1 0 1).2.1 then([],113)else
   if ¬Utf.okc (stepN s (rdN s.bias zs 1 0 1).2.1)then([],31)else
   x4S f (rdN s.bias zs 1 0 1).2.2 (step s (rdN s.bias zs 1 0 1).2.1)
def x4K(zs:List Int)(k:Nat)(a:Nat):Nat:=match zs with
 | []=>a
 | z::r=>x4K r (k+1) (if z=45 then k else a)
def tail(zs:List Int):List Int:=if x4K zs 0 0=0 then zs else zs.drop (x4K zs 0 0+1)
def basicB(zs:List Int):Bool:=zs.all fun z=>decide (z<128)
def decode(zs:List Int):List Int×Int :=
 if 65536<zs.length then([],2)else if basicB zs=false then([],111)else x4S zs.length (tail zs) (begin (zs.take (x4K zs 0 0)))
end Pu
open Go.RowKit
def x0C(w:World)(z:Int)(e:Ending)(w':World):Prop:=e=.returned (.int .i64 z)/\w'=w
theorem x0C.mk{w:World}{z u:Int}(h:u=z):x0C w z (.returned (.int .i64 u)) w:=t5o
theorem x5Y{a b:Int}(h:0<=a):a.tdiv b=a / b:=Int.tdiv_eq_ediv_of_nonneg h
theorem wrap64_in{x:Int}(T:-9223372036854775808<=x)(D:x<=9223372036854775807):wrap64 x=x:=by unfold wrap64;exact f6J
theorem y6q(delta points:Int)(first:Bool)(w:World)(hd:-9223372036854775808<=delta/\delta<=9223372036854775807)(A:-9223372036854775808<=points/\points<=9223372036854775807) :
  Calls prog 251 #[.int .i64 delta,.int .i64 points,.bool first] w (x0C w (Pu.adapt delta points first)):=by
 have B:=O (Pu.x7H (delta:=delta) (points:=points) (first:=first) hd.2);have L:Hid (Pu.adapt delta points first=Pu.adA 12 (Pu.ad0 delta points first) 0):=rfl;generalize Pu.adapt delta points first=r at *;cases first<;>by_cases q:delta<0<;>by_cases E:points<1
 all_goals
  go_enter func251,ntmps251;go_wp2;go_loop [0,7] (fun d k=>∃(f:Nat) (x y:Int),d=.int .i64 x/\k=.int .i64 y/\0<=x/\x<=9223372036854775806/\0<=y/\y+36*f<=432/\r=Pu.adA f x y/\x<=Pu.x7C f) (fun d _=>(intOf d).toNat)
  case atStart =>
   refine⟨12,Pu.ad0 delta points _,0,?_,rfl,(V B).1,(V B).2,f6J,f6J,V L,by have:=Pu.y3H;have:=(V B).2;exact f6J⟩;have l:=V B;unfold Pu.ad0 at l ⊢;simp only[reduceIte,Bool.false_eq_true]at l ⊢
   first| rw[if_pos q]at l ⊢| rw[if_neg (Int.not_lt.2 q)]at l ⊢
   first| rw[if_pos E]at l ⊢| rw[if_neg (Int.not_lt.2 E)]at l ⊢
   first
    | rfl
    | (rw[Int.ediv_one])
    | (rw[wrap64_in f6J f6J])
    | simp
  case round =>
   obtain⟨f,x,y,rfl,rfl,D,Z,R,H,p,F⟩:=hrel;by_cases J:455<x
   ·have z:f≠0:=(by intro h;subst h;simp[Pu.x7C]at F;exact f6J);obtain⟨g,rfl⟩:∃g,f=g+1:=⟨f-1,f6J⟩;have I:=O (p.trans (Pu.z3Q g x y J));have T:Hid (x / 35<=Pu.x7C g):=(by show x / 35<=Pu.x7C g;simp only[Pu.x7C]at F;exact f6J);clear p F L;have K:x.tdiv 35=x / 35:=x5Y D;go_wp2;go_round
    case rel=>exact⟨g,x / 35,y+36,by first| rfl | rw[K]|(rw[x5Y D]),U6t,f6J,f6J,f6J,f6J,V I,V T⟩
    case measure=>exact g7T
   ·have I:=O (p.trans (Pu.z3R f x y J));clear p F L;have K:(36*x).tdiv (x+38)=36*x / (x+38):=x5Y f6J;have C:=Pu.x4z (k:=y) D f6J R;unfold Pu.adE at C;go_wp2;go_ret;refine x0C.mk ?_;rw[V I];unfold Pu.adE
    first
     | rfl
     | (rw[x5Y f6J,wrap64_in f6J f6J])
     | (rw[wrap64_in f6J f6J])
theorem x2G(k bias:Int)(w:World)(G:0<=k/\k<=1000000)(C:-1000000<=bias/\bias<=1000000) :
  Calls prog 201 #[.int .i64 k,.int .i64 bias] w (x0C w (Pu.thr k bias)):=by
 by_cases D:36*k-bias<1
 ·have u:Pu.thr k bias=1:=p8u;exact g5g
 ·by_cases Z:26<36*k-bias
  ·have u:Pu.thr k bias=26:=p4I;exact g5g
  ·have u:Pu.thr k bias=36*k-bias:=p2V;exact g5g
theorem dig_cases(b:Int):((97<=b/\b<=122)/\Pu.dig b=b-97)\/((65<=b/\b<=90)/\Pu.dig b=b-65)\/((48<=b/\b<=57)/\Pu.dig b=b-48+26)\/((¬(97<=b/\b<=122)/\¬(65<=b/\b<=90)/\¬(48<=b/\b<=57))/\Pu.dig b=-1):=by
 unfold Pu.dig;by_cases D:97<=b/\b<=122
 ·omega
 ·omega
def x2q(w:World)(d:Int)(e:Ending)(w':World):Prop:=((d<0/\e=.returned (.tuple #[.int .i64 0,.bool false]))\/(0<=d/\e=.returned (.tuple #[.int .i64 d,.bool true])))/\w'=w
theorem x2q.yes{w:World}{d u:Int}(h:d=u)(T:0<=u):x2q w d (.returned (.tuple #[.int .i64 u,.bool true])) w:=by subst h;exact⟨.inr ⟨T,rfl⟩,rfl⟩
theorem x2q.no{w:World}{d:Int}(h:d=-1):x2q w d (.returned (.tuple #[.int .i64 0,.bool false])) w:=by subst h;exact⟨.inl ⟨f6J,rfl⟩,rfl⟩
theorem x3H(b:Int)(w:World)(T:0<=b)(D:b<=255):Calls prog 200 #[.int .u8 b] w (x2q w (Pu.dig b)):=by
 rcases dig_cases b with⟨⟨L,C⟩,u⟩ | ⟨⟨L,C⟩,u⟩ | ⟨⟨L,C⟩,u⟩ | ⟨⟨t,E,a⟩,u⟩
 ·exact i8U
 ·exact i8U
 ·exact i8U
 ·have g:=O u;clear u;have hc:b<48\/(57<b/\b<65)\/(90<b/\b<97)\/122<b:=f6J;rcases hc with hc | ⟨hc,hd⟩ | ⟨hc,hd⟩ | hc
  all_goals
   go_enter func200,ntmps200;go_wp2;go_ret2;exact x2q.no (V g)
theorem x1o{w:World}{g j:Nat}{P:Array Value}{e:TypeId}{m:Nat×Nat}(h:w.heap[g]?=some (.cells P e m))(v:Value):(w.setCell ⟨g,j,none⟩ v).heap[g]?=some (.cells (P.setIfInBounds j v) e m):=by
 rw[setCell_eq_setRow w g j P e m v h];exact setRow_heap w g P _ e _ h
theorem x8o{w:World}{g j k:Nat}(G:k≠g)(v:Value):(w.setCell ⟨g,j,none⟩ v).heap[k]?=w.heap[k]?:=by
 simp only[World.setCell,Array.getElem?_modify];split
 ·omega
 ·rfl
theorem y1b{w:World}{a:Addr}(v:Value):(w.setCell a v).heap.size=w.heap.size:=by simp[World.setCell]
def laid(cur:List Value)(o:Nat)(vs:List Value):List Value:=cur.take o++vs++cur.drop (o+vs.length)
theorem y8s(P:List Value)(o:Nat)(v:Value)(r:List Value)(h:o<P.length):laid (P.set o v) (o+1) r=laid P o (v::r):=by
 unfold laid
 have D:(P.set o v).take (o+1)=P.take o++[v]:=by
  rw[List.set_eq_take_append_cons_drop,if_pos h,List.take_append,List.length_take,Nat.min_eq_left f6J,List.take_of_length_le P8P,(f6J:o+1-o=1)];simp
 have Z:(P.set o v).drop (o+1+r.length)=P.drop (o+(v::r).length):=by
  rw[List.drop_set_of_lt f6J];simp only[List.length_cons];congr 1;omega
 rw[D,Z];simp
theorem x1p(g:Nat):∀(l:List Value) (o:Nat) (w:World) (P:Array Value) (e:TypeId) (m:Nat×Nat),w.heap[g]?=some (.cells P e m)->o+l.length<=P.size ->
  ∃A:Array Value,(w.setCells g o l).heap[g]?=some (.cells A e m)/\A.toList=laid P.toList o l
 | [],o,w,P,e,m,h,hl=>⟨P,h,by simp[laid]⟩
 | v::r,o,w,P,e,m,h,hl=>by
  simp only[List.length_cons]at hl;obtain⟨A,D,Z⟩:=x1p g r (o+1) (w.setCell ⟨g,o,none⟩ v) (P.setIfInBounds o v) e m (x1o h v) P8P;refine⟨A,D,?_⟩;rw[Z,Array.toList_setIfInBounds,y8s _ _ _ _ P8P]
theorem x4W{g k:Nat}(G:k≠g):∀(l:List Value) (o:Nat) (w:World),(w.setCells g o l).heap[k]?=w.heap[k]?
 | [],_,_=>rfl
 | v::r,o,w=>by rw[World.setCells,x4W G r,x8o G]
theorem x6Y(g:Nat):∀(l:List Value) (o:Nat) (w:World),(w.setCells g o l).heap.size=w.heap.size
 | [],_,_=>rfl
 | v::r,o,w=>by rw[World.setCells,x6Y g r,y1b]
theorem x6X(g:Nat):∀(l:List Value) (o:Nat) (w:World),(w.setCells g o l).os=w.os/\(w.setCells g o l).tape=w.tape/\(w.setCells g o l).output=w.output
 | [],_,_=>⟨rfl,rfl,rfl⟩
 | v::r,o,w=>by rw[World.setCells];exact x6X g r _ _
theorem x7U{w w':World}{g:Nat}(h:w.grownBy w' (some g))(l:List Value)(o:Nat):w.grownBy (w'.setCells g o l) (some g):=by
 obtain⟨E,r2,r3⟩:=x6X g l o w';refine⟨E.trans h.os,r2.trans h.tape,r3.trans h.output,by rw[x6Y];exact h.size,fun k G F=>?_⟩;rw[x4W (fun t=>F (by rw[t])),h.block k G F]
theorem x3w{w w':World}{row:Option Nat}{g:Nat}(h:w.grownBy w' row)(Y:w.heap.size<=g)(l:List Value)(o:Nat):w.grownBy (w'.setCells g o l) row:=by
 obtain⟨E,r2,r3⟩:=x6X g l o w';refine⟨E.trans h.os,r2.trans h.tape,r3.trans h.output,by rw[x6Y];exact h.size,fun k G F=>?_⟩;rw[x4W f6J,h.block k G F]
theorem x1N(w:World)(row:Option Nat):w.grownBy w row:=⟨rfl,rfl,rfl,l0r _,fun _ _ _=>rfl⟩
theorem x1M{w w':World}{row:Option Nat}(h:w.grownBy w' row):w.grownBy w'.drew row:=⟨h.os,h.tape,h.output,h.size,h.block⟩
theorem x3J{w w':World}{row:Option Nat}(h:w.grownBy w' row)(o:Obj):w.grownBy (w'.alloc o) row:=by
 refine⟨h.os,h.tape,h.output,?_,fun k G F=>?_⟩
 ·have:=h.size;show _<=(w'.heap.push o).size;rw[Array.size_push];omega
 ·rw[<- h.block k G F];have:=h.size;show(w'.heap.push o)[k]?=_;rw[Array.getElem?_push,if_neg f6J]
def StAt(w:World)(b:Nat)(p n i bias:Int)(f:Bool):Prop:=w.heap[b]?=some (.cells #[.int .i64 p,.int .i64 n,.int .i64 i,.int .i64 bias,.bool f] 278 (0,0))
theorem StAt.cells{w:World}{b:Nat}{p n i bias:Int}{f:Bool}(h:StAt w b p n i bias f) :
  w.cell? ⟨b,0,none⟩=some (.int .i64 p)/\w.cell? ⟨b,1,none⟩=some (.int .i64 n)/\w.cell? ⟨b,2,none⟩=some (.int .i64 i)/\w.cell? ⟨b,3,none⟩=some (.int .i64 bias)/\w.cell? ⟨b,4,none⟩=some (.bool f) /\
   w.frozen? ⟨b,0,none⟩=false/\w.frozen? ⟨b,1,none⟩=false/\w.frozen? ⟨b,2,none⟩=false/\w.frozen? ⟨b,3,none⟩=false/\w.frozen? ⟨b,4,none⟩=false:=by
 unfold StAt at h;simp[World.cell?,World.frozen?,h]
theorem StAt.drew{w:World}{b:Nat}{p n i bias:Int}{f:Bool}(h:StAt w b p n i bias f):StAt w.drew b p n i bias f:=h
def x3W(w:World)(b:Nat)(p n i bias:Int)(pl:Int)(e:Ending)(w':World):Prop :=
 e=.returned (.tuple #[.int .i64 n,.int .i64 pl])/\StAt w' b p n i bias false/\w.grownBy w' (some b)/\w'.heap.size=w.heap.size
theorem x1O{w w':World}{g j:Nat}(h:w.grownBy w' (some g))(v:Value):w.grownBy (w'.setCell ⟨g,j,none⟩ v) (some g) :=
 ⟨h.os,h.tape,h.output,by rw[y1b];exact h.size,fun k G F=>by rw[x8o (fun t=>F (by rw[t])),h.block k G F]⟩
theorem y5R{w:World}{b:Nat}{p n i bias:Int}{f:Bool}(h:StAt w b p n i bias f)(E N F a L:Int) :
  x3W w b E N F a L (.returned (.tuple #[.int .i64 N,.int .i64 L])) (((((w.setCell ⟨b,0,none⟩ (.int .i64 E)).setCell ⟨b,1,none⟩ (.int .i64 N)).setCell ⟨b,3,none⟩ (.int .i64 a)).setCell ⟨b,4,none⟩ (.bool false)).setCell ⟨b,2,none⟩ (.int .i64 F)).drew.drew.drew:=by
 refine⟨rfl,?_,?_,?_⟩
 ·have T:StAt (w.setCell ⟨b,0,none⟩ (.int .i64 E)) b E n i bias f:=x1o (j:=0) h (.int .i64 E);have D:StAt ((w.setCell ⟨b,0,none⟩ (.int .i64 E)).setCell ⟨b,1,none⟩ (.int .i64 N)) b E N i bias f:=x1o (j:=1) T (.int .i64 N);generalize(w.setCell ⟨b,0,none⟩ (.int .i64 E)).setCell ⟨b,1,none⟩ (.int .i64 N)=Q at *;have Z:StAt (Q.setCell ⟨b,3,none⟩ (.int .i64 a)) b E N i a f:=x1o (j:=3) D (.int .i64 a);generalize Q.setCell ⟨b,3,none⟩ (.int .i64 a)=A at *;have R:StAt (A.setCell ⟨b,4,none⟩ (.bool false)) b E N i a false:=x1o (j:=4) Z (.bool false);generalize A.setCell ⟨b,4,none⟩ (.bool false)=u at *;have H:StAt (u.setCell ⟨b,2,none⟩ (.int .i64 F)) b E N F a false:=x1o (j:=2) R (.int .i64 F);exact H.drew.drew.drew
 ·exact x1M (x1M (x1M (x1O (x1O (x1O (x1O (x1O (x1N w _) _) _) _) _) _)))
 ·simp_all
theorem x9E(b:Nat)(p n i bias d:Int)(f:Bool)(w:World)(h:StAt w b p n i bias f)(A:0<=p/\p<=1000000)(E:0<=n/\n<=10000000)(hi:0<=i/\i<=10000000)(hd:0<=d/\d<=2147483647) :
  Calls prog 202 #[.pointer (some ⟨b,0,none⟩),.int .i64 d] w (x3W w b (p+1) (n+(i+d) / (p+1)) ((i+d)%(p+1)+1) (Pu.adapt d (p+1) f) ((i+d)%(p+1))):=by
 obtain⟨Y,o,z,s,K,C,m,S,u,U⟩:=h.cells;have Q:0<=(i+d) / (p+1):=Int.ediv_nonneg f6J f6J;have N:(i+d) / (p+1)<=i+d:=Int.ediv_le_self _ f6J;have J:0<=(i+d)%(p+1):=Int.emod_nonneg _ f6J;have D:(i+d)%(p+1)<p+1:=Int.emod_lt_of_pos _ f6J;have c:∀W,Hid (Calls prog 251 #[.int .i64 d,.int .i64 (p+1),.bool f] W (x0C W (Pu.adapt d (p+1) f))):=fun W=>y6q d (p+1) f W f6J f6J;generalize Pu.adapt d (p+1) f=a at *;go_enter func202,ntmps202;go_wp2;go_region;go_wp2;go_region;go_wp2;go_region_with (go_at_call 251;refine(V (c _)).mono ?_;rintro e G ⟨rfl,rfl⟩);go_wp2
 all_goals
  go_ret2;exact y5R h _ _ _ _ _
theorem x9P(p:Int)(w:World):Calls prog 199 #[.int .i64 p] w fun e w'=>e=.returned (.agg #[.int .i64 p,.int .i64 128,.int .i64 0,.int .i64 72,.bool true])/\Bw w w':=by
 have D:Bw w (w.alloc (.cells #[.int .i64 p,.int .i64 128,.int .i64 0,.int .i64 72,.bool true] 278)):=(b0r).alloc (l0r _) _
 have z:∀j v,#[Value.int .i64 p,.int .i64 128,.int .i64 0,.int .i64 72,.bool true][j]?=some v->(w.alloc (.cells #[.int .i64 p,.int .i64 128,.int .i64 0,.int .i64 72,.bool true] 278)).cell? ⟨w.heap.size,j,none⟩=some v:=fun j v h=>by
  rw[World.cell?_alloc_at (w:=w) _ _ w.heap.size j rfl];exact h
 have R:=z 0 _ rfl;have U:=z 1 _ rfl;have X:=z 2 _ rfl;have A:=z 3 _ rfl;have F:=z 4 _ rfl;go_enter func199,ntmps199;go_wp2;refine bodyPost_ret (v:=.agg #[.int .i64 p,.int .i64 128,.int .i64 0,.int .i64 72,.bool true]) (by simp[results,Tryz.results199,go_sem,R,U,X,A,F]) rfl ⟨rfl,D⟩
theorem y1z{zs:List Int}{k:Nat}(G:k<zs.length)(h:Pu.basicB zs=Pu.basicB (zs.drop k))(o:zs.getD k 0<128):Pu.basicB zs=Pu.basicB (zs.drop (k+1)):=n8A
theorem y6z{zs:List Int}{k:Nat}(G:k<zs.length)(h:Pu.basicB zs=Pu.basicB (zs.drop k))(o:¬zs.getD k 0<128):Pu.basicB zs=false:=n8A
theorem y4f{zs:List Int}{k:Nat}(G:zs.length<=k)(h:Pu.basicB zs=Pu.basicB (zs.drop k)):Pu.basicB zs=true:=by
 rw[h,List.drop_eq_nil_of_le G];rfl
def x2p(w:World)(b:Bool)(e:Ending)(w':World):Prop:=e=.returned (.bool b)/\w'=w
theorem x2p.mk{w:World}{b c:Bool}(h:c=b):x2p w b (.returned (.bool c)) w:=t5o
theorem y2c(s:ByteArray)(w:World)(X:s.size<=1000000000):Calls prog 152 #[.string s] w (x2p w (Pu.basicB (nums s))):=by
 have E:=nums_length s;have a:Hid (Pu.basicB (nums s)=Pu.basicB ((nums s).drop 0)):=V0q;have f:=O (x2m s);have F:=O (x0x s);generalize hr:Pu.basicB (nums s)=r at *;have A:=O hr;generalize o:nums s=L at *;go_enter func152,ntmps152;go_wp2;go_loop [3,6,7,8,9,10,11,12,13] (fun _ i _ _ _ _ _ _ _=>∃k:Nat,i=.int .i64 k/\k<=L.length/\r=Pu.basicB (L.drop k)) (fun _ i _ _ _ _ _ _ _=>L.length-(intOf i).toNat)
 case atStart=>exact⟨0,rfl,f6J,V a⟩
 case round =>
  obtain⟨k,rfl,G,J⟩:=hrel;by_cases H:k<L.length
  ·have q:=V f (k:Int) k rfl f6J;have D:Pu.basicB L=Pu.basicB (L.drop k):=(V A).trans J
   have T:0<=L.getD k 0/\L.getD k 0<=255:=by
    rw[List.getD,List.getElem?_eq_getElem H];exact V F _ (List.getElem_mem H)
   by_cases o:L.getD k 0<128
   ·have B:=O (((V A).symm).trans (y1z H D o));generalize L.getD k 0=z at *;go_wp2;go_round
    case rel=>exact⟨k+1,g2A,f6J,V B⟩
    case measure=>exact g7T
   ·have B:=O (((V A).symm).trans (y6z H D o));clear J D A a f F;generalize L.getD k 0=z at *;go_wp2;go_ret;exact x2p.mk (V B).symm
  ·have D:Pu.basicB L=Pu.basicB (L.drop k):=(V A).trans J;have B:=O (((V A).symm).trans (y4f f6J D));clear J D A a f F;go_wp2;go_ret;exact x2p.mk (V B).symm
