/- Lemmas. -/
import Derived.Test.YtkfcabdmkmljjaaGreatDoorH38
import Derived.Laws.IdiomCopy
import Derived.Laws.NewBlocks
import Derived.Deep.RegionHeld3
set_option maxHeartbeats 4000000
namespace Go.Proofs.YtkfcabdmkmljjaaGreatDoor
open Go.Proofs.Tryz
section
variable{p:Prop}
theorem W4P(h:p:=by rw[u];clear u;go_enter func60,ntmps60;go_wp2;go_ret;exact x0r.mk rfl):p:=h
theorem r6x(h:p:=by rw[h,x0N G];generalize zs.getD k 0=z at *;simp[Pu.basicB,T]):p:=h
theorem p9K(h:p:=by have L:=O u;clear u;go_enter func59,ntmps59;go_wp2;go_ret2;exact x2i.yes (V L) f6J):p:=h
theorem n7H(h:p:=by unfold Pu.thr;rw[if_neg Z,if_neg D]):p:=h
theorem U6t(h:p:=by first| rfl | go_num):p:=h
theorem f8v(h:p:=by unfold Pu.thr;rw[if_neg Z,if_pos D]):p:=h
theorem f0D(h:p:=by unfold Pu.thr;rw[if_pos Z]):p:=h
end
namespace Pu
def thr(k bias:Int):Int:=if 36*k-bias<1 then 1 else if 26<36*k-bias then 26 else 36*k-bias
theorem x1o k bias:1<=thr k bias/\thr k bias<=26:=by unfold thr;exact t3k
def adE(d k:Int):Int:=k+36*d / (d+38)
def adA:Nat->Int->Int->Int
 | 0,d,k=>adE d k
 | f+1,d,k=>if 455<d then adA f (d / 35) (k+36)else adE d k
def ad0(delta points:Int)(first:Bool):Int :=
 let d:=(if delta<0 then 0 else delta) / (if first then 700 else 2)
 d+d / (if points<1 then 1 else points)
def adapt(delta points:Int)(first:Bool):Int:=adA 12 (ad0 delta points first) 0
theorem z5G f d k(h:455<d):adA (f+1) d k=adA f (d / 35) (k+36):=by rw[adA,if_pos h]
theorem z5H f d k(h:¬455<d):adA f d k=adE d k:=by cases f with
 | zero=>rfl
 | succ f=>rw[adA,if_neg h]
theorem x4C{d k}(R:0<=d)(Z:d<=455)(G:0<=k):0<=adE d k/\adE d k<=k+36:=by
 unfold adE;have P:0<=36*d / (d+38):=Int.ediv_nonneg f6J f6J;have E:36*d / (d+38)<37:=Int.ediv_lt_of_lt_mul f6J f6J;omega
def x7Z:Nat->Int
 | 0=>455
 | f+1=>35*x7Z f+34
theorem y4W f d k(R:0<=d)(Z:d<=x7Z f)(G:0<=k):0<=adA f d k/\adA f d k<=k+36*(f+1):=by
 induction f generalizing d k with
 | zero=>rw[adA];have:=x4C R (by simpa[x7Z]using Z) G;omega
 | succ f ih =>
  rw[adA];split
  ·have:=ih (d / 35) (k+36) f6J (by simp only[x7Z]at Z;exact f6J) f6J;omega
  ·have:=x4C R f6J G;omega
theorem y4C:(9223372036854775807:Int)<=x7Z 12:=e8M
theorem x8e{delta points first}(h:delta<=9223372036854775807):0<=ad0 delta points first/\ad0 delta points first<=9223372036854775806:=by
 unfold ad0;have hd:0<=(if delta<0 then 0 else delta) / (if first then 700 else 2)/\(if delta<0 then 0 else delta) / (if first then 700 else 2)<=4611686018427387903:=(by grind);generalize(if delta<0 then 0 else delta) / (if first then 700 else 2)=d at *;have s:1<=(if points<1 then 1 else points):=f6J;generalize(if points<1 then 1 else points)=p at *;have P:0<=d / p:=Int.ediv_nonneg hd.1 f6J;have E:d / p<=d:=Int.ediv_le_self _ hd.1;simp only;omega
theorem x2E delta points first(h:delta<=9223372036854775807):0<=adapt delta points first/\adapt delta points first<=468:=by
 have R:=x8e (points:=points) (first:=first) h;have:=y4W 12 (ad0 delta points first) 0 R.1 (by have:=y4C;exact f6J) f6J;unfold adapt;omega
def dig(b:Int):Int:=if 97<=b/\b<=122 then b-97 else if 65<=b/\b<=90 then b-65 else if 48<=b/\b<=57 then b-48+26 else -1
theorem z9r b:-1<=dig b/\dig b<=35:=by unfold dig;split<;>(try split)<;>(try split)<;>omega
def rdN(bias:Int):List Int->Int->Int->Int->Int×Int×List Int
 | [],_,_,_=>(112,0,[])
 | z::r,k,v,w=>if dig z<0 then(110,0,[])else if dig z<thr k bias then(0,v+dig z*w,r)else
   rdN bias r (k+1) (v+dig z*w) (if 2147483648<w*(36-thr k bias)then 2147483648 else w*(36-thr k bias))
structure St where
 xs:List Int
 n:Int
 i:Int
 bias:Int
 first:Bool
def begin(xs:List Int):St:=⟨xs,128,0,72,true⟩
def ins(xs:List Int)(p:Nat)(c:Int):List Int:=xs.take p++c::xs.drop p
def stepN(s:St)(d:Int):Int:=s.n+(s.i+d) / (s.xs.length+1)
def stepP(s:St)(d:Int):Int:=(s.i+d)%(s.xs.length+1)
def step(s:St)(d:Int):St:=⟨ins s.xs (stepP s d).toNat (stepN s d),stepN s d,stepP s d+1,adapt d (s.xs.length+1) s.first,false⟩
def x4X:Nat->List Int->St->List Int×Int
 | 0,_,s=>(s.xs,0)
 | f+1,zs,s=>if zs=[]then(s.xs,0)else
   if(rdN s.bias zs 1 0 1).1≠0 then([],(rdN s.bias zs 1 0 1).1)else
   if 2147483647<(rdN s.bias zs 1 0 1).2.1 then([],113)else
   if ¬Utf.okc (stepN s (rdN s.bias zs 1 0 1).2.1)then([],31)else
   x4X f (rdN s.bias zs 1 0 1).2.2 (step s (rdN s.bias zs 1 0 1).2.1)
def x3F(zs:List Int)(k:Nat)(a:Nat):Nat:=match zs with
 | []=>a
 | z::r=>x3F r (k+1) (if z=45 then k else a)
def tail(zs:List Int):List Int:=if x3F zs 0 0=0 then zs else zs.drop (x3F zs 0 0+1)
def basicB(zs:List Int):Bool:=zs.all fun z=>decide (z<128)
def decode(zs:List Int):List Int×Int :=
 if 65536<zs.length then([],2)else if basicB zs=false then([],111)else x4X zs.length (tail zs) (begin (zs.take (x3F zs 0 0)))
end Pu
open Go.RowKit
def x0r(w:World)(z:Int)(e:Ending)(w':World):Prop:=e=.returned (.int .i64 z)/\w'=w
theorem x0r.mk{w z u}(h:u=z):x0r w z (.returned (.int .i64 u)) w:=t5o
theorem x6l{a b:Int}(h:0<=a):a.tdiv b=a / b:=Int.tdiv_eq_ediv_of_nonneg h
theorem wrap64_in{x}(R:-9223372036854775808<=x)(Z:x<=9223372036854775807):wrap64 x=x:=by unfold wrap64;exact f6J
theorem y7t delta points first w(hd:-9223372036854775808<=delta/\delta<=9223372036854775807)(s:-9223372036854775808<=points/\points<=9223372036854775807):Calls prog 107 #[.int .i64 delta,.int .i64 points,.bool first] w (x0r w (Pu.adapt delta points first)):=by
 have E:=O (Pu.x8e (delta:=delta) (points:=points) (first:=first) hd.2);have L:Hid (Pu.adapt delta points first=Pu.adA 12 (Pu.ad0 delta points first) 0):=rfl;generalize Pu.adapt delta points first=r at *;go_enter func107,ntmps107
 all_goals cases first<;>by_cases n:delta<0<;>by_cases B:points<1
 all_goals
  go_wp2;go_loop [0,7] (fun d k=>∃(f:Nat) (x y:Int),d=.int .i64 x/\k=.int .i64 y/\0<=x/\x<=9223372036854775806/\0<=y/\y+36*f<=432/\r=Pu.adA f x y/\x<=Pu.x7Z f) (fun d _=>(intOf d).toNat)
  case atStart =>
   refine⟨12,Pu.ad0 delta points _,0,?_,rfl,(V E).1,(V E).2,f6J,f6J,V L,by have:=Pu.y4C;have:=(V E).2;exact f6J⟩;have m:=V E;unfold Pu.ad0 at m ⊢;simp only[reduceIte,Bool.false_eq_true]at m ⊢
   first| rw[if_pos n]at m ⊢| rw[if_neg (Int.not_lt.2 n)]at m ⊢
   first| rw[if_pos B]at m ⊢| rw[if_neg (Int.not_lt.2 B)]at m ⊢
   first
    | rfl
    | (rw[Int.ediv_one])
    | (rw[wrap64_in f6J f6J])
    | simp
  case round =>
   obtain⟨f,x,y,rfl,rfl,Z,D,J,H,K,F⟩:=hrel;by_cases A:455<x
   ·have z:f≠0:=(by intro h;subst h;simp[Pu.x7Z]at F;exact f6J);obtain⟨g,rfl⟩:∃g,f=g+1:=⟨f-1,f6J⟩;have G:=O (K.trans (Pu.z5G g x y A));have a:Hid (x / 35<=Pu.x7Z g):=(by show x / 35<=Pu.x7Z g;simp only[Pu.x7Z]at F;exact f6J);clear K F L;have p:x.tdiv 35=x / 35:=x6l Z;go_wp2;go_round
    case rel=>exact⟨g,x / 35,y+36,by first| rfl | rw[p]|(rw[x6l Z]),U6t,f6J,f6J,f6J,f6J,V G,V a⟩
    case measure=>exact g7T
   ·have G:=O (K.trans (Pu.z5H f x y A));clear K F L;have p:(36*x).tdiv (x+38)=36*x / (x+38):=x6l f6J;have Y:=Pu.x4C (k:=y) Z f6J J;unfold Pu.adE at Y;go_wp2;go_ret;refine x0r.mk ?_;rw[V G];unfold Pu.adE
    first
     | rfl
     | (rw[x6l f6J,wrap64_in f6J f6J])
     | (rw[wrap64_in f6J f6J])
theorem y0g k bias w(G:0<=k/\k<=1000000)(Y:-1000000<=bias/\bias<=1000000) :
  Calls prog 60 #[.int .i64 k,.int .i64 bias] w (x0r w (Pu.thr k bias)):=by
 by_cases Z:36*k-bias<1
 ·have u:Pu.thr k bias=1:=f0D;exact W4P
 ·by_cases D:26<36*k-bias
  ·have u:Pu.thr k bias=26:=f8v;exact W4P
  ·have u:Pu.thr k bias=36*k-bias:=n7H;exact W4P
theorem dig_cases b:((97<=b/\b<=122)/\Pu.dig b=b-97)\/((65<=b/\b<=90)/\Pu.dig b=b-65)\/((48<=b/\b<=57)/\Pu.dig b=b-48+26)\/((¬(97<=b/\b<=122)/\¬(65<=b/\b<=90)/\¬(48<=b/\b<=57))/\Pu.dig b=-1):=by
 unfold Pu.dig;by_cases Z:97<=b/\b<=122
 ·omega
 ·omega
def x2i(w:World)(d:Int)(e:Ending)(w':World):Prop:=((d<0/\e=.returned (.tuple #[.int .i64 0,.bool false]))\/(0<=d/\e=.returned (.tuple #[.int .i64 d,.bool true])))/\w'=w
theorem x2i.yes{w d u}(h:d=u)(R:0<=u):x2i w d (.returned (.tuple #[.int .i64 u,.bool true])) w:=by subst h;exact⟨.inr ⟨R,rfl⟩,rfl⟩
theorem x2i.no{w d}(h:d=-1):x2i w d (.returned (.tuple #[.int .i64 0,.bool false])) w:=by subst h;exact⟨.inl ⟨f6J,rfl⟩,rfl⟩
theorem y2s b w(R:0<=b)(Z:b<=255):Calls prog 59 #[.int .u8 b] w (x2i w (Pu.dig b)):=by
 rcases dig_cases b with⟨⟨g,Y⟩,u⟩ | ⟨⟨g,Y⟩,u⟩ | ⟨⟨g,Y⟩,u⟩ | ⟨⟨T,a,D⟩,u⟩
 ·exact p9K
 ·exact p9K
 ·exact p9K
 ·have L:=O u;clear u;have hc:b<48\/(57<b/\b<65)\/(90<b/\b<97)\/122<b:=f6J;rcases hc with hc | ⟨hc,hd⟩ | ⟨hc,hd⟩ | hc
  all_goals
   go_enter func59,ntmps59;go_wp2;go_ret2;exact x2i.no (V L)
theorem x0Y{w:World}{g j cur e m}(h:w.heap[g]?=some (.cells cur e m)) v:(w.setCell ⟨g,j,none⟩ v).heap[g]?=some (.cells (cur.setIfInBounds j v) e m):=by
 rw[setCell_eq_setRow w g j cur e m v h];exact setRow_heap w g cur _ e _ h
theorem x5b{w:World}{g j k}(G:k≠g) v:(w.setCell ⟨g,j,none⟩ v).heap[k]?=w.heap[k]?:=by
 simp only[World.setCell,Array.getElem?_modify];split
 ·omega
 ·rfl
theorem y1L{w:World}{a} v:(w.setCell a v).heap.size=w.heap.size:=by simp[World.setCell]
def laid(cur:List Value)(o:Nat)(vs:List Value):List Value:=cur.take o++vs++cur.drop (o+vs.length)
theorem y9C cur o v r(h:o<cur.length):laid (cur.set o v) (o+1) r=laid cur o (v::r):=by
 unfold laid
 have Z:(cur.set o v).take (o+1)=cur.take o++[v]:=by
  rw[List.set_eq_take_append_cons_drop,if_pos h,List.take_append,List.length_take,Nat.min_eq_left f6J,List.take_of_length_le P8P,(f6J:o+1-o=1)];simp
 have D:(cur.set o v).drop (o+1+r.length)=cur.drop (o+(v::r).length):=by
  rw[List.drop_set_of_lt f6J];simp only[List.length_cons];congr 1;omega
 rw[Z,D];simp
theorem x1l(g:Nat):∀(T:List Value) (o:Nat) (w:World) (Q:Array Value) (e:TypeId) (m:Nat×Nat),w.heap[g]?=some (.cells Q e m)->o+T.length<=Q.size ->
  ∃J:Array Value,(w.setCells g o T).heap[g]?=some (.cells J e m)/\J.toList=laid Q.toList o T
 | [],o,w,Q,e,m,h,hl=>⟨Q,h,by simp[laid]⟩
 | v::r,o,w,Q,e,m,h,hl=>by
  simp only[List.length_cons]at hl;obtain⟨J,Z,D⟩:=x1l g r (o+1) (w.setCell ⟨g,o,none⟩ v) (Q.setIfInBounds o v) e m (x0Y h v) P8P;refine⟨J,Z,?_⟩;rw[D,Array.toList_setIfInBounds,y9C _ _ _ _ P8P]
theorem x5c{g k:Nat}(G:k≠g):∀(T:List Value) (o:Nat) (w:World),(w.setCells g o T).heap[k]?=w.heap[k]?
 | [],_,_=>rfl
 | v::r,o,w=>by rw[World.setCells,x5c G r,x5b G]
theorem x7u(g:Nat):∀(T:List Value) (o:Nat) (w:World),(w.setCells g o T).heap.size=w.heap.size
 | [],_,_=>rfl
 | v::r,o,w=>by rw[World.setCells,x7u g r,y1L]
theorem x7t(g:Nat):∀(T:List Value) (o:Nat) (w:World),(w.setCells g o T).os=w.os/\(w.setCells g o T).tape=w.tape/\(w.setCells g o T).output=w.output
 | [],_,_=>⟨rfl,rfl,rfl⟩
 | v::r,o,w=>by rw[World.setCells];exact x7t g r _ _
theorem x8u{w w':World}{g}(h:w.grownBy w' (some g)) vs o:w.grownBy (w'.setCells g o vs) (some g):=by
 obtain⟨I,r2,r3⟩:=x7t g vs o w';refine⟨I.trans h.os,r2.trans h.tape,r3.trans h.output,by rw[x7u];exact h.size,fun k G t=>?_⟩;rw[x5c (fun H=>t (by rw[H])),h.block k G t]
theorem x3o{w w':World}{row g}(h:w.grownBy w' row)(C:w.heap.size<=g) vs o:w.grownBy (w'.setCells g o vs) row:=by
 obtain⟨I,r2,r3⟩:=x7t g vs o w';refine⟨I.trans h.os,r2.trans h.tape,r3.trans h.output,by rw[x7u];exact h.size,fun k G t=>?_⟩;rw[x5c f6J,h.block k G t]
theorem x1h(w:World) row:w.grownBy w row:=⟨rfl,rfl,rfl,l0r _,fun _ _ _=>rfl⟩
theorem x1J{w w':World}{row}(h:w.grownBy w' row):w.grownBy w'.drew row:=⟨h.os,h.tape,h.output,h.size,h.block⟩
theorem x3D{w w':World}{row}(h:w.grownBy w' row) o:w.grownBy (w'.alloc o) row:=by
 refine⟨h.os,h.tape,h.output,?_,fun k G t=>?_⟩
 ·have:=h.size;show _<=(w'.heap.push o).size;rw[Array.size_push];omega
 ·rw[<- h.block k G t];have:=h.size;show(w'.heap.push o)[k]?=_;rw[Array.getElem?_push,if_neg f6J]
def StAt(w:World)(b:Nat)(p n i bias:Int)(f:Bool):Prop:=w.heap[b]?=some (.cells #[.int .i64 p,.int .i64 n,.int .i64 i,.int .i64 bias,.bool f] 132 (0,0))
theorem StAt.cells{w b p n i bias f}(h:StAt w b p n i bias f) :
  w.cell? ⟨b,0,none⟩=some (.int .i64 p)/\w.cell? ⟨b,1,none⟩=some (.int .i64 n)/\w.cell? ⟨b,2,none⟩=some (.int .i64 i)/\w.cell? ⟨b,3,none⟩=some (.int .i64 bias)/\w.cell? ⟨b,4,none⟩=some (.bool f) /\
   w.frozen? ⟨b,0,none⟩=false/\w.frozen? ⟨b,1,none⟩=false/\w.frozen? ⟨b,2,none⟩=false/\w.frozen? ⟨b,3,none⟩=false/\w.frozen? ⟨b,4,none⟩=false:=by
 unfold StAt at h;simp[World.cell?,World.frozen?,h]
theorem StAt.drew{w b p n i bias f}(h:StAt w b p n i bias f):StAt w.drew b p n i bias f:=h
def x3U(w:World)(b:Nat)(p n i bias:Int)(pl:Int)(e:Ending)(w':World):Prop :=
 e=.returned (.tuple #[.int .i64 n,.int .i64 pl])/\StAt w' b p n i bias false/\w.grownBy w' (some b)/\w'.heap.size=w.heap.size
theorem x1i{w w':World}{g j}(h:w.grownBy w' (some g)) v:w.grownBy (w'.setCell ⟨g,j,none⟩ v) (some g) :=
 ⟨h.os,h.tape,h.output,by rw[y1L];exact h.size,fun k G t=>by rw[x5b (fun H=>t (by rw[H])),h.block k G t]⟩
theorem y6T{w b p n i bias f}(h:StAt w b p n i bias f) p' n' i' a pl :
  x3U w b p' n' i' a pl (.returned (.tuple #[.int .i64 n',.int .i64 pl])) (((((w.setCell ⟨b,0,none⟩ (.int .i64 p')).setCell ⟨b,1,none⟩ (.int .i64 n')).setCell ⟨b,3,none⟩ (.int .i64 a)).setCell ⟨b,4,none⟩ (.bool false)).setCell ⟨b,2,none⟩ (.int .i64 i')).drew.drew.drew:=by
 refine⟨rfl,?_,?_,?_⟩
 ·have R:StAt (w.setCell ⟨b,0,none⟩ (.int .i64 p')) b p' n i bias f:=x0Y (j:=0) h (.int .i64 p');have Z:StAt ((w.setCell ⟨b,0,none⟩ (.int .i64 p')).setCell ⟨b,1,none⟩ (.int .i64 n')) b p' n' i bias f:=x0Y (j:=1) R (.int .i64 n');generalize(w.setCell ⟨b,0,none⟩ (.int .i64 p')).setCell ⟨b,1,none⟩ (.int .i64 n')=Q at *;have D:StAt (Q.setCell ⟨b,3,none⟩ (.int .i64 a)) b p' n' i a f:=x0Y (j:=3) Z (.int .i64 a);generalize Q.setCell ⟨b,3,none⟩ (.int .i64 a)=t at *;have J:StAt (t.setCell ⟨b,4,none⟩ (.bool false)) b p' n' i a false:=x0Y (j:=4) D (.bool false);generalize t.setCell ⟨b,4,none⟩ (.bool false)=G at *;have H:StAt (G.setCell ⟨b,2,none⟩ (.int .i64 i')) b p' n' i' a false:=x0Y (j:=2) J (.int .i64 i');exact H.drew.drew.drew
 ·exact x1J (x1J (x1J (x1i (x1i (x1i (x1i (x1i (x1h w _) _) _) _) _) _)))
 ·simp_all
theorem y0d b p n i bias d f w(h:StAt w b p n i bias f)(D:0<=p/\p<=1000000)(F:0<=n/\n<=10000000)(hi:0<=i/\i<=10000000)(hd:0<=d/\d<=2147483647) :
  Calls prog 61 #[.pointer (some ⟨b,0,none⟩),.int .i64 d] w (x3U w b (p+1) (n+(i+d) / (p+1)) ((i+d)%(p+1)+1) (Pu.adapt d (p+1) f) ((i+d)%(p+1))):=by
 obtain⟨X,y,q,K,S,C,s,v,t,o⟩:=h.cells;have M:0<=(i+d) / (p+1):=Int.ediv_nonneg f6J f6J;have G:(i+d) / (p+1)<=i+d:=Int.ediv_le_self _ f6J;have J:0<=(i+d)%(p+1):=Int.emod_nonneg _ f6J;have A:(i+d)%(p+1)<p+1:=Int.emod_lt_of_pos _ f6J;have H:∀W,Hid (Calls prog 107 #[.int .i64 d,.int .i64 (p+1),.bool f] W (x0r W (Pu.adapt d (p+1) f))):=fun W=>y7t d (p+1) f W f6J f6J;generalize Pu.adapt d (p+1) f=a at *;go_enter func61,ntmps61;go_wp2;go_region;go_wp2;go_region;go_wp2;go_region_with (go_at_call 107;refine(V (H _)).mono ?_;rintro e Q ⟨rfl,rfl⟩);go_wp2
 all_goals
  go_ret2;exact y6T h _ _ _ _ _
theorem y0r p w:Calls prog 58 #[.int .i64 p] w fun e w'=>e=.returned (.agg #[.int .i64 p,.int .i64 128,.int .i64 0,.int .i64 72,.bool true])/\Bw w w':=by
 have H:Bw w (w.alloc (.cells #[.int .i64 p,.int .i64 128,.int .i64 0,.int .i64 72,.bool true] 132)):=(b0r).alloc (l0r _) _
 have z:∀j v,#[Value.int .i64 p,.int .i64 128,.int .i64 0,.int .i64 72,.bool true][j]?=some v->(w.alloc (.cells #[.int .i64 p,.int .i64 128,.int .i64 0,.int .i64 72,.bool true] 132)).cell? ⟨w.heap.size,j,none⟩=some v:=fun j v h=>by
  rw[World.cell?_alloc_at (w:=w) _ _ w.heap.size j rfl];exact h
 have i:=z 0 _ rfl;have y:=z 1 _ rfl;have q:=z 2 _ rfl;have B:=z 3 _ rfl;have A:=z 4 _ rfl;go_enter func58,ntmps58;go_wp2;refine bodyPost_ret (v:=.agg #[.int .i64 p,.int .i64 128,.int .i64 0,.int .i64 72,.bool true]) (by simp[results,Tryz.results58,go_sem,i,y,q,B,A]) rfl ⟨rfl,H⟩
theorem y2f{zs k}(G:k<zs.length)(h:Pu.basicB zs=Pu.basicB (zs.drop k))(T:zs.getD k 0<128):Pu.basicB zs=Pu.basicB (zs.drop (k+1)):=r6x
theorem y7F{zs k}(G:k<zs.length)(h:Pu.basicB zs=Pu.basicB (zs.drop k))(T:¬zs.getD k 0<128):Pu.basicB zs=false:=r6x
theorem y5b{zs k}(G:zs.length<=k)(h:Pu.basicB zs=Pu.basicB (zs.drop k)):Pu.basicB zs=true:=by
 rw[h,List.drop_eq_nil_of_le G];rfl
def x1y(w:World)(b:Bool)(e:Ending)(w':World):Prop:=e=.returned (.bool b)/\w'=w
theorem x1y.mk{w b c}(h:c=b):x1y w b (.returned (.bool c)) w:=t5o
theorem y2J s w(L:s.size<=1000000000):Calls prog 31 #[.string s] w (x1y w (Pu.basicB (nums s))):=by
 have F:=nums_length s;have a:Hid (Pu.basicB (nums s)=Pu.basicB ((nums s).drop 0)):=V0q;have C:=O (x2A s);have x:=O (x0T s);generalize hr:Pu.basicB (nums s)=r at *;have A:=O hr;generalize T:nums s=m at *;go_enter func31,ntmps31;go_wp2;go_loop [3,6,7,8,9,10,11,12,13] (fun _ i _ _ _ _ _ _ _=>∃k:Nat,i=.int .i64 k/\k<=m.length/\r=Pu.basicB (m.drop k)) (fun _ i _ _ _ _ _ _ _=>m.length-(intOf i).toNat)
 case atStart=>exact⟨0,rfl,f6J,V a⟩
 case round =>
  obtain⟨k,rfl,G,W⟩:=hrel;by_cases E:k<m.length
  ·have Q:=V C (k:Int) k rfl f6J;have y:Pu.basicB m=Pu.basicB (m.drop k):=(V A).trans W
   have U:0<=m.getD k 0/\m.getD k 0<=255:=by
    rw[List.getD,List.getElem?_eq_getElem E];exact V x _ (List.getElem_mem E)
   by_cases T:m.getD k 0<128
   ·have f:=O (((V A).symm).trans (y2f E y T));generalize m.getD k 0=z at *;go_wp2;go_round
    case rel=>exact⟨k+1,g2A,f6J,V f⟩
    case measure=>exact g7T
   ·have f:=O (((V A).symm).trans (y7F E y T));clear W y A a C x;generalize m.getD k 0=z at *;go_wp2;go_ret;exact x1y.mk (V f).symm
  ·have y:Pu.basicB m=Pu.basicB (m.drop k):=(V A).trans W;have f:=O (((V A).symm).trans (y5b f6J y));clear W y A a C x;go_wp2;go_ret;exact x1y.mk (V f).symm
