import Derived.Test.YtbmckadcjdedcaaGreatDoorF2
import Derived.Handy
import Derived.KernelRfl
import Derived.Deep.RegionHeld3
set_option maxHeartbeats 4000000
set_option maxRecDepth 20000
namespace Go.Proofs.YtbmckadcjdedcaaGreatDoor
section
variable{p:Prop}
theorem g9S(h:p:=by exact⟨rfl,rfl⟩):p:=h
theorem M3j(h:p:=by decide +kernel):p:=h
theorem G3D(h:p:=by rw[List.take_add_one,List.take_add_one,h];simp only[List.getD,List.getElem?_eq_getElem J,List.getElem?_eq_getElem hy,Option.getD_some]at d;rw[List.getElem?_eq_getElem J,List.getElem?_eq_getElem hy,d]):p:=h
theorem N0r(h:p:=by
 intro L
 induction L with
 | nil=>intro s U;exact U
 | cons x L ihx =>
  intro s U;rw[List.foldl_cons];refine ihx _ ?_;unfold stepW;split
  ·exact ih _ _ _ U
  ·exact U):p:=h
theorem u5V(h:p:=by
 by_cases L:p c=true
 ·simp[L]
 ·simpa[L]using ih (i+1)):p:=h
theorem t3W(h:p:=by
 generalize r.kind=kd,r.n=n,r.lo=lo,r.hi=hi at *;generalize r.name=nm,r.other=ot,r.wt=J at *;have A:Bw w (w.alloc (.cells #[.int .i64 kd,.int .i64 lo,.int .i64 hi,.int .i64 n,vt,.string nm,.string ot,.float .f64 J] 67)):=(b0r).alloc (l0r _) _
 have R:(w.alloc (.cells #[.int .i64 kd,.int .i64 lo,.int .i64 hi,.int .i64 n,vt,.string nm,.string ot,.float .f64 J] 67)).heap[w.heap.size]?=some (.cells #[.int .i64 kd,.int .i64 lo,.int .i64 hi,.int .i64 n,vt,.string nm,.string ot,.float .f64 J] 67 (0,0)):=R0p
 go_enter func181,ntmps181;go_wp2;generalize(w.alloc (.cells #[.int .i64 kd,.int .i64 lo,.int .i64 hi,.int .i64 n,vt,.string nm,.string ot,.float .f64 J] 67))=U at *
 have i:Hid (∀W,Bw U W->W.cell? ⟨B,0,none⟩=some (.int .i64 k)/\W.cell? ⟨C,0,none⟩=some (.int .i32 c)/\W.cell? ⟨w.heap.size,0,none⟩=some (.int .i64 kd)/\W.cell? ⟨w.heap.size,1,none⟩=some (.int .i64 lo)/\W.cell? ⟨w.heap.size,2,none⟩=some (.int .i64 hi)/\W.cell? ⟨w.heap.size,3,none⟩=some (.int .i64 n)/\W.cell? ⟨w.heap.size,4,none⟩=some (vt)/\W.cell? ⟨w.heap.size,5,none⟩=some (.string nm)/\W.cell? ⟨w.heap.size,6,none⟩=some (.string ot)/\W.cell? ⟨w.heap.size,7,none⟩=some (.float .f64 J)/\Hid (Bw U W)):=fun W h=>by
  have Z:Bw w W:=x0b A h
  have D:W.heap[w.heap.size]?=_:=(h.block _ (by
   rcases Nat.lt_or_ge w.heap.size U.heap.size with a|a
   ·exact a
   ·rw[Array.getElem?_eq_none a]at R;cases R)).trans R
  exact⟨by rw[Z.cell (x0a hB)];exact hB,by rw[Z.cell (x0a y)];exact y,cell_of (j:=0) D M7N,cell_of (j:=1) D M7N,cell_of (j:=2) D M7N,cell_of (j:=3) D M7N,cell_of (j:=4) D M7N,cell_of (j:=5) D M7N,cell_of (j:=6) D M7N,cell_of (j:=7) D M7N,h⟩
 have Y:Hid (∀W,(W.cell? ⟨B,0,none⟩=some (.int .i64 k)/\W.cell? ⟨C,0,none⟩=some (.int .i32 c)/\W.cell? ⟨w.heap.size,0,none⟩=some (.int .i64 kd)/\W.cell? ⟨w.heap.size,1,none⟩=some (.int .i64 lo)/\W.cell? ⟨w.heap.size,2,none⟩=some (.int .i64 hi)/\W.cell? ⟨w.heap.size,3,none⟩=some (.int .i64 n)/\W.cell? ⟨w.heap.size,4,none⟩=some (vt)/\W.cell? ⟨w.heap.size,5,none⟩=some (.string nm)/\W.cell? ⟨w.heap.size,6,none⟩=some (.string ot)/\W.cell? ⟨w.heap.size,7,none⟩=some (.float .f64 J)/\Hid (Bw U W))->Bw U W):=fun W h=>h.2.2.2.2.2.2.2.2.2.2;clear hB y;refine wp_region_held_drew (S:=fun l=>l.cell? ⟨B,0,none⟩=some (.int .i64 k)/\l.cell? ⟨C,0,none⟩=some (.int .i32 c)/\l.cell? ⟨w.heap.size,0,none⟩=some (.int .i64 kd)/\l.cell? ⟨w.heap.size,1,none⟩=some (.int .i64 lo)/\l.cell? ⟨w.heap.size,2,none⟩=some (.int .i64 hi)/\l.cell? ⟨w.heap.size,3,none⟩=some (.int .i64 n)/\l.cell? ⟨w.heap.size,4,none⟩=some (vt)/\l.cell? ⟨w.heap.size,5,none⟩=some (.string nm)/\l.cell? ⟨w.heap.size,6,none⟩=some (.string ot)/\l.cell? ⟨w.heap.size,7,none⟩=some (.float .f64 J)/\Hid (Bw U l)) f4z (V i _ (x0k ⟨1,rfl⟩)) (fun hHeld=>?_);refine tk9 0 (.pointer (some ⟨w.heap.size,0,none⟩)) ?_;refine tk9 1 (.int .i64 kd) ?_;refine tk9 3 (.int .i64 k) ?_;refine rd9 2 fun K hK=>?_;go_simp;refine(V o _ (x0b A (V Y _ hHeld))).mono ?_;rintro e Q ⟨rfl,E⟩;go_wp2_with fail;refine hK.out _ _ ?_ (fun hHeld=>?_)
 ·exact V i _ (x0b (V Y _ hHeld) E)
 clear hK K
 try simp only[Act.put,sa9,sb9,sc9]
 refine tk9 4 (.bool true) ?_;refine tk9 5 (.bool true) ?_;refine tk9 6 (.pointer (some ⟨w.heap.size,0,none⟩)) ?_;refine tk9 7 (.int .i64 kd) ?_;refine tk9 9 (.agg #[.int .i64 kd,.int .i64 lo,.int .i64 hi,.int .i64 n,vt,.string nm,.string ot,.float .f64 J]) ?_;refine tk9 11 (.int .i32 c) ?_;refine tk9 12 (.int .i64 c) ?_;refine rd9 8 fun K hK=>?_;go_simp;refine c1m (V t _) fun d F=>?_;go_wp2_with fail;refine hK.out _ _ ?_ (fun hHeld=>?_)
 ·exact V i _ (x0b (V Y _ hHeld) F)
 clear hK K
 try simp only[Act.put,sa9,sb9,sc9]
 refine rd9 10 fun K hK=>?_;go_simp;refine c1m (V KP _) fun x s=>?_;go_wp2_with fail;refine hK.out _ _ ?_ (fun hHeld=>?_)
 ·exact V i _ (x0b (V Y _ hHeld) s)
 clear hK K
 try simp only[Act.put,sa9,sb9,sc9]
 refine rd9 13 fun K hK=>?_;go_simp;refine c1m (V P _) fun G N=>?_;go_wp2_with fail;refine hK.out _ _ ?_ (fun hHeld=>?_)
 ·exact V i _ (x0b (V Y _ hHeld) N)
 clear hK K
 try simp only[Act.put,sa9,sb9,sc9]
 refine tk9 14 (.bool ab) ?_;refine tk9 15 (.bool ab) ?_;refine wpAnyH_done f4z ?_ _;have T:x0c w ab (.returned (.bool ab)) G:=⟨rfl,x0b A (V Y _ hHeld)⟩;clear hHeld o t KP P i Y;go_wp2;go_ret;exact T):p:=h
theorem g7T(h:p:=by simp[intOf];omega):p:=h
theorem r0p(h:p:=by go_wp2;go_ret;exact⟨rfl,V B⟩):p:=h
theorem R3Y(h:p:=by
 simp only[Value.slice.injEq,Option.some.injEq,Addr.mk.injEq]at N;obtain⟨⟨rfl,_⟩,F,rfl⟩:=N;refine⟨Ok.of (n:=zs.length) (us:=(zs.set k z).map (Value.int K)) ?_ (by simpa using h.sk.len) ⟨M7K,.inr ⟨g,cap,T.setIfInBounds k (.int K z),by rw[F],Y,x0f a _,E,t,W3R,?_⟩⟩ M7K rfl,?_⟩
 ·intro y hy;rcases List.mem_or_eq_of_mem_set hy with hy|hy
  ·exact h.1 y hy
  ·subst hy;exact o _ M7K
 ·rw[Nat.mul_one]at Q ⊢;rw[Array.toList_setIfInBounds,List.take_set,Q,<- List.map_set]
 ·simp[World.frozen?,a]):p:=h
theorem t4c(h:p:=by have e:hasB lo hi s c=false:=d0f f6J;rw[e];go_enter func183,ntmps183;go_wp2_with fail;refine c0m K fun Q F=>?_;subst Q;go_wp2;go_ret;exact⟨rfl,Y⟩):p:=h
theorem V3H(h:p:=by simp[Value.ownBlock]):p:=h
theorem P3m(h:p:=by go_wp2_with fail;refine(V K).mono ?_;rintro e Q ⟨rfl,rfl⟩;exact t6u):p:=h
theorem F9G(h:p:=by go_enter func182,ntmps182;go_wp2;go_ret;exact⟨rfl,Y⟩):p:=h
theorem t5o(h:p:=by subst h;exact g9S):p:=h
theorem f4z(h:p:=by kernel_rfl):p:=h
theorem f2O(h:p:=by show 1<3;exact f6J):p:=h
theorem T7b(h:p:=by show 0<3;exact f6J):p:=h
theorem T5p(h:p:=by rw[G];go_enter func102,ntmps102;exact t6v):p:=h
theorem R0n(h:p:=by show(w.heap.push _)[w.heap.size]?=_;simp):p:=h
theorem s7C(h:p:=by rw[IntKind.wrap_i64];exact f6J):p:=h
theorem w8a(h:p:=by simp[List.getD,G]):p:=h
theorem v8m(h:p:=by go_wp2;go_ret;exact V T):p:=h
theorem W2K(h:p:=by simpa using this):p:=h
theorem U3s(h:p:=by rw[List.length_take];exact f6J):p:=h
theorem s4P(h:p:=by simpa using R):p:=h
theorem g5F(h:p:=by exact h.block k G E):p:=h
theorem f0f(h:p:=by go_enter func235,ntmps235;exact t6v):p:=h
theorem f6y(h:p:=by go_enter func236,ntmps236;go_wp2;go_returns;exact⟨rfl,Y⟩):p:=h
theorem U4t(h:p:=by show 2<3;exact f6J):p:=h
theorem t6x(h:p:=by go_wp2;go_ret;exact⟨rfl,rfl⟩):p:=h
theorem i5v(h:p:=by exact⟨rfl,V T⟩):p:=h
theorem N3G(h:p:=by simp[List.getD,H]):p:=h
theorem N6t(h:p:=by simpa using A):p:=h
theorem I7L(h:p:=by go_wp2;go_returns;exact⟨rfl,(((b0r).alloc (l0r _) _).alloc M7M _).alloc P8P _⟩):p:=h
theorem n4Q(h:p:=by rw[t];exact f6J):p:=h
theorem f0k(h:p:=by simp_all):p:=h
theorem P6X(h:p:=by obtain⟨R,M,rfl,_,_⟩:=N.shape;rw[m,h0];go_enter func58,ntmps58;go_wp2;refine wp_loop_rounds 1 ?_;rw[rounds_succ];exact t6x):p:=h
theorem v9z(h:p:=by unfold maxLen at t;exact f6J):p:=h
theorem N3H(h:p:=by simp[List.getD,H]):p:=h
theorem V6s(h:p:=by simpa using d):p:=h
theorem E0X(h:p:=by simpa using af):p:=h
theorem v8o(h:p:=by go_wp2;go_ret;exact V T):p:=h
theorem E5g(h:p:=by exact⟨W,Z,Ok.of (fun z o=>by cases o) M7M D rfl rfl,R⟩):p:=h
theorem G3N(h:p:=by
 intro wr Y i hi;constructor
 ·rw[Y.cell (x0a (I i hi))];exact I i hi
 ·rw[Y.cell (x0a (r i f6J))];exact r i f6J):p:=h
theorem M2S(h:p:=by simpa using he):p:=h
theorem G9k(h:p:=by rw[beq_eq_false_iff_ne];exact f6J):p:=h
theorem I7o(h:p:=by go_wp2;go_ret;exact V HF):p:=h
theorem g6z(h:p:=by cases G):p:=h
theorem V0q(h:p:=by rw[List.drop_zero];exact rfl):p:=h
theorem p9k(h:p:=by obtain⟨R,M,rfl,_,_⟩:=N.shape;obtain⟨B,J,rfl,_,_⟩:=W.shape;rw[<- E,h0];go_enter func39,ntmps39;go_wp2;refine wp_loop_rounds 1 ?_;rw[rounds_succ];go_wp2;go_ret;exact T _ (x4g w)):p:=h
theorem i9r(h:p:=by go_wp2;go_ret;exact i5v):p:=h
theorem s7D(h:p:=by rw[IntKind.wrap_i64];exact f6J):p:=h
theorem M2T(h:p:=by simpa using he):p:=h
theorem U7L(h:p:=by go_wp2;go_ret;exact T):p:=h
theorem M8f(h:p:=by have:=V g;exact f6J):p:=h
theorem w7P(h:p:=by exact⟨0,rfl,f6J,by simp,x4g w⟩):p:=h
theorem e8Y(h:p:=by decide):p:=h
end
end Go.Proofs.YtbmckadcjdedcaaGreatDoor
namespace Go.Proofs.YtbmckadcjdedcaaGreatDoor.Cn
open Go.Proofs.Tryz
def walk(l:List Rec):Nat->List Int->Int->List Int->List Int×Int
 | 0,way,c,out=>if opn l c=[]then(if 32<=out.length then([],2)else(out++[c],0))else if c∈way then([],72)else([],73)
 | f+1,way,c,out =>
  if opn l c=[]then(if 32<=out.length then([],2)else(out++[c],0))else if c∈way then([],72)
  else(opn l c).foldl (fun s d=>if s.2=0 then walk l f (way++[c]) d s.1 else s) (out,0)
def full(l:List Rec)(c:Int):List Int×Int:=walk l 16 [] c []
def nameL(b:ByteArray):Bool:=match b.data.toList.map (·.toNat)with
 | [a,b,c,d]=>decide (65<=a/\a<=90/\97<=b/\b<=122/\97<=c/\c<=122/\97<=d/\d<=122)
 | _=>false
def weight(u:Nat):Bool:=decide (u<=9218868437227405312)
def scalar(c:Int):Bool:=decide (0<=c/\c<=1114111/\¬(55296<=c/\c<=57343))
def list(x:List Int)(least most:Nat):Bool:=decide (least<=x.length/\x.length<=most)&&x.all scalar
def bare(r:Rec)(n tq name other w:Bool):Bool :=
 (n||decide (r.n=0))&&(tq||decide (r.to.length=0))&&(name||decide (r.name.size=0))&&(other||decide (r.other.size=0))&&(w||decide (r.wt=0))
def right(r:Rec):Int :=
 if fam r.kind=0 then 60
 else if r.kind=15 then(if r.lo=0/\r.hi=0/\bare r false false true true true=true/\nameL r.name=true/\nameL r.other=true/\r.name≠r.other/\weight r.wt=true then 0 else 61)
 else if(decide (0<=r.lo/\r.lo<=r.hi/\r.hi<=1114111)&&(
  if r.kind=1\/r.kind=2\/r.kind=11 then bare r false false false false false
  else if r.kind=3 then bare r false true false false false&&list r.to 1 24
  else if r.kind=4 then bare r true true false false false&&decide (1<=r.n/\r.n<=64)&&list r.to 1 1&&decide (r.to.getD 0 0+r.hi-r.lo<=1114111/\(r.to.getD 0 0+r.hi-r.lo<55296\/57343<r.to.getD 0 0))
  else if r.kind=5 then decide (r.lo=r.hi)&&scalar r.lo&&bare r false true false false false&&list r.to 0 24
  else if r.kind=13 then decide (r.lo=r.hi)&&scalar r.lo&&bare r false true false false false&&list r.to 1 24
  else if r.kind=6 then bare r true false false false false&&decide (1<=r.n/\r.n<=254)
  else if r.kind=7 then decide (r.lo=r.hi)&&scalar r.lo&&bare r false true false false false&&list r.to 2 2
  else if r.kind=8 then decide (r.lo=r.hi)&&scalar r.lo&&bare r false true false false false&&list r.to 1 2
  else if r.kind=9 then bare r true false false false false&&decide (0<=r.n/\r.n<=10)
  else if r.kind=10 then bare r true false false false false&&decide (0<=r.n/\r.n<=5)
  else if r.kind=12 then bare r false false true false false&&nameL r.name
  else bare r false false false false true&&weight r.wt))=true then 0 else 61
def clashA(b:Rec)(s hi:Int):Nat->Int->Bool
 | 0,_=>false
 | k+1,c=>if c<=hi then(speaks b c||clashA b s hi k (c+s))else false
def clash(a b:Rec):Bool :=
 if fam a.kind≠fam b.kind then false
 else if a.kind=15 then decide ((a.name=b.name/\a.other=b.other)\/(a.name=b.other/\a.other=b.name))
 else clashA b (step a) (min a.hi b.hi) 64 (if a.lo<max a.lo b.lo then a.lo+(max a.lo b.lo-a.lo+step a-1) / step a*step a else a.lo)
def x1f:Nat->List Rec->Option (Nat×Int)
 | _,[]=>Option.none
 | i,r::l=>if right r=0 then x1f (i+1) l else some (i,right r)
def x1E(l:List Rec):Nat->List Rec->Option Nat
 | _,[]=>Option.none
 | i,r::m=>if(l.take i).any (fun k=>clash k r)then some i else x1E l (i+1) m
def check6(l:List Rec):Nat×Int :=
 if 4096<l.length then(0,3)else match x1f 0 l with
  | some x=>x
  | Option.none=>match x1E l 0 l with
   | some i=>(i,62)
   | Option.none=>(0,0)
def covers(r:Rec)(lo hi:Int):Bool:=decide (r.lo<=hi/\lo<=r.hi)
def jl(c:Int):Bool:=decide (4352<=c/\c<=4370)
def jv(c:Int):Bool:=decide (4449<=c/\c<=4469)
def jt(c:Int):Bool:=decide (4520<=c/\c<=4546)
def fallsA(l:List Rec):List Int->Bool
 | a::b::r=>(decide (cls l b≠0/\cls l b<cls l a))||fallsA l (b::r)
 | _=>false
def pair(l:List Rec)(i:Nat)(r:Rec):Bool :=
 !(decide (cls l r.lo≠0)||decide (cls l (r.to.getD 0 0)≠0)||decide (opn l (r.to.getD 1 0)≠[])||(decide (opn l (r.to.getD 0 0)≠[])&&(prim l (r.to.getD 0 0)).isNone)||decide (r.to.getD 1 0<128)||decide (r.to.getD 0 0=46)) &&
 !((l.take i).any fun k=>decide (k.kind=7/\k.to.getD 0 0=r.to.getD 0 0/\k.to.getD 1 0=r.to.getD 1 0))
def record(l:List Rec)(i:Nat)(r:Rec):Int :=
 if fam r.kind≠2/\fam r.kind≠3 then 0
 else if covers r 0 127 then 70
 else if covers r 4352 4370||covers r 4449 4469||covers r 4520 4546||covers r 44032 55203 then 71
 else if r.kind=7/\((jl (r.to.getD 0 0)&&jv (r.to.getD 1 0))||(syl (r.to.getD 0 0)&&decide ((r.to.getD 0 0-44032)%28=0)&&jt (r.to.getD 1 0)))=true then 71
 else if fam r.kind=2 then 0
 else if(full l r.lo).2≠0 then(full l r.lo).2
 else if fallsA l (full l r.lo).1 then 75
 else if r.kind=7/\pair l i r=false then 74
 else 0
def x0U(l:List Rec):Nat->List Rec->Option (Nat×Int)
 | _,[]=>Option.none
 | i,r::m=>if record l i r=0 then x0U l (i+1) m else some (i,record l i r)
def plain(l:List Rec)(c:Int):Bool:=match hit l 1 c with | some r=>decide (r.kind=1) | Option.none=>false
def baseOf(c:Int):Bool:=decide (c=45\/c=46\/(48<=c/\c<=57)\/97<=c)
def baseA(l:List Rec):Nat->Int->Bool
 | 0,_=>true
 | k+1,c=>(!(baseOf c)||plain l c)&&baseA l k (c+1)
def check(l:List Rec):Nat×Int :=
 if(check6 l).2≠0 then check6 l else match x0U l 0 l with
  | some x=>x
  | Option.none=>if baseA l 78 45 then(0,0)else(l.length,70)
end Go.Proofs.YtbmckadcjdedcaaGreatDoor.Cn
namespace Go.Proofs.YtbmckadcjdedcaaGreatDoor
open Go.Proofs.Tryz
open Go.RowKit
def Rune(c:Int):Prop:=-2147483648<=c/\c<=2147483647
def x7t(w:World)(r:List Int×Int)(e:Ending)(w':World):Prop:=∃v,e=.returned (.tuple #[v,.int .i64 r.2])/\Ok .i32 21 w' w.heap.size v r.1/\Below w.heap.size w w'
def x4a(w:World)(r:Nat×Int)(e:Ending)(w':World):Prop:=e=.returned (.tuple #[.int .i64 (r.1:Int),.int .i64 r.2])/\Below w.heap.size w w'
def x2S(w:World)(b:Bool)(e:Ending)(w':World):Prop:=e=.returned (.bool b)/\Below w.heap.size w w'
theorem Rcs.nil w:Rcs w (.slice none 0 0) []:=⟨M7L,fun _ h=>m5l,.inl ⟨rfl,none,0,rfl,f6J⟩⟩
def z7s:Prop:=∀(v:Value) (rs:List Rec) (c:Int) (w:World),Rcs w v rs->Rune c->Calls prog 78 #[v,.int .i32 c] w (x7t w (Cn.full rs c))
theorem x1c{w v zs}(h:Sk .i32 w v zs){i}(hi:i<zs.length):Rune (zs.getD i 0):=by
 have:=h.1 (zs.getD i 0) n7A;unfold Rune;simpa[IntKind.min,IntKind.max,IntKind.signed,IntKind.bits]using this
def y6O:Prop:=∀(v:Value) (rs:List Rec) (w:World),Rcs w v rs->Calls prog 23 #[v] w (x4a w (Cn.check rs))
structure Row9 where
 word:ByteArray
 fam:Int
 least:Int
 most:Int
 low:Int
 high:Int
 said:ByteArray
 scr:Int
 wei:Bool
namespace Cn
def txt(s:String):ByteArray:=s.toUTF8
def rowT:Nat->Row9
 | 1 => ⟨txt "valid", 1, 0, 0, 0, 0, ⟨#[]⟩, 0, false⟩
 | 2 => ⟨txt "ignored", 1, 0, 0, 0, 0, ⟨#[]⟩, 0, false⟩
 | 3 => ⟨txt "mapped", 1, 1, 24, 0, 0, ⟨#[]⟩, 0, false⟩
 | 4 => ⟨txt "shift", 1, 1, 1, 1, 64, ⟨#[]⟩, 0, false⟩
 | 5 => ⟨txt "deviation", 1, 0, 24, 0, 0, ⟨#[]⟩, 0, false⟩
 | 6 => ⟨txt "class", 2, 0, 0, 1, 254, ⟨#[]⟩, 0, false⟩
 | 7 => ⟨txt "decomp", 3, 2, 2, 0, 0, ⟨#[]⟩, 0, false⟩
 | 8 => ⟨txt "opens", 3, 1, 2, 0, 0, ⟨#[]⟩, 0, false⟩
 | 9 => ⟨txt "bidi", 4, 0, 0, 0, 10, txt "L R AL AN EN ES CS ET ON BN NSM", 0, false⟩
 | 10 => ⟨txt "join", 5, 0, 0, 0, 5, txt "U R L D C T", 0, false⟩
 | 11 => ⟨txt "mark", 6, 0, 0, 0, 0, ⟨#[]⟩, 0, false⟩
 | 12 => ⟨txt "script", 7, 0, 0, 0, 0, ⟨#[]⟩, 1, false⟩
 | 13 => ⟨txt "looks", 8, 1, 24, 0, 0, ⟨#[]⟩, 0, false⟩
 | 14 => ⟨txt "weight", 9, 0, 0, 0, 0, ⟨#[]⟩, 0, true⟩
 | 15 => ⟨txt "mix", 10, 0, 0, 0, 0, ⟨#[]⟩, 2, true⟩
 | _=>⟨⟨#[]⟩,0,0,0,0,0,⟨#[]⟩,0,false⟩
def rowK(k:Int):Row9:=if k<0\/16<=k then rowT 0 else rowT k.toNat
theorem z3a k:(rowK k).fam=fam k:=by
 unfold rowK;split
 ·next h =>
  unfold fam;rw[if_pos f6J];rfl
 ·next h =>
  obtain⟨n,rfl⟩:∃n:Nat,k=n:=⟨k.toNat,f6J⟩;have E:n<16:=f6J;rw[Int.toNat_natCast];have:∀n,n<16->(rowT n).fam=fam n:=e8N;exact this n E
end Cn
structure x1F(w:World)(o:Nat)(r:Row9):Prop where
 c0:w.cell? ⟨1,o,none⟩=some (.string r.word)
 c1:w.cell? ⟨1,o+1,none⟩=some (.int .i64 r.fam)
 c2:w.cell? ⟨1,o+2,none⟩=some (.int .i64 r.least)
 c3:w.cell? ⟨1,o+3,none⟩=some (.int .i64 r.most)
 c4:w.cell? ⟨1,o+4,none⟩=some (.int .i64 r.low)
 c5:w.cell? ⟨1,o+5,none⟩=some (.int .i64 r.high)
 c6:w.cell? ⟨1,o+6,none⟩=some (.string r.said)
 c7:w.cell? ⟨1,o+7,none⟩=some (.int .i64 r.scr)
 c8:w.cell? ⟨1,o+8,none⟩=some (.bool r.wei)
def Glob(w:World):Prop:=∀k,k<16->x1F w (k*9) (Cn.rowT k)
theorem Glob.on{w w'}(h:Glob w)(Y:Bw w w'):Glob w':=fun k G=>by
 obtain⟨A,Z,D,R,H,p,F,o,E⟩:=h k G
 exact⟨by rw[Y.cell (x0a A)];exact A,v4i,by rw[Y.cell (x0a D)];exact D,I8b,by rw[Y.cell (x0a H)];exact H,
  by rw[Y.cell (x0a p)];exact p,by rw[Y.cell (x0a F)];exact F,by rw[Y.cell (x0a o)];exact o,w3c⟩
def rowV(r:Row9):Value:=.agg #[.string r.word,.int .i64 r.fam,.int .i64 r.least,.int .i64 r.most,.int .i64 r.low,.int .i64 r.high,.string r.said,.int .i64 r.scr,.bool r.wei]
def shV(k:Int):Value:=.agg #[.int .i64 k]
theorem x7b k w(C:Glob w)(G:I64 k):Calls prog 236 #[shV k] w (fun e w'=>e=.returned (rowV (Cn.rowK k))/\Bw w w'):=by
 obtain⟨d,B⟩:=G;have Y:Bw w ((w.alloc (.cells #[.int .i64 k] 257)).alloc (.cells #[.string ⟨#[]⟩,.int .i64 0,.int .i64 0,.int .i64 0,.int .i64 0,.int .i64 0,.string ⟨#[]⟩,.int .i64 0,.bool false] 313)):=((b0r).alloc (l0r _) _).alloc M7L _;unfold shV Cn.rowK;by_cases h:k<0
 ·rw[if_pos (.inl h)];exact f6y
 ·by_cases D:16<=k
  ·rw[if_pos (.inr D)];exact f6y
  ·rw[if_neg f6J];obtain⟨n,rfl⟩:∃n:Nat,k=n:=⟨k.toNat,f6J⟩;rw[Int.toNat_natCast];have E:n<16:=f6J;have F:=Below.refl w.heap.size w;obtain⟨x,u,S,p,g,t,y,H,J⟩:=(C.on Y) n E;have T:∀W,Bw w W->Bw w W:=fun W h=>h;go_enter func236,ntmps236;go_wp2;go_returns;exact⟨rfl,((b0r).alloc (l0r _) _).alloc M7L _⟩
theorem fld1(r:Row9) w:(Instr.field 313 (.agg #[.string r.word,.int .i64 r.fam,.int .i64 r.least,.int .i64 r.most,.int .i64 r.low,.int .i64 r.high,.string r.said,.int .i64 r.scr,.bool r.wei]) 1).run prog w=.ok (.int .i64 r.fam) w:=f4x
theorem fld7(r:Row9) w:(Instr.field 313 (.agg #[.string r.word,.int .i64 r.fam,.int .i64 r.least,.int .i64 r.most,.int .i64 r.low,.int .i64 r.high,.string r.said,.int .i64 r.scr,.bool r.wei]) 7).run prog w=.ok (.int .i64 r.scr) w:=f4x
theorem fld8(r:Row9) w:(Instr.field 313 (.agg #[.string r.word,.int .i64 r.fam,.int .i64 r.least,.int .i64 r.most,.int .i64 r.low,.int .i64 r.high,.string r.said,.int .i64 r.scr,.bool r.wei]) 8).run prog w=.ok (.bool r.wei) w:=f4x
theorem x4y k w(C:Glob w)(G:I64 k):Calls prog 184 #[shV k] w (IntB w (Cn.fam k)):=by
 have Y:Bw w (w.alloc (.cells #[.int .i64 k] 257)):=(b0r).alloc (l0r _) _;have K:=O (x7b k (w.alloc (.cells #[.int .i64 k] 257)) (C.on Y) G);rw[<- Cn.z3a];generalize Cn.rowK k=r at *;have y:=fld1 r;unfold shV rowV at *;go_enter func184,ntmps184;go_wp2_with fail;refine c0m K fun Q E=>?_;have T:IntB w r.fam (.returned (.int .i64 r.fam)) Q:=⟨rfl,x0b Y E⟩;go_wp2;go_ret;exact T
theorem x1n k w(C:Glob w)(G:I64 k):Calls prog 134 #[.int .i64 k] w (IntB w (Cn.fam k)):=by
 have K:=O (x4y k w C G);unfold shV at K;go_enter func134,ntmps134;go_wp2_with fail;refine c0m K fun Q E=>?_;go_wp2;go_ret;exact⟨rfl,E⟩
def shape(k:Int):Value:=.iface (if k=4 then 309 else if k=5\/k=7\/k=8\/k=13 then 310 else if k=15 then 311 else 307) (shV k)
theorem x1q k w(G:I64 k):Calls prog 182 #[.int .i64 k] w (fun e w'=>e=.returned (shape k)/\Bw w w'):=by
 have Y:Bw w (w.alloc (.cells #[.int .i64 k] 257)):=(b0r).alloc (l0r _) _;unfold shape shV;obtain⟨d,B⟩:=G;by_cases H:k=4
 ·subst H;exact F9G
 ·by_cases p:k=5\/k=7\/k=8\/k=13
  ·rcases p with rfl|rfl|rfl|rfl
   all_goals
    go_enter func182,ntmps182;go_wp2;go_ret;exact⟨rfl,Y⟩
  ·by_cases j:k=15
   ·subst j;exact F9G
   ·rw[if_neg H,if_neg p,if_neg j];have N:(k==4)=false:=b0f H;have c:(k==5)=false:=b0f f6J;have E:(k==7)=false:=b0f f6J;have K:(k==8)=false:=b0f f6J;have A:(k==13)=false:=b0f f6J;have F:(k==15)=false:=b0f j;exact F9G
/-! What a call through a kind's shape comes tq. -/
theorem x7D k w : (method 499 309 (.agg #[.int .i64 k]) "endonym/table.family").run Tryz.prog w = .ok (184, .agg #[.int .i64 k]) w := f4x
theorem x7F k w : (method 499 309 (.agg #[.int .i64 k]) "endonym/table.placed").run Tryz.prog w = .ok (347, .agg #[.int .i64 k]) w := f4x
theorem x5F k w : (method 499 309 (.agg #[.int .i64 k]) "endonym/table.targeted").run Tryz.prog w = .ok (338, .agg #[.int .i64 k]) w := f4x
theorem x5D k w : (method 499 309 (.agg #[.int .i64 k]) "endonym/table.numbered").run Tryz.prog w = .ok (335, .agg #[.int .i64 k]) w := f4x
theorem x9i k w : (method 499 309 (.agg #[.int .i64 k]) "endonym/table.named").run Tryz.prog w = .ok (333, .agg #[.int .i64 k]) w := f4x
theorem x6O k w : (method 499 309 (.agg #[.int .i64 k]) "endonym/table.weighed").run Tryz.prog w = .ok (339, .agg #[.int .i64 k]) w := f4x
theorem x3H k w : (method 499 309 (.agg #[.int .i64 k]) "endonym/table.spoken").run Tryz.prog w = .ok (348, .agg #[.int .i64 k]) w := f4x
theorem x9h k w : (method 499 310 (.agg #[.int .i64 k]) "endonym/table.family").run Tryz.prog w = .ok (184, .agg #[.int .i64 k]) w := f4x
theorem x9l k w : (method 499 310 (.agg #[.int .i64 k]) "endonym/table.placed").run Tryz.prog w = .ok (351, .agg #[.int .i64 k]) w := f4x
theorem x6N k w : (method 499 310 (.agg #[.int .i64 k]) "endonym/table.targeted").run Tryz.prog w = .ok (338, .agg #[.int .i64 k]) w := f4x
theorem x6L k w : (method 499 310 (.agg #[.int .i64 k]) "endonym/table.numbered").run Tryz.prog w = .ok (335, .agg #[.int .i64 k]) w := f4x
theorem y0K k w : (method 499 310 (.agg #[.int .i64 k]) "endonym/table.named").run Tryz.prog w = .ok (333, .agg #[.int .i64 k]) w := f4x
theorem x7I k w : (method 499 310 (.agg #[.int .i64 k]) "endonym/table.weighed").run Tryz.prog w = .ok (339, .agg #[.int .i64 k]) w := f4x
theorem x4o k w : (method 499 310 (.agg #[.int .i64 k]) "endonym/table.spoken").run Tryz.prog w = .ok (337, .agg #[.int .i64 k]) w := f4x
theorem x9g k w : (method 499 311 (.agg #[.int .i64 k]) "endonym/table.family").run Tryz.prog w = .ok (184, .agg #[.int .i64 k]) w := f4x
theorem x9k k w : (method 499 311 (.agg #[.int .i64 k]) "endonym/table.placed").run Tryz.prog w = .ok (354, .agg #[.int .i64 k]) w := f4x
theorem x6M k w : (method 499 311 (.agg #[.int .i64 k]) "endonym/table.targeted").run Tryz.prog w = .ok (338, .agg #[.int .i64 k]) w := f4x
theorem x6K k w : (method 499 311 (.agg #[.int .i64 k]) "endonym/table.numbered").run Tryz.prog w = .ok (335, .agg #[.int .i64 k]) w := f4x
theorem y0J k w : (method 499 311 (.agg #[.int .i64 k]) "endonym/table.named").run Tryz.prog w = .ok (333, .agg #[.int .i64 k]) w := f4x
theorem x7H k w : (method 499 311 (.agg #[.int .i64 k]) "endonym/table.weighed").run Tryz.prog w = .ok (339, .agg #[.int .i64 k]) w := f4x
theorem x7E k w : (method 499 307 (.agg #[.int .i64 k]) "endonym/table.family").run Tryz.prog w = .ok (184, .agg #[.int .i64 k]) w := f4x
theorem x7G k w : (method 499 307 (.agg #[.int .i64 k]) "endonym/table.placed").run Tryz.prog w = .ok (346, .agg #[.int .i64 k]) w := f4x
theorem x5G k w : (method 499 307 (.agg #[.int .i64 k]) "endonym/table.targeted").run Tryz.prog w = .ok (338, .agg #[.int .i64 k]) w := f4x
theorem x5E k w : (method 499 307 (.agg #[.int .i64 k]) "endonym/table.numbered").run Tryz.prog w = .ok (335, .agg #[.int .i64 k]) w := f4x
theorem x9j k w : (method 499 307 (.agg #[.int .i64 k]) "endonym/table.named").run Tryz.prog w = .ok (333, .agg #[.int .i64 k]) w := f4x
theorem x6P k w : (method 499 307 (.agg #[.int .i64 k]) "endonym/table.weighed").run Tryz.prog w = .ok (339, .agg #[.int .i64 k]) w := f4x
theorem x3I k w : (method 499 307 (.agg #[.int .i64 k]) "endonym/table.spoken").run Tryz.prog w = .ok (337, .agg #[.int .i64 k]) w := f4x
def z7l:Prop:=∀(v:Value) (rs:List Rec) (c:Int) (w:World),Glob w->Rcs w v rs->Rune c->Calls prog 233 #[v,.int .i32 c] w (IntB w (Cn.cls rs c))
def OpenC:Prop:=∀(v:Value) (rs:List Rec) (c:Int) (w:World),Glob w->Rcs w v rs->Rune c->Calls prog 285 #[v,.int .i32 c] w (x0j w (Cn.opn rs c))
def PrimC:Prop:=∀(v:Value) (rs:List Rec) (c:Int) (w:World),Glob w->Rcs w v rs->Rune c->Calls prog 234 #[v,.int .i32 c] w (x6h w (Cn.prim rs c))
def z7j:Prop:=∀(v:Value) (rs:List Rec) (w:World),Glob w->Rcs w v rs->Calls prog 45 #[v] w (x4a w (Cn.check rs))
def isPt(c:Int):Bool:=decide (0<=c/\c<=1114111)
theorem x2D c w(I:I64 c):Calls prog 235 #[.int .i64 c] w fun e w'=>e=.returned (.bool (isPt c))/\w'=w:=by
 obtain⟨l,j⟩:=I;unfold isPt;by_cases A:0<=c
 ·by_cases Z:c<=1114111
  ·rw[d0t ⟨A,Z⟩];exact f0f
  ·rw[d0f f6J];exact f0f
 ·rw[d0f f6J];exact f0f
def runV(lo hi s:Int):Value:=.agg #[.int .i64 lo,.int .i64 hi,.int .i64 s]
def hasB(lo hi s c:Int):Bool:=decide (0<=c/\c<=1114111/\lo<=c/\c<=hi/\0<s/\(c-lo)%s=0)
theorem z0S{c lo}(A:0<=c)(Z:c<=1114111)(D:lo<=c)(R:-9223372036854775808<=lo):IntKind.u64.wrap (IntKind.i64.wrap (c-lo))=c-lo:=by
 by_cases E:c-lo<=9223372036854775807
 ·rw[IntWalk.i64_in _ ⟨f6J,f6J⟩,IntWalk.u64_in _ ⟨f6J,f6J⟩]
 ·have e:IntKind.i64.wrap (c-lo)=c-lo-18446744073709551616:=by
   unfold IntKind.wrap;have Y:(2:Int)^IntKind.i64.bits=18446744073709551616:=e8N;have F:(2:Int)^(IntKind.i64.bits-1)=9223372036854775808:=e8N;simp only[Y,F,IntKind.signed];simp;omega
  rw[e];exact s9u
theorem y2r lo hi s c w(S:I64 lo)(a:I64 hi)(U:I64 s)(I:I64 c):Calls prog 183 #[runV lo hi s,.int .i64 c] w (x0c w (hasB lo hi s c)):=by
 have Y:Bw w (w.alloc (.cells #[.int .i64 lo,.int .i64 hi,.int .i64 s] 251)):=(b0r).alloc (l0r _) _;have K:=O (x2D c (w.alloc (.cells #[.int .i64 lo,.int .i64 hi,.int .i64 s] 251)) I);obtain⟨t,i⟩:=S;obtain⟨C,J⟩:=a;obtain⟨H,N⟩:=U;obtain⟨l,j⟩:=I;unfold runV;by_cases R:0<=c/\c<=1114111
 ·have P:isPt c=true:=d0t R;rw[P]at K;by_cases D:lo<=c
  ·by_cases b:c<=hi
   ·by_cases G:0<s
    ·have d:=z0S R.1 R.2 D t;have T:IntKind.u64.wrap s=s:=IntWalk.u64_in _ ⟨f6J,f6J⟩;have A:(c-lo).tmod s=(c-lo)%s:=Int.tmod_eq_emod_of_nonneg f6J;have B:(s==0)=false:=b0f f6J
     have e:hasB lo hi s c=((c-lo)%s==0):=by
      unfold hasB;by_cases q:(c-lo)%s=0
      ·rw[d0t ⟨R.1,R.2,D,b,G,q⟩,q];rfl
      ·rw[d0f (fun h=>q h.2.2.2.2.2),b0f q]
     rw[e];obtain⟨L,E⟩:=R;go_enter func183,ntmps183;go_wp2_with fail;refine c0m K fun Q F=>?_;subst Q;go_wp2;go_ret;refine⟨?_,Y⟩;show Ending.returned (.bool ((IntKind.u64.wrap (wrap64 (c-lo))).tmod s==0))=_;rw[<- IntWalk.i64_left,d,A]
    ·exact t4c
   ·exact t4c
  ·exact t4c
 ·have P:isPt c=false:=d0f R;rw[P]at K;exact t4c
theorem x5J k r vt w:Calls prog 337 #[shV k,recV r vt] w (fun e w'=>e=.returned (runV r.lo r.hi 1)/\Bw w w'):=by
 unfold shV recV runV;go_enter func337,ntmps337;exact I7L
theorem x5d k r vt w:Calls prog 348 #[shV k,recV r vt] w (fun e w'=>e=.returned (runV r.lo r.hi r.n)/\Bw w w'):=by
 unfold shV recV runV;go_enter func348,ntmps348;exact I7L
def stepP(r:Rec):Int:=if r.kind=4 then r.n else 1
theorem y2p r c(h:r.kind≠15):hasB r.lo r.hi (stepP r) c=Cn.speaks r c:=by
 unfold hasB stepP Cn.speaks Cn.step;refine decide_eq_decide.2 ?_;by_cases H:r.kind=4
 ·grind
 ·grind
theorem rd9{P : Program}{A : Array Oper}{Q : Exit -> Act -> World -> Prop}{J : Region.Mode}{S : World -> Prop}(i : Nat){o : Oper}{B : Nat}{listed : Array Bool}{a : Act}{w : World}(h : ∀C : Act -> World -> Prop, Shut (∀a w, S w -> (S w -> wpAnyH P J A Q S B (listed.setIfInBounds i true) a w) -> C a w) -> if Region.wanted o (yielded A a.tmps) = true then Oper.wp P o a w C Q else C (a.put o.dst undef) w)(y : A.toList[i]? = some o := by exact rfl)(hr : Region.ready J A listed = [i] := by kernel_rfl) : wpAnyH P J A Q S (B + 1) listed a w := wpAnyH_ready hr M7K (AllReadyH.cons (by rw[<- y];exact M7K) h AllReadyH.nil)
def x2L(k:Int):Nat:=if k=4 then 348 else 337
theorem x5g k r vt w(G:r.kind=k):Calls prog (x2L k) #[shV k,recV r vt] w (fun e w'=>e=.returned (runV r.lo r.hi (stepP r))/\Bw w w'):=by
 unfold x2L stepP;by_cases H:k=4
 ·rw[if_pos H,if_pos (G.trans H)];exact x5d k r vt w
 ·rw[if_neg H,if_neg (fun e=>H (G.symm.trans e))];exact x5J k r vt w
theorem y8g r vt f c B C w(X:RecFit r)(hg:Glob w)(hB:w.cell? ⟨B,0,none⟩=some (.int .i64 f))(y:w.cell? ⟨C,0,none⟩=some (.int .i32 c))(q:0<f/\f<10)(I:-2147483648<=c/\c<=2147483647) :
  Calls prog 181 #[recV r vt,.pointer (some ⟨B,0,none⟩),.pointer (some ⟨C,0,none⟩)] w (x0c w (decide (Cn.fam r.kind=f)&&Cn.speaks r c)):=by
 have ae:=X.kind;have ag:=X.lo;have af:=X.hi;have v:=X.n
 have u:I64 (stepP r):=by
  unfold stepP;split
  ·exact v
  ·unfold I64;omega
 by_cases L:Cn.fam r.kind=f
 ·have b:r.kind≠15:=fun e=>(by rw[e,(e8P:Cn.fam 15=10)]at L;exact f6J);have e:(decide (Cn.fam r.kind=f)&&Cn.speaks r c)=hasB r.lo r.hi (stepP r) c:=(by rw[d0t L,y2p r c b];rfl);rw[e];subst L;have o:Hid (∀W,Bw w W->Calls prog 134 #[.int .i64 r.kind] W (IntB W (Cn.fam r.kind))):=fun W h=>x1n r.kind W (hg.on h) ae;have t:Hid (∀W,Calls prog 182 #[.int .i64 r.kind] W (fun e l=>e=.returned (shape r.kind)/\Bw W l)):=fun W=>x1q r.kind W ae;have KP:Hid (∀W,Calls prog (x2L r.kind) #[shV r.kind,recV r vt] W (fun e l=>e=.returned (runV r.lo r.hi (stepP r))/\Bw W l)):=fun W=>x5g r.kind r vt W rfl;have P:Hid (∀W,Calls prog 183 #[runV r.lo r.hi (stepP r),.int .i64 c] W (x0c W (hasB r.lo r.hi (stepP r) c))):=fun W=>y2r _ _ _ _ W ag af u ⟨f6J,f6J⟩;have m:(Cn.fam r.kind==Cn.fam r.kind)=true:=beq_self_eq_true _;generalize hasB r.lo r.hi (stepP r) c=ab at *;generalize stepP r=M at *;generalize Cn.fam r.kind=k at *;clear X hg e;unfold recV shape shV runV at *;have ai:IntKind.i64.wrap c=c:=IntWalk.i64_in _ ⟨f6J,f6J⟩;by_cases H:r.kind=4
  ·rw[if_pos H]at t;have g:x2L r.kind=348:=(by unfold x2L;rw[if_pos H]);rw[g]at KP;have z:=x3H r.kind;clear g H;exact t3W
  ·have g:x2L r.kind=337:=(by unfold x2L;rw[if_neg H]);rw[g]at KP;rw[if_neg H]at t;by_cases p:r.kind=5\/r.kind=7\/r.kind=8\/r.kind=13
   ·rw[if_pos p]at t;have z:=x4o r.kind;clear g H p;exact t3W
   ·rw[if_neg p,if_neg b]at t;have z:=x3I r.kind;clear g H p;exact t3W
 ·have e:(decide (Cn.fam r.kind=f)&&Cn.speaks r c)=false:=(by rw[d0f L];rfl);rw[e];have m:(Cn.fam r.kind==f)=false:=b0f L;have o:Hid (∀W,Bw w W->Calls prog 134 #[.int .i64 r.kind] W (IntB W (Cn.fam r.kind))):=fun W h=>x1n r.kind W (hg.on h) ae;generalize Cn.fam r.kind=k at *;clear X hg e u;unfold recV;generalize r.kind=kd,r.n=n,r.lo=lo,r.hi=hi at *;generalize r.name=nm,r.other=ot,r.wt=J at *;have A:Bw w (w.alloc (.cells #[.int .i64 kd,.int .i64 lo,.int .i64 hi,.int .i64 n,vt,.string nm,.string ot,.float .f64 J] 67)):=(b0r).alloc (l0r _) _
  have R:(w.alloc (.cells #[.int .i64 kd,.int .i64 lo,.int .i64 hi,.int .i64 n,vt,.string nm,.string ot,.float .f64 J] 67)).heap[w.heap.size]?=some (.cells #[.int .i64 kd,.int .i64 lo,.int .i64 hi,.int .i64 n,vt,.string nm,.string ot,.float .f64 J] 67 (0,0)):=by
   show(w.heap.push _)[w.heap.size]?=_;simp
  go_enter func181,ntmps181;go_wp2;generalize(w.alloc (.cells #[.int .i64 kd,.int .i64 lo,.int .i64 hi,.int .i64 n,vt,.string nm,.string ot,.float .f64 J] 67))=U at *
  have i:Hid (∀W,Bw U W->W.cell? ⟨B,0,none⟩=some (.int .i64 f)/\W.cell? ⟨C,0,none⟩=some (.int .i32 c)/\W.cell? ⟨w.heap.size,0,none⟩=some (.int .i64 kd)/\W.cell? ⟨w.heap.size,1,none⟩=some (.int .i64 lo)/\W.cell? ⟨w.heap.size,2,none⟩=some (.int .i64 hi)/\W.cell? ⟨w.heap.size,3,none⟩=some (.int .i64 n)/\W.cell? ⟨w.heap.size,4,none⟩=some (vt)/\W.cell? ⟨w.heap.size,5,none⟩=some (.string nm)/\W.cell? ⟨w.heap.size,6,none⟩=some (.string ot)/\W.cell? ⟨w.heap.size,7,none⟩=some (.float .f64 J)/\Hid (Bw U W)):=fun W h=>by
   have Z:Bw w W:=x0b A h
   have D:W.heap[w.heap.size]?=_:=(h.block _ (by
    rcases Nat.lt_or_ge w.heap.size U.heap.size with a|a
    ·exact a
    ·rw[Array.getElem?_eq_none a]at R;cases R)).trans R
   exact⟨by rw[Z.cell (x0a hB)];exact hB,by rw[Z.cell (x0a y)];exact y,cell_of (j:=0) D (by simp),cell_of (j:=1) D (by simp),cell_of (j:=2) D (by simp),cell_of (j:=3) D (by simp),cell_of (j:=4) D (by simp),cell_of (j:=5) D (by simp),cell_of (j:=6) D (by simp),cell_of (j:=7) D (by simp),h⟩
  have Y:Hid (∀W,(W.cell? ⟨B,0,none⟩=some (.int .i64 f)/\W.cell? ⟨C,0,none⟩=some (.int .i32 c)/\W.cell? ⟨w.heap.size,0,none⟩=some (.int .i64 kd)/\W.cell? ⟨w.heap.size,1,none⟩=some (.int .i64 lo)/\W.cell? ⟨w.heap.size,2,none⟩=some (.int .i64 hi)/\W.cell? ⟨w.heap.size,3,none⟩=some (.int .i64 n)/\W.cell? ⟨w.heap.size,4,none⟩=some (vt)/\W.cell? ⟨w.heap.size,5,none⟩=some (.string nm)/\W.cell? ⟨w.heap.size,6,none⟩=some (.string ot)/\W.cell? ⟨w.heap.size,7,none⟩=some (.float .f64 J)/\Hid (Bw U W))->Bw U W):=fun W h=>h.2.2.2.2.2.2.2.2.2.2;clear hB y;refine wp_region_held_drew (S:=fun l=>l.cell? ⟨B,0,none⟩=some (.int .i64 f)/\l.cell? ⟨C,0,none⟩=some (.int .i32 c)/\l.cell? ⟨w.heap.size,0,none⟩=some (.int .i64 kd)/\l.cell? ⟨w.heap.size,1,none⟩=some (.int .i64 lo)/\l.cell? ⟨w.heap.size,2,none⟩=some (.int .i64 hi)/\l.cell? ⟨w.heap.size,3,none⟩=some (.int .i64 n)/\l.cell? ⟨w.heap.size,4,none⟩=some (vt)/\l.cell? ⟨w.heap.size,5,none⟩=some (.string nm)/\l.cell? ⟨w.heap.size,6,none⟩=some (.string ot)/\l.cell? ⟨w.heap.size,7,none⟩=some (.float .f64 J)/\Hid (Bw U l)) f4z (V i _ (x0k ⟨1,rfl⟩)) (fun hHeld=>?_);refine tk9 0 (.pointer (some ⟨w.heap.size,0,none⟩)) ?_;refine tk9 1 (.int .i64 kd) ?_;refine tk9 3 (.int .i64 f) ?_;refine rd9 2 fun K hK=>?_;go_simp;refine(V o _ (x0b A (V Y _ hHeld))).mono ?_;rintro e Q ⟨rfl,E⟩;go_wp2_with fail;refine hK.out _ _ ?_ (fun hHeld=>?_)
  ·exact V i _ (x0b (V Y _ hHeld) E)
  clear hK K
  try simp only[Act.put,sa9,sb9,sc9]
  refine tk9 4 (.bool false) ?_;refine tk9 5 (.bool false) ?_;refine tn9 6 ?_;refine tn9 7 ?_;refine tn9 8 ?_;refine tn9 9 ?_;refine tn9 10 ?_;refine tn9 11 ?_;refine tn9 12 ?_;refine tn9 13 ?_;refine tk9 14 (.bool false) ?_;refine tk9 15 (.bool false) ?_;refine wpAnyH_done f4z ?_ _;have T:x0c w false (.returned (.bool false)) Q:=⟨rfl,x0b A (V Y _ hHeld)⟩;clear hHeld o i Y;exact U7J
end Go.Proofs.YtbmckadcjdedcaaGreatDoor
namespace Go.Proofs.YtbmckadcjdedcaaGreatDoor.Cn
open Go.Proofs.Tryz
theorem x0Y{l c}(h:opn l c=[]) f way out:walk l f way c out=if 32<=out.length then([],2)else(out++[c],0):=by
 cases f<;>rw[walk,if_pos h]
theorem x2v{l c}(h:opn l c≠[]) f{way}(t:c∈way) out:walk l f way c out=([],72):=by
 cases f<;>rw[walk,if_neg h,if_pos t]
theorem x7p{l c}(h:opn l c≠[]){way}(t:¬c∈way) out:walk l 0 way c out=([],73):=by
 rw[walk,if_neg h,if_neg t]
def stepW(l:List Rec)(f:Nat)(way:List Int)(s:List Int×Int)(d:Int):List Int×Int:=if s.2=0 then walk l f way d s.1 else s
theorem x7q{l c}(h:opn l c≠[]) f{way}(t:¬c∈way) out:walk l (f+1) way c out=(opn l c).foldl (stepW l f (way++[c])) (out,0):=by
 rw[walk,if_neg h,if_neg t];rfl
theorem x1K(l:List Rec)(f:Nat)(B:List Int):∀(xs:List Int) (s:List Int×Int),s.2≠0->xs.foldl (stepW l f B) s=s
 | [],_,_=>rfl
 | x::xs,s,h=>by
  rw[List.foldl_cons,stepW,if_neg h];exact x1K l f B xs s h
theorem x6v{l f}{B xs out:List Int}{k}(G:k<xs.length):(xs.drop k).foldl (stepW l f B) (out,0)=(xs.drop (k+1)).foldl (stepW l f B) (walk l f B (xs.getD k 0) out):=by
 rw[List.drop_eq_getElem_cons G,List.foldl_cons];simp[stepW,List.getD,G]
theorem x9U l:∀(f:Nat) (B:List Int) (c:Int) (out:List Int),out.length<=32->(walk l f B c out).1.length<=32:=by
 intro f
 induction f with
 | zero =>
  intro B c out h;rw[walk];split
  ·grind
  ·split<;>simp
 | succ f ih =>
  intro B c out h;rw[walk];split
  ·split
   ·simp
   ·exact f4R
  ·split
   ·simp
   ·have S:∀(L:List Int) (s:List Int×Int),s.1.length<=32->(L.foldl (stepW l f (B++[c])) s).1.length<=32:=N0r
    exact S _ _ h
theorem x4k l c:(full l c).1.length<=32:=x9U l 16 [] c [] M7K
theorem y4t l:∀(f:Nat) (B:List Int) (c:Int) (out:List Int),(walk l f B c out).2≠0->(walk l f B c out).1=[]:=by
 intro f
 induction f with
 | zero =>
  intro B c out;rw[walk];split
  ·grind
  ·split<;>(intro _;rfl)
 | succ f ih =>
  intro B c out;rw[walk];split
  ·split
   ·intro _;rfl
   ·intro h;exact absurd rfl h
  ·split
   ·intro _;rfl
   ·have S:∀(L:List Int) (s:List Int×Int),(s.2≠0->s.1=[])->(L.foldl (stepW l f (B++[c])) s).2≠0->(L.foldl (stepW l f (B++[c])) s).1=[]:=by
     intro L
     induction L with
     | nil=>intro s U h;exact U h
     | cons x L ihx =>
      intro s U;rw[List.foldl_cons];refine ihx _ ?_;unfold stepW;split
      ·exact ih _ _ _
      ·exact U
    exact S _ _ (fun h=>absurd rfl h)
end Go.Proofs.YtbmckadcjdedcaaGreatDoor.Cn
