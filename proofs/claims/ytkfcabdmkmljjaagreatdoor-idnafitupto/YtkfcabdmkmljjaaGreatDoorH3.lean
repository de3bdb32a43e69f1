/- Lemmas. -/
import Derived.Test.YtkfcabdmkmljjaaGreatDoorH2
import Derived.Handy
import Derived.KernelRfl
import Derived.Deep.RegionHeld3
set_option maxHeartbeats 4000000
set_option maxRecDepth 20000
namespace Go.Proofs.YtkfcabdmkmljjaaGreatDoor
section
variable{p:Prop}
theorem g9S(h:p:=by exact⟨rfl,rfl⟩):p:=h
theorem M3j(h:p:=by decide +kernel):p:=h
theorem i7V(h:p:=by
 intro X
 induction X with
 | nil=>intro s L;exact L
 | cons x X ihx =>
  intro s L;rw[List.foldl_cons];refine ihx _ ?_;unfold stepW;split
  ·exact ih _ _ _ L
  ·exact L):p:=h
theorem e4k(h:p:=by
 by_cases s:p c=true
 ·simp[s]
 ·simpa[s]using ih (i+1)):p:=h
theorem E0c(h:p:=by go_wp2;go_ret;exact⟨rfl,V x⟩):p:=h
theorem u4b(h:p:=by
 simp only[Value.slice.injEq,Option.some.injEq,Addr.mk.injEq]at N;obtain⟨⟨rfl,_⟩,C,rfl⟩:=N;refine⟨Ok.of (n:=zs.length) (us:=(zs.set k z).map (Value.int K)) ?_ (by simpa using h.sk.len) ⟨M7K,.inr ⟨g,cap,Q.setIfInBounds k (.int K z),by rw[C],Y,x0c H _,F,G,by simpa using f,?_⟩⟩ M7K rfl,?_⟩
 ·exact r7w
 ·exact R0Z
 ·simp[World.frozen?,H]):p:=h
theorem G9O(h:p:=by have e:hasB lo hi s c=false:=d0f f6J;rw[e];go_enter func194,ntmps194;go_wp2_with fail;refine c0m K fun Q T=>?_;subst Q;go_wp2;go_ret;exact⟨rfl,Y⟩):p:=h
theorem V3I(h:p:=by simp[Value.ownBlock]):p:=h
theorem T1F(h:p:=by go_wp2;go_ret;exact⟨rfl,Y⟩):p:=h
theorem R1Z(h:p:=by simpa using X):p:=h
theorem P3m(h:p:=by go_wp2_with fail;refine(V K).mono ?_;rintro e Q ⟨rfl,rfl⟩;exact t6u):p:=h
theorem t5o(h:p:=by subst h;exact g9S):p:=h
theorem s8U(h:p:=by(intro w hSw;obtain⟨_,_,rb,_⟩:=id hSw;obtain⟨_,_,_,_,_,_,_,_⟩:=cells8 rb;go_simp)):p:=h
theorem R0n(h:p:=by show(w.heap.push _)[w.heap.size]?=_;simp):p:=h
theorem f2O(h:p:=by show 1<3;exact f6J):p:=h
theorem w6e(h:p:=by rw[G];go_enter func108,ntmps108;exact t6v):p:=h
theorem s7C(h:p:=by rw[IntKind.wrap_i64];exact f6J):p:=h
theorem T7b(h:p:=by show 0<3;exact f6J):p:=h
theorem s1g(h:p:=by go_wp2;go_ret;exact V U):p:=h
theorem w8a(h:p:=by simp[List.getD,G]):p:=h
theorem W2K(h:p:=by simpa using this):p:=h
theorem U3s(h:p:=by rw[List.length_take];exact f6J):p:=h
theorem r7w(h:p:=by
 intro y hy;rcases List.mem_or_eq_of_mem_set hy with hy | hy
 ·exact h.1 y hy
 ·subst hy;exact T _ M7K):p:=h
theorem g5I(h:p:=by exact h.block k G F):p:=h
theorem u0Y(h:p:=by go_enter func193,ntmps193;exact T1F):p:=h
theorem n1r(h:p:=by go_enter func244,ntmps244;exact t6v):p:=h
theorem p1x(h:p:=by go_enter func245,ntmps245;go_wp2;go_returns;exact⟨rfl,Y⟩):p:=h
theorem f4A(h:p:=by kernel_rfl):p:=h
theorem t6x(h:p:=by go_wp2;go_ret;exact⟨rfl,rfl⟩):p:=h
theorem W9C(h:p:=by obtain⟨W,Z,D,J⟩:=run_make_own (P:=prog) w B 36 21 r (.int .i32 0) 1 underlying36 hi d Y .i64 .i64 n s0O T7W m;exact⟨W,Z,Ok.of (fun z T=>by cases T) M7M D rfl rfl,J⟩):p:=h
theorem t8u(h:p:=by exact⟨rfl,V U⟩):p:=h
theorem U4t(h:p:=by show 2<3;exact f6J):p:=h
theorem G5X(h:p:=by simpa[Value.ownBlock]using e):p:=h
theorem t9C(h:p:=by exact(b0r).alloc (l0r _) _):p:=h
theorem N0c(h:p:=by simp[List.getD,E]):p:=h
theorem R0Z(h:p:=by rw[Nat.mul_one]at U ⊢;rw[Array.toList_setIfInBounds,List.take_set,U,<- List.map_set]):p:=h
theorem I7L(h:p:=by go_wp2;go_returns;exact⟨rfl,(((b0r).alloc (l0r _) _).alloc M7M _).alloc P8P _⟩):p:=h
theorem f0k(h:p:=by simp_all):p:=h
theorem P3O(h:p:=by
 have h1:Bw w W:=bthen hb0 h
 have h2:W.heap[w.heap.size]?=_:=(h.block _ (by
  rcases Nat.lt_or_ge w.heap.size W0.heap.size with a | a
  ·exact a
  ·rw[Array.getElem?_eq_none a]at hh0;cases hh0)).trans hh0
 exact⟨by rw[h1.cell (x0a hB)];exact hB,by rw[h1.cell (x0a hC)];exact hC,h2,h⟩):p:=h
theorem m2J(h:p:=by go_wp2;go_ret;exact U):p:=h
theorem P9P(h:p:=by obtain⟨B,M,rfl,_,_⟩:=N.shape;rw[y,h0];go_enter func66,ntmps66;go_wp2;refine wp_loop_rounds 1 ?_;rw[rounds_succ];exact t6x):p:=h
theorem t3k(h:p:=by split<;>(try split)<;>omega):p:=h
theorem V0q(h:p:=by rw[List.drop_zero];exact rfl):p:=h
theorem G9k(h:p:=by rw[beq_eq_false_iff_ne];exact f6J):p:=h
theorem w0a(h:p:=by go_wp2;go_ret;exact HF):p:=h
theorem v9c(h:p:=by exact⟨this.1,this.2⟩):p:=h
theorem s0O(h:p:=by rw[R];exact f6J):p:=h
theorem s7D(h:p:=by rw[IntKind.wrap_i64];exact f6J):p:=h
theorem f3J(h:p:=by simpa using E):p:=h
theorem E0g(h:p:=by go_wp2;go_ret;exact⟨rfl,V x⟩):p:=h
theorem u8H(h:p:=by exact V SM _ (bthen (V SI _ hHeld) hb2)):p:=h
theorem e5w(h:p:=by exact .inr f6J):p:=h
theorem g6B(h:p:=by cases G):p:=h
theorem G5f(h:p:=by exact V SM _ (bthen (V SI _ hHeld) hb3)):p:=h
theorem t3L(h:p:=by go_wp2;go_ret;exact t8u):p:=h
theorem n8l(h:p:=by exact V SM _ (bthen (V SI _ hHeld) hb4)):p:=h
theorem g8b(h:p:=by simp[intOf];omega):p:=h
end
end Go.Proofs.YtkfcabdmkmljjaaGreatDoor
namespace Go.Proofs.YtkfcabdmkmljjaaGreatDoor.Cn
open Go.Proofs.Tryz
def walk(l:List Rec):Nat->List Int->Int->List Int->List Int×Int
 | 0,way,c,out=>if opn l c=[]then(if 32<=out.length then([],2)else(out++[c],0))else if c∈way then([],72)else([],73)
 | f+1,way,c,out =>
  if opn l c=[]then(if 32<=out.length then([],2)else(out++[c],0))else if c∈way then([],72)
  else(opn l c).foldl (fun s d=>if s.2=0 then walk l f (way++[c]) d s.1 else s) (out,0)
def full(l:List Rec)(c:Int):List Int×Int:=walk l 16 [] c []
def nameL(b:ByteArray):Bool:=match b.data.toList.map (·.toNat)with
 | [a,b,c,d]=>decide (65<=a/\a<=90/\97<=b/\b<=122/\97<=c/\c<=122/\97<=d/\d<=122)
 | _=>false
def weight(u:Nat):Bool:=decide (u<=9218868437227405312)
def scalar(c:Int):Bool:=decide (0<=c/\c<=1114111/\¬(55296<=c/\c<=57343))
def list(x:List Int)(least most:Nat):Bool:=decide (least<=x.length/\x.length<=most)&&x.all scalar
def bare(r:Rec)(n tq name other w:Bool):Bool :=
 (n||decide (r.n=0))&&(tq||decide (r.to.length=0))&&(name||decide (r.name.size=0))&&(other||decide (r.other.size=0))&&(w||decide (r.wt=0))
def right(r:Rec):Int :=
 if fam r.kind=0 then 60
 else if r.kind=15 then(if r.lo=0/\r.hi=0/\bare r false false true true true=true/\nameL r.name=true/\nameL r.other=true/\r.name≠r.other/\weight r.wt=true then 0 else 61)
 else if(decide (0<=r.lo/\r.lo<=r.hi/\r.hi<=1114111)&&(
  if r.kind=1\/r.kind=2\/r.kind=11 then bare r false false false false false
  else if r.kind=3 then bare r false true false false false&&list r.to 1 24
  else if r.kind=4 then bare r true true false false false&&decide (1<=r.n/\r.n<=64)&&list r.to 1 1&&decide (r.to.getD 0 0+r.hi-r.lo<=1114111/\(r.to.getD 0 0+r.hi-r.lo<55296\/57343<r.to.getD 0 0))
  else if r.kind=5 then decide (r.lo=r.hi)&&scalar r.lo&&bare r false true false false false&&list r.to 0 24
  else if r.kind=13 then decide (r.lo=r.hi)&&scalar r.lo&&bare r false true false false false&&list r.to 1 24
  else if r.kind=6 then bare r true false false false false&&decide (1<=r.n/\r.n<=254)
  else if r.kind=7 then decide (r.lo=r.hi)&&scalar r.lo&&bare r false true false false false&&list r.to 2 2
  else if r.kind=8 then decide (r.lo=r.hi)&&scalar r.lo&&bare r false true false false false&&list r.to 1 2
  else if r.kind=9 then bare r true false false false false&&decide (0<=r.n/\r.n<=10)
  else if r.kind=10 then bare r true false false false false&&decide (0<=r.n/\r.n<=5)
  else if r.kind=12 then bare r false false true false false&&nameL r.name
  else bare r false false false false true&&weight r.wt))=true then 0 else 61
def clashA(b:Rec)(s hi:Int):Nat->Int->Bool
 | 0,_=>false
 | k+1,c=>if c<=hi then(speaks b c||clashA b s hi k (c+s))else false
def clash(a b:Rec):Bool :=
 if fam a.kind≠fam b.kind then false
 else if a.kind=15 then decide ((a.name=b.name/\a.other=b.other)\/(a.name=b.other/\a.other=b.name))
 else clashA b (step a) (min a.hi b.hi) 64 (if a.lo<max a.lo b.lo then a.lo+(max a.lo b.lo-a.lo+step a-1) / step a*step a else a.lo)
def x0X:Nat->List Rec->Option (Nat×Int)
 | _,[]=>Option.none
 | i,r::l=>if right r=0 then x0X (i+1) l else some (i,right r)
def x1x(l:List Rec):Nat->List Rec->Option Nat
 | _,[]=>Option.none
 | i,r::m=>if(l.take i).any (fun k=>clash k r)then some i else x1x l (i+1) m
def check6(l:List Rec):Nat×Int :=
 if 4096<l.length then(0,3)else match x0X 0 l with
  | some x=>x
  | Option.none=>match x1x l 0 l with
   | some i=>(i,62)
   | Option.none=>(0,0)
def covers(r:Rec)(lo hi:Int):Bool:=decide (r.lo<=hi/\lo<=r.hi)
def jl(c:Int):Bool:=decide (4352<=c/\c<=4370)
def jv(c:Int):Bool:=decide (4449<=c/\c<=4469)
def jt(c:Int):Bool:=decide (4520<=c/\c<=4546)
def fallsA(l:List Rec):List Int->Bool
 | a::b::r=>(decide (cls l b≠0/\cls l b<cls l a))||fallsA l (b::r)
 | _=>false
def pair(l:List Rec)(i:Nat)(r:Rec):Bool :=
 !(decide (cls l r.lo≠0)||decide (cls l (r.to.getD 0 0)≠0)||decide (opn l (r.to.getD 1 0)≠[])||(decide (opn l (r.to.getD 0 0)≠[])&&(prim l (r.to.getD 0 0)).isNone)||decide (r.to.getD 1 0<128)||decide (r.to.getD 0 0=46)) &&
 !((l.take i).any fun k=>decide (k.kind=7/\k.to.getD 0 0=r.to.getD 0 0/\k.to.getD 1 0=r.to.getD 1 0))
def record(l:List Rec)(i:Nat)(r:Rec):Int :=
 if fam r.kind≠2/\fam r.kind≠3 then 0
 else if covers r 0 127 then 70
 else if covers r 4352 4370||covers r 4449 4469||covers r 4520 4546||covers r 44032 55203 then 71
 else if r.kind=7/\((jl (r.to.getD 0 0)&&jv (r.to.getD 1 0))||(syl (r.to.getD 0 0)&&decide ((r.to.getD 0 0-44032)%28=0)&&jt (r.to.getD 1 0)))=true then 71
 else if fam r.kind=2 then 0
 else if(full l r.lo).2≠0 then(full l r.lo).2
 else if fallsA l (full l r.lo).1 then 75
 else if r.kind=7/\pair l i r=false then 74
 else 0
def x0Q(l:List Rec):Nat->List Rec->Option (Nat×Int)
 | _,[]=>Option.none
 | i,r::m=>if record l i r=0 then x0Q l (i+1) m else some (i,record l i r)
def plain(l:List Rec)(c:Int):Bool:=match hit l 1 c with | some r=>decide (r.kind=1) | Option.none=>false
def baseOf(c:Int):Bool:=decide (c=45\/c=46\/(48<=c/\c<=57)\/97<=c)
def baseA(l:List Rec):Nat->Int->Bool
 | 0,_=>true
 | k+1,c=>(!(baseOf c)||plain l c)&&baseA l k (c+1)
def check(l:List Rec):Nat×Int :=
 if(check6 l).2≠0 then check6 l else match x0Q l 0 l with
  | some x=>x
  | Option.none=>if baseA l 78 45 then(0,0)else(l.length,70)
end Go.Proofs.YtkfcabdmkmljjaaGreatDoor.Cn
namespace Go.Proofs.YtkfcabdmkmljjaaGreatDoor
open Go.Proofs.Tryz
open Go.RowKit
def Rune(c:Int):Prop:=-2147483648<=c/\c<=2147483647
def x7J(w:World)(r:List Int×Int)(e:Ending)(w':World):Prop:=∃v,e=.returned (.tuple #[v,.int .i64 r.2])/\Ok .i32 21 w' w.heap.size v r.1/\Below w.heap.size w w'
def x3R(w:World)(r:Nat×Int)(e:Ending)(w':World):Prop:=e=.returned (.tuple #[.int .i64 (r.1:Int),.int .i64 r.2])/\Below w.heap.size w w'
def z1X(w:World)(b:Bool)(e:Ending)(w':World):Prop:=e=.returned (.bool b)/\Below w.heap.size w w'
theorem Rcs.nil w:Rcs w (.slice none 0 0) []:=⟨M7L,fun _ h=>m5l,.inl ⟨rfl,none,0,rfl,f6J⟩⟩
def z8K:Prop:=∀(v:Value) (rs:List Rec) (c:Int) (w:World),Rcs w v rs->Rune c->Calls prog 86 #[v,.int .i32 c] w (x7J w (Cn.full rs c))
theorem x0R{w v zs}(h:Sk .i32 w v zs){i}(hi:i<zs.length):Rune (zs.getD i 0):=by
 have:=h.1 (zs.getD i 0) n7A;unfold Rune;simpa[IntKind.min,IntKind.max,IntKind.signed,IntKind.bits]using this
def y7o:Prop:=∀(v:Value) (rs:List Rec) (w:World),Rcs w v rs->Calls prog 21 #[v] w (x3R w (Cn.check rs))
structure Row9 where
 word:ByteArray
 fam:Int
 least:Int
 most:Int
 low:Int
 high:Int
 said:ByteArray
 scr:Int
 wei:Bool
namespace Cn
def txt(s:String):ByteArray:=s.toUTF8
def rowT:Nat->Row9
 | 1 => ⟨txt "valid", 1, 0, 0, 0, 0, ⟨#[]⟩, 0, false⟩
 | 2 => ⟨txt "ignored", 1, 0, 0, 0, 0, ⟨#[]⟩, 0, false⟩
 | 3 => ⟨txt "mapped", 1, 1, 24, 0, 0, ⟨#[]⟩, 0, false⟩
 | 4 => ⟨txt "shift", 1, 1, 1, 1, 64, ⟨#[]⟩, 0, false⟩
 | 5 => ⟨txt "deviation", 1, 0, 24, 0, 0, ⟨#[]⟩, 0, false⟩
 | 6 => ⟨txt "class", 2, 0, 0, 1, 254, ⟨#[]⟩, 0, false⟩
 | 7 => ⟨txt "decomp", 3, 2, 2, 0, 0, ⟨#[]⟩, 0, false⟩
 | 8 => ⟨txt "opens", 3, 1, 2, 0, 0, ⟨#[]⟩, 0, false⟩
 | 9 => ⟨txt "bidi", 4, 0, 0, 0, 10, txt "L R AL AN EN ES CS ET ON BN NSM", 0, false⟩
 | 10 => ⟨txt "join", 5, 0, 0, 0, 5, txt "U R L D C T", 0, false⟩
 | 11 => ⟨txt "mark", 6, 0, 0, 0, 0, ⟨#[]⟩, 0, false⟩
 | 12 => ⟨txt "script", 7, 0, 0, 0, 0, ⟨#[]⟩, 1, false⟩
 | 13 => ⟨txt "looks", 8, 1, 24, 0, 0, ⟨#[]⟩, 0, false⟩
 | 14 => ⟨txt "weight", 9, 0, 0, 0, 0, ⟨#[]⟩, 0, true⟩
 | 15 => ⟨txt "mix", 10, 0, 0, 0, 0, ⟨#[]⟩, 2, true⟩
 | _=>⟨⟨#[]⟩,0,0,0,0,0,⟨#[]⟩,0,false⟩
def rowK(k:Int):Row9:=if k<0\/16<=k then rowT 0 else rowT k.toNat
theorem z4g k:(rowK k).fam=fam k:=by
 unfold rowK;split
 ·next h =>
  unfold fam;rw[if_pos f6J];rfl
 ·next h =>
  obtain⟨n,rfl⟩:∃n:Nat,k=n:=⟨k.toNat,f6J⟩;have F:n<16:=f6J;rw[Int.toNat_natCast];have:∀n,n<16->(rowT n).fam=fam n:=e8N;exact this n F
end Cn
structure x1z(w:World)(o:Nat)(r:Row9):Prop where
 c0:w.cell? ⟨2,o,none⟩=some (.string r.word)
 c1:w.cell? ⟨2,o+1,none⟩=some (.int .i64 r.fam)
 c2:w.cell? ⟨2,o+2,none⟩=some (.int .i64 r.least)
 c3:w.cell? ⟨2,o+3,none⟩=some (.int .i64 r.most)
 c4:w.cell? ⟨2,o+4,none⟩=some (.int .i64 r.low)
 c5:w.cell? ⟨2,o+5,none⟩=some (.int .i64 r.high)
 c6:w.cell? ⟨2,o+6,none⟩=some (.string r.said)
 c7:w.cell? ⟨2,o+7,none⟩=some (.int .i64 r.scr)
 c8:w.cell? ⟨2,o+8,none⟩=some (.bool r.wei)
def Glob(w:World):Prop:=∀k,k<16->x1z w (k*9) (Cn.rowT k)
theorem Glob.on{w w'}(h:Glob w)(Y:Bw w w'):Glob w':=fun k G=>by
 obtain⟨R,Z,D,J,H,K,y,x,n⟩:=h k G
 exact⟨by rw[Y.cell (x0a R)];exact R,v4f,by rw[Y.cell (x0a D)];exact D,by rw[Y.cell (x0a J)];exact J,by rw[Y.cell (x0a H)];exact H,
  by rw[Y.cell (x0a K)];exact K,by rw[Y.cell (x0a y)];exact y,by rw[Y.cell (x0a x)];exact x,by rw[Y.cell (x0a n)];exact n⟩
def rowV(r:Row9):Value:=.agg #[.string r.word,.int .i64 r.fam,.int .i64 r.least,.int .i64 r.most,.int .i64 r.low,.int .i64 r.high,.string r.said,.int .i64 r.scr,.bool r.wei]
def shV(k:Int):Value:=.agg #[.int .i64 k]
theorem x7s k w(C:Glob w)(G:I64 k):Calls prog 245 #[shV k] w (fun e w'=>e=.returned (rowV (Cn.rowK k))/\Bw w w'):=by
 obtain⟨x,M⟩:=G;have Y:Bw w ((w.alloc (.cells #[.int .i64 k] 270)).alloc (.cells #[.string ⟨#[]⟩,.int .i64 0,.int .i64 0,.int .i64 0,.int .i64 0,.int .i64 0,.string ⟨#[]⟩,.int .i64 0,.bool false] 324)):=((b0r).alloc (l0r _) _).alloc M7L _;unfold shV Cn.rowK;by_cases h:k<0
 ·rw[if_pos (.inl h)];exact p1x
 ·by_cases D:16<=k
  ·rw[if_pos (.inr D)];exact p1x
  ·rw[if_neg f6J];obtain⟨n,rfl⟩:∃n:Nat,k=n:=⟨k.toNat,f6J⟩;rw[Int.toNat_natCast];have F:n<16:=f6J;have H:=Below.refl w.heap.size w;obtain⟨g,S,p,K,j,m,u,B,E⟩:=(C.on Y) n F;have U:∀W,Bw w W->Bw w W:=fun W h=>h;go_enter func245,ntmps245;go_wp2;go_returns;exact⟨rfl,((b0r).alloc (l0r _) _).alloc M7L _⟩
theorem fld1(r:Row9) w:(Instr.field 324 (.agg #[.string r.word,.int .i64 r.fam,.int .i64 r.least,.int .i64 r.most,.int .i64 r.low,.int .i64 r.high,.string r.said,.int .i64 r.scr,.bool r.wei]) 1).run prog w=.ok (.int .i64 r.fam) w:=f4x
theorem fld7(r:Row9) w:(Instr.field 324 (.agg #[.string r.word,.int .i64 r.fam,.int .i64 r.least,.int .i64 r.most,.int .i64 r.low,.int .i64 r.high,.string r.said,.int .i64 r.scr,.bool r.wei]) 7).run prog w=.ok (.int .i64 r.scr) w:=f4x
theorem fld8(r:Row9) w:(Instr.field 324 (.agg #[.string r.word,.int .i64 r.fam,.int .i64 r.least,.int .i64 r.most,.int .i64 r.low,.int .i64 r.high,.string r.said,.int .i64 r.scr,.bool r.wei]) 8).run prog w=.ok (.bool r.wei) w:=f4x
theorem x4u k w(C:Glob w)(G:I64 k):Calls prog 195 #[shV k] w (IntB w (Cn.fam k)):=by
 have Y:Bw w (w.alloc (.cells #[.int .i64 k] 270)):=(b0r).alloc (l0r _) _;have K:=O (x7s k (w.alloc (.cells #[.int .i64 k] 270)) (C.on Y) G);rw[<- Cn.z4g];generalize Cn.rowK k=r at *;have s:=fld1 r;unfold shV rowV at *;go_enter func195,ntmps195;go_wp2_with fail;refine c0m K fun Q F=>?_;have U:IntB w r.fam (.returned (.int .i64 r.fam)) Q:=⟨rfl,bthen Y F⟩;go_wp2;go_ret;exact U
theorem x1g k w(C:Glob w)(G:I64 k):Calls prog 143 #[.int .i64 k] w (IntB w (Cn.fam k)):=by
 have K:=O (x4u k w C G);unfold shV at K;go_enter func143,ntmps143;go_wp2_with fail;refine c0m K fun Q F=>?_;go_wp2;go_ret;exact⟨rfl,F⟩
def shape(k:Int):Value:=.iface (if k=4 then 320 else if k=5\/k=7\/k=8\/k=13 then 321 else if k=15 then 322 else 318) (shV k)
theorem x1m k w(G:I64 k):Calls prog 193 #[.int .i64 k] w (fun e w'=>e=.returned (shape k)/\Bw w w'):=by
 have Y:Bw w (w.alloc (.cells #[.int .i64 k] 270)):=(b0r).alloc (l0r _) _;unfold shape shV;obtain⟨x,M⟩:=G;by_cases H:k=4
 ·subst H;exact u0Y
 ·by_cases K:k=5\/k=7\/k=8\/k=13
  ·rcases K with rfl | rfl | rfl | rfl
   all_goals
    go_enter func193,ntmps193;go_wp2;go_ret;exact⟨rfl,Y⟩
  ·by_cases X:k=15
   ·subst X;exact u0Y
   ·rw[if_neg H,if_neg K,if_neg X];have f:(k==4)=false:=b0f H;have P:(k==5)=false:=b0f f6J;have c:(k==7)=false:=b0f f6J;have Q:(k==8)=false:=b0f f6J;have A:(k==13)=false:=b0f f6J;have E:(k==15)=false:=b0f X;exact u0Y
/-! What a call through a kind's shape comes tq. -/
theorem x7S k w : (method 502 320 (.agg #[.int .i64 k]) "endonym/table.family").run Tryz.prog w = .ok (195, .agg #[.int .i64 k]) w := f4x
theorem x7U k w : (method 502 320 (.agg #[.int .i64 k]) "endonym/table.placed").run Tryz.prog w = .ok (348, .agg #[.int .i64 k]) w := f4x
theorem x5M k w : (method 502 320 (.agg #[.int .i64 k]) "endonym/table.targeted").run Tryz.prog w = .ok (339, .agg #[.int .i64 k]) w := f4x
theorem x5K k w : (method 502 320 (.agg #[.int .i64 k]) "endonym/table.numbered").run Tryz.prog w = .ok (336, .agg #[.int .i64 k]) w := f4x
theorem x9D k w : (method 502 320 (.agg #[.int .i64 k]) "endonym/table.named").run Tryz.prog w = .ok (334, .agg #[.int .i64 k]) w := f4x
theorem x7b k w : (method 502 320 (.agg #[.int .i64 k]) "endonym/table.weighed").run Tryz.prog w = .ok (340, .agg #[.int .i64 k]) w := f4x
theorem x3s k w : (method 502 320 (.agg #[.int .i64 k]) "endonym/table.spoken").run Tryz.prog w = .ok (349, .agg #[.int .i64 k]) w := f4x
theorem x9C k w : (method 502 321 (.agg #[.int .i64 k]) "endonym/table.family").run Tryz.prog w = .ok (195, .agg #[.int .i64 k]) w := f4x
theorem x9G k w : (method 502 321 (.agg #[.int .i64 k]) "endonym/table.placed").run Tryz.prog w = .ok (352, .agg #[.int .i64 k]) w := f4x
theorem x7a k w : (method 502 321 (.agg #[.int .i64 k]) "endonym/table.targeted").run Tryz.prog w = .ok (339, .agg #[.int .i64 k]) w := f4x
theorem x6Y k w : (method 502 321 (.agg #[.int .i64 k]) "endonym/table.numbered").run Tryz.prog w = .ok (336, .agg #[.int .i64 k]) w := f4x
theorem y1f k w : (method 502 321 (.agg #[.int .i64 k]) "endonym/table.named").run Tryz.prog w = .ok (334, .agg #[.int .i64 k]) w := f4x
theorem x7X k w : (method 502 321 (.agg #[.int .i64 k]) "endonym/table.weighed").run Tryz.prog w = .ok (340, .agg #[.int .i64 k]) w := f4x
theorem x4l k w : (method 502 321 (.agg #[.int .i64 k]) "endonym/table.spoken").run Tryz.prog w = .ok (338, .agg #[.int .i64 k]) w := f4x
theorem x9B k w : (method 502 322 (.agg #[.int .i64 k]) "endonym/table.family").run Tryz.prog w = .ok (195, .agg #[.int .i64 k]) w := f4x
theorem x9F k w : (method 502 322 (.agg #[.int .i64 k]) "endonym/table.placed").run Tryz.prog w = .ok (355, .agg #[.int .i64 k]) w := f4x
theorem x6Z k w : (method 502 322 (.agg #[.int .i64 k]) "endonym/table.targeted").run Tryz.prog w = .ok (339, .agg #[.int .i64 k]) w := f4x
theorem x6X k w : (method 502 322 (.agg #[.int .i64 k]) "endonym/table.numbered").run Tryz.prog w = .ok (336, .agg #[.int .i64 k]) w := f4x
theorem y1e k w : (method 502 322 (.agg #[.int .i64 k]) "endonym/table.named").run Tryz.prog w = .ok (334, .agg #[.int .i64 k]) w := f4x
theorem x7W k w : (method 502 322 (.agg #[.int .i64 k]) "endonym/table.weighed").run Tryz.prog w = .ok (340, .agg #[.int .i64 k]) w := f4x
theorem x7T k w : (method 502 318 (.agg #[.int .i64 k]) "endonym/table.family").run Tryz.prog w = .ok (195, .agg #[.int .i64 k]) w := f4x
theorem x7V k w : (method 502 318 (.agg #[.int .i64 k]) "endonym/table.placed").run Tryz.prog w = .ok (347, .agg #[.int .i64 k]) w := f4x
theorem x5N k w : (method 502 318 (.agg #[.int .i64 k]) "endonym/table.targeted").run Tryz.prog w = .ok (339, .agg #[.int .i64 k]) w := f4x
theorem x5L k w : (method 502 318 (.agg #[.int .i64 k]) "endonym/table.numbered").run Tryz.prog w = .ok (336, .agg #[.int .i64 k]) w := f4x
theorem x9E k w : (method 502 318 (.agg #[.int .i64 k]) "endonym/table.named").run Tryz.prog w = .ok (334, .agg #[.int .i64 k]) w := f4x
theorem x7c k w : (method 502 318 (.agg #[.int .i64 k]) "endonym/table.weighed").run Tryz.prog w = .ok (340, .agg #[.int .i64 k]) w := f4x
theorem x3t k w : (method 502 318 (.agg #[.int .i64 k]) "endonym/table.spoken").run Tryz.prog w = .ok (338, .agg #[.int .i64 k]) w := f4x
def z8D:Prop:=∀(v:Value) (rs:List Rec) (c:Int) (w:World),Glob w->Rcs w v rs->Rune c->Calls prog 242 #[v,.int .i32 c] w (IntB w (Cn.cls rs c))
def OpenC:Prop:=∀(v:Value) (rs:List Rec) (c:Int) (w:World),Glob w->Rcs w v rs->Rune c->Calls prog 299 #[v,.int .i32 c] w (x0h w (Cn.opn rs c))
def PrimC:Prop:=∀(v:Value) (rs:List Rec) (c:Int) (w:World),Glob w->Rcs w v rs->Rune c->Calls prog 243 #[v,.int .i32 c] w (x6r w (Cn.prim rs c))
def z8B:Prop:=∀(v:Value) (rs:List Rec) (w:World),Glob w->Rcs w v rs->Calls prog 49 #[v] w (x3R w (Cn.check rs))
def isPt(c:Int):Bool:=decide (0<=c/\c<=1114111)
theorem x2o c w(I:I64 c):Calls prog 244 #[.int .i64 c] w fun e w'=>e=.returned (.bool (isPt c))/\w'=w:=by
 obtain⟨X,y⟩:=I;unfold isPt;by_cases R:0<=c
 ·by_cases Z:c<=1114111
  ·rw[d0t ⟨R,Z⟩];exact n1r
  ·rw[d0f f6J];exact n1r
 ·rw[d0f f6J];exact n1r
def runV(lo hi s:Int):Value:=.agg #[.int .i64 lo,.int .i64 hi,.int .i64 s]
def hasB(lo hi s c:Int):Bool:=decide (0<=c/\c<=1114111/\lo<=c/\c<=hi/\0<s/\(c-lo)%s=0)
theorem z1L{c lo}(R:0<=c)(Z:c<=1114111)(D:lo<=c)(J:-9223372036854775808<=lo):IntKind.u64.wrap (IntKind.i64.wrap (c-lo))=c-lo:=by
 by_cases F:c-lo<=9223372036854775807
 ·rw[IntWalk.i64_in _ ⟨f6J,f6J⟩,IntWalk.u64_in _ ⟨f6J,f6J⟩]
 ·have e:IntKind.i64.wrap (c-lo)=c-lo-18446744073709551616:=by
   unfold IntKind.wrap;have Y:(2:Int)^IntKind.i64.bits=18446744073709551616:=e8N;have H:(2:Int)^(IntKind.i64.bits-1)=9223372036854775808:=e8N;simp only[Y,H,IntKind.signed];simp;omega
  rw[e];exact s9u
theorem y9f lo hi s c w(S:I64 lo)(H:I64 hi)(L:I64 s)(I:I64 c):Calls prog 194 #[runV lo hi s,.int .i64 c] w (x0g w (hasB lo hi s c)):=by
 have Y:Bw w (w.alloc (.cells #[.int .i64 lo,.int .i64 hi,.int .i64 s] 264)):=(b0r).alloc (l0r _) _;have K:=O (x2o c (w.alloc (.cells #[.int .i64 lo,.int .i64 hi,.int .i64 s] 264)) I);obtain⟨b,v⟩:=S;obtain⟨m,i⟩:=H;obtain⟨f,U⟩:=L;obtain⟨X,y⟩:=I;unfold runV;by_cases J:0<=c/\c<=1114111
 ·have P:isPt c=true:=d0t J;rw[P]at K;by_cases G:lo<=c
  ·by_cases r:c<=hi
   ·by_cases R:0<s
    ·have d:=z1L J.1 J.2 G b;have D:IntKind.u64.wrap s=s:=IntWalk.u64_in _ ⟨f6J,f6J⟩;have A:(c-lo).tmod s=(c-lo)%s:=Int.tmod_eq_emod_of_nonneg f6J;have B:(s==0)=false:=b0f f6J
     have e:hasB lo hi s c=((c-lo)%s==0):=by
      unfold hasB;by_cases q:(c-lo)%s=0
      ·rw[d0t ⟨J.1,J.2,G,r,R,q⟩,q];rfl
      ·rw[d0f (fun h=>q h.2.2.2.2.2),b0f q]
     rw[e];obtain⟨N,C⟩:=J;go_enter func194,ntmps194;go_wp2_with fail;refine c0m K fun Q T=>?_;subst Q;go_wp2;go_ret;refine⟨?_,Y⟩;show Ending.returned (.bool ((IntKind.u64.wrap (wrap64 (c-lo))).tmod s==0))=_;rw[<- IntWalk.i64_left,d,A]
    ·exact G9O
   ·exact G9O
  ·exact G9O
 ·have P:isPt c=false:=d0f J;rw[P]at K;exact G9O
theorem x5R k r vt w:Calls prog 338 #[shV k,recV r vt] w (fun e w'=>e=.returned (runV r.lo r.hi 1)/\Bw w w'):=by
 unfold shV recV runV;go_enter func338,ntmps338;exact I7L
theorem x5d k r vt w:Calls prog 349 #[shV k,recV r vt] w (fun e w'=>e=.returned (runV r.lo r.hi r.n)/\Bw w w'):=by
 unfold shV recV runV;go_enter func349,ntmps349;exact I7L
def stepP(r:Rec):Int:=if r.kind=4 then r.n else 1
theorem y2F r c(h:r.kind≠15):hasB r.lo r.hi (stepP r) c=Cn.speaks r c:=by
 unfold hasB stepP Cn.speaks Cn.step;refine decide_eq_decide.2 ?_;by_cases H:r.kind=4
 ·grind
 ·grind
theorem rd9{P : Program}{A : Array Oper}{Q : Exit -> Act -> World -> Prop}{D : Region.Mode}{S : World -> Prop}(i : Nat){o : Oper}{B : Nat}{listed : Array Bool}{a : Act}{w : World}(h : ∀C : Act -> World -> Prop, Shut (∀a w, S w -> (S w -> wpAnyH P D A Q S B (listed.setIfInBounds i true) a w) -> C a w) -> if Region.wanted o (yielded A a.tmps) = true then Oper.wp P o a w C Q else C (a.put o.dst undef) w)(X : A.toList[i]? = some o := by exact rfl)(hr : Region.ready D A listed = [i] := by kernel_rfl) : wpAnyH P D A Q S (B + 1) listed a w := wpAnyH_ready hr M7K (AllReadyH.cons (by rw[<- X];exact M7K) h AllReadyH.nil)
def spokenF(k:Int):Nat:=if k=4 then 349 else 338
theorem x5h(k:Int)(r:Rec)(vt:Value)(w:World)(G:r.kind=k):Calls prog (spokenF k) #[shV k,recV r vt] w (fun e w'=>e=.returned (runV r.lo r.hi (stepP r))/\Bw w w'):=by
 unfold spokenF stepP;by_cases H:k=4
 ·rw[if_pos H,if_pos (G.trans H)];exact x5d k r vt w
 ·rw[if_neg H,if_neg (fun e=>H (G.symm.trans e))];exact x5R k r vt w
theorem x8q:∀args w,(callFunc 349 args).run prog w=.ok (.enter 349 args) w:=f0h
theorem x4e:∀args w,(callFunc 338 args).run prog w=.ok (.enter 338 args) w:=f0h
theorem y8J(r:Rec)(vt:Value)(f c:Int)(B C:Nat)(w:World)(hf:RecFit r)(hg:Glob w)(hB:w.cell? ⟨B,0,none⟩=some (.int .i64 f))(hC:w.cell? ⟨C,0,none⟩=some (.int .i32 c))(hfi:0<f/\f<10)(hc:-2147483648<=c/\c<=2147483647) :
  Calls prog 192 #[recV r vt,.pointer (some ⟨B,0,none⟩),.pointer (some ⟨C,0,none⟩)] w (x0g w (decide (Cn.fam r.kind=f)&&Cn.speaks r c)):=by
 have hkb:=hf.kind;have hlb:=hf.lo;have hhb:=hf.hi;have hnb:=hf.n
 have hsb:I64 (stepP r):=by
  unfold stepP;split
  ·exact hnb
  ·unfold I64;omega
 by_cases hfam:Cn.fam r.kind=f
 ·have hk15:r.kind≠15:=fun e=>(by rw[e,(e8P:Cn.fam 15=10)]at hfam;exact f6J);have e:(decide (Cn.fam r.kind=f)&&Cn.speaks r c)=hasB r.lo r.hi (stepP r) c:=(by rw[d0t hfam,y2F r c hk15];rfl);rw[e];subst hfam;have KF:Hid (∀W,Bw w W->Calls prog 143 #[.int .i64 r.kind] W (IntB W (Cn.fam r.kind))):=fun W h=>x1g r.kind W (hg.on h) hkb;have KS:Hid (∀W,Calls prog 193 #[.int .i64 r.kind] W (fun e w'=>e=.returned (shape r.kind)/\Bw W w')):=fun W=>x1m r.kind W hkb;have KP:Hid (∀W,Calls prog (spokenF r.kind) #[shV r.kind,recV r vt] W (fun e w'=>e=.returned (runV r.lo r.hi (stepP r))/\Bw W w')):=fun W=>x5h r.kind r vt W rfl;have KH:Hid (∀W,Calls prog 194 #[runV r.lo r.hi (stepP r),.int .i64 c] W (x0g W (hasB r.lo r.hi (stepP r) c))):=fun W=>y9f _ _ _ _ W hlb hhb hsb ⟨f6J,f6J⟩;have hq:(Cn.fam r.kind==Cn.fam r.kind)=true:=beq_self_eq_true _
  obtain ⟨T, fp, es, ef, hm, eg⟩ : ∃ T fp, shape r.kind = .iface T (.agg #[.int .i64 r.kind]) ∧ spokenF r.kind = fp ∧ (∀ W, (method 502 T (.agg #[.int .i64 r.kind]) "endonym/table.spoken").run Tryz.prog W = .ok (fp, .agg #[.int .i64 r.kind]) W) ∧ ∀ args W, (callFunc fp args).run Tryz.prog W = .ok (.enter fp args) W := by
   unfold shape shV spokenF;by_cases h4:r.kind=4
   ·rw[if_pos h4,if_pos h4];exact⟨_,_,rfl,rfl,x3s _,x8q⟩
   ·rw[if_neg h4,if_neg h4];by_cases h5:r.kind=5\/r.kind=7\/r.kind=8\/r.kind=13
    ·rw[if_pos h5];exact⟨_,_,rfl,rfl,x4l _,x4e⟩
    ·rw[if_neg h5,if_neg hk15];exact⟨_,_,rfl,rfl,x3t _,x4e⟩
  rw[es]at KS;rw[ef]at KP;clear es ef;generalize hasB r.lo r.hi (stepP r) c=res at *;generalize stepP r=st at *;generalize Cn.fam r.kind=fr at *;clear hf hg e;unfold recV shV runV at *;have hwc:IntKind.i64.wrap c=c:=IntWalk.i64_in _ ⟨f6J,f6J⟩;generalize r.kind=kd,r.n=n,r.lo=lo,r.hi=hi at *;generalize r.name=nm,r.other=ot,r.wt=wt at *;have hb0:Bw w (w.alloc (.cells #[.int .i64 kd,.int .i64 lo,.int .i64 hi,.int .i64 n,vt,.string nm,.string ot,.float .f64 wt] 60)):=(b0r).alloc (l0r _) _
  have hh0:(w.alloc (.cells #[.int .i64 kd,.int .i64 lo,.int .i64 hi,.int .i64 n,vt,.string nm,.string ot,.float .f64 wt] 60)).heap[w.heap.size]?=some (.cells #[.int .i64 kd,.int .i64 lo,.int .i64 hi,.int .i64 n,vt,.string nm,.string ot,.float .f64 wt] 60 (0,0)):=by
   show(w.heap.push _)[w.heap.size]?=_;simp
  go_enter func192,ntmps192;go_wp2;generalize(w.alloc (.cells #[.int .i64 kd,.int .i64 lo,.int .i64 hi,.int .i64 n,vt,.string nm,.string ot,.float .f64 wt] 60))=W0 at *
  have SM:Hid (∀W,Bw W0 W->W.cell? ⟨B,0,none⟩=some (.int .i64 fr)/\W.cell? ⟨C,0,none⟩=some (.int .i32 c)/\W.heap[w.heap.size]?=some (.cells #[.int .i64 kd,.int .i64 lo,.int .i64 hi,.int .i64 n,vt,.string nm,.string ot,.float .f64 wt] 60 (0,0))/\Hid (Bw W0 W)):=fun W h=>P3O
  have SI:Hid (∀W,(W.cell? ⟨B,0,none⟩=some (.int .i64 fr)/\W.cell? ⟨C,0,none⟩=some (.int .i32 c)/\W.heap[w.heap.size]?=some (.cells #[.int .i64 kd,.int .i64 lo,.int .i64 hi,.int .i64 n,vt,.string nm,.string ot,.float .f64 wt] 60 (0,0))/\Hid (Bw W0 W))->Bw W0 W):=fun W h=>h.2.2.2;clear hB hC;refine wp_region_held_drew (S:=fun w'=>w'.cell? ⟨B,0,none⟩=some (.int .i64 fr)/\w'.cell? ⟨C,0,none⟩=some (.int .i32 c)/\w'.heap[w.heap.size]?=some (.cells #[.int .i64 kd,.int .i64 lo,.int .i64 hi,.int .i64 n,vt,.string nm,.string ot,.float .f64 wt] 60 (0,0))/\Hid (Bw W0 w')) f4y (V SM _ (x0i ⟨1,rfl⟩)) (fun hHeld=>?_);refine tk9 0 (.pointer (some ⟨w.heap.size,0,none⟩)) ?_ (hy:=s8U);refine tk9 1 (.int .i64 kd) ?_ (hy:=s8U);refine tk9 3 (.int .i64 fr) ?_ (hy:=s8U);refine rd9 2 fun K hK=>?_;go_simp;refine(V KF _ (bthen hb0 (V SI _ hHeld))).mono ?_;rintro e w1 ⟨rfl,hb1⟩;go_wp2_with fail;refine hK.out _ _ ?_ (fun hHeld=>?_)
  ·exact V SM _ (bthen (V SI _ hHeld) hb1)
  clear hK K
  try simp only[Act.put,sa9,sb9,sc9]
  refine tk9 4 (.bool true) ?_ (hy:=s8U);refine tk9 5 (.bool true) ?_ (hy:=s8U);refine tk9 6 (.pointer (some ⟨w.heap.size,0,none⟩)) ?_ (hy:=s8U);refine tk9 7 (.int .i64 kd) ?_ (hy:=s8U);refine tk9 9 (.agg #[.int .i64 kd,.int .i64 lo,.int .i64 hi,.int .i64 n,vt,.string nm,.string ot,.float .f64 wt]) ?_ (hy:=s8U);refine tk9 11 (.int .i32 c) ?_ (hy:=s8U);refine tk9 12 (.int .i64 c) ?_ (hy:=s8U);refine rd9 8 fun K hK=>?_;go_simp;refine c1m (V KS _) fun w2 hb2=>?_;go_wp2_with fail;refine hK.out _ _ ?_ (fun hHeld=>?_)
  ·exact u8H
  clear hK K
  try simp only[Act.put,sa9,sb9,sc9]
  refine rd9 10 fun K hK=>?_;go_simp;refine c1m (V KP _) fun w3 hb3=>?_;go_wp2_with fail;refine hK.out _ _ ?_ (fun hHeld=>?_)
  ·exact G5f
  clear hK K
  try simp only[Act.put,sa9,sb9,sc9]
  refine rd9 13 fun K hK=>?_;go_simp;refine c1m (V KH _) fun w4 hb4=>?_;go_wp2_with fail;refine hK.out _ _ ?_ (fun hHeld=>?_)
  ·exact n8l
  clear hK K
  try simp only[Act.put,sa9,sb9,sc9]
  refine tk9 14 (.bool res) ?_ (hy:=s8U);refine tk9 15 (.bool res) ?_ (hy:=s8U);refine wpAnyH_done f4y ?_ _;have HF:x0g w res (.returned (.bool res)) w4:=⟨rfl,bthen hb0 (V SI _ hHeld)⟩;clear hHeld KF KS KP KH SM SI;exact w0a
 ·have e:(decide (Cn.fam r.kind=f)&&Cn.speaks r c)=false:=(by rw[d0f hfam];rfl);rw[e];have hq:(Cn.fam r.kind==f)=false:=b0f hfam;have KF:Hid (∀W,Bw w W->Calls prog 143 #[.int .i64 r.kind] W (IntB W (Cn.fam r.kind))):=fun W h=>x1g r.kind W (hg.on h) hkb;generalize Cn.fam r.kind=fr at *;clear hf hg e hsb;unfold recV;generalize r.kind=kd,r.n=n,r.lo=lo,r.hi=hi at *;generalize r.name=nm,r.other=ot,r.wt=wt at *;have hb0:Bw w (w.alloc (.cells #[.int .i64 kd,.int .i64 lo,.int .i64 hi,.int .i64 n,vt,.string nm,.string ot,.float .f64 wt] 60)):=(b0r).alloc (l0r _) _
  have hh0:(w.alloc (.cells #[.int .i64 kd,.int .i64 lo,.int .i64 hi,.int .i64 n,vt,.string nm,.string ot,.float .f64 wt] 60)).heap[w.heap.size]?=some (.cells #[.int .i64 kd,.int .i64 lo,.int .i64 hi,.int .i64 n,vt,.string nm,.string ot,.float .f64 wt] 60 (0,0)):=by
   show(w.heap.push _)[w.heap.size]?=_;simp
  go_enter func192,ntmps192;go_wp2;generalize(w.alloc (.cells #[.int .i64 kd,.int .i64 lo,.int .i64 hi,.int .i64 n,vt,.string nm,.string ot,.float .f64 wt] 60))=W0 at *
  have SM:Hid (∀W,Bw W0 W->W.cell? ⟨B,0,none⟩=some (.int .i64 f)/\W.cell? ⟨C,0,none⟩=some (.int .i32 c)/\W.heap[w.heap.size]?=some (.cells #[.int .i64 kd,.int .i64 lo,.int .i64 hi,.int .i64 n,vt,.string nm,.string ot,.float .f64 wt] 60 (0,0))/\Hid (Bw W0 W)):=fun W h=>P3O
  have SI:Hid (∀W,(W.cell? ⟨B,0,none⟩=some (.int .i64 f)/\W.cell? ⟨C,0,none⟩=some (.int .i32 c)/\W.heap[w.heap.size]?=some (.cells #[.int .i64 kd,.int .i64 lo,.int .i64 hi,.int .i64 n,vt,.string nm,.string ot,.float .f64 wt] 60 (0,0))/\Hid (Bw W0 W))->Bw W0 W):=fun W h=>h.2.2.2;clear hB hC;refine wp_region_held_drew (S:=fun w'=>w'.cell? ⟨B,0,none⟩=some (.int .i64 f)/\w'.cell? ⟨C,0,none⟩=some (.int .i32 c)/\w'.heap[w.heap.size]?=some (.cells #[.int .i64 kd,.int .i64 lo,.int .i64 hi,.int .i64 n,vt,.string nm,.string ot,.float .f64 wt] 60 (0,0))/\Hid (Bw W0 w')) f4y (V SM _ (x0i ⟨1,rfl⟩)) (fun hHeld=>?_);refine tk9 0 (.pointer (some ⟨w.heap.size,0,none⟩)) ?_ (hy:=s8U);refine tk9 1 (.int .i64 kd) ?_ (hy:=s8U);refine tk9 3 (.int .i64 f) ?_ (hy:=s8U);refine rd9 2 fun K hK=>?_;go_simp;refine(V KF _ (bthen hb0 (V SI _ hHeld))).mono ?_;rintro e w1 ⟨rfl,hb1⟩;go_wp2_with fail;refine hK.out _ _ ?_ (fun hHeld=>?_)
  ·exact V SM _ (bthen (V SI _ hHeld) hb1)
  clear hK K
  try simp only[Act.put,sa9,sb9,sc9]
  refine tk9 4 (.bool false) ?_ (hy:=s8U);refine tk9 5 (.bool false) ?_ (hy:=s8U);refine tn9 6 ?_;refine tn9 7 ?_;refine tn9 8 ?_;refine tn9 9 ?_;refine tn9 10 ?_;refine tn9 11 ?_;refine tn9 12 ?_;refine tn9 13 ?_;refine tk9 14 (.bool false) ?_ (hy:=s8U);refine tk9 15 (.bool false) ?_ (hy:=s8U);refine wpAnyH_done f4y ?_ _;have HF:x0g w false (.returned (.bool false)) w1:=⟨rfl,bthen hb0 (V SI _ hHeld)⟩;clear hHeld KF SM SI;exact w0a
end Go.Proofs.YtkfcabdmkmljjaaGreatDoor
namespace Go.Proofs.YtkfcabdmkmljjaaGreatDoor.Cn
open Go.Proofs.Tryz
theorem x1f{l c}(h:opn l c=[]) f way out:walk l f way c out=if 32<=out.length then([],2)else(out++[c],0):=by
 cases f<;>rw[walk,if_pos h]
theorem x2Y{l c}(h:opn l c≠[]) f{way}(m:c∈way) out:walk l f way c out=([],72):=by
 cases f<;>rw[walk,if_neg h,if_pos m]
theorem x7E{l c}(h:opn l c≠[]){way}(m:¬c∈way) out:walk l 0 way c out=([],73):=by
 rw[walk,if_neg h,if_neg m]
def stepW(l:List Rec)(f:Nat)(way:List Int)(s:List Int×Int)(d:Int):List Int×Int:=if s.2=0 then walk l f way d s.1 else s
theorem x7F{l c}(h:opn l c≠[]) f{way}(m:¬c∈way) out:walk l (f+1) way c out=(opn l c).foldl (stepW l f (way++[c])) (out,0):=by
 rw[walk,if_neg h,if_neg m];rfl
theorem x1I(l:List Rec)(f:Nat)(B:List Int):∀(xs:List Int) (s:List Int×Int),s.2≠0->xs.foldl (stepW l f B) s=s
 | [],_,_=>rfl
 | x::xs,s,h=>by
  rw[List.foldl_cons,stepW,if_neg h];exact x1I l f B xs s h
theorem x6G{l f}{B xs out:List Int}{k}(G:k<xs.length):(xs.drop k).foldl (stepW l f B) (out,0)=(xs.drop (k+1)).foldl (stepW l f B) (walk l f B (xs.getD k 0) out):=by
 rw[List.drop_eq_getElem_cons G,List.foldl_cons];simp[stepW,List.getD,G]
theorem y0l l:∀(f:Nat) (B:List Int) (c:Int) (out:List Int),out.length<=32->(walk l f B c out).1.length<=32:=by
 intro f
 induction f with
 | zero =>
  intro B c out h;rw[walk];split
  ·grind
  ·split<;>simp
 | succ f ih =>
  intro B c out h;rw[walk];split
  ·split
   ·simp
   ·exact f4R
  ·split
   ·simp
   ·have S:∀(X:List Int) (s:List Int×Int),s.1.length<=32->(X.foldl (stepW l f (B++[c])) s).1.length<=32:=i7V
    exact S _ _ h
theorem x4g l c:(full l c).1.length<=32:=y0l l 16 [] c [] M7K
theorem y4R l:∀(f:Nat) (B:List Int) (c:Int) (out:List Int),(walk l f B c out).2≠0->(walk l f B c out).1=[]:=by
 intro f
 induction f with
 | zero =>
  intro B c out;rw[walk];split
  ·grind
  ·split<;>(intro _;rfl)
 | succ f ih =>
  intro B c out;rw[walk];split
  ·split
   ·intro _;rfl
   ·intro h;exact absurd rfl h
  ·split
   ·intro _;rfl
   ·have S:∀(X:List Int) (s:List Int×Int),(s.2≠0->s.1=[])->(X.foldl (stepW l f (B++[c])) s).2≠0->(X.foldl (stepW l f (B++[c])) s).1=[]:=by
     intro X
     induction X with
     | nil=>intro s L h;exact L h
     | cons x X ihx =>
      intro s L;rw[List.foldl_cons];refine ihx _ ?_;unfold stepW;split
      ·exact ih _ _ _
      ·exact L
    exact S _ _ (fun h=>absurd rfl h)
end Go.Proofs.YtkfcabdmkmljjaaGreatDoor.Cn
