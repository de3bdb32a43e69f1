import Derived.Test.YtbmckadcjdedcaaGreatDoorF0
import Derived.Deep.QuietTactic
import Derived.BigQuiet
import Derived.Deep.RegionWith
set_option maxHeartbeats 8000000
set_option maxRecDepth 8000
namespace Go.Proofs.YtbmckadcjdedcaaGreatDoor
open Go.Proofs.Tryz
section
variable{p:Prop}
theorem t6u(h:p:=by go_wp2;go_ret;exact⟨rfl,rfl⟩):p:=h
theorem w7Y(h:p:=by simp[List.getD,G]):p:=h
theorem p8I(h:p:=by simp[List.getD,h]):p:=h
theorem i2c(h:p:=by go_enter func119,ntmps119;go_wp2_with fail;refine c1m (V K _) fun Q Y=>?_;obtain⟨x,u,S⟩:=V C Q (by simpa using Y);have T:x0c w false (.returned (.bool false)) Q:=⟨rfl,((b0r).alloc (l0r _) _).trans (Y.mono M7M)⟩;go_wp2;go_ret;exact T):p:=h
theorem t6v(h:p:=by go_wp2;go_ret;exact⟨rfl,rfl⟩):p:=h
theorem w5o(h:p:=by unfold I64;exact f6J):p:=h
theorem i2d(h:p:=by go_enter func118,ntmps118;go_wp2;go_ret;exact⟨rfl,(b0r).alloc (l0r _) _⟩):p:=h
theorem v1D(h:p:=by go_enter func76,ntmps76;exact t6u):p:=h
theorem g2A(h:p:=by go_num):p:=h
theorem s9u(h:p:=by unfold IntKind.wrap;have Y:(2:Int)^IntKind.u64.bits=18446744073709551616:=e8N;rw[Y];simp[IntKind.signed];omega):p:=h
theorem e4d(h:p:=by have T:∀n,x6h w (some (p,q)) (.returned (.tuple #[.int .i32 p,.int .i32 q,.bool true])) (Q.drewN n):=fun n=>⟨rfl,x0b Y (x0k ⟨n,rfl⟩)⟩;clear Y C d A f t;go_wp2;go_big_quiet (fail);go_wp2;go_ret3;exact T _):p:=h
theorem w3c(h:p:=by rw[Y.cell (x0a E)];exact E):p:=h
theorem F7q(h:p:=by simp[x0z];exact f6J):p:=h
theorem N4U(h:p:=by unfold Cn.cls;rw[D]):p:=h
theorem s6f(h:p:=by go_enter func72,ntmps72;exact t6v):p:=h
theorem e8P(h:p:=by decide):p:=h
theorem V6r(h:p:=by simpa using d):p:=h
theorem N2U(h:p:=by rw[d0f f6J];exact i2c):p:=h
theorem U7J(h:p:=by go_wp2;go_ret;exact T):p:=h
theorem R0p(h:p:=by show(w.heap.push _)[w.heap.size]?=_;simp):p:=h
theorem T8v(h:p:=by go_wp2;go_ret;exact⟨rfl,b0r⟩):p:=h
theorem T7E(h:p:=by rw[A]):p:=h
theorem w5s(h:p:=by unfold I64;exact f6J):p:=h
theorem G5Z(h:p:=by simpa using U):p:=h
theorem G7o(h:p:=by split<;>omega):p:=h
theorem g2D(h:p:=by go_num):p:=h
theorem r9Z(h:p:=by go_enter func123,ntmps123;go_wp2_with fail;refine c0m B fun Q F=>?_;subst Q;go_wp2;go_ret;exact T):p:=h
theorem U6x(h:p:=by obtain⟨R,M,rfl,_,_⟩:=N.shape;go_enter func81,ntmps81;go_wp2;go_ret;exact⟨rfl,b0r⟩):p:=h
theorem r2A(h:p:=by unfold Cn.prim;rw[if_neg hs,D]):p:=h
theorem f1Y(h:p:=by show _<8;exact f6J):p:=h
theorem n7i(h:p:=by exact Ok.nil _ _ _ _):p:=h
theorem v4i(h:p:=by rw[Y.cell (x0a Z)];exact Z):p:=h
theorem w8O(h:p:=by obtain⟨z,_,rfl⟩:=List.mem_map.1 W;rfl):p:=h
theorem s6Q(h:p:=by show(wr.heap.push _)[wr.heap.size]?=_;simp):p:=h
theorem g7Y(h:p:=by simp[intOf];omega):p:=h
theorem I8b(h:p:=by rw[Y.cell (x0a R)];exact R):p:=h
theorem W2g(h:p:=by unfold Cn.opn;rw[if_neg U,D]):p:=h
theorem V3M(h:p:=by simp[Value.ownBlock]):p:=h
theorem U5E(h:p:=by rw[Below.cell ((Below.refl wr.heap.size wr).alloc (l0r _) o) (x0a x4)];exact x4):p:=h
theorem W3R(h:p:=by simpa using q):p:=h
theorem P0M(h:p:=by obtain⟨z,_,rfl⟩:=List.mem_map.1 hu;rfl):p:=h
theorem N2V(h:p:=by go_wp2;refine wp_loop_rounds 1 ?_;rw[rounds_succ];exact U7J):p:=h
theorem S6E(h:p:=by simpa using C.size):p:=h
theorem E9b(h:p:=by simp[List.getD,hk]):p:=h
end
structure Rec where
 kind:Int
 lo:Int
 hi:Int
 n:Int
 to:List Int
 name:ByteArray
 other:ByteArray
 wt:Nat
namespace Cn
def none:Rec:=⟨0,0,0,0,[],⟨#[]⟩,⟨#[]⟩,0⟩
def fam(k:Int):Int :=
 if k<1\/15<k then 0 else if k<=5 then 1 else if k=6 then 2 else if k<=8 then 3 else k-5
def step(r:Rec):Int:=if r.kind=4 then max r.n 0 else 1
def speaks(r:Rec)(c:Int):Bool:=decide (r.kind≠15/\0<step r/\0<=c/\c<=1114111/\r.lo<=c/\c<=r.hi/\(c-r.lo)%step r=0)
def findA(f c:Int):Nat->List Rec->Int
 | _,[]=>-1
 | i,r::l=>if fam r.kind=f/\speaks r c=true then(i:Int)else findA f c (i+1) l
def find(l:List Rec)(f c:Int):Int:=if f=10\/f=0 then -1 else findA f c 0 l
def hit(l:List Rec)(f c:Int):Option Rec:=if find l f c<0 then Option.none else some (l.getD (find l f c).toNat none)
def cls(l:List Rec)(c:Int):Int:=match hit l 2 c with | some r=>r.n | Option.none=>0
def syl(c:Int):Bool:=decide (44032<=c/\c<=55203)
def opn(l:List Rec)(c:Int):List Int :=
 if syl c then(if(c-44032)%28=0 then[4352+(c-44032) / 588,4449+(c-44032) / 28%21]else[c-(c-44032)%28,4519+(c-44032)%28])
 else match hit l 3 c with | some r=>r.to | Option.none=>[]
def prim(l:List Rec)(c:Int):Option (Int×Int) :=
 if syl c then some ((opn l c).getD 0 0,(opn l c).getD 1 0)
 else match hit l 3 c with
  | some r=>if r.kind=7/\r.to.length=2 then some (r.to.getD 0 0,r.to.getD 1 0)else Option.none
  | Option.none=>Option.none
theorem x6s k:0<=fam k/\fam k<=10:=by
 unfold fam;split
 ·omega
 ·omega
theorem y5o{l:List Rec}{f c k}(G:k<l.length):findA f c k (l.drop k)=if fam (l.getD k none).kind=f/\speaks (l.getD k none) c=true then(k:Int)else findA f c (k+1) (l.drop (k+1)):=by
 rw[List.drop_eq_getElem_cons G,findA];exact w7Y
theorem findA_bound(f c:Int):∀(l:List Rec) (k:Nat),findA f c k l=-1\/((k:Int)<=findA f c k l/\findA f c k l<k+l.length)
 | [],_=>.inl rfl
 | r::l,k=>by
  rw[findA];split
  ·exact .inr ⟨f6J,P8P⟩
  ·rcases findA_bound f c l (k+1)with h|⟨Z,D⟩
   ·exact .inl h
   ·exact .inr ⟨f6J,P8P⟩
theorem find_bound l f c:find l f c=-1\/(0<=find l f c/\find l f c<l.length):=by
 unfold find;split
 ·exact .inl rfl
 ·rcases findA_bound f c l 0 with h|⟨Z,D⟩
  ·exact .inl h
  ·exact .inr ⟨f6J,f6J⟩
end Cn
open Go.RowKit
def I64(n:Int):Prop:=-9223372036854775808<=n/\n<=9223372036854775807
structure RecFit(r:Rec):Prop where
 kind:I64 r.kind
 lo:I64 r.lo
 hi:I64 r.hi
 n:I64 r.n
 len:r.to.length<=1000000000
 wt:r.wt<18446744073709551616
structure RecAt(w:World)(b o:Nat)(r:Rec):Prop where
 kind:w.cell? ⟨b,o,none⟩=some (.int .i64 r.kind)
 lo:w.cell? ⟨b,o+1,none⟩=some (.int .i64 r.lo)
 hi:w.cell? ⟨b,o+2,none⟩=some (.int .i64 r.hi)
 n:w.cell? ⟨b,o+3,none⟩=some (.int .i64 r.n)
 to:∃v,w.cell? ⟨b,o+4,none⟩=some v/\Sk .i32 w v r.to
 name:w.cell? ⟨b,o+5,none⟩=some (.string r.name)
 other:w.cell? ⟨b,o+6,none⟩=some (.string r.other)
 wt:w.cell? ⟨b,o+7,none⟩=some (.float .f64 r.wt)
theorem RecAt.below{w w' b o r}(h:RecAt w b o r)(Y:Bw w w'):RecAt w' b o r:=by
 obtain⟨A,Z,D,R,⟨v,H,p⟩,F,B,E⟩:=h
 exact⟨by rw[Y.cell (x0a A)];exact A,v4i,by rw[Y.cell (x0a D)];exact D,I8b,
  ⟨v,by rw[Y.cell (x0a H)];exact H,p.below Y⟩,by rw[Y.cell (x0a F)];exact F,by rw[Y.cell (x0a B)];exact B,w3c⟩
def Rcs(w:World)(v:Value)(rs:List Rec):Prop:=rs.length<=1000000000/\(∀r∈rs,RecFit r) /\
 ((rs=[]/\∃ao cap,v=.slice ao 0 cap/\cap<=9223372036854775807) \/
  ∃b off cap,v=.slice (some ⟨b,off,none⟩) rs.length cap/\rs.length<=cap/\cap<=9223372036854775807/\∀i,i<rs.length->RecAt w b (off+i*8) (rs.getD i Cn.none))
theorem Rcs.below{w w' v rs}(h:Rcs w v rs)(Y:Bw w w'):Rcs w' v rs:=by
 obtain⟨Z,D,R⟩:=h;refine⟨Z,D,?_⟩;rcases R with R|⟨b,P,M,N,S,z,I⟩
 ·exact .inl R
 ·exact .inr ⟨b,P,M,N,S,z,fun i hi=>(I i hi).below Y⟩
theorem Rcs.shape{w v rs}(h:Rcs w v rs):∃ao cap,v=.slice ao rs.length cap/\rs.length<=cap/\cap<=9223372036854775807:=by
 rcases h.2.2 with⟨rfl,ao,cap,N,z⟩|⟨b,P,cap,N,S,z,_⟩
 ·exact I7v
 ·exact S0K
theorem Rcs.place{w v rs}(h:Rcs w v rs)(F:0<rs.length):∃b off cap,v=.slice (some ⟨b,off,none⟩) rs.length cap/\rs.length<=cap/\cap<=9223372036854775807/\∀i,i<rs.length->RecAt w b (off+i*8) (rs.getD i Cn.none):=by
 rcases h.2.2 with⟨rfl,_⟩|h
 ·simp at F
 ·exact h
theorem Rcs.fit{w v rs}(h:Rcs w v rs){i}(hi:i<rs.length):RecFit (rs.getD i Cn.none):=h.2.1 _ n7A
theorem Rcs.head{w ao len cap k rs}(h:Rcs w (.slice ao len cap) rs)(G:k<=len):Rcs w (.slice ao k cap) (rs.take k):=by
 obtain⟨Z,D,R⟩:=h;refine⟨P8P,fun r u=>D r (List.mem_of_mem_take u),?_⟩;rcases R with⟨rfl,B,J,N,z⟩|⟨b,P,J,N,S,z,I⟩
 ·grind
 ·simp only[Value.slice.injEq]at N;obtain⟨rfl,rfl,rfl⟩:=N;have A:(rs.take k).length=k:=P8P;refine .inr ⟨b,P,cap,T7E,f6J,z,fun i hi=>?_⟩;rw[A]at hi;have:=I i f6J;rw[show(rs.take k).getD i Cn.none=rs.getD i Cn.none by simp[List.getD,List.getElem?_take_of_lt hi]];exact this
def recV(r:Rec)(vt:Value):Value:=.agg #[.int .i64 r.kind,.int .i64 r.lo,.int .i64 r.hi,.int .i64 r.n,vt,.string r.name,.string r.other,.float .f64 r.wt]
def IntB(w:World)(n:Int)(e:Ending)(w':World):Prop:=e=.returned (.int .i64 n)/\Below w.heap.size w w'
def x0c(w:World)(b:Bool)(e:Ending)(w':World):Prop:=e=.returned (.bool b)/\Below w.heap.size w w'
def z5p:Value:=.agg #[.int .i64 0,.int .i64 1,.int .i64 1,.int .i64 1,.int .i64 1,.int .i64 1,.int .i64 2,.int .i64 3,.int .i64 3,.int .i64 4,.int .i64 5,.int .i64 6,.int .i64 7,.int .i64 8,.int .i64 9,.int .i64 10]
theorem z5q k(A:1<=k)(Z:k<=15) w:(Instr.index 188 z5p (.int .i64 k)).run prog w=.ok (.int .i64 (Cn.fam k)) w:=by
 have h:k=1\/k=2\/k=3\/k=4\/k=5\/k=6\/k=7\/k=8\/k=9\/k=10\/k=11\/k=12\/k=13\/k=14\/k=15:=f6J
 rcases h with rfl|rfl|rfl|rfl|rfl|rfl|rfl|rfl|rfl|rfl|rfl|rfl|rfl|rfl|rfl<;>
  (simp[z5p,Instr.index,run_underlying underlying188,asIntOf,go_sem,Tryz.sizeOf3,Tryz.isAgg3,Cn.fam])
theorem x0l k w(G:I64 k):Calls prog 72 #[.int .i64 k] w fun e w'=>e=.returned (.int .i64 (Cn.fam k))/\w'=w:=by
 obtain⟨d,B⟩:=G;by_cases L:k<1
 ·have X:Cn.fam k=0:=(by unfold Cn.fam;rw[if_pos (.inl L)]);rw[X];exact s6f
 ·by_cases P:15<k
  ·have X:Cn.fam k=0:=(by unfold Cn.fam;rw[if_pos (.inr P)]);rw[X];exact s6f
  ·have c:=z5q k f6J f6J;unfold z5p at c;exact s6f
theorem x6Y r vt w(X:RecFit r):Calls prog 118 #[recV r vt] w (IntB w (Cn.step r)):=by
 unfold recV Cn.step;have E:=X.n;have G:=X.kind;generalize r.kind=kd,r.n=n at *;obtain⟨J,S⟩:=E;obtain⟨d,B⟩:=G;by_cases H:kd=4
 ·subst H;rw[if_pos rfl];by_cases L:0<=n
  ·have z:max n 0=n:=f6J;rw[z];exact i2d
  ·have z:max n 0=0:=f6J;rw[z];exact i2d
 ·rw[if_neg H];have q:(kd==4)=false:=b0f H;exact i2d
theorem z3q{c lo}(A:0<=c)(Z:c<=1114111)(D:lo<=c)(R:-9223372036854775808<=lo):∃L,IntKind.u64.wrap lo=L/\IntKind.u64.wrap (c-L)=c-lo:=by
 refine⟨_,rfl,?_⟩;by_cases E:0<=lo
 ·rw[IntWalk.u64_in lo ⟨f6J,f6J⟩,IntWalk.u64_in _ ⟨f6J,f6J⟩]
 ·have e:IntKind.u64.wrap lo=lo+18446744073709551616:=s9u
  rw[e];exact s9u
theorem x4u r vt c w(X:RecFit r)(I:-2147483648<=c/\c<=2147483647):Calls prog 119 #[recV r vt,.int .i64 c] w (x0c w (Cn.speaks r c)):=by
 have K:=O (fun w=>x6Y r vt w X)
 have J:Cn.step r<=9223372036854775807:=by
  unfold Cn.step;have:=X.n;unfold I64 at this;exact G7o
 have H:Cn.speaks r c=decide (r.kind≠15/\0<Cn.step r/\0<=c/\c<=1114111/\r.lo<=c/\c<=r.hi/\(c-r.lo)%Cn.step r=0):=rfl;rw[H];have G:=X.kind;have R:=X.lo;have a:=X.hi;unfold recV at *;generalize Cn.step r=st,r.kind=kd,r.n=n,r.lo=lo at *;generalize r.hi=hi,r.name=nm,r.other=ot,r.wt=o at *;obtain⟨d,B⟩:=G;obtain⟨t,i⟩:=R;obtain⟨k,U⟩:=a;obtain⟨l,j⟩:=I
 have y:∀W,Below (w.heap.size+1) (w.alloc (.cells #[.int .i64 kd,.int .i64 lo,.int .i64 hi,.int .i64 n,vt,.string nm,.string ot,.float .f64 o] 67)) W->W.cell? ⟨w.heap.size,0,none⟩=some (.int .i64 kd)/\W.cell? ⟨w.heap.size,1,none⟩=some (.int .i64 lo)/\W.cell? ⟨w.heap.size,2,none⟩=some (.int .i64 hi):=by
  intro W Y;refine⟨?_,?_,?_⟩<;>(rw[Y.cell M7M];simp[World.cell?,World.alloc,-World.alloc_eq])
 have C:=O y;by_cases L:kd=15
 ·have z:(kd != 15)=false:=(by simp[L]);rw[d0f (fun h=>h.1 L)];subst L;exact i2c
 ·have z:(kd != 15)=true:=(by simp[L]);by_cases f:0<st;rotate_left
  ·exact N2U
  by_cases b1:0<=c;rotate_left
  ·exact N2U
  by_cases m:c<=1114111;rotate_left
  ·exact N2U
  by_cases b:lo<=c;rotate_left
  ·exact N2U
  by_cases N:c<=hi;rotate_left
  ·exact N2U
  obtain⟨D,P,v⟩:=z3q b1 m b t;have p:IntKind.u64.wrap c=c:=IntWalk.u64_in c ⟨f6J,f6J⟩;have E:IntKind.u64.wrap st=st:=IntWalk.u64_in st ⟨f6J,f6J⟩;obtain⟨q,Z⟩:∃q,(c-lo).tmod st=q:=⟨_,rfl⟩;have s:(c-lo)%st=q:=(by rw[<- Z,Int.tmod_eq_emod_of_nonneg f6J]);have A:(st==0)=false:=b0f f6J;by_cases g:q=0
  ·rw[d0t ⟨L,f,b1,m,b,N,s.trans g⟩];subst g;go_enter func119,ntmps119;go_wp2_with fail;refine c1m (V K _) fun Q Y=>?_;obtain⟨x,u,S⟩:=V C Q (by simpa using Y);have T:x0c w true (.returned (.bool true)) Q:=⟨rfl,((b0r).alloc (l0r _) _).trans (Y.mono M7M)⟩;go_wp2;go_ret;exact T
  ·have F:(q==0)=false:=b0f g;rw[d0f (fun h=>g (s.symm.trans h.2.2.2.2.2.2))];exact i2c
theorem x2H v rs f c w(N:Rcs w v rs)(X:I64 f)(hc:-2147483648<=c/\c<=2147483647):Calls prog 81 #[v,.int .i64 f,.int .i32 c] w (IntB w (Cn.find rs f c)):=by
 obtain⟨u,y⟩:=X;by_cases ab:f=10
 ·have g:Cn.find rs f c=-1:=(by unfold Cn.find;rw[if_pos (.inl ab)]);rw[g];subst ab;exact U6x
 ·have q1:(f==10)=false:=b0f ab;by_cases h0:f=0
  ·have g:Cn.find rs f c=-1:=(by unfold Cn.find;rw[if_pos (.inr h0)]);rw[g];subst h0;exact U6x
  ·have x:(f==0)=false:=b0f h0;have g:Cn.find rs f c=Cn.findA f c 0 (rs.drop 0):=(by unfold Cn.find;rw[if_neg f6J];rfl);rw[g];have s:=N.1;have KF:=O (fun k w h=>x0l k w h);have t:=O (fun r m w h=>x4u r m c w h hc);have K:=O (fun i hi=>N.fit (i:=i) hi);generalize hres:Cn.findA f c 0 (rs.drop 0)=B;obtain⟨c0,j⟩:=hc;rcases Nat.eq_zero_or_pos rs.length with n0|n0
   ·obtain⟨R,M,rfl,_,_⟩:=N.shape;obtain rfl:rs=[]:=List.eq_nil_of_length_eq_zero n0;obtain rfl:-1=B:=hres;go_enter func81,ntmps81;go_wp2;refine wp_loop_rounds 1 ?_;rw[rounds_succ];go_wp2;go_ret;exact⟨rfl,b0r⟩
   ·obtain⟨b,P,M,rfl,ae,d,q⟩:=N.place n0;have C:Hid (∀i,i<rs.length->∀W,Bw w W->RecAt W b (P+i*8) (rs.getD i Cn.none)):=fun i hi W Y=>(q i hi).below Y;have a:=O hres;go_enter func81,ntmps81;go_wp2;go_loopw[7] (fun Z wr=>∃k:Nat,Z=.int .i64 k/\k<=rs.length/\Bw w wr/\Cn.findA f c k (rs.drop k)=B) (fun Z _=>rs.length-(intOf Z).toNat)
    case atStart=>exact⟨0,rfl,f6J,b0r,V a⟩
    case round =>
     obtain⟨k,rfl,G,A,J⟩:=hrel;by_cases H:k<rs.length
     ·have U:=V C k H wr A;have l:=V K k H;rw[Cn.y5o H]at J;have HX:=O J;generalize rs.getD k Cn.none=r at *;obtain⟨x0,x1,S,p,⟨m,x4,_⟩,x5,x6,x7⟩:=U;have K1:=O (V KF r.kind wr l.kind);have o:=O (V t r m wr l);unfold recV at o;generalize r.kind=kd,r.wt=wt at *;by_cases L:Cn.fam kd=f
      ·have y0:=O (show(Cn.fam kd==f)=true from beq_iff_eq.2 L);generalize Cn.fam kd=I at *;subst L;have y1:(I==I)=true:=beq_self_eq_true _;go_wp2_with fail;refine c0m K1 fun Q F=>?_;subst Q;go_wp2_with fail;refine c0m o fun Q E=>?_;have n:Bw w Q:=A.trans (E.mono A.size)
       cases hsp:Cn.speaks r c with
       | true =>
        have T:IntB w B (.returned (.int .i64 (k:Int))) Q:=⟨by rw[<- V HX,if_pos (by simp[hsp])],n⟩;go_wp2;go_ret;exact T
       | false =>
        have D:=O ((V HX).symm.trans (if_neg (by rw[hsp];exact M7L)));go_wp2
        go_roundw
        case rel=>exact⟨k+1,g2A,f6J,n,(V D).symm⟩
        case measure=>exact g7V
      ·have y1:(Cn.fam kd==f)=false:=b0f L;have D:=O ((V HX).symm.trans (if_neg (fun h=>L h.1)));generalize Cn.fam kd=I at *;go_wp2_with fail;refine c0m K1 fun Q F=>?_;subst Q;go_wp2
       go_roundw
       case rel=>exact⟨k+1,g2A,f6J,A,(V D).symm⟩
       case measure=>exact g7V
     ·obtain rfl:k=rs.length:=f6J;have z:(-1:Int)=B:=(by rw[<- J,List.drop_eq_nil_of_le (l0r _)];rfl);have T:IntB w B (.returned (.int .i64 (-1))) wr:=⟨by rw[z],A⟩;exact U7J
theorem Tryz.info21:(prog.info? 21).map (fun i=>(i.zero,i.size,i.bytes))=some (some (.int .i32 0),1,4):=f4x
theorem info_parts{p:Option TypeInfo}{z:Option Value}{s b}(h:p.map (fun i=>(i.zero,i.size,i.bytes))=some (z,s,b)):∃i,p=some i/\i.zero=z/\i.size=s/\i.bytes=b:=f0h
def x0j(w:World)(zs:List Int)(e:Ending)(w':World):Prop:=∃v,e=.returned v/\Ok .i32 21 w' w.heap.size v zs/\Below w.heap.size w w'
def x6h(w:World)(r:Option (Int×Int))(e:Ending)(w':World):Prop:=e=.returned (.tuple #[.int .i32 ((r.map (·.1)).getD 0),.int .i32 ((r.map (·.2)).getD 0),.bool r.isSome])/\Below w.heap.size w w'
theorem x5a c w(h:-2147483648<=c/\c<=2147483647):Calls prog 76 #[.int .i32 c] w fun e w'=>e=.returned (.bool (Cn.syl c))/\w'=w:=by
 obtain⟨Z,D⟩:=h;unfold Cn.syl;by_cases L:44032<=c
 ·by_cases P:c<=55203
  ·rw[d0t ⟨L,P⟩];exact v1D
  ·rw[d0f (fun h=>P h.2)];exact v1D
 ·rw[d0f (fun h=>L h.1)];exact v1D
theorem hit_at{w v rs}(N:Rcs w v rs) f c:(Cn.find rs f c=-1/\Cn.hit rs f c=none) \/
  ∃(k:Nat) (b off cap:Nat),Cn.find rs f c=k/\k<rs.length/\Cn.hit rs f c=some (rs.getD k Cn.none)/\v=.slice (some ⟨b,off,none⟩) rs.length cap/\rs.length<=cap/\cap<=9223372036854775807/\RecAt w b (off+k*8) (rs.getD k Cn.none)/\RecFit (rs.getD k Cn.none):=by
 rcases Cn.find_bound rs f c with h|⟨Z,D⟩
 ·exact .inl ⟨h,by unfold Cn.hit;rw[h];rfl⟩
 ·obtain⟨k,G⟩:∃k:Nat,Cn.find rs f c=k:=⟨(Cn.find rs f c).toNat,f6J⟩;have J:k<rs.length:=f6J;obtain⟨b,off,cap,x,S,z,I⟩:=N.place f6J;refine .inr ⟨k,b,off,cap,G,J,?_,x,S,z,I k J,N.fit J⟩;unfold Cn.hit;rw[G,if_neg f6J];rfl
theorem x3m v rs c w(N:Rcs w v rs)(I:-2147483648<=c/\c<=2147483647):Calls prog 121 #[v,.int .i32 c] w (IntB w (Cn.cls rs c)):=by
 have K:=O (x2H v rs 2 c w N w5o I);obtain⟨l,j⟩:=I;rcases hit_at N 2 c with⟨Z,D⟩|⟨k,b,P,M,Z,J,D,rfl,S,z,u,X⟩
 ·have t:Cn.cls rs c=0:=N4U;rw[t];rw[Z]at K;obtain⟨R,M,rfl,_,_⟩:=N.shape;go_enter func121,ntmps121;go_wp2_with fail;refine c0m K fun Q Y=>?_;have T:IntB w 0 (.returned (.int .i64 0)) Q:=⟨rfl,Y⟩;go_wp2;go_ret;exact T
 ·have t:Cn.cls rs c=(rs.getD k Cn.none).n:=N4U;rw[t];rw[Z]at K;have a:=O u;have s:=N.1;generalize rs.getD k Cn.none=r at *;go_enter func121,ntmps121;go_wp2_with fail;refine c0m K fun Q Y=>?_;have p:=((V a).below Y).n;have T:IntB w r.n (.returned (.int .i64 r.n)) Q:=⟨rfl,Y⟩;go_wp2;go_ret;exact T
theorem ok_two(w:World) a b(g:-2147483648<=a/\a<=2147483647)(Y:-2147483648<=b/\b<=2147483647):Ok .i32 21 (w.alloc (.cells #[.int .i32 a,.int .i32 b] 21)) w.heap.size (.slice (some ⟨w.heap.size,0,none⟩) 2 2) [a,b]:=by
 refine Ok.of (n:=2) (us:=[.int .i32 a,.int .i32 b]) (fun z o=>?_) M7M ⟨rfl,.inr ⟨w.heap.size,2,#[.int .i32 a,.int .i32 b],rfl,l0r _,?_,l0r _,T7W,rfl,rfl⟩⟩ rfl rfl
 ·simp only[List.mem_cons,List.mem_nil_iff,or_false]at o;simp only[IntKind.min,IntKind.max,IntKind.signed,IntKind.bits];rcases o with rfl|rfl<;>simp<;>omega
 ·exact R0p
theorem x2I v rs c w(N:Rcs w v rs)(I:-2147483648<=c/\c<=2147483647):Calls prog 123 #[v,.int .i32 c] w (x0j w (Cn.opn rs c)):=by
 obtain⟨i0,hi,f,p,t⟩:=info_parts Tryz.info21;have B:=O (x5a c w I);have K:=O (x2H v rs 3 c w N (by unfold I64;exact f6J) I);obtain⟨c0,c1⟩:=I;by_cases U:Cn.syl c=true
 ·have i:44032<=c/\c<=55203:=(by unfold Cn.syl at U;simpa using U);obtain⟨H,s1⟩:=i;rw[U]at B;obtain⟨R,M,rfl,_,_⟩:=N.shape;have e1:(c-44032).tmod 28=(c-44032)%28:=Int.tmod_eq_emod_of_nonneg f6J;have e2:(c-44032).tdiv 588=(c-44032) / 588:=Int.tdiv_eq_ediv_of_nonneg f6J;have E:(c-44032).tdiv 28=(c-44032) / 28:=Int.tdiv_eq_ediv_of_nonneg f6J;have o:((c-44032) / 28).tmod 21=(c-44032) / 28%21:=Int.tmod_eq_emod_of_nonneg f6J;by_cases A:(c-44032)%28=0
  ·have y:Cn.opn rs c=[4352+(c-44032) / 588,4449+(c-44032) / 28%21]:=(by unfold Cn.opn;rw[if_pos U,if_pos A]);rw[y];have ab:((c-44032)%28==0)=true:=beq_iff_eq.2 A
   have T:x0j w [4352+(c-44032) / 588,4449+(c-44032) / 28%21] (.returned (.slice (some ⟨w.heap.size,0,none⟩) 2 2)) (w.alloc (.cells #[.int .i32 (4352+(c-44032) / 588),.int .i32 (4449+(c-44032) / 28%21)] 21)) :=
    ⟨_,rfl,ok_two w _ _ f6J f6J,(b0r).alloc (l0r _) _⟩
   exact r9Z
  ·have y:Cn.opn rs c=[c-(c-44032)%28,4519+(c-44032)%28]:=(by unfold Cn.opn;rw[if_pos U,if_neg A]);rw[y];have ab:((c-44032)%28==0)=false:=b0f A
   have T:x0j w [c-(c-44032)%28,4519+(c-44032)%28] (.returned (.slice (some ⟨w.heap.size,0,none⟩) 2 2)) (w.alloc (.cells #[.int .i32 (c-(c-44032)%28),.int .i32 (4519+(c-44032)%28)] 21)) :=
    ⟨_,rfl,ok_two w _ _ f6J f6J,(b0r).alloc (l0r _) _⟩
   exact r9Z
 ·have i:Cn.syl c=false:=(by simpa using U);rw[i]at B;rcases hit_at N 3 c with⟨Z,D⟩|⟨k,b,P,M,Z,ag,D,rfl,S,hm,hr,X⟩
  ·have y:Cn.opn rs c=[]:=W2g;rw[y];rw[Z]at K;obtain⟨R,M,rfl,_,_⟩:=N.shape;go_enter func123,ntmps123;go_wp2_with fail;refine c0m B fun Q F=>?_;subst Q;go_wp2_with fail;refine c0m K fun Q Y=>?_;have T:x0j w [] (.returned (.slice none 0 0)) Q:=⟨_,rfl,Ok.nil _ _ _ _,Y⟩;go_wp2;go_ret;exact T
  ·have y:Cn.opn rs c=(rs.getD k Cn.none).to:=W2g;rw[y];rw[Z]at K;have a:=O hr;have s:=N.1;have j:=X.len;generalize rs.getD k Cn.none=r at *;go_enter func123,ntmps123;go_wp2_with fail;refine c0m B fun Q F=>?_;subst Q;go_wp2_with fail;refine c0m K fun Q Y=>?_;obtain⟨m,g,ae⟩:=((V a).below Y).to;have hB:=Y.size;have l:=ae.1;generalize r.to=zs at *;rcases ae.2.src with⟨q,rfl⟩|⟨ad,L,rfl,af⟩
   ·obtain rfl:zs=[]:=W3R;have T:x0j w [] (.returned (.slice none 0 0)) Q:=⟨_,rfl,Ok.nil _ _ _ _,Y⟩;go_wp2_with(at_builtin;refine wpList_append_own_none rfl (.tmp 36) (.tmp 41) 40 rfl w.heap.size 21 i0 1 underlying40 hi _ _ _ rfl (World.ownsRow_nil _ _ _ _) rfl ?_);exact U7J
   ·have n:(zs.map (Value.int .i32)).length=zs.length:=List.length_map _;rw[n]at g;go_wp2_with(at_builtin;refine wpList_append_own _ rfl (.tmp 36) (.tmp 41) 40 rfl w.heap.size 21 i0 (.int .i32 0) 1 4 underlying40 hi f p t rfl e8P _ _ _ rfl (World.ownsRow_nil _ _ _ _) ad zs.length L (zs.map (Value.int .i32)) rfl M7M af (fun u W=>w8O) T7W f6J f6J ?_);intro J w9 x C _;have d:Bw w w9:=Y.grown C hB (fun k G=>by simp[Value.ownBlock]at G);have T:x0j w zs (.returned J) w9:=⟨J,rfl,Ok.of l f6J x M7M M7M,d⟩;exact U7J
def x1x(w:World)(b:Bool)(e:Ending)(w':World):Prop:=e=.returned (.bool b)/\∃m,w'=w.drewN m
theorem x4g(w:World):∃m,w=w.drewN m:=⟨0,rfl⟩
theorem x4M{w w':World}(h:∃m,w'=w.drewN m) n:∃m,w'.drewN n=w.drewN m:=by
 obtain⟨m,rfl⟩:=h;exact⟨m+n,by rw[World.drewN_drewN]⟩
theorem x0k{w w'}(h:∃m,w'=w.drewN m):Bw w w':=by
 obtain⟨m,rfl⟩:=h;exact below_drewN (b0r) m
theorem ints_at{K}{zs:List Int}{i}(h:i<zs.length):(zs.map (Value.int K)).getD i undef=.int K (zs.getD i 0):=p8I
theorem x7L v rs c w(N:Rcs w v rs)(I:-2147483648<=c/\c<=2147483647):Calls prog 122 #[v,.int .i32 c] w (x6h w (Cn.prim rs c)):=by
 have B:=O (x5a c w I);have H:=O (x2I v rs c w N I);have K:=O (x2H v rs 3 c w N w5s I);obtain⟨c0,c1⟩:=I;by_cases hs:Cn.syl c=true
 ·have L:Cn.prim rs c=some ((Cn.opn rs c).getD 0 0,(Cn.opn rs c).getD 1 0):=(by unfold Cn.prim;rw[if_pos hs]);have D:(Cn.opn rs c).length=2:=(by unfold Cn.opn;rw[if_pos hs];split<;>rfl);rw[L];rw[hs]at B;obtain⟨R,M,rfl,_,_⟩:=N.shape;generalize Cn.opn rs c=y at *;go_enter func122,ntmps122;go_wp2_with fail;refine c0m B fun Q F=>?_;subst Q;go_wp2_with fail;refine(V H).mono ?_;rintro e Q ⟨vx,rfl,X,Y⟩;obtain⟨b,P,ar,rfl,am,W,o⟩:=X.sk.2.place P8P;have ae:(y.map (Value.int .i32)).length=2:=(by simp[D]);have z:=o 0 f6J;have m:=o 1 f6J;rw[ints_at f6J]at z m;rw[ae]at am ⊢;rw[Nat.add_zero]at z;clear H X o ae;generalize y.getD 0 0=p,y.getD 1 0=q at *;have T:∀n,x6h w (some (p,q)) (.returned (.tuple #[.int .i32 p,.int .i32 q,.bool true])) (Q.drewN n):=fun n=>⟨rfl,x0b Y (x0k ⟨n,rfl⟩)⟩;clear Y;go_wp2;go_big_quiet (fail);go_wp2;go_ret3;exact T _
 ·have i:Cn.syl c=false:=(by simpa using hs);rw[i]at B;rcases hit_at N 3 c with⟨Z,D⟩|⟨k,b,P,M,Z,J,D,rfl,S,hm,u,hf⟩
  ·have L:Cn.prim rs c=none:=r2A;rw[L];rw[Z]at K;obtain⟨R,M,rfl,_,_⟩:=N.shape;clear N Z D L hs i H;go_enter func122,ntmps122;go_wp2_with fail;refine c0m B fun Q F=>?_;subst Q;clear B;go_wp2_with fail;refine c0m K fun Q Y=>?_;have T:x6h w none (.returned (.tuple #[.int .i32 0,.int .i32 0,.bool false])) Q:=⟨rfl,Y⟩;clear K Y;go_wp2;go_ret3;exact T
  ·have L:Cn.prim rs c=if(rs.getD k Cn.none).kind=7/\(rs.getD k Cn.none).to.length=2 then some ((rs.getD k Cn.none).to.getD 0 0,(rs.getD k Cn.none).to.getD 1 0)else none:=r2A;rw[Z]at K;have HR:=O u;have s:=N.1;have ai:=hf.kind;obtain⟨ay,az⟩:=ai;have j:=hf.len;clear N Z D hs i u hf H;generalize rs.getD k Cn.none=r at *;have G:Hid (r.kind=7->r.to.length=2->Cn.prim rs c=some (r.to.getD 0 0,r.to.getD 1 0)):=fun a b=>(by rw[L,if_pos ⟨a,b⟩]);have l:Hid (¬(r.kind=7/\r.to.length=2)->Cn.prim rs c=none):=fun a=>(by rw[L,if_neg a]);clear L;generalize Cn.prim rs c=E at *;go_enter func122,ntmps122;go_wp2_with fail;refine c0m B fun Q F=>?_;subst Q;clear B;go_wp2_with fail;refine c0m K fun Q Y=>?_;have U:=(V HR).below Y;obtain⟨vt,g,A⟩:=U.to;have x0:=U.kind;clear K HR U;generalize r.to=y,r.kind=kd at *;obtain⟨aq,af,rfl,aj,aw⟩:=A.shape;have f:x6h w none (.returned (.tuple #[.int .i32 0,.int .i32 0,.bool false])) Q:=⟨rfl,Y⟩;by_cases h7:kd=7
   ·subst h7;by_cases t:y.length=2
    ·obtain rfl:=V G rfl t;clear G l;obtain⟨tb,ag,ab,d,_,_,C⟩:=A.place f6J;obtain⟨rfl,rfl⟩:aq=some ⟨tb,ag,none⟩/\af=ab:=V6r;have z:=C 0 f6J;have m:=C 1 f6J;rw[Nat.add_zero]at z;rw[t]at g aj;generalize y.getD 0 0=p,y.getD 1 0=q at *;exact e4d
    ·obtain rfl:=V l (fun h=>t h.2);clear G l;have x:((y.length:Int) != 2)=true:=P8P;clear A Y;go_wp2;go_ret3;exact f
   ·obtain rfl:=V l (fun h=>h7 h.1);clear G l;have q7:(kd != 7)=true:=(by simp[h7]);clear A Y;go_wp2;go_ret3;exact f
theorem z3d v u zs w(N:Sk .i32 w v zs)(W:Sk .i32 w u zs)(F:zs.length<=1000000000):Calls prog 39 #[v,u] w (x1x w true):=by
 rcases Nat.eq_zero_or_pos zs.length with h0|h0
 ·obtain⟨R,M,rfl,_,_⟩:=N.shape;obtain⟨B,J,rfl,_,_⟩:=W.shape;rw[h0];go_enter func39,ntmps39;go_wp2;refine wp_loop_rounds 1 ?_;rw[rounds_succ];go_wp2;go_ret;exact⟨rfl,x4g w⟩
 ·obtain⟨b,P,M,rfl,o,q,I⟩:=N.place h0;obtain⟨d,U,J,rfl,p,S,r⟩:=W.place h0
  have C:Hid (∀wr,Bw w wr->∀i,i<zs.length->wr.cell? ⟨b,P+i,none⟩=some (.int .i32 (zs.getD i 0))/\wr.cell? ⟨d,U+i,none⟩=some (.int .i32 (zs.getD i 0))):=by
   intro wr Y i hi;have E:=I i hi;have s:=r i hi;exact⟨by rw[Y.cell (x0a E)];exact E,by rw[Y.cell (x0a s)];exact s⟩
  have A:((zs.length:Int) != (zs.length:Int))=false:=M7L;go_enter func39,ntmps39;go_wp2;go_loopw[5] (fun i wr=>∃k:Nat,i=.int .i64 k/\k<=zs.length/\∃m,wr=w.drewN m) (fun i _=>zs.length-(intOf i).toNat)
  case atStart=>exact⟨0,rfl,f6J,x4g w⟩
  case round =>
   obtain⟨k,rfl,G,K⟩:=hrel;by_cases H:k<zs.length
   ·obtain⟨E,s⟩:=V C _ (x0k K) k H;generalize zs.getD k 0=t at *;have Q:(t != t)=false:=M7L;go_wp2;go_big_quiet (fail);go_wp2
    go_roundw
    case rel=>exact⟨k+1,g2A,f6J,x4M K _⟩
    case measure=>exact g7V
   ·clear C;go_wp2;go_ret;exact⟨rfl,K⟩
theorem Tryz.info67:(prog.info? 67).map (fun i=>(i.zero,i.size,i.bytes))=some (some (.agg #[.int .i64 0,.int .i64 0,.int .i64 0,.int .i64 0,.slice none 0 0,.string ⟨#[]⟩,.string ⟨#[]⟩,.float .f64 0]),8,96):=f4x
def x0z(p:Rec×Value):List Value:=[.int .i64 p.1.kind,.int .i64 p.1.lo,.int .i64 p.1.hi,.int .i64 p.1.n,p.2,.string p.1.name,.string p.1.other,.float .f64 p.1.wt]
def rcells(ps:List (Rec×Value)):List Value:=ps.flatMap x0z
theorem x1k(ps:List (Rec×Value)):(rcells ps).length=ps.length*8:=by
 induction ps with
 | nil=>rfl
 | cons p ps ih =>
  rw[rcells,List.flatMap_cons,List.length_append]at *;rw[ih];simp[x0z];omega
theorem x3U(ps:List (Rec×Value))(p:Rec×Value):rcells ps++x0z p=rcells (ps++[p]):=by
 rw[rcells,rcells,List.flatMap_append];simp
theorem x1v:∀(ps:List (Rec×Value)) (i j:Nat),i<ps.length->j<8->(rcells ps)[i*8+j]?=(x0z (ps.getD i (Cn.none,undef)))[j]?
 | [],i,j,h,_=>by simp at h
 | p::ps,0,j,_,hj=>by
  rw[rcells,List.flatMap_cons,List.getElem?_append_left F7q];simp
 | p::ps,i+1,j,h,hj=>by
  have B:=x1v ps i j S4r hj;rw[rcells,List.flatMap_cons,List.getElem?_append_right F7q];have e:(i+1)*8+j-(x0z p).length=i*8+j:=F7q;rw[e];exact B
def Rown(w:World)(B:Nat)(v:Value)(ps:List (Rec×Value)):Prop:=w.ownsRow B 67 8 v ps.length (rcells ps)/\∀p∈ps,Ok .i32 21 w B p.2 p.1.to
theorem Rown.rcs{w B v}{ps:List (Rec×Value)}(h:Rown w B v ps)(S:ps.length<=1000000000)(X:∀p∈ps,RecFit p.1):Rcs w v (ps.map (·.1)):=by
 refine⟨t2Y,fun r D=>?_,?_⟩
 ·grind
 ·have R:=h.1;rcases h.1.2 with⟨N,A⟩|⟨g,M,T,N,C,a,E,t,q,Q⟩
  ·grind
  ·refine .inr ⟨g,0,M,by rw[N,List.length_map],f3L,v9x,fun i hi=>?_⟩;rw[List.length_map]at hi;have z:ps.getD i (Cn.none,undef)∈ps:=(by grind);have U:(ps.map (·.1)).getD i Cn.none=(ps.getD i (Cn.none,undef)).1:=by grind
   have I:∀j u,j<8->(x0z (ps.getD i (Cn.none,undef)))[j]?=some u->w.cell? ⟨g,0+i*8+j,none⟩=some u:=by
    intro j u K W;have e:=R.cells (g:=g) U5P (i*8+j) u (by rw[x1v ps i j hi K];exact W);rw[addr_add]at e;rw[(f6J:0+i*8+j=0+(i*8+j))];exact e
   rw[U];exact⟨I 0 _ f6J rfl,I 1 _ f6J rfl,I 2 _ f6J rfl,I 3 _ f6J rfl,⟨_,I 4 _ f6J rfl,(h.2 _ z).sk⟩,I 5 _ f6J rfl,I 6 _ f6J rfl,I 7 _ f6J rfl⟩
theorem x0x{w w':World}{B e W n:Nat}{v us}(h:w.ownsRow B e W v n us)(G:∀g,v.ownBlock=some g->w'.heap[g]?=w.heap[g]?):w'.ownsRow B e W v n us:=by
 obtain⟨Z,D⟩:=h;refine⟨Z,?_⟩;rcases D with D|⟨g,M,T,N,Y,C,rest⟩
 ·exact .inl D
 ·exact .inr ⟨g,M,T,N,Y,(G g U5P).trans C,rest⟩
theorem Ok.keep{w w' K e B}{v zs}(h:Ok K e w B v zs)(G:∀g,v.ownBlock=some g->w'.heap[g]?=w.heap[g]?):Ok K e w' B v zs:=⟨h.1,h.2.1,x0x h.2.2 G⟩
theorem x0N{w:World}{B E e K W A n L:Nat}{v v' us us'}(h:w.ownsRow B e W v n us)(D:w.ownsRow E K A v' L us')(F:e≠K){g}(C:v.ownBlock=some g):v'.ownBlock≠some g:=by
 intro Q;rcases h.2 with⟨rfl,_⟩|⟨k,M,T,rfl,_,a,_⟩
 ·cases C
 ·rcases D.2 with⟨rfl,_⟩|⟨I,J,H,rfl,_,G,_⟩
  ·cases Q
  ·simp[Value.ownBlock]at C Q;subst C;subst Q;rw[a]at G;simp at G;exact F G.2
theorem x0f{w:World}{g j cur e}(h:w.heap[g]?=some (.cells cur e (0,0))) v:(w.setCell ⟨g,j,none⟩ v).heap[g]?=some (.cells (cur.setIfInBounds j v) e (0,0)):=by
 rw[setCell_eq_setRow w g j cur e (0,0) v h];exact setRow_heap w g cur _ e _ h
theorem cell_of{w:World}{g j cur e}(h:w.heap[g]?=some (.cells cur e (0,0)))(K:j<cur.size):w.cell? ⟨g,j,none⟩=some (cur.getD j undef):=by
 simp[World.cell?,h,K]
theorem x0e{w:World}{g j cur e}(h:w.heap[g]?=some (.cells cur e (0,0))):w.frozen? ⟨g,j,none⟩=false:=by
 simp[World.frozen?,h]
def x6i(w:World)(rs:List Rec)(e:Ending)(w':World):Prop:=∃v ps,e=.returned v/\ps.map (·.1)=rs/\Rown w' w.heap.size v ps/\Below w.heap.size w w'
def rarr(r:Rec)(vt:Value):Array Value:=#[.int .i64 r.kind,.int .i64 r.lo,.int .i64 r.hi,.int .i64 r.n,vt,.string r.name,.string r.other,.float .f64 r.wt]
theorem z6C(W:World) r vt:∀j u,(x0z (r,vt))[j]?=some u->(W.alloc (.cells (rarr r vt) 67)).cell? ((⟨W.heap.size,0,none⟩:Addr).add j)=some u:=by
 intro j u K
 have H:j<8:=by
  rcases Nat.lt_or_ge j 8 with h|h
  ·exact h
  ·rw[List.getElem?_eq_none F7q]at K;cases K
 rw[addr_add,Nat.zero_add];have e:(rarr r vt).toList=x0z (r,vt):=rfl;simp only[World.cell?,World.alloc];simp;rw[<- Array.getElem?_toList,e];exact K
theorem x5Z(W:World) n(E:W.heap.size=n) r vt:∀j u,(x0z (r,vt))[j]?=some u->(W.alloc (.cells #[.int .i64 r.kind,.int .i64 r.lo,.int .i64 r.hi,.int .i64 r.n,vt,.string r.name,.string r.other,.float .f64 r.wt] 67)).cell? ((⟨n,0,none⟩:Addr).add j)=some u:=by
 subst E;exact z6C W r vt
theorem x6W r{vt}(h:vt.oneCell'=true):∀u∈x0z (r,vt),u.oneCell'=true:=by
 intro u W;simp only[x0z,List.mem_cons,List.mem_nil_iff,or_false]at W
 rcases W with rfl|rfl|rfl|rfl|rfl|rfl|rfl|rfl<;>first| rfl | exact h
theorem x0g{w:World}{g j k} v(h:k≠g):(w.setCell ⟨g,j,none⟩ v).heap[k]?=w.heap[k]?:=Below.heap_setCell _ _ _ _ (fun e=>h e)
theorem x0d{B a w}(h:Below B a w){g j}(C:B<=g) v:Below B a (w.setCell ⟨g,j,none⟩ v):=by
 refine h.trans ⟨?_,?_,?_,?_,fun k G=>x0g v f6J⟩
 all_goals first| rfl|(unfold World.setCell;split<;>first| rfl | simp)
theorem x1a(w:World) g j v:(w.setCell ⟨g,j,none⟩ v).heap.size=w.heap.size:=f0h
theorem y1Z{w wr w9 w10 mv v9 v10}{ps:List (Rec×Value)}{r vt o}(R:Rown wr w.heap.size mv ps)(A:Bw w wr)
  (J:Ok .i32 21 w9 w.heap.size v9 r.to) (C:(wr.alloc (.cells (rarr r vt) 67)).grownBy w9 (Value.slice none 0 0).ownBlock)
  (L:w10.ownsRow w.heap.size 67 8 v10 (ps.length+1) (rcells ps++x0z (r,v9))) (c:((w9.setCell ⟨wr.heap.size,4,none⟩ v9).alloc o).grownBy w10 mv.ownBlock) :
  Rown w10 w.heap.size v10 (ps++[(r,v9)])/\Bw w w10:=by
 have l:=A.size;have q:(wr.alloc (.cells (rarr r vt) 67)).heap.size<=w9.heap.size:=C.size;have I:wr.heap.size+1<=w9.heap.size:=W3R;have Q:∀g,g<wr.heap.size+1->w9.heap[g]?=(wr.alloc (.cells (rarr r vt) 67)).heap[g]?:=fun g U=>C.block g G5Z V3M;have K:∀g,g<wr.heap.size->(wr.alloc (.cells (rarr r vt) 67)).heap[g]?=wr.heap[g]?:=fun g U=>((Below.refl wr.heap.size wr).alloc (l0r _) _).block g U
 have E:w9.heap[wr.heap.size]?=some (.cells (rarr r vt) 67 (0,0)):=by
  rw[Q _ f6J];exact s6Q
 have B:w9.ownsRow w.heap.size 67 8 mv ps.length (rcells ps):=x0x R.1 (fun g h=>by rw[Q g (by have:=(R.1.lt g h).2;exact f6J),K g (R.1.lt g h).2])
 have F:∀g,g<w9.heap.size->g≠wr.heap.size->mv.ownBlock≠some g->w10.heap[g]?=w9.heap[g]?:=fun g U Z D=>by
  have P:=c.block g P8P (fun e=>D e.symm);rw[P];have f:((w9.setCell ⟨wr.heap.size,4,none⟩ v9).alloc o).heap[g]?=(w9.setCell ⟨wr.heap.size,4,none⟩ v9).heap[g]?:=((b0r).alloc (l0r _) _).block g (by rw[x1a];exact U);rw[f,x0g v9 Z]
 refine⟨⟨?_,fun p hp=>?_⟩,?_⟩
 ·rw[x3U]at L;simpa using L
 ·rcases List.mem_append.1 hp with hp|hp
  ·have i:=R.2 p hp;refine i.keep fun g h=>?_;have H:=(i.2.2.lt g h).2;rw[F g f6J f6J (x0N i.2.2 R.1 e8P h),Q g f6J,K g H]
  ·simp only[List.mem_singleton]at hp;subst hp;refine J.keep fun g h=>?_;have H:=(J.2.2.lt g h).2;refine F g H (fun e=>?_) (x0N J.2.2 B e8P h);rcases J.2.2.2 with⟨N,_⟩|⟨S,M,T,N,_,a,_⟩
   ·rw[N]at h;cases h
   ·rw[N]at h;simp[Value.ownBlock]at h;rw[h,e,E]at a;simp at a
 ·have b1:Bw w w9:=(A.alloc l _).grown C P8P (fun k G=>by simp[Value.ownBlock]at G);have m:=x0d b1 (g:=wr.heap.size) (j:=4) l v9;exact(m.alloc (by rw[x1a];exact f6J) o).grown c P8P (fun k G=>(R.1.lt k G).1)
theorem y5b{w wr w10 mv v10}{ps:List (Rec×Value)}{r o1 o}(R:Rown wr w.heap.size mv ps)(A:Bw w wr)(j:r.to=[])
  (L:w10.ownsRow w.heap.size 67 8 v10 (ps.length+1) (rcells ps++x0z (r,.slice none 0 0))) (c:((wr.alloc o1).alloc o).grownBy w10 mv.ownBlock) :
  Rown w10 w.heap.size v10 (ps++[(r,.slice none 0 0)])/\Bw w w10:=by
 have l:=A.size;refine⟨⟨?_,fun p hp=>?_⟩,?_⟩
 ·rw[x3U]at L;simpa using L
 ·rcases List.mem_append.1 hp with hp|hp
  ·have i:=R.2 p hp;refine i.keep fun g h=>?_;have H:=(i.2.2.lt g h).2;rw[c.block g P8P (fun e=>x0N i.2.2 R.1 e8P h e.symm)];exact(((Below.refl wr.heap.size wr).alloc (l0r _) o1).alloc M7M o).block g H
  ·simp only[List.mem_singleton]at hp;subst hp;show Ok .i32 21 w10 w.heap.size (.slice none 0 0) r.to;rw[j];exact n7i
 ·exact((A.alloc l _).alloc P8P o).grown c P8P (fun k G=>(R.1.lt k G).1)
theorem x4s v rs w(hv:Rcs w v rs):Calls prog 22 #[v] w (x6i w rs):=by
 obtain⟨i0,hi,f,p,aD⟩:=info_parts Tryz.info21;obtain⟨i1,hj,aw,ay,y⟩:=info_parts Tryz.info67;have aF:=hv.1;have K:=O (fun i hi=>hv.fit (i:=i) hi);rcases Nat.eq_zero_or_pos rs.length with n0|n0
 ·obtain⟨ao,az,rfl,_,_⟩:=hv.shape;obtain rfl:rs=[]:=List.eq_nil_of_length_eq_zero n0;have T:x6i w [] (.returned (.slice none 0 0)) w:=⟨_,[],rfl,rfl,⟨World.ownsRow_nil _ _ _ _,fun _ h=>(by cases h)⟩,b0r⟩;go_enter func22,ntmps22;exact N2V
 ·obtain⟨b,ag,az,rfl,aG,aH,q⟩:=hv.place n0;have HC:Hid (∀i,i<rs.length->∀W,Bw w W->RecAt W b (ag+i*8) (rs.getD i Cn.none)):=fun i hi W hb=>(q i hi).below hb
  have af:Hid (∀k,k<rs.length->rs.take (k+1)=rs.take k++[rs.getD k Cn.none]):=fun k hk=>by
   rw[List.take_add_one];exact E9b
  go_enter func22,ntmps22;go_wp2;go_loopw[3,4,5,6] (fun mv Z _ _ wr=>∃(k:Nat) (d:List (Rec×Value)),Z=.int .i64 k/\k<=rs.length/\d.map (·.1)=rs.take k/\d.length=k/\Rown wr w.heap.size mv d/\Bw w wr) (fun _ Z _ _ _=>rs.length-(intOf Z).toNat)
  case atStart=>exact⟨0,[],rfl,f6J,by simp,rfl,⟨World.ownsRow_nil _ _ _ _,fun _ h=>(by cases h)⟩,b0r⟩
  case round =>
   obtain⟨k,d,rfl,hk,X,ae,R,A⟩:=hrel;by_cases H:k<rs.length
   ·have U:=V HC k H wr A;have l:=V K k H;have s:=V af k H;rw[<- X]at s;have aI:=l.len;have ai:=O s;generalize rs.getD k Cn.none=r at *;obtain⟨x0,x1,x2,x3,⟨vt,x4,am⟩,x5,x6,x7⟩:=U;have hB:=A.size;have N:=am.1;rcases am.2.src with⟨aj,rfl⟩|⟨ad,L,rfl,aq⟩
    ·obtain ar:r.to=[]:=by simpa using aj
     have hX:∀o,(wr.alloc o).cell? ⟨b,ag+k*8+4,none⟩=some (.slice none 0 0):=fun o=>U5E
     have aA:∀W a m,(store a (.float .f64 r.wt) m).run prog W=stored prog W a (.float .f64 r.wt) m:=fun W a m=>run_store prog W a _ m rfl;have hM:∀o o2,((wr.alloc o).alloc o2).ownsRow w.heap.size 67 8 u3 d.length (rcells d):=fun o o2=>(R.1.alloc o).alloc o2;have HM:=O hM;have P:Hid (∀o ab I,World.ownsRow I w.heap.size 67 8 ab (d.length+1) (rcells d++x0z (r,.slice none 0 0))->((wr.alloc (.cells #[.int .i64 r.kind,.int .i64 r.lo,.int .i64 r.hi,.int .i64 r.n,.slice none 0 0,.string r.name,.string r.other,.float .f64 r.wt] 67)).alloc o).grownBy I u3.ownBlock->Rown I w.heap.size ab (d++[(r,.slice none 0 0)])/\Bw w I):=fun o ab I a b=>y5b R A ar a b;have t:=O (x5Z (wr.alloc (.cells #[.int .i64 r.kind,.int .i64 r.lo,.int .i64 r.hi,.int .i64 r.n,.slice none 0 0,.string r.name,.string r.other,.float .f64 r.wt] 67)) (wr.heap.size+1) (by simp) r (.slice none 0 0));have S:=O (x6W r (vt:=.slice none 0 0) rfl);go_wp2_with(first| (at_builtin;refine wpList_append_own_none rfl (.tmp 17) (.tmp 22) 40 rfl w.heap.size 21 i0 1 underlying40 hi _ _ _ rfl (World.ownsRow_nil _ _ _ _) rfl ?_)|(at_builtin;refine wpList_append_own _ rfl (.tmp 25) (.tmp 27) 23 rfl w.heap.size 67 i1 (.agg #[.int .i64 0,.int .i64 0,.int .i64 0,.int .i64 0,.slice none 0 0,.string ⟨#[]⟩,.string ⟨#[]⟩,.float .f64 0]) 8 96 underlying23 hj aw ay y rfl e8P _ _ _ rfl (V HM _ _) ⟨wr.heap.size+1,0,none⟩ 1 1 (x0z (r,.slice none 0 0)) rfl rfl (V t) (V S) T7X f6J P8P ?_));intro ab I D c _;obtain⟨hR,G⟩:=V P _ ab I (by rw[ae];exact D) c;have HR:=O hR;go_wp2
     go_roundw
     case rel=>exact⟨k+1,d++[(r,.slice none 0 0)],g2D,f6J,by rw[V ai];simp,by simp[ae],V HR,G⟩
     case measure=>exact g7Y
    ·have aB:(r.to.map (Value.int .i32)).length=r.to.length:=List.length_map _;rw[aB]at x4
     have hX:∀o,(wr.alloc o).cell? ⟨b,ag+k*8+4,none⟩=some (.slice (some ad) r.to.length L):=fun o=>U5E
     have hS:∀o,∀j u,(r.to.map (Value.int .i32))[j]?=some u->(wr.alloc o).cell? (ad.add j)=some u:=fun o j u hu=>by
      have h:=aq j u hu;rw[Below.cell ((Below.refl wr.heap.size wr).alloc (l0r _) o) (World.block_lt_of_cell? _ _ h)];exact h
     have HS:=O hS;have aA:∀W a m,(store a (.float .f64 r.wt) m).run prog W=stored prog W a (.float .f64 r.wt) m:=fun W a m=>run_store prog W a _ m rfl;go_wp2_with(at_builtin;refine wpList_append_own _ rfl (.tmp 17) (.tmp 22) 40 rfl w.heap.size 21 i0 (.int .i32 0) 1 4 underlying40 hi f p aD rfl e8P _ _ _ rfl (World.ownsRow_nil _ _ _ _) ad r.to.length L (r.to.map (Value.int .i32)) rfl (by simp) (V HS _) (fun u hu=>P0M) T7X f6J P8P ?_);intro v9 w9 x C _;have J:Ok .i32 21 w9 w.heap.size v9 r.to:=Ok.of N f6J x (by simp) (by simp)
     have E:w9.heap[wr.heap.size]?=some (.cells (rarr r (.slice (some ad) r.to.length L)) 67 (0,0)):=by
      rw[C.block _ (by simp) V3M];show(wr.heap.push _)[wr.heap.size]?=_;simp[rarr]
     have s9:wr.heap.size+1<=w9.heap.size:=S6E;obtain⟨B,F,aC,_,_⟩:=J.sk.shape;subst aC
     have hM:∀o,((w9.setCell ⟨wr.heap.size,4,none⟩ (.slice B r.to.length F)).alloc o).ownsRow w.heap.size 67 8 u3 d.length (rcells d):=fun o=>by
      refine World.ownsRow.alloc (x0x R.1 fun g h=>?_) o;have M:=(R.1.lt g h).2;rw[x0g _ f6J,C.block g P8P V3M];exact((Below.refl wr.heap.size wr).alloc (l0r _) _).block g M
     have HM:=O hM;have P:Hid (∀o ab I,World.ownsRow I w.heap.size 67 8 ab (d.length+1) (rcells d++x0z (r,.slice B r.to.length F))->((w9.setCell ⟨wr.heap.size,4,none⟩ (.slice B r.to.length F)).alloc o).grownBy I u3.ownBlock->Rown I w.heap.size ab (d++[(r,.slice B r.to.length F)])/\Bw w I):=fun o ab I a b=>y1Z R A J C a b;have y0:=cell_of (j:=0) E f1Y;have y1:=cell_of (j:=1) E f1Y;have y2:=cell_of (j:=2) E f1Y;have y3:=cell_of (j:=3) E f1Y;have y4:=cell_of (j:=4) E f1Y;have y5:=cell_of (j:=5) E f1Y;have y6:=cell_of (j:=6) E f1Y;have y7:=cell_of (j:=7) E f1Y;have yf:=x0e (j:=4) E;have z0:w9.cell? ⟨wr.heap.size,0,none⟩=some (.int .i64 r.kind):=y0;have z1:w9.cell? ⟨wr.heap.size,1,none⟩=some (.int .i64 r.lo):=y1;have z2:w9.cell? ⟨wr.heap.size,2,none⟩=some (.int .i64 r.hi):=y2;have z3:w9.cell? ⟨wr.heap.size,3,none⟩=some (.int .i64 r.n):=y3;have z4:w9.cell? ⟨wr.heap.size,4,none⟩=some (.slice (some ad) r.to.length L):=y4;have z5:w9.cell? ⟨wr.heap.size,5,none⟩=some (.string r.name):=y5;have z6:w9.cell? ⟨wr.heap.size,6,none⟩=some (.string r.other):=y6;have z7:w9.cell? ⟨wr.heap.size,7,none⟩=some (.float .f64 r.wt):=y7;have Y:=x5Z (w9.setCell ⟨wr.heap.size,4,none⟩ (.slice B r.to.length F)) w9.heap.size (x1a _ _ _ _) r (.slice B r.to.length F);have Q:=x6W r (vt:=.slice B r.to.length F) rfl;have t:=O Y;have S:=O Q;go_wp2_with(at_builtin;refine wpList_append_own _ rfl (.tmp 25) (.tmp 27) 23 rfl w.heap.size 67 i1 (.agg #[.int .i64 0,.int .i64 0,.int .i64 0,.int .i64 0,.slice none 0 0,.string ⟨#[]⟩,.string ⟨#[]⟩,.float .f64 0]) 8 96 underlying23 hj aw ay y rfl e8P _ _ _ rfl (V HM _) ⟨w9.heap.size,0,none⟩ 1 1 (x0z (r,.slice B r.to.length F)) rfl rfl (V t) (V S) T7X f6J P8P ?_);intro ab I D c _;obtain⟨hR,G⟩:=V P _ ab I (by rw[ae];exact D) c;have HR:=O hR;go_wp2
     go_roundw
     case rel=>exact⟨k+1,d++[(r,.slice B r.to.length F)],g2D,f6J,by rw[V ai];simp,by simp[ae],V HR,G⟩
     case measure=>exact g7Y
   ·obtain rfl:k=rs.length:=f6J;rw[List.take_length]at X;have T:x6i w rs (.returned u3) wr:=⟨u3,d,rfl,X,R,A⟩;exact U7J
theorem z3b b w:(callFunc 141 #[.float .f64 b]).run prog w=.ok (.value (.int .u64 b)) w:=by
 rw[run_callFunc_extern (e:=Extern.MathFloatBits.float64bits) func141 f4x f4x f4x f4x];rfl
theorem x3s b w:Calls prog 90 #[.float .f64 b] w fun e w'=>e=.returned (.int .u64 b)/\w'=w:=by
 have h:=fun w=>z3b b w;go_enter func90,ntmps90;go_wp2;go_ret;exact⟨rfl,rfl⟩
theorem y4o(t:ByteArray):(t.toList==t.toList)=true:=beq_self_eq_true _
theorem x5e{w v zs}(h:Sk .i32 w v zs) n:Sk .i32 (w.drewN n) v zs:=h.below (x0k ⟨n,rfl⟩)
theorem x9L r va vb w(g:Sk .i32 w va r.to)(Y:Sk .i32 w vb r.to)(S:r.to.length<=1000000000):Calls prog 47 #[recV r va,recV r vb] w (x0c w true):=by
 have B:=O (fun w=>x3s r.wt w)
 have l:Hid (∀G H n,Calls prog 39 #[va,vb] (((w.alloc G).alloc H).drewN n) (x1x (((w.alloc G).alloc H).drewN n) true)):=fun G H n=>by
  have I:Bw w ((w.alloc G).alloc H):=((b0r).alloc (l0r _) _).alloc M7M _;exact z3d va vb r.to _ (x5e (g.below I) n) (x5e (Y.below I) n) S
 obtain⟨R,ca,rfl,_,_⟩:=g.shape;obtain⟨f,P,rfl,_,_⟩:=Y.shape;unfold recV;have C:=y4o r.name;have x:=y4o r.other;generalize r.kind=kd,r.n=n,r.lo=lo,r.hi=hi at *;generalize r.name=nm,r.other=ot,r.wt=J,r.to.length=z at *;have D:(kd==kd)=true:=beq_self_eq_true _;have N:(lo==lo)=true:=beq_self_eq_true _;have c:(hi==hi)=true:=beq_self_eq_true _;have F:(n==n)=true:=beq_self_eq_true _;have E:((J:Int)==(J:Int))=true:=beq_self_eq_true _;go_enter func47,ntmps47;go_wp2;go_big_quiet (first| exact Calls.quiet_of (V l _ _ _) | exact Calls.quiet_of_same (V B _));go_wp2;go_ret;exact⟨rfl,(((b0r).alloc (l0r _) _).alloc M7M _).trans ((x0k ⟨_,rfl⟩).mono P8P)⟩
theorem y2V v u rs w(N:Rcs w v rs)(hu:Rcs w u rs):Calls prog 25 #[v,u] w (x0c w true):=by
 have s:=N.1;rcases Nat.eq_zero_or_pos rs.length with h0|h0
 ·obtain⟨R,M,rfl,_,_⟩:=N.shape;obtain⟨B,J,rfl,_,_⟩:=hu.shape;rw[h0];go_enter func25,ntmps25;go_wp2;refine wp_loop_rounds 1 ?_;rw[rounds_succ];exact T8v
 ·have K:=O (fun i hi=>N.fit (i:=i) hi);obtain⟨b,P,M,rfl,o,q,hc⟩:=N.place h0;obtain⟨d,U,J,rfl,p,S,ab⟩:=hu.place h0;have C:Hid (∀i,i<rs.length->∀W,Bw w W->RecAt W b (P+i*8) (rs.getD i Cn.none)/\RecAt W d (U+i*8) (rs.getD i Cn.none)):=fun i hi W Y=>⟨(hc i hi).below Y,(ab i hi).below Y⟩;have qn:((rs.length:Int) != (rs.length:Int))=false:=M7L;go_enter func25,ntmps25;go_wp2;go_loopw[5] (fun i wr=>∃k:Nat,i=.int .i64 k/\k<=rs.length/\Bw w wr) (fun i _=>rs.length-(intOf i).toNat)
  case atStart=>exact⟨0,rfl,f6J,b0r⟩
  case round =>
   obtain⟨k,rfl,hk,A⟩:=hrel;by_cases H:k<rs.length
   ·obtain⟨c,l⟩:=V C k H wr A;have X:=V K k H;have j:=X.len;generalize rs.getD k Cn.none=r at *;obtain⟨x,x1,x2,x3,⟨F,g,Z⟩,t,y,T⟩:=c;obtain⟨y0,m,a,y3,⟨G,y4,D⟩,y5,L,y7⟩:=l;have KR:Hid (∀n,Calls prog 47 #[recV r F,recV r G] (wr.drewN n) (x0c (wr.drewN n) true)):=fun n=>x9L r F G _ (x5e Z n) (x5e D n) j;unfold recV at KR;obtain⟨R,ca,rfl,_,_⟩:=Z.shape;obtain⟨f,cb,rfl,_,_⟩:=D.shape;generalize r.n=n,r.lo=lo at *;generalize r.hi=hi,r.name=nm at *;generalize r.other=ot,r.wt=wt,r.to.length=z at *;go_wp2;go_region_with (refine(V KR _).mono ?_;rintro e Q ⟨rfl,E⟩)
    all_goals
     have I:Bw w Q:=A.trans (Below.mono (x0b (x0k ⟨_,rfl⟩) E) A.size);go_wp2
     go_roundw
     case rel=>exact⟨k+1,g2A,f6J,I⟩
     case measure=>exact g7V
   ·clear C K;go_wp2;go_ret;exact⟨rfl,A⟩
