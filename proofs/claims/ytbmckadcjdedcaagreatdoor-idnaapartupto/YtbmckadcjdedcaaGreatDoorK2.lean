/- Lemmas. -/
import Derived.Test.YtbmckadcjdedcaaGreatDoorK0
import Derived.Deep.QuietTactic
import Derived.BigQuiet
import Derived.Deep.RegionWith
set_option maxHeartbeats 8000000
set_option maxRecDepth 8000
namespace Go.Proofs.YtbmckadcjdedcaaGreatDoor
open Go.Proofs.Tryz
section
variable{p:Prop}
theorem t6u(h:p:=by go_wp2;go_ret;exact⟨rfl,rfl⟩):p:=h
theorem w7Y(h:p:=by simp[List.getD,G]):p:=h
theorem p8I(h:p:=by simp[List.getD,h]):p:=h
theorem f3Q(h:p:=by go_enter func119,ntmps119;go_wp2_with fail;refine c1m (V K _) fun I Q=>?_;obtain⟨z,u,Z⟩:=V B I (by simpa using Q);have Y:x0c w false (.returned (.bool false)) I:=⟨rfl,((b0r).alloc (l0r _) _).trans (Q.mono M7M)⟩;go_wp2;go_ret;exact Y):p:=h
theorem t6v(h:p:=by go_wp2;go_ret;exact⟨rfl,rfl⟩):p:=h
theorem w5o(h:p:=by unfold I64;exact f6J):p:=h
theorem i2c(h:p:=by go_enter func118,ntmps118;go_wp2;go_ret;exact⟨rfl,(b0r).alloc (l0r _) _⟩):p:=h
theorem v1D(h:p:=by go_enter func76,ntmps76;exact t6u):p:=h
theorem g2A(h:p:=by go_num):p:=h
theorem V7E(h:p:=by generalize zs.getD 0 0=p,zs.getD 1 0=q at *;have Y:∀n,x6l w (some (p,q)) (.returned (.tuple #[.int .i32 p,.int .i32 q,.bool true])) (I.drewN n):=fun n=>⟨rfl,x0b Q (x0k ⟨n,rfl⟩)⟩;clear Q z d A HN f;go_wp2;go_big_quiet (fail);go_wp2;go_ret3;exact Y _):p:=h
theorem g3s(h:p:=by unfold IntKind.wrap;have Q:(2:Int)^IntKind.u64.bits=18446744073709551616:=e8N;rw[Q];simp[IntKind.signed];omega):p:=h
theorem N6g(h:p:=by simp[x0y];exact f6J):p:=h
theorem N4U(h:p:=by unfold Cn.cls;rw[D]):p:=h
theorem s6f(h:p:=by go_enter func72,ntmps72;exact t6v):p:=h
theorem e8P(h:p:=by decide):p:=h
theorem R0o(h:p:=by show(w.heap.push _)[w.heap.size]?=_;simp):p:=h
theorem V6r(h:p:=by simpa using d):p:=h
theorem u7g(h:p:=by rw[d0f f6J];exact f3Q):p:=h
theorem n0O(h:p:=by go_wp2;go_ret;exact Y):p:=h
theorem T8v(h:p:=by go_wp2;go_ret;exact⟨rfl,b0r⟩):p:=h
theorem w5r(h:p:=by unfold I64;exact f6J):p:=h
theorem g2D(h:p:=by go_num):p:=h
theorem u6X(h:p:=by go_enter func123,ntmps123;go_wp2_with fail;refine c0m J fun I B=>?_;subst I;go_wp2;go_ret;exact Y):p:=h
theorem U6x(h:p:=by obtain⟨R,M,rfl,_,_⟩:=N.shape;go_enter func81,ntmps81;go_wp2;go_ret;exact⟨rfl,b0r⟩):p:=h
theorem n7g(h:p:=by exact Ok.nil _ _ _ _):p:=h
theorem N2Q(h:p:=by unfold Cn.prim;rw[if_neg X,D]):p:=h
theorem f1Y(h:p:=by show _<8;exact f6J):p:=h
theorem M2X(h:p:=by rw[Q.cell (x0a Z)];exact Z):p:=h
theorem G7q(h:p:=by split<;>omega):p:=h
theorem w8O(h:p:=by obtain⟨z,_,rfl⟩:=List.mem_map.1 W;rfl):p:=h
theorem F2f(h:p:=by go_wp2;go_ret3;exact HN):p:=h
theorem s6Q(h:p:=by show(wr.heap.push _)[wr.heap.size]?=_;simp):p:=h
theorem g7Y(h:p:=by simp[intOf];omega):p:=h
theorem S8f(h:p:=by unfold Cn.opn;rw[if_neg X,D]):p:=h
theorem V3M(h:p:=by simp[Value.ownBlock]):p:=h
theorem i9N(h:p:=by rw[Q.cell (x0a R)];exact R):p:=h
theorem U0H(h:p:=by rw[Below.cell ((Below.refl wr.heap.size wr).alloc (l0r _) o) (x0a x)];exact x):p:=h
theorem s0F(h:p:=by go_wp2;go_ret;exact⟨rfl,A⟩):p:=h
theorem P0P(h:p:=by obtain⟨z,_,rfl⟩:=List.mem_map.1 hu;rfl):p:=h
theorem V9s(h:p:=by go_wp2;refine wp_loop_rounds 1 ?_;rw[rounds_succ];exact n0O):p:=h
theorem i1x(h:p:=by simp[d]):p:=h
end
structure Rec where
 kind:Int
 lo:Int
 hi:Int
 n:Int
 to:List Int
 name:ByteArray
 other:ByteArray
 wt:Nat
namespace Cn
def none:Rec:=⟨0,0,0,0,[],⟨#[]⟩,⟨#[]⟩,0⟩
def fam(k:Int):Int :=
 if k<1\/15<k then 0 else if k<=5 then 1 else if k=6 then 2 else if k<=8 then 3 else k-5
def step(r:Rec):Int:=if r.kind=4 then max r.n 0 else 1
def speaks(r:Rec)(c:Int):Bool:=decide (r.kind≠15/\0<step r/\0<=c/\c<=1114111/\r.lo<=c/\c<=r.hi/\(c-r.lo)%step r=0)
def findA(f c:Int):Nat->List Rec->Int
 | _,[]=>-1
 | i,r::l=>if fam r.kind=f/\speaks r c=true then(i:Int)else findA f c (i+1) l
def find(l:List Rec)(f c:Int):Int:=if f=10\/f=0 then -1 else findA f c 0 l
def hit(l:List Rec)(f c:Int):Option Rec:=if find l f c<0 then Option.none else some (l.getD (find l f c).toNat none)
def cls(l:List Rec)(c:Int):Int:=match hit l 2 c with | some r=>r.n | Option.none=>0
def syl(c:Int):Bool:=decide (44032<=c/\c<=55203)
def opn(l:List Rec)(c:Int):List Int :=
 if syl c then(if(c-44032)%28=0 then[4352+(c-44032) / 588,4449+(c-44032) / 28%21]else[c-(c-44032)%28,4519+(c-44032)%28])
 else match hit l 3 c with | some r=>r.to | Option.none=>[]
def prim(l:List Rec)(c:Int):Option (Int×Int) :=
 if syl c then some ((opn l c).getD 0 0,(opn l c).getD 1 0)
 else match hit l 3 c with
  | some r=>if r.kind=7/\r.to.length=2 then some (r.to.getD 0 0,r.to.getD 1 0)else Option.none
  | Option.none=>Option.none
theorem x6v k:0<=fam k/\fam k<=10:=by
 unfold fam;split
 ·omega
 ·omega
theorem y5d{l:List Rec}{f c k}(G:k<l.length):findA f c k (l.drop k)=if fam (l.getD k none).kind=f/\speaks (l.getD k none) c=true then(k:Int)else findA f c (k+1) (l.drop (k+1)):=by
 rw[List.drop_eq_getElem_cons G,findA];exact w7Y
theorem findA_bound(f c:Int):∀(l:List Rec) (k:Nat),findA f c k l=-1\/((k:Int)<=findA f c k l/\findA f c k l<k+l.length)
 | [],_=>.inl rfl
 | r::l,k=>by
  rw[findA];split
  ·exact .inr ⟨f6J,P8P⟩
  ·rcases findA_bound f c l (k+1)with h | ⟨Z,D⟩
   ·exact .inl h
   ·exact .inr ⟨f6J,P8P⟩
theorem find_bound l f c:find l f c=-1\/(0<=find l f c/\find l f c<l.length):=by
 unfold find;split
 ·exact U3z
 ·rcases findA_bound f c l 0 with h | ⟨Z,D⟩
  ·exact .inl h
  ·exact .inr ⟨f6J,f6J⟩
end Cn
open Go.RowKit
def I64(n:Int):Prop:=-9223372036854775808<=n/\n<=9223372036854775807
structure RecFit(r:Rec):Prop where
 kind:I64 r.kind
 lo:I64 r.lo
 hi:I64 r.hi
 n:I64 r.n
 len:r.to.length<=1000000000
 wt:r.wt<18446744073709551616
structure RecAt(w:World)(b o:Nat)(r:Rec):Prop where
 kind:w.cell? ⟨b,o,none⟩=some (.int .i64 r.kind)
 lo:w.cell? ⟨b,o+1,none⟩=some (.int .i64 r.lo)
 hi:w.cell? ⟨b,o+2,none⟩=some (.int .i64 r.hi)
 n:w.cell? ⟨b,o+3,none⟩=some (.int .i64 r.n)
 to:∃v,w.cell? ⟨b,o+4,none⟩=some v/\Sk .i32 w v r.to
 name:w.cell? ⟨b,o+5,none⟩=some (.string r.name)
 other:w.cell? ⟨b,o+6,none⟩=some (.string r.other)
 wt:w.cell? ⟨b,o+7,none⟩=some (.float .f64 r.wt)
theorem RecAt.below{w w' b o r}(h:RecAt w b o r)(Q:Bw w w'):RecAt w' b o r:=by
 obtain⟨A,Z,D,R,⟨v,z,H⟩,q,F,B⟩:=h
 exact⟨by rw[Q.cell (x0a A)];exact A,M2X,by rw[Q.cell (x0a D)];exact D,i9N,
  ⟨v,by rw[Q.cell (x0a z)];exact z,H.below Q⟩,by rw[Q.cell (x0a q)];exact q,by rw[Q.cell (x0a F)];exact F,by rw[Q.cell (x0a B)];exact B⟩
def Rcs(w:World)(v:Value)(rs:List Rec):Prop:=rs.length<=1000000000/\(∀r∈rs,RecFit r) /\
 ((rs=[]/\∃ao cap,v=.slice ao 0 cap/\cap<=9223372036854775807) \/
  ∃b off cap,v=.slice (some ⟨b,off,none⟩) rs.length cap/\rs.length<=cap/\cap<=9223372036854775807/\∀i,i<rs.length->RecAt w b (off+i*8) (rs.getD i Cn.none))
theorem Rcs.below{w w' v rs}(h:Rcs w v rs)(Q:Bw w w'):Rcs w' v rs:=by
 obtain⟨Z,D,R⟩:=h;refine⟨Z,D,?_⟩;rcases R with R | ⟨b,P,M,N,S,y,T⟩
 ·exact .inl R
 ·exact .inr ⟨b,P,M,N,S,y,fun i hi=>(T i hi).below Q⟩
theorem Rcs.shape{w v rs}(h:Rcs w v rs):∃ao cap,v=.slice ao rs.length cap/\rs.length<=cap/\cap<=9223372036854775807:=by
 rcases h.2.2 with⟨rfl,ao,cap,N,y⟩ | ⟨b,P,cap,N,S,y,_⟩
 ·exact V1q
 ·exact N7B
theorem Rcs.place{w v rs}(h:Rcs w v rs)(F:0<rs.length):∃b off cap,v=.slice (some ⟨b,off,none⟩) rs.length cap/\rs.length<=cap/\cap<=9223372036854775807/\∀i,i<rs.length->RecAt w b (off+i*8) (rs.getD i Cn.none):=by
 rcases h.2.2 with⟨rfl,_⟩ | h
 ·simp at F
 ·exact h
theorem Rcs.fit{w v rs}(h:Rcs w v rs){i}(hi:i<rs.length):RecFit (rs.getD i Cn.none):=h.2.1 _ n7A
theorem Rcs.head{w ao len cap k rs}(h:Rcs w (.slice ao len cap) rs)(G:k<=len):Rcs w (.slice ao k cap) (rs.take k):=by
 obtain⟨Z,D,R⟩:=h;refine⟨P8P,fun r u=>D r (List.mem_of_mem_take u),?_⟩;rcases R with⟨rfl,g,J,N,y⟩ | ⟨b,P,J,N,S,y,T⟩
 ·grind
 ·simp only[Value.slice.injEq]at N;obtain⟨rfl,rfl,rfl⟩:=N;have H:(rs.take k).length=k:=P8P;refine .inr ⟨b,P,cap,by rw[H],f6J,y,fun i hi=>?_⟩;rw[H]at hi;have:=T i f6J;rw[show(rs.take k).getD i Cn.none=rs.getD i Cn.none by simp[List.getD,List.getElem?_take_of_lt hi]];exact this
def recV(r:Rec)(vt:Value):Value:=.agg #[.int .i64 r.kind,.int .i64 r.lo,.int .i64 r.hi,.int .i64 r.n,vt,.string r.name,.string r.other,.float .f64 r.wt]
def IntB(w:World)(n:Int)(e:Ending)(w':World):Prop:=e=.returned (.int .i64 n)/\Below w.heap.size w w'
def x0c(w:World)(b:Bool)(e:Ending)(w':World):Prop:=e=.returned (.bool b)/\Below w.heap.size w w'
def z5l:Value:=.agg #[.int .i64 0,.int .i64 1,.int .i64 1,.int .i64 1,.int .i64 1,.int .i64 1,.int .i64 2,.int .i64 3,.int .i64 3,.int .i64 4,.int .i64 5,.int .i64 6,.int .i64 7,.int .i64 8,.int .i64 9,.int .i64 10]
theorem z5m k(A:1<=k)(Z:k<=15) w:(Instr.index 188 z5l (.int .i64 k)).run prog w=.ok (.int .i64 (Cn.fam k)) w:=by
 have h:k=1\/k=2\/k=3\/k=4\/k=5\/k=6\/k=7\/k=8\/k=9\/k=10\/k=11\/k=12\/k=13\/k=14\/k=15:=f6J
 rcases h with rfl | rfl | rfl | rfl | rfl | rfl | rfl | rfl | rfl | rfl | rfl | rfl | rfl | rfl | rfl<;>
  (simp[z5l,Instr.index,run_underlying underlying188,asIntOf,go_sem,Tryz.sizeOf3,Tryz.isAgg3,Cn.fam])
theorem x0l k w(G:I64 k):Calls prog 72 #[.int .i64 k] w fun e w'=>e=.returned (.int .i64 (Cn.fam k))/\w'=w:=by
 obtain⟨l,B⟩:=G;by_cases I:k<1
 ·have U:Cn.fam k=0:=(by unfold Cn.fam;rw[if_pos (.inl I)]);rw[U];exact s6f
 ·by_cases P:15<k
  ·have U:Cn.fam k=0:=(by unfold Cn.fam;rw[if_pos (.inr P)]);rw[U];exact s6f
  ·have T:=z5m k f6J f6J;unfold z5l at T;exact s6f
theorem x6Y r vt w(U:RecFit r):Calls prog 118 #[recV r vt] w (IntB w (Cn.step r)):=by
 unfold recV Cn.step;have E:=U.n;have G:=U.kind;generalize r.kind=kd,r.n=n at *;obtain⟨W,S⟩:=E;obtain⟨l,B⟩:=G;by_cases z:kd=4
 ·subst z;rw[if_pos rfl];by_cases L:0<=n
  ·have y:max n 0=n:=f6J;rw[y];exact i2c
  ·have y:max n 0=0:=f6J;rw[y];exact i2c
 ·rw[if_neg z];have q:(kd==4)=false:=b0f z;exact i2c
theorem z3l{c lo}(A:0<=c)(Z:c<=1114111)(D:lo<=c)(R:-9223372036854775808<=lo):∃L,IntKind.u64.wrap lo=L/\IntKind.u64.wrap (c-L)=c-lo:=by
 refine⟨_,rfl,?_⟩;by_cases E:0<=lo
 ·rw[IntWalk.u64_in lo ⟨f6J,f6J⟩,IntWalk.u64_in _ ⟨f6J,f6J⟩]
 ·have e:IntKind.u64.wrap lo=lo+18446744073709551616:=g3s
  rw[e];exact g3s
theorem x4u r vt c w(U:RecFit r)(T:-2147483648<=c/\c<=2147483647):Calls prog 119 #[recV r vt,.int .i64 c] w (x0c w (Cn.speaks r c)):=by
 have K:=O (fun w=>x6Y r vt w U)
 have E:Cn.step r<=9223372036854775807:=by
  unfold Cn.step;have:=U.n;unfold I64 at this;exact G7q
 have s:Cn.speaks r c=decide (r.kind≠15/\0<Cn.step r/\0<=c/\c<=1114111/\r.lo<=c/\c<=r.hi/\(c-r.lo)%Cn.step r=0):=rfl;rw[s];have G:=U.kind;have S:=U.lo;have b:=U.hi;unfold recV at *;generalize Cn.step r=st,r.kind=kd,r.n=n,r.lo=lo at *;generalize r.hi=hi,r.name=nm,r.other=ot,r.wt=J at *;obtain⟨l,t⟩:=G;obtain⟨x,i⟩:=S;obtain⟨p,y⟩:=b;obtain⟨o,C⟩:=T
 have X:∀W,Below (w.heap.size+1) (w.alloc (.cells #[.int .i64 kd,.int .i64 lo,.int .i64 hi,.int .i64 n,vt,.string nm,.string ot,.float .f64 J] 67)) W->W.cell? ⟨w.heap.size,0,none⟩=some (.int .i64 kd)/\W.cell? ⟨w.heap.size,1,none⟩=some (.int .i64 lo)/\W.cell? ⟨w.heap.size,2,none⟩=some (.int .i64 hi):=by
  intro W Q;refine⟨?_,?_,?_⟩<;>(rw[Q.cell M7M];simp[World.cell?,World.alloc,-World.alloc_eq])
 have B:=O X;by_cases a:kd=15
 ·have j:(kd != 15)=false:=(by simp[a]);rw[d0f (fun h=>h.1 a)];subst a;exact f3Q
 ·have j:(kd != 15)=true:=(by simp[a]);by_cases F:0<st;rotate_left
  ·exact u7g
  by_cases b1:0<=c;rotate_left
  ·exact u7g
  by_cases m:c<=1114111;rotate_left
  ·exact u7g
  by_cases L:lo<=c;rotate_left
  ·exact u7g
  by_cases R:c<=hi;rotate_left
  ·exact u7g
  obtain⟨D,P,f⟩:=z3l b1 m L x;have v:IntKind.u64.wrap c=c:=IntWalk.u64_in c ⟨f6J,f6J⟩;have k:IntKind.u64.wrap st=st:=IntWalk.u64_in st ⟨f6J,f6J⟩;obtain⟨q,d⟩:∃q,(c-lo).tmod st=q:=⟨_,rfl⟩;have M:(c-lo)%st=q:=(by rw[<- d,Int.tmod_eq_emod_of_nonneg f6J]);have A:(st==0)=false:=b0f f6J;by_cases g:q=0
  ·rw[d0t ⟨a,F,b1,m,L,R,M.trans g⟩];subst g;go_enter func119,ntmps119;go_wp2_with fail;refine c1m (V K _) fun I Q=>?_;obtain⟨z,u,Z⟩:=V B I (by simpa using Q);have Y:x0c w true (.returned (.bool true)) I:=⟨rfl,((b0r).alloc (l0r _) _).trans (Q.mono M7M)⟩;go_wp2;go_ret;exact Y
  ·have H:(q==0)=false:=b0f g;rw[d0f (fun h=>g (M.symm.trans h.2.2.2.2.2.2))];exact f3Q
theorem x2E v rs f c w(N:Rcs w v rs)(U:I64 f)(hc:-2147483648<=c/\c<=2147483647):Calls prog 81 #[v,.int .i64 f,.int .i32 c] w (IntB w (Cn.find rs f c)):=by
 obtain⟨f0,f1⟩:=U;by_cases K:f=10
 ·have hF:Cn.find rs f c=-1:=(by unfold Cn.find;rw[if_pos (.inl K)]);rw[hF];subst K;exact U6x
 ·have q1:(f==10)=false:=b0f K;by_cases h0:f=0
  ·have hF:Cn.find rs f c=-1:=(by unfold Cn.find;rw[if_pos (.inr h0)]);rw[hF];subst h0;exact U6x
  ·have q2:(f==0)=false:=b0f h0;have hF:Cn.find rs f c=Cn.findA f c 0 (rs.drop 0):=(by unfold Cn.find;rw[if_neg f6J];rfl);rw[hF];have s:=N.1;have q:=O (fun k w h=>x0l k w h);have t:=O (fun r F w h=>x4u r F c w h hc);have ab:=O (fun i hi=>N.fit (i:=i) hi);generalize hres:Cn.findA f c 0 (rs.drop 0)=L;obtain⟨c0,C⟩:=hc;rcases Nat.eq_zero_or_pos rs.length with n0 | n0
   ·obtain⟨R,M,rfl,_,_⟩:=N.shape;obtain rfl:rs=[]:=List.eq_nil_of_length_eq_zero n0;obtain rfl:-1=L:=hres;go_enter func81,ntmps81;go_wp2;refine wp_loop_rounds 1 ?_;rw[rounds_succ];go_wp2;go_ret;exact⟨rfl,b0r⟩
   ·obtain⟨b,P,M,rfl,ae,u,T⟩:=N.place n0;have HC:Hid (∀i,i<rs.length->∀W,Bw w W->RecAt W b (P+i*8) (rs.getD i Cn.none)):=fun i hi W Q=>(T i hi).below Q;have a:=O hres;go_enter func81,ntmps81;go_wp2;go_loopw[7] (fun S wr=>∃k:Nat,S=.int .i64 k/\k<=rs.length/\Bw w wr/\Cn.findA f c k (rs.drop k)=L) (fun S _=>rs.length-(intOf S).toNat)
    case atStart=>exact⟨0,rfl,f6J,b0r,V a⟩
    case round =>
     obtain⟨k,rfl,G,A,J⟩:=hrel;by_cases H:k<rs.length
     ·have n:=V HC k H wr A;have l:=V ab k H;rw[Cn.y5d H]at J;have HX:=O J;generalize rs.getD k Cn.none=r at *;obtain⟨z,x1,X,x3,⟨F,x,_⟩,j,x6,x7⟩:=n;have o:=O (V q r.kind wr l.kind);have g:=O (V t r F wr l);unfold recV at g;generalize r.kind=kd,r.wt=wt at *;by_cases p:Cn.fam kd=f
      ·have y0:=O (show(Cn.fam kd==f)=true from beq_iff_eq.2 p);generalize Cn.fam kd=Z at *;subst p;have m:(Z==Z)=true:=beq_self_eq_true _;go_wp2_with fail;refine c0m o fun I B=>?_;subst I;go_wp2_with fail;refine c0m g fun I E=>?_;have d:Bw w I:=A.trans (E.mono A.size)
       cases hsp:Cn.speaks r c with
       | true =>
        have Y:IntB w L (.returned (.int .i64 (k:Int))) I:=⟨by rw[<- V HX,if_pos (by simp[hsp])],d⟩;go_wp2;go_ret;exact Y
       | false =>
        have D:=O ((V HX).symm.trans (if_neg (by rw[hsp];exact M7L)));go_wp2
        go_roundw
        case rel=>exact⟨k+1,g2A,f6J,d,(V D).symm⟩
        case measure=>exact g7V
      ·have m:(Cn.fam kd==f)=false:=b0f p;have D:=O ((V HX).symm.trans (if_neg (fun h=>p h.1)));generalize Cn.fam kd=Z at *;go_wp2_with fail;refine c0m o fun I B=>?_;subst I;go_wp2
       go_roundw
       case rel=>exact⟨k+1,g2A,f6J,A,(V D).symm⟩
       case measure=>exact g7V
     ·obtain rfl:k=rs.length:=f6J;have y:(-1:Int)=L:=(by rw[<- J,List.drop_eq_nil_of_le (l0r _)];rfl);have Y:IntB w L (.returned (.int .i64 (-1))) wr:=⟨by rw[y],A⟩;exact n0O
theorem Tryz.info21:(prog.info? 21).map (fun i=>(i.zero,i.size,i.bytes))=some (some (.int .i32 0),1,4):=f4x
theorem info_parts{p:Option TypeInfo}{z:Option Value}{s b}(h:p.map (fun i=>(i.zero,i.size,i.bytes))=some (z,s,b)):∃i,p=some i/\i.zero=z/\i.size=s/\i.bytes=b:=f0h
def x0j(w:World)(zs:List Int)(e:Ending)(w':World):Prop:=∃v,e=.returned v/\Ok .i32 21 w' w.heap.size v zs/\Below w.heap.size w w'
def x6l(w:World)(r:Option (Int×Int))(e:Ending)(w':World):Prop:=e=.returned (.tuple #[.int .i32 ((r.map (·.1)).getD 0),.int .i32 ((r.map (·.2)).getD 0),.bool r.isSome])/\Below w.heap.size w w'
theorem x5d c w(h:-2147483648<=c/\c<=2147483647):Calls prog 76 #[.int .i32 c] w fun e w'=>e=.returned (.bool (Cn.syl c))/\w'=w:=by
 obtain⟨Z,D⟩:=h;unfold Cn.syl;by_cases I:44032<=c
 ·by_cases P:c<=55203
  ·rw[d0t ⟨I,P⟩];exact v1D
  ·rw[d0f (fun h=>P h.2)];exact v1D
 ·rw[d0f (fun h=>I h.1)];exact v1D
theorem hit_at{w v rs}(N:Rcs w v rs) f c:(Cn.find rs f c=-1/\Cn.hit rs f c=none) \/
  ∃(k:Nat) (b off cap:Nat),Cn.find rs f c=k/\k<rs.length/\Cn.hit rs f c=some (rs.getD k Cn.none)/\v=.slice (some ⟨b,off,none⟩) rs.length cap/\rs.length<=cap/\cap<=9223372036854775807/\RecAt w b (off+k*8) (rs.getD k Cn.none)/\RecFit (rs.getD k Cn.none):=by
 rcases Cn.find_bound rs f c with h | ⟨Z,D⟩
 ·exact .inl ⟨h,by unfold Cn.hit;rw[h];rfl⟩
 ·obtain⟨k,G⟩:∃k:Nat,Cn.find rs f c=k:=⟨(Cn.find rs f c).toNat,f6J⟩;have H:k<rs.length:=f6J;obtain⟨b,off,cap,r,S,y,T⟩:=N.place f6J;refine .inr ⟨k,b,off,cap,G,H,?_,r,S,y,T k H,N.fit H⟩;unfold Cn.hit;rw[G,if_neg f6J];rfl
theorem x3j v rs c w(N:Rcs w v rs)(T:-2147483648<=c/\c<=2147483647):Calls prog 121 #[v,.int .i32 c] w (IntB w (Cn.cls rs c)):=by
 have K:=O (x2E v rs 2 c w N w5o T);obtain⟨o,C⟩:=T;rcases hit_at N 2 c with⟨Z,D⟩ | ⟨k,b,P,M,Z,H,D,rfl,S,y,u,U⟩
 ·have E:Cn.cls rs c=0:=N4U;rw[E];rw[Z]at K;obtain⟨R,M,rfl,_,_⟩:=N.shape;go_enter func121,ntmps121;go_wp2_with fail;refine c0m K fun I Q=>?_;have Y:IntB w 0 (.returned (.int .i64 0)) I:=⟨rfl,Q⟩;go_wp2;go_ret;exact Y
 ·have E:Cn.cls rs c=(rs.getD k Cn.none).n:=N4U;rw[E];rw[Z]at K;have a:=O u;have s:=N.1;generalize rs.getD k Cn.none=r at *;go_enter func121,ntmps121;go_wp2_with fail;refine c0m K fun I Q=>?_;have g:=((V a).below Q).n;have Y:IntB w r.n (.returned (.int .i64 r.n)) I:=⟨rfl,Q⟩;go_wp2;go_ret;exact Y
theorem ok_two(w:World) a b(H:-2147483648<=a/\a<=2147483647)(Q:-2147483648<=b/\b<=2147483647):Ok .i32 21 (w.alloc (.cells #[.int .i32 a,.int .i32 b] 21)) w.heap.size (.slice (some ⟨w.heap.size,0,none⟩) 2 2) [a,b]:=by
 refine Ok.of (n:=2) (us:=[.int .i32 a,.int .i32 b]) (fun z o=>?_) M7M ⟨rfl,.inr ⟨w.heap.size,2,#[.int .i32 a,.int .i32 b],rfl,l0r _,?_,l0r _,T7W,rfl,rfl⟩⟩ rfl rfl
 ·simp only[List.mem_cons,List.mem_nil_iff,or_false]at o;simp only[IntKind.min,IntKind.max,IntKind.signed,IntKind.bits];rcases o with rfl | rfl<;>simp<;>omega
 ·exact R0o
theorem x2F v rs c w(N:Rcs w v rs)(T:-2147483648<=c/\c<=2147483647):Calls prog 123 #[v,.int .i32 c] w (x0j w (Cn.opn rs c)):=by
 obtain⟨i0,hi,p,ae,f⟩:=info_parts Tryz.info21;have J:=O (x5d c w T);have K:=O (x2E v rs 3 c w N (by unfold I64;exact f6J) T);obtain⟨o,c1⟩:=T;by_cases X:Cn.syl c=true
 ·have i:44032<=c/\c<=55203:=(by unfold Cn.syl at X;simpa using X);obtain⟨s0,s1⟩:=i;rw[X]at J;obtain⟨ao,M,rfl,_,_⟩:=N.shape;have e1:(c-44032).tmod 28=(c-44032)%28:=Int.tmod_eq_emod_of_nonneg f6J;have e2:(c-44032).tdiv 588=(c-44032) / 588:=Int.tdiv_eq_ediv_of_nonneg f6J;have e3:(c-44032).tdiv 28=(c-44032) / 28:=Int.tdiv_eq_ediv_of_nonneg f6J;have e4:((c-44032) / 28).tmod 21=(c-44032) / 28%21:=Int.tmod_eq_emod_of_nonneg f6J;by_cases E:(c-44032)%28=0
  ·have j:Cn.opn rs c=[4352+(c-44032) / 588,4449+(c-44032) / 28%21]:=(by unfold Cn.opn;rw[if_pos X,if_pos E]);rw[j];have n:((c-44032)%28==0)=true:=beq_iff_eq.2 E
   have Y:x0j w [4352+(c-44032) / 588,4449+(c-44032) / 28%21] (.returned (.slice (some ⟨w.heap.size,0,none⟩) 2 2)) (w.alloc (.cells #[.int .i32 (4352+(c-44032) / 588),.int .i32 (4449+(c-44032) / 28%21)] 21)) :=
    ⟨_,rfl,ok_two w _ _ f6J f6J,(b0r).alloc (l0r _) _⟩
   exact u6X
  ·have j:Cn.opn rs c=[c-(c-44032)%28,4519+(c-44032)%28]:=(by unfold Cn.opn;rw[if_pos X,if_neg E]);rw[j];have n:((c-44032)%28==0)=false:=b0f E
   have Y:x0j w [c-(c-44032)%28,4519+(c-44032)%28] (.returned (.slice (some ⟨w.heap.size,0,none⟩) 2 2)) (w.alloc (.cells #[.int .i32 (c-(c-44032)%28),.int .i32 (4519+(c-44032)%28)] 21)) :=
    ⟨_,rfl,ok_two w _ _ f6J f6J,(b0r).alloc (l0r _) _⟩
   exact u6X
 ·have i:Cn.syl c=false:=(by simpa using X);rw[i]at J;rcases hit_at N 3 c with⟨Z,D⟩ | ⟨k,b,P,M,Z,H,D,rfl,S,y,hr,U⟩
  ·have j:Cn.opn rs c=[]:=S8f;rw[j];rw[Z]at K;obtain⟨ao,M,rfl,_,_⟩:=N.shape;go_enter func123,ntmps123;go_wp2_with fail;refine c0m J fun I B=>?_;subst I;go_wp2_with fail;refine c0m K fun I Q=>?_;have Y:x0j w [] (.returned (.slice none 0 0)) I:=⟨_,rfl,Ok.nil _ _ _ _,Q⟩;go_wp2;go_ret;exact Y
  ·have j:Cn.opn rs c=(rs.getD k Cn.none).to:=S8f;rw[j];rw[Z]at K;have a:=O hr;have s:=N.1;have af:=U.len;generalize rs.getD k Cn.none=r at *;go_enter func123,ntmps123;go_wp2_with fail;refine c0m J fun I B=>?_;subst I;go_wp2_with fail;refine c0m K fun I Q=>?_;obtain⟨vt,x,A⟩:=((V a).below Q).to;have hB:=Q.size;have l:=A.1;generalize r.to=L at *;rcases A.2.src with⟨F,rfl⟩ | ⟨q,t,rfl,g⟩
   ·obtain rfl:L=[]:=i0P;have Y:x0j w [] (.returned (.slice none 0 0)) I:=⟨_,rfl,Ok.nil _ _ _ _,Q⟩;go_wp2_with(at_builtin;refine wpList_append_own_none rfl (.tmp 36) (.tmp 41) 40 rfl w.heap.size 21 i0 1 underlying40 hi _ _ _ rfl (World.ownsRow_nil _ _ _ _) rfl ?_);exact n0O
   ·have ab:(L.map (Value.int .i32)).length=L.length:=List.length_map _;rw[ab]at x;go_wp2_with(at_builtin;refine wpList_append_own _ rfl (.tmp 36) (.tmp 41) 40 rfl w.heap.size 21 i0 (.int .i32 0) 1 4 underlying40 hi p ae f rfl e8P _ _ _ rfl (World.ownsRow_nil _ _ _ _) q L.length t (L.map (Value.int .i32)) rfl M7M g (fun u W=>w8O) T7W f6J f6J ?_);intro v9 w9 C R _;have d:Bw w w9:=Q.grown R hB (fun k G=>by simp[Value.ownBlock]at G);have Y:x0j w L (.returned v9) w9:=⟨v9,rfl,Ok.of l f6J C M7M M7M,d⟩;exact n0O
def x1x(w:World)(b:Bool)(e:Ending)(w':World):Prop:=e=.returned (.bool b)/\∃m,w'=w.drewN m
theorem x4g(w:World):∃m,w=w.drewN m:=⟨0,rfl⟩
theorem x4O{w w':World}(h:∃m,w'=w.drewN m) n:∃m,w'.drewN n=w.drewN m:=by
 obtain⟨m,rfl⟩:=h;exact⟨m+n,by rw[World.drewN_drewN]⟩
theorem x0k{w w'}(h:∃m,w'=w.drewN m):Bw w w':=by
 obtain⟨m,rfl⟩:=h;exact below_drewN (b0r) m
theorem ints_at{K}{zs:List Int}{i}(h:i<zs.length):(zs.map (Value.int K)).getD i undef=.int K (zs.getD i 0):=p8I
theorem x7J v rs c w(N:Rcs w v rs)(T:-2147483648<=c/\c<=2147483647):Calls prog 122 #[v,.int .i32 c] w (x6l w (Cn.prim rs c)):=by
 have J:=O (x5d c w T);have o:=O (x2F v rs c w N T);have K:=O (x2E v rs 3 c w N w5r T);obtain⟨c0,c1⟩:=T;by_cases X:Cn.syl c=true
 ·have L:Cn.prim rs c=some ((Cn.opn rs c).getD 0 0,(Cn.opn rs c).getD 1 0):=(by unfold Cn.prim;rw[if_pos X]);have D:(Cn.opn rs c).length=2:=(by unfold Cn.opn;rw[if_pos X];split<;>rfl);rw[L];rw[X]at J;obtain⟨R,M,rfl,_,_⟩:=N.shape;generalize Cn.opn rs c=zs at *;go_enter func122,ntmps122;go_wp2_with fail;refine c0m J fun I B=>?_;subst I;go_wp2_with fail;refine(V o).mono ?_;rintro e I ⟨vx,rfl,y,Q⟩;obtain⟨b,P,ar,rfl,aq,az,ae⟩:=y.sk.2.place P8P;have ag:(zs.map (Value.int .i32)).length=2:=(by simp[D]);have E:=ae 0 f6J;have m:=ae 1 f6J;rw[ints_at f6J]at E m;rw[ag]at aq ⊢;rw[Nat.add_zero]at E;clear o y ae ag;generalize zs.getD 0 0=p,zs.getD 1 0=q at *;have Y:∀n,x6l w (some (p,q)) (.returned (.tuple #[.int .i32 p,.int .i32 q,.bool true])) (I.drewN n):=fun n=>⟨rfl,x0b Q (x0k ⟨n,rfl⟩)⟩;clear Q;go_wp2;go_big_quiet (fail);go_wp2;go_ret3;exact Y _
 ·have i:Cn.syl c=false:=(by simpa using X);rw[i]at J;rcases hit_at N 3 c with⟨Z,D⟩ | ⟨k,b,P,M,Z,H,D,rfl,S,hm,u,U⟩
  ·have L:Cn.prim rs c=none:=N2Q;rw[L];rw[Z]at K;obtain⟨R,M,rfl,_,_⟩:=N.shape;clear N Z D L X i o;go_enter func122,ntmps122;go_wp2_with fail;refine c0m J fun I B=>?_;subst I;clear J;go_wp2_with fail;refine c0m K fun I Q=>?_;have Y:x6l w none (.returned (.tuple #[.int .i32 0,.int .i32 0,.bool false])) I:=⟨rfl,Q⟩;clear K Q;go_wp2;go_ret3;exact Y
  ·have L:Cn.prim rs c=if(rs.getD k Cn.none).kind=7/\(rs.getD k Cn.none).to.length=2 then some ((rs.getD k Cn.none).to.getD 0 0,(rs.getD k Cn.none).to.getD 1 0)else none:=N2Q;rw[Z]at K;have HR:=O u;have s:=N.1;have aj:=U.kind;obtain⟨aA,aB⟩:=aj;have ay:=U.len;clear N Z D X i u U o;generalize rs.getD k Cn.none=r at *;have l:Hid (r.kind=7->r.to.length=2->Cn.prim rs c=some (r.to.getD 0 0,r.to.getD 1 0)):=fun a b=>(by rw[L,if_pos ⟨a,b⟩]);have j:Hid (¬(r.kind=7/\r.to.length=2)->Cn.prim rs c=none):=fun a=>(by rw[L,if_neg a]);clear L;generalize Cn.prim rs c=pr at *;go_enter func122,ntmps122;go_wp2_with fail;refine c0m J fun I B=>?_;subst I;clear J;go_wp2_with fail;refine c0m K fun I Q=>?_;have ab:=(V HR).below Q;obtain⟨vt,x,A⟩:=ab.to;have x0:=ab.kind;clear K HR ab;generalize r.to=zs,r.kind=W at *;obtain⟨t,ai,rfl,am,aw⟩:=A.shape;have HN:x6l w none (.returned (.tuple #[.int .i32 0,.int .i32 0,.bool false])) I:=⟨rfl,Q⟩;by_cases F:W=7
   ·subst F;by_cases f:zs.length=2
    ·obtain rfl:=V l rfl f;clear l j;obtain⟨C,G,af,d,_,_,z⟩:=A.place f6J;obtain⟨rfl,rfl⟩:t=some ⟨C,G,none⟩/\ai=af:=V6r;have E:=z 0 f6J;have m:=z 1 f6J;rw[Nat.add_zero]at E;rw[f]at x am;exact V7E
    ·obtain rfl:=V j (fun h=>f h.2);clear l j;have g:((zs.length:Int) != 2)=true:=P8P;clear A Q;exact F2f
   ·obtain rfl:=V j (fun h=>F h.1);clear l j;have q7:(W != 7)=true:=(by simp[F]);clear A Q;exact F2f
theorem z2Y v u zs w(N:Sk .i32 w v zs)(W:Sk .i32 w u zs)(L:zs.length<=1000000000):Calls prog 39 #[v,u] w (x1x w true):=by
 rcases Nat.eq_zero_or_pos zs.length with h0 | h0
 ·obtain⟨R,M,rfl,_,_⟩:=N.shape;obtain⟨g,J,rfl,_,_⟩:=W.shape;rw[h0];go_enter func39,ntmps39;go_wp2;refine wp_loop_rounds 1 ?_;rw[rounds_succ];go_wp2;go_ret;exact⟨rfl,x4g w⟩
 ·obtain⟨b,P,M,rfl,q,F,T⟩:=N.place h0;obtain⟨z,d,J,rfl,p,I,S⟩:=W.place h0
  have B:Hid (∀wr,Bw w wr->∀i,i<zs.length->wr.cell? ⟨b,P+i,none⟩=some (.int .i32 (zs.getD i 0))/\wr.cell? ⟨z,d+i,none⟩=some (.int .i32 (zs.getD i 0))):=by
   intro wr Q i hi;have E:=T i hi;have l:=S i hi;exact⟨by rw[Q.cell (x0a E)];exact E,by rw[Q.cell (x0a l)];exact l⟩
  have D:((zs.length:Int) != (zs.length:Int))=false:=M7L;go_enter func39,ntmps39;go_wp2;go_loopw[5] (fun i wr=>∃k:Nat,i=.int .i64 k/\k<=zs.length/\∃m,wr=w.drewN m) (fun i _=>zs.length-(intOf i).toNat)
  case atStart=>exact⟨0,rfl,f6J,x4g w⟩
  case round =>
   obtain⟨k,rfl,G,A⟩:=hrel;by_cases H:k<zs.length
   ·obtain⟨E,l⟩:=V B _ (x0k A) k H;generalize zs.getD k 0=t at *;have K:(t != t)=false:=M7L;go_wp2;go_big_quiet (fail);go_wp2
    go_roundw
    case rel=>exact⟨k+1,g2A,f6J,x4O A _⟩
    case measure=>exact g7V
   ·clear B;exact s0F
theorem Tryz.info67:(prog.info? 67).map (fun i=>(i.zero,i.size,i.bytes))=some (some (.agg #[.int .i64 0,.int .i64 0,.int .i64 0,.int .i64 0,.slice none 0 0,.string ⟨#[]⟩,.string ⟨#[]⟩,.float .f64 0]),8,96):=f4x
def x0y(p:Rec×Value):List Value:=[.int .i64 p.1.kind,.int .i64 p.1.lo,.int .i64 p.1.hi,.int .i64 p.1.n,p.2,.string p.1.name,.string p.1.other,.float .f64 p.1.wt]
def rcells(ps:List (Rec×Value)):List Value:=ps.flatMap x0y
theorem x1k(ps:List (Rec×Value)):(rcells ps).length=ps.length*8:=by
 induction ps with
 | nil=>rfl
 | cons p ps ih =>
  rw[rcells,List.flatMap_cons,List.length_append]at *;rw[ih];simp[x0y];omega
theorem x3R(ps:List (Rec×Value))(p:Rec×Value):rcells ps++x0y p=rcells (ps++[p]):=by
 rw[rcells,rcells,List.flatMap_append];simp
theorem x1v:∀(ps:List (Rec×Value)) (i j:Nat),i<ps.length->j<8->(rcells ps)[i*8+j]?=(x0y (ps.getD i (Cn.none,undef)))[j]?
 | [],i,j,h,_=>by simp at h
 | p::ps,0,j,_,hj=>by
  rw[rcells,List.flatMap_cons,List.getElem?_append_left N6g];simp
 | p::ps,i+1,j,h,hj=>by
  have B:=x1v ps i j S4r hj;rw[rcells,List.flatMap_cons,List.getElem?_append_right N6g];have e:(i+1)*8+j-(x0y p).length=i*8+j:=N6g;rw[e];exact B
def Rown(w:World)(B:Nat)(v:Value)(ps:List (Rec×Value)):Prop:=w.ownsRow B 67 8 v ps.length (rcells ps)/\∀p∈ps,Ok .i32 21 w B p.2 p.1.to
theorem Rown.rcs{w B v}{ps:List (Rec×Value)}(h:Rown w B v ps)(S:ps.length<=1000000000)(U:∀p∈ps,RecFit p.1):Rcs w v (ps.map (·.1)):=by
 refine⟨t2Y,fun r D=>?_,?_⟩
 ·grind
 ·have R:=h.1;rcases h.1.2 with⟨N,A⟩ | ⟨g,M,t,N,C,Y,E,F,a,I⟩
  ·grind
  ·refine .inr ⟨g,0,M,by rw[N,List.length_map],f3L,S7V,fun i hi=>?_⟩;rw[List.length_map]at hi;have y:ps.getD i (Cn.none,undef)∈ps:=(by grind);have n:(ps.map (·.1)).getD i Cn.none=(ps.getD i (Cn.none,undef)).1:=by grind
   have T:∀j u,j<8->(x0y (ps.getD i (Cn.none,undef)))[j]?=some u->w.cell? ⟨g,0+i*8+j,none⟩=some u:=by
    intro j u K W;have e:=R.cells (g:=g) U5P (i*8+j) u (by rw[x1v ps i j hi K];exact W);rw[addr_add]at e;rw[(f6J:0+i*8+j=0+(i*8+j))];exact e
   rw[n];exact⟨T 0 _ f6J rfl,T 1 _ f6J rfl,T 2 _ f6J rfl,T 3 _ f6J rfl,⟨_,T 4 _ f6J rfl,(h.2 _ y).sk⟩,T 5 _ f6J rfl,T 6 _ f6J rfl,T 7 _ f6J rfl⟩
theorem x0v{w w':World}{B e A n:Nat}{v us}(h:w.ownsRow B e A v n us)(G:∀g,v.ownBlock=some g->w'.heap[g]?=w.heap[g]?):w'.ownsRow B e A v n us:=by
 obtain⟨Z,D⟩:=h;refine⟨Z,?_⟩;rcases D with D | ⟨g,M,t,N,Q,C,rest⟩
 ·exact .inl D
 ·exact .inr ⟨g,M,t,N,Q,(G g U5P).trans C,rest⟩
theorem Ok.keep{w w' K e B}{v zs}(h:Ok K e w B v zs)(G:∀g,v.ownBlock=some g->w'.heap[g]?=w.heap[g]?):Ok K e w' B v zs:=⟨h.1,h.2.1,x0v h.2.2 G⟩
theorem x0P{w:World}{B E e K A D n L:Nat}{v v' us us'}(h:w.ownsRow B e A v n us)(Z:w.ownsRow E K D v' L us')(F:e≠K){g}(C:v.ownBlock=some g):v'.ownBlock≠some g:=by
 intro I;rcases h.2 with⟨rfl,_⟩ | ⟨k,M,t,rfl,_,Y,_⟩
 ·cases C
 ·rcases Z.2 with⟨rfl,_⟩ | ⟨R,J,H,rfl,_,G,_⟩
  ·cases I
  ·simp[Value.ownBlock]at C I;subst C;subst I;rw[Y]at G;simp at G;exact F G.2
theorem x0f{w:World}{g j cur e}(h:w.heap[g]?=some (.cells cur e (0,0))) v:(w.setCell ⟨g,j,none⟩ v).heap[g]?=some (.cells (cur.setIfInBounds j v) e (0,0)):=by
 rw[setCell_eq_setRow w g j cur e (0,0) v h];exact setRow_heap w g cur _ e _ h
theorem cell_of{w:World}{g j cur e}(h:w.heap[g]?=some (.cells cur e (0,0)))(K:j<cur.size):w.cell? ⟨g,j,none⟩=some (cur.getD j undef):=by
 simp[World.cell?,h,K]
theorem x0e{w:World}{g j cur e}(h:w.heap[g]?=some (.cells cur e (0,0))):w.frozen? ⟨g,j,none⟩=false:=by
 simp[World.frozen?,h]
def x6m(w:World)(rs:List Rec)(e:Ending)(w':World):Prop:=∃v ps,e=.returned v/\ps.map (·.1)=rs/\Rown w' w.heap.size v ps/\Below w.heap.size w w'
def rarr(r:Rec)(vt:Value):Array Value:=#[.int .i64 r.kind,.int .i64 r.lo,.int .i64 r.hi,.int .i64 r.n,vt,.string r.name,.string r.other,.float .f64 r.wt]
theorem z6A(W:World) r vt:∀j u,(x0y (r,vt))[j]?=some u->(W.alloc (.cells (rarr r vt) 67)).cell? ((⟨W.heap.size,0,none⟩:Addr).add j)=some u:=by
 intro j u K
 have H:j<8:=by
  rcases Nat.lt_or_ge j 8 with h | h
  ·exact h
  ·rw[List.getElem?_eq_none N6g]at K;cases K
 rw[addr_add,Nat.zero_add];have e:(rarr r vt).toList=x0y (r,vt):=rfl;simp only[World.cell?,World.alloc];simp;rw[<- Array.getElem?_toList,e];exact K
theorem x6d(W:World) n(E:W.heap.size=n) r vt:∀j u,(x0y (r,vt))[j]?=some u->(W.alloc (.cells #[.int .i64 r.kind,.int .i64 r.lo,.int .i64 r.hi,.int .i64 r.n,vt,.string r.name,.string r.other,.float .f64 r.wt] 67)).cell? ((⟨n,0,none⟩:Addr).add j)=some u:=by
 subst E;exact z6A W r vt
theorem x6W r{vt}(h:vt.oneCell'=true):∀u∈x0y (r,vt),u.oneCell'=true:=by
 intro u W;simp only[x0y,List.mem_cons,List.mem_nil_iff,or_false]at W
 rcases W with rfl | rfl | rfl | rfl | rfl | rfl | rfl | rfl<;>first| rfl | exact h
theorem x0g{w:World}{g j k} v(h:k≠g):(w.setCell ⟨g,j,none⟩ v).heap[k]?=w.heap[k]?:=Below.heap_setCell _ _ _ _ (fun e=>h e)
theorem x0d{B a w}(h:Below B a w){g j}(C:B<=g) v:Below B a (w.setCell ⟨g,j,none⟩ v):=by
 refine h.trans ⟨?_,?_,?_,?_,fun k G=>x0g v f6J⟩
 all_goals first| rfl|(unfold World.setCell;split<;>first| rfl | simp)
theorem x1b(w:World) g j v:(w.setCell ⟨g,j,none⟩ v).heap.size=w.heap.size:=f0h
theorem y1O{w wr w9 w10 mv v9 v10}{ps:List (Rec×Value)}{r vt o}(E:Rown wr w.heap.size mv ps)(A:Bw w wr)
  (T:Ok .i32 21 w9 w.heap.size v9 r.to) (R:(wr.alloc (.cells (rarr r vt) 67)).grownBy w9 (Value.slice none 0 0).ownBlock)
  (L:w10.ownsRow w.heap.size 67 8 v10 (ps.length+1) (rcells ps++x0y (r,v9))) (s:((w9.setCell ⟨wr.heap.size,4,none⟩ v9).alloc o).grownBy w10 mv.ownBlock) :
  Rown w10 w.heap.size v10 (ps++[(r,v9)])/\Bw w w10:=by
 have l:=A.size;have a:(wr.alloc (.cells (rarr r vt) 67)).heap.size<=w9.heap.size:=R.size;have J:wr.heap.size+1<=w9.heap.size:=(by simpa using a);have I:∀g,g<wr.heap.size+1->w9.heap[g]?=(wr.alloc (.cells (rarr r vt) 67)).heap[g]?:=fun g C=>R.block g (by simpa using C) V3M;have K:∀g,g<wr.heap.size->(wr.alloc (.cells (rarr r vt) 67)).heap[g]?=wr.heap[g]?:=fun g C=>((Below.refl wr.heap.size wr).alloc (l0r _) _).block g C
 have Q:w9.heap[wr.heap.size]?=some (.cells (rarr r vt) 67 (0,0)):=by
  rw[I _ f6J];exact s6Q
 have B:w9.ownsRow w.heap.size 67 8 mv ps.length (rcells ps):=x0v E.1 (fun g h=>by rw[I g (by have:=(E.1.lt g h).2;exact f6J),K g (E.1.lt g h).2])
 have F:∀g,g<w9.heap.size->g≠wr.heap.size->mv.ownBlock≠some g->w10.heap[g]?=w9.heap[g]?:=fun g C Z D=>by
  have P:=s.block g P8P (fun e=>D e.symm);rw[P];have f:((w9.setCell ⟨wr.heap.size,4,none⟩ v9).alloc o).heap[g]?=(w9.setCell ⟨wr.heap.size,4,none⟩ v9).heap[g]?:=((b0r).alloc (l0r _) _).block g (by rw[x1b];exact C);rw[f,x0g v9 Z]
 refine⟨⟨?_,fun p hp=>?_⟩,?_⟩
 ·rw[x3R]at L;simpa using L
 ·rcases List.mem_append.1 hp with hp | hp
  ·have y:=E.2 p hp;refine y.keep fun g h=>?_;have H:=(y.2.2.lt g h).2;rw[F g f6J f6J (x0P y.2.2 E.1 e8P h),I g f6J,K g H]
  ·simp only[List.mem_singleton]at hp;subst hp;refine T.keep fun g h=>?_;have H:=(T.2.2.lt g h).2;refine F g H (fun e=>?_) (x0P T.2.2 B e8P h);rcases T.2.2.2 with⟨N,_⟩ | ⟨S,M,t,N,_,Y,_⟩
   ·rw[N]at h;cases h
   ·rw[N]at h;simp[Value.ownBlock]at h;rw[h,e,Q]at Y;simp at Y
 ·have b1:Bw w w9:=(A.alloc l _).grown R P8P (fun k G=>by simp[Value.ownBlock]at G);have m:=x0d b1 (g:=wr.heap.size) (j:=4) l v9;exact(m.alloc (by rw[x1b];exact f6J) o).grown s P8P (fun k G=>(E.1.lt k G).1)
theorem y4Q{w wr w10 mv v10}{ps:List (Rec×Value)}{r o1 o}(E:Rown wr w.heap.size mv ps)(A:Bw w wr)(K:r.to=[])
  (L:w10.ownsRow w.heap.size 67 8 v10 (ps.length+1) (rcells ps++x0y (r,.slice none 0 0))) (s:((wr.alloc o1).alloc o).grownBy w10 mv.ownBlock) :
  Rown w10 w.heap.size v10 (ps++[(r,.slice none 0 0)])/\Bw w w10:=by
 have l:=A.size;refine⟨⟨?_,fun p hp=>?_⟩,?_⟩
 ·rw[x3R]at L;simpa using L
 ·rcases List.mem_append.1 hp with hp | hp
  ·have y:=E.2 p hp;refine y.keep fun g h=>?_;have H:=(y.2.2.lt g h).2;rw[s.block g P8P (fun e=>x0P y.2.2 E.1 e8P h e.symm)];exact(((Below.refl wr.heap.size wr).alloc (l0r _) o1).alloc M7M o).block g H
  ·simp only[List.mem_singleton]at hp;subst hp;show Ok .i32 21 w10 w.heap.size (.slice none 0 0) r.to;rw[K];exact n7g
 ·exact((A.alloc l _).alloc P8P o).grown s P8P (fun k G=>(E.1.lt k G).1)
theorem x4s v rs w(hv:Rcs w v rs):Calls prog 22 #[v] w (x6m w rs):=by
 obtain⟨i0,hi,p,aH,aI⟩:=info_parts Tryz.info21;obtain⟨i1,hj,aA,aB,J⟩:=info_parts Tryz.info67;have aJ:=hv.1;have f:=O (fun i hi=>hv.fit (i:=i) hi);rcases Nat.eq_zero_or_pos rs.length with n0 | n0
 ·obtain⟨ao,aC,rfl,_,_⟩:=hv.shape;obtain rfl:rs=[]:=List.eq_nil_of_length_eq_zero n0;have Y:x6m w [] (.returned (.slice none 0 0)) w:=⟨_,[],rfl,rfl,⟨World.ownsRow_nil _ _ _ _,fun _ h=>(by cases h)⟩,b0r⟩;go_enter func22,ntmps22;exact V9s
 ·obtain⟨b,P,aC,rfl,aK,aL,T⟩:=hv.place n0;have HC:Hid (∀i,i<rs.length->∀W,Bw w W->RecAt W b (P+i*8) (rs.getD i Cn.none)):=fun i hi W hb=>(T i hi).below hb
  have ag:Hid (∀k,k<rs.length->rs.take (k+1)=rs.take k++[rs.getD k Cn.none]):=fun k hk=>by
   rw[List.take_add_one];simp[List.getD,hk]
  go_enter func22,ntmps22;go_wp2;go_loopw[3,4,5,6] (fun mv S _ _ wr=>∃(k:Nat) (s:List (Rec×Value)),S=.int .i64 k/\k<=rs.length/\s.map (·.1)=rs.take k/\s.length=k/\Rown wr w.heap.size mv s/\Bw w wr) (fun _ S _ _ _=>rs.length-(intOf S).toNat)
  case atStart=>exact⟨0,[],rfl,f6J,by simp,rfl,⟨World.ownsRow_nil _ _ _ _,fun _ h=>(by cases h)⟩,b0r⟩
  case round =>
   obtain⟨k,s,rfl,hk,aj,d,E,A⟩:=hrel;by_cases ai:k<rs.length
   ·have ar:=V HC k ai wr A;have l:=V f k ai;have az:=V ag k ai;rw[<- aj]at az;have aM:=l.len;have I:=O az;generalize rs.getD k Cn.none=r at *;obtain⟨x0,x1,x2,x3,⟨vt,x,aw⟩,x5,x6,x7⟩:=ar;have hB:=A.size;have M:=aw.1;rcases aw.2.src with⟨am,rfl⟩ | ⟨q,L,rfl,ay⟩
    ·obtain N:r.to=[]:=by simpa using am
     have hX:∀o,(wr.alloc o).cell? ⟨b,P+k*8+4,none⟩=some (.slice none 0 0):=fun o=>U0H
     have aD:∀W a m,(store a (.float .f64 r.wt) m).run prog W=stored prog W a (.float .f64 r.wt) m:=fun W a m=>run_store prog W a _ m rfl;have hM:∀o o2,((wr.alloc o).alloc o2).ownsRow w.heap.size 67 8 u3 s.length (rcells s):=fun o o2=>(E.1.alloc o).alloc o2;have G:=O hM;have t:Hid (∀o B Z,World.ownsRow Z w.heap.size 67 8 B (s.length+1) (rcells s++x0y (r,.slice none 0 0))->((wr.alloc (.cells #[.int .i64 r.kind,.int .i64 r.lo,.int .i64 r.hi,.int .i64 r.n,.slice none 0 0,.string r.name,.string r.other,.float .f64 r.wt] 67)).alloc o).grownBy Z u3.ownBlock->Rown Z w.heap.size B (s++[(r,.slice none 0 0)])/\Bw w Z):=fun o B Z a b=>y4Q E A N a b;have c:=O (x6d (wr.alloc (.cells #[.int .i64 r.kind,.int .i64 r.lo,.int .i64 r.hi,.int .i64 r.n,.slice none 0 0,.string r.name,.string r.other,.float .f64 r.wt] 67)) (wr.heap.size+1) (by simp) r (.slice none 0 0));have ab:=O (x6W r (vt:=.slice none 0 0) rfl);go_wp2_with(first| (at_builtin;refine wpList_append_own_none rfl (.tmp 17) (.tmp 22) 40 rfl w.heap.size 21 i0 1 underlying40 hi _ _ _ rfl (World.ownsRow_nil _ _ _ _) rfl ?_)|(at_builtin;refine wpList_append_own _ rfl (.tmp 25) (.tmp 27) 23 rfl w.heap.size 67 i1 (.agg #[.int .i64 0,.int .i64 0,.int .i64 0,.int .i64 0,.slice none 0 0,.string ⟨#[]⟩,.string ⟨#[]⟩,.float .f64 0]) 8 96 underlying23 hj aA aB J rfl e8P _ _ _ rfl (V G _ _) ⟨wr.heap.size+1,0,none⟩ 1 1 (x0y (r,.slice none 0 0)) rfl rfl (V c) (V ab) T7X f6J P8P ?_));intro B Z y ae _;obtain⟨X,H⟩:=V t _ B Z (by rw[d];exact y) ae;have HR:=O X;go_wp2
     go_roundw
     case rel=>exact⟨k+1,s++[(r,.slice none 0 0)],g2D,f6J,by rw[V I];simp,i1x,V HR,H⟩
     case measure=>exact g7Y
    ·have aF:(r.to.map (Value.int .i32)).length=r.to.length:=List.length_map _;rw[aF]at x
     have hX:∀o,(wr.alloc o).cell? ⟨b,P+k*8+4,none⟩=some (.slice (some q) r.to.length L):=fun o=>U0H
     have hS:∀o,∀j u,(r.to.map (Value.int .i32))[j]?=some u->(wr.alloc o).cell? (q.add j)=some u:=fun o j u hu=>by
      have h:=ay j u hu;rw[Below.cell ((Below.refl wr.heap.size wr).alloc (l0r _) o) (World.block_lt_of_cell? _ _ h)];exact h
     have HS:=O hS;have aD:∀W a m,(store a (.float .f64 r.wt) m).run prog W=stored prog W a (.float .f64 r.wt) m:=fun W a m=>run_store prog W a _ m rfl;go_wp2_with(at_builtin;refine wpList_append_own _ rfl (.tmp 17) (.tmp 22) 40 rfl w.heap.size 21 i0 (.int .i32 0) 1 4 underlying40 hi p aH aI rfl e8P _ _ _ rfl (World.ownsRow_nil _ _ _ _) q r.to.length L (r.to.map (Value.int .i32)) rfl (by simp) (V HS _) (fun u hu=>P0P) T7X f6J P8P ?_);intro v9 w9 C R _;have af:Ok .i32 21 w9 w.heap.size v9 r.to:=Ok.of M f6J C (by simp) (by simp)
     have Q:w9.heap[wr.heap.size]?=some (.cells (rarr r (.slice (some q) r.to.length L)) 67 (0,0)):=by
      rw[R.block _ (by simp) V3M];show(wr.heap.push _)[wr.heap.size]?=_;simp[rarr]
     have s9:wr.heap.size+1<=w9.heap.size:=(by simpa using R.size);obtain⟨D,F,aG,_,_⟩:=af.sk.shape;subst aG
     have hM:∀o,((w9.setCell ⟨wr.heap.size,4,none⟩ (.slice D r.to.length F)).alloc o).ownsRow w.heap.size 67 8 u3 s.length (rcells s):=fun o=>by
      refine World.ownsRow.alloc (x0v E.1 fun g h=>?_) o;have K:=(E.1.lt g h).2;rw[x0g _ f6J,R.block g P8P V3M];exact((Below.refl wr.heap.size wr).alloc (l0r _) _).block g K
     have G:=O hM;have t:Hid (∀o B Z,World.ownsRow Z w.heap.size 67 8 B (s.length+1) (rcells s++x0y (r,.slice D r.to.length F))->((w9.setCell ⟨wr.heap.size,4,none⟩ (.slice D r.to.length F)).alloc o).grownBy Z u3.ownBlock->Rown Z w.heap.size B (s++[(r,.slice D r.to.length F)])/\Bw w Z):=fun o B Z a b=>y1O E A af R a b;have y0:=cell_of (j:=0) Q f1Y;have y1:=cell_of (j:=1) Q f1Y;have y2:=cell_of (j:=2) Q f1Y;have y3:=cell_of (j:=3) Q f1Y;have y4:=cell_of (j:=4) Q f1Y;have y5:=cell_of (j:=5) Q f1Y;have y6:=cell_of (j:=6) Q f1Y;have y7:=cell_of (j:=7) Q f1Y;have yf:=x0e (j:=4) Q;have z0:w9.cell? ⟨wr.heap.size,0,none⟩=some (.int .i64 r.kind):=y0;have z1:w9.cell? ⟨wr.heap.size,1,none⟩=some (.int .i64 r.lo):=y1;have z2:w9.cell? ⟨wr.heap.size,2,none⟩=some (.int .i64 r.hi):=y2;have z3:w9.cell? ⟨wr.heap.size,3,none⟩=some (.int .i64 r.n):=y3;have z4:w9.cell? ⟨wr.heap.size,4,none⟩=some (.slice (some q) r.to.length L):=y4;have z5:w9.cell? ⟨wr.heap.size,5,none⟩=some (.string r.name):=y5;have z6:w9.cell? ⟨wr.heap.size,6,none⟩=some (.string r.other):=y6;have z7:w9.cell? ⟨wr.heap.size,7,none⟩=some (.float .f64 r.wt):=y7;have U:=x6d (w9.setCell ⟨wr.heap.size,4,none⟩ (.slice D r.to.length F)) w9.heap.size (x1b _ _ _ _) r (.slice D r.to.length F);have aq:=x6W r (vt:=.slice D r.to.length F) rfl;have c:=O U;have ab:=O aq;go_wp2_with(at_builtin;refine wpList_append_own _ rfl (.tmp 25) (.tmp 27) 23 rfl w.heap.size 67 i1 (.agg #[.int .i64 0,.int .i64 0,.int .i64 0,.int .i64 0,.slice none 0 0,.string ⟨#[]⟩,.string ⟨#[]⟩,.float .f64 0]) 8 96 underlying23 hj aA aB J rfl e8P _ _ _ rfl (V G _) ⟨w9.heap.size,0,none⟩ 1 1 (x0y (r,.slice D r.to.length F)) rfl rfl (V c) (V ab) T7X f6J P8P ?_);intro B Z y ae _;obtain⟨X,H⟩:=V t _ B Z (by rw[d];exact y) ae;have HR:=O X;go_wp2
     go_roundw
     case rel=>exact⟨k+1,s++[(r,.slice D r.to.length F)],g2D,f6J,by rw[V I];simp,i1x,V HR,H⟩
     case measure=>exact g7Y
   ·obtain rfl:k=rs.length:=f6J;rw[List.take_length]at aj;have Y:x6m w rs (.returned u3) wr:=⟨u3,s,rfl,aj,E,A⟩;exact n0O
theorem z2W b w:(callFunc 141 #[.float .f64 b]).run prog w=.ok (.value (.int .u64 b)) w:=by
 rw[run_callFunc_extern (e:=Extern.MathFloatBits.float64bits) func141 f4x f4x f4x f4x];rfl
theorem x3p b w:Calls prog 90 #[.float .f64 b] w fun e w'=>e=.returned (.int .u64 b)/\w'=w:=by
 have h:=fun w=>z2W b w;go_enter func90,ntmps90;go_wp2;go_ret;exact⟨rfl,rfl⟩
theorem y4d(t:ByteArray):(t.toList==t.toList)=true:=beq_self_eq_true _
theorem x5h{w v zs}(h:Sk .i32 w v zs) n:Sk .i32 (w.drewN n) v zs:=h.below (x0k ⟨n,rfl⟩)
theorem x9G r va vb w(H:Sk .i32 w va r.to)(Q:Sk .i32 w vb r.to)(S:r.to.length<=1000000000):Calls prog 47 #[recV r va,recV r vb] w (x0c w true):=by
 have t:=O (fun w=>x3p r.wt w)
 have B:Hid (∀A G n,Calls prog 39 #[va,vb] (((w.alloc A).alloc G).drewN n) (x1x (((w.alloc A).alloc G).drewN n) true)):=fun A G n=>by
  have T:Bw w ((w.alloc A).alloc G):=((b0r).alloc (l0r _) _).alloc M7M _;exact z2Y va vb r.to _ (x5h (H.below T) n) (x5h (Q.below T) n) S
 obtain⟨R,ca,rfl,_,_⟩:=H.shape;obtain⟨M,P,rfl,_,_⟩:=Q.shape;unfold recV;have L:=y4d r.name;have g:=y4d r.other;generalize r.kind=kd,r.n=n,r.lo=lo,r.hi=hi at *;generalize r.name=nm,r.other=ot,r.wt=J,r.to.length=a at *;have D:(kd==kd)=true:=beq_self_eq_true _;have X:(lo==lo)=true:=beq_self_eq_true _;have F:(hi==hi)=true:=beq_self_eq_true _;have c:(n==n)=true:=beq_self_eq_true _;have Z:((J:Int)==(J:Int))=true:=beq_self_eq_true _;go_enter func47,ntmps47;go_wp2;go_big_quiet (first| exact Calls.quiet_of (V B _ _ _) | exact Calls.quiet_of_same (V t _));go_wp2;go_ret;exact⟨rfl,(((b0r).alloc (l0r _) _).alloc M7M _).trans ((x0k ⟨_,rfl⟩).mono P8P)⟩
theorem y2N v u rs w(N:Rcs w v rs)(hu:Rcs w u rs):Calls prog 25 #[v,u] w (x0c w true):=by
 have s:=N.1;rcases Nat.eq_zero_or_pos rs.length with h0 | h0
 ·obtain⟨R,M,rfl,_,_⟩:=N.shape;obtain⟨g,J,rfl,_,_⟩:=hu.shape;rw[h0];go_enter func25,ntmps25;go_wp2;refine wp_loop_rounds 1 ?_;rw[rounds_succ];exact T8v
 ·have f:=O (fun i hi=>N.fit (i:=i) hi);obtain⟨b,P,M,rfl,q,F,hc⟩:=N.place h0;obtain⟨z,d,J,rfl,p,ab,S⟩:=hu.place h0;have B:Hid (∀i,i<rs.length->∀W,Bw w W->RecAt W b (P+i*8) (rs.getD i Cn.none)/\RecAt W z (d+i*8) (rs.getD i Cn.none)):=fun i hi W Q=>⟨(hc i hi).below Q,(S i hi).below Q⟩;have D:((rs.length:Int) != (rs.length:Int))=false:=M7L;go_enter func25,ntmps25;go_wp2;go_loopw[5] (fun i wr=>∃k:Nat,i=.int .i64 k/\k<=rs.length/\Bw w wr) (fun i _=>rs.length-(intOf i).toNat)
  case atStart=>exact⟨0,rfl,f6J,b0r⟩
  case round =>
   obtain⟨k,rfl,G,A⟩:=hrel;by_cases H:k<rs.length
   ·obtain⟨c,l⟩:=V B k H wr A;have U:=V f k H;have K:=U.len;generalize rs.getD k Cn.none=r at *;obtain⟨x0,x1,X,x3,⟨y,x,I⟩,j,x6,x7⟩:=c;obtain⟨y0,m,t,y3,⟨Z,L,C⟩,y5,o,y7⟩:=l;have KR:Hid (∀n,Calls prog 47 #[recV r y,recV r Z] (wr.drewN n) (x0c (wr.drewN n) true)):=fun n=>x9G r y Z _ (x5h I n) (x5h C n) K;unfold recV at KR;obtain⟨R,ca,rfl,_,_⟩:=I.shape;obtain⟨bo,cb,rfl,_,_⟩:=C.shape;generalize r.n=n,r.lo=lo at *;generalize r.hi=hi,r.name=Y at *;generalize r.other=ot,r.wt=wt,r.to.length=a at *;go_wp2;go_region_with (refine(V KR _).mono ?_;rintro e w1 ⟨rfl,E⟩)
    all_goals
     have T:Bw w w1:=A.trans (Below.mono (x0b (x0k ⟨_,rfl⟩) E) A.size);go_wp2
     go_roundw
     case rel=>exact⟨k+1,g2A,f6J,T⟩
     case measure=>exact g7V
   ·clear B f;exact s0F
