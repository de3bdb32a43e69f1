/- Cn7 Rc7 Rf7 Rg7 Rh7 Ri7 Rj7 Rk7 Rl7 Rm7 -/
import Derived.Test.YtbmckadcjdedcaaGreatDoorD0
import Derived.Deep.QuietTactic
import Derived.BigQuiet
import Derived.Deep.RegionWith
set_option maxHeartbeats 8000000
set_option maxRecDepth 8000
namespace Go.Proofs.YtbmckadcjdedcaaGreatDoor
open Go.Proofs.Tryz
section
variable{p:Prop}
theorem t6u(h:p:=by go_wp2;go_ret;exact⟨rfl,rfl⟩):p:=h
theorem w7Y(h:p:=by simp[List.getD,G]):p:=h
theorem p8I(h:p:=by simp[List.getD,h]):p:=h
theorem n2e(h:p:=by go_enter func119,ntmps119;go_wp2_with fail;refine c1m (V K _) fun Q C=>?_;obtain⟨x,u,p⟩:=V Y Q (by simpa using C);have T:x0c w false (.returned (.bool false)) Q:=⟨rfl,((b0r).alloc (l0r _) _).trans (C.mono M7N)⟩;go_wp2;go_ret;exact T):p:=h
theorem t6v(h:p:=by go_wp2;go_ret;exact⟨rfl,rfl⟩):p:=h
theorem w5o(h:p:=by unfold I64;exact f6J):p:=h
theorem i2c(h:p:=by go_enter func118,ntmps118;go_wp2;go_ret;exact⟨rfl,(b0r).alloc (l0r _) _⟩):p:=h
theorem v1D(h:p:=by go_enter func76,ntmps76;exact t6u):p:=h
theorem g2A(h:p:=by go_num):p:=h
theorem n7K(h:p:=by unfold IntKind.wrap;have C:(2:Int)^IntKind.u64.bits=18446744073709551616:=e8N;rw[C];simp[IntKind.signed];omega):p:=h
theorem N6g(h:p:=by simp[x0y];exact f6J):p:=h
theorem g7r(h:p:=by unfold Cn.cls;rw[Z]):p:=h
theorem w5p(h:p:=by unfold I64;exact f6J):p:=h
theorem s6f(h:p:=by go_enter func72,ntmps72;exact t6v):p:=h
theorem e8P(h:p:=by decide):p:=h
theorem R1Y(h:p:=by simpa using X):p:=h
theorem v9m(h:p:=by rw[d0f f6J];exact n2e):p:=h
theorem U7I(h:p:=by go_wp2;go_ret;exact T):p:=h
theorem R0p(h:p:=by show(w.heap.push _)[w.heap.size]?=_;simp):p:=h
theorem T8v(h:p:=by go_wp2;go_ret;exact⟨rfl,b0r⟩):p:=h
theorem M2U(h:p:=by simpa using he):p:=h
theorem e3O(h:p:=by rw[C.cell (x0a F)];exact F):p:=h
theorem g2D(h:p:=by go_num):p:=h
theorem i3X(h:p:=by go_enter func123,ntmps123;go_wp2_with fail;refine c0m R fun Q H=>?_;subst Q;go_wp2;go_ret;exact T):p:=h
theorem u4n(h:p:=by obtain⟨s,M,rfl,_,_⟩:=N.shape;go_enter func81,ntmps81;go_wp2;go_ret;exact⟨rfl,b0r⟩):p:=h
theorem n7g(h:p:=by exact Ok.nil _ _ _ _):p:=h
theorem f5B(h:p:=by unfold Cn.prim;rw[if_neg X,Z]):p:=h
theorem G7p(h:p:=by split<;>omega):p:=h
theorem f1Y(h:p:=by show _<8;exact f6J):p:=h
theorem v5I(h:p:=by simp[x]):p:=h
theorem w8O(h:p:=by obtain⟨z,_,rfl⟩:=List.mem_map.1 W;rfl):p:=h
theorem m0d(h:p:=by simpa using B):p:=h
theorem s6Q(h:p:=by show(wr.heap.push _)[wr.heap.size]?=_;simp):p:=h
theorem V3M(h:p:=by simp[Value.ownBlock]):p:=h
theorem U3v(h:p:=by unfold Cn.opn;rw[if_neg X,Z]):p:=h
theorem U5u(h:p:=by rw[Below.cell ((Below.refl wr.heap.size wr).alloc (l0r _) o) (x0a x4)];exact x4):p:=h
theorem P0M(h:p:=by obtain⟨z,_,rfl⟩:=List.mem_map.1 hu;rfl):p:=h
theorem r0V(h:p:=by go_wp2;refine wp_loop_rounds 1 ?_;rw[rounds_succ];exact U7I):p:=h
theorem e8X(h:p:=by decide):p:=h
theorem E8V(h:p:=by simp[List.getD,hk]):p:=h
end
structure Rec where
 kind:Int
 lo:Int
 hi:Int
 n:Int
 to:List Int
 name:ByteArray
 other:ByteArray
 wt:Nat
namespace Cn
def none:Rec:=⟨0,0,0,0,[],⟨#[]⟩,⟨#[]⟩,0⟩
def fam(k:Int):Int :=
 if k<1\/15<k then 0 else if k<=5 then 1 else if k=6 then 2 else if k<=8 then 3 else k-5
def step(r:Rec):Int:=if r.kind=4 then max r.n 0 else 1
def speaks(r:Rec)(c:Int):Bool:=decide (r.kind≠15/\0<step r/\0<=c/\c<=1114111/\r.lo<=c/\c<=r.hi/\(c-r.lo)%step r=0)
def findA(f c:Int):Nat->List Rec->Int
 | _,[]=>-1
 | i,r::l=>if fam r.kind=f/\speaks r c=true then(i:Int)else findA f c (i+1) l
def find(l:List Rec)(f c:Int):Int:=if f=10\/f=0 then -1 else findA f c 0 l
def hit(l:List Rec)(f c:Int):Option Rec:=if find l f c<0 then Option.none else some (l.getD (find l f c).toNat none)
def cls(l:List Rec)(c:Int):Int:=match hit l 2 c with | some r=>r.n | Option.none=>0
def syl(c:Int):Bool:=decide (44032<=c/\c<=55203)
def opn(l:List Rec)(c:Int):List Int :=
 if syl c then(if(c-44032)%28=0 then[4352+(c-44032) / 588,4449+(c-44032) / 28%21]else[c-(c-44032)%28,4519+(c-44032)%28])
 else match hit l 3 c with | some r=>r.to | Option.none=>[]
def prim(l:List Rec)(c:Int):Option (Int×Int) :=
 if syl c then some ((opn l c).getD 0 0,(opn l c).getD 1 0)
 else match hit l 3 c with
  | some r=>if r.kind=7/\r.to.length=2 then some (r.to.getD 0 0,r.to.getD 1 0)else Option.none
  | Option.none=>Option.none
theorem x6p(k:Int):0<=fam k/\fam k<=10:=by
 unfold fam;split
 ·omega
 ·omega
theorem y4N{l:List Rec}{f c:Int}{k:Nat}(G:k<l.length):findA f c k (l.drop k)=if fam (l.getD k none).kind=f/\speaks (l.getD k none) c=true then(k:Int)else findA f c (k+1) (l.drop (k+1)):=by
 rw[List.drop_eq_getElem_cons G,findA];exact w7Y
theorem findA_bound(f c:Int):∀(l:List Rec) (k:Nat),findA f c k l=-1\/((k:Int)<=findA f c k l/\findA f c k l<k+l.length)
 | [],_=>.inl rfl
 | r::l,k=>by
  rw[findA];split
  ·exact .inr ⟨f6J,P8P⟩
  ·rcases findA_bound f c l (k+1)with h | ⟨D,Z⟩
   ·exact .inl h
   ·exact .inr ⟨f6J,P8P⟩
theorem find_bound(l:List Rec)(f c:Int):find l f c=-1\/(0<=find l f c/\find l f c<l.length):=by
 unfold find;split
 ·exact .inl rfl
 ·rcases findA_bound f c l 0 with h | ⟨D,Z⟩
  ·exact .inl h
  ·exact .inr ⟨f6J,f6J⟩
end Cn
open Go.RowKit
def I64(n:Int):Prop:=-9223372036854775808<=n/\n<=9223372036854775807
structure RecFit(r:Rec):Prop where
 kind:I64 r.kind
 lo:I64 r.lo
 hi:I64 r.hi
 n:I64 r.n
 len:r.to.length<=1000000000
 wt:r.wt<18446744073709551616
structure RecAt(w:World)(b o:Nat)(r:Rec):Prop where
 kind:w.cell? ⟨b,o,none⟩=some (.int .i64 r.kind)
 lo:w.cell? ⟨b,o+1,none⟩=some (.int .i64 r.lo)
 hi:w.cell? ⟨b,o+2,none⟩=some (.int .i64 r.hi)
 n:w.cell? ⟨b,o+3,none⟩=some (.int .i64 r.n)
 to:∃v,w.cell? ⟨b,o+4,none⟩=some v/\Sk .i32 w v r.to
 name:w.cell? ⟨b,o+5,none⟩=some (.string r.name)
 other:w.cell? ⟨b,o+6,none⟩=some (.string r.other)
 wt:w.cell? ⟨b,o+7,none⟩=some (.float .f64 r.wt)
theorem RecAt.below{w w':World}{b o:Nat}{r:Rec}(h:RecAt w b o r)(C:Bw w w'):RecAt w' b o r:=by
 obtain⟨T,D,Z,R,⟨v,H,p⟩,F,x,L⟩:=h
 exact⟨by rw[C.cell (x0a T)];exact T,by rw[C.cell (x0a D)];exact D,by rw[C.cell (x0a Z)];exact Z,by rw[C.cell (x0a R)];exact R,
  ⟨v,by rw[C.cell (x0a H)];exact H,p.below C⟩,e3O,by rw[C.cell (x0a x)];exact x,by rw[C.cell (x0a L)];exact L⟩
def Rcs(w:World)(v:Value)(rs:List Rec):Prop:=rs.length<=1000000000/\(∀r∈rs,RecFit r) /\
 ((rs=[]/\∃ao cap,v=.slice ao 0 cap/\cap<=9223372036854775807) \/
  ∃b off cap,v=.slice (some ⟨b,off,none⟩) rs.length cap/\rs.length<=cap/\cap<=9223372036854775807/\∀i,i<rs.length->RecAt w b (off+i*8) (rs.getD i Cn.none))
theorem Rcs.below{w w':World}{v:Value}{rs:List Rec}(h:Rcs w v rs)(C:Bw w w'):Rcs w' v rs:=by
 obtain⟨D,Z,R⟩:=h;refine⟨D,Z,?_⟩;rcases R with R | ⟨b,P,M,N,S,U,I⟩
 ·exact .inl R
 ·exact .inr ⟨b,P,M,N,S,U,fun i hi=>(I i hi).below C⟩
theorem Rcs.shape{w:World}{v:Value}{rs:List Rec}(h:Rcs w v rs):∃ao cap,v=.slice ao rs.length cap/\rs.length<=cap/\cap<=9223372036854775807:=by
 rcases h.2.2 with⟨rfl,ao,cap,N,U⟩ | ⟨b,P,cap,N,S,U,_⟩
 ·exact R8k
 ·exact f8G
theorem Rcs.place{w:World}{v:Value}{rs:List Rec}(h:Rcs w v rs)(F:0<rs.length):∃b off cap,v=.slice (some ⟨b,off,none⟩) rs.length cap/\rs.length<=cap/\cap<=9223372036854775807/\∀i,i<rs.length->RecAt w b (off+i*8) (rs.getD i Cn.none):=by
 rcases h.2.2 with⟨rfl,_⟩ | h
 ·simp at F
 ·exact h
theorem Rcs.fit{w:World}{v:Value}{rs:List Rec}(h:Rcs w v rs){i:Nat}(hi:i<rs.length):RecFit (rs.getD i Cn.none):=h.2.1 _ n7A
theorem Rcs.head{w:World}{ao:Option Addr}{len cap k:Nat}{rs:List Rec}(h:Rcs w (.slice ao len cap) rs)(G:k<=len):Rcs w (.slice ao k cap) (rs.take k):=by
 obtain⟨D,Z,R⟩:=h;refine⟨P8P,fun r u=>Z r (List.mem_of_mem_take u),?_⟩;rcases R with⟨rfl,A,J,N,U⟩ | ⟨b,P,J,N,S,U,I⟩
 ·grind
 ·simp only[Value.slice.injEq]at N;obtain⟨rfl,rfl,rfl⟩:=N;have H:(rs.take k).length=k:=P8P;refine .inr ⟨b,P,cap,by rw[H],f6J,U,fun i hi=>?_⟩;rw[H]at hi;have:=I i f6J;rw[show(rs.take k).getD i Cn.none=rs.getD i Cn.none by simp[List.getD,List.getElem?_take_of_lt hi]];exact this
def recV(r:Rec)(vt:Value):Value:=.agg #[.int .i64 r.kind,.int .i64 r.lo,.int .i64 r.hi,.int .i64 r.n,vt,.string r.name,.string r.other,.float .f64 r.wt]
def IntB(w:World)(n:Int)(e:Ending)(w':World):Prop:=e=.returned (.int .i64 n)/\Below w.heap.size w w'
def x0c(w:World)(b:Bool)(e:Ending)(w':World):Prop:=e=.returned (.bool b)/\Below w.heap.size w w'
def z4H:Value:=.agg #[.int .i64 0,.int .i64 1,.int .i64 1,.int .i64 1,.int .i64 1,.int .i64 1,.int .i64 2,.int .i64 3,.int .i64 3,.int .i64 4,.int .i64 5,.int .i64 6,.int .i64 7,.int .i64 8,.int .i64 9,.int .i64 10]
theorem z4I(k:Int)(T:1<=k)(D:k<=15)(w:World):(Instr.index 188 z4H (.int .i64 k)).run prog w=.ok (.int .i64 (Cn.fam k)) w:=by
 have h:k=1\/k=2\/k=3\/k=4\/k=5\/k=6\/k=7\/k=8\/k=9\/k=10\/k=11\/k=12\/k=13\/k=14\/k=15:=f6J
 rcases h with rfl | rfl | rfl | rfl | rfl | rfl | rfl | rfl | rfl | rfl | rfl | rfl | rfl | rfl | rfl<;>
  (simp[z4H,Instr.index,run_underlying underlying188,asIntOf,go_sem,Tryz.sizeOf3,Tryz.isAgg3,Cn.fam])
theorem x0l(k:Int)(w:World)(G:I64 k):Calls prog 72 #[.int .i64 k] w fun e w'=>e=.returned (.int .i64 (Cn.fam k))/\w'=w:=by
 obtain⟨a,M⟩:=G;by_cases A:k<1
 ·have z:Cn.fam k=0:=(by unfold Cn.fam;rw[if_pos (.inl A)]);rw[z];exact s6f
 ·by_cases J:15<k
  ·have z:Cn.fam k=0:=(by unfold Cn.fam;rw[if_pos (.inr J)]);rw[z];exact s6f
  ·have T:=z4I k f6J f6J;unfold z4H at T;exact s6f
theorem x6S(r:Rec)(vt:Value)(w:World)(z:RecFit r):Calls prog 118 #[recV r vt] w (IntB w (Cn.step r)):=by
 unfold recV Cn.step;have E:=z.n;have G:=z.kind;generalize r.kind=kd,r.n=n at *;obtain⟨R,t⟩:=E;obtain⟨a,M⟩:=G;by_cases H:kd=4
 ·subst H;rw[if_pos rfl];by_cases A:0<=n
  ·have U:max n 0=n:=f6J;rw[U];exact i2c
  ·have U:max n 0=0:=f6J;rw[U];exact i2c
 ·rw[if_neg H];have q:(kd==4)=false:=b0f H;exact i2c
theorem z2K{c lo:Int}(T:0<=c)(D:c<=1114111)(Z:lo<=c)(R:-9223372036854775808<=lo):∃L,IntKind.u64.wrap lo=L/\IntKind.u64.wrap (c-L)=c-lo:=by
 refine⟨_,rfl,?_⟩;by_cases E:0<=lo
 ·rw[IntWalk.u64_in lo ⟨f6J,f6J⟩,IntWalk.u64_in _ ⟨f6J,f6J⟩]
 ·have e:IntKind.u64.wrap lo=lo+18446744073709551616:=n7K
  rw[e];exact n7K
theorem x4p(r:Rec)(vt:Value)(c:Int)(w:World)(z:RecFit r)(I:-2147483648<=c/\c<=2147483647):Calls prog 119 #[recV r vt,.int .i64 c] w (x0c w (Cn.speaks r c)):=by
 have K:=O (fun w=>x6S r vt w z)
 have B:Cn.step r<=9223372036854775807:=by
  unfold Cn.step;have:=z.n;unfold I64 at this;exact G7p
 have P:Cn.speaks r c=decide (r.kind≠15/\0<Cn.step r/\0<=c/\c<=1114111/\r.lo<=c/\c<=r.hi/\(c-r.lo)%Cn.step r=0):=rfl;rw[P];have j:=z.kind;have S:=z.lo;have t:=z.hi;unfold recV at *;generalize Cn.step r=st,r.kind=kd,r.n=n,r.lo=lo at *;generalize r.hi=hi,r.name=nm,r.other=ot,r.wt=k at *;obtain⟨a,M⟩:=j;obtain⟨Z,v⟩:=S;obtain⟨F,y⟩:=t;obtain⟨s,o⟩:=I
 have X:∀W,Below (w.heap.size+1) (w.alloc (.cells #[.int .i64 kd,.int .i64 lo,.int .i64 hi,.int .i64 n,vt,.string nm,.string ot,.float .f64 k] 67)) W->W.cell? ⟨w.heap.size,0,none⟩=some (.int .i64 kd)/\W.cell? ⟨w.heap.size,1,none⟩=some (.int .i64 lo)/\W.cell? ⟨w.heap.size,2,none⟩=some (.int .i64 hi):=by
  intro W C;refine⟨?_,?_,?_⟩<;>(rw[C.cell M7N];simp[World.cell?,World.alloc,-World.alloc_eq])
 have Y:=O X;by_cases A:kd=15
 ·have l:(kd != 15)=false:=(by simp[A]);rw[d0f (fun h=>h.1 A)];subst A;exact n2e
 ·have l:(kd != 15)=true:=(by simp[A]);by_cases i:0<st;rotate_left
  ·exact v9m
  by_cases b1:0<=c;rotate_left
  ·exact v9m
  by_cases m:c<=1114111;rotate_left
  ·exact v9m
  by_cases G:lo<=c;rotate_left
  ·exact v9m
  by_cases d:c<=hi;rotate_left
  ·exact v9m
  obtain⟨J,N,f⟩:=z2K b1 m G Z;have H:IntKind.u64.wrap c=c:=IntWalk.u64_in c ⟨f6J,f6J⟩;have E:IntKind.u64.wrap st=st:=IntWalk.u64_in st ⟨f6J,f6J⟩;obtain⟨q,L⟩:∃q,(c-lo).tmod st=q:=⟨_,rfl⟩;have b:(c-lo)%st=q:=(by rw[<- L,Int.tmod_eq_emod_of_nonneg f6J]);have D:(st==0)=false:=b0f f6J;by_cases g:q=0
  ·rw[d0t ⟨A,i,b1,m,G,d,b.trans g⟩];subst g;go_enter func119,ntmps119;go_wp2_with fail;refine c1m (V K _) fun Q C=>?_;obtain⟨x,u,p⟩:=V Y Q (by simpa using C);have T:x0c w true (.returned (.bool true)) Q:=⟨rfl,((b0r).alloc (l0r _) _).trans (C.mono M7N)⟩;go_wp2;go_ret;exact T
  ·have R:(q==0)=false:=b0f g;rw[d0f (fun h=>g (b.symm.trans h.2.2.2.2.2.2))];exact n2e
theorem x2A(v:Value)(rs:List Rec)(f c:Int)(w:World)(N:Rcs w v rs)(z:I64 f)(I:-2147483648<=c/\c<=2147483647):Calls prog 81 #[v,.int .i64 f,.int .i32 c] w (IntB w (Cn.find rs f c)):=by
 obtain⟨f0,m⟩:=z;by_cases y:f=10
 ·have g:Cn.find rs f c=-1:=(by unfold Cn.find;rw[if_pos (.inl y)]);rw[g];subst y;exact u4n
 ·have q1:(f==10)=false:=b0f y;by_cases h0:f=0
  ·have g:Cn.find rs f c=-1:=(by unfold Cn.find;rw[if_pos (.inr h0)]);rw[g];subst h0;exact u4n
  ·have l:(f==0)=false:=b0f h0;have g:Cn.find rs f c=Cn.findA f c 0 (rs.drop 0):=(by unfold Cn.find;rw[if_neg f6J];rfl);rw[g];have d:=N.1;have D:=O (fun k w h=>x0l k w h);have KS:=O (fun r vt w h=>x4p r vt c w h I);have a:=O (fun i hi=>N.fit (i:=i) hi);generalize hres:Cn.findA f c 0 (rs.drop 0)=t;obtain⟨c0,c1⟩:=I;rcases Nat.eq_zero_or_pos rs.length with n0 | n0
   ·obtain⟨s,M,rfl,_,_⟩:=N.shape;obtain rfl:rs=[]:=List.eq_nil_of_length_eq_zero n0;obtain rfl:-1=t:=hres;go_enter func81,ntmps81;go_wp2;refine wp_loop_rounds 1 ?_;rw[rounds_succ];go_wp2;go_ret;exact⟨rfl,b0r⟩
   ·obtain⟨b,P,M,rfl,ae,af,G⟩:=N.place n0;have Y:Hid (∀i,i<rs.length->∀W,Bw w W->RecAt W b (P+i*8) (rs.getD i Cn.none)):=fun i hi W C=>(G i hi).below C;have HR:=O hres;go_enter func81,ntmps81;go_wp2;go_loopw[7] (fun S wr=>∃k:Nat,S=.int .i64 k/\k<=rs.length/\Bw w wr/\Cn.findA f c k (rs.drop k)=t) (fun S _=>rs.length-(intOf S).toNat)
    case atStart=>exact⟨0,rfl,f6J,b0r,V HR⟩
    case round =>
     obtain⟨k,rfl,hk,A,J⟩:=hrel;by_cases H:k<rs.length
     ·have n:=V Y k H wr A;have o:=V a k H;rw[Cn.y4N H]at J;have L:=O J;generalize rs.getD k Cn.none=r at *;obtain⟨x0,u,p,R,⟨vt,F,_⟩,x5,x6,K⟩:=n;have K1:=O (V D r.kind wr o.kind);have j:=O (V KS r vt wr o);unfold recV at j;generalize r.kind=kd,r.wt=X at *;by_cases q:Cn.fam kd=f
      ·have y0:=O (show(Cn.fam kd==f)=true from beq_iff_eq.2 q);generalize Cn.fam kd=Z at *;subst q;have y1:(Z==Z)=true:=beq_self_eq_true _;go_wp2_with fail;refine c0m K1 fun Q ab=>?_;subst Q;go_wp2_with fail;refine c0m j fun Q E=>?_;have B:Bw w Q:=A.trans (E.mono A.size)
       cases hsp:Cn.speaks r c with
       | true =>
        have T:IntB w t (.returned (.int .i64 (k:Int))) Q:=⟨by rw[<- V L,if_pos (by simp[hsp])],B⟩;go_wp2;go_ret;exact T
       | false =>
        have x:=O ((V L).symm.trans (if_neg (by rw[hsp];exact M7L)));go_wp2
        go_roundw
        case rel=>exact⟨k+1,g2A,f6J,B,(V x).symm⟩
        case measure=>exact g7V
      ·have y1:(Cn.fam kd==f)=false:=b0f q;have x:=O ((V L).symm.trans (if_neg (fun h=>q h.1)));generalize Cn.fam kd=Z at *;go_wp2_with fail;refine c0m K1 fun Q ab=>?_;subst Q;go_wp2
       go_roundw
       case rel=>exact⟨k+1,g2A,f6J,A,(V x).symm⟩
       case measure=>exact g7V
     ·obtain rfl:k=rs.length:=f6J;have U:(-1:Int)=t:=(by rw[<- J,List.drop_eq_nil_of_le (l0r _)];rfl);have T:IntB w t (.returned (.int .i64 (-1))) wr:=⟨by rw[U],A⟩;exact U7I
theorem Tryz.info21:(prog.info? 21).map (fun i=>(i.zero,i.size,i.bytes))=some (some (.int .i32 0),1,4):=f4x
theorem info_parts{p:Option TypeInfo}{z:Option Value}{s b:Nat}(h:p.map (fun i=>(i.zero,i.size,i.bytes))=some (z,s,b)):∃i,p=some i/\i.zero=z/\i.size=s/\i.bytes=b:=f0h
def x0j(w:World)(zs:List Int)(e:Ending)(w':World):Prop:=∃v,e=.returned v/\Ok .i32 21 w' w.heap.size v zs/\Below w.heap.size w w'
def x6c(w:World)(r:Option (Int×Int))(e:Ending)(w':World):Prop:=e=.returned (.tuple #[.int .i32 ((r.map (·.1)).getD 0),.int .i32 ((r.map (·.2)).getD 0),.bool r.isSome])/\Below w.heap.size w w'
theorem x4U(c:Int)(w:World)(h:-2147483648<=c/\c<=2147483647):Calls prog 76 #[.int .i32 c] w fun e w'=>e=.returned (.bool (Cn.syl c))/\w'=w:=by
 obtain⟨D,Z⟩:=h;unfold Cn.syl;by_cases A:44032<=c
 ·by_cases J:c<=55203
  ·rw[d0t ⟨A,J⟩];exact v1D
  ·rw[d0f (fun h=>J h.2)];exact v1D
 ·rw[d0f (fun h=>A h.1)];exact v1D
theorem hit_at{w:World}{v:Value}{rs:List Rec}(N:Rcs w v rs)(f c:Int):(Cn.find rs f c=-1/\Cn.hit rs f c=none) \/
  ∃(k:Nat) (b off cap:Nat),Cn.find rs f c=k/\k<rs.length/\Cn.hit rs f c=some (rs.getD k Cn.none)/\v=.slice (some ⟨b,off,none⟩) rs.length cap/\rs.length<=cap/\cap<=9223372036854775807/\RecAt w b (off+k*8) (rs.getD k Cn.none)/\RecFit (rs.getD k Cn.none):=by
 rcases Cn.find_bound rs f c with h | ⟨D,Z⟩
 ·exact .inl ⟨h,by unfold Cn.hit;rw[h];rfl⟩
 ·obtain⟨k,G⟩:∃k:Nat,Cn.find rs f c=k:=⟨(Cn.find rs f c).toNat,f6J⟩;have H:k<rs.length:=f6J;obtain⟨b,off,cap,n,S,U,I⟩:=N.place f6J;refine .inr ⟨k,b,off,cap,G,H,?_,n,S,U,I k H,N.fit H⟩;unfold Cn.hit;rw[G,if_neg f6J];rfl
theorem x3f(v:Value)(rs:List Rec)(c:Int)(w:World)(N:Rcs w v rs)(I:-2147483648<=c/\c<=2147483647):Calls prog 121 #[v,.int .i32 c] w (IntB w (Cn.cls rs c)):=by
 have K:=O (x2A v rs 2 c w N w5o I);obtain⟨Y,o⟩:=I;rcases hit_at N 2 c with⟨D,Z⟩ | ⟨k,b,P,M,D,H,Z,rfl,S,U,u,z⟩
 ·have y:Cn.cls rs c=0:=g7r;rw[y];rw[D]at K;obtain⟨s,M,rfl,_,_⟩:=N.shape;go_enter func121,ntmps121;go_wp2_with fail;refine c0m K fun Q C=>?_;have T:IntB w 0 (.returned (.int .i64 0)) Q:=⟨rfl,C⟩;go_wp2;go_ret;exact T
 ·have y:Cn.cls rs c=(rs.getD k Cn.none).n:=g7r;rw[y];rw[D]at K;have g:=O u;have d:=N.1;generalize rs.getD k Cn.none=r at *;go_enter func121,ntmps121;go_wp2_with fail;refine c0m K fun Q C=>?_;have R:=((V g).below C).n;have T:IntB w r.n (.returned (.int .i64 r.n)) Q:=⟨rfl,C⟩;go_wp2;go_ret;exact T
theorem ok_two(w:World)(a b:Int)(L:-2147483648<=a/\a<=2147483647)(C:-2147483648<=b/\b<=2147483647):Ok .i32 21 (w.alloc (.cells #[.int .i32 a,.int .i32 b] 21)) w.heap.size (.slice (some ⟨w.heap.size,0,none⟩) 2 2) [a,b]:=by
 refine Ok.of (n:=2) (us:=[.int .i32 a,.int .i32 b]) (fun z o=>?_) M7N ⟨rfl,.inr ⟨w.heap.size,2,#[.int .i32 a,.int .i32 b],rfl,l0r _,?_,l0r _,T7W,rfl,rfl⟩⟩ rfl rfl
 ·simp only[List.mem_cons,List.mem_nil_iff,or_false]at o;simp only[IntKind.min,IntKind.max,IntKind.signed,IntKind.bits];rcases o with rfl | rfl<;>simp<;>omega
 ·exact R0p
theorem x2B(v:Value)(rs:List Rec)(c:Int)(w:World)(N:Rcs w v rs)(I:-2147483648<=c/\c<=2147483647):Calls prog 123 #[v,.int .i32 c] w (x0j w (Cn.opn rs c)):=by
 obtain⟨i0,hi,i,d,f⟩:=info_parts Tryz.info21;have R:=O (x4U c w I);have K:=O (x2A v rs 3 c w N (by unfold I64;exact f6J) I);obtain⟨c0,c1⟩:=I;by_cases X:Cn.syl c=true
 ·have E:44032<=c/\c<=55203:=(by unfold Cn.syl at X;simpa using X);obtain⟨s0,J⟩:=E;rw[X]at R;obtain⟨s,M,rfl,_,_⟩:=N.shape;have e1:(c-44032).tmod 28=(c-44032)%28:=Int.tmod_eq_emod_of_nonneg f6J;have e2:(c-44032).tdiv 588=(c-44032) / 588:=Int.tdiv_eq_ediv_of_nonneg f6J;have e3:(c-44032).tdiv 28=(c-44032) / 28:=Int.tdiv_eq_ediv_of_nonneg f6J;have e4:((c-44032) / 28).tmod 21=(c-44032) / 28%21:=Int.tmod_eq_emod_of_nonneg f6J;by_cases a:(c-44032)%28=0
  ·have y:Cn.opn rs c=[4352+(c-44032) / 588,4449+(c-44032) / 28%21]:=(by unfold Cn.opn;rw[if_pos X,if_pos a]);rw[y];have j:((c-44032)%28==0)=true:=beq_iff_eq.2 a
   have T:x0j w [4352+(c-44032) / 588,4449+(c-44032) / 28%21] (.returned (.slice (some ⟨w.heap.size,0,none⟩) 2 2)) (w.alloc (.cells #[.int .i32 (4352+(c-44032) / 588),.int .i32 (4449+(c-44032) / 28%21)] 21)) :=
    ⟨_,rfl,ok_two w _ _ f6J f6J,(b0r).alloc (l0r _) _⟩
   exact i3X
  ·have y:Cn.opn rs c=[c-(c-44032)%28,4519+(c-44032)%28]:=(by unfold Cn.opn;rw[if_pos X,if_neg a]);rw[y];have j:((c-44032)%28==0)=false:=b0f a
   have T:x0j w [c-(c-44032)%28,4519+(c-44032)%28] (.returned (.slice (some ⟨w.heap.size,0,none⟩) 2 2)) (w.alloc (.cells #[.int .i32 (c-(c-44032)%28),.int .i32 (4519+(c-44032)%28)] 21)) :=
    ⟨_,rfl,ok_two w _ _ f6J f6J,(b0r).alloc (l0r _) _⟩
   exact i3X
 ·have E:Cn.syl c=false:=(by simpa using X);rw[E]at R;rcases hit_at N 3 c with⟨D,Z⟩ | ⟨k,b,ai,M,D,ag,Z,rfl,S,hm,hr,hf⟩
  ·have y:Cn.opn rs c=[]:=U3v;rw[y];rw[D]at K;obtain⟨s,M,rfl,_,_⟩:=N.shape;go_enter func123,ntmps123;go_wp2_with fail;refine c0m R fun Q H=>?_;subst Q;go_wp2_with fail;refine c0m K fun Q C=>?_;have T:x0j w [] (.returned (.slice none 0 0)) Q:=⟨_,rfl,Ok.nil _ _ _ _,C⟩;go_wp2;go_ret;exact T
  ·have y:Cn.opn rs c=(rs.getD k Cn.none).to:=U3v;rw[y];rw[D]at K;have g:=O hr;have af:=N.1;have P:=hf.len;generalize rs.getD k Cn.none=r at *;go_enter func123,ntmps123;go_wp2_with fail;refine c0m R fun Q H=>?_;subst Q;go_wp2_with fail;refine c0m K fun Q C=>?_;obtain⟨A,F,U⟩:=((V g).below C).to;have l:=C.size;have o:=U.1;generalize r.to=L at *;rcases U.2.src with⟨t,rfl⟩ | ⟨p,n,rfl,B⟩
   ·obtain rfl:L=[]:=(by simpa using t);have T:x0j w [] (.returned (.slice none 0 0)) Q:=⟨_,rfl,Ok.nil _ _ _ _,C⟩;go_wp2_with(at_builtin;refine wpList_append_own_none rfl (.tmp 36) (.tmp 41) 40 rfl w.heap.size 21 i0 1 underlying40 hi _ _ _ rfl (World.ownsRow_nil _ _ _ _) rfl ?_);exact U7I
   ·have ae:(L.map (Value.int .i32)).length=L.length:=List.length_map _;rw[ae]at F;go_wp2_with(at_builtin;refine wpList_append_own _ rfl (.tmp 36) (.tmp 41) 40 rfl w.heap.size 21 i0 (.int .i32 0) 1 4 underlying40 hi i d f rfl e8P _ _ _ rfl (World.ownsRow_nil _ _ _ _) p L.length n (L.map (Value.int .i32)) rfl M7N B (fun u W=>w8O) T7W f6J f6J ?_);intro v9 q Y ab _;have x:Bw w q:=C.grown ab l (fun k G=>by simp[Value.ownBlock]at G);have T:x0j w L (.returned v9) q:=⟨v9,rfl,Ok.of o f6J Y M7N M7N,x⟩;exact U7I
def x3V(w:World)(b:Bool)(e:Ending)(w':World):Prop:=e=.returned (.bool b)/\∃m,w'=w.drewN m
theorem x6k(w:World):∃m,w=w.drewN m:=⟨0,rfl⟩
theorem x6l{w w':World}(h:∃m,w'=w.drewN m)(n:Nat):∃m,w'.drewN n=w.drewN m:=by
 obtain⟨m,rfl⟩:=h;exact⟨m+n,by rw[World.drewN_drewN]⟩
theorem x0k{w w':World}(h:∃m,w'=w.drewN m):Bw w w':=by
 obtain⟨m,rfl⟩:=h;exact below_drewN (b0r) m
theorem ints_at{K:IntKind}{zs:List Int}{i:Nat}(h:i<zs.length):(zs.map (Value.int K)).getD i undef=.int K (zs.getD i 0):=p8I
theorem x7D(v:Value)(rs:List Rec)(c:Int)(w:World)(N:Rcs w v rs)(I:-2147483648<=c/\c<=2147483647):Calls prog 122 #[v,.int .i32 c] w (x6c w (Cn.prim rs c)):=by
 have R:=O (x4U c w I);have i:=O (x2B v rs c w N I);have K:=O (x2A v rs 3 c w N w5p I);obtain⟨Y,c1⟩:=I;by_cases X:Cn.syl c=true
 ·have A:Cn.prim rs c=some ((Cn.opn rs c).getD 0 0,(Cn.opn rs c).getD 1 0):=(by unfold Cn.prim;rw[if_pos X]);have Z:(Cn.opn rs c).length=2:=(by unfold Cn.opn;rw[if_pos X];split<;>rfl);rw[A];rw[X]at R;obtain⟨ao,M,rfl,_,_⟩:=N.shape;generalize Cn.opn rs c=L at *;go_enter func122,ntmps122;go_wp2_with fail;refine c0m R fun Q H=>?_;subst Q;go_wp2_with fail;refine(V i).mono ?_;rintro e Q ⟨vx,rfl,y,C⟩;obtain⟨b,P,o,rfl,aq,ay,D⟩:=y.sk.2.place P8P;have ag:(L.map (Value.int .i32)).length=2:=(by simp[Z]);have m:=D 0 f6J;have t:=D 1 f6J;rw[ints_at f6J]at m t;rw[ag]at aq ⊢;rw[Nat.add_zero]at m;clear i y D ag;generalize L.getD 0 0=p,L.getD 1 0=q at *;have T:∀n,x6c w (some (p,q)) (.returned (.tuple #[.int .i32 p,.int .i32 q,.bool true])) (Q.drewN n):=fun n=>⟨rfl,x0b C (x0k ⟨n,rfl⟩)⟩;clear C;go_wp2;go_big_quiet (fail);go_wp2;go_ret3;exact T _
 ·have E:Cn.syl c=false:=R1Y;rw[E]at R;rcases hit_at N 3 c with⟨h1,Z⟩ | ⟨k,b,P,M,h1,ar,Z,rfl,S,hm,u,z⟩
  ·have A:Cn.prim rs c=none:=f5B;rw[A];rw[h1]at K;obtain⟨ao,M,rfl,_,_⟩:=N.shape;clear N h1 Z A X E i;go_enter func122,ntmps122;go_wp2_with fail;refine c0m R fun Q H=>?_;subst Q;clear R;go_wp2_with fail;refine c0m K fun Q C=>?_;have T:x6c w none (.returned (.tuple #[.int .i32 0,.int .i32 0,.bool false])) Q:=⟨rfl,C⟩;clear K C;go_wp2;go_ret3;exact T
  ·have A:Cn.prim rs c=if(rs.getD k Cn.none).kind=7/\(rs.getD k Cn.none).to.length=2 then some ((rs.getD k Cn.none).to.getD 0 0,(rs.getD k Cn.none).to.getD 1 0)else none:=f5B;rw[h1]at K;have g:=O u;have d:=N.1;have aj:=z.kind;obtain⟨az,aA⟩:=aj;have aw:=z.len;clear N h1 Z X E u z i;generalize rs.getD k Cn.none=r at *;have B:Hid (r.kind=7->r.to.length=2->Cn.prim rs c=some (r.to.getD 0 0,r.to.getD 1 0)):=fun a b=>(by rw[A,if_pos ⟨a,b⟩]);have j:Hid (¬(r.kind=7/\r.to.length=2)->Cn.prim rs c=none):=fun a=>(by rw[A,if_neg a]);clear A;generalize Cn.prim rs c=pr at *;go_enter func122,ntmps122;go_wp2_with fail;refine c0m R fun Q H=>?_;subst Q;clear R;go_wp2_with fail;refine c0m K fun Q C=>?_;have ab:=(V g).below C;obtain⟨vt,x4,U⟩:=ab.to;have x0:=ab.kind;clear K g ab;generalize r.to=L,r.kind=J at *;obtain⟨s,ai,rfl,am,F⟩:=U.shape;have HN:x6c w none (.returned (.tuple #[.int .i32 0,.int .i32 0,.bool false])) Q:=⟨rfl,C⟩;by_cases x:J=7
   ·subst x;by_cases f:L.length=2
    ·obtain rfl:=V B rfl f;clear B j;obtain⟨W,G,af,he,_,_,ae⟩:=U.place f6J;obtain⟨rfl,rfl⟩:s=some ⟨W,G,none⟩/\ai=af:=M2U;have m:=ae 0 f6J;have t:=ae 1 f6J;rw[Nat.add_zero]at m;rw[f]at x4 am;generalize L.getD 0 0=p,L.getD 1 0=q at *;have T:∀n,x6c w (some (p,q)) (.returned (.tuple #[.int .i32 p,.int .i32 q,.bool true])) (Q.drewN n):=fun n=>⟨rfl,x0b C (x0k ⟨n,rfl⟩)⟩;clear C ae he U HN f;go_wp2;go_big_quiet (fail);go_wp2;go_ret3;exact T _
    ·obtain rfl:=V j (fun h=>f h.2);clear B j;have l:((L.length:Int) != 2)=true:=P8P;clear U C;go_wp2;go_ret3;exact HN
   ·obtain rfl:=V j (fun h=>x h.1);clear B j;have q7:(J != 7)=true:=v5I;clear U C;go_wp2;go_ret3;exact HN
theorem z2x(v u:Value)(zs:List Int)(w:World)(N:Sk .i32 w v zs)(W:Sk .i32 w u zs)(S:zs.length<=1000000000):Calls prog 39 #[v,u] w (x3V w true):=by
 rcases Nat.eq_zero_or_pos zs.length with h0 | h0
 ·obtain⟨s,M,rfl,_,_⟩:=N.shape;obtain⟨A,J,rfl,_,_⟩:=W.shape;rw[h0];go_enter func39,ntmps39;go_wp2;refine wp_loop_rounds 1 ?_;rw[rounds_succ];go_wp2;go_ret;exact⟨rfl,x6k w⟩
 ·obtain⟨b,P,M,rfl,f,Q,I⟩:=N.place h0;obtain⟨X,U,J,rfl,a,d,j⟩:=W.place h0
  have Y:Hid (∀wr,Bw w wr->∀i,i<zs.length->wr.cell? ⟨b,P+i,none⟩=some (.int .i32 (zs.getD i 0))/\wr.cell? ⟨X,U+i,none⟩=some (.int .i32 (zs.getD i 0))):=by
   intro wr C i hi;have F:=I i hi;have y:=j i hi;exact⟨e3O,by rw[C.cell (x0a y)];exact y⟩
  have B:((zs.length:Int) != (zs.length:Int))=false:=M7L;go_enter func39,ntmps39;go_wp2;go_loopw[5] (fun i wr=>∃k:Nat,i=.int .i64 k/\k<=zs.length/\∃m,wr=w.drewN m) (fun i _=>zs.length-(intOf i).toNat)
  case atStart=>exact⟨0,rfl,f6J,x6k w⟩
  case round =>
   obtain⟨k,rfl,G,E⟩:=hrel;by_cases H:k<zs.length
   ·obtain⟨F,y⟩:=V Y _ (x0k E) k H;generalize zs.getD k 0=t at *;have K:(t != t)=false:=M7L;go_wp2;go_big_quiet (fail);go_wp2
    go_roundw
    case rel=>exact⟨k+1,g2A,f6J,x6l E _⟩
    case measure=>exact g7V
   ·clear Y;go_wp2;go_ret;exact⟨rfl,E⟩
theorem Tryz.info67:(prog.info? 67).map (fun i=>(i.zero,i.size,i.bytes))=some (some (.agg #[.int .i64 0,.int .i64 0,.int .i64 0,.int .i64 0,.slice none 0 0,.string ⟨#[]⟩,.string ⟨#[]⟩,.float .f64 0]),8,96):=f4x
def x0y(p:Rec×Value):List Value:=[.int .i64 p.1.kind,.int .i64 p.1.lo,.int .i64 p.1.hi,.int .i64 p.1.n,p.2,.string p.1.name,.string p.1.other,.float .f64 p.1.wt]
def rcells(ps:List (Rec×Value)):List Value:=ps.flatMap x0y
theorem x1k(ps:List (Rec×Value)):(rcells ps).length=ps.length*8:=by
 induction ps with
 | nil=>rfl
 | cons p ps ih =>
  rw[rcells,List.flatMap_cons,List.length_append]at *;rw[ih];simp[x0y];omega
theorem x3N(ps:List (Rec×Value))(p:Rec×Value):rcells ps++x0y p=rcells (ps++[p]):=by
 rw[rcells,rcells,List.flatMap_append];simp
theorem x1v:∀(ps:List (Rec×Value)) (i j:Nat),i<ps.length->j<8->(rcells ps)[i*8+j]?=(x0y (ps.getD i (Cn.none,undef)))[j]?
 | [],i,j,h,_=>by simp at h
 | p::ps,0,j,_,hj=>by
  rw[rcells,List.flatMap_cons,List.getElem?_append_left N6g];simp
 | p::ps,i+1,j,h,hj=>by
  have B:=x1v ps i j S4r hj;rw[rcells,List.flatMap_cons,List.getElem?_append_right N6g];have e:(i+1)*8+j-(x0y p).length=i*8+j:=N6g;rw[e];exact B
def Rown(w:World)(B:Nat)(v:Value)(ps:List (Rec×Value)):Prop:=w.ownsRow B 67 8 v ps.length (rcells ps)/\∀p∈ps,Ok .i32 21 w B p.2 p.1.to
theorem Rown.rcs{w:World}{B:Nat}{v:Value}{ps:List (Rec×Value)}(h:Rown w B v ps)(S:ps.length<=1000000000)(z:∀p∈ps,RecFit p.1):Rcs w v (ps.map (·.1)):=by
 refine⟨t2Y,fun r C=>?_,?_⟩
 ·grind
 ·have R:=h.1;rcases h.1.2 with⟨N,T⟩ | ⟨g,M,P,N,Y,t,E,m,A,s⟩
  ·grind
  ·refine .inr ⟨g,0,M,by rw[N,List.length_map],by simpa using E,M7M,fun i hi=>?_⟩;rw[List.length_map]at hi;have U:ps.getD i (Cn.none,undef)∈ps:=(by grind);have n:(ps.map (·.1)).getD i Cn.none=(ps.getD i (Cn.none,undef)).1:=by grind
   have I:∀j u,j<8->(x0y (ps.getD i (Cn.none,undef)))[j]?=some u->w.cell? ⟨g,0+i*8+j,none⟩=some u:=by
    intro j u K W;have e:=R.cells (g:=g) U5P (i*8+j) u (by rw[x1v ps i j hi K];exact W);rw[addr_add]at e;rw[(f6J:0+i*8+j=0+(i*8+j))];exact e
   rw[n];exact⟨I 0 _ f6J rfl,I 1 _ f6J rfl,I 2 _ f6J rfl,I 3 _ f6J rfl,⟨_,I 4 _ f6J rfl,(h.2 _ U).sk⟩,I 5 _ f6J rfl,I 6 _ f6J rfl,I 7 _ f6J rfl⟩
theorem x0u{w w':World}{B e K n:Nat}{v:Value}{us:List Value}(h:w.ownsRow B e K v n us)(G:∀g,v.ownBlock=some g->w'.heap[g]?=w.heap[g]?):w'.ownsRow B e K v n us:=by
 obtain⟨D,Z⟩:=h;refine⟨D,?_⟩;rcases Z with Z | ⟨g,M,P,N,C,Y,rest⟩
 ·exact .inl Z
 ·exact .inr ⟨g,M,P,N,C,(G g U5P).trans Y,rest⟩
theorem Ok.keep{w w':World}{K:IntKind}{e:TypeId}{B:Nat}{v:Value}{zs:List Int}(h:Ok K e w B v zs)(G:∀g,v.ownBlock=some g->w'.heap[g]?=w.heap[g]?):Ok K e w' B v zs:=⟨h.1,h.2.1,x0u h.2.2 G⟩
theorem x0M{w:World}{B E e S K A n N:Nat}{v v':Value}{us H:List Value}(h:w.ownsRow B e K v n us)(D:w.ownsRow E S A v' N H)(F:e≠S){g:Nat}(Y:v.ownBlock=some g):v'.ownBlock≠some g:=by
 intro Q;rcases h.2 with⟨rfl,_⟩ | ⟨k,M,P,rfl,_,t,_⟩
 ·cases Y
 ·rcases D.2 with⟨rfl,_⟩ | ⟨C,J,o,rfl,_,G,_⟩
  ·cases Q
  ·simp[Value.ownBlock]at Y Q;subst Y;subst Q;rw[t]at G;simp at G;exact F G.2
theorem x0f{w:World}{g j:Nat}{P:Array Value}{e:TypeId}(h:w.heap[g]?=some (.cells P e (0,0)))(v:Value):(w.setCell ⟨g,j,none⟩ v).heap[g]?=some (.cells (P.setIfInBounds j v) e (0,0)):=by
 rw[setCell_eq_setRow w g j P e (0,0) v h];exact setRow_heap w g P _ e _ h
theorem cell_of{w:World}{g j:Nat}{P:Array Value}{e:TypeId}(h:w.heap[g]?=some (.cells P e (0,0)))(K:j<P.size):w.cell? ⟨g,j,none⟩=some (P.getD j undef):=by
 simp[World.cell?,h,K]
theorem x0e{w:World}{g j:Nat}{P:Array Value}{e:TypeId}(h:w.heap[g]?=some (.cells P e (0,0))):w.frozen? ⟨g,j,none⟩=false:=by
 simp[World.frozen?,h]
def x6d(w:World)(rs:List Rec)(e:Ending)(w':World):Prop:=∃v ps,e=.returned v/\ps.map (·.1)=rs/\Rown w' w.heap.size v ps/\Below w.heap.size w w'
def rarr(r:Rec)(vt:Value):Array Value:=#[.int .i64 r.kind,.int .i64 r.lo,.int .i64 r.hi,.int .i64 r.n,vt,.string r.name,.string r.other,.float .f64 r.wt]
theorem z5T(W:World)(r:Rec)(vt:Value):∀j u,(x0y (r,vt))[j]?=some u->(W.alloc (.cells (rarr r vt) 67)).cell? ((⟨W.heap.size,0,none⟩:Addr).add j)=some u:=by
 intro j u K
 have H:j<8:=by
  rcases Nat.lt_or_ge j 8 with h | h
  ·exact h
  ·rw[List.getElem?_eq_none N6g]at K;cases K
 rw[addr_add,Nat.zero_add];have e:(rarr r vt).toList=x0y (r,vt):=rfl;simp only[World.cell?,World.alloc];simp;rw[<- Array.getElem?_toList,e];exact K
theorem x5U(W:World)(n:Nat)(E:W.heap.size=n)(r:Rec)(vt:Value):∀j u,(x0y (r,vt))[j]?=some u->(W.alloc (.cells #[.int .i64 r.kind,.int .i64 r.lo,.int .i64 r.hi,.int .i64 r.n,vt,.string r.name,.string r.other,.float .f64 r.wt] 67)).cell? ((⟨n,0,none⟩:Addr).add j)=some u:=by
 subst E;exact z5T W r vt
theorem x6Q(r:Rec){vt:Value}(h:vt.oneCell'=true):∀u∈x0y (r,vt),u.oneCell'=true:=by
 intro u W;simp only[x0y,List.mem_cons,List.mem_nil_iff,or_false]at W
 rcases W with rfl | rfl | rfl | rfl | rfl | rfl | rfl | rfl<;>first| rfl | exact h
theorem x0g{w:World}{g j k:Nat}(v:Value)(h:k≠g):(w.setCell ⟨g,j,none⟩ v).heap[k]?=w.heap[k]?:=Below.heap_setCell _ _ _ _ (fun e=>h e)
theorem x0d{B:Nat}{a w:World}(h:Below B a w){g j:Nat}(Y:B<=g)(v:Value):Below B a (w.setCell ⟨g,j,none⟩ v):=by
 refine h.trans ⟨?_,?_,?_,?_,fun k G=>x0g v f6J⟩
 all_goals first| rfl|(unfold World.setCell;split<;>first| rfl | simp)
theorem x1a(w:World)(g j:Nat)(v:Value):(w.setCell ⟨g,j,none⟩ v).heap.size=w.heap.size:=f0h
theorem y1J{w wr q J:World}{K X E:Value}{ps:List (Rec×Value)}{r:Rec}{vt:Value}{o:Obj}(s:Rown wr w.heap.size K ps)(A:Bw w wr)
  (x:Ok .i32 21 q w.heap.size X r.to) (R:(wr.alloc (.cells (rarr r vt) 67)).grownBy q (Value.slice none 0 0).ownBlock)
  (a:J.ownsRow w.heap.size 67 8 E (ps.length+1) (rcells ps++x0y (r,X))) (F:((q.setCell ⟨wr.heap.size,4,none⟩ X).alloc o).grownBy J K.ownBlock) :
  Rown J w.heap.size E (ps++[(r,X)])/\Bw w J:=by
 have l:=A.size;have B:(wr.alloc (.cells (rarr r vt) 67)).heap.size<=q.heap.size:=R.size;have T:wr.heap.size+1<=q.heap.size:=m0d;have S:∀g,g<wr.heap.size+1->q.heap[g]?=(wr.alloc (.cells (rarr r vt) 67)).heap[g]?:=fun g Y=>R.block g (by simpa using Y) (by simp[Value.ownBlock]);have L:∀g,g<wr.heap.size->(wr.alloc (.cells (rarr r vt) 67)).heap[g]?=wr.heap[g]?:=fun g Y=>((Below.refl wr.heap.size wr).alloc (l0r _) _).block g Y
 have C:q.heap[wr.heap.size]?=some (.cells (rarr r vt) 67 (0,0)):=by
  rw[S _ f6J];exact s6Q
 have I:q.ownsRow w.heap.size 67 8 K ps.length (rcells ps):=x0u s.1 (fun g h=>by rw[S g (by have:=(s.1.lt g h).2;exact f6J),L g (s.1.lt g h).2])
 have Q:∀g,g<q.heap.size->g≠wr.heap.size->K.ownBlock≠some g->J.heap[g]?=q.heap[g]?:=fun g Y D Z=>by
  have U:=F.block g P8P (fun e=>Z e.symm);rw[U];have f:((q.setCell ⟨wr.heap.size,4,none⟩ X).alloc o).heap[g]?=(q.setCell ⟨wr.heap.size,4,none⟩ X).heap[g]?:=((b0r).alloc (l0r _) _).block g (by rw[x1a];exact Y);rw[f,x0g X D]
 refine⟨⟨?_,fun p hp=>?_⟩,?_⟩
 ·rw[x3N]at a;simpa using a
 ·rcases List.mem_append.1 hp with hp | hp
  ·have i:=s.2 p hp;refine i.keep fun g h=>?_;have H:=(i.2.2.lt g h).2;rw[Q g f6J f6J (x0M i.2.2 s.1 e8P h),S g f6J,L g H]
  ·simp only[List.mem_singleton]at hp;subst hp;refine x.keep fun g h=>?_;have H:=(x.2.2.lt g h).2;refine Q g H (fun e=>?_) (x0M x.2.2 I e8P h);rcases x.2.2.2 with⟨N,_⟩ | ⟨c,M,P,N,_,t,_⟩
   ·rw[N]at h;cases h
   ·rw[N]at h;simp[Value.ownBlock]at h;rw[h,e,C]at t;simp at t
 ·have b1:Bw w q:=(A.alloc l _).grown R P8P (fun k G=>by simp[Value.ownBlock]at G);have m:=x0d b1 (g:=wr.heap.size) (j:=4) l X;exact(m.alloc (by rw[x1a];exact f6J) o).grown F P8P (fun k G=>(s.1.lt k G).1)
theorem y4A{w wr J:World}{K E:Value}{ps:List (Rec×Value)}{r:Rec}{U o:Obj}(s:Rown wr w.heap.size K ps)(A:Bw w wr)(P:r.to=[])
  (a:J.ownsRow w.heap.size 67 8 E (ps.length+1) (rcells ps++x0y (r,.slice none 0 0))) (F:((wr.alloc U).alloc o).grownBy J K.ownBlock) :
  Rown J w.heap.size E (ps++[(r,.slice none 0 0)])/\Bw w J:=by
 have l:=A.size;refine⟨⟨?_,fun p hp=>?_⟩,?_⟩
 ·rw[x3N]at a;simpa using a
 ·rcases List.mem_append.1 hp with hp | hp
  ·have i:=s.2 p hp;refine i.keep fun g h=>?_;have H:=(i.2.2.lt g h).2;rw[F.block g P8P (fun e=>x0M i.2.2 s.1 e8P h e.symm)];exact(((Below.refl wr.heap.size wr).alloc (l0r _) U).alloc M7N o).block g H
  ·simp only[List.mem_singleton]at hp;subst hp;show Ok .i32 21 J w.heap.size (.slice none 0 0) r.to;rw[P];exact n7g
 ·exact((A.alloc l _).alloc P8P o).grown F P8P (fun k G=>(s.1.lt k G).1)
theorem x4n(v:Value)(rs:List Rec)(w:World)(N:Rcs w v rs):Calls prog 22 #[v] w (x6d w rs):=by
 obtain⟨i0,hi,aD,aF,f⟩:=info_parts Tryz.info21;obtain⟨i1,hj,az,aA,aB⟩:=info_parts Tryz.info67;have aG:=N.1;have ai:=O (fun i hi=>N.fit (i:=i) hi);rcases Nat.eq_zero_or_pos rs.length with n0 | n0
 ·obtain⟨ao,M,rfl,_,_⟩:=N.shape;obtain rfl:rs=[]:=List.eq_nil_of_length_eq_zero n0;have T:x6d w [] (.returned (.slice none 0 0)) w:=⟨_,[],rfl,rfl,⟨World.ownsRow_nil _ _ _ _,fun _ h=>(by cases h)⟩,b0r⟩;go_enter func22,ntmps22;exact r0V
 ·obtain⟨b,P,M,rfl,aH,aI,ab⟩:=N.place n0;have HC:Hid (∀i,i<rs.length->∀W,Bw w W->RecAt W b (P+i*8) (rs.getD i Cn.none)):=fun i hi W hb=>(ab i hi).below hb
  have K:Hid (∀k,k<rs.length->rs.take (k+1)=rs.take k++[rs.getD k Cn.none]):=fun k hk=>by
   rw[List.take_add_one];exact E8V
  go_enter func22,ntmps22;go_wp2;go_loopw[3,4,5,6] (fun mv iv _ _ wr=>∃(k:Nat) (x:List (Rec×Value)),iv=.int .i64 k/\k<=rs.length/\x.map (·.1)=rs.take k/\x.length=k/\Rown wr w.heap.size mv x/\Bw w wr) (fun _ iv _ _ _=>rs.length-(intOf iv).toNat)
  case atStart=>exact⟨0,[],rfl,f6J,by simp,rfl,⟨World.ownsRow_nil _ _ _ _,fun _ h=>(by cases h)⟩,b0r⟩
  case round =>
   obtain⟨k,x,rfl,hk,ag,y,s,A⟩:=hrel;by_cases H:k<rs.length
   ·have ar:=V HC k H wr A;have aj:=V ai k H;have S:=V K k H;rw[<- ag]at S;have aJ:=aj.len;have B:=O S;generalize rs.getD k Cn.none=r at *;obtain⟨x0,x1,x2,x3,⟨vt,x4,U⟩,x5,x6,x7⟩:=ar;have hB:=A.size;have aw:=U.1;rcases U.2.src with⟨aq,rfl⟩ | ⟨ad,L,rfl,ay⟩
    ·obtain I:r.to=[]:=by simpa using aq
     have hX:∀o,(wr.alloc o).cell? ⟨b,P+k*8+4,none⟩=some (.slice none 0 0):=fun o=>U5u
     have l:∀W a m,(store a (.float .f64 r.wt) m).run prog W=stored prog W a (.float .f64 r.wt) m:=fun W a m=>run_store prog W a _ m rfl;have hM:∀o o2,((wr.alloc o).alloc o2).ownsRow w.heap.size 67 8 u3 x.length (rcells x):=fun o o2=>(s.1.alloc o).alloc o2;have HM:=O hM;have d:Hid (∀o E J,World.ownsRow J w.heap.size 67 8 E (x.length+1) (rcells x++x0y (r,.slice none 0 0))->((wr.alloc (.cells #[.int .i64 r.kind,.int .i64 r.lo,.int .i64 r.hi,.int .i64 r.n,.slice none 0 0,.string r.name,.string r.other,.float .f64 r.wt] 67)).alloc o).grownBy J u3.ownBlock->Rown J w.heap.size E (x++[(r,.slice none 0 0)])/\Bw w J):=fun o E J a b=>y4A s A I a b;have t:=O (x5U (wr.alloc (.cells #[.int .i64 r.kind,.int .i64 r.lo,.int .i64 r.hi,.int .i64 r.n,.slice none 0 0,.string r.name,.string r.other,.float .f64 r.wt] 67)) (wr.heap.size+1) (by simp) r (.slice none 0 0));have p:=O (x6Q r (vt:=.slice none 0 0) rfl);go_wp2_with(first| (at_builtin;refine wpList_append_own_none rfl (.tmp 17) (.tmp 22) 40 rfl w.heap.size 21 i0 1 underlying40 hi _ _ _ rfl (World.ownsRow_nil _ _ _ _) rfl ?_)|(at_builtin;refine wpList_append_own _ rfl (.tmp 25) (.tmp 27) 23 rfl w.heap.size 67 i1 (.agg #[.int .i64 0,.int .i64 0,.int .i64 0,.int .i64 0,.slice none 0 0,.string ⟨#[]⟩,.string ⟨#[]⟩,.float .f64 0]) 8 96 underlying23 hj az aA aB rfl e8X _ _ _ rfl (V HM _ _) ⟨wr.heap.size+1,0,none⟩ 1 1 (x0y (r,.slice none 0 0)) rfl rfl (V t) (V p) T7X f6J P8P ?_));intro E J Z F _;obtain⟨hR,af⟩:=V d _ E J (by rw[y];exact Z) F;have HR:=O hR;go_wp2
     go_roundw
     case rel=>exact⟨k+1,x++[(r,.slice none 0 0)],g2D,f6J,by rw[V B];simp,by simp[y],V HR,af⟩
     case measure=>exact g7V
    ·have c:(r.to.map (Value.int .i32)).length=r.to.length:=List.length_map _;rw[c]at x4
     have hX:∀o,(wr.alloc o).cell? ⟨b,P+k*8+4,none⟩=some (.slice (some ad) r.to.length L):=fun o=>U5u
     have hS:∀o,∀j u,(r.to.map (Value.int .i32))[j]?=some u->(wr.alloc o).cell? (ad.add j)=some u:=fun o j u hu=>by
      have h:=ay j u hu;rw[Below.cell ((Below.refl wr.heap.size wr).alloc (l0r _) o) (World.block_lt_of_cell? _ _ h)];exact h
     have HS:=O hS;have l:∀W a m,(store a (.float .f64 r.wt) m).run prog W=stored prog W a (.float .f64 r.wt) m:=fun W a m=>run_store prog W a _ m rfl;go_wp2_with(at_builtin;refine wpList_append_own _ rfl (.tmp 17) (.tmp 22) 40 rfl w.heap.size 21 i0 (.int .i32 0) 1 4 underlying40 hi aD aF f rfl e8X _ _ _ rfl (World.ownsRow_nil _ _ _ _) ad r.to.length L (r.to.map (Value.int .i32)) rfl (by simp) (V HS _) (fun u hu=>P0M) T7X f6J P8P ?_);intro v9 q Y R _;have ae:Ok .i32 21 q w.heap.size v9 r.to:=Ok.of aw f6J Y (by simp) (by simp)
     have C:q.heap[wr.heap.size]?=some (.cells (rarr r (.slice (some ad) r.to.length L)) 67 (0,0)):=by
      rw[R.block _ (by simp) V3M];show(wr.heap.push _)[wr.heap.size]?=_;simp[rarr]
     have s9:wr.heap.size+1<=q.heap.size:=(by simpa using R.size);obtain⟨D,G,aC,_,_⟩:=ae.sk.shape;subst aC
     have hM:∀o,((q.setCell ⟨wr.heap.size,4,none⟩ (.slice D r.to.length G)).alloc o).ownsRow w.heap.size 67 8 u3 x.length (rcells x):=fun o=>by
      refine World.ownsRow.alloc (x0u s.1 fun g h=>?_) o;have am:=(s.1.lt g h).2;rw[x0g _ f6J,R.block g P8P V3M];exact((Below.refl wr.heap.size wr).alloc (l0r _) _).block g am
     have HM:=O hM;have d:Hid (∀o E J,World.ownsRow J w.heap.size 67 8 E (x.length+1) (rcells x++x0y (r,.slice D r.to.length G))->((q.setCell ⟨wr.heap.size,4,none⟩ (.slice D r.to.length G)).alloc o).grownBy J u3.ownBlock->Rown J w.heap.size E (x++[(r,.slice D r.to.length G)])/\Bw w J):=fun o E J a b=>y1J s A ae R a b;have y0:=cell_of (j:=0) C f1Y;have y1:=cell_of (j:=1) C f1Y;have y2:=cell_of (j:=2) C f1Y;have y3:=cell_of (j:=3) C f1Y;have y4:=cell_of (j:=4) C f1Y;have y5:=cell_of (j:=5) C f1Y;have y6:=cell_of (j:=6) C f1Y;have y7:=cell_of (j:=7) C f1Y;have yf:=x0e (j:=4) C;have z0:q.cell? ⟨wr.heap.size,0,none⟩=some (.int .i64 r.kind):=y0;have z1:q.cell? ⟨wr.heap.size,1,none⟩=some (.int .i64 r.lo):=y1;have z2:q.cell? ⟨wr.heap.size,2,none⟩=some (.int .i64 r.hi):=y2;have z3:q.cell? ⟨wr.heap.size,3,none⟩=some (.int .i64 r.n):=y3;have z4:q.cell? ⟨wr.heap.size,4,none⟩=some (.slice (some ad) r.to.length L):=y4;have z5:q.cell? ⟨wr.heap.size,5,none⟩=some (.string r.name):=y5;have z6:q.cell? ⟨wr.heap.size,6,none⟩=some (.string r.other):=y6;have z7:q.cell? ⟨wr.heap.size,7,none⟩=some (.float .f64 r.wt):=y7;have X:=x5U (q.setCell ⟨wr.heap.size,4,none⟩ (.slice D r.to.length G)) q.heap.size (x1a _ _ _ _) r (.slice D r.to.length G);have Q:=x6Q r (vt:=.slice D r.to.length G) rfl;have t:=O X;have p:=O Q;go_wp2_with(at_builtin;refine wpList_append_own _ rfl (.tmp 25) (.tmp 27) 23 rfl w.heap.size 67 i1 (.agg #[.int .i64 0,.int .i64 0,.int .i64 0,.int .i64 0,.slice none 0 0,.string ⟨#[]⟩,.string ⟨#[]⟩,.float .f64 0]) 8 96 underlying23 hj az aA aB rfl e8X _ _ _ rfl (V HM _) ⟨q.heap.size,0,none⟩ 1 1 (x0y (r,.slice D r.to.length G)) rfl rfl (V t) (V p) T7X f6J P8P ?_);intro E J Z F _;obtain⟨hR,af⟩:=V d _ E J (by rw[y];exact Z) F;have HR:=O hR;go_wp2
     go_roundw
     case rel=>exact⟨k+1,x++[(r,.slice D r.to.length G)],g2D,f6J,by rw[V B];simp,by simp[y],V HR,af⟩
     case measure=>exact g7V
   ·obtain rfl:k=rs.length:=f6J;rw[List.take_length]at ag;have T:x6d w rs (.returned u3) wr:=⟨u3,x,rfl,ag,s,A⟩;exact U7I
theorem z2v(b:Nat)(w:World):(callFunc 141 #[.float .f64 b]).run prog w=.ok (.value (.int .u64 b)) w:=by
 rw[run_callFunc_extern (e:=Extern.MathFloatBits.float64bits) func141 f4x f4x f4x f4x];rfl
theorem x3l(b:Nat)(w:World):Calls prog 90 #[.float .f64 b] w fun e w'=>e=.returned (.int .u64 b)/\w'=w:=by
 have h:=fun w=>z2v b w;go_enter func90,ntmps90;go_wp2;go_ret;exact⟨rfl,rfl⟩
theorem y3O(t:ByteArray):(t.toList==t.toList)=true:=beq_self_eq_true _
theorem x4Y{w:World}{v:Value}{zs:List Int}(h:Sk .i32 w v zs)(n:Nat):Sk .i32 (w.drewN n) v zs:=h.below (x0k ⟨n,rfl⟩)
theorem x9D(r:Rec)(y G:Value)(w:World)(L:Sk .i32 w y r.to)(C:Sk .i32 w G r.to)(S:r.to.length<=1000000000):Calls prog 47 #[recV r y,recV r G] w (x0c w true):=by
 have B:=O (fun w=>x3l r.wt w)
 have H:Hid (∀U N n,Calls prog 39 #[y,G] (((w.alloc U).alloc N).drewN n) (x3V (((w.alloc U).alloc N).drewN n) true)):=fun U N n=>by
  have D:Bw w ((w.alloc U).alloc N):=((b0r).alloc (l0r _) _).alloc M7N _;exact z2x y G r.to _ (x4Y (L.below D) n) (x4Y (C.below D) n) S
 obtain⟨s,ca,rfl,_,_⟩:=L.shape;obtain⟨o,Y,rfl,_,_⟩:=C.shape;unfold recV;have P:=y3O r.name;have l:=y3O r.other;generalize r.kind=kd,r.n=n,r.lo=lo,r.hi=hi at *;generalize r.name=nm,r.other=ot,r.wt=X,r.to.length=f at *;have c:(kd==kd)=true:=beq_self_eq_true _;have F:(lo==lo)=true:=beq_self_eq_true _;have u:(hi==hi)=true:=beq_self_eq_true _;have R:(n==n)=true:=beq_self_eq_true _;have Q:((X:Int)==(X:Int))=true:=beq_self_eq_true _;go_enter func47,ntmps47;go_wp2;go_big_quiet (first| exact Calls.quiet_of (V H _ _ _) | exact Calls.quiet_of_same (V B _));go_wp2;go_ret;exact⟨rfl,(((b0r).alloc (l0r _) _).alloc M7N _).trans ((x0k ⟨_,rfl⟩).mono P8P)⟩
theorem y2B(v u:Value)(rs:List Rec)(w:World)(N:Rcs w v rs)(hu:Rcs w u rs):Calls prog 25 #[v,u] w (x0c w true):=by
 have af:=N.1;rcases Nat.eq_zero_or_pos rs.length with h0 | h0
 ·obtain⟨s,M,rfl,_,_⟩:=N.shape;obtain⟨ag,J,rfl,_,_⟩:=hu.shape;rw[h0];go_enter func25,ntmps25;go_wp2;refine wp_loop_rounds 1 ?_;rw[rounds_succ];exact T8v
 ·have a:=O (fun i hi=>N.fit (i:=i) hi);obtain⟨b,ab,M,rfl,f,Q,I⟩:=N.place h0;obtain⟨X,U,J,rfl,ae,d,j⟩:=hu.place h0;have Y:Hid (∀i,i<rs.length->∀W,Bw w W->RecAt W b (ab+i*8) (rs.getD i Cn.none)/\RecAt W X (U+i*8) (rs.getD i Cn.none)):=fun i hi W C=>⟨(I i hi).below C,(j i hi).below C⟩;have B:((rs.length:Int) != (rs.length:Int))=false:=M7L;go_enter func25,ntmps25;go_wp2;go_loopw[5] (fun i wr=>∃k:Nat,i=.int .i64 k/\k<=rs.length/\Bw w wr) (fun i _=>rs.length-(intOf i).toNat)
  case atStart=>exact⟨0,rfl,f6J,b0r⟩
  case round =>
   obtain⟨k,rfl,hk,A⟩:=hrel;by_cases H:k<rs.length
   ·obtain⟨hA,l⟩:=V Y k H wr A;have z:=V a k H;have P:=z.len;generalize rs.getD k Cn.none=r at *;obtain⟨x,x1,p,R,⟨y,F,c⟩,x5,g,K⟩:=hA;obtain⟨m,t,q,y3,⟨G,y4,T⟩,L,y6,y7⟩:=l;have KR:Hid (∀n,Calls prog 47 #[recV r y,recV r G] (wr.drewN n) (x0c (wr.drewN n) true)):=fun n=>x9D r y G _ (x4Y c n) (x4Y T n) P;unfold recV at KR;obtain⟨s,ca,rfl,_,_⟩:=c.shape;obtain⟨o,cb,rfl,_,_⟩:=T.shape;generalize r.n=n,r.lo=lo at *;generalize r.hi=hi,r.name=Z at *;generalize r.other=ot,r.wt=wt,r.to.length=tl at *;go_wp2;go_region_with (refine(V KR _).mono ?_;rintro e w1 ⟨rfl,E⟩)
    all_goals
     have D:Bw w w1:=A.trans (Below.mono (x0b (x0k ⟨_,rfl⟩) E) A.size);go_wp2
     go_roundw
     case rel=>exact⟨k+1,g2A,f6J,D⟩
     case measure=>exact g7V
   ·clear Y a;go_wp2;go_ret;exact⟨rfl,A⟩
