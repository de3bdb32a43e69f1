/- Lemmas. -/
import Derived.Test.YtkfcabdmkmljjaaGreatDoorH0
import Derived.Deep.QuietTactic
import Derived.BigQuiet
import Derived.Deep.RegionWith
set_option maxHeartbeats 8000000
set_option maxRecDepth 8000
namespace Go.Proofs.YtkfcabdmkmljjaaGreatDoor
open Go.Proofs.Tryz
section
variable{p:Prop}
theorem t6u(h:p:=by go_wp2;go_ret;exact⟨rfl,rfl⟩):p:=h
theorem w7Y(h:p:=by simp[List.getD,G]):p:=h
theorem p8I(h:p:=by simp[List.getD,h]):p:=h
theorem U6w(h:p:=by go_enter func128,ntmps128;go_wp2_with fail;refine c1m (V K _) fun Q Y=>?_;obtain⟨f,S,p⟩:=V C Q (by simpa using Y);have U:x0g w false (.returned (.bool false)) Q:=⟨rfl,((b0r).alloc (l0r _) _).trans (Y.mono M7M)⟩;go_wp2;go_ret;exact U):p:=h
theorem t6v(h:p:=by go_wp2;go_ret;exact⟨rfl,rfl⟩):p:=h
theorem w5o(h:p:=by unfold I64;exact f6J):p:=h
theorem t8A(h:p:=by go_enter func127,ntmps127;go_wp2;go_ret;exact⟨rfl,(b0r).alloc (l0r _) _⟩):p:=h
theorem R7M(h:p:=by go_enter func84,ntmps84;exact t6u):p:=h
theorem g2A(h:p:=by go_num):p:=h
theorem s9u(h:p:=by unfold IntKind.wrap;have Y:(2:Int)^IntKind.u64.bits=18446744073709551616:=e8N;rw[Y];simp[IntKind.signed];omega):p:=h
theorem R3F(h:p:=by have U:∀n,x6r w (some (p,q)) (.returned (.tuple #[.int .i32 p,.int .i32 q,.bool true])) (Q.drewN n):=fun n=>⟨rfl,bthen Y (x0i ⟨n,rfl⟩)⟩;clear Y g he f HN R;go_wp2;go_big_quiet (fail);go_wp2;go_ret3;exact U _):p:=h
theorem v1j(h:p:=by simp[x0A];exact f6J):p:=h
theorem N4U(h:p:=by unfold Cn.cls;rw[D]):p:=h
theorem T1e(h:p:=by go_enter func80,ntmps80;exact t6v):p:=h
theorem e8P(h:p:=by decide):p:=h
theorem m2I(h:p:=by go_wp2;go_ret;exact U):p:=h
theorem T8u(h:p:=by go_wp2;go_ret;exact⟨rfl,b0r⟩):p:=h
theorem w5q(h:p:=by unfold I64;exact f6J):p:=h
theorem G7n(h:p:=by split<;>omega):p:=h
theorem v4f(h:p:=by rw[Y.cell (x0a Z)];exact Z):p:=h
theorem e8Q(h:p:=by decide):p:=h
theorem R0p(h:p:=by show(w.heap.push _)[w.heap.size]?=_;simp):p:=h
theorem W3O(h:p:=by simpa using q):p:=h
theorem M2T(h:p:=by simpa using he):p:=h
theorem S2P(h:p:=by go_enter func132,ntmps132;go_wp2_with fail;refine c0m l fun Q T=>?_;subst Q;go_wp2;go_ret;exact U):p:=h
theorem T2e(h:p:=by obtain⟨B,M,rfl,_,_⟩:=N.shape;go_enter func89,ntmps89;go_wp2;go_ret;exact⟨rfl,b0r⟩):p:=h
theorem n7f(h:p:=by exact Ok.nil _ _ _ _):p:=h
theorem u9g(h:p:=by rw[d0f f6J];exact U6w):p:=h
theorem g2D(h:p:=by go_num):p:=h
theorem V2B(h:p:=by unfold Cn.prim;rw[if_neg L,D]):p:=h
theorem U9l(h:p:=by simpa using L):p:=h
theorem f1Y(h:p:=by show _<8;exact f6J):p:=h
theorem w8O(h:p:=by obtain⟨z,_,rfl⟩:=List.mem_map.1 W;rfl):p:=h
theorem F2e(h:p:=by go_wp2;go_ret3;exact HN):p:=h
theorem s6Q(h:p:=by show(wr.heap.push _)[wr.heap.size]?=_;simp):p:=h
theorem V3P(h:p:=by simp[Value.ownBlock]):p:=h
theorem P7U(h:p:=by unfold Cn.opn;rw[if_neg L,D]):p:=h
theorem m2N(h:p:=by go_wp2;go_ret;exact U):p:=h
theorem U5u(h:p:=by rw[Below.cell ((Below.refl wr.heap.size wr).alloc (l0r _) o) (x0a x4)];exact x4):p:=h
theorem P0M(h:p:=by obtain⟨z,_,rfl⟩:=List.mem_map.1 hu;rfl):p:=h
end
structure Rec where
 kind:Int
 lo:Int
 hi:Int
 n:Int
 to:List Int
 name:ByteArray
 other:ByteArray
 wt:Nat
namespace Cn
def none:Rec:=⟨0,0,0,0,[],⟨#[]⟩,⟨#[]⟩,0⟩
def fam(k:Int):Int :=
 if k<1\/15<k then 0 else if k<=5 then 1 else if k=6 then 2 else if k<=8 then 3 else k-5
def step(r:Rec):Int:=if r.kind=4 then max r.n 0 else 1
def speaks(r:Rec)(c:Int):Bool:=decide (r.kind≠15/\0<step r/\0<=c/\c<=1114111/\r.lo<=c/\c<=r.hi/\(c-r.lo)%step r=0)
def findA(f c:Int):Nat->List Rec->Int
 | _,[]=>-1
 | i,r::l=>if fam r.kind=f/\speaks r c=true then(i:Int)else findA f c (i+1) l
def find(l:List Rec)(f c:Int):Int:=if f=10\/f=0 then -1 else findA f c 0 l
def hit(l:List Rec)(f c:Int):Option Rec:=if find l f c<0 then Option.none else some (l.getD (find l f c).toNat none)
def cls(l:List Rec)(c:Int):Int:=match hit l 2 c with | some r=>r.n | Option.none=>0
def syl(c:Int):Bool:=decide (44032<=c/\c<=55203)
def opn(l:List Rec)(c:Int):List Int :=
 if syl c then(if(c-44032)%28=0 then[4352+(c-44032) / 588,4449+(c-44032) / 28%21]else[c-(c-44032)%28,4519+(c-44032)%28])
 else match hit l 3 c with | some r=>r.to | Option.none=>[]
def prim(l:List Rec)(c:Int):Option (Int×Int) :=
 if syl c then some ((opn l c).getD 0 0,(opn l c).getD 1 0)
 else match hit l 3 c with
  | some r=>if r.kind=7/\r.to.length=2 then some (r.to.getD 0 0,r.to.getD 1 0)else Option.none
  | Option.none=>Option.none
theorem x6D k:0<=fam k/\fam k<=10:=by
 unfold fam;split
 ·omega
 ·omega
theorem y5J{l:List Rec}{f c k}(G:k<l.length):findA f c k (l.drop k)=if fam (l.getD k none).kind=f/\speaks (l.getD k none) c=true then(k:Int)else findA f c (k+1) (l.drop (k+1)):=by
 rw[List.drop_eq_getElem_cons G,findA];exact w7Y
theorem findA_bound(f c:Int):∀(l:List Rec) (k:Nat),findA f c k l=-1\/((k:Int)<=findA f c k l/\findA f c k l<k+l.length)
 | [],_=>.inl rfl
 | r::l,k=>by
  rw[findA];split
  ·exact .inr ⟨f6J,P8P⟩
  ·rcases findA_bound f c l (k+1)with h | ⟨Z,D⟩
   ·exact .inl h
   ·exact .inr ⟨f6J,P8P⟩
theorem find_bound l f c:find l f c=-1\/(0<=find l f c/\find l f c<l.length):=by
 unfold find;split
 ·exact U3y
 ·rcases findA_bound f c l 0 with h | ⟨Z,D⟩
  ·exact .inl h
  ·exact .inr ⟨f6J,f6J⟩
end Cn
open Go.RowKit
def I64(n:Int):Prop:=-9223372036854775808<=n/\n<=9223372036854775807
structure RecFit(r:Rec):Prop where
 kind:I64 r.kind
 lo:I64 r.lo
 hi:I64 r.hi
 n:I64 r.n
 len:r.to.length<=1000000000
 wt:r.wt<18446744073709551616
structure RecAt(w:World)(b o:Nat)(r:Rec):Prop where
 kind:w.cell? ⟨b,o,none⟩=some (.int .i64 r.kind)
 lo:w.cell? ⟨b,o+1,none⟩=some (.int .i64 r.lo)
 hi:w.cell? ⟨b,o+2,none⟩=some (.int .i64 r.hi)
 n:w.cell? ⟨b,o+3,none⟩=some (.int .i64 r.n)
 to:∃v,w.cell? ⟨b,o+4,none⟩=some v/\Sk .i32 w v r.to
 name:w.cell? ⟨b,o+5,none⟩=some (.string r.name)
 other:w.cell? ⟨b,o+6,none⟩=some (.string r.other)
 wt:w.cell? ⟨b,o+7,none⟩=some (.float .f64 r.wt)
theorem RecAt.below{w w' b o r}(h:RecAt w b o r)(Y:Bw w w'):RecAt w' b o r:=by
 obtain⟨R,Z,D,J,⟨v,H,K⟩,y,x,n⟩:=h
 exact⟨by rw[Y.cell (x0a R)];exact R,v4f,by rw[Y.cell (x0a D)];exact D,by rw[Y.cell (x0a J)];exact J,
  ⟨v,by rw[Y.cell (x0a H)];exact H,K.below Y⟩,by rw[Y.cell (x0a y)];exact y,by rw[Y.cell (x0a x)];exact x,by rw[Y.cell (x0a n)];exact n⟩
def Rcs(w:World)(v:Value)(rs:List Rec):Prop:=rs.length<=1000000000/\(∀r∈rs,RecFit r) /\
 ((rs=[]/\∃ao cap,v=.slice ao 0 cap/\cap<=9223372036854775807) \/
  ∃b off cap,v=.slice (some ⟨b,off,none⟩) rs.length cap/\rs.length<=cap/\cap<=9223372036854775807/\∀i,i<rs.length->RecAt w b (off+i*8) (rs.getD i Cn.none))
theorem Rcs.below{w w' v rs}(h:Rcs w v rs)(Y:Bw w w'):Rcs w' v rs:=by
 obtain⟨Z,D,J⟩:=h;refine⟨Z,D,?_⟩;rcases J with J | ⟨b,P,M,N,S,o,I⟩
 ·exact .inl J
 ·exact .inr ⟨b,P,M,N,S,o,fun i hi=>(I i hi).below Y⟩
theorem Rcs.shape{w v rs}(h:Rcs w v rs):∃ao cap,v=.slice ao rs.length cap/\rs.length<=cap/\cap<=9223372036854775807:=by
 rcases h.2.2 with⟨rfl,ao,cap,N,o⟩ | ⟨b,P,cap,N,S,o,_⟩
 ·exact w2I
 ·exact r6l
theorem Rcs.place{w v rs}(h:Rcs w v rs)(t:0<rs.length):∃b off cap,v=.slice (some ⟨b,off,none⟩) rs.length cap/\rs.length<=cap/\cap<=9223372036854775807/\∀i,i<rs.length->RecAt w b (off+i*8) (rs.getD i Cn.none):=by
 rcases h.2.2 with⟨rfl,_⟩ | h
 ·simp at t
 ·exact h
theorem Rcs.fit{w v rs}(h:Rcs w v rs){i}(hi:i<rs.length):RecFit (rs.getD i Cn.none):=h.2.1 _ n7A
theorem Rcs.head{w ao len cap k rs}(h:Rcs w (.slice ao len cap) rs)(G:k<=len):Rcs w (.slice ao k cap) (rs.take k):=by
 obtain⟨Z,D,J⟩:=h;refine⟨P8P,fun r u=>D r (List.mem_of_mem_take u),?_⟩;rcases J with⟨rfl,Q,A,N,o⟩ | ⟨b,P,A,N,S,o,I⟩
 ·grind
 ·simp only[Value.slice.injEq]at N;obtain⟨rfl,rfl,rfl⟩:=N;have x:(rs.take k).length=k:=P8P;refine .inr ⟨b,P,cap,by rw[x],f6J,o,fun i hi=>?_⟩;rw[x]at hi;have:=I i f6J;rw[show(rs.take k).getD i Cn.none=rs.getD i Cn.none by simp[List.getD,List.getElem?_take_of_lt hi]];exact this
def recV(r:Rec)(vt:Value):Value:=.agg #[.int .i64 r.kind,.int .i64 r.lo,.int .i64 r.hi,.int .i64 r.n,vt,.string r.name,.string r.other,.float .f64 r.wt]
def IntB(w:World)(n:Int)(e:Ending)(w':World):Prop:=e=.returned (.int .i64 n)/\Below w.heap.size w w'
def x0g(w:World)(b:Bool)(e:Ending)(w':World):Prop:=e=.returned (.bool b)/\Below w.heap.size w w'
def z6y:Value:=.agg #[.int .i64 0,.int .i64 1,.int .i64 1,.int .i64 1,.int .i64 1,.int .i64 1,.int .i64 2,.int .i64 3,.int .i64 3,.int .i64 4,.int .i64 5,.int .i64 6,.int .i64 7,.int .i64 8,.int .i64 9,.int .i64 10]
theorem z6z k(R:1<=k)(Z:k<=15) w:(Instr.index 216 z6y (.int .i64 k)).run prog w=.ok (.int .i64 (Cn.fam k)) w:=by
 have h:k=1\/k=2\/k=3\/k=4\/k=5\/k=6\/k=7\/k=8\/k=9\/k=10\/k=11\/k=12\/k=13\/k=14\/k=15:=f6J
 rcases h with rfl | rfl | rfl | rfl | rfl | rfl | rfl | rfl | rfl | rfl | rfl | rfl | rfl | rfl | rfl<;>
  (simp[z6y,Instr.index,run_underlying underlying216,asIntOf,go_sem,Tryz.sizeOf3,Tryz.isAgg3,Cn.fam])
theorem x0j k w(G:I64 k):Calls prog 80 #[.int .i64 k] w fun e w'=>e=.returned (.int .i64 (Cn.fam k))/\w'=w:=by
 obtain⟨x,M⟩:=G;by_cases d:k<1
 ·have z:Cn.fam k=0:=(by unfold Cn.fam;rw[if_pos (.inl d)]);rw[z];exact T1e
 ·by_cases P:15<k
  ·have z:Cn.fam k=0:=(by unfold Cn.fam;rw[if_pos (.inr P)]);rw[z];exact T1e
  ·have L:=z6z k f6J f6J;unfold z6y at L;exact T1e
theorem x7n r vt w(z:RecFit r):Calls prog 127 #[recV r vt] w (IntB w (Cn.step r)):=by
 unfold recV Cn.step;have F:=z.n;have G:=z.kind;generalize r.kind=kd,r.n=n at *;obtain⟨A,T⟩:=F;obtain⟨x,M⟩:=G;by_cases H:kd=4
 ·subst H;rw[if_pos rfl];by_cases s:0<=n
  ·have o:max n 0=n:=f6J;rw[o];exact t8A
  ·have o:max n 0=0:=f6J;rw[o];exact t8A
 ·rw[if_neg H];have q:(kd==4)=false:=b0f H;exact t8A
theorem z4z{c lo}(R:0<=c)(Z:c<=1114111)(D:lo<=c)(J:-9223372036854775808<=lo):∃L,IntKind.u64.wrap lo=L/\IntKind.u64.wrap (c-L)=c-lo:=by
 refine⟨_,rfl,?_⟩;by_cases F:0<=lo
 ·rw[IntWalk.u64_in lo ⟨f6J,f6J⟩,IntWalk.u64_in _ ⟨f6J,f6J⟩]
 ·have e:IntKind.u64.wrap lo=lo+18446744073709551616:=s9u
  rw[e];exact s9u
theorem x4r r vt c w(z:RecFit r)(I:-2147483648<=c/\c<=2147483647):Calls prog 128 #[recV r vt,.int .i64 c] w (x0g w (Cn.speaks r c)):=by
 have K:=O (fun w=>x7n r vt w z)
 have A:Cn.step r<=9223372036854775807:=by
  unfold Cn.step;have:=z.n;unfold I64 at this;exact G7n
 have F:Cn.speaks r c=decide (r.kind≠15/\0<Cn.step r/\0<=c/\c<=1114111/\r.lo<=c/\c<=r.hi/\(c-r.lo)%Cn.step r=0):=rfl;rw[F];have G:=z.kind;have o:=z.lo;have H:=z.hi;unfold recV at *;generalize Cn.step r=st,r.kind=kd,r.n=n,r.lo=lo at *;generalize r.hi=hi,r.name=nm,r.other=ot,r.wt=J at *;obtain⟨x,M⟩:=G;obtain⟨b,v⟩:=o;obtain⟨k,t⟩:=H;obtain⟨X,s⟩:=I
 have a:∀W,Below (w.heap.size+1) (w.alloc (.cells #[.int .i64 kd,.int .i64 lo,.int .i64 hi,.int .i64 n,vt,.string nm,.string ot,.float .f64 J] 60)) W->W.cell? ⟨w.heap.size,0,none⟩=some (.int .i64 kd)/\W.cell? ⟨w.heap.size,1,none⟩=some (.int .i64 lo)/\W.cell? ⟨w.heap.size,2,none⟩=some (.int .i64 hi):=by
  intro W Y;refine⟨?_,?_,?_⟩<;>(rw[Y.cell M7M];simp[World.cell?,World.alloc,-World.alloc_eq])
 have C:=O a;by_cases d:kd=15
 ·have l:(kd != 15)=false:=(by simp[d]);rw[d0f (fun h=>h.1 d)];subst d;exact U6w
 ·have l:(kd != 15)=true:=(by simp[d]);by_cases T:0<st;rotate_left
  ·exact u9g
  by_cases b1:0<=c;rotate_left
  ·exact u9g
  by_cases u:c<=1114111;rotate_left
  ·exact u9g
  by_cases j:lo<=c;rotate_left
  ·exact u9g
  by_cases m:c<=hi;rotate_left
  ·exact u9g
  obtain⟨D,P,E⟩:=z4z b1 u j b;have R:IntKind.u64.wrap c=c:=IntWalk.u64_in c ⟨f6J,f6J⟩;have N:IntKind.u64.wrap st=st:=IntWalk.u64_in st ⟨f6J,f6J⟩;obtain⟨q,y⟩:∃q,(c-lo).tmod st=q:=⟨_,rfl⟩;have i:(c-lo)%st=q:=(by rw[<- y,Int.tmod_eq_emod_of_nonneg f6J]);have B:(st==0)=false:=b0f f6J;by_cases g:q=0
  ·rw[d0t ⟨d,T,b1,u,j,m,i.trans g⟩];subst g;go_enter func128,ntmps128;go_wp2_with fail;refine c1m (V K _) fun Q Y=>?_;obtain⟨f,S,p⟩:=V C Q (by simpa using Y);have U:x0g w true (.returned (.bool true)) Q:=⟨rfl,((b0r).alloc (l0r _) _).trans (Y.mono M7M)⟩;go_wp2;go_ret;exact U
  ·have L:(q==0)=false:=b0f g;rw[d0f (fun h=>g (i.symm.trans h.2.2.2.2.2.2))];exact U6w
theorem x2s v rs f c w(N:Rcs w v rs)(z:I64 f)(I:-2147483648<=c/\c<=2147483647):Calls prog 89 #[v,.int .i64 f,.int .i32 c] w (IntB w (Cn.find rs f c)):=by
 obtain⟨a,f1⟩:=z;by_cases A:f=10
 ·have y:Cn.find rs f c=-1:=(by unfold Cn.find;rw[if_pos (.inl A)]);rw[y];subst A;exact T2e
 ·have q1:(f==10)=false:=b0f A;by_cases h0:f=0
  ·have y:Cn.find rs f c=-1:=(by unfold Cn.find;rw[if_pos (.inr h0)]);rw[y];subst h0;exact T2e
  ·have q2:(f==0)=false:=b0f h0;have y:Cn.find rs f c=Cn.findA f c 0 (rs.drop 0):=(by unfold Cn.find;rw[if_neg f6J];rfl);rw[y];have d:=N.1;have KF:=O (fun k w h=>x0j k w h);have p:=O (fun r t w h=>x4r r t c w h I);have X:=O (fun i hi=>N.fit (i:=i) hi);generalize hres:Cn.findA f c 0 (rs.drop 0)=R;obtain⟨c0,c1⟩:=I;rcases Nat.eq_zero_or_pos rs.length with n0 | n0
   ·obtain⟨B,M,rfl,_,_⟩:=N.shape;obtain rfl:rs=[]:=List.eq_nil_of_length_eq_zero n0;obtain rfl:-1=R:=hres;go_enter func89,ntmps89;go_wp2;refine wp_loop_rounds 1 ?_;rw[rounds_succ];go_wp2;go_ret;exact⟨rfl,b0r⟩
   ·obtain⟨b,P,M,rfl,J,x,q⟩:=N.place n0;have C:Hid (∀i,i<rs.length->∀W,Bw w W->RecAt W b (P+i*8) (rs.getD i Cn.none)):=fun i hi W Y=>(q i hi).below Y;have HR:=O hres;go_enter func89,ntmps89;go_wp2;go_loopw[7] (fun Z wr=>∃k:Nat,Z=.int .i64 k/\k<=rs.length/\Bw w wr/\Cn.findA f c k (rs.drop k)=R) (fun Z _=>rs.length-(intOf Z).toNat)
    case atStart=>exact⟨0,rfl,f6J,b0r,V HR⟩
    case round =>
     obtain⟨k,rfl,G,T,hx⟩:=hrel;by_cases E:k<rs.length
     ·have n:=V C k E wr T;have s:=V X k E;rw[Cn.y5J E]at hx;have L:=O hx;generalize rs.getD k Cn.none=r at *;obtain⟨g,S,x2,K,⟨t,x4,_⟩,m,u,x7⟩:=n;have K1:=O (V KF r.kind wr s.kind);have j:=O (V p r t wr s);unfold recV at j;generalize r.kind=kd,r.wt=wt at *;by_cases D:Cn.fam kd=f
      ·have l:=O (show(Cn.fam kd==f)=true from beq_iff_eq.2 D);generalize Cn.fam kd=fk at *;subst D;have y1:(fk==fk)=true:=beq_self_eq_true _;go_wp2_with fail;refine c0m K1 fun Q ab=>?_;subst Q;go_wp2_with fail;refine c0m j fun Q F=>?_;have H:Bw w Q:=T.trans (F.mono T.size)
       cases hsp:Cn.speaks r c with
       | true =>
        have U:IntB w R (.returned (.int .i64 (k:Int))) Q:=⟨by rw[<- V L,if_pos (by simp[hsp])],H⟩;go_wp2;go_ret;exact U
       | false =>
        have o:=O ((V L).symm.trans (if_neg (by rw[hsp];exact M7N)));go_wp2
        go_roundw
        case rel=>exact⟨k+1,g2A,f6J,H,(V o).symm⟩
        case measure=>exact g7T
      ·have y1:(Cn.fam kd==f)=false:=b0f D;have o:=O ((V L).symm.trans (if_neg (fun h=>D h.1)));generalize Cn.fam kd=fk at *;go_wp2_with fail;refine c0m K1 fun Q ab=>?_;subst Q;go_wp2
       go_roundw
       case rel=>exact⟨k+1,g2A,f6J,T,(V o).symm⟩
       case measure=>exact g7T
     ·obtain rfl:k=rs.length:=f6J;have hm:(-1:Int)=R:=(by rw[<- hx,List.drop_eq_nil_of_le (l0r _)];rfl);have U:IntB w R (.returned (.int .i64 (-1))) wr:=⟨by rw[hm],T⟩;exact m2I
theorem Tryz.info21:(prog.info? 21).map (fun i=>(i.zero,i.size,i.bytes))=some (some (.int .i32 0),1,4):=f4x
theorem info_parts{p:Option TypeInfo}{z:Option Value}{s b}(h:p.map (fun i=>(i.zero,i.size,i.bytes))=some (z,s,b)):∃i,p=some i/\i.zero=z/\i.size=s/\i.bytes=b:=f0h
def x0h(w:World)(zs:List Int)(e:Ending)(w':World):Prop:=∃v,e=.returned v/\Ok .i32 21 w' w.heap.size v zs/\Below w.heap.size w w'
def x6r(w:World)(r:Option (Int×Int))(e:Ending)(w':World):Prop:=e=.returned (.tuple #[.int .i32 ((r.map (·.1)).getD 0),.int .i32 ((r.map (·.2)).getD 0),.bool r.isSome])/\Below w.heap.size w w'
theorem x4Z c w(h:-2147483648<=c/\c<=2147483647):Calls prog 84 #[.int .i32 c] w fun e w'=>e=.returned (.bool (Cn.syl c))/\w'=w:=by
 obtain⟨Z,D⟩:=h;unfold Cn.syl;by_cases d:44032<=c
 ·by_cases P:c<=55203
  ·rw[d0t ⟨d,P⟩];exact R7M
  ·rw[d0f (fun h=>P h.2)];exact R7M
 ·rw[d0f (fun h=>d h.1)];exact R7M
theorem hit_at{w v rs}(N:Rcs w v rs) f c:(Cn.find rs f c=-1/\Cn.hit rs f c=none) \/
  ∃(k:Nat) (b off cap:Nat),Cn.find rs f c=k/\k<rs.length/\Cn.hit rs f c=some (rs.getD k Cn.none)/\v=.slice (some ⟨b,off,none⟩) rs.length cap/\rs.length<=cap/\cap<=9223372036854775807/\RecAt w b (off+k*8) (rs.getD k Cn.none)/\RecFit (rs.getD k Cn.none):=by
 rcases Cn.find_bound rs f c with h | ⟨Z,D⟩
 ·exact .inl ⟨h,by unfold Cn.hit;rw[h];rfl⟩
 ·obtain⟨k,G⟩:∃k:Nat,Cn.find rs f c=k:=⟨(Cn.find rs f c).toNat,f6J⟩;have x:k<rs.length:=f6J;obtain⟨b,off,cap,d,S,o,I⟩:=N.place f6J;refine .inr ⟨k,b,off,cap,G,x,?_,d,S,o,I k x,N.fit x⟩;unfold Cn.hit;rw[G,if_neg f6J];rfl
theorem x2T v rs c w(N:Rcs w v rs)(I:-2147483648<=c/\c<=2147483647):Calls prog 130 #[v,.int .i32 c] w (IntB w (Cn.cls rs c)):=by
 have K:=O (x2s v rs 2 c w N w5o I);obtain⟨X,y⟩:=I;rcases hit_at N 2 c with⟨Z,D⟩ | ⟨k,b,P,M,Z,x,D,rfl,S,o,u,z⟩
 ·have F:Cn.cls rs c=0:=N4U;rw[F];rw[Z]at K;obtain⟨B,M,rfl,_,_⟩:=N.shape;go_enter func130,ntmps130;go_wp2_with fail;refine c0m K fun Q Y=>?_;have U:IntB w 0 (.returned (.int .i64 0)) Q:=⟨rfl,Y⟩;go_wp2;go_ret;exact U
 ·have F:Cn.cls rs c=(rs.getD k Cn.none).n:=N4U;rw[F];rw[Z]at K;have L:=O u;have d:=N.1;generalize rs.getD k Cn.none=r at *;go_enter func130,ntmps130;go_wp2_with fail;refine c0m K fun Q Y=>?_;have C:=((V L).below Y).n;have U:IntB w r.n (.returned (.int .i64 r.n)) Q:=⟨rfl,Y⟩;go_wp2;go_ret;exact U
theorem ok_two(w:World) a b(g:-2147483648<=a/\a<=2147483647)(Y:-2147483648<=b/\b<=2147483647):Ok .i32 21 (w.alloc (.cells #[.int .i32 a,.int .i32 b] 21)) w.heap.size (.slice (some ⟨w.heap.size,0,none⟩) 2 2) [a,b]:=by
 refine Ok.of (n:=2) (us:=[.int .i32 a,.int .i32 b]) (fun z T=>?_) M7M ⟨rfl,.inr ⟨w.heap.size,2,#[.int .i32 a,.int .i32 b],rfl,l0r _,?_,l0r _,T7W,rfl,rfl⟩⟩ rfl rfl
 ·simp only[List.mem_cons,List.mem_nil_iff,or_false]at T;simp only[IntKind.min,IntKind.max,IntKind.signed,IntKind.bits];rcases T with rfl | rfl<;>simp<;>omega
 ·exact R0p
theorem x3L v rs c w(N:Rcs w v rs)(I:-2147483648<=c/\c<=2147483647):Calls prog 132 #[v,.int .i32 c] w (x0h w (Cn.opn rs c)):=by
 obtain⟨i0,hi,d,ae,R⟩:=info_parts Tryz.info21;have l:=O (x4Z c w I);have K:=O (x2s v rs 3 c w N (by unfold I64;exact f6J) I);obtain⟨c0,y⟩:=I;by_cases L:Cn.syl c=true
 ·have F:44032<=c/\c<=55203:=(by unfold Cn.syl at L;exact U9l);obtain⟨s0,s1⟩:=F;rw[L]at l;obtain⟨B,M,rfl,_,_⟩:=N.shape;have e1:(c-44032).tmod 28=(c-44032)%28:=Int.tmod_eq_emod_of_nonneg f6J;have E:(c-44032).tdiv 588=(c-44032) / 588:=Int.tdiv_eq_ediv_of_nonneg f6J;have e3:(c-44032).tdiv 28=(c-44032) / 28:=Int.tdiv_eq_ediv_of_nonneg f6J;have e4:((c-44032) / 28).tmod 21=(c-44032) / 28%21:=Int.tmod_eq_emod_of_nonneg f6J;by_cases H:(c-44032)%28=0
  ·have X:Cn.opn rs c=[4352+(c-44032) / 588,4449+(c-44032) / 28%21]:=(by unfold Cn.opn;rw[if_pos L,if_pos H]);rw[X];have q:((c-44032)%28==0)=true:=beq_iff_eq.2 H
   have U:x0h w [4352+(c-44032) / 588,4449+(c-44032) / 28%21] (.returned (.slice (some ⟨w.heap.size,0,none⟩) 2 2)) (w.alloc (.cells #[.int .i32 (4352+(c-44032) / 588),.int .i32 (4449+(c-44032) / 28%21)] 21)) :=
    ⟨_,rfl,ok_two w _ _ f6J f6J,(b0r).alloc (l0r _) _⟩
   exact S2P
  ·have X:Cn.opn rs c=[c-(c-44032)%28,4519+(c-44032)%28]:=(by unfold Cn.opn;rw[if_pos L,if_neg H]);rw[X];have q:((c-44032)%28==0)=false:=b0f H
   have U:x0h w [c-(c-44032)%28,4519+(c-44032)%28] (.returned (.slice (some ⟨w.heap.size,0,none⟩) 2 2)) (w.alloc (.cells #[.int .i32 (c-(c-44032)%28),.int .i32 (4519+(c-44032)%28)] 21)) :=
    ⟨_,rfl,ok_two w _ _ f6J f6J,(b0r).alloc (l0r _) _⟩
   exact S2P
 ·have F:Cn.syl c=false:=U9l;rw[F]at l;rcases hit_at N 3 c with⟨Z,D⟩ | ⟨k,b,P,M,Z,x,D,rfl,S,o,hr,hf⟩
  ·have X:Cn.opn rs c=[]:=P7U;rw[X];rw[Z]at K;obtain⟨B,M,rfl,_,_⟩:=N.shape;go_enter func132,ntmps132;go_wp2_with fail;refine c0m l fun Q T=>?_;subst Q;go_wp2_with fail;refine c0m K fun Q Y=>?_;have U:x0h w [] (.returned (.slice none 0 0)) Q:=⟨_,rfl,Ok.nil _ _ _ _,Y⟩;go_wp2;go_ret;exact U
  ·have X:Cn.opn rs c=(rs.getD k Cn.none).to:=P7U;rw[X];rw[Z]at K;have HR:=O hr;have af:=N.1;have ag:=hf.len;generalize rs.getD k Cn.none=r at *;go_enter func132,ntmps132;go_wp2_with fail;refine c0m l fun Q T=>?_;subst Q;go_wp2_with fail;refine c0m K fun Q Y=>?_;obtain⟨vt,j,f⟩:=((V HR).below Y).to;have hB:=Y.size;have s:=f.1;generalize r.to=m at *;rcases f.2.src with⟨a,rfl⟩ | ⟨C,J,rfl,g⟩
   ·obtain rfl:m=[]:=(by simpa using a);have U:x0h w [] (.returned (.slice none 0 0)) Q:=⟨_,rfl,Ok.nil _ _ _ _,Y⟩;go_wp2_with(at_builtin;refine wpList_append_own_none rfl (.tmp 36) (.tmp 41) 36 rfl w.heap.size 21 i0 1 underlying36 hi _ _ _ rfl (World.ownsRow_nil _ _ _ _) rfl ?_);exact m2I
   ·have ab:(m.map (Value.int .i32)).length=m.length:=List.length_map _;rw[ab]at j;go_wp2_with(at_builtin;refine wpList_append_own _ rfl (.tmp 36) (.tmp 41) 36 rfl w.heap.size 21 i0 (.int .i32 0) 1 4 underlying36 hi d ae R rfl e8N _ _ _ rfl (World.ownsRow_nil _ _ _ _) C m.length J (m.map (Value.int .i32)) rfl M7N g (fun u W=>w8O) T7X f6J f6J ?_);intro A p t i _;have n:Bw w p:=Y.grown i hB (fun k G=>by simp[Value.ownBlock]at G);have U:x0h w m (.returned A) p:=⟨A,rfl,Ok.of s f6J t M7N M7N,n⟩;exact m2I
def x3S(w:World)(b:Bool)(e:Ending)(w':World):Prop:=e=.returned (.bool b)/\∃m,w'=w.drewN m
theorem x6y(w:World):∃m,w=w.drewN m:=⟨0,rfl⟩
theorem x6z{w w':World}(h:∃m,w'=w.drewN m) n:∃m,w'.drewN n=w.drewN m:=by
 obtain⟨m,rfl⟩:=h;exact⟨m+n,by rw[World.drewN_drewN]⟩
theorem x0i{w w'}(h:∃m,w'=w.drewN m):Bw w w':=by
 obtain⟨m,rfl⟩:=h;exact below_drewN (b0r) m
theorem ints_at{K}{zs:List Int}{i}(h:i<zs.length):(zs.map (Value.int K)).getD i undef=.int K (zs.getD i 0):=p8I
theorem x8a v rs c w(N:Rcs w v rs)(I:-2147483648<=c/\c<=2147483647):Calls prog 131 #[v,.int .i32 c] w (x6r w (Cn.prim rs c)):=by
 have l:=O (x4Z c w I);have i:=O (x3L v rs c w N I);have K:=O (x2s v rs 3 c w N w5q I);obtain⟨c0,c1⟩:=I;by_cases L:Cn.syl c=true
 ·have s:Cn.prim rs c=some ((Cn.opn rs c).getD 0 0,(Cn.opn rs c).getD 1 0):=(by unfold Cn.prim;rw[if_pos L]);have D:(Cn.opn rs c).length=2:=(by unfold Cn.opn;rw[if_pos L];split<;>rfl);rw[s];rw[L]at l;obtain⟨B,M,rfl,_,_⟩:=N.shape;generalize Cn.opn rs c=m at *;go_enter func131,ntmps131;go_wp2_with fail;refine c0m l fun Q T=>?_;subst Q;go_wp2_with fail;refine(V i).mono ?_;rintro e Q ⟨vx,rfl,o,Y⟩;obtain⟨b,P,am,rfl,ai,aw,ae⟩:=o.sk.2.place P8P;have ag:(m.map (Value.int .i32)).length=2:=(by simp[D]);have y0:=ae 0 f6J;have E:=ae 1 f6J;rw[ints_at f6J]at y0 E;rw[ag]at ai ⊢;rw[Nat.add_zero]at y0;clear i o ae ag;generalize m.getD 0 0=p,m.getD 1 0=q at *;have U:∀n,x6r w (some (p,q)) (.returned (.tuple #[.int .i32 p,.int .i32 q,.bool true])) (Q.drewN n):=fun n=>⟨rfl,bthen Y (x0i ⟨n,rfl⟩)⟩;clear Y;go_wp2;go_big_quiet (fail);go_wp2;go_ret3;exact U _
 ·have F:Cn.syl c=false:=(by simpa using L);rw[F]at l;rcases hit_at N 3 c with⟨Z,D⟩ | ⟨k,b,P,M,Z,aq,D,rfl,S,hm,u,z⟩
  ·have s:Cn.prim rs c=none:=V2B;rw[s];rw[Z]at K;obtain⟨B,M,rfl,_,_⟩:=N.shape;clear N Z D s L F i;go_enter func131,ntmps131;go_wp2_with fail;refine c0m l fun Q T=>?_;subst Q;clear l;go_wp2_with fail;refine c0m K fun Q Y=>?_;have U:x6r w none (.returned (.tuple #[.int .i32 0,.int .i32 0,.bool false])) Q:=⟨rfl,Y⟩;clear K Y;go_wp2;go_ret3;exact U
  ·have s:Cn.prim rs c=if(rs.getD k Cn.none).kind=7/\(rs.getD k Cn.none).to.length=2 then some ((rs.getD k Cn.none).to.getD 0 0,(rs.getD k Cn.none).to.getD 1 0)else none:=V2B;rw[Z]at K;have HR:=O u;have d:=N.1;have A:=z.kind;obtain⟨az,aA⟩:=A;have ar:=z.len;clear N Z D L F u z i;generalize rs.getD k Cn.none=r at *;have G:Hid (r.kind=7->r.to.length=2->Cn.prim rs c=some (r.to.getD 0 0,r.to.getD 1 0)):=fun a b=>(by rw[s,if_pos ⟨a,b⟩]);have W:Hid (¬(r.kind=7/\r.to.length=2)->Cn.prim rs c=none):=fun a=>(by rw[s,if_neg a]);clear s;generalize Cn.prim rs c=pr at *;go_enter func131,ntmps131;go_wp2_with fail;refine c0m l fun Q T=>?_;subst Q;clear l;go_wp2_with fail;refine c0m K fun Q Y=>?_;have ab:=(V HR).below Y;obtain⟨t,j,f⟩:=ab.to;have x0:=ab.kind;clear K HR ab;generalize r.to=m,r.kind=kd at *;obtain⟨aj,J,rfl,X,C⟩:=f.shape;have HN:x6r w none (.returned (.tuple #[.int .i32 0,.int .i32 0,.bool false])) Q:=⟨rfl,Y⟩;by_cases x:kd=7
   ·subst x;by_cases R:m.length=2
    ·obtain rfl:=V G rfl R;clear G W;obtain⟨y,H,af,he,_,_,g⟩:=f.place f6J;obtain⟨rfl,rfl⟩:aj=some ⟨y,H,none⟩/\J=af:=M2T;have y0:=g 0 f6J;have E:=g 1 f6J;rw[Nat.add_zero]at y0;rw[R]at j X;generalize m.getD 0 0=p,m.getD 1 0=q at *;exact R3F
    ·obtain rfl:=V W (fun h=>R h.2);clear G W;have q2:((m.length:Int) != 2)=true:=P8P;clear f Y;exact F2e
   ·obtain rfl:=V W (fun h=>x h.1);clear G W;have q7:(kd != 7)=true:=(by simp[x]);clear f Y;exact F2e
theorem z4j v u zs w(N:Sk .i32 w v zs)(D:Sk .i32 w u zs)(S:zs.length<=1000000000):Calls prog 98 #[v,u] w (x3S w true):=by
 rcases Nat.eq_zero_or_pos zs.length with h0 | h0
 ·obtain⟨B,M,rfl,_,_⟩:=N.shape;obtain⟨Q,A,rfl,_,_⟩:=D.shape;rw[h0];go_enter func98,ntmps98;go_wp2;refine wp_loop_rounds 1 ?_;rw[rounds_succ];go_wp2;go_ret;exact⟨rfl,x6y w⟩
 ·obtain⟨b,P,M,rfl,l,H,I⟩:=N.place h0;obtain⟨f,R,A,rfl,c,o,X⟩:=D.place h0
  have C:Hid (∀wr,Bw w wr->∀i,i<zs.length->wr.cell? ⟨b,P+i,none⟩=some (.int .i32 (zs.getD i 0))/\wr.cell? ⟨f,R+i,none⟩=some (.int .i32 (zs.getD i 0))):=by
   intro wr Y i hi;have W:=I i hi;have Z:=X i hi;exact⟨by rw[Y.cell (x0a W)];exact W,v4f⟩
  have J:((zs.length:Int) != (zs.length:Int))=false:=M7N;go_enter func98,ntmps98;go_wp2;go_loopw[5] (fun i wr=>∃k:Nat,i=.int .i64 k/\k<=zs.length/\∃m,wr=w.drewN m) (fun i _=>zs.length-(intOf i).toNat)
  case atStart=>exact⟨0,rfl,f6J,x6y w⟩
  case round =>
   obtain⟨k,rfl,G,K⟩:=hrel;by_cases E:k<zs.length
   ·obtain⟨W,Z⟩:=V C _ (x0i K) k E;generalize zs.getD k 0=t at *;have p:(t != t)=false:=M7N;go_wp2;go_big_quiet (fail);go_wp2
    go_roundw
    case rel=>exact⟨k+1,g2A,f6J,x6z K _⟩
    case measure=>exact g7T
   ·clear C;go_wp2;go_ret;exact⟨rfl,K⟩
theorem Tryz.info60:(prog.info? 60).map (fun i=>(i.zero,i.size,i.bytes))=some (some (.agg #[.int .i64 0,.int .i64 0,.int .i64 0,.int .i64 0,.slice none 0 0,.string ⟨#[]⟩,.string ⟨#[]⟩,.float .f64 0]),8,96):=f4x
def x0A(p:Rec×Value):List Value:=[.int .i64 p.1.kind,.int .i64 p.1.lo,.int .i64 p.1.hi,.int .i64 p.1.n,p.2,.string p.1.name,.string p.1.other,.float .f64 p.1.wt]
def rcells(ps:List (Rec×Value)):List Value:=ps.flatMap x0A
theorem x1d(ps:List (Rec×Value)):(rcells ps).length=ps.length*8:=by
 induction ps with
 | nil=>rfl
 | cons p ps ih =>
  rw[rcells,List.flatMap_cons,List.length_append]at *;rw[ih];simp[x0A];omega
theorem x3I(ps:List (Rec×Value))(p:Rec×Value):rcells ps++x0A p=rcells (ps++[p]):=by
 rw[rcells,rcells,List.flatMap_append];simp
theorem x1s:∀(ps:List (Rec×Value)) (i j:Nat),i<ps.length->j<8->(rcells ps)[i*8+j]?=(x0A (ps.getD i (Cn.none,undef)))[j]?
 | [],i,j,h,_=>by simp at h
 | p::ps,0,j,_,hj=>by
  rw[rcells,List.flatMap_cons,List.getElem?_append_left v1j];simp
 | p::ps,i+1,j,h,hj=>by
  have B:=x1s ps i j S4r hj;rw[rcells,List.flatMap_cons,List.getElem?_append_right v1j];have e:(i+1)*8+j-(x0A p).length=i*8+j:=v1j;rw[e];exact B
def Rown(w:World)(B:Nat)(v:Value)(ps:List (Rec×Value)):Prop:=w.ownsRow B 60 8 v ps.length (rcells ps)/\∀p∈ps,Ok .i32 21 w B p.2 p.1.to
theorem Rown.rcs{w B v}{ps:List (Rec×Value)}(h:Rown w B v ps)(S:ps.length<=1000000000)(z:∀p∈ps,RecFit p.1):Rcs w v (ps.map (·.1)):=by
 refine⟨t2Y,fun r A=>?_,?_⟩
 ·grind
 ·have J:=h.1;rcases h.1.2 with⟨N,R⟩ | ⟨g,M,Q,N,C,H,F,G,f,U⟩
  ·grind
  ·refine .inr ⟨g,0,M,by rw[N,List.length_map],by simpa using F,V3H,fun i hi=>?_⟩;rw[List.length_map]at hi;have o:ps.getD i (Cn.none,undef)∈ps:=(by grind);have n:(ps.map (·.1)).getD i Cn.none=(ps.getD i (Cn.none,undef)).1:=by grind
   have I:∀j u,j<8->(x0A (ps.getD i (Cn.none,undef)))[j]?=some u->w.cell? ⟨g,0+i*8+j,none⟩=some u:=by
    intro j u X W;have e:=J.cells (g:=g) U5P (i*8+j) u (by rw[x1s ps i j hi X];exact W);rw[addr_add]at e;rw[(f6J:0+i*8+j=0+(i*8+j))];exact e
   rw[n];exact⟨I 0 _ f6J rfl,I 1 _ f6J rfl,I 2 _ f6J rfl,I 3 _ f6J rfl,⟨_,I 4 _ f6J rfl,(h.2 _ o).sk⟩,I 5 _ f6J rfl,I 6 _ f6J rfl,I 7 _ f6J rfl⟩
theorem x0w{w w':World}{B e F n:Nat}{v us}(h:w.ownsRow B e F v n us)(G:∀g,v.ownBlock=some g->w'.heap[g]?=w.heap[g]?):w'.ownsRow B e F v n us:=by
 obtain⟨Z,D⟩:=h;refine⟨Z,?_⟩;rcases D with D | ⟨g,M,Q,N,Y,C,rest⟩
 ·exact .inl D
 ·exact .inr ⟨g,M,Q,N,Y,(G g U5P).trans C,rest⟩
theorem Ok.keep{w w' K e B}{v zs}(h:Ok K e w B v zs)(G:∀g,v.ownBlock=some g->w'.heap[g]?=w.heap[g]?):Ok K e w' B v zs:=⟨h.1,h.2.1,x0w h.2.2 G⟩
theorem x0K{w:World}{B E e Y F D n G:Nat}{v v' us us'}(h:w.ownsRow B e F v n us)(K:w.ownsRow E Y D v' G us')(t:e≠Y){g}(C:v.ownBlock=some g):v'.ownBlock≠some g:=by
 intro U;rcases h.2 with⟨rfl,_⟩ | ⟨k,M,Q,rfl,_,H,_⟩
 ·cases C
 ·rcases K.2 with⟨rfl,_⟩ | ⟨I,A,J,rfl,_,T,_⟩
  ·cases U
  ·simp[Value.ownBlock]at C U;subst C;subst U;rw[H]at T;simp at T;exact t T.2
theorem x0c{w:World}{g j cur e}(h:w.heap[g]?=some (.cells cur e (0,0))) v:(w.setCell ⟨g,j,none⟩ v).heap[g]?=some (.cells (cur.setIfInBounds j v) e (0,0)):=by
 rw[setCell_eq_setRow w g j cur e (0,0) v h];exact setRow_heap w g cur _ e _ h
theorem cell_of{w:World}{g j cur e}(h:w.heap[g]?=some (.cells cur e (0,0)))(X:j<cur.size):w.cell? ⟨g,j,none⟩=some (cur.getD j undef):=by
 simp[World.cell?,h,X]
theorem x0d{w:World}{g j cur e}(h:w.heap[g]?=some (.cells cur e (0,0))):w.frozen? ⟨g,j,none⟩=false:=by
 simp[World.frozen?,h]
def x6s(w:World)(rs:List Rec)(e:Ending)(w':World):Prop:=∃v ps,e=.returned v/\ps.map (·.1)=rs/\Rown w' w.heap.size v ps/\Below w.heap.size w w'
def rarr(r:Rec)(vt:Value):Array Value:=#[.int .i64 r.kind,.int .i64 r.lo,.int .i64 r.hi,.int .i64 r.n,vt,.string r.name,.string r.other,.float .f64 r.wt]
theorem z7N(W:World) r vt:∀j u,(x0A (r,vt))[j]?=some u->(W.alloc (.cells (rarr r vt) 60)).cell? ((⟨W.heap.size,0,none⟩:Addr).add j)=some u:=by
 intro j u X
 have E:j<8:=by
  rcases Nat.lt_or_ge j 8 with h | h
  ·exact h
  ·rw[List.getElem?_eq_none v1j]at X;cases X
 rw[addr_add,Nat.zero_add];have e:(rarr r vt).toList=x0A (r,vt):=rfl;simp only[World.cell?,World.alloc];simp;rw[<- Array.getElem?_toList,e];exact X
theorem x6h(W:World) n(F:W.heap.size=n) r vt:∀j u,(x0A (r,vt))[j]?=some u->(W.alloc (.cells #[.int .i64 r.kind,.int .i64 r.lo,.int .i64 r.hi,.int .i64 r.n,vt,.string r.name,.string r.other,.float .f64 r.wt] 60)).cell? ((⟨n,0,none⟩:Addr).add j)=some u:=by
 subst F;exact z7N W r vt
theorem x7l r{vt}(h:vt.oneCell'=true):∀u∈x0A (r,vt),u.oneCell'=true:=by
 intro u W;simp only[x0A,List.mem_cons,List.mem_nil_iff,or_false]at W
 rcases W with rfl | rfl | rfl | rfl | rfl | rfl | rfl | rfl<;>first| rfl | exact h
theorem x0e{w:World}{g j k} v(h:k≠g):(w.setCell ⟨g,j,none⟩ v).heap[k]?=w.heap[k]?:=Below.heap_setCell _ _ _ _ (fun e=>h e)
theorem x0b{B a w}(h:Below B a w){g j}(C:B<=g) v:Below B a (w.setCell ⟨g,j,none⟩ v):=by
 refine h.trans ⟨?_,?_,?_,?_,fun k G=>x0e v f6J⟩
 all_goals first| rfl|(unfold World.setCell;split<;>first| rfl | simp)
theorem x0V(w:World) g j v:(w.setCell ⟨g,j,none⟩ v).heap.size=w.heap.size:=f0h
theorem y2q{w wr w9 w10 mv v9 v10}{ps:List (Rec×Value)}{r vt o}(F:Rown wr w.heap.size mv ps)(T:Bw w wr)
  (y:Ok .i32 21 w9 w.heap.size v9 r.to) (i:(wr.alloc (.cells (rarr r vt) 60)).grownBy w9 (Value.slice none 0 0).ownBlock)
  (J:w10.ownsRow w.heap.size 60 8 v10 (ps.length+1) (rcells ps++x0A (r,v9))) (B:((w9.setCell ⟨wr.heap.size,4,none⟩ v9).alloc o).grownBy w10 mv.ownBlock) :
  Rown w10 w.heap.size v10 (ps++[(r,v9)])/\Bw w w10:=by
 have m:=T.size;have q:(wr.alloc (.cells (rarr r vt) 60)).heap.size<=w9.heap.size:=i.size;have I:wr.heap.size+1<=w9.heap.size:=W3O;have U:∀g,g<wr.heap.size+1->w9.heap[g]?=(wr.alloc (.cells (rarr r vt) 60)).heap[g]?:=fun g C=>i.block g (by simpa using C) (by simp[Value.ownBlock]);have K:∀g,g<wr.heap.size->(wr.alloc (.cells (rarr r vt) 60)).heap[g]?=wr.heap[g]?:=fun g C=>((Below.refl wr.heap.size wr).alloc (l0r _) _).block g C
 have R:w9.heap[wr.heap.size]?=some (.cells (rarr r vt) 60 (0,0)):=by
  rw[U _ f6J];exact s6Q
 have A:w9.ownsRow w.heap.size 60 8 mv ps.length (rcells ps):=x0w F.1 (fun g h=>by rw[U g (by have:=(F.1.lt g h).2;exact f6J),K g (F.1.lt g h).2])
 have L:∀g,g<w9.heap.size->g≠wr.heap.size->mv.ownBlock≠some g->w10.heap[g]?=w9.heap[g]?:=fun g C Z D=>by
  have P:=B.block g P8P (fun e=>D e.symm);rw[P];have W:((w9.setCell ⟨wr.heap.size,4,none⟩ v9).alloc o).heap[g]?=(w9.setCell ⟨wr.heap.size,4,none⟩ v9).heap[g]?:=((b0r).alloc (l0r _) _).block g (by rw[x0V];exact C);rw[W,x0e v9 Z]
 refine⟨⟨?_,fun p hp=>?_⟩,?_⟩
 ·rw[x3I]at J;simpa using J
 ·rcases List.mem_append.1 hp with hp | hp
  ·have n:=F.2 p hp;refine n.keep fun g h=>?_;have E:=(n.2.2.lt g h).2;rw[L g f6J f6J (x0K n.2.2 F.1 e8P h),U g f6J,K g E]
  ·simp only[List.mem_singleton]at hp;subst hp;refine y.keep fun g h=>?_;have E:=(y.2.2.lt g h).2;refine L g E (fun e=>?_) (x0K y.2.2 A e8P h);rcases y.2.2.2 with⟨N,_⟩ | ⟨S,M,Q,N,_,H,_⟩
   ·rw[N]at h;cases h
   ·rw[N]at h;simp[Value.ownBlock]at h;rw[h,e,R]at H;simp at H
 ·have b1:Bw w w9:=(T.alloc m _).grown i P8P (fun k G=>by simp[Value.ownBlock]at G);have u:=x0b b1 (g:=wr.heap.size) (j:=4) m v9;exact(u.alloc (by rw[x0V];exact f6J) o).grown B P8P (fun k G=>(F.1.lt k G).1)
theorem y5w{w wr w10 mv v10}{ps:List (Rec×Value)}{r o1 o}(F:Rown wr w.heap.size mv ps)(T:Bw w wr)(C:r.to=[])
  (J:w10.ownsRow w.heap.size 60 8 v10 (ps.length+1) (rcells ps++x0A (r,.slice none 0 0))) (B:((wr.alloc o1).alloc o).grownBy w10 mv.ownBlock) :
  Rown w10 w.heap.size v10 (ps++[(r,.slice none 0 0)])/\Bw w w10:=by
 have m:=T.size;refine⟨⟨?_,fun p hp=>?_⟩,?_⟩
 ·rw[x3I]at J;simpa using J
 ·rcases List.mem_append.1 hp with hp | hp
  ·have n:=F.2 p hp;refine n.keep fun g h=>?_;have E:=(n.2.2.lt g h).2;rw[B.block g P8P (fun e=>x0K n.2.2 F.1 e8P h e.symm)];exact(((Below.refl wr.heap.size wr).alloc (l0r _) o1).alloc M7M o).block g E
  ·simp only[List.mem_singleton]at hp;subst hp;show Ok .i32 21 w10 w.heap.size (.slice none 0 0) r.to;rw[C];exact n7f
 ·exact((T.alloc m _).alloc P8P o).grown B P8P (fun k G=>(F.1.lt k G).1)
theorem x4p v rs w(hv:Rcs w v rs):Calls prog 20 #[v] w (x6s w rs):=by
 obtain⟨i0,hi,d,Y,aH⟩:=info_parts Tryz.info21;obtain⟨i1,hj,aA,aB,S⟩:=info_parts Tryz.info60;have aI:=hv.1;have X:=O (fun i hi=>hv.fit (i:=i) hi);rcases Nat.eq_zero_or_pos rs.length with n0 | n0
 ·obtain⟨ao,aC,rfl,_,_⟩:=hv.shape;obtain rfl:rs=[]:=List.eq_nil_of_length_eq_zero n0;have U:x6s w [] (.returned (.slice none 0 0)) w:=⟨_,[],rfl,rfl,⟨World.ownsRow_nil _ _ _ _,fun _ h=>(by cases h)⟩,b0r⟩;go_enter func20,ntmps20;go_wp2;refine wp_loop_rounds 1 ?_;rw[rounds_succ];exact m2N
 ·obtain⟨b,P,aC,rfl,aJ,aK,q⟩:=hv.place n0;have HC:Hid (∀i,i<rs.length->∀W,Bw w W->RecAt W b (P+i*8) (rs.getD i Cn.none)):=fun i hi W hb=>(q i hi).below hb
  have M:Hid (∀k,k<rs.length->rs.take (k+1)=rs.take k++[rs.getD k Cn.none]):=fun k hk=>by
   rw[List.take_add_one];simp[List.getD,hk]
  go_enter func20,ntmps20;go_wp2;go_loopw[3,4,5,6] (fun mv Z _ _ wr=>∃(k:Nat) (L:List (Rec×Value)),Z=.int .i64 k/\k<=rs.length/\L.map (·.1)=rs.take k/\L.length=k/\Rown wr w.heap.size mv L/\Bw w wr) (fun _ Z _ _ _=>rs.length-(intOf Z).toNat)
  case atStart=>exact⟨0,[],rfl,f6J,by simp,rfl,⟨World.ownsRow_nil _ _ _ _,fun _ h=>(by cases h)⟩,b0r⟩
  case round =>
   obtain⟨k,L,rfl,hk,ag,G,F,T⟩:=hrel;by_cases E:k<rs.length
   ·have am:=V HC k E wr T;have s:=V X k E;have aw:=V M k E;rw[<- ag]at aw;have aL:=s.len;have H:=O aw;generalize rs.getD k Cn.none=r at *;obtain⟨x0,x1,x2,x3,⟨vt,x4,f⟩,x5,x6,x7⟩:=am;have hB:=T.size;have aq:=f.1;rcases f.2.src with⟨aj,rfl⟩ | ⟨C,J,rfl,ar⟩
    ·obtain az:r.to=[]:=by simpa using aj
     have hX:∀o,(wr.alloc o).cell? ⟨b,P+k*8+4,none⟩=some (.slice none 0 0):=fun o=>U5u
     have aD:∀W a m,(store a (.float .f64 r.wt) m).run prog W=stored prog W a (.float .f64 r.wt) m:=fun W a m=>run_store prog W a _ m rfl;have hM:∀o o2,((wr.alloc o).alloc o2).ownsRow w.heap.size 60 8 u3 L.length (rcells L):=fun o o2=>(F.1.alloc o).alloc o2;have HM:=O hM;have Q:Hid (∀o I A,World.ownsRow A w.heap.size 60 8 I (L.length+1) (rcells L++x0A (r,.slice none 0 0))->((wr.alloc (.cells #[.int .i64 r.kind,.int .i64 r.lo,.int .i64 r.hi,.int .i64 r.n,.slice none 0 0,.string r.name,.string r.other,.float .f64 r.wt] 60)).alloc o).grownBy A u3.ownBlock->Rown A w.heap.size I (L++[(r,.slice none 0 0)])/\Bw w A):=fun o I A a b=>y5w F T az a b;have c:=O (x6h (wr.alloc (.cells #[.int .i64 r.kind,.int .i64 r.lo,.int .i64 r.hi,.int .i64 r.n,.slice none 0 0,.string r.name,.string r.other,.float .f64 r.wt] 60)) (wr.heap.size+1) (by simp) r (.slice none 0 0));have K:=O (x7l r (vt:=.slice none 0 0) rfl);go_wp2_with(first| (at_builtin;refine wpList_append_own_none rfl (.tmp 17) (.tmp 22) 36 rfl w.heap.size 21 i0 1 underlying36 hi _ _ _ rfl (World.ownsRow_nil _ _ _ _) rfl ?_)|(at_builtin;refine wpList_append_own _ rfl (.tmp 25) (.tmp 27) 22 rfl w.heap.size 60 i1 (.agg #[.int .i64 0,.int .i64 0,.int .i64 0,.int .i64 0,.slice none 0 0,.string ⟨#[]⟩,.string ⟨#[]⟩,.float .f64 0]) 8 96 underlying22 hj aA aB S rfl e8Q _ _ _ rfl (V HM _ _) ⟨wr.heap.size+1,0,none⟩ 1 1 (x0A (r,.slice none 0 0)) rfl rfl (V c) (V K) T7X f6J P8P ?_));intro I A D B _;obtain⟨hR,af⟩:=V Q _ I A (by rw[G];exact D) B;have HR:=O hR;go_wp2
     go_roundw
     case rel=>exact⟨k+1,L++[(r,.slice none 0 0)],g2D,f6J,by rw[V H];simp,by simp[G],V HR,af⟩
     case measure=>exact g7W
    ·have aF:(r.to.map (Value.int .i32)).length=r.to.length:=List.length_map _;rw[aF]at x4
     have hX:∀o,(wr.alloc o).cell? ⟨b,P+k*8+4,none⟩=some (.slice (some C) r.to.length J):=fun o=>U5u
     have hS:∀o,∀j u,(r.to.map (Value.int .i32))[j]?=some u->(wr.alloc o).cell? (C.add j)=some u:=fun o j u hu=>by
      have h:=ar j u hu;rw[Below.cell ((Below.refl wr.heap.size wr).alloc (l0r _) o) (World.block_lt_of_cell? _ _ h)];exact h
     have HS:=O hS;have aD:∀W a m,(store a (.float .f64 r.wt) m).run prog W=stored prog W a (.float .f64 r.wt) m:=fun W a m=>run_store prog W a _ m rfl;go_wp2_with(at_builtin;refine wpList_append_own _ rfl (.tmp 17) (.tmp 22) 36 rfl w.heap.size 21 i0 (.int .i32 0) 1 4 underlying36 hi d Y aH rfl e8Q _ _ _ rfl (World.ownsRow_nil _ _ _ _) C r.to.length J (r.to.map (Value.int .i32)) rfl (by simp) (V HS _) (fun u hu=>P0M) T7X f6J P8P ?_);intro v9 p t ae _;have y:Ok .i32 21 p w.heap.size v9 r.to:=Ok.of aq f6J t (by simp) (by simp)
     have R:p.heap[wr.heap.size]?=some (.cells (rarr r (.slice (some C) r.to.length J)) 60 (0,0)):=by
      rw[ae.block _ (by simp) V3P];show(wr.heap.push _)[wr.heap.size]?=_;simp[rarr]
     have s9:wr.heap.size+1<=p.heap.size:=(by simpa using ae.size);obtain⟨ab,x,aG,_,_⟩:=y.sk.shape;subst aG
     have hM:∀o,((p.setCell ⟨wr.heap.size,4,none⟩ (.slice ab r.to.length x)).alloc o).ownsRow w.heap.size 60 8 u3 L.length (rcells L):=fun o=>by
      refine World.ownsRow.alloc (x0w F.1 fun g h=>?_) o;have N:=(F.1.lt g h).2;rw[x0e _ f6J,ae.block g P8P V3P];exact((Below.refl wr.heap.size wr).alloc (l0r _) _).block g N
     have HM:=O hM;have Q:Hid (∀o I A,World.ownsRow A w.heap.size 60 8 I (L.length+1) (rcells L++x0A (r,.slice ab r.to.length x))->((p.setCell ⟨wr.heap.size,4,none⟩ (.slice ab r.to.length x)).alloc o).grownBy A u3.ownBlock->Rown A w.heap.size I (L++[(r,.slice ab r.to.length x)])/\Bw w A):=fun o I A a b=>y2q F T y ae a b;have y0:=cell_of (j:=0) R f1Y;have y1:=cell_of (j:=1) R f1Y;have y2:=cell_of (j:=2) R f1Y;have y3:=cell_of (j:=3) R f1Y;have y4:=cell_of (j:=4) R f1Y;have y5:=cell_of (j:=5) R f1Y;have y6:=cell_of (j:=6) R f1Y;have y7:=cell_of (j:=7) R f1Y;have yf:=x0d (j:=4) R;have z0:p.cell? ⟨wr.heap.size,0,none⟩=some (.int .i64 r.kind):=y0;have z1:p.cell? ⟨wr.heap.size,1,none⟩=some (.int .i64 r.lo):=y1;have z2:p.cell? ⟨wr.heap.size,2,none⟩=some (.int .i64 r.hi):=y2;have z3:p.cell? ⟨wr.heap.size,3,none⟩=some (.int .i64 r.n):=y3;have z4:p.cell? ⟨wr.heap.size,4,none⟩=some (.slice (some C) r.to.length J):=y4;have z5:p.cell? ⟨wr.heap.size,5,none⟩=some (.string r.name):=y5;have z6:p.cell? ⟨wr.heap.size,6,none⟩=some (.string r.other):=y6;have z7:p.cell? ⟨wr.heap.size,7,none⟩=some (.float .f64 r.wt):=y7;have ai:=x6h (p.setCell ⟨wr.heap.size,4,none⟩ (.slice ab r.to.length x)) p.heap.size (x0V _ _ _ _) r (.slice ab r.to.length x);have l:=x7l r (vt:=.slice ab r.to.length x) rfl;have c:=O ai;have K:=O l;go_wp2_with(at_builtin;refine wpList_append_own _ rfl (.tmp 25) (.tmp 27) 22 rfl w.heap.size 60 i1 (.agg #[.int .i64 0,.int .i64 0,.int .i64 0,.int .i64 0,.slice none 0 0,.string ⟨#[]⟩,.string ⟨#[]⟩,.float .f64 0]) 8 96 underlying22 hj aA aB S rfl e8Q _ _ _ rfl (V HM _) ⟨p.heap.size,0,none⟩ 1 1 (x0A (r,.slice ab r.to.length x)) rfl rfl (V c) (V K) T7X f6J P8P ?_);intro I A D B _;obtain⟨hR,af⟩:=V Q _ I A (by rw[G];exact D) B;have HR:=O hR;go_wp2
     go_roundw
     case rel=>exact⟨k+1,L++[(r,.slice ab r.to.length x)],g2D,f6J,by rw[V H];simp,by simp[G],V HR,af⟩
     case measure=>exact g7W
   ·obtain rfl:k=rs.length:=f6J;rw[List.take_length]at ag;have U:x6s w rs (.returned u3) wr:=⟨u3,L,rfl,ag,F,T⟩;exact m2N
theorem z4h b w:(callFunc 151 #[.float .f64 b]).run prog w=.ok (.value (.int .u64 b)) w:=by
 rw[run_callFunc_extern (e:=Extern.MathFloatBits.float64bits) func151 f4x f4x f4x f4x];rfl
theorem x3W b w:Calls prog 99 #[.float .f64 b] w fun e w'=>e=.returned (.int .u64 b)/\w'=w:=by
 have h:=fun w=>z4h b w;go_enter func99,ntmps99;go_wp2;go_ret;exact⟨rfl,rfl⟩
theorem y4L(t:ByteArray):(t.toList==t.toList)=true:=beq_self_eq_true _
theorem x5e{w v zs}(h:Sk .i32 w v zs) n:Sk .i32 (w.drewN n) v zs:=h.below (x0i ⟨n,rfl⟩)
theorem y0c r va vb w(g:Sk .i32 w va r.to)(Y:Sk .i32 w vb r.to)(S:r.to.length<=1000000000):Calls prog 51 #[recV r va,recV r vb] w (x0g w true):=by
 have x:=O (fun w=>x3W r.wt w)
 have q:Hid (∀E F n,Calls prog 98 #[va,vb] (((w.alloc E).alloc F).drewN n) (x3S (((w.alloc E).alloc F).drewN n) true)):=fun E F n=>by
  have I:Bw w ((w.alloc E).alloc F):=((b0r).alloc (l0r _) _).alloc M7M _;exact z4j va vb r.to _ (x5e (g.below I) n) (x5e (Y.below I) n) S
 obtain⟨B,ca,rfl,_,_⟩:=g.shape;obtain⟨G,Z,rfl,_,_⟩:=Y.shape;unfold recV;have C:=y4L r.name;have s:=y4L r.other;generalize r.kind=kd,r.n=n,r.lo=lo,r.hi=hi at *;generalize r.name=nm,r.other=ot,r.wt=J,r.to.length=D at *;have L:(kd==kd)=true:=beq_self_eq_true _;have f:(lo==lo)=true:=beq_self_eq_true _;have P:(hi==hi)=true:=beq_self_eq_true _;have T:(n==n)=true:=beq_self_eq_true _;have c:((J:Int)==(J:Int))=true:=beq_self_eq_true _;go_enter func51,ntmps51;go_wp2;go_big_quiet (first| exact Calls.quiet_of (V q _ _ _) | exact Calls.quiet_of_same (V x _));go_wp2;go_ret;exact⟨rfl,(((b0r).alloc (l0r _) _).alloc M7M _).trans ((x0i ⟨_,rfl⟩).mono P8P)⟩
theorem y3k v u rs w(N:Rcs w v rs)(hu:Rcs w u rs):Calls prog 23 #[v,u] w (x0g w true):=by
 have d:=N.1;rcases Nat.eq_zero_or_pos rs.length with h0 | h0
 ·obtain⟨ao,M,rfl,_,_⟩:=N.shape;obtain⟨Q,A,rfl,_,_⟩:=hu.shape;rw[h0];go_enter func23,ntmps23;go_wp2;refine wp_loop_rounds 1 ?_;rw[rounds_succ];exact T8u
 ·have X:=O (fun i hi=>N.fit (i:=i) hi);obtain⟨b,P,M,rfl,l,H,hc⟩:=N.place h0;obtain⟨f,R,A,rfl,c,o,x⟩:=hu.place h0;have HC:Hid (∀i,i<rs.length->∀W,Bw w W->RecAt W b (P+i*8) (rs.getD i Cn.none)/\RecAt W f (R+i*8) (rs.getD i Cn.none)):=fun i hi W Y=>⟨(hc i hi).below Y,(x i hi).below Y⟩;have J:((rs.length:Int) != (rs.length:Int))=false:=M7N;go_enter func23,ntmps23;go_wp2;go_loopw[5] (fun i wr=>∃k:Nat,i=.int .i64 k/\k<=rs.length/\Bw w wr) (fun i _=>rs.length-(intOf i).toNat)
  case atStart=>exact⟨0,rfl,f6J,b0r⟩
  case round =>
   obtain⟨k,rfl,hk,T⟩:=hrel;by_cases E:k<rs.length
   ·obtain⟨hA,m⟩:=V HC k E wr T;have z:=V X k E;have C:=z.len;generalize rs.getD k Cn.none=r at *;obtain⟨g,S,p,K,⟨B,j,t⟩,x5,x6,x7⟩:=hA;obtain⟨y0,y1,a,y3,⟨s,y4,U⟩,y5,y6,L⟩:=m;have KR:Hid (∀n,Calls prog 51 #[recV r B,recV r s] (wr.drewN n) (x0g (wr.drewN n) true)):=fun n=>y0c r B s _ (x5e t n) (x5e U n) C;unfold recV at KR;obtain⟨ao,ca,rfl,_,_⟩:=t.shape;obtain⟨G,Z,rfl,_,_⟩:=U.shape;generalize r.n=n,r.lo=lo at *;generalize r.hi=hi,r.name=y at *;generalize r.other=ot,r.wt=wt,r.to.length=D at *;go_wp2;go_region_with (refine(V KR _).mono ?_;rintro e w1 ⟨rfl,F⟩)
    all_goals
     have I:Bw w w1:=T.trans (Below.mono (bthen (x0i ⟨_,rfl⟩) F) T.size);go_wp2
     go_roundw
     case rel=>exact⟨k+1,g2A,f6J,I⟩
     case measure=>exact g7T
   ·clear HC X;go_wp2;go_ret;exact⟨rfl,T⟩
theorem cells3{W:World}{p a b c t}(h:W.heap[p]?=some (.cells #[a,b,c] t (0,0))):W.cell? ⟨p,0,none⟩=some a/\W.cell? ⟨p,1,none⟩=some b/\W.cell? ⟨p,2,none⟩=some c:=by simp[World.cell?,h]
theorem cells8{W:World}{p a b c d e f g i t}(h:W.heap[p]?=some (.cells #[a,b,c,d,e,f,g,i] t (0,0))):W.cell? ⟨p,0,none⟩=some a/\W.cell? ⟨p,1,none⟩=some b/\W.cell? ⟨p,2,none⟩=some c/\W.cell? ⟨p,3,none⟩=some d/\W.cell? ⟨p,4,none⟩=some e/\W.cell? ⟨p,5,none⟩=some f/\W.cell? ⟨p,6,none⟩=some g/\W.cell? ⟨p,7,none⟩=some i:=by simp[World.cell?,h]
theorem set3{W:World}{p a b c t} x y z(h:W.heap[p]?=some (.cells #[a,b,c] t (0,0))):∃U,((W.setCell ⟨p,0,none⟩ x).setCell ⟨p,1,none⟩ y).setCell ⟨p,2,none⟩ z=U/\U.heap[p]?=some (.cells #[x,y,z] t (0,0))/\(∀g,g≠p->U.heap[g]?=W.heap[g]?)/\W.heap.size<=U.heap.size/\∀B A,B<=p->Below B A W->Below B A U :=
 ⟨_,rfl,x0c (x0c (x0c h _) _) _,fun _ h=>by rw[x0e _ h,x0e _ h,x0e _ h],by rw[x0V,x0V,x0V];exact l0r _,fun _ _ h k=>x0b (x0b (x0b k h _) h _) h _⟩
