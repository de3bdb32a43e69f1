/- Lemmas. -/
import Derived.Test.YtkfcabdmkmljjaaGreatDoorG34
import Derived.Lib.MinMaxS
import Derived.Test.YtkfcabdmkmljjaaGreatDoorG36
import Derived.Test.YtkfcabdmkmljjaaGreatDoorG23
import Derived.Test.YtkfcabdmkmljjaaGreatDoorG37
set_option maxHeartbeats 4000000
set_option maxRecDepth 8000
namespace Go.Proofs.YtkfcabdmkmljjaaGreatDoor
open Go.Proofs.Tryz
open Go.RowKit
open Ti
section
variable{p:Prop}
theorem N0R(h:p:=by rw[x3q,y];exact f6J):p:=h
theorem N4H(h:p:=by rw[V o];exact f6J):p:=h
theorem f5C(h:p:=by rw[<- l];exact Y.alloc Y.size _):p:=h
end
namespace Od
theorem x1B.below{w w' k g ms}(h:x1B w k g ms)(Y:Bw w w'):x1B w' k g ms:=by
 obtain⟨A,Z,D,J⟩:=h;refine⟨A,Z.below Y Z.lt,D,?_⟩;rcases J with J | ⟨j,M,P,t,E,N,R⟩
 ·exact Or.inl J
 ·exact Or.inr ⟨j,M,P,t,E,by rw[Y.block j (Array.getElem?_eq_some_iff.1 N).1];exact N,R⟩
theorem q1P:Tryz.zeroCells292=(Value.slice none 0 0::ia z255).toArray:=f4x
theorem x1B.new(w:World) k:x1B (w.alloc (.cells Tryz.zeroCells292 292)) k w.heap.size []:=⟨.slice none 0 0,by rw[y4e];exact Blk.new w _ _ _ q1P,rfl,Or.inl ⟨rfl,rfl⟩⟩
theorem x2L a b:ir (a++b)=ir a++ir b:=List.map_append
theorem y1m k g yb n cap D ms R C w(h:x1B w k g ms)(hy:Blk w yb 21 (ir (D++ms++R)++C))(F:D.length+ms.length=n)(W:n<=cap/\cap<=9223372036854775807)(G:Od.Mk k ms)(L:n<=3000000)(Z:yb<g):Calls prog 211 #[.pointer (some ⟨g,0,none⟩),.slice (some ⟨yb,0,none⟩) n cap] w fun e w'=>e=.returned (.tuple #[])/\Blk w' yb 21 (ir (D++Od.bkt k ms++R)++C)/\x1B w' k g []/\Below yb w w':=by
 rcases Nat.eq_zero_or_pos ms.length with h0 | h0
 ·obtain rfl:=List.eq_nil_of_length_eq_zero h0;refine(x8C k g _ w h).mono ?_;rintro e w' ⟨rfl,rfl⟩;rw[Od.x6z];exact⟨rfl,hy,h,b0r⟩
 ·subst F
  have S:Blk w yb 21 (ir D++ir ms++(ir R++C)):=by
   rw[x2L,x2L]at hy;simpa[List.append_assoc]using hy
  refine(y6m k g yb D.length cap ms ms (ir D) (ir R++C) w h S (x3q D) rfl W G f6J f6J h0 Z).mono ?_;rintro e w' ⟨rfl,a,b,c⟩;refine⟨rfl,?_,b,c⟩;rw[x2L,x2L];simpa[List.append_assoc]using a
theorem y6z k ms{c} l(h:k c=0):Od.ordA k ms (c::l)=Od.bkt k ms++c::Od.ordA k [] l:=by rw[Od.ordA,if_pos h]
theorem y6A k ms{c} l(h:k c≠0):Od.ordA k ms (c::l)=Od.ordA k (ms++[c]) l:=by rw[Od.ordA,if_neg h]
theorem y8E{xs:List Int}{i}(h:i<xs.length):xs.drop i=xs.getD i 0::xs.drop (i+1):=f0h
theorem y6K{p k} w0 w1(aB:∀c W,Rune c->Bw w0 W->Calls prog 161 #[.pointer (some ⟨p,0,none⟩),.int .i32 c] W (x1o W (k c)))(aC:∀c,0<=k c/\k c<=254)(Y:Bw w0 w1) yb cap xs C(aw:w0.heap.size<=yb)(hy:Blk w1 yb 21 (ir xs++C))(s:∀z∈xs,Rune z)(aj:xs.length<=cap)(am:cap<=9223372036854775807)(hl:xs.length<=3000000):Calls prog 160 #[.pointer (some ⟨p,0,none⟩),.slice (some ⟨yb,0,none⟩) xs.length cap] w1 fun e w'=>e=.returned (.tuple #[])/\Blk w' yb 21 (ir (Od.ord k xs)++C)/\Bw w0 w':=by
 have HR:=O aC;have HC:=O aB;obtain⟨g,hg⟩:∃g,w1.heap.size=g:=⟨_,rfl⟩;obtain⟨x,l⟩:∃x,w1.alloc (.cells Tryz.zeroCells292 292)=x:=⟨_,rfl⟩;have aI:=hy.lt;have r2:x1B x k g []:=(by rw[<- l,<- hg];exact x1B.new w1 k);have y2:Blk x yb 21 (ir xs++C):=(by rw[<- l];exact hy.alloc _);have b2:Bw w0 x:=f5C;have ai:yb<g:=f6J;have ay:=O s;have Z:=O r2;have az:=O y2;have ab:=O b2;obtain⟨n,hn⟩:∃n,xs.length=n:=⟨_,rfl⟩;have HN:=O hn;rw[hn]at aj hl ⊢;have j:Hid (([]:List Int)++Od.ordA k [] (xs.drop 0)=Od.ord k xs):=(by show _=_;exact R6P);obtain⟨A,S⟩:∃r,Od.ord k xs=r:=⟨_,rfl⟩;rw[S]at j ⊢;go_enter func160,ntmps160;go_wp2;go_loopw[5,6,9] (fun _ _ ii wr=>∃(i:Nat) (D Q:List Int),ii=.int .i64 i/\i<=n/\D.length+Q.length=i/\Od.Mk k Q/\D++Od.ordA k Q (xs.drop i)=A/\x1B wr k g Q/\Blk wr yb 21 (ir (D++Q++xs.drop i)++C)/\Bw w0 wr) (fun _ _ ii _=>n-(intOf ii).toNat)
 case atStart=>exact⟨0,[],[],rfl,f6J,rfl,fun _ h=>(by cases h),V j,V Z,by simpa using V az,V ab⟩
 case round =>
  obtain⟨i,D,Q,rfl,aG,F,ar,B,L,v,ag⟩:=hrel;by_cases aD:i<n
  ·have R:i<xs.length:=(by rw[V HN];exact aD);have aq:=y8E R
   have K:wr.cell? ⟨yb,i,none⟩=some (.int .i32 (xs.getD i 0)):=by
    refine v.cell ?_;rw[List.getElem?_append_left (by rw[x3q];exact P8P),aq,x2L,List.getElem?_append_right (by rw[x3q];exact P8P),x3q,List.length_append,F,Nat.sub_self];rfl
   have y:Rune (xs.getD i 0):=V ay _ (by simp[List.getD,R]);have b:=O (V HC (xs.getD i 0) wr y ag);obtain⟨q0,q1⟩:=V HR (xs.getD i 0);have N:=O L;have E:=O v;have a:=O ag;have d:=O ar;have G:=O B;have ae:=O aq;obtain⟨c,hc⟩:∃c,xs.getD i 0=c:=⟨_,rfl⟩;rw[hc]at K b q0 q1 ae;obtain⟨q,hq⟩:∃q:Nat,k c=(q:Int):=⟨(k c).toNat,f6J⟩;rw[hq]at b;have o:=O hq;rw[hq]at q0 q1;go_wp2_with fail;refine(V b).mono ?_;rintro e1 w2 ⟨rfl,u,rfl⟩;have f:Bw wr (wr.drewN u):=x0i ⟨u,rfl⟩;have H:x1B (wr.drewN u) k g Q:=(V N).below f;have I:Blk (wr.drewN u) yb 21 (ir (D++Q++xs.drop i)++C):=(V E).below f (V E).lt;have U:=bthen (V a) f;have M:(wr.drewN u).cell? ⟨yb,i,none⟩=some (.int .i32 c):=(by rw[f.cell (V E).lt];exact K);generalize wr.drewN u=w2 at *;by_cases aF:q=0
   ·subst aF;have KL:=O (y1m k g yb i cap D Q (xs.drop i) C w2 H I F ⟨f6J,am⟩ (V d) f6J ai);have ab:=O U
    have HE:Hid ((D++Od.bkt k Q++[c])++Od.ordA k [] (xs.drop (i+1))=A):=by
     have:=V G;rw[V ae,y6z k Q _ (V o)]at this;show _=_;rw[<- this];simp
    have HL:Hid ((D++Od.bkt k Q++[c]).length+([]:List Int).length=i+1):=by
     show _=_;simp[Od.x9k (V d)];omega
    go_wp2_with fail;refine(V KL).mono ?_;rintro e3 w3 ⟨rfl,m,P,b3⟩;have t:Bw w0 w3:=(V ab).trans (b3.mono aw);have af:=O m;have X:=O P;have J:=O t;go_wp2
    go_roundw
    case rel =>
     refine⟨i+1,D++Od.bkt k Q++[c],[],g2B,f6J,V HL,fun _ h=>(by cases h),V HE,V X,?_,V J⟩;have:=V af;rw[V ae]at this;exact W2P
    case measure=>exact g7W
   ·have KG:=O (y1e k g Q c q w2 H (V o) f6J f6J f6J);have ab:=O U;have aA:=O I
    have HE:Hid (D++Od.ordA k (Q++[c]) (xs.drop (i+1))=A):=by
     have:=V G;rw[V ae,y6A k Q _ N4H]at this;exact this
    have aH:¬((q:Int)=0):=f6J;go_wp2_with fail;refine(V KG).mono ?_;rintro e3 w3 ⟨rfl,P,b3⟩;have t:Bw w0 w3:=(V ab).trans (b3.mono f6J);have m:=(V aA).below b3 ai;have af:=O m;have X:=O P;have J:=O t;go_wp2
    go_roundw
    case rel =>
     refine⟨i+1,D,Q++[c],g2B,f6J,P8P,Od.y3d (V d) N4H N4H,V HE,V X,?_,V J⟩;have:=V af;rw[V ae]at this;exact W2P
    case measure=>exact g7W
  ·obtain rfl:i=n:=f6J;have T:xs.drop i=[]:=List.drop_of_length_le (by rw[V HN];exact f6J);rw[T]at B v;have KL:=O (y1m k g yb i cap D Q [] C wr L v F ⟨aj,am⟩ ar hl ai);have HB:=O ag;have HE:Hid (D++Od.bkt k Q++[]=A):=(by show _=_;rw[List.append_nil];exact B);go_wp2_with fail;refine(V KL).mono ?_;rintro e3 w3 ⟨rfl,m,P,b3⟩;rw[V HE]at m;have HF:=O (And.intro m ((V HB).trans (b3.mono aw)));go_wp2;go_end0;exact⟨rfl,V HF⟩
theorem z0M{p k} w0 w1 v xs(F:∀c W,Rune c->Bw w0 W->Calls prog 161 #[.pointer (some ⟨p,0,none⟩),.int .i32 c] W (x1o W (k c)))(A:∀c,0<=k c/\k c<=254)(Y:Bw w0 w1)(X:Ok .i32 21 w1 w0.heap.size v xs)(S:xs.length<=3000000):Calls prog 160 #[.pointer (some ⟨p,0,none⟩),v] w1 fun e w'=>e=.returned (.tuple #[])/\Ok .i32 21 w' w0.heap.size v (Od.ord k xs)/\Bw w0 w':=by
 have s:∀z∈xs,Rune z:=fun z T=>⟨(X.1 z T).1,(X.1 z T).2⟩;have K:Fit .i32 (Od.ord k xs):=fun z T=>X.1 z (Od.z0A A T);have y:=Od.z0z A xs;rcases X.row.2 with⟨rfl,R⟩ | ⟨I,M,P,rfl,L,J,H,Q,E,D⟩
 ·obtain rfl:=List.eq_nil_of_length_eq_zero R;obtain⟨g,C⟩:∃g,w1.heap.size=g:=⟨_,rfl⟩;obtain⟨x,l⟩:∃x,w1.alloc (.cells Tryz.zeroCells292 292)=x:=⟨_,rfl⟩;have r2:x1B x k g []:=(by rw[<- l,<- C];exact x1B.new w1 k);have m:Bw w0 x:=f5C;have KL:=O (x8C k g (.slice none 0 0) x r2);have U:Hid (Ok .i32 21 x w0.heap.size (.slice none 0 0) (Od.ord k [])/\Bw w0 x):=⟨by rw[show Od.ord k []=[]from Od.x6z k];exact n7g,m⟩;go_enter func160,ntmps160;go_wp2;refine wp_loop_rounds 1 ?_;rw[rounds_succ];go_wp2_with fail;refine(V KL).mono ?_;rintro e B ⟨rfl,rfl⟩;go_wp2;go_end0;exact t8u
 ·have hy:Blk w1 I 21 (ir xs++P.toList.drop (xs.length*1)):=by
   have e:ir xs=P.toList.take (xs.length*1):=D.symm;rw[e,List.take_append_drop];unfold Blk;rw[J]
  refine(y6K w0 w1 F A Y I M xs _ L hy s H (by unfold maxLen at Q;exact f6J) S).mono ?_;rintro e w' ⟨rfl,a,b⟩;refine⟨rfl,?_,b⟩;have G:P.toList.length=M*1:=(Array.length_toList (xs:=P)).trans E;refine Ok.of (n:=xs.length) (us:=ir (Od.ord k xs)) K (by rw[y];exact f6J) ⟨N0R,Or.inr ⟨I,M,_,rfl,L,a,H,Q,?_,?_⟩⟩ y.symm rfl
  ·rw[List.size_toArray,List.length_append,x3q,y,List.length_drop,G];omega
  ·rw[List.take_append_of_le_length N0R,List.take_of_length_le N0R]
end Od
open Ti Od
namespace Cn
def nfd(rs:List Rec)(xs:List Int):List Int:=Od.ord (cls rs) (openAll rs xs)
end Cn
theorem x6C{B p rs w}(F:x0m w B p rs)(q:(Cn.check6 rs).2=0):∀c W,Rune c->Bw w W->Calls prog 161 #[.pointer (some ⟨p,0,none⟩),.int .i32 c] W (x1o W (Cn.cls rs c)):=fun c W I P=>by
 rw[Cn.z4Q q];exact x8s c W (F.below P) q I
theorem x3V{rs}(G:(Cn.check rs).2=0):(Cn.check6 rs).2=0:=by
 exact(Cn.x0I.1 G).1
theorem y1w{B p rs} v xs w(C:Glob w)(F:x0m w B p rs)(G:(Cn.check rs).2=0)(A:Sk .i32 w v xs)(z:xs.length<=65536):Calls prog 112 #[.pointer (some ⟨p,0,none⟩),v] w (x0h w (Cn.nfd rs xs)):=by
 have q:=x3V G;have M:=O (y1B v xs w C F G A z);have b:=Cn.x3E G xs;have g:Hid (∀u Q,Ok .i32 21 Q w.heap.size u (Cn.openAll rs xs)->Bw w Q->Calls prog 160 #[.pointer (some ⟨p,0,none⟩),u] Q fun e o=>e=.returned (.tuple #[])/\Ok .i32 21 o w.heap.size u (Cn.nfd rs xs)/\Bw w o):=fun u Q Z D=>z0M w Q u _ (x6C F q) (fun c=>Cn.x3X q c) D Z f6J;obtain⟨H,I,r,d,X⟩:=A.shape;subst r;generalize Cn.openAll rs xs=zs,Cn.nfd rs xs=ys at *;go_enter func112,ntmps112;go_wp2_with fail;refine(V M).mono ?_;rintro t Q ⟨u,rfl,s,b1⟩;have S:=O (V g u Q s b1);obtain⟨K,J,k,_,_⟩:=s.sk.shape;subst k;go_wp2_with fail;refine(V S).mono ?_;rintro E T ⟨rfl,W,m⟩;have U:Hid (x0h w ys (.returned (.slice K zs.length J)) T):=⟨_,rfl,W,m⟩;go_wp2;go_ret;exact V U
theorem z0k{B p rs} v xs w(C:Glob w)(F:x0m w B p rs)(G:(Cn.check rs).2=0)(A:Sk .i32 w v xs):Calls prog 64 #[.pointer (some ⟨p,0,none⟩),v] w (if 65536<xs.length then SeqE w [] 2 else SeqE w (Cn.nfd rs xs) 0):=by
 obtain⟨H,I,K,d,X⟩:=A.shape;subst K;obtain⟨J,T⟩:∃J,w.alloc (.cells #[.slice H xs.length I] 36)=J:=⟨_,rfl⟩;have f:Bw w J:=(by rw[<- T];exact t9C);have r:J.cell? ⟨w.heap.size,0,none⟩=some (.slice H xs.length I):=by rw[<- T];exact one_cell w H xs.length I _
 have q:=O (y0i p w.heap.size 1 [xs.length] J rfl f6J (fun i hi=>by
  obtain rfl:i=0:=f6J
  exact⟨H,I,r,X,d⟩))
 have x:=O f;by_cases S:65536<xs.length
 ·rw[if_pos S];rw[show refN [xs.length]=2 by unfold refN;rw[List.any_cons,d0t S];rfl]at q;go_enter func64,ntmps64;go_wp2_with fail;refine(V q).mono ?_;rintro t Q ⟨rfl,rfl⟩;have U:Hid (SeqE w [] 2 (.returned (.tuple #[.slice none 0 0,.int .i64 2])) Q):=⟨_,rfl,Ok.nil _ _ _ _,V x⟩;exact N8p
 ·rw[if_neg S];rw[show refN [xs.length]=0 by unfold refN;rw[List.any_cons,d0f S];rfl]at q;have g:=O (y1w _ xs J (C.on f) (F.below f) G (A.below f) f6J);generalize Cn.nfd rs xs=M at *;go_enter func64,ntmps64;go_wp2_with fail;refine(V q).mono ?_;rintro t Q ⟨rfl,rfl⟩;go_wp2_with fail;refine(V g).mono ?_;rintro E L ⟨o,rfl,W,m⟩;have U:Hid (SeqE w M 0 (.returned (.tuple #[o,.int .i64 0])) L):=⟨o,rfl,W.lower (V x).size,bthen (V x) m⟩;exact N8p
open Ti
namespace Cn
end Cn
open Ti
namespace Cn
theorem z0l{rs}(G:(check rs).2=0) xs:(nfd rs xs).length<=32*xs.length:=by
 unfold nfd;rw[Od.z0z (fun c=>x3X (x0I.1 G).1 c)];exact x3E G xs
end Cn
open Ti
theorem z2Q{B p rs w}(F:x0m w B p rs)(q:(Cn.check6 rs).2=0):x2n 161 w p (Cn.vget rs 2):=fun c I W P=>x8s c W (F.below P) q I
theorem z7u{B p rs w}(F:x0m w B p rs)(q:(Cn.check6 rs).2=0):x2n 311 w p (Cn.vget rs 5):=fun c I W P=>y9E c W (F.below P) q I
namespace Cn
end Cn
open Ti
namespace Bd
end Bd
open Ti
namespace Cn
theorem y8q{rs}(q:(check6 rs).2=0) a b:Rune (cmp9 rs a b).1:=by
 unfold cmp9;split
 ·unfold sylOf;split
  ·rename_i h
   unfold jl jv at h;simp only[Bool.and_eq_true,decide_eq_true_eq]at h;unfold Rune;show -2147483648<=44032+((a-4352)*21+b-4449)*28/\44032+((a-4352)*21+b-4449)*28<=2147483647;omega
  ·split
   ·rename_i h
    unfold bare2 jt syl at h;simp only[Bool.and_eq_true,decide_eq_true_eq]at h;unfold Rune;show -2147483648<=a+b-4520+1/\a+b-4520+1<=2147483647;omega
   ·exact⟨e8N,e8N⟩
 ·cases hp:x1T rs a b with
  | none=>exact⟨e8N,e8N⟩
  | some p =>
   unfold x1T at hp;obtain⟨r,u,rfl⟩:=Option.map_eq_some_iff.1 hp;have z:=List.mem_reverse.1 (List.mem_of_find?_eq_some u);have A:isP a b r=true:=List.find?_some u;have hi:r.kind=7/\r.to.getD 0 0=a/\r.to.getD 1 0=b:=o0d A;have L:=x0p ((x0k.1 q).2.1 r z) f6J;unfold Rune;show -2147483648<=r.lo/\r.lo<=2147483647;omega
def of18(rs:List Rec)(X:List Int):Lb.Of:=⟨decide (X=Nm.cps (cls rs) (cmp9 rs) (nfd rs X)),fun c=>vget rs 6 c != 0,vget rs 1,decide (0<=Jn.chk (vget rs 2) (vget rs 5) X),Bd.y6U (X.map (vget rs 4)) != 0⟩
end Cn
open Ti
theorem q0D{B p rs w}(F:x0m w B p rs)(G:(Cn.check rs).2=0):NmC p (Cn.cls rs) (Cn.cmp9 rs) w:=by
 have q:=x3V G;exact⟨Cn.x3X q,fun a b _ _=>Cn.y8q q a b,fun c I W P=>(x6C F q c W I P).mono fun _ _ h=>⟨h.1,x0i h.2⟩,fun a b d Y W P=>y0K a b W (F.below P) d Y⟩
theorem z5z{B p rs w}(C:Glob w)(F:x0m w B p rs)(G:(Cn.check rs).2=0):NfdC p (Cn.nfd rs) w:=by
 refine⟨fun X=>Cn.z0l G X,fun u X W P A S=>?_⟩;have h:=z0k u X W (C.on P) (F.below P) G A;rw[if_neg f6J]at h;exact h
theorem isP18{B p rs w}(C:Glob w)(F:x0m w B p rs)(G:(Cn.check rs).2=0){xv X}(A:Sk .i32 w xv X)(z:X.length<=65536):Calls prog 14 #[.pointer (some ⟨p,0,none⟩),xv] w (fun e w'=>e=.returned (.tuple #[.bool (Cn.of18 rs X).nf,.int .i64 0])/\Bw w w'):=isN18 (q0D F G) (z5z C F G) A f6J
open Ti
namespace Cn
end Cn
open Ti
namespace Cn
theorem y6Q{r}(h:right r=0)(G:r.kind=9):0<=r.n/\r.n<=10:=by
 have o:=x0x h;unfold right at h;rw[if_neg o,if_neg f6J]at h;have I:=x1x h;rw[Bool.and_eq_true]at I;have D:=I.2;rw[if_neg f6J,if_neg f6J,if_neg f6J,if_neg f6J,if_neg f6J,if_neg f6J,if_neg f6J,if_neg f6J,if_pos G]at D;simp only[Bool.and_eq_true]at D;exact o0d D.2
theorem z2Y{k}(h:fam k=4):k=9:=R8h
theorem z1N{rs}(q:(check6 rs).2=0) c:0<=vget rs 4 c/\vget rs 4 c<=10:=by
 unfold vget
 cases he:hit rs 4 c with
 | none=>grind
 | some r =>
  have z:=(x1M q e8N r).1 he;have G:=z2Y z.2.1;have N:=y6Q ((x0k.1 q).2.1 r z.1) G;show 0<=value r/\value r<=10;unfold value;rw[if_neg f6J,if_neg f6J,if_neg f6J,if_neg f6J,if_neg f6J];exact N
end Cn
theorem q0N{B p rs w}(F:x0m w B p rs)(q:(Cn.check6 rs).2=0):x9a p (Cn.vget rs 4) w:=⟨Cn.z1N q,fun c I W P=>(y7X c W (F.below P) q I).mono fun _ _ h=>⟨h.1,x0i h.2⟩⟩
open Ti
theorem plb18{B p rs w}(C:Glob w)(F:x0m w B p rs)(G:(Cn.check rs).2=0){xv X}(A:Sk .i32 w xv X)(z:X.length<=65536):PLbC p xv X (Cn.of18 rs X) w:=by
 have q:=x3V G;refine⟨fun W P=>isP18 (C.on P) (F.below P) G (A.below P) z,fun c I W P=>?_,fun c I W P=>?_,⟨_,rfl,fun W P=>?_⟩,⟨_,rfl,fun W P=>?_⟩⟩
 ·exact(y9Y c W (F.below P) q I).mono fun _ _ h=>⟨h.1,x0i h.2⟩
 ·exact(x7B c W (F.below P) q I).mono fun _ _ h=>⟨h.1,x0i h.2⟩
 ·exact y2w (z2Q (F.below P) q) (z7u (F.below P) q) (A.below P)
 ·exact q1f (q0N (F.below P) q) (A.below P)
