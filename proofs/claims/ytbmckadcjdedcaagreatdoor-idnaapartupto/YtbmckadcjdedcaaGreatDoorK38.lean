/- Lemmas. -/
import Derived.Test.YtbmckadcjdedcaaGreatDoorK37
import Derived.Lib.MinMaxS
import Derived.Test.YtbmckadcjdedcaaGreatDoorK39
import Derived.Test.YtbmckadcjdedcaaGreatDoorK26
import Derived.Test.YtbmckadcjdedcaaGreatDoorK40
set_option maxHeartbeats 4000000
set_option maxRecDepth 8000
namespace Go.Proofs.YtbmckadcjdedcaaGreatDoor
open Go.Proofs.Tryz
open Go.RowKit
open Ti
section
variable{p:Prop}
theorem I9N(h:p:=by rw[x3D,m];exact f6J):p:=h
theorem p7F(h:p:=by rw[V Y];exact f6J):p:=h
end
namespace Od
theorem x1F.below{w w' k g ms}(h:x1F w k g ms)(Q:Bw w w'):x1F w' k g ms:=by
 obtain⟨B,Z,D,R⟩:=h;refine⟨B,Z.below Q Z.lt,D,?_⟩;rcases R with R | ⟨j,M,t,P,f,J,o⟩
 ·exact Or.inl R
 ·exact Or.inr ⟨j,M,t,P,f,by rw[Q.block j (Array.getElem?_eq_some_iff.1 J).1];exact J,o⟩
theorem z9Y:Tryz.zeroCells228=(Value.slice none 0 0::ia z255).toArray:=f4x
theorem x1F.new(w:World) k:x1F (w.alloc (.cells Tryz.zeroCells228 228)) k w.heap.size []:=⟨.slice none 0 0,by rw[y3o];exact Blk.new w _ _ _ z9Y,rfl,Or.inl ⟨rfl,rfl⟩⟩
theorem x3c a b:ir (a++b)=ir a++ir b:=List.map_append
theorem y0x k g yb n cap D ms R C w(h:x1F w k g ms)(hy:Blk w yb 21 (ir (D++ms++R)++C))(E:D.length+ms.length=n)(F:n<=cap/\cap<=9223372036854775807)(G:Od.Mk k ms)(X:n<=3000000)(r:yb<g):Calls prog 150 #[.pointer (some ⟨g,0,none⟩),.slice (some ⟨yb,0,none⟩) n cap] w fun e w'=>e=.returned (.tuple #[])/\Blk w' yb 21 (ir (D++Od.bkt k ms++R)++C)/\x1F w' k g []/\Below yb w w':=by
 rcases Nat.eq_zero_or_pos ms.length with h0 | h0
 ·obtain rfl:=List.eq_nil_of_length_eq_zero h0;refine(x8c k g _ w h).mono ?_;rintro e w' ⟨rfl,rfl⟩;rw[Od.y6T];exact⟨rfl,hy,h,b0r⟩
 ·subst E
  have J:Blk w yb 21 (ir D++ir ms++(ir R++C)):=by
   rw[x3c,x3c]at hy;simpa[List.append_assoc]using hy
  refine(y5s k g yb D.length cap ms ms (ir D) (ir R++C) w h J (x3D D) rfl F G f6J f6J h0 r).mono ?_;rintro e w' ⟨rfl,a,b,c⟩;refine⟨rfl,?_,b,c⟩;rw[x3c,x3c];simpa[List.append_assoc]using a
theorem y5E k ms{c} l(h:k c=0):Od.ordA k ms (c::l)=Od.bkt k ms++c::Od.ordA k [] l:=by rw[Od.ordA,if_pos h]
theorem y5F k ms{c} l(h:k c≠0):Od.ordA k ms (c::l)=Od.ordA k (ms++[c]) l:=by rw[Od.ordA,if_neg h]
theorem y7H{xs:List Int}{i}(h:i<xs.length):xs.drop i=xs.getD i 0::xs.drop (i+1):=f0h
theorem y5O{p k} w0 w1(aA:∀c W,Rune c->Bw w0 W->Calls prog 98 #[.pointer (some ⟨p,0,none⟩),.int .i32 c] W (x1r W (k c)))(aC:∀c,0<=k c/\k c<=254)(hb:Bw w0 w1) yb cap xs C(j:w0.heap.size<=yb)(hy:Blk w1 yb 21 (ir xs++C))(l:∀z∈xs,Rune z)(ai:xs.length<=cap)(aj:cap<=9223372036854775807)(hl:xs.length<=3000000):Calls prog 97 #[.pointer (some ⟨p,0,none⟩),.slice (some ⟨yb,0,none⟩) xs.length cap] w1 fun e w'=>e=.returned (.tuple #[])/\Blk w' yb 21 (ir (Od.ord k xs)++C)/\Bw w0 w':=by
 have HR:=O aC;have HC:=O aA;obtain⟨g,hg⟩:∃g,w1.heap.size=g:=⟨_,rfl⟩;obtain⟨W2,R⟩:∃W2,w1.alloc (.cells Tryz.zeroCells228 228)=W2:=⟨_,rfl⟩;have aJ:=hy.lt;have r2:x1F W2 k g []:=(by rw[<- R,<- hg];exact x1F.new w1 k);have y2:Blk W2 yb 21 (ir xs++C):=(by rw[<- R];exact hy.alloc _);have b2:Bw w0 W2:=(by rw[<- R];exact hb.alloc hb.size _);have K:yb<g:=f6J;have aw:=O l;have Z:=O r2;have ay:=O y2;have ab:=O b2;obtain⟨n,hn⟩:∃n,xs.length=n:=⟨_,rfl⟩;have f:=O hn;rw[hn]at ai hl ⊢;have o:Hid (([]:List Int)++Od.ordA k [] (xs.drop 0)=Od.ord k xs):=(by show _=_;exact R6O);obtain⟨L,B⟩:∃r,Od.ord k xs=r:=⟨_,rfl⟩;rw[B]at o ⊢;go_enter func97,ntmps97;go_wp2;go_loopw[5,6,9] (fun _ _ u wr=>∃(i:Nat) (D t:List Int),u=.int .i64 i/\i<=n/\D.length+t.length=i/\Od.Mk k t/\D++Od.ordA k t (xs.drop i)=L/\x1F wr k g t/\Blk wr yb 21 (ir (D++t++xs.drop i)++C)/\Bw w0 wr) (fun _ _ u _=>n-(intOf u).toNat)
 case atStart=>exact⟨0,[],[],rfl,f6J,rfl,fun _ h=>(by cases h),V o,V Z,by simpa using V ay,V ab⟩
 case round =>
  obtain⟨i,D,t,rfl,aH,F,E,N,M,b,T⟩:=hrel;by_cases aD:i<n
  ·have a:i<xs.length:=(by rw[V f];exact aD);have am:=y7H a
   have X:wr.cell? ⟨yb,i,none⟩=some (.int .i32 (xs.getD i 0)):=by
    refine b.cell ?_;rw[List.getElem?_append_left (by rw[x3D];exact P8P),am,x3c,List.getElem?_append_right (by rw[x3D];exact P8P),x3D,List.length_append,F,Nat.sub_self];rfl
   have aG:Rune (xs.getD i 0):=V aw _ (by simp[List.getD,a]);have KC:=O (V HC (xs.getD i 0) wr aG T);obtain⟨q0,q1⟩:=V HR (xs.getD i 0);have v:=O M;have ag:=O b;have ar:=O T;have P:=O E;have G:=O N;have A:=O am;obtain⟨c,hc⟩:∃c,xs.getD i 0=c:=⟨_,rfl⟩;rw[hc]at X KC q0 q1 A;obtain⟨q,m⟩:∃q:Nat,k c=(q:Int):=⟨(k c).toNat,f6J⟩;rw[m]at KC;have Y:=O m;rw[m]at q0 q1;go_wp2_with fail;refine(V KC).mono ?_;rintro e1 d ⟨rfl,y,rfl⟩;have bd:Bw wr (wr.drewN y):=x0k ⟨y,rfl⟩;have H:x1F (wr.drewN y) k g t:=(V v).below bd;have I:Blk (wr.drewN y) yb 21 (ir (D++t++xs.drop i)++C):=(V ag).below bd (V ag).lt;have S:=x0b (V ar) bd;have aq:(wr.drewN y).cell? ⟨yb,i,none⟩=some (.int .i32 c):=(by rw[bd.cell (V ag).lt];exact X);generalize wr.drewN y=d at *;by_cases aF:q=0
   ·subst aF;have KL:=O (y0x k g yb i cap D t (xs.drop i) C d H I F ⟨f6J,aj⟩ (V P) f6J K);have ab:=O S
    have x:Hid ((D++Od.bkt k t++[c])++Od.ordA k [] (xs.drop (i+1))=L):=by
     have:=V G;rw[V A,y5E k t _ (V Y)]at this;show _=_;rw[<- this];simp
    have HL:Hid ((D++Od.bkt k t++[c]).length+([]:List Int).length=i+1):=by
     show _=_;simp[Od.x8H (V P)];omega
    go_wp2_with fail;refine(V KL).mono ?_;rintro e3 w3 ⟨rfl,U,Q,b3⟩;have s:Bw w0 w3:=(V ab).trans (b3.mono j);have J:=O U;have af:=O Q;have ae:=O s;go_wp2
    go_roundw
    case rel =>
     refine⟨i+1,D++Od.bkt k t++[c],[],g2A,f6J,V HL,fun _ h=>(by cases h),V x,V af,?_,V ae⟩;have:=V J;rw[V A]at this;exact W2P
    case measure=>exact g7V
   ·have KG:=O (y0r k g t c q d H (V Y) f6J f6J f6J);have ab:=O S;have az:=O I
    have x:Hid (D++Od.ordA k (t++[c]) (xs.drop (i+1))=L):=by
     have:=V G;rw[V A,y5F k t _ p7F]at this;exact this
    have aI:¬((q:Int)=0):=f6J;go_wp2_with fail;refine(V KG).mono ?_;rintro e3 w3 ⟨rfl,Q,b3⟩;have s:Bw w0 w3:=(V ab).trans (b3.mono f6J);have U:=(V az).below b3 K;have J:=O U;have af:=O Q;have ae:=O s;go_wp2
    go_roundw
    case rel =>
     refine⟨i+1,D,t++[c],g2A,f6J,P8P,Od.y2s (V P) p7F p7F,V x,V af,?_,V ae⟩;have:=V J;rw[V A]at this;exact W2P
    case measure=>exact g7V
  ·obtain rfl:i=n:=f6J;have aB:xs.drop i=[]:=List.drop_of_length_le (by rw[V f];exact f6J);rw[aB]at N b;have KL:=O (y0x k g yb i cap D t [] C wr M b F ⟨ai,aj⟩ E hl K);have HB:=O T;have x:Hid (D++Od.bkt k t++[]=L):=(by show _=_;rw[List.append_nil];exact N);go_wp2_with fail;refine(V KL).mono ?_;rintro e3 w3 ⟨rfl,U,Q,b3⟩;rw[V x]at U;have HF:=O (And.intro U ((V HB).trans (b3.mono j)));go_wp2;go_end0;exact⟨rfl,V HF⟩
theorem y9I{p k} w0 w1 v xs(E:∀c W,Rune c->Bw w0 W->Calls prog 98 #[.pointer (some ⟨p,0,none⟩),.int .i32 c] W (x1r W (k c)))(B:∀c,0<=k c/\k c<=254)(Q:Bw w0 w1)(J:Ok .i32 21 w1 w0.heap.size v xs)(S:xs.length<=3000000):Calls prog 97 #[.pointer (some ⟨p,0,none⟩),v] w1 fun e w'=>e=.returned (.tuple #[])/\Ok .i32 21 w' w0.heap.size v (Od.ord k xs)/\Bw w0 w':=by
 have l:∀z∈xs,Rune z:=fun z o=>⟨(J.1 z o).1,(J.1 z o).2⟩;have G:Fit .i32 (Od.ord k xs):=fun z o=>J.1 z (Od.y9y B o);have m:=Od.y9x B xs;rcases J.row.2 with⟨rfl,A⟩ | ⟨D,M,t,rfl,j,H,q,F,i,u⟩
 ·obtain rfl:=List.eq_nil_of_length_eq_zero A;obtain⟨g,C⟩:∃g,w1.heap.size=g:=⟨_,rfl⟩;obtain⟨x,R⟩:∃x,w1.alloc (.cells Tryz.zeroCells228 228)=x:=⟨_,rfl⟩;have r2:x1F x k g []:=(by rw[<- R,<- C];exact x1F.new w1 k);have K:Bw w0 x:=(by rw[<- R];exact Q.alloc Q.size _);have KL:=O (x8c k g (.slice none 0 0) x r2);have Y:Hid (Ok .i32 21 x w0.heap.size (.slice none 0 0) (Od.ord k [])/\Bw w0 x):=⟨by rw[show Od.ord k []=[]from Od.y6T k];exact n7g,K⟩;go_enter func97,ntmps97;go_wp2;refine wp_loop_rounds 1 ?_;rw[rounds_succ];go_wp2_with fail;refine(V KL).mono ?_;rintro e P ⟨rfl,rfl⟩;go_wp2;go_end0;exact M8S
 ·have s:Blk w1 D 21 (ir xs++t.toList.drop (xs.length*1)):=by
   have e:ir xs=t.toList.take (xs.length*1):=u.symm;rw[e,List.take_append_drop];unfold Blk;rw[H]
  refine(y5O w0 w1 E B Q D M xs _ j s l q S7V S).mono ?_;rintro e w' ⟨rfl,a,b⟩;refine⟨rfl,?_,b⟩;have U:t.toList.length=M*1:=(Array.length_toList (xs:=t)).trans i;refine Ok.of (n:=xs.length) (us:=ir (Od.ord k xs)) G (by rw[m];exact f6J) ⟨I9N,Or.inr ⟨D,M,_,rfl,j,a,q,F,?_,?_⟩⟩ m.symm rfl
  ·rw[List.size_toArray,List.length_append,x3D,m,List.length_drop,U];omega
  ·rw[List.take_append_of_le_length I9N,List.take_of_length_le I9N]
end Od
open Ti Od
namespace Cn
def nfd(rs:List Rec)(xs:List Int):List Int:=Od.ord (cls rs) (openAll rs xs)
end Cn
theorem x6r{B p rs w}(E:x0n w B p rs)(q:(Cn.check6 rs).2=0):∀c W,Rune c->Bw w W->Calls prog 98 #[.pointer (some ⟨p,0,none⟩),.int .i32 c] W (x1r W (Cn.cls rs c)):=fun c W T U=>by
 rw[Cn.z3n q];exact x7T c W (E.below U) q T
theorem x4a{rs}(G:(Cn.check rs).2=0):(Cn.check6 rs).2=0:=by
 exact(Cn.x0L.1 G).1
theorem y0H{B p rs} v xs w(C:Glob w)(E:x0n w B p rs)(G:(Cn.check rs).2=0)(J:Sk .i32 w v xs)(j:xs.length<=65536):Calls prog 56 #[.pointer (some ⟨p,0,none⟩),v] w (x0j w (Cn.nfd rs xs)):=by
 have q:=x4a G;have o:=O (y0M v xs w C E G J j);have M:=Cn.x3P G xs;have g:Hid (∀u I,Ok .i32 21 I w.heap.size u (Cn.openAll rs xs)->Bw w I->Calls prog 97 #[.pointer (some ⟨p,0,none⟩),u] I fun e l=>e=.returned (.tuple #[])/\Ok .i32 21 l w.heap.size u (Cn.nfd rs xs)/\Bw w l):=fun u I Z D=>y9I w I u _ (x6r E q) (fun c=>Cn.x4c q c) D Z f6J;obtain⟨X,F,z,r,s⟩:=J.shape;subst z;generalize Cn.openAll rs xs=zs,Cn.nfd rs xs=ys at *;go_enter func56,ntmps56;go_wp2_with fail;refine(V o).mono ?_;rintro P I ⟨u,rfl,a,b1⟩;have N:=O (V g u I a b1);obtain⟨L,H,k,_,_⟩:=a.sk.shape;subst k;go_wp2_with fail;refine(V N).mono ?_;rintro f d ⟨rfl,K,m⟩;have Y:Hid (x0j w ys (.returned (.slice L zs.length H)) d):=⟨_,rfl,K,m⟩;go_wp2;go_ret;exact V Y
theorem y9k{B p rs} v xs w(C:Glob w)(E:x0n w B p rs)(G:(Cn.check rs).2=0)(J:Sk .i32 w v xs):Calls prog 29 #[.pointer (some ⟨p,0,none⟩),v] w (if 65536<xs.length then SeqE w [] 2 else SeqE w (Cn.nfd rs xs) 0):=by
 obtain⟨X,F,z,r,s⟩:=J.shape;subst z;obtain⟨H,k⟩:∃H,w.alloc (.cells #[.slice X xs.length F] 40)=H:=⟨_,rfl⟩;have A:Bw w H:=(by rw[<- k];exact t9C);have Q:H.cell? ⟨w.heap.size,0,none⟩=some (.slice X xs.length F):=by rw[<- k];exact one_cell w X xs.length F _
 have o:=O (x9C p w.heap.size 1 [xs.length] H rfl f6J (fun i hi=>by
  obtain rfl:i=0:=f6J
  exact⟨X,F,Q,s,r⟩))
 have D:=O A;by_cases S:65536<xs.length
 ·rw[if_pos S];rw[show refN [xs.length]=2 by unfold refN;rw[List.any_cons,d0t S];rfl]at o;go_enter func29,ntmps29;go_wp2_with fail;refine(V o).mono ?_;rintro P I ⟨rfl,rfl⟩;have Y:Hid (SeqE w [] 2 (.returned (.tuple #[.slice none 0 0,.int .i64 2])) I):=⟨_,rfl,Ok.nil _ _ _ _,V D⟩;exact R5v
 ·rw[if_neg S];rw[show refN [xs.length]=0 by unfold refN;rw[List.any_cons,d0f S];rfl]at o;have g:=O (y0H _ xs H (C.on A) (E.below A) G (J.below A) f6J);generalize Cn.nfd rs xs=L at *;go_enter func29,ntmps29;go_wp2_with fail;refine(V o).mono ?_;rintro P I ⟨rfl,rfl⟩;go_wp2_with fail;refine(V g).mono ?_;rintro f d ⟨U,rfl,K,m⟩;have Y:Hid (SeqE w L 0 (.returned (.tuple #[U,.int .i64 0])) d):=⟨U,rfl,K.lower (V D).size,x0b (V D) m⟩;exact R5v
open Ti
namespace Cn
end Cn
open Ti
namespace Cn
theorem y9l{rs}(G:(check rs).2=0) xs:(nfd rs xs).length<=32*xs.length:=by
 unfold nfd;rw[Od.y9x (fun c=>x4c (x0L.1 G).1 c)];exact x3P G xs
end Cn
open Ti
theorem z1A{B p rs w}(E:x0n w B p rs)(q:(Cn.check6 rs).2=0):x2w 98 w p (Cn.vget rs 2):=fun c T W U=>x7T c W (E.below U) q T
theorem z5O{B p rs w}(E:x0n w B p rs)(q:(Cn.check6 rs).2=0):x2w 309 w p (Cn.vget rs 5):=fun c T W U=>y8H c W (E.below U) q T
namespace Cn
end Cn
open Ti
namespace Bd
end Bd
open Ti
namespace Cn
theorem y7l{rs}(q:(check6 rs).2=0) a b:Rune (cmp9 rs a b).1:=by
 unfold cmp9;split
 ·unfold sylOf;split
  ·rename_i h
   unfold jl jv at h;simp only[Bool.and_eq_true,decide_eq_true_eq]at h;unfold Rune;show -2147483648<=44032+((a-4352)*21+b-4449)*28/\44032+((a-4352)*21+b-4449)*28<=2147483647;omega
  ·split
   ·rename_i h
    unfold bare2 jt syl at h;simp only[Bool.and_eq_true,decide_eq_true_eq]at h;unfold Rune;show -2147483648<=a+b-4520+1/\a+b-4520+1<=2147483647;omega
   ·exact⟨e8N,e8N⟩
 ·cases hp:x2b rs a b with
  | none=>exact⟨e8N,e8N⟩
  | some p =>
   unfold x2b at hp;obtain⟨r,u,rfl⟩:=Option.map_eq_some_iff.1 hp;have y:=List.mem_reverse.1 (List.mem_of_find?_eq_some u);have A:isP a b r=true:=List.find?_some u;have hi:r.kind=7/\r.to.getD 0 0=a/\r.to.getD 1 0=b:=o0d A;have X:=x0o ((x0m.1 q).2.1 r y) f6J;unfold Rune;show -2147483648<=r.lo/\r.lo<=2147483647;omega
def of18(rs:List Rec)(X:List Int):Lb.Of:=⟨decide (X=Nm.cps (cls rs) (cmp9 rs) (nfd rs X)),fun c=>vget rs 6 c != 0,vget rs 1,decide (0<=Jn.chk (vget rs 2) (vget rs 5) X),Bd.y5Y (X.map (vget rs 4)) != 0⟩
end Cn
open Ti
theorem z8J{B p rs w}(E:x0n w B p rs)(G:(Cn.check rs).2=0):NmC p (Cn.cls rs) (Cn.cmp9 rs) w:=by
 have q:=x4a G;exact⟨Cn.x4c q,fun a b _ _=>Cn.y7l q a b,fun c T W U=>(x6r E q c W T U).mono fun _ _ h=>⟨h.1,x0k h.2⟩,fun a b H Q W U=>y0a a b W (E.below U) H Q⟩
theorem z3Q{B p rs w}(C:Glob w)(E:x0n w B p rs)(G:(Cn.check rs).2=0):NfdC p (Cn.nfd rs) w:=by
 refine⟨fun X=>Cn.y9l G X,fun f X W U J S=>?_⟩;have h:=y9k f X W (C.on U) (E.below U) G J;rw[if_neg f6J]at h;exact h
theorem isP18{B p rs w}(C:Glob w)(E:x0n w B p rs)(G:(Cn.check rs).2=0){xv X}(J:Sk .i32 w xv X)(j:X.length<=65536):Calls prog 204 #[.pointer (some ⟨p,0,none⟩),xv] w (fun e w'=>e=.returned (.tuple #[.bool (Cn.of18 rs X).nf,.int .i64 0])/\Bw w w'):=isN18 (z8J E G) (z3Q C E G) J f6J
open Ti
namespace Cn
end Cn
open Ti
namespace Cn
theorem y5U{r}(h:right r=0)(G:r.kind=9):0<=r.n/\r.n<=10:=by
 have U:=x0w h;unfold right at h;rw[if_neg U,if_neg f6J]at h;have T:=x1z h;rw[Bool.and_eq_true]at T;have D:=T.2;rw[if_neg f6J,if_neg f6J,if_neg f6J,if_neg f6J,if_neg f6J,if_neg f6J,if_neg f6J,if_neg f6J,if_pos G]at D;simp only[Bool.and_eq_true]at D;exact o0d D.2
theorem z1H{k}(h:fam k=4):k=9:=R8h
theorem z0K{rs}(q:(check6 rs).2=0) c:0<=vget rs 4 c/\vget rs 4 c<=10:=by
 unfold vget
 cases he:hit rs 4 c with
 | none=>grind
 | some r =>
  have y:=(x1U q e8N r).1 he;have G:=z1H y.2.1;have N:=y5U ((x0m.1 q).2.1 r y.1) G;show 0<=value r/\value r<=10;unfold value;rw[if_neg f6J,if_neg f6J,if_neg f6J,if_neg f6J,if_neg f6J];exact N
end Cn
theorem z8S{B p rs w}(E:x0n w B p rs)(q:(Cn.check6 rs).2=0):x8z p (Cn.vget rs 4) w:=⟨Cn.z0K q,fun c T W U=>(y6S c W (E.below U) q T).mono fun _ _ h=>⟨h.1,x0k h.2⟩⟩
open Ti
theorem plb18{B p rs w}(C:Glob w)(E:x0n w B p rs)(G:(Cn.check rs).2=0){xv X}(J:Sk .i32 w xv X)(j:X.length<=65536):PLbC p xv X (Cn.of18 rs X) w:=by
 have q:=x4a G;refine⟨fun W U=>isP18 (C.on U) (E.below U) G (J.below U) j,fun c T W U=>?_,fun c T W U=>?_,⟨_,rfl,fun W U=>?_⟩,⟨_,rfl,fun W U=>?_⟩⟩
 ·exact(y9a c W (E.below U) q T).mono fun _ _ h=>⟨h.1,x0k h.2⟩
 ·exact(x7g c W (E.below U) q T).mono fun _ _ h=>⟨h.1,x0k h.2⟩
 ·exact y1J (z1A (E.below U) q) (z5O (E.below U) q) (J.below U)
 ·exact z9s (z8S (E.below U) q) (J.below U)
