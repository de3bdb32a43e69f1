import Derived.Test.YtbmckadcjdedcaaGreatDoorF37
import Derived.Lib.MinMaxS
import Derived.Test.YtbmckadcjdedcaaGreatDoorF39
import Derived.Test.YtbmckadcjdedcaaGreatDoorF26
import Derived.Test.YtbmckadcjdedcaaGreatDoorF40
set_option maxHeartbeats 4000000
set_option maxRecDepth 8000
namespace Go.Proofs.YtbmckadcjdedcaaGreatDoor
open Go.Proofs.Tryz
open Go.RowKit
open Ti
section
variable{p:Prop}
theorem G4b(h:p:=by rw[x3G,m];exact f6J):p:=h
theorem v3R(h:p:=by rw[V T];exact f6J):p:=h
theorem u6E(h:p:=by rw[<- Q];exact Y.alloc Y.size _):p:=h
end
namespace Od
theorem x1F.below{w w' k g ms}(h:x1F w k g ms)(Y:Bw w w'):x1F w' k g ms:=by
 obtain⟨B,Z,D,R⟩:=h;refine⟨B,Z.below Y Z.lt,D,?_⟩;rcases R with R|⟨j,M,T,P,f,E,o⟩
 ·exact Or.inl R
 ·exact Or.inr ⟨j,M,T,P,f,by rw[Y.block j (Array.getElem?_eq_some_iff.1 E).1];exact E,o⟩
theorem z9Y:Tryz.zeroCells228=(Value.slice none 0 0::ia z255).toArray:=f4x
theorem x1F.new(w:World) k:x1F (w.alloc (.cells Tryz.zeroCells228 228)) k w.heap.size []:=⟨.slice none 0 0,by rw[y3y];exact Blk.new w _ _ _ z9Y,rfl,Or.inl ⟨rfl,rfl⟩⟩
theorem x3g a b:ir (a++b)=ir a++ir b:=List.map_append
theorem y0G k g yb n cap D ms R C w(h:x1F w k g ms)(hy:Blk w yb 21 (ir (D++ms++R)++C))(E:D.length+ms.length=n)(t:n<=cap/\cap<=9223372036854775807)(G:Od.Mk k ms)(U:n<=3000000)(B:yb<g):Calls prog 150 #[.pointer (some ⟨g,0,none⟩),.slice (some ⟨yb,0,none⟩) n cap] w fun e w'=>e=.returned (.tuple #[])/\Blk w' yb 21 (ir (D++Od.bkt k ms++R)++C)/\x1F w' k g []/\Below yb w w':=by
 rcases Nat.eq_zero_or_pos ms.length with h0|h0
 ·obtain rfl:=List.eq_nil_of_length_eq_zero h0;refine(x8g k g _ w h).mono ?_;rintro e w' ⟨rfl,rfl⟩;rw[Od.y7d];exact⟨rfl,hy,h,b0r⟩
 ·subst E
  have y:Blk w yb 21 (ir D++ir ms++(ir R++C)):=by
   rw[x3g,x3g]at hy;simpa[List.append_assoc]using hy
  refine(y5C k g yb D.length cap ms ms (ir D) (ir R++C) w h y (x3G D) rfl t G f6J f6J h0 B).mono ?_;rintro e w' ⟨rfl,a,b,c⟩;refine⟨rfl,?_,b,c⟩;rw[x3g,x3g];simpa[List.append_assoc]using a
theorem y5O k ms{c} l(h:k c=0):Od.ordA k ms (c::l)=Od.bkt k ms++c::Od.ordA k [] l:=by rw[Od.ordA,if_pos h]
theorem y5P k ms{c} l(h:k c≠0):Od.ordA k ms (c::l)=Od.ordA k (ms++[c]) l:=by rw[Od.ordA,if_neg h]
theorem y7N{xs:List Int}{i}(h:i<xs.length):xs.drop i=xs.getD i 0::xs.drop (i+1):=f0h
theorem y5Z{p k} w0 w1(t:∀c W,Rune c->Bw w0 W->Calls prog 98 #[.pointer (some ⟨p,0,none⟩),.int .i32 c] W (x1r W (k c)))(aG:∀c,0<=k c/\k c<=254)(Y:Bw w0 w1) yb cap xs C(aA:w0.heap.size<=yb)(hy:Blk w1 yb 21 (ir xs++C))(l:∀z∈xs,Rune z)(o:xs.length<=cap)(ar:cap<=9223372036854775807)(hl:xs.length<=3000000):Calls prog 97 #[.pointer (some ⟨p,0,none⟩),.slice (some ⟨yb,0,none⟩) xs.length cap] w1 fun e w'=>e=.returned (.tuple #[])/\Blk w' yb 21 (ir (Od.ord k xs)++C)/\Bw w0 w':=by
 have HR:=O aG;have HC:=O t;obtain⟨g,hg⟩:∃g,w1.heap.size=g:=⟨_,rfl⟩;obtain⟨X,Q⟩:∃X,w1.alloc (.cells Tryz.zeroCells228 228)=X:=⟨_,rfl⟩;have aL:=hy.lt;have r2:x1F X k g []:=(by rw[<- Q,<- hg];exact x1F.new w1 k);have y2:Blk X yb 21 (ir xs++C):=(by rw[<- Q];exact hy.alloc _);have b2:Bw w0 X:=u6E;have K:yb<g:=f6J;have aC:=O l;have u:=O r2;have N:=O y2;have ab:=O b2;obtain⟨n,hn⟩:∃n,xs.length=n:=⟨_,rfl⟩;have f:=O hn;rw[hn]at o hl ⊢;have aq:Hid (([]:List Int)++Od.ordA k [] (xs.drop 0)=Od.ord k xs):=(by show _=_;exact R6P);obtain⟨B,ay⟩:∃r,Od.ord k xs=r:=⟨_,rfl⟩;rw[ay]at aq ⊢;go_enter func97,ntmps97;go_wp2;go_loopw[5,6,9] (fun _ _ ii wr=>∃(i:Nat) (D Z:List Int),ii=.int .i64 i/\i<=n/\D.length+Z.length=i/\Od.Mk k Z/\D++Od.ordA k Z (xs.drop i)=B/\x1F wr k g Z/\Blk wr yb 21 (ir (D++Z++xs.drop i)++C)/\Bw w0 wr) (fun _ _ ii _=>n-(intOf ii).toNat)
 case atStart=>exact⟨0,[],[],rfl,f6J,rfl,fun _ h=>(by cases h),V aq,V u,by simpa using V N,V ab⟩
 case round =>
  obtain⟨i,D,Z,rfl,aJ,aj,j,am,az,ae,ai⟩:=hrel;by_cases aH:i<n
  ·have H:i<xs.length:=(by rw[V f];exact aH);have aw:=y7N H
   have y:wr.cell? ⟨yb,i,none⟩=some (.int .i32 (xs.getD i 0)):=by
    refine ae.cell ?_;rw[List.getElem?_append_left (by rw[x3G];exact P8P),aw,x3g,List.getElem?_append_right (by rw[x3G];exact P8P),x3G,List.length_append,aj,Nat.sub_self];rfl
   have aI:Rune (xs.getD i 0):=V aC _ N3H;have KC:=O (V HC (xs.getD i 0) wr aI ai);obtain⟨q0,q1⟩:=V HR (xs.getD i 0);have E:=O az;have b:=O ae;have aB:=O ai;have R:=O j;have F:=O am;have A:=O aw;obtain⟨c,hc⟩:∃c,xs.getD i 0=c:=⟨_,rfl⟩;rw[hc]at y KC q0 q1 A;obtain⟨q,m⟩:∃q:Nat,k c=(q:Int):=⟨(k c).toNat,f6J⟩;rw[m]at KC;have T:=O m;rw[m]at q0 q1;go_wp2_with fail;refine(V KC).mono ?_;rintro e1 d ⟨rfl,U,rfl⟩;have bd:Bw wr (wr.drewN U):=x0k ⟨U,rfl⟩;have G:x1F (wr.drewN U) k g Z:=(V E).below bd;have I:Blk (wr.drewN U) yb 21 (ir (D++Z++xs.drop i)++C):=(V b).below bd (V b).lt;have S:=x0b (V aB) bd;have M:(wr.drewN U).cell? ⟨yb,i,none⟩=some (.int .i32 c):=(by rw[bd.cell (V b).lt];exact y);generalize wr.drewN U=d at *;by_cases a:q=0
   ·subst a;have KL:=O (y0G k g yb i cap D Z (xs.drop i) C d G I aj ⟨f6J,ar⟩ (V R) f6J K);have ab:=O S
    have L:Hid ((D++Od.bkt k Z++[c])++Od.ordA k [] (xs.drop (i+1))=B):=by
     have:=V F;rw[V A,y5O k Z _ (V T)]at this;show _=_;rw[<- this];simp
    have HL:Hid ((D++Od.bkt k Z++[c]).length+([]:List Int).length=i+1):=by
     show _=_;simp[Od.x8K (V R)];omega
    go_wp2_with fail;refine(V KL).mono ?_;rintro e3 x ⟨rfl,v,P,b3⟩;have s:Bw w0 x:=(V ab).trans (b3.mono aA);have ag:=O v;have af:=O P;have J:=O s;go_wp2
    go_roundw
    case rel =>
     refine⟨i+1,D++Od.bkt k Z++[c],[],g2A,f6J,V HL,fun _ h=>(by cases h),V L,V af,?_,V J⟩;have:=V ag;rw[V A]at this;exact W2O
    case measure=>exact g7V
   ·have KG:=O (y0z k g Z c q d G (V T) f6J f6J f6J);have ab:=O S;have aD:=O I
    have L:Hid (D++Od.ordA k (Z++[c]) (xs.drop (i+1))=B):=by
     have:=V F;rw[V A,y5P k Z _ v3R]at this;exact this
    have aK:¬((q:Int)=0):=f6J;go_wp2_with fail;refine(V KG).mono ?_;rintro e3 x ⟨rfl,P,b3⟩;have s:Bw w0 x:=(V ab).trans (b3.mono f6J);have v:=(V aD).below b3 K;have ag:=O v;have af:=O P;have J:=O s;go_wp2
    go_roundw
    case rel =>
     refine⟨i+1,D,Z++[c],g2A,f6J,P8P,Od.x9o (V R) v3R v3R,V L,V af,?_,V J⟩;have:=V ag;rw[V A]at this;exact W2O
    case measure=>exact g7V
  ·obtain rfl:i=n:=f6J;have aF:xs.drop i=[]:=List.drop_of_length_le (by rw[V f];exact f6J);rw[aF]at am ae;have KL:=O (y0G k g yb i cap D Z [] C wr az ae aj ⟨o,ar⟩ j hl K);have HB:=O ai;have L:Hid (D++Od.bkt k Z++[]=B):=(by show _=_;rw[List.append_nil];exact am);go_wp2_with fail;refine(V KL).mono ?_;rintro e3 x ⟨rfl,v,P,b3⟩;rw[V L]at v;have HF:=O (And.intro v ((V HB).trans (b3.mono aA)));go_wp2;go_end0;exact⟨rfl,V HF⟩
theorem y9P{p k} w0 w1 v xs(t:∀c W,Rune c->Bw w0 W->Calls prog 98 #[.pointer (some ⟨p,0,none⟩),.int .i32 c] W (x1r W (k c)))(D:∀c,0<=k c/\k c<=254)(Y:Bw w0 w1)(J:Ok .i32 21 w1 w0.heap.size v xs)(S:xs.length<=3000000):Calls prog 97 #[.pointer (some ⟨p,0,none⟩),v] w1 fun e w'=>e=.returned (.tuple #[])/\Ok .i32 21 w' w0.heap.size v (Od.ord k xs)/\Bw w0 w':=by
 have l:∀z∈xs,Rune z:=fun z H=>⟨(J.1 z H).1,(J.1 z H).2⟩;have E:Fit .i32 (Od.ord k xs):=fun z H=>J.1 z (Od.y2C D H);have m:=Od.y9D D xs;rcases J.row.2 with⟨rfl,A⟩|⟨B,M,T,rfl,G,d,o,q,I,u⟩
 ·obtain rfl:=List.eq_nil_of_length_eq_zero A;obtain⟨g,C⟩:∃g,w1.heap.size=g:=⟨_,rfl⟩;obtain⟨X,Q⟩:∃X,w1.alloc (.cells Tryz.zeroCells228 228)=X:=⟨_,rfl⟩;have r2:x1F X k g []:=(by rw[<- Q,<- C];exact x1F.new w1 k);have L:Bw w0 X:=u6E;have KL:=O (x8g k g (.slice none 0 0) X r2);have K:Hid (Ok .i32 21 X w0.heap.size (.slice none 0 0) (Od.ord k [])/\Bw w0 X):=⟨by rw[show Od.ord k []=[]from Od.y7d k];exact n7i,L⟩;go_enter func97,ntmps97;go_wp2;refine wp_loop_rounds 1 ?_;rw[rounds_succ];go_wp2_with fail;refine(V KL).mono ?_;rintro e x ⟨rfl,rfl⟩;go_wp2;go_end0;exact⟨rfl,V K⟩
 ·have U:Blk w1 B 21 (ir xs++T.toList.drop (xs.length*1)):=by
   have e:ir xs=T.toList.take (xs.length*1):=u.symm;rw[e,List.take_append_drop];unfold Blk;rw[d]
  refine(y5Z w0 w1 t D Y B M xs _ G U l o (by unfold maxLen at q;exact f6J) S).mono ?_;rintro e w' ⟨rfl,a,b⟩;refine⟨rfl,?_,b⟩;have r:T.toList.length=M*1:=(Array.length_toList (xs:=T)).trans I;refine Ok.of (n:=xs.length) (us:=ir (Od.ord k xs)) E (by rw[m];exact f6J) ⟨G4b,Or.inr ⟨B,M,_,rfl,G,a,o,q,?_,?_⟩⟩ m.symm rfl
  ·rw[List.size_toArray,List.length_append,x3G,m,List.length_drop,r];omega
  ·rw[List.take_append_of_le_length G4b,List.take_of_length_le G4b]
end Od
open Ti Od
namespace Cn
def nfd(rs:List Rec)(xs:List Int):List Int:=Od.ord (cls rs) (openAll rs xs)
end Cn
theorem x6o{B p rs w}(N:x0o w B p rs)(F:(Cn.check6 rs).2=0):∀c W,Rune c->Bw w W->Calls prog 98 #[.pointer (some ⟨p,0,none⟩),.int .i32 c] W (x1r W (Cn.cls rs c)):=fun c W I t=>by
 rw[Cn.z3s F];exact x7V c W (N.below t) F I
theorem x1U{rs}(G:(Cn.check rs).2=0):(Cn.check6 rs).2=0:=by
 exact(Cn.x0M.1 G).1
theorem y0Q{B p rs} v xs w(C:Glob w)(N:x0o w B p rs)(G:(Cn.check rs).2=0)(J:Sk .i32 w v xs)(F:xs.length<=65536):Calls prog 56 #[.pointer (some ⟨p,0,none⟩),v] w (x0j w (Cn.nfd rs xs)):=by
 have L:=x1U G;have H:=O (y0V v xs w C N G J F);have M:=Cn.x3S G xs;have o:Hid (∀X Q,Ok .i32 21 Q w.heap.size X (Cn.openAll rs xs)->Bw w Q->Calls prog 97 #[.pointer (some ⟨p,0,none⟩),X] Q fun e l=>e=.returned (.tuple #[])/\Ok .i32 21 l w.heap.size X (Cn.nfd rs xs)/\Bw w l):=fun X Q Z D=>y9P w Q X _ (x6o N L) (fun c=>Cn.x2l L c) D Z f6J;obtain⟨n,s,b,x,E⟩:=J.shape;subst b;generalize Cn.openAll rs xs=zs,Cn.nfd rs xs=ys at *;go_enter func56,ntmps56;go_wp2_with fail;refine(V H).mono ?_;rintro P Q ⟨X,rfl,S,b1⟩;have R:=O (V o X Q S b1);obtain⟨K,I,k,_,_⟩:=S.sk.shape;subst k;go_wp2_with fail;refine(V R).mono ?_;rintro f d ⟨rfl,u,m⟩;have T:Hid (x0j w ys (.returned (.slice K zs.length I)) d):=⟨_,rfl,u,m⟩;go_wp2;go_ret;exact V T
theorem y9p{B p rs} v xs w(C:Glob w)(N:x0o w B p rs)(G:(Cn.check rs).2=0)(J:Sk .i32 w v xs):Calls prog 29 #[.pointer (some ⟨p,0,none⟩),v] w (if 65536<xs.length then SeqE w [] 2 else SeqE w (Cn.nfd rs xs) 0):=by
 obtain⟨n,s,b,x,E⟩:=J.shape;subst b;obtain⟨U,k⟩:∃U,w.alloc (.cells #[.slice n xs.length s] 40)=U:=⟨_,rfl⟩;have A:Bw w U:=(by rw[<- k];exact t9C);have L:U.cell? ⟨w.heap.size,0,none⟩=some (.slice n xs.length s):=by rw[<- k];exact one_cell w n xs.length s _
 have H:=O (x9G p w.heap.size 1 [xs.length] U rfl f6J (fun i hi=>by
  obtain rfl:i=0:=f6J
  exact⟨n,s,L,E,x⟩))
 have Y:=O A;by_cases S:65536<xs.length
 ·rw[if_pos S];rw[show refN [xs.length]=2 by unfold refN;rw[List.any_cons,d0t S];rfl]at H;go_enter func29,ntmps29;go_wp2_with fail;refine(V H).mono ?_;rintro P Q ⟨rfl,rfl⟩;have T:Hid (SeqE w [] 2 (.returned (.tuple #[.slice none 0 0,.int .i64 2])) Q):=⟨_,rfl,Ok.nil _ _ _ _,V Y⟩;exact u3O
 ·rw[if_neg S];rw[show refN [xs.length]=0 by unfold refN;rw[List.any_cons,d0f S];rfl]at H;have o:=O (y0Q _ xs U (C.on A) (N.below A) G (J.below A) f6J);generalize Cn.nfd rs xs=y at *;go_enter func29,ntmps29;go_wp2_with fail;refine(V H).mono ?_;rintro P Q ⟨rfl,rfl⟩;go_wp2_with fail;refine(V o).mono ?_;rintro f d ⟨j,rfl,u,m⟩;have T:Hid (SeqE w y 0 (.returned (.tuple #[j,.int .i64 0])) d):=⟨j,rfl,u.lower (V Y).size,x0b (V Y) m⟩;exact u3O
open Ti
namespace Cn
end Cn
open Ti
namespace Cn
theorem y9q{rs}(G:(check rs).2=0) xs:(nfd rs xs).length<=32*xs.length:=by
 unfold nfd;rw[Od.y9D (fun c=>x2l (x0M.1 G).1 c)];exact x3S G xs
end Cn
open Ti
theorem z1E{B p rs w}(N:x0o w B p rs)(F:(Cn.check6 rs).2=0):x2z 98 w p (Cn.vget rs 2):=fun c I W t=>x7V c W (N.below t) F I
theorem z5Q{B p rs w}(N:x0o w B p rs)(F:(Cn.check6 rs).2=0):x2z 309 w p (Cn.vget rs 5):=fun c I W t=>y8N c W (N.below t) F I
namespace Cn
end Cn
open Ti
namespace Bd
end Bd
open Ti
namespace Cn
theorem y7v{rs}(F:(check6 rs).2=0) a b:Rune (cmp9 rs a b).1:=by
 unfold cmp9;split
 ·unfold sylOf;split
  ·rename_i h
   unfold jl jv at h;simp only[Bool.and_eq_true,decide_eq_true_eq]at h;unfold Rune;show -2147483648<=44032+((a-4352)*21+b-4449)*28/\44032+((a-4352)*21+b-4449)*28<=2147483647;omega
  ·split
   ·rename_i h
    unfold bare2 jt syl at h;simp only[Bool.and_eq_true,decide_eq_true_eq]at h;unfold Rune;show -2147483648<=a+b-4520+1/\a+b-4520+1<=2147483647;omega
   ·exact⟨e8N,e8N⟩
 ·cases hp:x2c rs a b with
  | none=>exact⟨e8N,e8N⟩
  | some p =>
   unfold x2c at hp;obtain⟨r,u,rfl⟩:=Option.map_eq_some_iff.1 hp;have z:=List.mem_reverse.1 (List.mem_of_find?_eq_some u);have A:isP a b r=true:=List.find?_some u;have hi:r.kind=7/\r.to.getD 0 0=a/\r.to.getD 1 0=b:=o0d A;have U:=x0n ((x0m.1 F).2.1 r z) f6J;unfold Rune;show -2147483648<=r.lo/\r.lo<=2147483647;omega
def of18(rs:List Rec)(X:List Int):Lb.Of:=⟨decide (X=Nm.cps (cls rs) (cmp9 rs) (nfd rs X)),fun c=>vget rs 6 c != 0,vget rs 1,decide (0<=Jn.chk (vget rs 2) (vget rs 5) X),Bd.y6j (X.map (vget rs 4)) != 0⟩
end Cn
open Ti
theorem z8I{B p rs w}(N:x0o w B p rs)(G:(Cn.check rs).2=0):NmC p (Cn.cls rs) (Cn.cmp9 rs) w:=by
 have F:=x1U G;exact⟨Cn.x2l F,fun a b _ _=>Cn.y7v F a b,fun c I W t=>(x6o N F c W I t).mono fun _ _ h=>⟨h.1,x0k h.2⟩,fun a b g Y W t=>y0i a b W (N.below t) g Y⟩
theorem z3W{B p rs w}(C:Glob w)(N:x0o w B p rs)(G:(Cn.check rs).2=0):NfdC p (Cn.nfd rs) w:=by
 refine⟨fun X=>Cn.y9q G X,fun u X W t J S=>?_⟩;have h:=y9p u X W (C.on t) (N.below t) G J;rw[if_neg f6J]at h;exact h
theorem isP18{B p rs w}(C:Glob w)(N:x0o w B p rs)(G:(Cn.check rs).2=0){xv X}(J:Sk .i32 w xv X)(F:X.length<=65536):Calls prog 204 #[.pointer (some ⟨p,0,none⟩),xv] w (fun e w'=>e=.returned (.tuple #[.bool (Cn.of18 rs X).nf,.int .i64 0])/\Bw w w'):=isN18 (z8I N G) (z3W C N G) J f6J
open Ti
namespace Cn
end Cn
open Ti
namespace Cn
theorem y6f{r}(h:right r=0)(G:r.kind=9):0<=r.n/\r.n<=10:=by
 have X:=x0v h;unfold right at h;rw[if_neg X,if_neg f6J]at h;have I:=x1j h;rw[Bool.and_eq_true]at I;have D:=I.2;rw[if_neg f6J,if_neg f6J,if_neg f6J,if_neg f6J,if_neg f6J,if_neg f6J,if_neg f6J,if_neg f6J,if_pos G]at D;simp only[Bool.and_eq_true]at D;exact o0d D.2
theorem z1M{k}(h:fam k=4):k=9:=R8h
theorem z0O{rs}(F:(check6 rs).2=0) c:0<=vget rs 4 c/\vget rs 4 c<=10:=by
 unfold vget
 cases he:hit rs 4 c with
 | none=>grind
 | some r =>
  have z:=(x1z F e8N r).1 he;have G:=z1M z.2.1;have N:=y6f ((x0m.1 F).2.1 r z.1) G;show 0<=value r/\value r<=10;unfold value;rw[if_neg f6J,if_neg f6J,if_neg f6J,if_neg f6J,if_neg f6J];exact N
end Cn
theorem z8S{B p rs w}(N:x0o w B p rs)(F:(Cn.check6 rs).2=0):x8C p (Cn.vget rs 4) w:=⟨Cn.z0O F,fun c I W t=>(y7c c W (N.below t) F I).mono fun _ _ h=>⟨h.1,x0k h.2⟩⟩
open Ti
theorem plb18{B p rs w}(C:Glob w)(N:x0o w B p rs)(G:(Cn.check rs).2=0){xv X}(J:Sk .i32 w xv X)(A:X.length<=65536):PLbC p xv X (Cn.of18 rs X) w:=by
 have F:=x1U G;refine⟨fun W t=>isP18 (C.on t) (N.below t) G (J.below t) A,fun c I W t=>?_,fun c I W t=>?_,⟨_,rfl,fun W t=>?_⟩,⟨_,rfl,fun W t=>?_⟩⟩
 ·exact(y9f c W (N.below t) F I).mono fun _ _ h=>⟨h.1,x0k h.2⟩
 ·exact(x7h c W (N.below t) F I).mono fun _ _ h=>⟨h.1,x0k h.2⟩
 ·exact y1U (z1E (N.below t) F) (z5Q (N.below t) F) (J.below t)
 ·exact z9s (z8S (N.below t) F) (J.below t)
