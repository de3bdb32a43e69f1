/- Lemmas. -/
import Derived.Test.YtkfcabdmkmljjaaGreatDoorF34
import Derived.Lib.MinMaxS
import Derived.Test.YtkfcabdmkmljjaaGreatDoorF36
import Derived.Test.YtkfcabdmkmljjaaGreatDoorF23
import Derived.Test.YtkfcabdmkmljjaaGreatDoorF37
set_option maxHeartbeats 4000000
set_option maxRecDepth 8000
namespace Go.Proofs.YtkfcabdmkmljjaaGreatDoor
open Go.Proofs.Tryz
open Go.RowKit
open Ti
section
variable{p:Prop}
theorem T7F(h:p:=by rw[x3t,N];exact f6J):p:=h
theorem N4H(h:p:=by rw[V o];exact f6J):p:=h
end
namespace Od
theorem x1B.below{w w' k g ms}(h:x1B w k g ms)(Y:Bw w w'):x1B w' k g ms:=by
 obtain⟨A,Z,D,J⟩:=h;refine⟨A,Z.below Y Z.lt,D,?_⟩;rcases J with J | ⟨j,M,t,P,z,N,o⟩
 ·exact Or.inl J
 ·exact Or.inr ⟨j,M,t,P,z,by rw[Y.block j (Array.getElem?_eq_some_iff.1 N).1];exact N,o⟩
theorem q1w:Tryz.zeroCells292=(Value.slice none 0 0::ia z255).toArray:=f4x
theorem x1B.new(w:World) k:x1B (w.alloc (.cells Tryz.zeroCells292 292)) k w.heap.size []:=⟨.slice none 0 0,by rw[y3P];exact Blk.new w _ _ _ q1w,rfl,Or.inl ⟨rfl,rfl⟩⟩
theorem x2Q a b:ir (a++b)=ir a++ir b:=List.map_append
theorem y0Y k g yb n cap D ms R C w(h:x1B w k g ms)(hy:Blk w yb 21 (ir (D++ms++R)++C))(F:D.length+ms.length=n)(G:n<=cap/\cap<=9223372036854775807)(A:Od.Mk k ms)(L:n<=3000000)(P:yb<g):Calls prog 211 #[.pointer (some ⟨g,0,none⟩),.slice (some ⟨yb,0,none⟩) n cap] w fun e w'=>e=.returned (.tuple #[])/\Blk w' yb 21 (ir (D++Od.bkt k ms++R)++C)/\x1B w' k g []/\Below yb w w':=by
 rcases Nat.eq_zero_or_pos ms.length with h0 | h0
 ·obtain rfl:=List.eq_nil_of_length_eq_zero h0;refine(x8s k g _ w h).mono ?_;rintro e w' ⟨rfl,rfl⟩;rw[Od.y7D];exact⟨rfl,hy,h,b0r⟩
 ·subst F
  have S:Blk w yb 21 (ir D++ir ms++(ir R++C)):=by
   rw[x2Q,x2Q]at hy;simpa[List.append_assoc]using hy
  refine(y5S k g yb D.length cap ms ms (ir D) (ir R++C) w h S (x3t D) rfl G A f6J f6J h0 P).mono ?_;rintro e w' ⟨rfl,a,b,c⟩;refine⟨rfl,?_,b,c⟩;rw[x2Q,x2Q];simpa[List.append_assoc]using a
theorem y6i k ms{c} l(h:k c=0):Od.ordA k ms (c::l)=Od.bkt k ms++c::Od.ordA k [] l:=by rw[Od.ordA,if_pos h]
theorem y6j k ms{c} l(h:k c≠0):Od.ordA k ms (c::l)=Od.ordA k (ms++[c]) l:=by rw[Od.ordA,if_neg h]
theorem y8p{xs:List Int}{i}(h:i<xs.length):xs.drop i=xs.getD i 0::xs.drop (i+1):=f0h
theorem y6t{p k} w0 w1(aF:∀c W,Rune c->Bw w0 W->Calls prog 161 #[.pointer (some ⟨p,0,none⟩),.int .i32 c] W (x1e W (k c)))(aH:∀c,0<=k c/\k c<=254)(hb:Bw w0 w1) yb cap xs C(aw:w0.heap.size<=yb)(hy:Blk w1 yb 21 (ir xs++C))(K:∀z∈xs,Rune z)(aq:xs.length<=cap)(t:cap<=9223372036854775807)(hl:xs.length<=3000000):Calls prog 160 #[.pointer (some ⟨p,0,none⟩),.slice (some ⟨yb,0,none⟩) xs.length cap] w1 fun e w'=>e=.returned (.tuple #[])/\Blk w' yb 21 (ir (Od.ord k xs)++C)/\Bw w0 w':=by
 have HR:=O aH;have HC:=O aF;obtain⟨g,hg⟩:∃g,w1.heap.size=g:=⟨_,rfl⟩;obtain⟨M,f⟩:∃M,w1.alloc (.cells Tryz.zeroCells292 292)=M:=⟨_,rfl⟩;have aM:=hy.lt;have r2:x1B M k g []:=(by rw[<- f,<- hg];exact x1B.new w1 k);have y2:Blk M yb 21 (ir xs++C):=(by rw[<- f];exact hy.alloc _);have b2:Bw w0 M:=(by rw[<- f];exact hb.alloc hb.size _);have aj:yb<g:=f6J;have aA:=O K;have aB:=O r2;have aD:=O y2;have X:=O b2;obtain⟨n,hn⟩:∃n,xs.length=n:=⟨_,rfl⟩;have HN:=O hn;rw[hn]at aq hl ⊢;have am:Hid (([]:List Int)++Od.ordA k [] (xs.drop 0)=Od.ord k xs):=(by show _=_;exact R6P);obtain⟨U,x⟩:∃r,Od.ord k xs=r:=⟨_,rfl⟩;rw[x]at am ⊢;go_enter func160,ntmps160;go_wp2;go_loopw[5,6,9] (fun _ _ ii wr=>∃(i:Nat) (D S:List Int),ii=.int .i64 i/\i<=n/\D.length+S.length=i/\Od.Mk k S/\D++Od.ordA k S (xs.drop i)=U/\x1B wr k g S/\Blk wr yb 21 (ir (D++S++xs.drop i)++C)/\Bw w0 wr) (fun _ _ ii _=>n-(intOf ii).toNat)
 case atStart=>exact⟨0,[],[],rfl,f6J,rfl,fun _ h=>(by cases h),V am,V aB,by simpa using V aD,V X⟩
 case round =>
  obtain⟨i,D,S,rfl,aK,B,m,ae,ar,b,I⟩:=hrel;by_cases aI:i<n
  ·have R:i<xs.length:=(by rw[V HN];exact aI);have Z:=y8p R
   have y:wr.cell? ⟨yb,i,none⟩=some (.int .i32 (xs.getD i 0)):=by
    refine b.cell ?_;rw[List.getElem?_append_left (by rw[x3t];exact P8P),Z,x2Q,List.getElem?_append_right (by rw[x3t];exact P8P),x3t,List.length_append,B,Nat.sub_self];rfl
   have aJ:Rune (xs.getD i 0):=V aA _ (by simp[List.getD,R]);have H:=O (V HC (xs.getD i 0) wr aJ I);obtain⟨q0,q1⟩:=V HR (xs.getD i 0);have aC:=O ar;have j:=O b;have ay:=O I;have Y:=O m;have A:=O ae;have v:=O Z;obtain⟨c,hc⟩:∃c,xs.getD i 0=c:=⟨_,rfl⟩;rw[hc]at y H q0 q1 v;obtain⟨q,d⟩:∃q:Nat,k c=(q:Int):=⟨(k c).toNat,f6J⟩;rw[d]at H;have o:=O d;rw[d]at q0 q1;go_wp2_with fail;refine(V H).mono ?_;rintro e1 u ⟨rfl,l,rfl⟩;have bd:Bw wr (wr.drewN l):=x0i ⟨l,rfl⟩;have E:x1B (wr.drewN l) k g S:=(V aC).below bd;have F:Blk (wr.drewN l) yb 21 (ir (D++S++xs.drop i)++C):=(V j).below bd (V j).lt;have T:=bthen (V ay) bd;have P:(wr.drewN l).cell? ⟨yb,i,none⟩=some (.int .i32 c):=(by rw[bd.cell (V j).lt];exact y);generalize wr.drewN l=u at *;by_cases N:q=0
   ·subst N;have KL:=O (y0Y k g yb i cap D S (xs.drop i) C u E F B ⟨f6J,t⟩ (V Y) f6J aj);have X:=O T
    have HE:Hid ((D++Od.bkt k S++[c])++Od.ordA k [] (xs.drop (i+1))=U):=by
     have:=V A;rw[V v,y6i k S _ (V o)]at this;show _=_;rw[<- this];simp
    have HL:Hid ((D++Od.bkt k S++[c]).length+([]:List Int).length=i+1):=by
     show _=_;simp[Od.x8Z (V Y)];omega
    go_wp2_with fail;refine(V KL).mono ?_;rintro e3 w3 ⟨rfl,a,s,b3⟩;have L:Bw w0 w3:=(V X).trans (b3.mono aw);have G:=O a;have ab:=O s;have J:=O L;go_wp2
    go_roundw
    case rel =>
     refine⟨i+1,D++Od.bkt k S++[c],[],g2A,f6J,V HL,fun _ h=>(by cases h),V HE,V ab,?_,V J⟩;have:=V G;rw[V v]at this;exact W2O
    case measure=>exact g7W
   ·have KG:=O (y0R k g S c q u E (V o) f6J f6J f6J);have X:=O T;have Q:=O F
    have HE:Hid (D++Od.ordA k (S++[c]) (xs.drop (i+1))=U):=by
     have:=V A;rw[V v,y6j k S _ N4H]at this;exact this
    have aL:¬((q:Int)=0):=f6J;go_wp2_with fail;refine(V KG).mono ?_;rintro e3 w3 ⟨rfl,s,b3⟩;have L:Bw w0 w3:=(V X).trans (b3.mono f6J);have a:=(V Q).below b3 aj;have G:=O a;have ab:=O s;have J:=O L;go_wp2
    go_roundw
    case rel =>
     refine⟨i+1,D,S++[c],g2A,f6J,P8P,Od.y2Q (V Y) N4H N4H,V HE,V ab,?_,V J⟩;have:=V G;rw[V v]at this;exact W2O
    case measure=>exact g7W
  ·obtain rfl:i=n:=f6J;have aG:xs.drop i=[]:=List.drop_of_length_le (by rw[V HN];exact f6J);rw[aG]at ae b;have KL:=O (y0Y k g yb i cap D S [] C wr ar b B ⟨aq,t⟩ m hl aj);have HB:=O I;have HE:Hid (D++Od.bkt k S++[]=U):=(by show _=_;rw[List.append_nil];exact ae);go_wp2_with fail;refine(V KL).mono ?_;rintro e3 w3 ⟨rfl,a,s,b3⟩;rw[V HE]at a;have HF:=O (And.intro a ((V HB).trans (b3.mono aw)));go_wp2;go_end0;exact⟨rfl,V HF⟩
theorem z0D{p k} w0 w1 v xs(L:∀c W,Rune c->Bw w0 W->Calls prog 161 #[.pointer (some ⟨p,0,none⟩),.int .i32 c] W (x1e W (k c)))(C:∀c,0<=k c/\k c<=254)(Y:Bw w0 w1)(A:Ok .i32 21 w1 w0.heap.size v xs)(S:xs.length<=3000000):Calls prog 160 #[.pointer (some ⟨p,0,none⟩),v] w1 fun e w'=>e=.returned (.tuple #[])/\Ok .i32 21 w' w0.heap.size v (Od.ord k xs)/\Bw w0 w':=by
 have K:∀z∈xs,Rune z:=fun z u=>⟨(A.1 z u).1,(A.1 z u).2⟩;have D:Fit .i32 (Od.ord k xs):=fun z u=>A.1 z (Od.z0r C u);have N:=Od.z0q C xs;rcases A.row.2 with⟨rfl,U⟩ | ⟨E,J,t,rfl,j,d,P,Q,I,m⟩
 ·obtain rfl:=List.eq_nil_of_length_eq_zero U;obtain⟨g,H⟩:∃g,w1.heap.size=g:=⟨_,rfl⟩;obtain⟨M,f⟩:∃M,w1.alloc (.cells Tryz.zeroCells292 292)=M:=⟨_,rfl⟩;have r2:x1B M k g []:=(by rw[<- f,<- H];exact x1B.new w1 k);have i:Bw w0 M:=(by rw[<- f];exact Y.alloc Y.size _);have KL:=O (x8s k g (.slice none 0 0) M r2);have T:Hid (Ok .i32 21 M w0.heap.size (.slice none 0 0) (Od.ord k [])/\Bw w0 M):=⟨by rw[show Od.ord k []=[]from Od.y7D k];exact n7f,i⟩;go_enter func160,ntmps160;go_wp2;refine wp_loop_rounds 1 ?_;rw[rounds_succ];go_wp2_with fail;refine(V KL).mono ?_;rintro e B ⟨rfl,rfl⟩;go_wp2;go_end0;exact i5u
 ·have R:Blk w1 E 21 (ir xs++t.toList.drop (xs.length*1)):=by
   have e:ir xs=t.toList.take (xs.length*1):=m.symm;rw[e,List.take_append_drop];unfold Blk;rw[d]
  refine(y6t w0 w1 L C Y E J xs _ j R K P (by unfold maxLen at Q;exact f6J) S).mono ?_;rintro e w' ⟨rfl,a,b⟩;refine⟨rfl,?_,b⟩;have G:t.toList.length=J*1:=(Array.length_toList (xs:=t)).trans I;refine Ok.of (n:=xs.length) (us:=ir (Od.ord k xs)) D (by rw[N];exact f6J) ⟨T7F,Or.inr ⟨E,J,_,rfl,j,a,P,Q,?_,?_⟩⟩ N.symm rfl
  ·rw[List.size_toArray,List.length_append,x3t,N,List.length_drop,G];omega
  ·rw[List.take_append_of_le_length T7F,List.take_of_length_le T7F]
end Od
open Ti Od
namespace Cn
def nfd(rs:List Rec)(xs:List Int):List Int:=Od.ord (cls rs) (openAll rs xs)
end Cn
theorem x6x{B p rs w}(F:x0n w B p rs)(q:(Cn.check6 rs).2=0):∀c W,Rune c->Bw w W->Calls prog 161 #[.pointer (some ⟨p,0,none⟩),.int .i32 c] W (x1e W (Cn.cls rs c)):=fun c W I U=>by
 rw[Cn.z4D q];exact x8h c W (F.below U) q I
theorem x2K{rs}(G:(Cn.check rs).2=0):(Cn.check6 rs).2=0:=by
 exact(Cn.x1f.1 G).1
theorem y1i{B p rs} v xs w(H:Glob w)(F:x0n w B p rs)(G:(Cn.check rs).2=0)(A:Sk .i32 w v xs)(t:xs.length<=65536):Calls prog 112 #[.pointer (some ⟨p,0,none⟩),v] w (x0h w (Cn.nfd rs xs)):=by
 have q:=x2K G;have l:=O (y1p v xs w H F G A t);have N:=Cn.x3F G xs;have j:Hid (∀b Q,Ok .i32 21 Q w.heap.size b (Cn.openAll rs xs)->Bw w Q->Calls prog 160 #[.pointer (some ⟨p,0,none⟩),b] Q fun e C=>e=.returned (.tuple #[])/\Ok .i32 21 C w.heap.size b (Cn.nfd rs xs)/\Bw w C):=fun b Q Z D=>z0D w Q b _ (x6x F q) (fun c=>Cn.x3Y q c) D Z f6J;obtain⟨K,E,g,d,R⟩:=A.shape;subst g;generalize Cn.openAll rs xs=zs,Cn.nfd rs xs=ys at *;go_enter func112,ntmps112;go_wp2_with fail;refine(V l).mono ?_;rintro P Q ⟨b,rfl,M,b1⟩;have k:=O (V j b Q M b1);obtain⟨J,I,m,_,_⟩:=M.sk.shape;subst m;go_wp2_with fail;refine(V k).mono ?_;rintro z u ⟨rfl,s,i⟩;have T:Hid (x0h w ys (.returned (.slice J zs.length I)) u):=⟨_,rfl,s,i⟩;go_wp2;go_ret;exact V T
theorem z0a{B p rs} v xs w(H:Glob w)(F:x0n w B p rs)(G:(Cn.check rs).2=0)(A:Sk .i32 w v xs):Calls prog 64 #[.pointer (some ⟨p,0,none⟩),v] w (if 65536<xs.length then SeqE w [] 2 else SeqE w (Cn.nfd rs xs) 0):=by
 obtain⟨K,E,g,d,C⟩:=A.shape;subst g;obtain⟨y,I⟩:∃y,w.alloc (.cells #[.slice K xs.length E] 36)=y:=⟨_,rfl⟩;have f:Bw w y:=(by rw[<- I];exact t9C);have r:y.cell? ⟨w.heap.size,0,none⟩=some (.slice K xs.length E):=by rw[<- I];exact one_cell w K xs.length E _
 have l:=O (x9U p w.heap.size 1 [xs.length] y rfl f6J (fun i hi=>by
  obtain rfl:i=0:=f6J
  exact⟨K,E,r,C,d⟩))
 have a:=O f;by_cases S:65536<xs.length
 ·rw[if_pos S];rw[show refN [xs.length]=2 by unfold refN;rw[List.any_cons,d0t S];rfl]at l;go_enter func64,ntmps64;go_wp2_with fail;refine(V l).mono ?_;rintro P Q ⟨rfl,rfl⟩;have T:Hid (SeqE w [] 2 (.returned (.tuple #[.slice none 0 0,.int .i64 2])) Q):=⟨_,rfl,Ok.nil _ _ _ _,V a⟩;exact u3O
 ·rw[if_neg S];rw[show refN [xs.length]=0 by unfold refN;rw[List.any_cons,d0f S];rfl]at l;have j:=O (y1i _ xs y (H.on f) (F.below f) G (A.below f) f6J);generalize Cn.nfd rs xs=m at *;go_enter func64,ntmps64;go_wp2_with fail;refine(V l).mono ?_;rintro P Q ⟨rfl,rfl⟩;go_wp2_with fail;refine(V j).mono ?_;rintro z u ⟨J,rfl,s,L⟩;have T:Hid (SeqE w m 0 (.returned (.tuple #[J,.int .i64 0])) u):=⟨J,rfl,s.lower (V a).size,bthen (V a) L⟩;exact u3O
open Ti
namespace Cn
end Cn
open Ti
namespace Cn
theorem z0b{rs}(G:(check rs).2=0) xs:(nfd rs xs).length<=32*xs.length:=by
 unfold nfd;rw[Od.z0q (fun c=>x3Y (x1f.1 G).1 c)];exact x3F G xs
end Cn
open Ti
theorem z2B{B p rs w}(F:x0n w B p rs)(q:(Cn.check6 rs).2=0):x2m 161 w p (Cn.vget rs 2):=fun c I W U=>x8h c W (F.below U) q I
theorem z7b{B p rs w}(F:x0n w B p rs)(q:(Cn.check6 rs).2=0):x2m 311 w p (Cn.vget rs 5):=fun c I W U=>y9v c W (F.below U) q I
namespace Cn
end Cn
open Ti
namespace Bd
end Bd
open Ti
namespace Cn
theorem y7X{rs}(q:(check6 rs).2=0) a b:Rune (cmp9 rs a b).1:=by
 unfold cmp9;split
 ·unfold sylOf;split
  ·rename_i h
   unfold jl jv at h;simp only[Bool.and_eq_true,decide_eq_true_eq]at h;unfold Rune;show -2147483648<=44032+((a-4352)*21+b-4449)*28/\44032+((a-4352)*21+b-4449)*28<=2147483647;omega
  ·split
   ·rename_i h
    unfold bare2 jt syl at h;simp only[Bool.and_eq_true,decide_eq_true_eq]at h;unfold Rune;show -2147483648<=a+b-4520+1/\a+b-4520+1<=2147483647;omega
   ·exact⟨e8N,e8N⟩
 ·cases hp:x2D rs a b with
  | none=>exact⟨e8N,e8N⟩
  | some p =>
   unfold x2D at hp;obtain⟨r,X,rfl⟩:=Option.map_eq_some_iff.1 hp;have o:=List.mem_reverse.1 (List.mem_of_find?_eq_some X);have A:isP a b r=true:=List.find?_some X;have hi:r.kind=7/\r.to.getD 0 0=a/\r.to.getD 1 0=b:=o0d A;have L:=x0q ((x0k.1 q).2.1 r o) f6J;unfold Rune;show -2147483648<=r.lo/\r.lo<=2147483647;omega
def of18(rs:List Rec)(X:List Int):Lb.Of:=⟨decide (X=Nm.cps (cls rs) (cmp9 rs) (nfd rs X)),fun c=>vget rs 6 c != 0,vget rs 1,decide (0<=Jn.chk (vget rs 2) (vget rs 5) X),Bd.y6D (X.map (vget rs 4)) != 0⟩
end Cn
open Ti
theorem q0o{B p rs w}(F:x0n w B p rs)(G:(Cn.check rs).2=0):NmC p (Cn.cls rs) (Cn.cmp9 rs) w:=by
 have q:=x2K G;exact⟨Cn.x3Y q,fun a b _ _=>Cn.y7X q a b,fun c I W U=>(x6x F q c W I U).mono fun _ _ h=>⟨h.1,x0i h.2⟩,fun a b E Y W U=>y0A a b W (F.below U) E Y⟩
theorem z5j{B p rs w}(H:Glob w)(F:x0n w B p rs)(G:(Cn.check rs).2=0):NfdC p (Cn.nfd rs) w:=by
 refine⟨fun X=>Cn.z0b G X,fun v X W U A S=>?_⟩;have h:=z0a v X W (H.on U) (F.below U) G A;rw[if_neg f6J]at h;exact h
theorem isP18{B p rs w}(H:Glob w)(F:x0n w B p rs)(G:(Cn.check rs).2=0){xv X}(A:Sk .i32 w xv X)(t:X.length<=65536):Calls prog 14 #[.pointer (some ⟨p,0,none⟩),xv] w (fun e w'=>e=.returned (.tuple #[.bool (Cn.of18 rs X).nf,.int .i64 0])/\Bw w w'):=isN18 (q0o F G) (z5j H F G) A f6J
open Ti
namespace Cn
end Cn
open Ti
namespace Cn
theorem y6z{r}(h:right r=0)(G:r.kind=9):0<=r.n/\r.n<=10:=by
 have C:=x0z h;unfold right at h;rw[if_neg C,if_neg f6J]at h;have I:=x1x h;rw[Bool.and_eq_true]at I;have D:=I.2;rw[if_neg f6J,if_neg f6J,if_neg f6J,if_neg f6J,if_neg f6J,if_neg f6J,if_neg f6J,if_neg f6J,if_pos G]at D;simp only[Bool.and_eq_true]at D;exact o0d D.2
theorem z2I{k}(h:fam k=4):k=9:=R8h
theorem z1A{rs}(q:(check6 rs).2=0) c:0<=vget rs 4 c/\vget rs 4 c<=10:=by
 unfold vget
 cases he:hit rs 4 c with
 | none=>grind
 | some r =>
  have o:=(x1M q e8N r).1 he;have G:=z2I o.2.1;have N:=y6z ((x0k.1 q).2.1 r o.1) G;show 0<=value r/\value r<=10;unfold value;rw[if_neg f6J,if_neg f6J,if_neg f6J,if_neg f6J,if_neg f6J];exact N
end Cn
theorem q0x{B p rs w}(F:x0n w B p rs)(q:(Cn.check6 rs).2=0):x8Q p (Cn.vget rs 4) w:=⟨Cn.z1A q,fun c I W U=>(y7C c W (F.below U) q I).mono fun _ _ h=>⟨h.1,x0i h.2⟩⟩
open Ti
theorem plb18{B p rs w}(H:Glob w)(F:x0n w B p rs)(G:(Cn.check rs).2=0){xv X}(A:Sk .i32 w xv X)(t:X.length<=65536):PLbC p xv X (Cn.of18 rs X) w:=by
 have q:=x2K G;refine⟨fun W U=>isP18 (H.on U) (F.below U) G (A.below U) t,fun c I W U=>?_,fun c I W U=>?_,⟨_,rfl,fun W U=>?_⟩,⟨_,rfl,fun W U=>?_⟩⟩
 ·exact(y9P c W (F.below U) q I).mono fun _ _ h=>⟨h.1,x0i h.2⟩
 ·exact(x3N c W (F.below U) q I).mono fun _ _ h=>⟨h.1,x0i h.2⟩
 ·exact y2k (z2B (F.below U) q) (z7b (F.below U) q) (A.below U)
 ·exact q0O (q0x (F.below U) q) (A.below U)
