/- Lemmas. -/
import Derived.Test.YtkfcabdmkmljjaaGreatDoorF44
set_option maxHeartbeats 8000000
set_option maxRecDepth 20000
namespace Go.Proofs.YtkfcabdmkmljjaaGreatDoor
open Go.Proofs.Tryz
open Go.RowKit
section
variable{p:Prop}
theorem I9F(h:p:=by simp only[bd]at Y ⊢;omega):p:=h
theorem i8k(h:p:=by exact .inr (.inr (.inr (.inl ⟨_,_,f6J,f6J,f6J,f6J,e⟩)))):p:=h
theorem F7l(h:p:=by right;right;right;right;left;refine⟨f6J,?_⟩;rw[F,if_neg T,if_neg P]):p:=h
theorem u3X(h:p:=by unfold leadT;rw[e];rfl):p:=h
theorem i7G(h:p:=by exact .inr (.inr (.inr (.inr ⟨_,_,f6J,f6J,f6J,f6J,e⟩)))):p:=h
theorem S1q(h:p:=by right;right;right;left;refine⟨P,?_⟩;rw[F,if_neg T,if_pos P]):p:=h
theorem m6H(h:p:=by go_enter func44,ntmps44;exact i5A):p:=h
theorem F4H(h:p:=by have T:=x0K.err (w:=w) (y2X X f6J (y9p R f6J)) C;have S:(s.size:Int)=(k:Int)+(A:Int):=f6J;have p:((k:Int)+(A:Int)==(s.size:Int))=true:=beq_iff_eq.2 f6J;have J:=O R;have HC:=O S;clear R X S ab M l P;go_wp2;go_ret3;rw[V HC];exact T):p:=h
theorem P8w(h:p:=by clear e;generalize leadT b=r at *;subst h;exact m6H):p:=h
theorem p4V(h:p:=by right;right;left;refine⟨T,?_⟩;rw[F,if_pos T,if_neg f6J]):p:=h
theorem V4H(h:p:=by go_wp2;go_ret;exact⟨rfl,V i⟩):p:=h
theorem r7M(h:p:=by clear G B Z M;go_wp2;go_ret3;exact T):p:=h
theorem n6b(h:p:=by have T:=G (.inl ya);exact r7M):p:=h
theorem t4y(h:p:=by have T:=G (.inr yb);exact r7M):p:=h
theorem m2F(h:p:=by simpa[bd]using hm):p:=h
end
def leadT(b:Int):Int×Int×Int:=match Utf.lead b with
 | none=>(-1,0,0)
 | some (n,lo,hi,_)=>((n:Int),lo,hi)
def x0Y(w:World)(r:Int×Int×Int)(e:Ending)(w':World):Prop :=
 e=.returned (.tuple #[.int .i64 r.1,.int .u8 r.2.1,.int .u8 r.2.2])/\w'=w
theorem x0Y.mk{w:World}{r:Int×Int×Int}{a b c:Int}(h:r=(a,b,c)):x0Y w r (.returned (.tuple #[.int .i64 a,.int .u8 b,.int .u8 c])) w:=t5o
theorem lead_cases(b:Int):(b<128/\Utf.lead b=some (0,0,0,b))\/((194<=b/\b<=223)/\Utf.lead b=some (1,128,191,b%32))\/(b=224/\Utf.lead b=some (2,160,191,b%16))\/(b=237/\Utf.lead b=some (2,128,159,b%16)) \/
  ((225<=b/\b<=239/\b≠237)/\Utf.lead b=some (2,128,191,b%16))\/(b=240/\Utf.lead b=some (3,144,191,b%8))\/((241<=b/\b<=243)/\Utf.lead b=some (3,128,191,b%8))\/(b=244/\Utf.lead b=some (3,128,143,b%8)) \/
  ((128<=b/\¬(194<=b/\b<=244))/\Utf.lead b=none):=by
 by_cases Z:b<128
 ·exact .inl ⟨Z,by simp[Utf.lead,Z]⟩
 ·by_cases D:194<=b/\b<=223
  ·exact .inr (.inl ⟨D,Utf.z7g D⟩)
  ·by_cases J:224<=b/\b<=239
   ·have F:=Utf.z7h J;by_cases T:b=224
    ·exact p4V
    ·by_cases P:b=237
     ·exact S1q
     ·exact F7l
   ·by_cases E:240<=b/\b<=244
    ·have F:=Utf.z7i E;by_cases T:b=240
     ·right;right;right;exact p4V
     ·by_cases P:b=244
      ·right;right;right;right;exact S1q
      ·right;right;exact F7l
    ·right;right;right;right;right;right;right;right;refine⟨f6J,?_⟩;unfold Utf.lead;exact n7s
theorem y3d(b:Int)(w:World)(U:0<=b)(Z:b<=255) :
  Calls prog 44 #[.int .u8 b] w (x0Y w (leadT b)):=by
 rcases lead_cases b with⟨h,e⟩ | ⟨h,e⟩ | ⟨h,e⟩ | ⟨h,e⟩ | ⟨h,e⟩ | ⟨h,e⟩ | ⟨h,e⟩ | ⟨h,e⟩ | ⟨h,e⟩
 ·have T:=x0Y.mk (w:=w) (u3X:leadT b=(0,0,0));clear e;generalize leadT b=r at *;exact m6H
 ·have T:=x0Y.mk (w:=w) (u3X:leadT b=(1,128,191));clear e;generalize leadT b=r at *;obtain⟨E,Y⟩:=h;exact m6H
 ·have T:=x0Y.mk (w:=w) (u3X:leadT b=(2,160,191));exact P8w
 ·have T:=x0Y.mk (w:=w) (u3X:leadT b=(2,128,159));exact P8w
 ·have T:=x0Y.mk (w:=w) (u3X:leadT b=(2,128,191));clear e;generalize leadT b=r at *;obtain⟨E,Y,I⟩:=h;have P:(b==224)=false:=b0f f6J;have z:(b==237)=false:=b0f I;have B:¬b<=223:=f6J;clear I;exact m6H
 ·have T:=x0Y.mk (w:=w) (u3X:leadT b=(3,144,191));exact P8w
 ·have T:=x0Y.mk (w:=w) (u3X:leadT b=(3,128,191));clear e;generalize leadT b=r at *;obtain⟨E,Y⟩:=h;have P:(b==224)=false:=b0f f6J;have z:(b==237)=false:=b0f f6J;have N:(b==240)=false:=b0f f6J;exact m6H
 ·have T:=x0Y.mk (w:=w) (u3X:leadT b=(3,128,143));exact P8w
 ·have T:=x0Y.mk (w:=w) (show leadT b=(-1,0,0)by unfold leadT;rw[e]);clear e;generalize leadT b=r at *;obtain⟨E,Y⟩:=h;have P:(b==224)=false:=b0f f6J;have z:(b==237)=false:=b0f f6J;have N:(b==240)=false:=b0f f6J;have o:(b==244)=false:=b0f f6J;by_cases I:b<194
  ·exact m6H
  ·have hd:244<b:=f6J;clear Y;exact m6H
def bd:Nat->Int
 | 1=>31
 | 2=>2047
 | 3=>131071
 | _=>8388607
theorem y2g{A:Nat}{E:Int}(Z:1<=A)(D:A<=3)(U:0<=E)(Y:E<=bd A)(y:Int):0<=E*64+y%64/\E*64+y%64<=bd (A+1):=by
 match A,Z,D with
 | 1,_,_=>exact I9F
 | 2,_,_=>exact I9F
 | 3,_,_=>exact I9F
theorem z5R(A:Nat)(h:A<=3)(Z:1<=A):bd A<=131071:=by
 match A,Z,h with
 | 1,_,_=>decide
 | 2,_,_=>decide
 | 3,_,_=>decide
theorem x6d{zs:List Int}{k n:Nat}{lo hi c:Int}(G:k<zs.length)(h:Utf.lead (zs.getD k 0)=some (n,lo,hi,c)):Utf.one (zs.drop k)=Utf.x0F n lo hi c 1 (zs.drop (k+1)):=by
 rw[x0t G];simp only[Utf.one,h]
theorem z6U{zs:List Int}{k:Nat}(G:k<zs.length)(h:Utf.lead (zs.getD k 0)=none):Utf.one (zs.drop k)=.error 0:=by
 rw[x0t G];simp only[Utf.one,h]
theorem y9p{zs:List Int}{k A m:Nat}{lo hi E:Int}(J:Utf.one (zs.drop k)=Utf.x0F (m+1) lo hi E A (zs.drop (k+A)))(h:zs.length<=k+A):Utf.one (zs.drop k)=.error A:=by
 rw[J,List.drop_eq_nil_of_le h];rfl
theorem y9o{zs:List Int}{k A m:Nat}{lo hi E:Int}(J:Utf.one (zs.drop k)=Utf.x0F (m+1) lo hi E A (zs.drop (k+A)))(h:k+A<zs.length)(Y:zs.getD (k+A) 0<lo\/hi<zs.getD (k+A) 0):Utf.one (zs.drop k)=.error A:=by
 rw[J,x0t h];simp only[Utf.x0F,if_pos Y]
theorem y2G{zs:List Int}{k A m:Nat}{lo hi E:Int}(J:Utf.one (zs.drop k)=Utf.x0F (m+1) lo hi E A (zs.drop (k+A)))(h:k+A<zs.length)(Y:¬(zs.getD (k+A) 0<lo\/hi<zs.getD (k+A) 0)) :
  Utf.one (zs.drop k)=Utf.x0F m 128 191 (E*64+zs.getD (k+A) 0%64) (A+1) (zs.drop (k+(A+1))):=by
 rw[J,x0t h];simp only[Utf.x0F,if_neg Y,Nat.add_assoc]
theorem y2X{zs xs:List Int}{k A:Nat}{r:List Int×Int×Int}(hr:r=Utf.glue xs (Utf.dec k (zs.drop k)))(G:k<zs.length)(h:Utf.one (zs.drop k)=.error A):r=([],(k:Int)+(A:Int),30):=by
 have y:zs.drop k≠[]:=(by rw[x0t G];exact M7K);rw[hr,Utf.x6y y h];simp[Utf.glue]
theorem r_ok{zs xs:List Int}{k n:Nat}{c:Int}{r:List Int×Int×Int}(hr:r=Utf.glue xs (Utf.dec k (zs.drop k)))(h:Utf.one (zs.drop k)=.ok (n,c)):r=Utf.glue (xs++[c]) (Utf.dec (k+n) (zs.drop (k+n))):=by
 rw[hr,Utf.y3S h,Utf.x6L,List.drop_drop]
theorem r_end{zs xs:List Int}{k:Nat}{r:List Int×Int×Int}(hr:r=Utf.glue xs (Utf.dec k (zs.drop k)))(G:zs.length<=k):r=(xs,0,0):=by
 rw[hr,List.drop_eq_nil_of_le G,Utf.y8m];simp[Utf.glue]
theorem z7J(zs:List Int):Utf.dec 0 zs=Utf.glue [] (Utf.dec 0 (zs.drop 0)):=T0L
theorem lead_ways(b:Int):Utf.lead b=none\/(b<128/\Utf.lead b=some (0,0,0,b))\/(∃lo hi,128<=lo/\hi<=191/\0<=hi/\lo<=255/\Utf.lead b=some (1,lo,hi,b%32))\/(∃lo hi,128<=lo/\hi<=191/\0<=hi/\lo<=255/\Utf.lead b=some (2,lo,hi,b%16))\/(∃lo hi,128<=lo/\hi<=191/\0<=hi/\lo<=255/\Utf.lead b=some (3,lo,hi,b%8)):=by
 rcases lead_cases b with⟨h,e⟩ | ⟨h,e⟩ | ⟨h,e⟩ | ⟨h,e⟩ | ⟨h,e⟩ | ⟨h,e⟩ | ⟨h,e⟩ | ⟨h,e⟩ | ⟨h,e⟩
 ·exact .inr (.inl ⟨h,e⟩)
 ·exact .inr (.inr (.inl ⟨_,_,f6J,f6J,f6J,f6J,e⟩))
 ·exact i8k
 ·exact i8k
 ·exact i8k
 ·exact i7G
 ·exact i7G
 ·exact i7G
 ·exact .inl e
theorem x3g{b lo hi c:Int}{n:Nat}(h:Utf.lead b=some (n,lo,hi,c)):leadT b=((n:Int),lo,hi):=by unfold leadT;rw[h]
theorem y5W{b:Int}(h:Utf.lead b=none):leadT b=(-1,0,0):=by unfold leadT;rw[h]
theorem x9R(s:ByteArray)(w:World)(hl:s.size<=1000000000) :
  Calls prog 18 #[.string s] w (x0K w (Utf.dec 0 (nums s))):=by
 obtain⟨i0,d,q,aw,U⟩:=info_parts Tryz.info21;have hn:=nums_length s;have j:=z7J (nums s);generalize Utf.dec 0 (nums s)=r at *;obtain⟨zs,P⟩:∃zs,nums s=zs:=⟨_,rfl⟩;rw[P]at hn j;have aJ:=O j;have aI:=O P;clear j P;go_enter func18,ntmps18;go_wp2;go_loopw[5,6] (fun vx i wr=>∃(k:Nat) (D:List Int),i=.int .i64 k/\k<=s.size/\Ok .i32 21 wr w.heap.size vx D/\D.length<=k/\Bw w wr/\r=Utf.glue D (Utf.dec k (zs.drop k))) (fun _ i _=>s.size-(intOf i).toNat)
 case atStart=>exact⟨0,[],rfl,f6J,Ok.nil _ _ _ _,by simp,b0r,V aJ⟩
 case round =>
  obtain⟨k,D,rfl,hk,l,aM,C,X⟩:=hrel;have P:=V aI;by_cases aL:k<s.size
  ·have hx:=fun w=>x1O s (k:Int) k rfl aL w;have aB:=(x1g (x0B s)).u8at k;rw[P]at hx aB;have v:=fun w=>O (y3d (zs.getD k 0) w aB.1 aB.2);have aC:=C.size;rcases lead_ways (zs.getD k 0)with Q | ⟨Y,Q⟩ | ⟨lo,hi,N,aD,ay,aA,Q⟩ | ⟨lo,hi,N,aD,ay,aA,Q⟩ | ⟨lo,hi,N,aD,ay,aA,Q⟩
   ·have T:=x0K.err (w:=w) (y2X X f6J (z6U f6J Q)) C;rw[y5W Q]at v;rw[show(k:Int)+((0:Nat):Int)=k by simp]at T;clear Q X l P;generalize zs.getD k 0=b at *;go_wp2_with fail;refine(V (v _)).mono ?_;rintro e wr ⟨rfl,rfl⟩;clear v;go_wp2;go_ret3;exact T
   ·have HO:=O (r_ok X (show Utf.one (zs.drop k)=.ok (1,zs.getD k 0)from(x6d f6J Q)));have n:leadT (zs.getD k 0)=(0,0,0):=x3g Q;rw[n]at v;clear Q X P n;generalize zs.getD k 0=b at *;go_wp2_with fail;refine(V (v _)).mono ?_;rintro e wr ⟨rfl,rfl⟩;clear v;go_wp2;refine wp_loop_rounds 1 ?_;rw[rounds_succ];clear hx
    go_wp2_with(first
     | (at_builtin;refine wpList_append_own _ rfl _ _ 36 rfl w.heap.size 21 i0 (.int .i32 0) 1 4 underlying36 d q aw U rfl e8R _ _ _ rfl (l.row.alloc _) ⟨wr.heap.size,0,none⟩ 1 1 [.int .i32 b] rfl rfl (cell_one_new _ _ _) (x0P .i32 b) T7X f6J P8P ?_)
     | go_in)
    intro v2 u W I _;have t:Bw w u:=x0m f6J l.row C I;have ae:Ok .i32 21 u w.heap.size v2 (D++[b]):=Ok.of (l.1.snoc (x0O f6J)) P8P W (by simp) (by simp);clear l W I;go_wp2
    go_roundw
    case rel=>exact⟨k+1,D++[b],g2E,f6J,ae,P8P,t,V HO⟩
    case measure=>exact g7W
   ·have n:leadT (zs.getD k 0)=(1,lo,hi):=x3g Q;rw[n]at v;clear n;have L:=x6d (zs:=zs) f6J Q;clear Q;generalize zs.getD k 0=b at *;go_wp2_with fail;refine(V (v _)).mono ?_;rintro e wr ⟨rfl,rfl⟩;clear v;have hm:b%32<=31:=f6J;have M:=O L;clear L;go_wp2;go_loop [10,11] (fun c i=>∃(A:Nat) (E:Int),i=.int .i64 A/\1<=A/\A<=2/\k+A<=s.size/\c=.int .i32 E/\0<=E/\E<=bd A/\Utf.one (zs.drop k)=Utf.x0F (2-A) (if A=1 then lo else 128) (if A=1 then hi else 191) E A (zs.drop (k+A))) (fun _ i=>2-(intOf i).toNat)
    case atStart=>exact⟨1,b%32,rfl,f6J,f6J,f6J,rfl,f6J,m2F,V M⟩
    case round =>
     obtain⟨A,E,rfl,H,aF,aH,rfl,aq,F,R⟩:=hrel;by_cases aG:A<=1
     ·obtain⟨m,a⟩:∃m,2-A=m+1:=⟨1-A,f6J⟩;rw[a]at R;by_cases ab:k+A=s.size
      ·exact F4H
      ·have K:k+A<s.size:=f6J;have am:=(x1g (x0B s)).u8at (k+A);have G:=fun Y=>x0K.err (w:=w) (y2X X f6J (y9o R f6J Y)) C;have B:=fun Y=>y2G R f6J Y;have Z:=y2g H (f6J:A<=3) aq F (zs.getD (k+A) 0);have z:E<=131071:=Int.le_trans F (z5R A f6J H);rw[P]at am;clear R X ab l F;by_cases h1:A=1
       ·subst h1;have aj:=fun w=>x1O s ((k:Int)+1) (k+1) (by simp) K w;have ar:((k:Int)+1==(s.size:Int))=false:=b0f f6J;rw[P]at aj;simp only[if_true,show(((1:Nat):Int))=1 from rfl]at G B;clear P;generalize zs.getD (k+1) 0=y at *;by_cases ya:y<lo
        ·exact n6b
        ·by_cases yb:hi<y
         ·exact t4y
         ·have y1:¬y<128:=f6J;have y2:¬191<y:=f6J;have f:=O (B f6J);have x:=O Z;clear G B M Z;go_wp2;go_round
          case rel=>exact⟨2,E*64+y%64,g2E,f6J,f6J,f6J,g2E,(V x).1,(V x).2,by have:=V f;rw[(f6J:m=2-2)]at this;simpa using this⟩
          case measure=>simp[intOf]
       ·omega
     ·obtain rfl:A=2:=f6J;have o:=r_ok X (show Utf.one (zs.drop k)=.ok (2,E)from R);have g:E<=8388607:=Int.le_trans F e8R;have HO:=O o;have aC:=C.size;clear R X o F M P hx
      go_wp2_with(first
       | (at_builtin;refine wpList_append_own _ rfl _ _ 36 rfl w.heap.size 21 i0 (.int .i32 0) 1 4 underlying36 d q aw U rfl e8R _ _ _ rfl (l.row.alloc _) ⟨wr.heap.size,0,none⟩ 1 1 [.int .i32 E] rfl rfl (cell_one_new _ _ _) (x0P .i32 E) T7X f6J P8P ?_)
       | go_in)
      intro v2 u W I _;have t:Bw w u:=x0m f6J l.row C I;have ae:Ok .i32 21 u w.heap.size v2 (D++[E]):=Ok.of (l.1.snoc (x0O f6J)) P8P W (by simp) (by simp);clear l W I;go_wp2
      go_roundw
      case rel=>exact⟨k+2,D++[E],g2E,f6J,ae,P8P,t,V HO⟩
      case measure=>exact g7W
   ·have n:leadT (zs.getD k 0)=(2,lo,hi):=x3g Q;rw[n]at v;clear n;have L:=x6d (zs:=zs) f6J Q;clear Q;generalize zs.getD k 0=b at *;go_wp2_with fail;refine(V (v _)).mono ?_;rintro e wr ⟨rfl,rfl⟩;clear v;have hm:b%16<=31:=f6J;have M:=O L;clear L;go_wp2;go_loop [10,11] (fun c i=>∃(A:Nat) (E:Int),i=.int .i64 A/\1<=A/\A<=3/\k+A<=s.size/\c=.int .i32 E/\0<=E/\E<=bd A/\Utf.one (zs.drop k)=Utf.x0F (3-A) (if A=1 then lo else 128) (if A=1 then hi else 191) E A (zs.drop (k+A))) (fun _ i=>3-(intOf i).toNat)
    case atStart=>exact⟨1,b%16,rfl,f6J,f6J,f6J,rfl,f6J,m2F,V M⟩
    case round =>
     obtain⟨A,E,rfl,H,aF,aH,rfl,aq,F,R⟩:=hrel;by_cases aG:A<=2
     ·obtain⟨m,a⟩:∃m,3-A=m+1:=⟨2-A,f6J⟩;rw[a]at R;by_cases ab:k+A=s.size
      ·exact F4H
      ·have K:k+A<s.size:=f6J;have am:=(x1g (x0B s)).u8at (k+A);have G:=fun Y=>x0K.err (w:=w) (y2X X f6J (y9o R f6J Y)) C;have B:=fun Y=>y2G R f6J Y;have Z:=y2g H (f6J:A<=3) aq F (zs.getD (k+A) 0);have z:E<=131071:=Int.le_trans F (z5R A f6J H);rw[P]at am;clear R X ab l F;by_cases h1:A=1
       ·subst h1;have aj:=fun w=>x1O s ((k:Int)+1) (k+1) (by simp) K w;have ar:((k:Int)+1==(s.size:Int))=false:=b0f f6J;rw[P]at aj;simp only[if_true,show(((1:Nat):Int))=1 from rfl]at G B;clear P;generalize zs.getD (k+1) 0=y at *;by_cases ya:y<lo
        ·exact n6b
        ·by_cases yb:hi<y
         ·exact t4y
         ·have y1:¬y<128:=f6J;have y2:¬191<y:=f6J;have f:=O (B f6J);have x:=O Z;clear G B M Z;go_wp2;go_round
          case rel=>exact⟨2,E*64+y%64,g2E,f6J,f6J,f6J,g2E,(V x).1,(V x).2,by have:=V f;rw[(f6J:m=3-2)]at this;simpa using this⟩
          case measure=>simp[intOf]
       ·have aj:=fun w=>x1O s ((k:Int)+(A:Int)) (k+A) (by simp) K w;have ar:((k:Int)+(A:Int)==(s.size:Int))=false:=b0f f6J;rw[P]at aj;have aK:((A:Int)==1)=false:=b0f f6J;simp only[h1,if_false]at G B;clear P;generalize zs.getD (k+A) 0=y at *;by_cases ya:y<128
        ·exact n6b
        ·by_cases yb:191<y
         ·exact t4y
         ·have f:=O (B f6J);have x:=O Z;clear G B M Z;go_wp2;go_round
          case rel=>exact⟨A+1,E*64+y%64,g2E,f6J,f6J,f6J,g2E,(V x).1,(V x).2,by have:=V f;rw[(f6J:m=3-(A+1))]at this;simpa[(f6J:¬A+1=1),(f6J:¬A=0)]using this⟩
          case measure=>exact g7W
     ·obtain rfl:A=3:=f6J;have o:=r_ok X (show Utf.one (zs.drop k)=.ok (3,E)from R);have g:E<=8388607:=Int.le_trans F e8R;have HO:=O o;have aC:=C.size;clear R X o F M P hx
      go_wp2_with(first
       | (at_builtin;refine wpList_append_own _ rfl _ _ 36 rfl w.heap.size 21 i0 (.int .i32 0) 1 4 underlying36 d q aw U rfl e8R _ _ _ rfl (l.row.alloc _) ⟨wr.heap.size,0,none⟩ 1 1 [.int .i32 E] rfl rfl (cell_one_new _ _ _) (x0P .i32 E) T7X f6J P8P ?_)
       | go_in)
      intro v2 u W I _;have t:Bw w u:=x0m f6J l.row C I;have ae:Ok .i32 21 u w.heap.size v2 (D++[E]):=Ok.of (l.1.snoc (x0O f6J)) P8P W (by simp) (by simp);clear l W I;go_wp2
      go_roundw
      case rel=>exact⟨k+3,D++[E],g2E,f6J,ae,P8P,t,V HO⟩
      case measure=>exact g7W
   ·have n:leadT (zs.getD k 0)=(3,lo,hi):=x3g Q;rw[n]at v;clear n;have L:=x6d (zs:=zs) f6J Q;clear Q;generalize zs.getD k 0=b at *;go_wp2_with fail;refine(V (v _)).mono ?_;rintro e wr ⟨rfl,rfl⟩;clear v;have hm:b%8<=31:=f6J;have M:=O L;clear L;go_wp2;go_loop [10,11] (fun c i=>∃(A:Nat) (E:Int),i=.int .i64 A/\1<=A/\A<=4/\k+A<=s.size/\c=.int .i32 E/\0<=E/\E<=bd A/\Utf.one (zs.drop k)=Utf.x0F (4-A) (if A=1 then lo else 128) (if A=1 then hi else 191) E A (zs.drop (k+A))) (fun _ i=>4-(intOf i).toNat)
    case atStart=>exact⟨1,b%8,rfl,f6J,f6J,f6J,rfl,f6J,m2F,V M⟩
    case round =>
     obtain⟨A,E,rfl,H,aF,aH,rfl,aq,F,R⟩:=hrel;by_cases aG:A<=3
     ·obtain⟨m,a⟩:∃m,4-A=m+1:=⟨3-A,f6J⟩;rw[a]at R;by_cases ab:k+A=s.size
      ·exact F4H
      ·have K:k+A<s.size:=f6J;have am:=(x1g (x0B s)).u8at (k+A);have G:=fun Y=>x0K.err (w:=w) (y2X X f6J (y9o R f6J Y)) C;have B:=fun Y=>y2G R f6J Y;have Z:=y2g H (f6J:A<=3) aq F (zs.getD (k+A) 0);have z:E<=131071:=Int.le_trans F (z5R A f6J H);rw[P]at am;clear R X ab l F;by_cases h1:A=1
       ·subst h1;have aj:=fun w=>x1O s ((k:Int)+1) (k+1) (by simp) K w;have ar:((k:Int)+1==(s.size:Int))=false:=b0f f6J;rw[P]at aj;simp only[if_true,show(((1:Nat):Int))=1 from rfl]at G B;clear P;generalize zs.getD (k+1) 0=y at *;by_cases ya:y<lo
        ·exact n6b
        ·by_cases yb:hi<y
         ·exact t4y
         ·have y1:¬y<128:=f6J;have y2:¬191<y:=f6J;have f:=O (B f6J);have x:=O Z;clear G B M Z;go_wp2;go_round
          case rel=>exact⟨2,E*64+y%64,g2E,f6J,f6J,f6J,g2E,(V x).1,(V x).2,by have:=V f;rw[(f6J:m=4-2)]at this;simpa using this⟩
          case measure=>simp[intOf]
       ·have aj:=fun w=>x1O s ((k:Int)+(A:Int)) (k+A) (by simp) K w;have ar:((k:Int)+(A:Int)==(s.size:Int))=false:=b0f f6J;rw[P]at aj;have aK:((A:Int)==1)=false:=b0f f6J;simp only[h1,if_false]at G B;clear P;generalize zs.getD (k+A) 0=y at *;by_cases ya:y<128
        ·exact n6b
        ·by_cases yb:191<y
         ·exact t4y
         ·have f:=O (B f6J);have x:=O Z;clear G B M Z;go_wp2;go_round
          case rel=>exact⟨A+1,E*64+y%64,g2E,f6J,f6J,f6J,g2E,(V x).1,(V x).2,by have:=V f;rw[(f6J:m=4-(A+1))]at this;simpa[(f6J:¬A+1=1),(f6J:¬A=0)]using this⟩
          case measure=>exact g7W
     ·obtain rfl:A=4:=f6J;have o:=r_ok X (show Utf.one (zs.drop k)=.ok (4,E)from R);have g:E<=8388607:=Int.le_trans F e8R;have HO:=O o;have aC:=C.size;clear R X o F M P hx
      go_wp2_with(first
       | (at_builtin;refine wpList_append_own _ rfl _ _ 36 rfl w.heap.size 21 i0 (.int .i32 0) 1 4 underlying36 d q aw U rfl e8R _ _ _ rfl (l.row.alloc _) ⟨wr.heap.size,0,none⟩ 1 1 [.int .i32 E] rfl rfl (cell_one_new _ _ _) (x0P .i32 E) T7X f6J P8P ?_)
       | go_in)
      intro v2 u W I _;have t:Bw w u:=x0m f6J l.row C I;have ae:Ok .i32 21 u w.heap.size v2 (D++[E]):=Ok.of (l.1.snoc (x0O f6J)) P8P W (by simp) (by simp);clear l W I;go_wp2
      go_roundw
      case rel=>exact⟨k+4,D++[E],g2E,f6J,ae,P8P,t,V HO⟩
      case measure=>exact g7W
  ·have T:=x0K.end (w:=w) (r_end X f6J) l C;clear X l P;go_wp2;go_ret3;exact T
open Ti
namespace Id
theorem and1{n:Nat}(h:n%4=0):bits .and .i64 (n:Int) 1=0:=by
 show IntKind.i64.wrap (((BitVec.ofInt 64 (n:Int)&&&BitVec.ofInt 64 ((1:Nat):Int)).toNat:Nat):Int)=_;rw[BitVec.ofInt_natCast,BitVec.ofInt_natCast,BitVec.toNat_and,BitVec.toNat_ofNat,BitVec.toNat_ofNat,(e8N:1%2^64=2^1-1),Nat.and_two_pow_sub_one_eq_mod,(f6J:n%2^64%2^1=0)];rfl
theorem y9c{rs}{g:Int}{zs}(y:Way (Cn.proc19 rs g zs))(hd:(Utf.dec 0 zs).2.2=0):Cn.proc19 rs g zs=([],2)\/∃E n,Cn.proc19 rs g zs=(E,n)/\n%4=0/\0<E.length:=by
 rcases y with⟨c,h,I⟩ | ⟨E,n,h,F,R,_⟩
 ·rcases I with rfl | rfl
  ·exfalso;have h:proc (Cn.map19 rs g) (Cn.nfc19 rs) (Cn.x5G rs) (Cn.x5C rs g) zs=([],1):=h;unfold proc at h;obtain⟨z,u⟩:∃z,cut (Cn.map19 rs g) (Cn.nfc19 rs) zs=z:=⟨_,rfl⟩;rw[u]at h;split at h
   ·have D:=(Prod.mk.inj h).2;unfold cut at u;split at u
    ·subst u;simp at D
    ·split at u
     ·rename_i h3;exact h3 hd
     ·split at u<;>(subst u;simp at D)
   ·split at h
    ·simp at h
    ·have D:=(Prod.mk.inj h).2;have:=acc4 (ck:=Cn.x5C rs g) (fun _ _ _=>err4) ((read z.1).any (Cn.x5G rs)) z.1;omega
  ·exact .inl h
 ·exact .inr ⟨E,n,h,F,R⟩
end Id
theorem bytes_law19 v rs0 s0 fl w(hg:Glob w)(N:Rcs w v rs0):Calls prog 5 #[v,.string s0,.int .i64 fl] w (y4Q w true):=by
 have l:=O (x6f v rs0 w hg N);obtain⟨ao,ae,rfl,_,aj⟩:=N.shape;have o:=O hg;have K:∀r∈rs0.take 150,RecFit r:=fun r hr=>N.2.1 _ (List.mem_of_mem_take hr);clear hg N;generalize rs0.take 150=rs,rs0.length=L at *;obtain⟨s,hs⟩:∃s,s0.extract 0 (min (s0.size:Int) 600).toNat=s:=⟨_,rfl⟩;have aw:s.size<=600:=m0o;obtain⟨f,hf,am⟩:=Id.z5K fl;go_enter func5,ntmps5;go_wp2_with fail;refine(V l).mono ?_;rintro P Q ⟨b1,h1⟩;have R:=O b1;clear l b1;rcases h1 with⟨y,rfl⟩ | ⟨h0,p,v2,m,rfl,F,r2,p2⟩
 ·have j:=O (z1t Q ((V o).on (V R)));clear y;go_wp2_with fail;refine c0m j fun w2 b2=>?_;have X:=O (bthen (V R) b2);clear j b2;go_wp2;go_ret;exact⟨rfl,V X⟩
 ·obtain⟨a2,aq,C⟩:∃a c,v2=.slice a m.length c:=by
   rcases r2.1.2 with⟨h,h0⟩ | ⟨g,ae,ar,e,_⟩
   ·exact N2v
   ·exact m4S
  subst C;have d:=x5H ((V o).on (V R)) F h0 K (f:Int);have H:=ways19 d s;have KP:Hid (∀W,Bw Q W->∀q,EngAt W q (f:Int) p->Calls prog 17 #[.pointer (some ⟨q,0,none⟩),.string s] W (y1Z W (Cn.proc19 rs f (nums s)))):=fun W U q Y=>x1h (x5H ((V o).on (bthen (V R) U)) (F.below U) h0 K f) Y s
  have KA:Hid (∀W,Bw Q W->∀q,EngAt W q (f:Int) p->Calls prog 11 #[.pointer (some ⟨q,0,none⟩),.string s] W (x6s W (Id.toA (bits .and .i64 (f:Int) 32==32) (Cn.proc19 rs f (nums s))))):=fun W U q Y=>by
   have S:=x5H ((V o).on (bthen (V R) U)) (F.below U) h0 K (f:Int);exact z8o S Y (x1h S Y s)
  have KU:Hid (∀W,Bw Q W->∀q,EngAt W q (f:Int) p->Calls prog 12 #[.pointer (some ⟨q,0,none⟩),.string s] W (x6s W (Id.toU (Cn.proc19 rs f (nums s)) (nums s)))):=fun W U q Y=>by
   have S:=x5H ((V o).on (bthen (V R) U)) (F.below U) h0 K (f:Int);exact x2A (x1h S Y s) f6J (Id.Way.total (ways19 S s))
  have KD:Hid (∀W,Calls prog 18 #[.string s] W (x0K W (Utf.dec 0 (nums s)))):=fun W=>x9R s W f6J;have t:=Id.z7y (Id.z8p (bits .and .i64 (f:Int) 32==32) (Cn.proc19 rs f (nums s)));have HW:=O (fun hd=>Id.y9c H hd);have HX:=O (fun hd=>Id.y3H (rs:=rs) (g:=(f:Int)) (zs:=nums s) u3f hd);have ab:=x8M s;have k:=O (y6e p f f6J f6J Q);clear F r2 h0 o p2 K d H;generalize(bits .and .i64 (f:Int) 32==32)=vd,Cn.proc19 rs f (nums s)=r,Utf.dec 0 (nums s)=dd at *;obtain⟨d1,d2,d3⟩:=dd;generalize m.length=rl at *;go_wp2_with fail;refine(V k).mono ?_;rintro e3 w3 ⟨q,rfl,Y,G⟩;have A:=O (V KP w3 G q Y);have HE:=O Y;have Z:=O G;have J:=O (bthen (V R) G);clear k KP Y G R;go_wp2_with fail;refine(V A).mono ?_;rintro e4 w4 ⟨I,v4,rfl,D⟩;obtain⟨a4,c4,rfl⟩:=D.shape19;have K5:=O (V KU w4 (bthen (V Z) I) q ((V HE).on I));have T:=O ((V HE).on I);have x:=O (bthen (V Z) I);have M:=O (bthen (V J) I);clear A KU I HE Z J D;go_wp2_with fail;refine c0m K5 fun w5 b5=>?_;have B:=O (V KA w5 (bthen (V x) b5) q ((V T).on b5));have u:=O (bthen (V M) b5);clear K5 KA b5 T x M;go_wp2_with fail;refine c0m B fun w6 b6=>?_;have K7:=O (V KD w6);have b:=O (bthen (V u) b6);clear B KD b6 u;go_wp2_with fail;refine(V K7).mono ?_;rintro e7 w7 ⟨v7,rfl,_,b7⟩;have i:=O (bthen (V b) b7);clear K7 b7 b;by_cases hz:d3=0
  ·subst hz;clear HX;rcases V HW rfl with rfl | ⟨E,n,rfl,h4,hy⟩
   ·have P:Id.toU ([],2) (nums s)=(nums s,2):=if_pos rfl;have z:(Id.toA vd ([],2)).2=2:=(by rw[show Id.toA vd ([],2)=([],2)from if_pos rfl]);rw[z]at t;simp only[P,z];clear HW P z;generalize strOfNums (Id.toA vd ([],2)).1=az at *;exact V4H
   ·have P:Id.toU (E,n) (nums s)=(Id.txt (Spl.join E),n):=if_neg (by rw[Id.ur4 h4];exact e8N);have ha:=Id.and1 h4;have n2:((n:Int)==2)=false:=G9k;have n3:((n:Int) != 2)=true:=(by rw[bne_iff_ne];exact f6J);simp only at t;simp only[P];clear HW P h4;generalize strOfNums (Id.toA vd (E,n)).1=az,(Id.toA vd (E,n)).2=a2,strOfNums (Id.txt (Spl.join E))=uz at *;have aA:(0:Int)<(E.length:Int):=f6J;clear hy;have ay:decide (0<E.length)=true:=d0t f6J;generalize E.length=yl at *;exact V4H
  ·obtain rfl:=V HX hz;have P:Id.toU ([],1) (nums s)=(nums s,1):=if_pos rfl;have z:Id.toA vd ([],1)=([],1):=if_pos rfl;have e3:strOfNums []=⟨#[]⟩:=rfl;simp only[P,z,e3,ab];clear HW HX P z e3 ab t;exact V4H
