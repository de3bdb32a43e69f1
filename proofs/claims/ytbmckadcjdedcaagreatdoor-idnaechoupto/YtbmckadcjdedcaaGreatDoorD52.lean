/- Iq19 -/
import Derived.Test.YtbmckadcjdedcaaGreatDoorD47
import Derived.Lib.MinMaxS
set_option maxHeartbeats 8000000
set_option maxRecDepth 20000
namespace Go.Proofs.YtbmckadcjdedcaaGreatDoor
open Go.Proofs.Tryz
open Go.RowKit
open Ti
section
variable{p:Prop}
theorem U6r(h:p:=by obtain⟨rfl,rfl⟩:=Prod.mk.inj hc;exact⟨rfl,.inr rfl⟩):p:=h
theorem i9W(h:p:=by rw[BitVec.toNat_and];exact Nat.lt_of_le_of_lt Nat.and_le_right e8M):p:=h
end
namespace Id
theorem or4{a b:Nat}(L:a%4=0)(C:b%4=0):(a|||b)%4=0:=by
 have h:=Nat.or_mod_two_pow (a:=a) (b:=b) (n:=2);rw[(e8M:(2:Nat)^2=4),L,C]at h;exact h
theorem ite4{c:Prop}[Decidable c]{a b:Nat}(L:a%4=0)(C:b%4=0):(if c then a else b)%4=0:=by split<;>assumption
theorem z4V:∀(l:List Nat) (a:Nat),a%4=0->(∀z∈l,z%4=0)->l.foldl (·|||·) a%4=0
 | [],_,ha,_=>ha
 | z::l,_,ha,h=>z4V l _ (or4 ha (h z M7K)) fun y hy=>h y (by simp[hy])
theorem err4{o:Lb.Of}{fl:Int}{rtl dec:Bool}{X:List Int}:Lb.err o fl rtl dec X%4=0:=by
 have E:∀c,Lb.nb o fl dec c%4=0:=fun c=>or4 (or4 (ite4 e8M e8M) (ite4 e8M e8M)) (ite4 e8M e8M)
 have A:Lb.num o fl dec X%4=0:=by
  have:=z4V (X.map (Lb.nb o fl dec)) 0 rfl fun z B=>(by obtain⟨c,_,rfl⟩:=List.mem_map.1 B;exact E c);rwa [List.foldl_map]at this
 exact ite4 rfl (or4 (or4 (or4 (or4 (or4 (ite4 e8M e8M) (ite4 (ite4 e8M e8M) (ite4 e8M e8M))) (ite4 e8M e8M)) A) (ite4 e8M e8M)) (ite4 e8M e8M))
theorem rdc4(x:List Int):rdc x%4=0:=by
 unfold rdc rd;split
 ·rfl
 ·split
  ·show 2048%4=0;decide
  ·split
   ·show 4096%4=0;decide
   ·rfl
theorem acc4{ck:List Int->Bool->Bool->Nat}(h:∀X r d,ck X r d%4=0)(rtl:Bool)(xss:List (List Int)):acc ck rtl xss%4=0 :=
 z4V _ 0 rfl fun z o=>by
  obtain⟨x,_,rfl⟩:=List.mem_map.1 o;exact ite4 (h _ _ _) (rdc4 x)
theorem ways{mp nc:List Int->List Int}{hr:List Int->Bool}{ck:List Int->Bool->Bool->Nat}(S:∀X:List Int,X.length<=65536->(nc X).length<=2097152)(H:∀X r d,ck X r d%4=0)(U:∀X,Snd X->Snd (mp X))(E:∀X,Snd X->Snd (nc X)){zs:List Int}(C:Utf.Byt zs) :
  (∃c,proc mp nc hr ck zs=([],c)/\(c=1\/c=2))\/∃P n,proc mp nc hr ck zs=(P,n)/\n%4=0/\0<P.length/\P.length<=2097153/\Spl.total P<=16777216/\∀y∈P,Snd y:=by
 rcases hc:cut mp nc zs with⟨A,c⟩;by_cases T:c=0
 ·subst T;by_cases F:16384<cnt (Utf.encA 0 (Spl.join (read A)))
  ·exact .inl ⟨2,y3I hc F,.inr rfl⟩
  ·obtain⟨x,u,p⟩:=y7a S hc;refine .inr ⟨_,_,y9k hc F,acc4 H _ _,by simpa[read]using x,by simpa[read]using u,?_,y3K (y6Z U E C hc)⟩;have:=x8j A;omega
 ·have J:A=[]/\(c=1\/c=2):=by
   unfold cut at hc;split at hc
   ·exact U6r
   ·split at hc
    ·obtain⟨rfl,rfl⟩:=Prod.mk.inj hc;exact⟨rfl,.inl rfl⟩
    ·split at hc
     ·exact U6r
     ·exact absurd (Prod.mk.inj hc).2.symm T
  obtain⟨rfl,h⟩:=J;exact .inl ⟨c,y9j hc T,h⟩
theorem and63(fl:Int):∃f:Nat,f<64/\bits .and .i64 fl 63=(f:Int):=by
 refine⟨(BitVec.ofInt 64 fl&&&BitVec.ofInt 64 63).toNat,?_,?_⟩
 ·exact i9W
 ·have h:(BitVec.ofInt 64 fl&&&BitVec.ofInt 64 63).toNat<64:=i9W
  show IntKind.i64.wrap (((BitVec.ofInt 64 fl&&&BitVec.ofInt 64 63).toNat:Nat):Int)=_;generalize(BitVec.ofInt 64 fl&&&BitVec.ofInt 64 63).toNat=n at *;simp only[IntKind.wrap,IntKind.bits,IntKind.signed];simp;omega
theorem ur4{n:Nat}(h:n%4=0):ur n=false:=by
 have D:bits .and .i64 (n:Int) 3=0:=by
  show IntKind.i64.wrap (((BitVec.ofInt 64 (n:Int)&&&BitVec.ofInt 64 ((3:Nat):Int)).toNat:Nat):Int)=_;rw[BitVec.ofInt_natCast,BitVec.ofInt_natCast,BitVec.toNat_and,BitVec.toNat_ofNat,BitVec.toNat_ofNat,(e8N:3%2^64=2^2-1),Nat.and_two_pow_sub_one_eq_mod,(f6J:n%2^64%2^2=0)];rfl
 unfold ur;rw[D];rfl
end Id
theorem z9h{p:Nat}{fl:Int}{rs:List Rec}{w:World}(h:IdC p fl (Cn.z5v rs fl) (Cn.z2d rs) (Cn.y0q rs) (Cn.z4l rs fl) w)(s:ByteArray) :
  (∃c,Cn.proc19 rs fl (nums s)=([],c)/\(c=1\/c=2))\/∃P n,Cn.proc19 rs fl (nums s)=(P,n)/\n%4=0/\0<P.length/\P.length<=2097153/\Spl.total P<=16777216/\∀y∈P,Id.Snd y :=
 Id.ways h.len (fun _ _ _=>Id.err4) h.ms h.ns (x0x s)
theorem Mu.shape19{w:World}{B U:Nat}{v:Value}{xss:List (List Int)}(h:Mu w B U v xss):∃a c,v=.slice a xss.length c:=by
 obtain⟨j,D,Z,_⟩:=h;rcases Z.2 with⟨h,T⟩ | ⟨g,M,P,e,_⟩
 ·exact m0v
 ·exact⟨_,_,e⟩
theorem echo_law19(v:Value)(D:List Rec)(s0:ByteArray)(fl:Int)(w:World)(hg:Glob w)(N:Rcs w v D):Calls prog 6 #[v,.string s0,.int .i64 fl] w (y6o w true):=by
 have i:=O (x9f v D w hg N);obtain⟨ao,M,rfl,_,aq⟩:=N.shape;have HG:=O hg;have o:∀r∈D.take 150,RecFit r:=fun r hr=>N.2.1 _ (List.mem_of_mem_take hr);clear hg N;generalize D.take 150=rs,D.length=L at *;obtain⟨s,hs⟩:∃s,s0.extract 0 (min (s0.size:Int) 600).toNat=s:=⟨_,rfl⟩;have az:s.size<=600:=(by rw[<- hs,ByteArray.size_extract];exact f6J);obtain⟨f,hf,ar⟩:=Id.and63 fl;go_enter func6,ntmps6;go_wp2_with fail;refine(V i).mono ?_;rintro e1 w1 ⟨b1,h1⟩;have l:=O b1;clear i b1;rcases h1 with⟨F,rfl⟩ | ⟨T,p,v2,t,rfl,b,r2,p2⟩
 ·have j:=O (z0h w1 ((V HG).on (V l)));clear F;go_wp2_with fail;refine c0m j fun w2 m=>?_;have d:=O (x0b (V l) m);clear j m;go_wp2;go_ret;exact⟨rfl,V d⟩
 ·obtain⟨a2,aw,am⟩:∃a c,v2=.slice a t.length c:=by
   rcases r2.1.2 with⟨h,T⟩ | ⟨g,M,ay,e,_⟩
   ·exact m0v
   ·exact⟨_,_,e⟩
  subst am;have h6:=x2S T;have Y:Hid (∀W,Bw w1 W->∀q,EngAt W q (f:Int) p->Calls prog 18 #[.pointer (some ⟨q,0,none⟩),.string s] W (y6j W (Cn.proc19 rs f (nums s)))):=fun W hW q Z=>y0N (z5b ((V HG).on (x0b (V l) hW)) (b.below hW) T o f) Z s;have J:=z5b ((V HG).on (V l)) b T o (f:Int);have C:=O (z9h J s);have S:=O (z5C p f f6J f6J w1);clear b r2 T HG p2 h6 J o;generalize Cn.proc19 rs f (nums s)=r,t.length=rl at *;go_wp2_with fail;refine(V S).mono ?_;rintro e3 w3 ⟨q,rfl,Z,G⟩;have U:=O (V Y w3 G q Z);have x:=O Z;have B:=O G;have I:=O (x0b (V l) G);clear S Z G l;go_wp2_with fail;refine(V U).mono ?_;rintro e4 X ⟨z,v4,rfl,A⟩;have KP:=V Y X (x0b (V B) z) q ((V x).on z);have u:=O (x0b (V I) z);clear U I Y B x z;rcases V C with⟨c,rfl,hc⟩ | ⟨P,n,rfl,h4,y0,y1,y2,y3⟩
  ·have y:=O (x3R KP f6J (by simp[Spl.total]));rw[show Id.toU ([],c) (nums s)=(nums s,c)from if_pos n7C]at y;have aj:=x8p s;obtain⟨a4,K,rfl⟩:=A.shape19;clear KP A C;go_wp2_with fail;refine c0m y fun w5 R=>?_;have Q:=O (x0b (V u) R);clear y R u;simp only[aj];rcases hc with rfl | rfl
   ·go_wp2;go_ret;exact⟨rfl,V Q⟩
   ·go_wp2;go_ret;exact⟨rfl,V Q⟩
  ·have y:=O (x3R KP f6J (by simp only;exact f6J));rw[show Id.toU (P,n) (nums s)=(Id.txt (Spl.join P),n)from if_neg (by rw[Id.ur4 h4];exact e8N)]at y;have ai:=Spl.x5Q P;have af:=(Id.y7o 0 (Id.x8W y3)).1;have n1:((n:Int)==1)=false:=G9k;have n2:((n:Int)==2)=false:=G9k;have nn:((n:Int)==(n:Int))=true:=M7N;have E:=O (show Mu _ _ _ _ P from A);obtain⟨a4,K,rfl⟩:=A.shape19;have KE:Hid (∀W xv,Sk .i32 W xv (Spl.join P)->Calls prog 17 #[xv] W (x2c W (Utf.encA 0 (Spl.join P)))):=fun W xv hx=>encC xv _ W hx f6J;have KJ:Hid (∀W,Bw X W->Calls prog 21 #[.slice a4 P.length K] W (x8u W (Spl.join P))):=fun W hW=>z5k _ P W (((V E).rwsS f6J).below hW) f6J;clear KP A C E y1 y2 y3 ai h4;have aA:(0:Int)<(P.length:Int):=f6J;generalize P.length=yl at *;change Hid (Calls _ _ _ _ (y6n _ ((Utf.encA 0 (Spl.join P)).1,n)))at y;generalize Spl.join P=jz at *;generalize Utf.encA 0 jz=rr at *;obtain⟨tz,t1,t2⟩:=rr;simp only at af;subst af;go_wp2_with fail;refine c0m y fun w5 R=>?_;have K6:=O (V KJ w5 R);have Q:=O (x0b (V u) R);clear y KJ R u;go_wp2_with fail;refine(V K6).mono ?_;rintro e6 w6 ⟨v6,rfl,ae,k⟩;have H:=O (V KE w6 v6 ae.sk);have ab:=O (x0b (V Q) k);clear K6 KE ae k Q;go_wp2_with fail;refine c0m H fun w7 b7=>?_;have ag:=O (x0b (V ab) b7);clear H b7 ab;generalize strOfNums tz=sz at *;go_wp2;go_ret;exact⟨rfl,V ag⟩
