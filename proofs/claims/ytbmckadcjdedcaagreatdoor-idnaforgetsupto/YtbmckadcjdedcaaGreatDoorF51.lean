import Derived.Test.YtbmckadcjdedcaaGreatDoorF47
import Derived.Lib.MinMaxS
set_option maxHeartbeats 8000000
set_option maxRecDepth 20000
namespace Go.Proofs.YtbmckadcjdedcaaGreatDoor
open Go.Proofs.Tryz
open Go.RowKit
open Ti
section
variable{p:Prop}
theorem U6r(h:p:=by obtain⟨rfl,rfl⟩:=Prod.mk.inj hc;exact⟨rfl,.inr rfl⟩):p:=h
theorem n0k(h:p:=by
 rw[Bool.and_eq_true]at q;rcases bare_len15 q.1 with h1|h1
 ·exact absurd h1 e8M
 ·omega):p:=h
theorem i9W(h:p:=by rw[BitVec.toNat_and];exact Nat.lt_of_le_of_lt Nat.and_le_right e8M):p:=h
theorem f9r(h:p:=by
 rcases k with k|k
 ·rw[h.2,k.2]
 ·exact absurd h.1 k.1):p:=h
theorem i0P(h:p:=by rw[Bool.and_eq_true]at q;have:=x1Q q.2;omega):p:=h
theorem W7T(h:p:=by have h:M.length<=2097153:=V aD;exact f6J):p:=h
end
namespace Id
theorem or4{a b}(g:a%4=0)(Y:b%4=0):(a|||b)%4=0:=by
 have h:=Nat.or_mod_two_pow (a:=a) (b:=b) (n:=2);rw[(e8M:(2:Nat)^2=4),g,Y]at h;exact h
theorem ite4{c:Prop}[Decidable c]{a b}(g:a%4=0)(Y:b%4=0):(if c then a else b)%4=0:=by split<;>assumption
theorem z5D:∀(l:List Nat) (a:Nat),a%4=0->(∀z∈l,z%4=0)->l.foldl (·|||·) a%4=0
 | [],_,ha,_=>ha
 | z::l,_,ha,h=>z5D l _ (or4 ha (h z M7K)) fun y hy=>h y (by simp[hy])
theorem err4{o fl rtl dec X}:Lb.err o fl rtl dec X%4=0:=by
 have E:∀c,Lb.nb o fl dec c%4=0:=fun c=>or4 (or4 (ite4 e8M e8M) (ite4 e8M e8M)) (ite4 e8M e8M)
 have A:Lb.num o fl dec X%4=0:=by
  have:=z5D (X.map (Lb.nb o fl dec)) 0 rfl fun z B=>(by obtain⟨c,_,rfl⟩:=List.mem_map.1 B;exact E c);rwa [List.foldl_map]at this
 exact ite4 rfl (or4 (or4 (or4 (or4 (or4 (ite4 e8M e8M) (ite4 (ite4 e8M e8M) (ite4 e8M e8M))) (ite4 e8M e8M)) A) (ite4 e8M e8M)) (ite4 e8M e8M))
theorem rdc4 x:rdc x%4=0:=by
 unfold rdc rd;split
 ·rfl
 ·split
  ·show 2048%4=0;decide
  ·split
   ·show 4096%4=0;decide
   ·rfl
theorem acc4{ck}(h:∀X r d,ck X r d%4=0) rtl xss:acc ck rtl xss%4=0 :=
 z5D _ 0 rfl fun z o=>by
  obtain⟨x,_,rfl⟩:=List.mem_map.1 o;exact ite4 (h _ _ _) (rdc4 x)
theorem ways{mp nc hr ck}(S:∀X:List Int,X.length<=65536->(nc X).length<=2097152)(H:∀X r d,ck X r d%4=0)(z:∀X,Snd X->Snd (mp X))(E:∀X,Snd X->Snd (nc X)){zs}(Y:Utf.Byt zs) :
  (∃c,proc mp nc hr ck zs=([],c)/\(c=1\/c=2))\/∃M n,proc mp nc hr ck zs=(M,n)/\n%4=0/\0<M.length/\M.length<=2097153/\Spl.total M<=16777216/\∀y∈M,Snd y:=by
 rcases hc:cut mp nc zs with⟨B,c⟩;by_cases A:c=0
 ·subst A;by_cases F:16384<cnt (Utf.encA 0 (Spl.join (read B)))
  ·exact .inl ⟨2,y4j hc F,.inr rfl⟩
  ·obtain⟨x,u,C⟩:=y7D S hc;refine .inr ⟨_,_,y9L hc F,acc4 H _ _,by simpa[read]using x,by simpa[read]using u,?_,y4l (y7C z E Y hc)⟩;have:=x8s B;omega
 ·have J:B=[]/\(c=1\/c=2):=by
   unfold cut at hc;split at hc
   ·exact U6r
   ·split at hc
    ·obtain⟨rfl,rfl⟩:=Prod.mk.inj hc;exact⟨rfl,.inl rfl⟩
    ·split at hc
     ·exact U6r
     ·exact absurd (Prod.mk.inj hc).2.symm A
  obtain⟨rfl,h⟩:=J;exact .inl ⟨c,y9K hc A,h⟩
theorem and63 fl:∃f:Nat,f<64/\bits .and .i64 fl 63=(f:Int):=by
 refine⟨(BitVec.ofInt 64 fl&&&BitVec.ofInt 64 63).toNat,?_,?_⟩
 ·exact i9W
 ·have h:(BitVec.ofInt 64 fl&&&BitVec.ofInt 64 63).toNat<64:=i9W
  show IntKind.i64.wrap (((BitVec.ofInt 64 fl&&&BitVec.ofInt 64 63).toNat:Nat):Int)=_;generalize(BitVec.ofInt 64 fl&&&BitVec.ofInt 64 63).toNat=n at *;simp only[IntKind.wrap,IntKind.bits,IntKind.signed];simp;omega
end Id
theorem ways19{p fl rs w}(h:IdC p fl (Cn.map19 rs fl) (Cn.nfc19 rs) (Cn.y0C rs) (Cn.z1A rs fl) w) s :
  (∃c,Cn.proc19 rs fl (nums s)=([],c)/\(c=1\/c=2))\/∃M n,Cn.proc19 rs fl (nums s)=(M,n)/\n%4=0/\0<M.length/\M.length<=2097153/\Spl.total M<=16777216/\∀y∈M,Id.Snd y :=
 Id.ways h.len (fun _ _ _=>Id.err4) h.ms h.ns (x0w s)
theorem Mu.shape19{w B U v xss}(h:Mu w B U v xss):∃a c,v=.slice a xss.length c:=by
 obtain⟨z,Z,D,_⟩:=h;rcases D.2 with⟨h,A⟩|⟨g,M,T,e,_⟩
 ·exact⟨none,0,by rw[h,A]⟩
 ·exact⟨_,_,e⟩
open Ti
namespace Nm
variable {cl:Int->Int} {cp:Int->Int->Int×Bool}
end Nm
namespace Cn
end Cn
namespace Id
def E(x:List Int):List Int:=(x.map Utf.form).flatten
theorem y7Q{x}(h:Snd x) i:Utf.encA i x=(E x,0,0):=by
 induction x generalizing i with
 | nil=>rfl
 | cons c r ih=>rw[Utf.encA,if_pos (h c M7K),ih (fun z o=>h z m6c),Utf.glue,if_pos rfl];rfl
end Id
open Ti
namespace Cn
theorem y4r{l}(h:(check l).2=0){c}(U:syl c=true){f}(X:f=2\/f=3):hit l f c=Option.none:=by
 obtain⟨F,u,_,_⟩:=x0M.1 h
 cases e:hit l f c with
 | none=>rfl
 | some r =>
  obtain⟨Z,D,R⟩:=x2b e;have L:=x1Y R;have m:=o0d U;exact I9q
theorem y3c{l}(h:(check l).2=0){c}(U:syl c=true):cls l c=0:=by
 unfold cls;rw[y4r h U (Or.inl rfl)]
theorem z2Q{l}(h:(check l).2=0){a b p}(L:x2c l a b=some p):∃r∈l,r.kind=7/\r.to=[a,b]/\r.lo=p/\right r=0/\record l 0 r=0/\hit l 3 p=some r:=by
 obtain⟨F,U,_,_⟩:=x0M.1 h;unfold x2c at L;obtain⟨r,u,rfl⟩:=Option.map_eq_some_iff.1 L;have z:=List.mem_reverse.1 (List.mem_of_find?_eq_some u);have A:isP a b r=true:=List.find?_some u;have hi:r.kind=7/\r.to.getD 0 0=a/\r.to.getD 1 0=b:=o0d A;have W:=(x0m.1 F).2.1 r z;obtain⟨g,i,Q⟩:=x0s W hi.1
 have S:r.to.length=2:=by
  unfold list at Q;have:=o0d (Bool.and_eq_true_iff.1 Q).1;omega
 have j:r.to=[a,b]:=by
  match hq:r.to,S with
  | [x,y],_ =>
   have Z:=hi.2;rw[hq]at Z;simp at Z;rw[Z.1,Z.2]
 have J:step r=1:=(by unfold step;rw[if_neg f6J]);have K:=x0n W f6J
 have H:speaks r r.lo=true:=by
  unfold speaks;refine d0t ⟨f6J,f6J,f6J,f6J,f6J,f6J,?_⟩;rw[J];omega
 exact⟨r,z,hi.1,j,rfl,W,U r z,(x1z F f6J r).2 ⟨z,by rw[hi.1];rfl,H⟩⟩
theorem z8R{l}(h:(check l).2=0){a b}(I:(cmp9 l a b).2=true):opn l (cmp9 l a b).1=[a,b]/\secB l b=true/\cls l (cmp9 l a b).1=0/\cls l a=0/\-2147483648<=(cmp9 l a b).1/\(cmp9 l a b).1<=2147483647:=by
 unfold cmp9 at I ⊢;by_cases U:(sylOf a b).2=true
 ·rw[if_pos U];unfold sylOf at U ⊢;by_cases Z:(jl a&&jv b)=true
  ·rw[if_pos Z];obtain⟨g,Y⟩:=Bool.and_eq_true_iff.1 Z;have B:=o0d g;have Q:=o0d Y;have H:syl (44032+((a-4352)*21+b-4449)*28)=true:=d0t f6J;refine⟨?_,?_,y3c h H,y3S h (Or.inl B),u5L,u5L⟩
   ·rw[y9B H f6J];congr 1
    ·omega
    ·congr 1;omega
   ·unfold secB;rw[Y];rfl
  ·rw[if_neg Z]at U ⊢;by_cases D:(bare2 a&&jt b)=true
   ·rw[if_pos D];obtain⟨g,Y⟩:=Bool.and_eq_true_iff.1 D;unfold bare2 at g;obtain⟨G,A⟩:=Bool.and_eq_true_iff.1 g;have B:=o0d G;have E:=o0d A;have Q:=o0d Y;have H:syl (a+b-4520+1)=true:=d0t f6J;refine⟨?_,?_,y3c h H,y3c h G,u5L,u5L⟩
    ·rw[y2B H f6J];congr 1
     ·omega
     ·congr 1;omega
    ·unfold secB;rw[Y];simp
   ·rw[if_neg D]at U;cases U
 ·rw[if_neg U]at I ⊢;simp only at I ⊢;obtain⟨p,L⟩:=Option.isSome_iff_exists.1 I;obtain⟨r,z,o,j,m,W,C,N⟩:=z2Q h L;rw[L];simp only[Option.getD_some]
  have M:syl p≠true:=fun e=>by
   have:=y4r h e (f:=3) (Or.inr rfl);rw[this]at N;cases N
  have K:=x0n W f6J
  have F:pair l 0 r=true:=by
   cases hq:pair l 0 r with
   | true=>rfl
   | false =>
    exfalso;unfold record at C;rw[if_neg (by rw[o];exact e8N)]at C;split at C
    ·exact absurd C e8N
    ·split at C
     ·exact absurd C e8N
     ·split at C
      ·exact absurd C e8N
      ·rw[if_neg (by rw[o];exact e8N)]at C;split at C
       ·rename_i hne
        exact hne C
       ·split at C
        ·exact absurd C e8N
        ·rw[if_pos ⟨o,hq⟩]at C;exact absurd C e8N
  unfold pair at F;have J:=(Bool.and_eq_true_iff.1 F).1;simp only[Bool.not_eq_true',Bool.or_eq_false_iff,decide_eq_false_iff_not,j,m]at J;refine⟨?_,?_,?_,?_,f6J,f6J⟩
  ·unfold opn;rw[if_neg M,N];exact j
  ·unfold secB
   have:0<secOf l b:=by
    unfold secOf;exact List.countP_pos_iff.2 ⟨r,z,d0t ⟨o,by rw[j];rfl⟩⟩
   simp[this]
  ·exact Classical.not_not.1 J.1.1.1.1.1
  ·have:=Classical.not_not.1 J.1.1.1.1.2;exact W2K
end Cn
open Ti
namespace Cn
theorem x9Q{l:List Rec}:∀(n m:Nat) (c:Int) (a b:List Int),Tree l n c a->Tree l m c b->a=b
 | 0,0,_,_,_,h,k=>by rw[h.2,k.2]
 | 0,m+1,_,_,_,h,k=>f9r
 | n+1,0,_,_,_,h,k=>by
  rcases h with h|h
  ·rw[h.2,k.2]
  ·exact absurd k.1 h.1
 | n+1,m+1,c,a,b,h,k=>by
  rcases h with h|⟨A,ys,Z,D,rfl⟩
  ·exact f9r
  ·rcases k with k|⟨_,zs,B,k2,rfl⟩
   ·exact absurd k.1 A
   ·congr 1;refine List.ext_getElem f6J fun i hi K=>?_;have:=x9Q n m _ _ _ (D i f6J) (k2 i f6J);simpa[List.getD,hi,K]using this
theorem y8r{l}(h:(check l).2=0){p a b}(L:opn l p=[a,b]):(full l p).1=(full l a).1++(full l b).1:=by
 rcases full_tree h p with⟨A,_⟩|⟨_,ys,Z,D,R⟩
 ·rw[L]at A;cases A
 ·rw[L]at Z D
  match ys,Z with
  | [x,y],_ =>
   have g:=x9Q _ _ _ _ _ (D 0 M7K) (full_tree h a);have Y:=x9Q _ _ _ _ _ (D 1 M7K) (full_tree h b);simp only[List.getD_cons_zero,List.getD_cons_succ]at g Y;rw[R,g,Y];simp
theorem x6x{l c}(h:opn l c=[]):(full l c).1=[c]:=by unfold full;rw[walk,if_pos h];rfl
theorem x6T{l X}(h:∀c∈X,opn l c=[]):openAll l X=X:=by
 induction X with
 | nil=>rfl
 | cons c X ih =>
  have Z:=ih fun z o=>h z m6c;unfold openAll at Z ⊢;rw[List.map_cons,List.flatten_cons,Z,x6x (h c M7K)];rfl
theorem z2J l X Y:openAll l (X++Y)=openAll l X++openAll l Y:=by simp[openAll]
theorem z8Q{k}(G:∀c,0<=k c/\k c<=254){A B}(h:∀j,Od.fl k j A=Od.fl k j B):Od.ord k A=Od.ord k B:=Od.z4b G (Od.x7g G A) fun j=>by rw[Od.x6u G,h]
structure Cps19(l:List Rec)(s:List Int×Int)(Q:List Int):Prop where
 o:Od.ord (cls l) (openAll l s.1)=Od.ord (cls l) Q
 i:Nm.In s
 b:∀c∈Nm.bhd s,cls l c≠0/\opn l c=[]
theorem z1G{l}(h:(check l).2=0){s Q}(U:Cps19 l s Q){c}(I:opn l c=[]):Cps19 l (Nm.stp (cls l) (cmp9 l) s c) (Q++[c]):=by
 have G:∀c,0<=cls l c/\cls l c<=254:=fun c=>x2l (x1U h) c;have K:∀A B,Od.ord (cls l) (A++B)=Od.ord (cls l) (Od.ord (cls l) A++Od.ord (cls l) B):=fun A B=>(Od.z2M G A B).symm;have hi:=(Nm.z4i (cl:=cls l) (cp:=cmp9 l) U.i c).1;obtain⟨x,q⟩:=s;obtain⟨y,⟨P,N⟩,Y⟩:=U;simp only at y P N;unfold Nm.stp at hi ⊢;by_cases L:Nm.fits (cls l) (cmp9 l) (x,q) c=true
 ·rw[if_pos L]at hi ⊢;unfold Nm.fits at L;simp only[Bool.and_eq_true,Bool.not_eq_true']at L;obtain⟨E,Z,D⟩:=L;have E:=o0d E;obtain⟨i,rfl⟩:∃i:Nat,q=(i:Int):=⟨q.toNat,f6J⟩;simp only[Int.toNat_natCast]at D hi ⊢;obtain⟨a,_,b,_⟩:=z8R h D;generalize(cmp9 l (x.getD i 0) c).1=p at *;have F:Nm.bhd (x,(i:Int))=x.drop (i+1):=(by unfold Nm.bhd;congr 1);rw[F]at Y Z
  have T:x=x.take i++x.getD i 0::x.drop (i+1):=by
   rw[show x.getD i 0=x[i]'(by omega)by simp[List.getD,(f6J:i<x.length)],<- List.drop_eq_getElem_cons,List.take_append_drop]
  have C:x.set i p=x.take i++p::x.drop (i+1):=by
   rw[List.set_eq_take_append_cons_drop,if_pos f6J]
  have H:openAll l (x.drop (i+1))=x.drop (i+1):=x6T fun z hz=>(Y z hz).2;refine⟨?_,hi,fun z hz=>?_⟩
  ·rw[K Q,<- y,<- K];show Od.ord (cls l) (openAll l (x.set i p))=_;rw[C,show openAll l x=openAll l (x.take i++x.getD i 0::x.drop (i+1))by rw[<- T]];have e:∀z (A B:List Int),openAll l (A++z::B)=openAll l A++((full l z).1++openAll l B):=fun z A B=>(by simp[openAll]);rw[e,e,y8r h a,x6x I,H];refine z8Q G fun j=>?_;generalize x.drop (i+1)=R at *;simp only[Od.x3c,List.append_assoc];congr 2;unfold Od.fl;unfold Nm.blk at Z;rw[List.any_eq_false]at Z
   cases R with
   | nil=>simp
   | cons r R =>
    have u:cls l c≠0:=by
     have J:=Z r M7L;have S:=(Y r M7L).1;have M:=G r;simp at J;omega
    by_cases W:cls l c=j
    ·have:(r::R).filter (fun m=>decide (cls l m=0\/cls l m=j))=[]:=by
      rw[List.filter_eq_nil_iff];intro z hz;have J:=Z z hz;have S:=(Y z hz).1;simp at J;simp;omega
     rw[this];simp
    ·have:[c].filter (fun m=>decide (cls l m=0\/cls l m=j))=[]:=(by simp[u,W]);rw[this];simp
  ·have t:z∈x.drop (i+1):=by
    unfold Nm.bhd at hz;simp only at hz;rwa [List.drop_set_of_lt f6J,(f6J:((i:Int)+1).toNat=i+1)]at hz
   exact Y z t
 ·rw[if_neg L]at hi ⊢;refine⟨?_,hi,fun z hz=>?_⟩
  ·show Od.ord (cls l) (openAll l (x++[c]))=_;rw[z2J,K,y,x6T (X:=[c]) (by simpa using I),<- K]
  ·by_cases E:cls l c=0
   ·rw[if_pos E]at hz;have:=Nm.y8D (x,q) c;simp only at this hz;rw[this]at hz;cases hz
   ·rw[if_neg E]at hz;have:=Nm.y8C (s:=(x,q)) ⟨P,N⟩ c;simp only at this hz;rw[this]at hz;rcases List.mem_append.1 hz with hz|hz
    ·exact Y z hz
    ·rw[List.mem_singleton.1 hz];exact⟨E,I⟩
theorem y7B{l:List Rec}(h:(check l).2=0):∀M:List Int,(∀c∈M,opn l c=[])->Cps19 l (Nm.run (cls l) (cmp9 l) M.reverse) M.reverse
 | [],_=>⟨rfl,⟨Int.le_refl _,(e8M:(-1:Int)<((0:Nat):Int))⟩,fun c I=>by cases I⟩
 | c::M,hM=>by
  rw[List.reverse_cons,Nm.x9K];exact z1G h (y7B h M fun z o=>hM z m6h) (hM c M7L)
theorem z6k{l}(h:(check l).2=0) X:nfd l (nfc19 l X)=nfd l X:=by
 have G:∀c,0<=cls l c/\cls l c<=254:=fun c=>x2l (x1U h) c
 have S:∀c∈nfd l X,opn l c=[]:=fun c I=>by
  have Z:=Od.y2C G I;unfold openAll at Z;obtain⟨y,U,A⟩:=List.mem_flatten.1 Z;obtain⟨z,_,rfl⟩:=List.mem_map.1 U;exact(leaves h z).2.2.2.1 c A
 have D:=(y7B h (nfd l X).reverse (fun c I=>S c v0B)).o;rw[List.reverse_reverse]at D;show Od.ord (cls l) (openAll l (Nm.cps (cls l) (cmp9 l) (nfd l X)))=_;unfold Nm.cps;rw[D];exact Od.z6u G _
theorem z6j{l}(h:(check l).2=0) X:nfc19 l (nfc19 l X)=nfc19 l X:=by
 show Nm.cps _ _ (nfd l (nfc19 l X))=_;rw[z6k h];rfl
end Cn
open Ti
namespace Cn
theorem bare_len15{r a b c d e}(h:bare r a b c d e=true):b=true\/r.to.length=0:=by
 unfold bare at h;simp only[Bool.and_eq_true,Bool.or_eq_true,decide_eq_true_eq]at h;exact h.1.1.1.2
theorem x1Q{x a b}(h:list x a b=true):x.length<=b:=by
 unfold list at h;simp only[Bool.and_eq_true,decide_eq_true_eq]at h;exact h.1.2
theorem y2S{r}(h:right r=0):r.to.length<=24:=by
 have X:=x0v h;unfold right at h;rw[if_neg X]at h;by_cases B:r.kind=15
 ·rw[if_pos B]at h;have I:=x1j h;rcases bare_len15 I.2.2.1 with h1|h1
  ·exact absurd h1 e8M
  ·omega
 rw[if_neg B]at h;have I:=x1j h;rw[Bool.and_eq_true]at I;have q:=I.2;clear I h;by_cases n:r.kind=1\/r.kind=2\/r.kind=11
 ·rw[if_pos n]at q;rcases bare_len15 q with h1|h1
  ·exact absurd h1 e8M
  ·omega
 rw[if_neg n]at q;by_cases C:r.kind=3
 ·rw[if_pos C]at q;exact i0P
 rw[if_neg C]at q;by_cases x:r.kind=4
 ·rw[if_pos x]at q;rw[Bool.and_eq_true,Bool.and_eq_true]at q;have:=x1Q q.1.2;omega
 rw[if_neg x]at q;by_cases D:r.kind=5
 ·rw[if_pos D]at q;exact i0P
 rw[if_neg D]at q;by_cases N:r.kind=13
 ·rw[if_pos N]at q;exact i0P
 rw[if_neg N]at q;by_cases c:r.kind=6
 ·rw[if_pos c]at q;exact n0k
 rw[if_neg c]at q;by_cases R:r.kind=7
 ·rw[if_pos R]at q;exact i0P
 rw[if_neg R]at q;by_cases E:r.kind=8
 ·rw[if_pos E]at q;exact i0P
 rw[if_neg E]at q;by_cases K:r.kind=9
 ·rw[if_pos K]at q;exact n0k
 rw[if_neg K]at q;by_cases J:r.kind=10
 ·rw[if_pos J]at q;exact n0k
 rw[if_neg J]at q;by_cases A:r.kind=12
 ·rw[if_pos A]at q;exact n0k
 rw[if_neg A]at q;exact n0k
theorem x9n{rs}(F:(check6 rs).2=0) c:(mapping rs c).length<=24:=by
 unfold mapping;split
 ·simp
 ·rcases rget_cases F (f:=1) e8M c with⟨_,e⟩ | ⟨_,_,_,_,u⟩
  ·rw[e];simp[none]
  ·exact y2S u
theorem y9z{rs}(F:(check6 rs).2=0) t c:(one15 rs t c).length<=24:=by
 unfold one15;have:=x9n F c
 repeat' split
 all_goals simp
 all_goals omega
theorem x8c{rs:List Rec}(F:(check6 rs).2=0)(t:Bool):∀xs:List Int,(flat15 (one15 rs t) xs).length<=24*xs.length
 | []=>by simp[flat15]
 | x::xs=>by
  have Z:=x8c F t xs;have D:=y9z F t x;have R:flat15 (one15 rs t) (x::xs)=one15 rs t x++flat15 (one15 rs t) xs:=rfl;rw[R,List.length_append,List.length_cons];omega
end Cn
open Ti
namespace Id
theorem z3X{x}(h:Snd x):nums (strOfNums (E x))=E x:=by
 have Y:Utf.Byt (E x):=by
  have:=Utf.y2b 0 x;rwa [y7Q h]at this
 unfold nums strOfNums;simp only[List.map_map]
 conv=>rhs;rw[<- List.map_id (E x)]
 apply List.map_congr_left;intro z o;have:=Y z o;simp only[Function.comp_apply,id_eq];simp;omega
theorem y1b{mp nc hr ck zs x y}(o:zs.length<=16384)(hd:Utf.dec 0 zs=(x,0,0))(J:(mp x).length<=65536)(hy:Snd y)(S:(E y).length<=16384)(z:mp y=y)(A:y.length<=65536)(B:nc y=nc (mp x)) :
  proc mp nc hr ck (E y)=proc mp nc hr ck zs:=by
 have Z:=y3A (mp:=mp) (nc:=nc) (zs:=zs) f6J (by rw[hd]) (by rw[hd];exact u5L)
 have n:Utf.dec 0 (E y)=(y,0,0):=by
  have:=Utf.z5e 0 0 y (by rw[y7Q hy]);rwa [y7Q hy]at this
 have D:=y3A (mp:=mp) (nc:=nc) (zs:=E y) f6J (by rw[n]) (by rw[n];simp only;rw[z];exact f6J);rw[hd]at Z;rw[n]at D;simp only at Z D;rw[z,B]at D;unfold proc;rw[Z,D]
end Id
theorem z7x(f:Nat)(X:f<64):∃g:Nat,g<64/\bits .andNot .i64 (f:Int) 16=(g:Int):=by
 have h:∀a:Fin 64,∃g:Fin 64,bits .andNot .i64 ((a.val:Nat):Int) 16=((g.val:Nat):Int):=M3j;obtain⟨g,Z⟩:=h ⟨f,X⟩;exact⟨g.val,g.isLt,Z⟩
theorem forgets_law19 v rs0 s0 fl w(hg:Glob w)(hv:Rcs w v rs0):Calls prog 4 #[v,.string s0,.int .i64 fl] w (x2S w true):=by
 have K1:=O (y3Z v rs0 w hg hv);obtain⟨ao,bG,rfl,_,bU⟩:=hv.shape;have HG:=O hg;have l:∀r∈rs0.take 150,RecFit r:=fun r hr=>hv.2.1 _ (List.mem_of_mem_take hr);clear hg hv;generalize rs0.take 150=rs,rs0.length=L at *;obtain⟨s,hs⟩:∃s,s0.extract 0 (min (s0.size:Int) 400).toNat=s:=⟨_,rfl⟩;have cG:s.size<=400:=(by rw[<- hs,ByteArray.size_extract];exact f6J);obtain⟨f,hf,bV⟩:=Id.and63 fl;obtain⟨g,bX,cE⟩:=z7x f hf;go_enter func4,ntmps4;go_wp2_with fail;refine(V K1).mono ?_;rintro e1 w1 ⟨b1,h1⟩;have U:=O b1;clear K1 b1;rcases h1 with⟨bJ,rfl⟩|⟨h0,p,v2,bu,rfl,hD,r2,p2⟩
 ·have K2:=O (z9L w1 ((V HG).on (V U)));clear bJ;go_wp2_with fail;refine c0m K2 fun w2 b2=>?_;have bA:=O (x0b (V U) b2);clear K2 b2;go_wp2;go_ret;exact⟨rfl,V bA⟩
 ·obtain⟨a2,cj,bK⟩:∃a c,v2=.slice a bu.length c:=by
   rcases r2.1.2 with⟨h,h0⟩|⟨g,bG,cw,e,_⟩
   ·exact⟨none,0,by rw[h,h0]⟩
   ·exact⟨_,_,e⟩
  subst bK;have h6:=x1U h0;have HC:Hid (∀W,Bw w1 W->∀q,EngAt W q (g:Int) p->∀s,Calls prog 18 #[.pointer (some ⟨q,0,none⟩),.string s] W (y1K W (Cn.proc19 rs g (nums s)))):=fun W t q Z s=>y1c (z5H ((V HG).on (x0b (V U) t)) (hD.below t) h0 l g) Z s;have j:Hid (IdC p g (Cn.map19 rs g) (Cn.nfc19 rs) (Cn.y0C rs) (Cn.z1A rs g) w1):=z5H ((V HG).on (V U)) hD h0 l (g:Int);have HS:Hid (∀W,Bw w1 W->∀xv xs,Sk .i32 W xv xs->xs.length<=1000000000->Calls prog 16 #[.pointer (some ⟨p,0,none⟩),xv,.int .i64 (g:Int)] W (x2S W (stl15 (Cn.one15 rs (tr15 g)) xs))):=fun W t xv xs hx hl=>x9M p g _ xv xs W hx hl (z4a (g:Int) W (hD.below t) h6 l)
  have aD:Hid ((Cn.proc19 rs g (nums s)).1.length<=2097153):=by
   rcases ways19 (V j) s with⟨c,h,_⟩|⟨M,n,h,_,_,D,_⟩
   ·show _<=_;rw[h];simp
   ·show _<=_;rw[h];exact D
  have HN:=O (fun X=>Cn.z6j h0 X);have aC:=O (fun X=>Cn.x8c h6 (tr15 g) X);have K3:=O (z8F p g f6J f6J w1);have KD:=O (decC s)
  have J:Hid ((Utf.dec 0 (nums s)).1.length<=400):=by
   have cF:=nums_length s;rcases Utf.dec_shape (nums s).length 0 (nums s) (l0r _)with⟨_,_,h⟩|⟨q,h,_⟩
   ·show _<=_;omega
   ·show _<=_;rw[h];simp
  have R:Hid ((Utf.dec 0 (nums s)).2.2=0->Id.Snd (Utf.dec 0 (nums s)).1/\(Utf.dec 0 (nums s)).2.1=0):=fun h=>⟨Id.y7J (x0w s) h,by
   rcases Utf.dec_shape (nums s).length 0 (nums s) (l0r _)with⟨_,h,_⟩|⟨q,D,_⟩
   ·exact h
   ·rw[D]at h;simp at h⟩
  clear hD r2 h0 HG p2 l h6;generalize bu.length=rl at *;obtain⟨dd,aJ⟩:∃dd,Utf.dec 0 (nums s)=dd:=⟨_,rfl⟩;rw[aJ]at J R;have ag:=O aJ;clear aJ;go_wp2_with fail;refine(V K3).mono ?_;rintro e3 w3 ⟨q,rfl,Z,b3⟩;have HE:=O Z;have aQ:=O b3;have aM:=O (x0b (V U) b3);have K4:=O (V KD w3 f6J);clear K3 Z b3 U KD;rw[V ag]at K4;obtain⟨x,d2,d3⟩:=dd;go_wp2_with fail;refine(V K4).mono ?_;rintro e4 w4 ⟨v4,rfl,aK,b4⟩;have k:=O (x0b (V aQ) b4);have aS:=O ((V HE).on b4);have u:=O (x0b (V aM) b4);clear K4 b4 aM aQ HE;by_cases aI:d3=0
  ·subst aI;obtain⟨aL,bp⟩:=V R rfl
   try simp only at bp aL
   subst bp;have bO:x.length<=400:=V J;have bP:=V aC x;have ae:Hid (Id.Snd (Cn.map19 rs g x)):=(V j).ms x aL;have ai:Hid (Id.Snd (Cn.nfc19 rs (Cn.map19 rs g x))):=(V j).ns _ (V ae);have bY:(Cn.map19 rs g x).length<=9600:=(by show(flat15 _ _).length<=_;exact f6J);have cC:(Cn.nfc19 rs (Cn.map19 rs g x)).length<=2097152:=(V j).len _ f6J
   have P1:Hid ((Id.E (Cn.map19 rs g x)).length<=16384->stl15 (Cn.one15 rs (tr15 g)) (Cn.map19 rs g x)=true->Cn.proc19 rs g (Id.E (Cn.map19 rs g x))=Cn.proc19 rs g (nums s)):=fun h1 D=>by
    unfold stl15 at D;rw[Bool.and_eq_true]at D;have h3:=o0d D.2;exact Id.y1b u3e (V ag) f6J (V ae) h1 h3.symm f6J rfl
   have P2:Hid ((Id.E (Cn.nfc19 rs (Cn.map19 rs g x))).length<=16384->stl15 (Cn.one15 rs (tr15 g)) (Cn.nfc19 rs (Cn.map19 rs g x))=true->Cn.proc19 rs g (Id.E (Cn.nfc19 rs (Cn.map19 rs g x)))=Cn.proc19 rs g (nums s)):=fun h1 D=>by
    unfold stl15 at D;rw[Bool.and_eq_true]at D;have h3:=o0d D.2;have h4:=o0d D.1;exact Id.y1b u3e (V ag) f6J (V ai) h1 h3.symm (by rw[h3];exact h4) (V HN _)
   have K5:=O (z3U ((V j).map w4 v4 x (V k) aK.sk f6J));have aZ:=O (V j).nfc;obtain⟨cd,cg,bL,_,_⟩:=aK.sk.shape;subst bL;clear j R J aC HN ag aK aL bP bO;generalize Cn.map19 rs g x=y at *;generalize hcc:Cn.nfc19 rs y=c at *;have aR:=O hcc;clear hcc;go_wp2_with fail;refine(V K5).mono ?_;rintro e5 w5 ⟨v5,c5,rfl,b5,bI⟩;rcases bI with⟨rfl,bt,am⟩|⟨rfl,bt⟩
   ·have m:=O (x0b (V k) b5);have aT:=O ((V aS).on b5);have aN:=O (x0b (V u) b5);have K6:=O (V aZ w5 v5 y (V m) am.sk f6J);rw[V aR]at K6;clear aR;have B:=O am.sk;obtain⟨bD,bH,bM,_,_⟩:=am.sk.shape;subst bM;clear K5 b5 u k aS aZ am bt;go_wp2_with fail;refine(V K6).mono ?_;rintro e6 w6 ⟨v6,rfl,aq,b6⟩;have o:=O (x0b (V m) b6);have aU:=O ((V aT).on b6);have aA:=O (x0b (V aN) b6);have K7:=O (V HS w6 (V o) v6 c aq.sk f6J);have I:=O aq.sk;replace B:=O ((V B).below b6);obtain⟨ce,ci,bN,_,_⟩:=aq.sk.shape;subst bN;clear K6 b6 aN m aT aq;generalize stl15 (Cn.one15 rs (tr15 g)) c=t1 at *
    cases t1 with
    | false =>
     clear P1 P2 HS HC B I;go_wp2_with fail;refine c0m K7 fun w7 b7=>?_;have HB:=O (x0b (V aA) b7);clear K7 b7;go_wp2;go_ret;exact⟨rfl,V HB⟩
    | true =>
     go_wp2_with fail;refine c0m K7 fun w7 b7=>?_;have A:=O (x0b (V o) b7);have aV:=O ((V aU).on b7);have aB:=O (x0b (V aA) b7);replace B:=O ((V B).below b7);replace I:=O ((V I).below b7);have K8:=O (V HS w7 (V A) _ y (V B) f6J);clear K7 b7 aA o aU HS;generalize stl15 (Cn.one15 rs (tr15 g)) y=t2 at *
     cases t2 with
     | false =>
      clear P1 P2 HC B I;go_wp2_with fail;refine c0m K8 fun w8 b8=>?_;have HB:=O (x0b (V aB) b8);clear K8 b8;go_wp2;go_ret;exact⟨rfl,V HB⟩
     | true =>
      go_wp2_with fail;refine c0m K8 fun w8 b8=>?_;have az:=O (x0b (V A) b8);have aW:=O ((V aV).on b8);have aO:=O (x0b (V aB) b8);replace B:=O ((V B).below b8);replace I:=O ((V I).below b8);have K9:=O (encC _ c w8 (V I) f6J);have KY:=O (encC (.slice bD y.length bH) y);rw[Id.y7Q (V ai)]at K9;rw[Id.y7Q (V ae)]at KY;have z1:=strOfNums_size (Id.E c);have z2:=strOfNums_size (Id.E y);replace P1:=O fun h=>V P1 h f5W;replace P2:=O fun h=>V P2 h f5W;have N1:=O (Id.z3X (V ai));have N2:=O (Id.z3X (V ae));clear K8 b8 aB A aV ai ae;go_wp2_with fail;refine c0m K9 fun w9 b9=>?_;have S:=O (x0b (V az) b9);have aX:=O ((V aW).on b9);have aP:=O (x0b (V aO) b9);have ba:=O (V KY w9 ((V B).below b9) f6J);clear K9 KY b9 aO az aW B I;go_wp2_with fail;refine c0m ba fun bQ d=>?_;have K:=O (x0b (V S) d);have ab:=O ((V aX).on d);have P:=O (x0b (V aP) d);clear ba d aP S aX;dsimp only at *;generalize Id.E c=ec,Id.E y=ey at *;have KP:=O fun W t q Z=>V HC W t q Z s
      have KT:Hid (ec.length<=16384->∀W,Bw w1 W->∀q,EngAt W q (g:Int) p->Calls prog 18 #[.pointer (some ⟨q,0,none⟩),.string (strOfNums ec)] W (y1K W (Cn.proc19 rs g (nums s)))):=fun h W t q Z=>by
       have:=V HC W t q Z (strOfNums ec);rwa [V N1,V P2 h]at this
      have KU:Hid (ey.length<=16384->∀W,Bw w1 W->∀q,EngAt W q (g:Int) p->Calls prog 18 #[.pointer (some ⟨q,0,none⟩),.string (strOfNums ey)] W (y1K W (Cn.proc19 rs g (nums s)))):=fun h W t q Z=>by
       have:=V HC W t q Z (strOfNums ey);rwa [V N2,V P1 h]at this
      clear HC N1 N2 P1 P2;generalize Cn.proc19 rs g (nums s)=r,strOfNums ec=sc,strOfNums ey=sy at *;by_cases g1:16384<ec.length
      ·have g2:(16384:Int)<sc.size:=f6J;clear KP KT KU z1 z2 g1;go_wp2;go_ret;exact⟨rfl,V P⟩
      ·have g2:¬(16384:Int)<sc.size:=f6J;by_cases g3:16384<ey.length
       ·have g4:(16384:Int)<sy.size:=f6J;clear KP KT KU z1 z2 g1 g3;go_wp2;go_ret;exact⟨rfl,V P⟩
       ·have g4:¬(16384:Int)<sy.size:=f6J;replace KT:=O (V KT f6J);replace KU:=O (V KU f6J);have be:=O (V KP bQ (V K) q (V ab));clear z1 z2 g1 g3 KP;obtain⟨M,n⟩:=r;go_wp2_with fail;refine(V be).mono ?_;rintro cx bR ⟨z,cH,rfl,af⟩;have N:=O (x0b (V K) z);have C:=O ((V ab).on z);have ar:=O (x0b (V P) z);have F:=O af;have bh:=O (V KT bR (V N) q (V C));obtain⟨bB,bE,rfl⟩:=af.shape19;clear be z P K ab KT af;go_wp2_with fail;refine(V bh).mono ?_;rintro cz bS ⟨b,cI,rfl,G⟩;have i:=O (x0b (V N) b);have T:=O ((V C).on b);have aw:=O (x0b (V ar) b);replace F:=O ((V F).below b);have Y:=O G;have bj:=O (V KU bS (V i) q (V T));obtain⟨bZ,cf,rfl⟩:=G.shape19;clear bh b ar N C KU G;go_wp2_with fail;refine(V bj).mono ?_;rintro cB bw ⟨aj,cJ,rfl,H⟩;have ay:=O (x0b (V aw) aj);replace F:=O ((V F).below aj);replace Y:=O ((V Y).below aj);have aY:=O H;obtain⟨bC,bF,rfl⟩:=H.shape19;clear bj aj aw i T H;dsimp only at *;have R1:=(V F).rwsS W7T;have R2:=(V Y).rwsS W7T;have R3:=(V aY).rwsS W7T;have aF:=O (x7c _ _ _ _ bw R1 R2);have aG:Hid (∀W,Bw bw W->Calls prog 19 #[.slice bB M.length bE,.slice bC M.length bF] W (x2S W (decide (M=M)))):=fun W t=>x7c _ _ _ _ W (R1.below t) (R3.below t);rw[d0t rfl]at aF aG;clear F Y aY R1 R2 R3;go_wp2_with fail;refine c0m aF fun bT aH=>?_;have Q:=O (x0b (V ay) aH);have bm:=O (V aG bT aH);clear aF aG aH ay;go_wp2_with fail;refine c0m bm fun cK bn=>?_;have HB:=O (x0b (V Q) bn);clear bm bn Q;go_wp2;go_ret;exact⟨rfl,V HB⟩
   ·omega
  ·have cD:(d3 != 0)=true:=(by simpa using aI);clear aI R J j HS HN aC HC;go_wp2;go_ret;exact⟨rfl,V u⟩
