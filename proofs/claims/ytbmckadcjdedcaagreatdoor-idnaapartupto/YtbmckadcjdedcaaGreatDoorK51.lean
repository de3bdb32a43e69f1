/- Lemmas. -/
import Derived.Test.YtbmckadcjdedcaaGreatDoorK47
import Derived.Lib.MinMaxS
set_option maxHeartbeats 8000000
set_option maxRecDepth 20000
namespace Go.Proofs.YtbmckadcjdedcaaGreatDoor
open Go.Proofs.Tryz
open Go.RowKit
open Ti
section
variable{p:Prop}
theorem U6r(h:p:=by obtain⟨rfl,rfl⟩:=Prod.mk.inj hc;exact⟨rfl,.inr rfl⟩):p:=h
theorem G8v(h:p:=by simp only[IntKind.wrap,IntKind.bits,IntKind.signed];simp;omega):p:=h
theorem i9W(h:p:=by rw[BitVec.toNat_and];exact Nat.lt_of_le_of_lt Nat.and_le_right e8M):p:=h
end
namespace Id
theorem or4{a b}(H:a%4=0)(Q:b%4=0):(a|||b)%4=0:=by
 have h:=Nat.or_mod_two_pow (a:=a) (b:=b) (n:=2);rw[(e8M:(2:Nat)^2=4),H,Q]at h;exact h
theorem ite4{c:Prop}[Decidable c]{a b}(H:a%4=0)(Q:b%4=0):(if c then a else b)%4=0:=by split<;>assumption
theorem z5z:∀(l:List Nat) (a:Nat),a%4=0->(∀z∈l,z%4=0)->l.foldl (·|||·) a%4=0
 | [],_,ha,_=>ha
 | z::l,_,ha,h=>z5z l _ (or4 ha (h z M7K)) fun y hy=>h y (by simp[hy])
theorem err4{o fl rtl dec X}:Lb.err o fl rtl dec X%4=0:=by
 have E:∀c,Lb.nb o fl dec c%4=0:=fun c=>or4 (or4 (ite4 e8M e8M) (ite4 e8M e8M)) (ite4 e8M e8M)
 have U:Lb.num o fl dec X%4=0:=by
  have:=z5z (X.map (Lb.nb o fl dec)) 0 rfl fun z A=>(by obtain⟨c,_,rfl⟩:=List.mem_map.1 A;exact E c);rwa [List.foldl_map]at this
 exact ite4 rfl (or4 (or4 (or4 (or4 (or4 (ite4 e8M e8M) (ite4 (ite4 e8M e8M) (ite4 e8M e8M))) (ite4 e8M e8M)) U) (ite4 e8M e8M)) (ite4 e8M e8M))
theorem rdc4 x:rdc x%4=0:=by
 unfold rdc rd;split
 ·rfl
 ·split
  ·show 2048%4=0;decide
  ·split
   ·show 4096%4=0;decide
   ·rfl
theorem acc4{ck}(h:∀X r d,ck X r d%4=0) rtl xss:acc ck rtl xss%4=0 :=
 z5z _ 0 rfl fun z o=>by
  obtain⟨x,_,rfl⟩:=List.mem_map.1 o;exact ite4 (h _ _ _) (rdc4 x)
theorem ways{mp nc hr ck}(S:∀X:List Int,X.length<=65536->(nc X).length<=2097152)(z:∀X r d,ck X r d%4=0)(C:∀X,Snd X->Snd (mp X))(E:∀X,Snd X->Snd (nc X)){zs}(Q:Utf.Byt zs) :
  (∃c,proc mp nc hr ck zs=([],c)/\(c=1\/c=2))\/∃M n,proc mp nc hr ck zs=(M,n)/\n%4=0/\0<M.length/\M.length<=2097153/\Spl.total M<=16777216/\∀y∈M,Snd y:=by
 rcases hc:cut mp nc zs with⟨B,c⟩;by_cases A:c=0
 ·subst A;by_cases F:16384<cnt (Utf.encA 0 (Spl.join (read B)))
  ·exact .inl ⟨2,x6c hc F,.inr rfl⟩
  ·obtain⟨D,u,G⟩:=y7s S hc;refine .inr ⟨_,_,x9u hc F,acc4 z _ _,by simpa[read]using D,by simpa[read]using u,?_,y4a (y7r C E Q hc)⟩;have:=x8p B;omega
 ·have J:B=[]/\(c=1\/c=2):=by
   unfold cut at hc;split at hc
   ·exact U6r
   ·split at hc
    ·obtain⟨rfl,rfl⟩:=Prod.mk.inj hc;exact⟨rfl,.inl rfl⟩
    ·split at hc
     ·exact U6r
     ·exact absurd (Prod.mk.inj hc).2.symm A
  obtain⟨rfl,h⟩:=J;exact .inl ⟨c,x3h hc A,h⟩
theorem and63 fl:∃f:Nat,f<64/\bits .and .i64 fl 63=(f:Int):=by
 refine⟨(BitVec.ofInt 64 fl&&&BitVec.ofInt 64 63).toNat,?_,?_⟩
 ·exact i9W
 ·have h:(BitVec.ofInt 64 fl&&&BitVec.ofInt 64 63).toNat<64:=i9W
  show IntKind.i64.wrap (((BitVec.ofInt 64 fl&&&BitVec.ofInt 64 63).toNat:Nat):Int)=_;generalize(BitVec.ofInt 64 fl&&&BitVec.ofInt 64 63).toNat=n at *;exact G8v
end Id
theorem z0N{p fl rs w}(h:IdC p fl (Cn.y2r rs fl) (Cn.y0G rs) (Cn.y2g rs) (Cn.z4O rs fl) w) s :
  (∃c,Cn.proc19 rs fl (nums s)=([],c)/\(c=1\/c=2))\/∃M n,Cn.proc19 rs fl (nums s)=(M,n)/\n%4=0/\0<M.length/\M.length<=2097153/\Spl.total M<=16777216/\∀y∈M,Id.Snd y :=
 Id.ways h.len (fun _ _ _=>Id.err4) h.ms h.ns (x0u s)
theorem Mu.shape19{w B U v xss}(h:Mu w B U v xss):∃a c,v=.slice a xss.length c:=by
 obtain⟨j,Z,D,_⟩:=h;rcases D.2 with⟨h,A⟩ | ⟨g,M,t,e,_⟩
 ·exact⟨none,0,by rw[h,A]⟩
 ·exact⟨_,_,e⟩
open Ti
namespace Nm
variable {cl:Int->Int} {cp:Int->Int->Int×Bool}
theorem z6P{z:Int}(D:∀a,(cp z a).2=false)(A:List Int){s:List Int×Int}(X:In s)(c:Int) :
    stp cl cp (A++z::s.1,if s.2<0 then(A.length:Int)else A.length+1+s.2) c=(A++z::(stp cl cp s c).1,if(stp cl cp s c).2<0 then(A.length:Int)else A.length+1+(stp cl cp s c).2):=by
  obtain⟨x,j⟩:=s;obtain⟨R,C⟩:=X;simp only at R C ⊢;by_cases E:j<0
  · have t:fits cl cp (x,j) c=false:=by unfold fits;simp only;rw[d0f f6J];rfl
    have S:fits cl cp (A++z::x,(A.length:Int)) c=false:=by
      unfold fits;rw[(I1M:(A++z::x,(A.length:Int)).1.getD (A++z::x,(A.length:Int)).2.toNat 0=z),D];simp
    rw[if_pos E];unfold stp;rw[t,S];by_cases B:cl c=0
    · simp[B];omega
    · simp[B,E]
  · obtain⟨i,rfl⟩:∃i:Nat,j=(i:Int):=⟨j.toNat,f6J⟩
    rw[if_neg E];have P:((A.length:Int)+1+(i:Int)).toNat=A.length+1+i:=f6J
    have g:(A++z::x).getD (A.length+1+i) 0=x.getD i 0:=by
      unfold List.getD;rw[List.getElem?_append_right f6J,(f6J:A.length+1+i-A.length=i+1),List.getElem?_cons_succ]
    have b:bhd (A++z::x,(A.length:Int)+1+(i:Int))=bhd (x,(i:Int)):=by
      unfold bhd;simp only;rw[(f6J:((A.length:Int)+1+(i:Int)+1).toNat=A.length+(i+2)),List.drop_append,(f6J:((i:Int)+1).toNat=i+1)];simp
    have f:fits cl cp (A++z::x,(A.length:Int)+1+(i:Int)) c=fits cl cp (x,(i:Int)) c:=by
      unfold fits;rw[b];simp only[P,g,Int.toNat_natCast];rw[d0t (f6J:(0:Int)<=(A.length:Int)+1+i),d0t (f6J:(0:Int)<=i)]
    unfold stp;rw[f];by_cases U:fits cl cp (x,(i:Int)) c=true
    · simp only[U,if_true,P,g,Int.toNat_natCast]
      rw[List.set_append_right _ _ f6J,(f6J:A.length+1+i-A.length=i+1),List.set_cons_succ,if_neg f6J]
    · simp only[U]
      by_cases B:cl c=0
      · simp[B];omega
      · simp[B];omega
theorem z0c{z:Int}(A:cl z=0)(Z:∀a,(cp a z).2=false)(D:∀a,(cp z a).2=false)(X:List Int):∀M:List Int,
    run cl cp (X++z::M.reverse)=(cps cl cp X++z::cps cl cp M.reverse,if(run cl cp M.reverse).2<0 then((cps cl cp X).length:Int)else(cps cl cp X).length+1+(run cl cp M.reverse).2)
  | []=>by
    rw[List.reverse_nil,x4v];have:fits cl cp (run cl cp X) z=false:=(by unfold fits;rw[Z];exact M7K);unfold stp;rw[this];simp[A,run,cps]
  | c::l=>by
    rw[List.reverse_cons,(M7K:X++z::(l.reverse++[c])=(X++z::l.reverse)++[c]),x4v,z0c A Z D X l];have:=z6P (cl:=cl) (cp:=cp) D (cps cl cp X) (z0e (cl:=cl) (cp:=cp) l.reverse).1 c;unfold cps at this ⊢;rw[this,x4v]
theorem z4U{z:Int}(A:cl z=0)(Z:∀a,(cp a z).2=false)(D:∀a,(cp z a).2=false)(X Y:List Int):cps cl cp (X++z::Y)=cps cl cp X++z::cps cl cp Y:=by
  have:=z0c A Z D X Y.reverse;rw[List.reverse_reverse]at this;show(run cl cp _).1=_;rw[this]
end Nm
namespace Cn
theorem y7F{l:List Rec}(h:(check l).2=0){f:Int}(U:f=2\/f=3):hit l f 46=Option.none:=by
  obtain⟨q,u,_,_⟩:=x0L.1 h
  cases e:hit l f 46 with
  | none=>rfl
  | some r =>
    obtain⟨Z,D,R⟩:=x2a e;have X:=x1X R;have A:=u r Z;unfold record at A;rw[if_neg f6J]at A;split at A
    · exact absurd A e8N
    · next hn=>exact absurd (d0t ⟨f6J,f6J⟩) hn
theorem y7E{l:List Rec}(h:(check l).2=0):cls l 46=0:=by unfold cls;rw[y7F h (.inl rfl)]
theorem z5d{l:List Rec}(h:(check l).2=0):opn l 46=[]:=by unfold opn;rw[if_neg e8M,y7F h (.inr rfl)]
theorem z1D{l:List Rec}(h:(check l).2=0):vget l 1 46=1:=by
  obtain⟨q,_,_,Q⟩:=x0L.1 h
  have L:plain l 46=true:=by
    rw[baseA,Bool.and_eq_true]at Q;have D:=Q.2;rw[baseA,Bool.and_eq_true]at D;simpa[baseOf]using D.1
  unfold plain at L;unfold vget;split at L
  · next r e =>
    rw[e];have:=o0d L;simp[value,this]
  · cases L
theorem y3s{l:List Rec}(h:(check l).2=0){a b:Int}(B:a=46\/b=46):(cmp9 l a b).2=false:=by
  obtain⟨_,n,_,_⟩:=x0L.1 h
  have X:(sylOf a b).2=false:=by
    unfold sylOf;rcases B with rfl | rfl
    · rw[(e8M:jl 46=false),(e8M:bare2 46=false)];rfl
    · rw[(e8M:jv 46=false),(e8M:jt 46=false),Bool.and_false,Bool.and_false];rfl
  unfold cmp9;rw[X,if_neg e8M]
  cases e:x2b l a b with
  | none=>rfl
  | some p =>
    unfold x2b at e;obtain⟨r,u,rfl⟩:=Option.map_eq_some_iff.1 e;have y:=List.mem_reverse.1 (List.mem_of_find?_eq_some u);have hi:r.kind=7/\r.to.getD 0 0=a/\r.to.getD 1 0=b:=o0d (show isP a b r=true from List.find?_some u);have A:=n r y
    have L:pair l 0 r=true:=by
      cases hpp:pair l 0 r with
      | true=>rfl
      | false =>
        exfalso;unfold record at A;rw[hi.1,hpp]at A
        repeat' split at A
        all_goals simp_all [fam]
    unfold pair at L;rw[hi.2.1,hi.2.2]at L;rcases B with rfl | rfl<;>simp at L
theorem x9s{k:Int->Int}{z:Int}(o:k z=0)(B:List Int):∀(A ms:List Int),Od.ordA k ms (A++z::B)=Od.ordA k ms A++z::Od.ord k B
  | [],ms=>by show Od.ordA k ms (z::B)=Od.bkt k ms++_;rw[Od.ordA,if_pos o];rfl
  | c::A,ms=>by
    rw[List.cons_append,Od.ordA,Od.ordA];split
    · rw[x9s o B A []];simp
    · exact x9s o B A _
theorem z6i{l:List Rec}(h:(check l).2=0)(X Y:List Int):y0G l (X++46::Y)=y0G l X++46::y0G l Y:=by
  have e:openAll l (X++46::Y)=openAll l X++46::openAll l Y:=by
    have:full l 46=([46],0):=(by unfold full;rw[walk,if_pos (z5d h)];rfl);simp[openAll,this]
  unfold y0G nfd;rw[e,Od.ord,x9s (y7E h),Nm.z4U (cp:=cmp9 l) (y7E h) (fun a=>y3s h (.inr rfl)) (fun a=>y3s h (.inl rfl))];rfl
theorem z6b{l:List Rec}(h:(check l).2=0)(fl:Int)(X Y:List Int):y2r l fl (X++46::Y)=y2r l fl X++46::y2r l fl Y:=by
  have:x9r l (tr15 fl) 46=[46]:=(by unfold x9r;rw[z1D h];rfl);simp[y2r,x0H,this]
end Cn
namespace Id
theorem x7f(Y:List Int):∀(X p:List Int),Spl.x0C p (X++46::Y)=Spl.x0C p X++Spl.split Y
  | [],p=>by show Spl.x0C p (46::Y)=[p]++Spl.x0C [] Y;rw[Spl.x0C,if_pos rfl];rfl
  | c::X,p=>by
    rw[List.cons_append,Spl.x0C,Spl.x0C];split
    · rw[x7f Y X []];rfl
    · exact x7f Y X _
theorem z4Z{s t:List Int}(X:(Utf.dec 0 s).2.2=0)(K:(Utf.dec 0 t).2.2=0):Utf.dec 0 (s++46::t)=((Utf.dec 0 s).1++46::(Utf.dec 0 t).1,0,0):=by
  have Z:=Utf.y7x 1 0 0 [46] t e8M e8M K;rw[Utf.y7x s.length 0 0 s (46::t) (l0r _) X (by rw[show(46::t)=[46]++t from rfl,Z]),show(46::t)=[46]++t from rfl,Z];rfl
theorem z1P{c:Int}(h:(46:Int)∈Utf.form c):c=46:=by
  unfold Utf.form at h;split at h
  · simp at h;omega
  · split at h
    · simp at h;omega
    · split at h
      · simp at h;omega
      · simp at h;omega
def E(x:List Int):List Int:=(x.map Utf.form).flatten
theorem z5g{x:List Int}(h:Snd x)(i:Nat):Utf.encA i x=(E x,0,0):=by
  induction x generalizing i with
  | nil=>rfl
  | cons c r ih=>rw[Utf.encA,if_pos (h c M7K),ih (fun z o=>h z m6c),Utf.glue,if_pos rfl];rfl
theorem y1S(t:List Int):∀(xs s:List Int),Snd xs->E xs=s++46::t->(∃a,Snd a/\E a=s)/\∃b,Snd b/\E b=t
  | [],s,_,h=>by simp[E]at h
  | c::r,s,hx,h=>by
    have hr:Snd r:=fun z o=>hx z m6c;have Z:Utf.form c++E r=s++46::t:=h;rcases List.append_eq_append_iff.1 Z with⟨a,R,A⟩ | ⟨a,R,A⟩
    · obtain⟨⟨L,M,rfl⟩,g2⟩:=y1S t r a hr A
      exact⟨⟨c::L,fun z o=>(List.mem_cons.1 o).elim (fun e=>by rw[e];exact hx c M7K) (M z),R.symm⟩,g2⟩
    · cases a with
      | nil =>
        obtain⟨_,g2⟩:=y1S t r [] hr A.symm;exact⟨⟨[c],fun z o=>by rw[List.mem_singleton.1 o];exact hx c M7K,by simpa[E]using R⟩,g2⟩
      | cons x a =>
        obtain⟨rfl,H⟩:=List.cons.inj A;have T:=z1P (c:=c) (by rw[R];exact M7K);subst T;have q:[46]=s++46::a:=R
        cases s with
        | nil=>
         obtain rfl:a=[]:=by simpa using q.symm
         exact⟨⟨[],fun z o=>(by cases o),rfl⟩,r,hr,H.symm⟩
        | cons y s=>simp at q
theorem y7B{s t:List Int}(Q:Utf.Byt (s++46::t))(h:(Utf.dec 0 (s++46::t)).2.2=0):(Utf.dec 0 s).2.2=0/\(Utf.dec 0 t).2.2=0:=by
  have Z:=Utf.y7L _ 0 0 _ (l0r _) Q h;have D:=y7A Q h;rw[z5g D]at Z;obtain⟨⟨a,I,P⟩,b,b1,m⟩:=y1S t _ s D (Prod.mk.inj Z).1
  have g:∀x,Snd x->(Utf.dec 0 (E x)).2.2=0:=fun x J=>by
    have:=Utf.z5a 0 0 x (by rw[z5g J]);rw[z5g J]at this;rw[this]
  rw[<- P,<- m];exact⟨g a I,g b b1⟩
theorem z4q(ck:List Int->Bool->Bool->Nat)(rtl:Bool)(a b:List (List Int)):acc ck rtl (a++b)=acc ck rtl a|||acc ck rtl b:=by
  have:∀(l:List Nat) (n:Nat),l.foldl (·|||·) n=n|||l.foldl (·|||·) 0:=by
    intro l
    induction l with
    | nil=>intro n;simp
    | cons z l ih=>intro n;rw[List.foldl_cons,List.foldl_cons,ih,ih (0|||z),Nat.zero_or,Nat.or_assoc]
  unfold acc;rw[List.map_append,List.foldl_append,this]
theorem z6m{mp nc:List Int->List Int}{hr:List Int->Bool}{ck:List Int->Bool->Bool->Nat}{zs:List Int}(h:(proc mp nc hr ck zs).2%4=0) :
    (Utf.dec 0 zs).2.2=0/\proc mp nc hr ck zs=(read (Spl.split (nc (mp (Utf.dec 0 zs).1))),acc ck ((read (Spl.split (nc (mp (Utf.dec 0 zs).1)))).any hr) (Spl.split (nc (mp (Utf.dec 0 zs).1)))):=by
  by_cases Z:16384<zs.length
  · rw[x3h (x8K Z) e8M]at h;simp at h
  · by_cases D:(Utf.dec 0 zs).2.2=0
    · by_cases R:65536<(mp (Utf.dec 0 zs).1).length
      · rw[x3h (y1Q Z D R) e8M]at h;simp at h
      · have T:=y3q (nc:=nc) Z D R
        by_cases z:16384<cnt (Utf.encA 0 (Spl.join (read (Spl.split (nc (mp (Utf.dec 0 zs).1))))))
        · rw[x6c T z]at h;simp at h
        · exact⟨D,x9u T z⟩
    · rw[x3h (y1P Z D) e8M]at h;simp at h
theorem z3T{mp nc:List Int->List Int}{hr:List Int->Bool}{ck:List Int->Bool->Bool->Nat}(z:∀X r d,ck X r d%4=0){zs:List Int}(h:(proc mp nc hr ck zs).2=1):(Utf.dec 0 zs).2.2≠0:=fun D=>by
  by_cases Z:16384<zs.length
  · rw[x3h (x8K Z) e8M]at h;simp at h
  · by_cases R:65536<(mp (Utf.dec 0 zs).1).length
    · rw[x3h (y1Q Z D R) e8M]at h;simp at h
    · have T:=y3q (nc:=nc) Z D R
      by_cases H:16384<cnt (Utf.encA 0 (Spl.join (read (Spl.split (nc (mp (Utf.dec 0 zs).1))))))
      · rw[x6c T H]at h;simp at h
      · rw[x9u T H]at h
        have:=acc4 z ((read (Spl.split (nc (mp (Utf.dec 0 zs).1)))).any hr) (Spl.split (nc (mp (Utf.dec 0 zs).1)));simp only at h;omega
theorem apart{mp nc:List Int->List Int}{hr:List Int->Bool}{ck:List Int->Bool->Bool->Nat}(y:∀X Y,mp (X++46::Y)=mp X++46::mp Y)(E:∀X Y,nc (X++46::Y)=nc X++46::nc Y)(G:∀X a b d,ck X a d=ck X b d)(z:∀X r d,ck X r d%4=0)
    {s t:List Int} (Q:Utf.Byt (s++46::t)) (S:(s++46::t).length<=16384) :
    (((proc mp nc hr ck s).2=1\/(proc mp nc hr ck t).2=1)->(proc mp nc hr ck (s++46::t)).2=1) /\
    ((proc mp nc hr ck s).2%4=0->(proc mp nc hr ck t).2%4=0->(proc mp nc hr ck (s++46::t)).2%4=0->proc mp nc hr ck (s++46::t)=((proc mp nc hr ck s).1++(proc mp nc hr ck t).1,(proc mp nc hr ck s).2|||(proc mp nc hr ck t).2)):=by
  refine⟨fun h=>?_,fun Z D R=>?_⟩
  · have:(Utf.dec 0 (s++46::t)).2.2≠0:=fun A=>by
      obtain⟨i,p⟩:=y7B Q A;rcases h with h | h
      · exact z3T z h i
      · exact z3T z h p
    rw[x3h (y1P f6J this) e8N]
  · obtain⟨i,P⟩:=z6m Z
    obtain⟨p,f⟩:=z6m D;obtain⟨_,J⟩:=z6m R
    have q:∀a b X,acc ck a X=acc ck b X:=fun a b X=>by
      unfold acc;rw[show wrong ck a=wrong ck b from funext fun x=>by unfold wrong wr;rw[G _ a b]]
    rw[z4Z i p,y,E,Spl.split,x7f]at J;rw[P,f,J,z4q,q _ ((read (Spl.split (nc (mp (Utf.dec 0 s).1)))).any hr),q _ ((read (Spl.split (nc (mp (Utf.dec 0 t).1)))).any hr) (Spl.split (nc (mp (Utf.dec 0 t).1)))];simp[read,Spl.split]
end Id
open Ti
theorem z0h{W w':World}{B A:Nat}{v v':Value}{xss M:List (List Int)}{us d:List Value}(Z:us.length=xss.length)(hr:W.ownsRow B 40 1 v xss.length us)(R:∀i,i<xss.length->Ok .i32 21 W B (us.getD i undef) (xss.getD i []))
  (D:d.length=M.length) (I:∀i,i<M.length->Ok .i32 21 W A (d.getD i undef) (M.getD i [])) (L:w'.ownsRow B 40 1 v' (xss.length+M.length) (us++d)) (E:W.grownBy w' v.ownBlock) (S:xss.length+M.length<=1000000000):Rws w' v' (xss++M):=by
 have G:∀C u l,Ok .i32 21 W C u l->Ok .i32 21 w' C u l:=fun C u l h=>⟨h.1,h.2.1,h.2.2.kept E (x2K e8P h.2.2 hr)⟩;refine⟨us++d,by simp[Z,D],Ow.sv (e:=40) (B:=B) ⟨P8P,by rw[show(us++d).length=xss.length+M.length by simp[Z,D]];exact L⟩,fun i hi=>?_⟩;rw[List.length_append]at hi;by_cases H:i<xss.length
 ·have:=(G _ _ _ (R i H)).sk;unfold List.getD at this ⊢;rwa [List.getElem?_append_left f6J,List.getElem?_append_left H]
 ·have:=(G _ _ _ (I (i-xss.length) f6J)).sk;unfold List.getD at this ⊢;rwa [List.getElem?_append_right f6J,List.getElem?_append_right f6J,Z]
theorem Mu.lt19{w:World}{B U:Nat}{v:Value}{xss:List (List Int)}(h:Mu w B U v xss):∀k,v.ownBlock=some k->k<w.heap.size:=by
 obtain⟨j,_,D,_⟩:=h;exact fun k G=>(D.lt k G).2
theorem z7w(f:Nat)(U:f<64):∃g:Nat,g<64/\bits .andNot .i64 (f:Int) 2=(g:Int)/\bits .and .i64 (g:Int) 2=0:=by
 have h:∀a:Fin 64,∃g:Fin 64,bits .andNot .i64 ((a.val:Nat):Int) 2=((g.val:Nat):Int)/\bits .and .i64 ((g.val:Nat):Int) 2=0:=M3j;obtain⟨g,Z,D⟩:=h ⟨f,U⟩;exact⟨g.val,g.isLt,Z,D⟩
theorem y6K{n:Nat}(E:n<65536)(k:Fin 4):bits .and .i64 (n:Int) ((k.val:Nat):Int)=((n&&&k.val:Nat):Int):=by
 have G:n&&&k.val<4:=Nat.lt_of_le_of_lt Nat.and_le_right k.isLt;show IntKind.i64.wrap (((BitVec.ofInt 64 (n:Int)&&&BitVec.ofInt 64 ((k.val:Nat):Int)).toNat:Nat):Int)=_;rw[BitVec.ofInt_natCast,BitVec.ofInt_natCast,BitVec.toNat_and,BitVec.toNat_ofNat,BitVec.toNat_ofNat,Nat.mod_eq_of_lt f6J,Nat.mod_eq_of_lt (by have:=k.isLt;exact f6J)];generalize n&&&k.val=m at *;exact G8v
theorem Id.proc_lt{mp nc:List Int->List Int}{hr:List Int->Bool}{ck:List Int->Bool->Bool->Nat}(h:∀X r d,ck X r d<65536)(zs:List Int):(Id.proc mp nc hr ck zs).2<65536:=by
 unfold Id.proc;split
 ·show(Id.cut mp nc zs).2<65536;unfold Id.cut
  (repeat' split)<;>simp
 ·split
  ·simp
  ·exact Id.x5o h _ _
theorem x8i(a b:ByteArray):nums (a++b)=nums a++nums b:=by simp[nums,ByteArray.data_append]
theorem z4z{fl:Nat}{rs:List Rec}(G:(Cn.check rs).2=0)(D:bits .and .i64 (fl:Int) 2=0){s t z:ByteArray}(A:s.size<=300)(K:t.size<=300)(o:s++⟨#[46]⟩++t=z) :
  ((Cn.proc19 rs fl (nums s)).2=1\/(Cn.proc19 rs fl (nums t)).2=1->(Cn.proc19 rs fl (nums z)).2=1) /\
  ((Cn.proc19 rs fl (nums s)).2%4=0->(Cn.proc19 rs fl (nums t)).2%4=0->(Cn.proc19 rs fl (nums z)).2%4=0->Cn.proc19 rs fl (nums z)=((Cn.proc19 rs fl (nums s)).1++(Cn.proc19 rs fl (nums t)).1,(Cn.proc19 rs fl (nums s)).2|||(Cn.proc19 rs fl (nums t)).2)):=by
 have e:nums z=nums s++46::nums t:=by
  rw[<- o,x8i,x8i];simp[nums]
 rw[e];refine Id.apart (fun X Y=>Cn.z6b G fl X Y) (fun X Y=>Cn.z6i G X Y) (fun X a b d=>?_) (fun _ _ _=>Id.err4) (by rw[<- e];exact x0u z) (by have:=nums_length s;have:=nums_length t;exact P8P);show Lb.err _ _ _ _ _=Lb.err _ _ _ _ _;unfold Lb.err Lb.chk Lb.flg;rw[D];simp
theorem apart_law19(v:Value)(Y:List Rec)(s0 t0:ByteArray)(fl:Int)(w:World)(hg:Glob w)(hv:Rcs w v Y):Calls prog 5 #[v,.string s0,.string t0,.int .i64 fl] w (x2T w true):=by
 obtain⟨j0,hj,bn,bp,bt⟩:=info_parts Tryz.infoY40;have K1:=O (y3P v Y w hg hv);obtain⟨ao,bh,rfl,_,bD⟩:=hv.shape;have HG:=O hg;have aq:∀r∈Y.take 150,RecFit r:=fun r hr=>hv.2.1 _ (List.mem_of_mem_take hr);clear hg hv;generalize Y.take 150=rs,Y.length=L at *;obtain⟨s,hs⟩:∃s,s0.extract 0 (min (s0.size:Int) 300).toNat=s:=⟨_,rfl⟩;have bu:s.size<=300:=(by rw[<- hs,ByteArray.size_extract];exact f6J);obtain⟨t,ht⟩:∃t,t0.extract 0 (min (t0.size:Int) 300).toNat=t:=⟨_,rfl⟩;have bw:t.size<=300:=(by rw[<- ht,ByteArray.size_extract];exact f6J);obtain⟨z,hz⟩:∃z,s++(⟨#[46]⟩:ByteArray)++t=z:=⟨_,rfl⟩;have q1:∀W,(Op.stringOp .add s (⟨#[46]⟩:ByteArray)).run prog W=.ok (.string (s++(⟨#[46]⟩:ByteArray))) W:=fun W=>run_string_add_sum W _ _ (by show s.size+1<=_;exact f6J);have q2:∀W,(Op.stringOp .add (s++(⟨#[46]⟩:ByteArray)) t).run prog W=.ok (.string z) W:=fun W=>(by rw[<- hz];exact run_string_add_sum W _ _ (by rw[ByteArray.size_append];show s.size+1+_<=_;exact f6J));obtain⟨f,hf,bE⟩:=Id.and63 fl;obtain⟨g,bF,bP,aU⟩:=z7w f hf;go_enter func5,ntmps5;go_wp2_with fail;refine(V K1).mono ?_;rintro e1 I ⟨b1,h1⟩;have Q:=O b1;clear K1 b1;rcases h1 with⟨aF,rfl⟩ | ⟨A,p,v2,aY,rfl,hD,r2,p2⟩
 ·have K2:=O (z4j I ((V HG).on (V Q)));clear aF;go_wp2_with fail;refine c0m K2 fun w2 b2=>?_;have ba:=O (x0b (V Q) b2);clear K2 b2;go_wp2;go_ret;exact⟨rfl,V ba⟩
 ·obtain⟨a2,bL,bA⟩:∃a c,v2=.slice a aY.length c:=by
   rcases r2.1.2 with⟨h,A⟩ | ⟨g,bh,bM,e,_⟩
   ·exact⟨none,0,by rw[h,A]⟩
   ·exact⟨_,_,e⟩
  subst bA;have HC:Hid (∀W,Bw I W->∀q,EngAt W q (g:Int) p->∀s,Calls prog 18 #[.pointer (some ⟨q,0,none⟩),.string s] W (x9O W (Cn.proc19 rs g (nums s)))):=fun W hW q H s=>y0S (z5F ((V HG).on (x0b (V Q) hW)) (hD.below hW) A aq g) H s;have HI:=z5F ((V HG).on (V Q)) hD A aq (g:Int);have Z:=O (z0N HI s);have aw:=O (z0N HI t);have aN:=O (z0N HI z);have HA:=O (z4z A aU bu bw hz);have ar:Hid (∀x,(Cn.proc19 rs g (nums x)).2<65536):=fun x=>Id.proc_lt HI.lt _;have HT:Hid (∀W,Bw I W->Calls prog 10 #[] W (x2T W true)):=fun W hW=>z4j W ((V HG).on (x0b (V Q) hW));have K3:=O (z8G p g f6J f6J I);clear hD r2 A HG p2 HI aq hz aU;have F:=O (V ar s);have d:=O (V ar t);have ag:=O (V ar z);have aJ:Hid (∀W,Bw I W->∀q,EngAt W q (g:Int) p->Calls prog 18 #[.pointer (some ⟨q,0,none⟩),.string s] W (x9O W (Cn.proc19 rs g (nums s)))):=fun W hW q H=>V HC W hW q H s;have aK:Hid (∀W,Bw I W->∀q,EngAt W q (g:Int) p->Calls prog 18 #[.pointer (some ⟨q,0,none⟩),.string t] W (x9O W (Cn.proc19 rs g (nums t)))):=fun W hW q H=>V HC W hW q H t;have aL:Hid (∀W,Bw I W->∀q,EngAt W q (g:Int) p->Calls prog 18 #[.pointer (some ⟨q,0,none⟩),.string z] W (x9O W (Cn.proc19 rs g (nums z)))):=fun W hW q H=>V HC W hW q H z;clear ar HC;generalize Cn.proc19 rs g (nums s)=r1,Cn.proc19 rs g (nums t)=r2,Cn.proc19 rs g (nums z)=r3,aY.length=rl at *;go_wp2_with fail;refine(V K3).mono ?_;rintro e3 w3 ⟨q,rfl,H,b3⟩;have HE:=O H;have aA:=O b3;have X:=O (x0b (V Q) b3);have bd:Bw w3 w3.drew:=(b0r).drew;have K4:=O (V aJ w3.drew (x0b b3 bd) q (H.on bd));have X:=O (x0b (V X) bd);have HE:=O (H.on bd);have aA:=O (x0b b3 bd);clear K3 H b3 Q aJ bd;go_wp2_with fail;go_region;go_wp2_with fail;generalize w3.drew=aZ at *;refine(V K4).mono ?_;rintro e4 w4 ⟨b4,v4,rfl,ay⟩;have ae:=O (x0b (V aA) b4);have aB:=O ((V HE).on b4);have aG:=O (x0b (V X) b4);have K5:=O (V aK w4 (V ae) q (V aB));have N:=O ay;have T:=O ay.lt19;have bI:=b4.size;have bH:=(V X).size;obtain⟨aO,aQ,rfl⟩:=ay.shape19;clear K4 ay b4 HE aA aK X;go_wp2_with fail;refine(V K5).mono ?_;rintro e5 w5 ⟨b5,v5,rfl,K⟩;have af:=O (x0b (V ae) b5);have aM:=O ((V aB).on b5);have aH:=O (x0b (V aG) b5);have K6:=O (V aL w5 (V af) q (V aM));replace N:=O ((V N).below b5);have ai:=O K;have bJ:=b5.size;obtain⟨be,bj,rfl⟩:=K.shape19;clear K5 K b5 aB ae aL aG;go_wp2_with fail;refine(V K6).mono ?_;rintro e6 w6 ⟨b6,v6,rfl,aD⟩;have P:=O (x0b (V af) b6);have o:=O (x0b (V aH) b6);replace N:=O ((V N).below b6);replace ai:=O ((V ai).below b6);have J:=O aD;have bK:=b6.size;obtain⟨U,aj,rfl⟩:=aD.shape19;clear K6 aD b6 aM af aH;obtain⟨m,S⟩:=r1;obtain⟨y2,n2⟩:=r2;obtain⟨y3,n3⟩:=r3;have o1:=Id.or19 (V F) (V d);have lm:S|||n2<65536:=Nat.or_lt_two_pow (n:=16) (V F) (V d);have o2:=Id.or19 lm (V ag);have lM:(S|||n2)|||n3<65536:=Nat.or_lt_two_pow (n:=16) lm (V ag);have a3:bits .and .i64 ((((S|||n2)|||n3:Nat)):Int) 3=_:=y6K lM 3;have a1:bits .and .i64 (((S|||n2:Nat)):Int) 1=_:=y6K lm 1;have a4:bits .and .i64 ((n3:Nat):Int) 3=_:=y6K (V ag) 3;simp only at o1 o2 a3 a1 a4
  have aC:Hid (S%4=0\/S=1\/S=2):=by
   rcases V Z with⟨c,h,hc⟩ | ⟨_,_,h,hc,_⟩
   ·obtain⟨_,rfl⟩:=Prod.mk.inj h;exact .inr hc
   ·obtain⟨_,rfl⟩:=Prod.mk.inj h;exact .inl hc
  have j:Hid (n2%4=0\/n2=1\/n2=2):=by
   rcases V aw with⟨c,h,hc⟩ | ⟨_,_,h,hc,_⟩
   ·obtain⟨_,rfl⟩:=Prod.mk.inj h;exact .inr hc
   ·obtain⟨_,rfl⟩:=Prod.mk.inj h;exact .inl hc
  have am:∀x:Nat,x&&&(3:Fin 4).val=x%4:=fun x=>Nat.and_two_pow_sub_one_eq_mod x 2;have E:∀x:Nat,x&&&(1:Fin 4).val=x%2:=fun x=>Nat.and_two_pow_sub_one_eq_mod x 1
  have G:∀x y:Nat,(x|||y)%4=0↔x%4=0/\y%4=0:=fun x y=>by
   have h:=Nat.or_mod_two_pow (a:=x) (b:=y) (n:=2);rw[(e8P:(2:Nat)^2=4)]at h;rw[h];exact Nat.or_eq_zero_iff
  rw[am]at a3 a4;rw[E]at a1;by_cases hM:((S|||n2)|||n3)%4=0
  ·obtain⟨aR,m3⟩:=(G _ _).1 hM;obtain⟨m1,m2⟩:=(G _ _).1 aR;have hr:=(V HA).2 m1 m2 m3;obtain⟨rfl,M⟩:=Prod.mk.inj hr;have bO:((n3:Int)==((S|||n2:Nat):Int))=true:=by simp only at M;rw[M];simp
   have bG:0<y2.length/\y2.length<=2097153/\m.length<=2097153:=by
    rcases V aw with⟨c,h,hc⟩ | ⟨_,_,h,_,hc,bm,_⟩
    ·obtain⟨rfl,rfl⟩:=Prod.mk.inj h;rcases hc with rfl | rfl<;>simp at m2
    ·rcases V Z with⟨c,h',aS⟩ | ⟨_,_,h',_,aS,aT,_⟩
     ·obtain⟨rfl,rfl⟩:=Prod.mk.inj h';rcases aS with rfl | rfl<;>simp at m1
     ·obtain⟨rfl,_⟩:=Prod.mk.inj h;obtain⟨rfl,_⟩:=Prod.mk.inj h';exact⟨hc,bm,aT⟩
   rw[hM]at a3;obtain⟨bB,p1,p2,p3,_⟩:=V N;obtain⟨az,t1,t2,t3,_⟩:=V ai;obtain⟨bC,g1,g2,g3,_⟩:=V J;dsimp only at p1 p2 p3 t1 t2 t3 g1 g2 g3;have S2:Sv w6 (.slice be y2.length bj) az:=Ow.sv (e:=40) (B:=w4.heap.size) ⟨f6J,by rw[t1];exact t2⟩;rcases S2.src with⟨h,_⟩ | ⟨ad,c5,h,aX⟩
   ·rw[h]at t1;simp at t1;omega
   ·rw[t1]at h;obtain⟨rfl,_,rfl⟩:=Value.slice.inj h
    have aV:∀u∈az,u.oneCell'=true:=fun u hu=>by
     obtain⟨i,hi,rfl⟩:=List.getElem_of_mem hu;have:=(t3 i f6J).sk.shape;simp only[List.getD,List.getElem?_eq_getElem hi,Option.getD_some]at this;obtain⟨a,c,h,_⟩:=this;rw[h];rfl
    have HK:Hid (∀v9 D,D.ownsRow aZ.heap.size 40 1 v9 (m.length+y2.length) (bB++az)->w6.grownBy D (Value.slice aO m.length aQ).ownBlock->Calls prog 19 #[.slice U (m.length+y2.length) aj,v9] D (x2T D true)/\Bw w D):=fun v9 D ab R=>by
     have hk:∀C u l,Ok .i32 21 w6 C u l->Ok .i32 21 D C u l:=fun C u l h=>⟨h.1,h.2.1,h.2.2.kept R (x2K e8P h.2.2 p2)⟩;have R9:=z0h p1 p2 p3 t1 t3 ab R f6J
     have aF:(Value.slice U (m++y2).length aj).ownBlock=none\/(Value.slice U (m++y2).length aj).ownBlock≠(Value.slice aO m.length aQ).ownBlock:=by
      cases hb:(Value.slice U (m++y2).length aj).ownBlock with
      | none=>exact U3z
      | some k =>
       refine .inr fun e=>?_;have q1:=(g2.lt k hb).1;have q2:=V T k e.symm;omega
     have R6:Rws D (.slice U (m++y2).length aj) (m++y2):=⟨bC,g1,Ow.sv (e:=40) (B:=w5.heap.size) ⟨by rw[g1];exact P8P,by rw[g1];exact g2.kept R aF⟩,fun i hi=>(hk _ _ _ (g3 i hi)).sk⟩;have hs:=y2M _ _ _ _ D R6 R9;rw[d0t rfl,List.length_append]at hs;exact⟨hs,(V o).grown R f6J fun k hk=>by have:=(p2.lt k hk).1;exact f6J⟩
    have P2:=O p2;clear N ai J T p3 t2 t3 g1 g2 g3 Z aw aN HA F d ag aC j hr S2 h am E G a1 a4 q1 q2 HT P m1 m2 m3 aR hM lM lm M;generalize(S|||n2)|||n3=k2 at *;generalize S|||n2=k1 at *;go_wp2_with(at_builtin;refine wpList_append_own _ rfl (.tmp 95) (.tmp 96) 49 rfl aZ.heap.size 40 j0 (.slice none 0 0) 1 24 underlying49 hj bn bp bt rfl e8P _ _ _ rfl (V P2) ad y2.length _ az rfl (by rw[t1];exact f6J) aX aV T7X f6J f6J ?_);intro v9 D ab R _;obtain⟨K9,b9⟩:=V HK v9 D ab R;have K9:=O K9;have aI:=O b9;clear b9 HK ab R P2;go_wp2_with fail;refine c0m K9 fun bQ aP=>?_;have HB:=O (x0b (V aI) aP);clear K9 aP aI;go_wp2;go_ret;exact⟨rfl,V HB⟩
  ·have K7:=O (V HT w6 (V P));have bN:(((((S|||n2)|||n3)%4:Nat):Int) != 0)=true:=by rw[bne_iff_ne];omega
   have aW:(S|||n2)%2=0\/n3%4≠0:=by
    by_cases h1:S=1\/n2=1
    ·have:=(V HA).1 h1;simp only at this;exact e5w
    ·refine .inl ?_;have h:=Nat.or_mod_two_pow (a:=S) (b:=n2) (n:=1);rw[(e8P:(2:Nat)^1=2),show S%2=0 by rcases V aC with h | h<;>omega,show n2%2=0 by rcases V j with h | h<;>omega]at h;exact h
   clear N ai J T Z aw aN HA F d ag aC j am E G q1 q2 HT P hM lM lm;generalize((S|||n2)|||n3)%4=k3 at *;generalize(S|||n2)|||n3=k2 at *;generalize hc1:(S|||n2)%2=c1 at *;generalize S|||n2=k1 at *;generalize hc3:n3%4=c3 at *;go_wp2_with fail;refine c0m K7 fun w7 b7=>?_;have HB:=O (x0b (V o) b7);clear K7 b7 o hc1 hc3;by_cases h1:c1=0
   ·subst h1;clear aW;go_wp2;go_ret;exact⟨rfl,V HB⟩
   ·have h2:((c1:Int)==0)=false:=G9k;have h3:((c3:Int) != 0)=true:=(by rw[bne_iff_ne];exact f6J);clear aW h1;go_wp2;go_ret;exact⟨rfl,V HB⟩
