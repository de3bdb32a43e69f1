/- Lemmas. -/
import Derived.Test.YtkfcabdmkmljjaaGreatDoorG44
set_option maxHeartbeats 8000000
set_option maxRecDepth 20000
namespace Go.Proofs.YtkfcabdmkmljjaaGreatDoor
open Go.Proofs.Tryz
open Go.RowKit
open Ti
section
variable{p:Prop}
theorem P6G(h:p:=by rw[List.getD,List.getElem?_eq_getElem h];exact List.getElem_mem h):p:=h
theorem f5u(h:p:=by rw[x1D f6J f6J];exact f6J):p:=h
theorem t4j(h:p:=by rw[strOfNums_size];exact f6J):p:=h
theorem M6z(h:p:=by unfold fits;rw[Z];exact M7K):p:=h
theorem R8s(h:p:=by rw[d];exact e8N):p:=h
end
namespace Nm
variable {cl:Int->Int} {cp:Int->Int->Int×Bool}
theorem z8v{z}(D:∀a,(cp z a).2=false) A{s}(L:In s) c :
  stp cl cp (A++z::s.1,if s.2<0 then(A.length:Int)else A.length+1+s.2) c=(A++z::(stp cl cp s c).1,if(stp cl cp s c).2<0 then(A.length:Int)else A.length+1+(stp cl cp s c).2):=by
 obtain⟨x,j⟩:=s;obtain⟨J,H⟩:=L;simp only at J H ⊢;by_cases F:j<0
 ·have v:fits cl cp (x,j) c=false:=by unfold fits;simp only;rw[d0f f6J];rfl
  have M:fits cl cp (A++z::x,(A.length:Int)) c=false:=by
   unfold fits;rw[(I1M:(A++z::x,(A.length:Int)).1.getD (A++z::x,(A.length:Int)).2.toNat 0=z),D];simp
  rw[if_pos F];unfold stp;rw[v,M];by_cases R:cl c=0
  ·simp[R];omega
  ·simp[R,F]
 ·obtain⟨i,rfl⟩:∃i:Nat,j=(i:Int):=⟨j.toNat,f6J⟩;rw[if_neg F];have t:((A.length:Int)+1+(i:Int)).toNat=A.length+1+i:=by omega
  have g:(A++z::x).getD (A.length+1+i) 0=x.getD i 0:=by
   unfold List.getD;rw[List.getElem?_append_right f6J,(f6J:A.length+1+i-A.length=i+1),List.getElem?_cons_succ]
  have b:bhd (A++z::x,(A.length:Int)+1+(i:Int))=bhd (x,(i:Int)):=by
   unfold bhd;simp only;rw[(f6J:((A.length:Int)+1+(i:Int)+1).toNat=A.length+(i+2)),List.drop_append,(f6J:((i:Int)+1).toNat=i+1)];simp
  have f:fits cl cp (A++z::x,(A.length:Int)+1+(i:Int)) c=fits cl cp (x,(i:Int)) c:=by
   unfold fits;rw[b];simp only[t,g,Int.toNat_natCast];rw[d0t (f6J:(0:Int)<=(A.length:Int)+1+i),d0t (f6J:(0:Int)<=i)]
  unfold stp;rw[f];by_cases o:fits cl cp (x,(i:Int)) c=true
  ·simp only[o,if_true,t,g,Int.toNat_natCast];rw[List.set_append_right _ _ f6J,(f6J:A.length+1+i-A.length=i+1),List.set_cons_succ,if_neg f6J]
  ·simp only[o];by_cases R:cl c=0
   ·simp[R];omega
   ·simp[R];omega
theorem z1g{z:Int}(R:cl z=0)(Z:∀a,(cp a z).2=false)(D:∀a,(cp z a).2=false)(X:List Int):∀M:List Int,
  run cl cp (X++z::M.reverse)=(cps cl cp X++z::cps cl cp M.reverse,if(run cl cp M.reverse).2<0 then((cps cl cp X).length:Int)else(cps cl cp X).length+1+(run cl cp M.reverse).2)
 | []=>by
  rw[List.reverse_nil,x3h];have:fits cl cp (run cl cp X) z=false:=M6z;unfold stp;rw[this];simp[R,run,cps]
 | c::l=>by
  rw[List.reverse_cons,(M7K:X++z::(l.reverse++[c])=(X++z::l.reverse)++[c]),x3h,z1g R Z D X l];have:=z8v (cl:=cl) (cp:=cp) D (cps cl cp X) (z1i (cl:=cl) (cp:=cp) l.reverse).1 c;unfold cps at this ⊢;rw[this,x3h]
theorem z6x{z}(R:cl z=0)(Z:∀a,(cp a z).2=false)(D:∀a,(cp z a).2=false) X Y:cps cl cp (X++z::Y)=cps cl cp X++z::cps cl cp Y:=by
 have:=z1g R Z D X Y.reverse;rw[List.reverse_reverse]at this;show(run cl cp _).1=_;rw[this]
end Nm
namespace Cn
theorem x9Z{k:Int->Int}{z:Int}(T:k z=0)(B:List Int):∀(A ms:List Int),Od.ordA k ms (A++z::B)=Od.ordA k ms A++z::Od.ord k B
 | [],ms=>by show Od.ordA k ms (z::B)=Od.bkt k ms++_;rw[Od.ordA,if_pos T];rfl
 | c::A,ms=>by
  rw[List.cons_append,Od.ordA,Od.ordA];split
  ·rw[x9Z T B A []];simp
  ·exact x9Z T B A _
end Cn
namespace Id
def E(x:List Int):List Int:=(x.map Utf.form).flatten
theorem y8G{x}(h:Snd x) i:Utf.encA i x=(E x,0,0):=by
 induction x generalizing i with
 | nil=>rfl
 | cons c r ih=>rw[Utf.encA,if_pos (h c M7K),ih (fun z T=>h z W9b),Utf.glue,if_pos rfl];rfl
end Id
namespace Pu
def capw(W:Int):Int:=if 2147483648<W then 2147483648 else W
theorem x1D{c:Int}(R:0<=c)(Z:c<=35):dig (let1 c)=c:=by unfold dig let1;split<;>split<;>(try split)<;>(try split)<;>omega
theorem z2J{W u:Int}(d:10<=u):(if 2147483648<capw W*u then 2147483648 else capw W*u)=capw (W*u):=by
 unfold capw;by_cases h:2147483648<W
 ·have D:2147483648<W*u:=by
   calc 2147483648<W:=h
    _=W*1:=f6J
    _<=W*u:=Int.mul_le_mul_of_nonneg_left f6J f6J
  rw[if_pos h,if_pos D,if_pos f6J]
 ·rw[if_neg h]
theorem q0T(bias:Int)(rest:List Int):∀(f:Nat) (k d A W:Int),0<=d->d<=f->1<=W->0<=A ->
  ∃v',rdN bias (wrN bias f k d++rest) k A (capw W)=(0,v',rest)/\A<=v'/\(A+d*W<2147483648->v'=A+d*W)/\(2147483648<=A+d*W->2147483648<=v'):=by
 intro f
 induction f with
 | zero =>
  intro k d A W hd o P N;have U:=x1n k bias;have R:d=0:=f6J;subst R;refine⟨A,?_,Int.le_refl _,fun _=>f6J,fun h=>f6J⟩;rw[x3l f6J];show rdN bias (let1 0::rest) k A (capw W)=_;rw[y0c f5u f5u,x1D f6J f6J];simp
 | succ f ih =>
  intro k d A W hd o P N;have U:=x1n k bias;have K:1<=capw W:=(by unfold capw;exact G7n);by_cases E:d<thr k bias
  ·refine⟨A+d*capw W,?_,?_,?_,?_⟩
   ·rw[x3l E];show rdN bias (let1 d::rest) k A (capw W)=_;rw[y0c (by rw[x1D hd f6J];exact f6J) (by rw[x1D hd f6J];exact E),x1D hd f6J]
   ·have:=Int.mul_nonneg hd (f6J:0<=capw W);omega
   ·intro h;unfold capw;by_cases Y:2147483648<W
    ·have R:d=0:=by
      by_cases C:1<=d
      ·have:W<=d*W:=by
        calc W=1*W:=by omega
         _<=d*W:=Int.mul_le_mul_of_nonneg_right C f6J
       omega
      ·omega
     subst R;simp
    ·rw[if_neg Y]
   ·intro h;unfold capw;by_cases Y:2147483648<W
    ·rw[if_pos Y];by_cases C:1<=d
     ·omega
     ·have R:d=0:=f6J;subst R;simp at h ⊢;exact h
    ·rw[if_neg Y];exact h
  ·have i:0<=(d-thr k bias)%(36-thr k bias):=Int.emod_nonneg _ f6J;have m:(d-thr k bias)%(36-thr k bias)<36-thr k bias:=Int.emod_lt_of_pos _ f6J;have s:0<=(d-thr k bias) / (36-thr k bias):=Int.ediv_nonneg f6J f6J;have L:(d-thr k bias) / (36-thr k bias)<=d-thr k bias:=Int.ediv_le_self _ f6J;have F:=Int.mul_ediv_add_emod (d-thr k bias) (36-thr k bias)
   have l:1<=W*(36-thr k bias):=by
    calc 1<=W:=P
     _=W*1:=f6J
     _<=W*(36-thr k bias):=Int.mul_le_mul_of_nonneg_left f6J f6J
   generalize hc:thr k bias+(d-thr k bias)%(36-thr k bias)=c,hqe:(d-thr k bias) / (36-thr k bias)=q at *;have I:d=c+(36-thr k bias)*q:=f6J;have G:0<=c*capw W:=Int.mul_nonneg f6J f6J;obtain⟨v',Z,D,J,H⟩:=ih (k+1) q (A+c*capw W) (W*(36-thr k bias)) s f6J l f6J
   have M:d*W=c*W+q*(W*(36-thr k bias)):=by
    rw[I,Int.add_mul,Int.mul_comm (36-thr k bias) q,Int.mul_assoc,Int.mul_comm (36-thr k bias) W]
   have Q:0<=q*(W*(36-thr k bias)):=Int.mul_nonneg s f6J;refine⟨v',?_,f6J,?_,?_⟩
   ·rw[x6q E,hc,hqe];show rdN bias (let1 c::(wrN bias f (k+1) _++rest)) k A (capw W)=_;rw[y4V f5u f5u,x1D f6J f6J,z2J f6J];exact Z
   ·intro h;by_cases Y:2147483648<W
    ·have:W<=c*W:=by
      calc W=1*W:=by omega
       _<=c*W:=Int.mul_le_mul_of_nonneg_right f6J f6J
     omega
    ·have B:capw W=W:=(by unfold capw;rw[if_neg Y]);rw[B]at J;rw[J f6J];omega
   ·intro h;by_cases Y:2147483648<W
    ·have B:capw W=2147483648:=(by unfold capw;rw[if_pos Y]);rw[B]at D;omega
    ·have B:capw W=W:=(by unfold capw;rw[if_neg Y]);rw[B]at H;exact H f6J
theorem z8f{d bias:Int}(rest:List Int)(R:0<=d):∃v',rdN bias (wrNum d bias++rest) 1 0 1=(0,v',rest)/\(d<2147483648->v'=d)/\(2147483648<=d->2147483648<=v'):=by
 obtain⟨v',Z,_,J,H⟩:=q0T bias rest d.toNat 1 d 0 1 R f6J f6J f6J;exact⟨v',Z,fun h=>by rw[J f6J];exact f6J,fun h=>H f6J⟩
theorem q1I(bias:Int):∀(f:Nat) (k v:Int),wrN bias f k v≠[]:=by
 intro f k v
 cases f with
 | zero=>simp[wrN]
 | succ f=>rw[wrN];exact f1X
theorem z4W(d bias:Int):wrNum d bias≠[]:=q1I _ _ _ _
theorem z4n{d:Int}{s:St}(rest:List Int)(R:0<=d)(Z:d<=2147483647)(l:Utf.okc (stepN s d)):rdW (wrNum d s.bias++rest) s=rdW rest (step s d):=by
 obtain⟨Q,D,J,_⟩:=z8f (bias:=s.bias) rest R;rw[z0R (by simp[z4W]),D,J f6J];exact y3Q f6J l
def hy(ws:List Int):List Int:=if ws.length=0 then[]else[45]
theorem y0M{A body:List Int}(Z:∀z∈A,0<=z/\z<128)(D:∀z∈body,48<=z/\z<=122)(S:A.length+1+body.length<=65536):decode (A++hy A++body)=rdW body (begin A):=by
 have Y:basicB (A++hy A++body)=true:=by
  unfold basicB;rw[List.all_eq_true];intro z hz;simp only[List.mem_append]at hz;rcases hz with(hz | hz) | hz
  ·have:=Z z hz;simpa using this.2
  ·unfold hy at hz;split at hz
   ·simp at hz
   ·simp at hz;subst hz;rfl
  ·have:=D z hz;simp;omega
 have C:∀j,j<body.length->body.getD j 0≠45:=fun j X=>by
  have:=D (body.getD j 0) (by rw[List.getD,List.getElem?_eq_getElem X];exact List.getElem_mem X);omega
 rw[y0L,if_neg (by unfold hy;split<;>simp<;>omega),if_neg (by rw[Y];exact M7N)];rcases Nat.eq_zero_or_pos A.length with h0 | h0
 ·have q:A=[]:=List.eq_nil_of_length_eq_zero h0;subst q;have hz:([]:List Int)++hy []++body=body:=rfl;have W:x3D body 0 0=0:=x4P C 0 0;rw[hz];unfold tail;rw[W,if_pos rfl];rfl
 ·have B:hy A=[45]:=(by unfold hy;rw[if_neg f6J]);rw[B]
  have W:x3D (A++[45]++body) 0 0=A.length:=by
   rw[y4D (i:=A.length) M7N (by simp[List.getD]) (fun j J H=>?_)]
   ·omega
   ·simp at H
    have X:(A++[45]++body).getD j 0=body.getD (j-(A.length+1)) 0:=by
     simp only[List.getD];rw[List.append_assoc,List.getElem?_append_right f6J,List.getElem?_append_right P8P];simp[Nat.sub_sub]
    rw[X];exact C _ f6J
  unfold tail;rw[W,if_neg f6J]
  have t:(A++[45]++body).drop (A.length+1)=body:=by
   rw[List.drop_append,List.drop_eq_nil_of_le M7N];simp
  have E:(A++[45]++body).take A.length=A:=by
   rw[List.append_assoc,List.take_append_of_le_length (l0r _),List.take_length]
  rw[t,E]
end Pu
namespace Pu
def sel(xs:List Int)(q:Nat->Bool)(n:Nat):List Int:=((List.range n).filter q).map fun k=>xs.getD k 0
theorem y3y(xs:List Int)(q:Nat->Bool)(n:Nat):(sel xs q n).length=cnt q n:=by unfold sel cnt;rw[List.length_map]
theorem y4Y(xs:List Int)(q:Nat->Bool)(n:Nat):sel xs q (n+1)=sel xs q n++if q n then[xs.getD n 0]else[]:=by
 unfold sel;rw[List.range_succ,List.filter_append,List.map_append];cases h:q n<;>simp[h]
theorem y1V{xs:List Int}{p q:Nat->Bool}{n:Nat}(h:∀k,k<n->p k=q k):sel xs p n=sel xs q n:=by
 unfold sel;rw[List.filter_congr fun k G=>h k (List.mem_range.1 G)]
theorem y6d{A B:List Int}{k:Nat}(h:k<=A.length)(c:Int):ins (A++B) k c=ins A k c++B:=by
 unfold ins;rw[List.take_append_of_le_length h,List.drop_append_of_le_length h,List.append_assoc,List.cons_append]
theorem z7t{xs:List Int}{q:Nat->Bool}{c:Nat}(I:q c=false):∀n,c<n->ins (sel xs q n) (cnt q c) (xs.getD c 0)=sel xs (addp q c) n:=by
 intro n
 induction n with
 | zero=>intro h;omega
 | succ n ih =>
  intro F;rw[y4Y,y4Y];by_cases h:c=n
  ·subst h;have t:addp q c c=true:=(by simp[addp]);rw[I,t,if_neg M7N,if_pos rfl,List.append_nil]
   have E:sel xs (addp q c) c=sel xs q c:=y1V fun k G=>by
    have:(k==c)=false:=P8P;unfold addp;rw[this,Bool.false_or]
   rw[E];unfold ins;rw[<- y3y xs q c,List.take_length,List.drop_length]
  ·have t:addp q c n=q n:=by
    have:(n==c)=false:=P8P;unfold addp;rw[this,Bool.false_or]
   rw[t,y6d (by rw[y3y];exact cnt_mono f6J),ih f6J]
theorem z8o{xs:List Int}{q:Nat->Bool}(h:∀k,k<xs.length->q k=true):sel xs q xs.length=xs:=by
 have:sel xs q xs.length=sel xs (fun _=>true) xs.length:=y1V h;rw[this];unfold sel;rw[List.filter_eq_self.2 fun _ _=>rfl];refine List.ext_getElem M7K fun i Z D=>?_;simp[List.getD,D]
theorem z1U(xs:List Int):∀(r:List Nat) (T out:List Int),(wr1 xs r T out).2=out++r.map fun k=>xs.getD k 0
 | [],_,_=>by simp[wr1]
 | c::r,T,out=>by rw[wr1,z1U xs r];exact M7K
theorem q0K{xs:List Int}(L:allb okb xs=true){c:Nat}(h:c<xs.length):Utf.okc (xs.getD c 0):=by
 have:=List.all_eq_true.1 L (xs.getD c 0) P6G;exact o0d this
theorem z2p{xs:List Int}(L:allb okb xs=true){c:Nat}(h:c<xs.length):0<=xs.getD c 0/\xs.getD c 0<=1114111 :=
 x7k L _ P6G
end Pu
open Ti
namespace Pu
def bch(z:Int):Prop:=(48<=z/\z<=57)\/(97<=z/\z<=122)
theorem x6Y{d}(R:0<=d)(Z:d<=35):bch (let1 d):=by unfold bch let1;exact G7n
theorem z4V(bias:Int):∀(f:Nat) (k v:Int),0<=v->v<=f->∀z∈wrN bias f k v,bch z:=by
 intro f
 induction f with
 | zero =>
  intro k v R Z z T;simp[wrN]at T;subst T;exact x6Y R f6J
 | succ f ih =>
  intro k v R Z z T;have U:=x1n k bias;by_cases E:v<thr k bias
  ·rw[x3l E]at T;simp at T;subst T;exact x6Y R f6J
  ·rw[x6q E]at T;have i:0<=(v-thr k bias)%(36-thr k bias):=Int.emod_nonneg _ f6J;have m:(v-thr k bias)%(36-thr k bias)<36-thr k bias:=Int.emod_lt_of_pos _ f6J;have s:0<=(v-thr k bias) / (36-thr k bias):=Int.ediv_nonneg f6J f6J;have L:(v-thr k bias) / (36-thr k bias)<=v-thr k bias:=Int.ediv_le_self _ f6J;rcases List.mem_cons.1 T with h | h
   ·subst h;exact x6Y f6J f6J
   ·exact ih _ _ s f6J z h
theorem Wv.back2{xs:List Int}(L:allb okb xs=true):∀(r:List Nat) (T:List Int) (q:Nat->Bool) (p n i bias:Int) (first:Bool) (out:List Int),Wv xs r T q p n i->(∀k,k<xs.length->q k=true\/k∈r)->(wr2 xs r T p n i bias first out).2=0 ->
  ∃body,wr2 xs r T p n i bias first out=(out++body,0)/\(∀z∈body,bch z)/\rdW body ⟨sel xs q xs.length,n,i,bias,first⟩=(xs,0)
 | [],T,q,p,n,i,bias,first,out,h,hall,_=>by
  refine⟨[],by rw[wr2,List.append_nil],fun z hz=>absurd hz M7N,?_⟩;rw[z0Q];show(sel xs q xs.length,(0:Int))=_;rw[z8o fun k G=>(hall k G).resolve_right M7N]
 | c::r,T,q,p,n,i,bias,first,out,h,hall,h0=>by
  obtain⟨Z,D,J,_⟩:=h.nx c M7N;have R:=h.pos;by_cases N:2147483647<dlt xs c T p n i
  ·rw[x6p N]at h0;exact absurd h0 e8N
  have C:dlt xs c T p n i<=2147483647:=f6J;have A:=h.div;have F:=h.mod;have B:p+1=((sel xs q xs.length).length:Int)+1:=(by rw[y3y,<- h.hp]);rw[x4B N,A,F,(f6J:n+(xs.getD c 0-n)=xs.getD c 0)]at h0
  obtain⟨body,b1,m,I⟩:=Wv.back2 L r (add T c) (addp q c) (p+1) (xs.getD c 0) ((cnt q c:Int)+1) (adapt (dlt xs c T p n i) (p+1) first) false (out++wrNum (dlt xs c T p n i) bias) h.next (fun k G=>by
   rcases hall k G with hq | hq
   ·exact .inl (by simp[addp,hq])
   ·rcases List.mem_cons.1 hq with hq | hq
    ·exact .inl (by simp[addp,hq])
    ·exact .inr hq) h0
  refine⟨wrNum (dlt xs c T p n i) bias++body,?_,?_,?_⟩
  ·rw[x4B N,A,F,(f6J:n+(xs.getD c 0-n)=xs.getD c 0),b1,List.append_assoc]
  ·intro z hz;rcases List.mem_append.1 hz with hz | hz
   ·exact z4V bias _ _ _ R f6J z hz
   ·exact m z hz
  ·generalize dlt xs c T p n i=d at *
   have t:stepN ⟨sel xs q xs.length,n,i,bias,first⟩ d=xs.getD c 0:=by
    show n+(i+d) / (((sel xs q xs.length).length:Int)+1)=_;rw[<- B,A];omega
   have E:stepP ⟨sel xs q xs.length,n,i,bias,first⟩ d=(cnt q c:Int):=by
    show(i+d)%(((sel xs q xs.length).length:Int)+1)=_;rw[<- B,F]
   have H:=z4n (d:=d) (s:=⟨sel xs q xs.length,n,i,bias,first⟩) body R C (by rw[t];exact q0K L Z);refine H.trans ?_
   have K:step ⟨sel xs q xs.length,n,i,bias,first⟩ d=⟨sel xs (addp q c) xs.length,xs.getD c 0,(cnt q c:Int)+1,adapt d (p+1) first,false⟩:=by
    unfold step;rw[t,E];show St.mk (ins (sel xs q xs.length) _ _) _ _ (adapt d (((sel xs q xs.length).length:Int)+1) first) false=_;rw[<- B,Int.toNat_natCast,z7t D _ Z]
   rw[K];exact I
theorem there{xs:List Int}(L:allb okb xs=true)(S:xs.length<=16384)(R:(encode xs).2=0)(F:(encode xs).1.length<=60000):(∀z∈(encode xs).1,(z∈xs/\0<=z/\z<128)\/z=45\/bch z)/\decode (encode xs).1=(xs,0):=by
 have A:(idx xs lowq).map (fun k=>xs.getD k 0)=sel xs (fun k=>lowq (xs.getD k 0)) xs.length:=rfl;have B:(sel xs (fun k=>lowq (xs.getD k 0)) xs.length).length=(idx xs lowq).length:=by rw[<- A,List.length_map]
 have e:encode xs=wr2 xs (ordOf xs) (t1Of xs) ((idx xs lowq).length:Int) 128 0 72 true ((wr1 xs (idx xs lowq) (List.replicate (xs.length+1) 0) []).2++if(idx xs lowq).length=0 then[]else[45]):=by
  unfold encode;rw[if_neg (by rw[L];exact M7L)];rfl
 rw[e]at R
 obtain⟨body,b1,m,I⟩:=Wv.back2 L (ordOf xs) (t1Of xs) _ _ _ _ 72 true _ (y3W S) (fun k G=>by
  cases hq:lowq (xs.getD k 0)with
  | true=>exact U3B
  | false=>exact .inr ((x1m xs _).symm.subset (x9z.2 ⟨G,by unfold x1Y;rw[hq];rfl⟩))) R
 have q:∀z∈sel xs (fun k=>lowq (xs.getD k 0)) xs.length,z∈xs/\0<=z/\z<128:=fun z hz=>by
  rw[<- A]at hz;obtain⟨k,G,rfl⟩:=List.mem_map.1 hz;obtain⟨C,M⟩:=x9z.1 G;have:=z2p L C;unfold lowq at M;exact⟨by rw[List.getD,List.getElem?_eq_getElem C];exact List.getElem_mem C,this.1,o0d M⟩
 have E:encode xs=(sel xs (fun k=>lowq (xs.getD k 0)) xs.length++hy (sel xs (fun k=>lowq (xs.getD k 0)) xs.length)++body,0):=by
  rw[e,b1,z1U,List.nil_append,A];unfold hy;rw[B]
 rw[E]at F ⊢;simp only[List.length_append]at F;refine⟨fun z hz=>?_,(y0M (fun z hz=>(q z hz).2) (fun z hz=>by have:=m z hz;unfold bch at this;exact f6J) f6J).trans I⟩;simp only[List.mem_append]at hz;rcases hz with(hz | hz) | hz
 ·exact .inl (q z hz)
 ·unfold hy at hz;split at hz
  ·cases hz
  ·exact .inr (.inl (by simpa using hz))
 ·exact .inr (.inr (m z hz))
end Pu
namespace Nm
variable {cl:Int->Int} {cp:Int->Int->Int×Bool}
theorem y4g:∀M:List Int,(∀c∈M,cl c=0/\∀a,(cp a c).2=false)->cps cl cp M.reverse=M.reverse
 | [],_=>rfl
 | c::l,h=>by
  obtain⟨R,Z⟩:=h c M7K;have B:=y4g l fun z T=>h z W9b;have:fits cl cp (run cl cp l.reverse) c=false:=M6z;unfold cps at B ⊢;rw[List.reverse_cons,x3h];unfold stp;rw[this];simp[B]
end Nm
namespace Cn
theorem x6d:∀X:List Int,(X.map fun c=>[c]).flatten=X
 | []=>rfl
 | c::l=>by rw[List.map_cons,List.flatten_cons,x6d l];rfl
theorem z0j l:x2f l []=[]:=by
 have h:nfd l []=[]:=(by unfold nfd Od.ord openAll;rw[List.map_nil,List.flatten_nil,Od.ordA,Od.x6z]);unfold x2f Nm.cps Nm.run;rw[h,List.foldl_nil]
theorem y7O{l}(h:(check l).2=0){f}(o:f=2\/f=3){c:Int}(R:0<=c)(Z:c<128):hit l f c=Option.none:=by
 obtain⟨q,u,_,_⟩:=x0I.1 h
 cases e:hit l f c with
 | none=>rfl
 | some r =>
  obtain⟨Z,D,J⟩:=x1R e;have L:=x1O J;have R:=u r Z;unfold record at R;rw[if_neg f6J]at R;split at R
  ·exact absurd R e8N
  ·next hn=>exact absurd (d0t ⟨f6J,f6J⟩) hn
theorem x9g{l}(h:(check l).2=0){a b}(hb:a=46\/b<128):(cmp9 l a b).2=false:=by
 obtain⟨_,n,_,_⟩:=x0I.1 h
 have L:(sylOf a b).2=false:=by
  unfold sylOf;rcases hb with rfl | hb
  ·rw[(e8N:jl 46=false),(e8N:bare2 46=false)];rfl
  ·rw[show jv b=false by unfold jv;exact d0f f6J,show jt b=false by unfold jt;exact d0f f6J,Bool.and_false,Bool.and_false];rfl
 unfold cmp9;rw[L,if_neg e8N]
 cases e:x1T l a b with
 | none=>rfl
 | some p =>
  unfold x1T at e;obtain⟨r,u,rfl⟩:=Option.map_eq_some_iff.1 e;have z:=List.mem_reverse.1 (List.mem_of_find?_eq_some u);have hi:r.kind=7/\r.to.getD 0 0=a/\r.to.getD 1 0=b:=o0d (show isP a b r=true from List.find?_some u);have R:=n r z
  have s:pair l 0 r=true:=by
   cases hpp:pair l 0 r with
   | true=>rfl
   | false =>
    exfalso;unfold record at R;rw[hi.1,hpp]at R
    repeat' split at R
    all_goals simp_all [fam]
  unfold pair at s;rw[hi.2.1,hi.2.2]at s;rcases hb with rfl | hb
  ·simp at s
  ·rw[d0t hb]at s;simp at s
theorem y7N{l}(h:(check l).2=0){c:Int}(R:0<=c)(Z:c<128):cls l c=0:=by unfold cls;rw[y7O h (.inl rfl) R Z]
theorem y3T{l}(h:(check l).2=0){c:Int}(R:0<=c)(Z:c<128):full l c=([c],0):=by
 have:opn l c=[]:=(by unfold opn;rw[if_neg (by unfold syl;exact P8P),y7O h (.inr rfl) R Z]);unfold full;rw[walk,if_pos this];rfl
theorem z3Z{l}(h:(check l).2=0) X Y:x2f l (X++46::Y)=x2f l X++46::x2f l Y:=by
 have e:openAll l (X++46::Y)=openAll l X++46::openAll l Y:=(by simp[openAll,y3T h (c:=46)]);have R:cls l 46=0:=y7N h e8M e8M;unfold x2f nfd;rw[e,Od.ord,x9Z R,Nm.z6x (cp:=cmp9 l) R (fun a=>x9g h (.inr e8M)) (fun a=>x9g h (.inl rfl))];rfl
theorem z7P{l}(h:(check l).2=0){X:List Int}(D:∀c∈X,0<=c/\c<128):x2f l X=X:=by
 have I:∀c∈X,cls l c=0:=fun c I=>y7N h (D c I).1 (D c I).2
 have j:openAll l X=X:=by
  unfold openAll;have:X.map (fun c=>(full l c).1)=X.map fun c=>[c]:=List.map_congr_left fun c I=>(by rw[y3T h (D c I).1 (D c I).2]);rw[this,x6d]
 have d:∀Y:List Int,(∀c∈Y,cls l c=0)->Od.ordA (cls l) [] Y=Y:=fun Y N=>by
  induction Y with
  | nil=>exact Od.x6z _
  | cons c Y ih=>rw[Od.ordA,if_pos (N c M7K),Od.x6z,ih fun z T=>N z W9b];rfl
 have hd:nfd l X=X:=(by unfold nfd;rw[j];exact d X I);unfold x2f;rw[hd];have:=Nm.y4g (cl:=cls l) (cp:=cmp9 l) X.reverse fun c q=>⟨I c (List.mem_reverse.1 q),fun a=>x9g h (.inr (D c (List.mem_reverse.1 q)).2)⟩;rwa [List.reverse_reverse]at this
theorem y7T{l}:∀(k:Nat) (c0 c:Int),baseA l k c0=true->c0<=c->c<c0+k->baseOf c=true->plain l c=true
 | 0,_,_,_,h1,h2,_=>f6J
 | k+1,c0,c,h,h1,h2,hb=>by
  rw[baseA,Bool.and_eq_true]at h;rcases Int.lt_or_eq_of_le h1 with J | rfl
  ·exact y7T k (c0+1) c h.2 f6J f6J hb
  ·have:=h.1;rw[hb]at this;exact W2K
theorem x3T{l}(h:(check l).2=0){c:Int}(I:c=46\/c=45\/Pu.bch c):vget l 1 c=1:=by
 obtain⟨_,_,_,Y⟩:=x0I.1 h;unfold Pu.bch at I;have s:=y7T 78 45 c Y f6J f6J (by unfold baseOf;exact d0t f6J);unfold plain at s;unfold vget;split at s
 ·next r e =>
  rw[e];have:=o0d s;simp[value,this]
 ·cases s
def Kp(rs:List Rec)(c:Int):Prop:=c≠46/\(vget rs 1 c=1\/vget rs 1 c=4)
theorem x1r{rs fl X}(C:tr15 fl=false)(h:∀c∈X,vget rs 1 c=1\/vget rs 1 c=4):x4S rs fl X=X:=by
 unfold x4S x0F
 have:X.map (x9X rs (tr15 fl))=X.map fun c=>[c]:=List.map_congr_left fun c I=>by
  unfold x9X;rw[C];rcases h c I with h | h<;>simp[h]
 rw[this,x6d]
theorem clean{rs fl X rtl dec}(C:Lb.flg fl 16=false)(h:x4J rs fl X rtl dec=0):(∀d,x4J rs fl X rtl d=0)/\x2f rs X=X/\(∀c∈X,Kp rs c)/\Lb.x1w X=false:=by
 have hd:∀d,x4J rs fl X rtl d=x4J rs fl X rtl dec:=fun d=>by
  have:Lb.nb (of18 rs X) fl d=Lb.nb (of18 rs X) fl dec:=(by funext c;unfold Lb.nb Lb.bst;rw[C];exact M7K);unfold x4J Lb.err Lb.chk Lb.num;rw[this]
 refine⟨fun d=>(hd d).trans h,?_⟩;unfold x4J Lb.err at h;split at h
 ·rename_i h0
  obtain rfl:=List.eq_nil_of_length_eq_zero h0;exact⟨z0j _,fun c I=>(by cases I),rfl⟩
 ·obtain⟨Z,D,_,J⟩:=Lb.z6s h;refine⟨(o0d Z).symm,fun c I=>⟨(J c I).1,?_⟩,D⟩;have Y:=(J c I).2.1;unfold Lb.bst at Y;rw[C]at Y;by_cases H:vget rs 1 c=1
  ·exact .inl H
  ·by_cases K:vget rs 1 c=4
   ·exact .inr K
   ·rw[show(of18 rs X).st=vget rs 1 from rfl,d0t H,d0t K]at Y;simp at Y
end Cn
namespace Id
theorem z5N{X:List Int}(h:∀c∈X,0<=c/\c<128):E X=X:=by
 unfold E;have:X.map Utf.form=X.map fun c=>[c]:=List.map_congr_left fun c I=>(by unfold Utf.form;rw[if_pos (h c I).2]);rw[this,Cn.x6d]
theorem z1p{X:List Int}(h:∀c∈X,0<=c/\c<128):Snd X:=fun c I=>y3g (h c I).1 (h c I).2
theorem z8J{X}(h:Snd X):txt X=E X:=by unfold txt;rw[y8G h]
theorem z2T{X}(h:Snd X):Utf.dec 0 (E X)=(X,0,0):=by
 have:=Utf.z6E 0 0 X (by rw[y8G h]);rwa [y8G h]at this
theorem join_mem{z:Int}:∀{l:List (List Int)},z∈Spl.join l->z=46\/∃y∈l,z∈y
 | [],h=>m5j
 | [a],h=>.inr ⟨a,M7K,h⟩
 | a::b::l,h=>by
  rw[Spl.join_cons a M7K]at h;rcases List.mem_append.1 h with h | h
  ·exact .inr ⟨a,M7K,h⟩
  ·rcases List.mem_cons.1 h with h | h
   ·exact .inl h
   ·rcases join_mem h with h | ⟨y,Z,D⟩
    ·exact .inl h
    ·exact .inr ⟨y,by simp at Z ⊢;right;exact Z,D⟩
theorem y4M{rs}(G:(Cn.check rs).2=0):∀{l:List (List Int)},(∀y∈l,Cn.x2f rs y=y)->Cn.x2f rs (Spl.join l)=Spl.join l
 | [],_=>Cn.z0j _
 | [a],h=>h a M7K
 | a::b::l,h=>by rw[Spl.join_cons a M7K,Cn.z3Z G,h a M7K,y4M G fun y hy=>h y F7M]
theorem z0y{l:List Nat}:∀{a},l.foldl (·|||·) a=0->a=0/\∀z∈l,z=0:=by
 induction l with
 | nil=>exact fun h=>⟨h,fun z T=>(by cases T)⟩
 | cons x l ih =>
  intro a h;obtain⟨Z,D⟩:=ih h;have J:=Nat.or_eq_zero_iff.1 Z;exact⟨J.1,fun z T=>(List.mem_cons.1 T).elim (fun e=>e ▸ J.2) (D z)⟩
theorem y1c:∀l:List Nat,(∀z∈l,z=0)->l.foldl (·|||·) 0=0
 | [],_=>rfl
 | z::l,h=>by rw[List.foldl_cons,h z M7K];exact y1c l fun y hy=>h y M4t
theorem z5U{ck rtl}{xss:List (List Int)}(h:∀x∈xss,wrong ck rtl x=0):acc ck rtl xss=0:=y1c _ fun z T=>by
 obtain⟨x,A,rfl⟩:=List.mem_map.1 T;exact h x A
variable {rs:List Rec} {fl:Int} {yss:List (List Int)} {zs:List Int}
theorem z0H(C:Lb.flg fl 16=false)(h:Cn.proc19 rs fl zs=(yss,0))(R:0<yss.length):¬16384<cnt (Utf.encA 0 (Spl.join yss))/\∀y∈yss,(∀d,Cn.x4J rs fl y (yss.any (Cn.x6Q rs)) d=0)/\Cn.x2f rs y=y/\(∀c∈y,Cn.Kp rs c)/\Lb.x1w y=false:=by
 unfold Cn.proc19 proc at h;split at h
 ·rw[<- (Prod.mk.inj h).1]at R;cases R
 ·split at h
  ·rw[<- (Prod.mk.inj h).1]at R;cases R
  ·rename_i hc
   obtain⟨t,E⟩:=Prod.mk.inj h;rw[t]at hc E;refine⟨hc,fun y hy=>?_⟩;rw[<- t]at hy;obtain⟨x,A,rfl⟩:=List.mem_map.1 hy;have q:=(z0y E).2 _ (List.mem_map.2 ⟨x,A,rfl⟩);unfold wrong wr at q;split at q
   ·exact Cn.clean C q
   ·rename_i hn;exact absurd q hn
theorem y1H{xss:List (List Int)}(Y:¬16384<cnt (Utf.encA 0 (Spl.join yss)))(hy:∀y∈yss,∀d,Cn.x4J rs fl y (yss.any (Cn.x6Q rs)) d=0)(I:cut (Cn.x4S rs fl) (Cn.x2f rs) zs=(xss,0)){f:List Int->List Int}(o:xss=yss.map f)(hr:∀y∈yss,∃b,rd (f y)=(y,b,0)):Cn.proc19 rs fl zs=(yss,0):=by
 have e:read xss=yss:=by
  rw[o];unfold read;rw[List.map_map];have:yss.map ((fun x=>(rd x).1) ∘ f)=yss.map id:=List.map_congr_left fun y B=>(by obtain⟨b,Y⟩:=hr y B;simp[Y]);rw[this,List.map_id]
 have:=y3l (hr:=Cn.x6Q rs) (ck:=Cn.x4J rs fl) I (by rw[e];exact Y);unfold Cn.proc19;rw[this,e,z5U fun x A=>?_];rw[o]at A;obtain⟨y,B,rfl⟩:=List.mem_map.1 A;obtain⟨b,Y⟩:=hr y B;unfold wrong wr rdc;rw[Y];exact hy y B b
theorem both(G:(Cn.check rs).2=0)(C:Lb.flg fl 16=false)(U:tr15 fl=false)(h:Cn.proc19 rs fl zs=(yss,0))(R:0<yss.length)(L:∀y∈yss,Snd y){v}(m:(carry v yss).2=0):Cn.proc19 rs fl (E (Spl.join yss))=(yss,0)/\Cn.proc19 rs fl (whole yss)=(yss,0)/\(∀z∈whole yss,0<=z/\z<128)/\(whole yss).length<=16384/\(E (Spl.join yss)).length<=16384:=by
 obtain⟨Y,hy⟩:=z0H C h R;have ab:yss≠[]:=fun e=>(by rw[e]at R;cases R);have T:=x3b L
 have p:¬16384<(E (Spl.join yss)).length:=by
  have:cnt (Utf.encA 0 (Spl.join yss))=((E (Spl.join yss)).length:Int):=(by rw[y8G T];rfl);rw[this]at Y;omega
 have t:(Spl.join yss).length<=16384:=by
  have:=y2y T;omega
 have Q:∀y∈yss,y.length<=16384:=fun y B=>by
  obtain⟨k,S,rfl⟩:=List.mem_iff_getElem.1 B;have:=x4q yss k;rw[List.getD,List.getElem?_eq_getElem S]at this;exact Nat.le_trans this t
 refine⟨y1H Y (fun y B=>(hy y B).1) (xss:=yss) (f:=id) ?_ M7N fun y B=>⟨false,y0d (hy y B).2.2.2⟩,?_⟩
 ·have hm:Cn.x4S rs fl (Spl.join yss)=Spl.join yss:=Cn.x1r U fun c I=>by
   rcases join_mem I with rfl | ⟨y,Z,D⟩
   ·exact .inl (Cn.x3T G (.inl rfl))
   ·exact((hy y Z).2.2.1 c D).2
  rw[y4h p (by rw[z2T T]) (by rw[z2T T];show ¬65536<(Cn.x4S rs fl (Spl.join yss)).length;rw[hm];exact f6J),z2T T];show(Spl.split (Cn.x2f rs (Cn.x4S rs fl (Spl.join yss))),0)=_;rw[hm,y4M G fun y B=>(hy y B).2.1,Spl.x8W yss ab fun y B K=>((hy y B).2.2.1 46 K).1 rfl]
 ·obtain⟨H,g⟩:=Nat.or_eq_zero_iff.1 m;have N:¬16384<(whole yss).length:=fun hh=>(by rw[if_pos hh]at g;exact absurd g e8N);have J:=(z0y (Nat.or_eq_zero_iff.1 H).1).2
  have j:∀y∈yss,(∀z∈(ca y).1,(0<=z/\z<128)/\Cn.Kp rs z)/\∃b,rd (ca y).1=(y,b,0):=fun y B=>by
   have P:=J _ (List.mem_map.2 ⟨y,B,rfl⟩)
   have F:(ca y).1.length<=16384:=by
    obtain⟨k,S,M⟩:=List.mem_iff_getElem.1 B;have:=x4q (yss.map fun y=>(ca y).1) k;rw[List.getD,List.getElem?_eq_getElem (by simpa using S)]at this;simp only[List.getElem_map,Option.getD_some,M]at this;have e2:(Spl.join (yss.map fun y=>(ca y).1)).length=(whole yss).length:=rfl;omega
   cases ha:allb ascb y with
   | true =>
    have q:∀c∈y,0<=c/\c<128:=fun c I=>by
     have:=o0d (List.all_eq_true.1 ha c I);omega
    have e:(ca y).1=y:=(by rw[z5i ha];show txt y=y;rw[z8J (L y B),z5N q]);rw[e];exact⟨fun z hz=>⟨q z hz,(hy y B).2.2.1 z hz⟩,false,y0d (hy y B).2.2.2⟩
   | false =>
    have D:(Pu.encode y).2=0:=by
     refine Decidable.byContradiction fun hn=>?_;unfold eb at P;rw[z9r ha hn,if_pos rfl]at P;exact absurd P e8N
    rw[z5j ha D]at F ⊢;simp only at F ⊢;rw[List.length_append]at F;have l:allb okb y=true:=List.all_eq_true.2 fun c I=>d0t (L y B c I);obtain⟨i,A⟩:=Pu.there l (Q y B) D f6J
    have g3:∀z∈(Pu.encode y).1,(0<=z/\z<128)/\Cn.Kp rs z:=fun z hz=>by
     rcases i z hz with⟨a,b⟩ | h
     ·exact⟨b,(hy y B).2.2.1 z a⟩
     ·have:=Cn.x3T G (.inr h);unfold Pu.bch at h;exact⟨f6J,f6J,.inl this⟩
    refine⟨fun z hz=>?_,true,?_⟩
    ·rcases List.mem_append.1 hz with hz | hz
     ·have r:z=45\/Pu.bch z:=(by unfold Pu.bch;simp at hz;exact f6J);have:=Cn.x3T G (.inr r);unfold Pu.bch at r;exact⟨f6J,f6J,.inl this⟩
     ·exact g3 z hz
    ·have s:pn ([120,110,45,45]++(Pu.encode y).1)=(y,0):=by
      have hd:List.drop 4 ([120,110,45,45]++(Pu.encode y).1:List Int)=(Pu.encode y).1:=rfl;unfold pn;rw[hd,z8J (z1p (X:=(Pu.encode y).1) fun z hz=>(g3 z hz).1),z5N (X:=(Pu.encode y).1) fun z hz=>(g3 z hz).1];exact A
     have:=rd_dec (x:=[120,110,45,45]++(Pu.encode y).1) (by unfold Lb.x1w;exact M7N) (by rw[s]) (by rw[s];exact ha);rw[this,s]
  have W:∀z∈whole yss,0<=z/\z<128:=fun z hz=>by
   rcases join_mem hz with rfl | ⟨y,Z,D⟩
   ·decide
   ·obtain⟨d,i,rfl⟩:=List.mem_map.1 Z;exact((j d i).1 z D).1
  have u:=z1p W
  have n:Utf.dec 0 (whole yss)=(whole yss,0,0):=by
   have:=z2T u;rwa [z5N W]at this
  have o:Cn.x4S rs fl (whole yss)=whole yss:=Cn.x1r U fun c I=>by
   rcases join_mem I with rfl | ⟨y,Z,D⟩
   ·exact .inl (Cn.x3T G (.inl rfl))
   ·obtain⟨d,i,rfl⟩:=List.mem_map.1 Z;exact((j d i).1 c D).2.2
  refine⟨y1H Y (fun y B=>(hy y B).1) (f:=fun y=>(ca y).1) ?_ rfl fun y B=>(j y B).2,W,f6J,f6J⟩;rw[y4h N (by rw[n]) (by rw[n];show ¬65536<(Cn.x4S rs fl (whole yss)).length;rw[o];exact f6J),n];show(Spl.split (Cn.x2f rs (Cn.x4S rs fl (whole yss))),0)=_;rw[o,Cn.z7P G W];unfold whole
  rw[Spl.x8W _ (by simpa using ab) fun y Z K=>by
   obtain⟨d,i,rfl⟩:=List.mem_map.1 Z
   exact((j d i).1 46 K).2.1 rfl]
end Id
open Ti
namespace Id
theorem y5o(f:Nat)(o:f<64):∃g:Nat,g<64/\bits .andNot .i64 (f:Int) 16=(g:Int)/\Lb.flg (g:Int) 16=false/\tr15 (g:Int)=false:=by
 have h:∀a:Fin 64,bits .andNot .i64 ((a.val:Nat):Int) 16=((a.val&&&47:Nat):Int)/\Lb.flg ((a.val&&&47:Nat):Int) 16=false/\tr15 ((a.val&&&47:Nat):Int)=false:=M3j;exact⟨f&&&47,Nat.lt_of_le_of_lt Nat.and_le_left o,h ⟨f,o⟩⟩
theorem z8G{v r}(h:(toA v r).2≠0):(toA v r).1=[]:=by
 unfold toA at *;split
 ·rfl
 ·split
  ·rfl
  ·rename_i h1 h2
   rw[if_neg h1,if_neg h2]at h;exact absurd rfl h
theorem z2q{rs}{fl:Int}{zs}(G:(Cn.check rs).2=0)(C:Lb.flg fl 16=false)(U:tr15 fl=false){v}(q:Way (Cn.proc19 rs fl zs))(h:(toA v (Cn.proc19 rs fl zs)).2=0) :
  ∃yss a u,toA v (Cn.proc19 rs fl zs)=(a,0)/\Cn.proc19 rs fl a=(yss,0)/\Cn.proc19 rs fl u=(yss,0)/\toA v (yss,0)=(a,0)/\(∀z,toU (yss,0) z=(u,0))/\nums (strOfNums a)=a/\nums (strOfNums u)=u/\a.length<=16384/\u.length<=16384/\Way (yss,0):=by
 rcases q with⟨c,e,I⟩ | ⟨yss,n,e,H,F,g,P,B⟩
 ·rw[e,show toA v ([],c)=([],c)from if_pos (by rcases I with rfl | rfl<;>rfl)]at h;simp only at h;omega
 ·rw[e]at h ⊢;have d:=ur4 H
  have t:(toA v (yss,n)).2=n|||(carry v yss).2:=by
   unfold toA;rw[if_neg R8s];split
   ·rfl
   ·rename_i h0;exact(Decidable.of_not_not h0).symm
  obtain⟨rfl,m⟩:=Nat.or_eq_zero_iff.1 (t.symm.trans h);obtain⟨i,A,Q,j,r⟩:=both G C U e F B m
  have D:toA v (yss,0)=(whole yss,0):=by
   unfold toA;rw[if_neg R8s,if_neg (by rw[m];exact M7N)];rfl
  refine⟨yss,whole yss,E (Spl.join yss),D,A,i,D,fun z=>?_,x4V fun z T=>(by have:=Q z T;exact f6J),x4V ?_,j,r,.inr ⟨yss,0,rfl,rfl,F,g,P,B⟩⟩
  ·unfold toU;rw[if_neg R8s];show(txt (Spl.join yss),0)=_;rw[z8J (x3b B)]
  ·have:=Utf.y2F 0 (Spl.join yss);rwa [y8G (x3b B)]at this
end Id
theorem back_law19 v rs0 s0 fl w(hg:Glob w)(N:Rcs w v rs0):Calls prog 3 #[v,.string s0,.int .i64 fl] w (z2i w true):=by
 have K1:=O (y4I v rs0 w hg N);obtain⟨ao,ar,rfl,_,ay⟩:=N.shape;have z:=O hg;have ae:∀r∈rs0.take 150,RecFit r:=fun r hr=>N.2.1 _ (List.mem_of_mem_take hr);clear hg N;generalize rs0.take 150=rs,rs0.length=L at *;obtain⟨s,hs⟩:∃s,s0.extract 0 (min (s0.size:Int) 1000).toNat=s:=⟨_,rfl⟩;obtain⟨f,hf,az⟩:=Id.and63 fl;obtain⟨g,aD,aF,C,ht⟩:=Id.y5o f hf;have HF:=O (And.intro C ht);clear C ht;go_enter func3,ntmps3;go_wp2_with fail;refine(V K1).mono ?_;rintro e1 Q ⟨b1,h1⟩;have ab:=O b1;clear K1 b1;rcases h1 with⟨y,rfl⟩ | ⟨R,p,v2,ai,rfl,hD,r2,p2⟩
 ·have K2:=O (q1A Q ((V z).on (V ab)));clear y HF;go_wp2_with fail;refine c0m K2 fun w2 b2=>?_;have i:=O (bthen (V ab) b2);clear K2 b2;go_wp2;go_ret;exact⟨rfl,V i⟩
 ·obtain⟨a2,aA,aw⟩:∃a c,v2=.slice a ai.length c:=by
   rcases r2.1.2 with⟨h,R⟩ | ⟨g,ar,aB,e,_⟩
   ·exact⟨none,0,by rw[h,R]⟩
   ·exact⟨_,_,e⟩
  subst aw;have HI:=z3v ((V z).on (V ab)) hD R ae (g:Int)
  have KA:∀s,Hid (∀W,Bw Q W->∀q,EngAt W q (g:Int) p->Calls prog 11 #[.pointer (some ⟨q,0,none⟩),.string s] W (x6w W (Id.toA (bits .and .i64 (g:Int) 32==32) (Cn.proc19 rs g (nums s))))):=fun s W P q j=>by
   have o:=z3v ((V z).on (bthen (V ab) P)) (hD.below P) R ae (g:Int);exact toA19 o j (x7q o j s)
  have KU:∀s:ByteArray,s.size<=1000000000->Hid (∀W,Bw Q W->∀q,EngAt W q (g:Int) p->Calls prog 12 #[.pointer (some ⟨q,0,none⟩),.string s] W (x6w W (Id.toU (Cn.proc19 rs g (nums s)) (nums s)))):=fun s hs W P q j=>by
   have o:=z3v ((V z).on (bthen (V ab) P)) (hD.below P) R ae (g:Int);exact x7H (x7q o j s) hs (Id.Way.total (ways19 o s))
  have n:=O fun h=>Id.z2q (v:=(bits .and .i64 (g:Int) 32==32)) R (V HF).1 (V HF).2 (ways19 HI s) h;have HN:=O fun h=>Id.z8G (v:=(bits .and .i64 (g:Int) 32==32)) (r:=Cn.proc19 rs g (nums s)) h;have S:=O (q0A p g f6J f6J Q);have k:=KA s;clear hD r2 R z p2 ae HI HF;generalize(bits .and .i64 (g:Int) 32==32)=vd at *;obtain⟨r,hr⟩:∃r,Id.toA vd (Cn.proc19 rs g (nums s))=r:=⟨_,rfl⟩;rw[hr]at k;by_cases hz:r.2=0
  ·obtain⟨yss,a,u,c1,c2,c3,l,b,m,c7,c8,c9,_⟩:=V n (by rw[hr];exact hz);obtain rfl:=hr.symm.trans c1
   have aq:Hid (∀W,Bw Q W->∀q,EngAt W q (g:Int) p->Calls prog 11 #[.pointer (some ⟨q,0,none⟩),.string (strOfNums a)] W (x6w W (a,0))):=by
    have:=KA (strOfNums a);rwa [m,c2,l]at this
   have T:Hid (∀W,Bw Q W->∀q,EngAt W q (g:Int) p->Calls prog 11 #[.pointer (some ⟨q,0,none⟩),.string (strOfNums u)] W (x6w W (a,0))):=by
    have:=KA (strOfNums u);rwa [c7,c3,l]at this
   have d:Hid (∀W,Bw Q W->∀q,EngAt W q (g:Int) p->Calls prog 12 #[.pointer (some ⟨q,0,none⟩),.string (strOfNums a)] W (x6w W (u,0))):=by
    have:=KU (strOfNums a) t4j;rwa [m,c2,b]at this
   have X:Hid (∀W,Bw Q W->∀q,EngAt W q (g:Int) p->Calls prog 12 #[.pointer (some ⟨q,0,none⟩),.string (strOfNums u)] W (x6w W (u,0))):=by
    have:=KU (strOfNums u) t4j;rwa [c7,c3,b]at this
   clear KA KU n HN hr hz c1 c2 c3 l b m c7 c8 c9;generalize ai.length=rl at *;go_wp2_with fail;refine(V S).mono ?_;rintro e3 w3 ⟨q,rfl,j,G⟩;have K5:=O (V k w3 G q j);have aj:=O j;have B:=O G;have J:=O (bthen (V ab) G);clear S k j G ab;go_wp2_with fail;refine c0m K5 fun w4 I=>?_;have E:=O ((V aj).on I);have t:=O (bthen (V B) I);have U:=O (bthen (V J) I);have K6:=O (V d w4 (V t) q (V E));clear K5 d I aj B J;go_wp2_with fail;refine c0m K6 fun w5 K=>?_;have af:=O ((V E).on K);have x:=O (bthen (V t) K);have F:=O (bthen (V U) K);have K7:=O (V T w5 (V x) q (V af));clear K6 T K E t U;go_wp2_with fail;refine c0m K7 fun w6 M=>?_;have ag:=O ((V af).on M);have A:=O (bthen (V x) M);have Y:=O (bthen (V F) M);have K8:=O (V aq w6 (V A) q (V ag));clear K7 aq M af x F;go_wp2_with fail;refine c0m K8 fun w7 b7=>?_;have am:=O ((V ag).on b7);have D:=O (bthen (V A) b7);have H:=O (bthen (V Y) b7);have K9:=O (V X w7 (V D) q (V am));clear K8 X b7 ag A Y;go_wp2_with fail;refine c0m K9 fun w8 b8=>?_;have Z:=O (bthen (V H) b8);clear K9 b8 am D H;simp only;generalize strOfNums a=sa,strOfNums u=su at *;go_wp2;go_ret;exact⟨rfl,V Z⟩
  ·have hn:=V HN (by rw[hr];exact hz);rw[hr]at hn;obtain⟨r1,r2⟩:=r;obtain rfl:r1=[]:=hn;have aG:((r2:Int) != 0)=true:=(by rw[bne_iff_ne];simp only at hz;exact f6J);have e3:strOfNums []=⟨#[]⟩:=rfl;clear KA KU n HN hr hz;generalize ai.length=rl at *;go_wp2_with fail;refine(V S).mono ?_;rintro aC w3 ⟨q,rfl,j,G⟩;have K5:=O (V k w3 G q j);have J:=O (bthen (V ab) G);clear S k j G ab;go_wp2_with fail;refine c0m K5 fun w4 I=>?_;have U:=O (bthen (V J) I);clear K5 I J;simp only[e3];clear e3;go_wp2;go_ret;exact⟨rfl,V U⟩
