/- Lemmas. -/
import Derived.Test.YtkfcabdmkmljjaaGreatDoorH44
set_option maxHeartbeats 16000000
set_option maxRecDepth 20000
namespace Go.Proofs.YtkfcabdmkmljjaaGreatDoor
open Go.Proofs.Tryz
open Go.RowKit
open Ti
section
variable{p:Prop}
theorem P6G(h:p:=by rw[List.getD,List.getElem?_eq_getElem h];exact List.getElem_mem h):p:=h
theorem u0H(h:p:=by rw[x1C f6J f6J];exact f6J):p:=h
theorem G8Q(h:p:=by
 go_wp2
 go_roundw
 case rel=>exact⟨F,i+1,rfl,g2A,f6J,V I,V B⟩
 case measure=>exact g7W):p:=h
theorem i5W(h:p:=by first| (simp[intOf];done)|(simp[intOf];omega)):p:=h
end
namespace Nm
variable {cl:Int->Int} {cp:Int->Int->Int×Bool}
end Nm
namespace Cn
end Cn
namespace Id
def E(x:List Int):List Int:=(x.map Utf.form).flatten
theorem enc_E{x}(h:Snd x) i:Utf.encA i x=(E x,0,0):=by
 induction x generalizing i with
 | nil=>rfl
 | cons c r ih=>rw[Utf.encA,if_pos (h c M7K),ih (fun z T=>h z W9c),Utf.glue,if_pos rfl];rfl
end Id
namespace Pu
def capw(W:Int):Int:=if 2147483648<W then 2147483648 else W
theorem x1C{c:Int}(R:0<=c)(Z:c<=35):dig (let1 c)=c:=by unfold dig let1;split<;>split<;>(try split)<;>(try split)<;>omega
theorem z2x{W u:Int}(A:10<=u):(if 2147483648<capw W*u then 2147483648 else capw W*u)=capw (W*u):=by
 unfold capw;by_cases h:2147483648<W
 ·have D:2147483648<W*u:=by
   calc 2147483648<W:=h
    _=W*1:=f6J
    _<=W*u:=Int.mul_le_mul_of_nonneg_left f6J f6J
  rw[if_pos h,if_pos D,if_pos f6J]
 ·rw[if_neg h]
theorem q0A(bias:Int)(rest:List Int):∀(f:Nat) (k d A W:Int),0<=d->d<=f->1<=W->0<=A ->
  ∃v',rdN bias (wrN bias f k d++rest) k A (capw W)=(0,v',rest)/\A<=v'/\(A+d*W<2147483648->v'=A+d*W)/\(2147483648<=A+d*W->2147483648<=v'):=by
 intro f
 induction f with
 | zero =>
  intro k d A W hd z S N;have p:=x1o k bias;have R:d=0:=f6J;subst R;refine⟨A,?_,Int.le_refl _,fun _=>f6J,fun h=>f6J⟩;rw[x3m f6J];show rdN bias (let1 0::rest) k A (capw W)=_;rw[x9S u0H u0H,x1C f6J f6J];simp
 | succ f ih =>
  intro k d A W hd z S N;have p:=x1o k bias;have I:1<=capw W:=(by unfold capw;exact G7n);by_cases E:d<thr k bias
  ·refine⟨A+d*capw W,?_,?_,?_,?_⟩
   ·rw[x3m E];show rdN bias (let1 d::rest) k A (capw W)=_;rw[x9S (by rw[x1C hd f6J];exact f6J) (by rw[x1C hd f6J];exact E),x1C hd f6J]
   ·have:=Int.mul_nonneg hd (f6J:0<=capw W);omega
   ·intro h;unfold capw;by_cases Y:2147483648<W
    ·have R:d=0:=by
      by_cases C:1<=d
      ·have:W<=d*W:=by
        calc W=1*W:=by omega
         _<=d*W:=Int.mul_le_mul_of_nonneg_right C f6J
       omega
      ·omega
     subst R;simp
    ·rw[if_neg Y]
   ·intro h;unfold capw;by_cases Y:2147483648<W
    ·rw[if_pos Y];by_cases C:1<=d
     ·omega
     ·have R:d=0:=f6J;subst R;simp at h ⊢;exact h
    ·rw[if_neg Y];exact h
  ·have i:0<=(d-thr k bias)%(36-thr k bias):=Int.emod_nonneg _ f6J;have j:(d-thr k bias)%(36-thr k bias)<36-thr k bias:=Int.emod_lt_of_pos _ f6J;have M:0<=(d-thr k bias) / (36-thr k bias):=Int.ediv_nonneg f6J f6J;have G:(d-thr k bias) / (36-thr k bias)<=d-thr k bias:=Int.ediv_le_self _ f6J;have F:=Int.mul_ediv_add_emod (d-thr k bias) (36-thr k bias)
   have L:1<=W*(36-thr k bias):=by
    calc 1<=W:=S
     _=W*1:=f6J
     _<=W*(36-thr k bias):=Int.mul_le_mul_of_nonneg_left f6J f6J
   generalize hc:thr k bias+(d-thr k bias)%(36-thr k bias)=c,hqe:(d-thr k bias) / (36-thr k bias)=q at *;have K:d=c+(36-thr k bias)*q:=f6J;have g:0<=c*capw W:=Int.mul_nonneg f6J f6J;obtain⟨v',Z,D,J,H⟩:=ih (k+1) q (A+c*capw W) (W*(36-thr k bias)) M f6J L f6J
   have P:d*W=c*W+q*(W*(36-thr k bias)):=by
    rw[K,Int.add_mul,Int.mul_comm (36-thr k bias) q,Int.mul_assoc,Int.mul_comm (36-thr k bias) W]
   have Q:0<=q*(W*(36-thr k bias)):=Int.mul_nonneg M f6J;refine⟨v',?_,f6J,?_,?_⟩
   ·rw[x6n E,hc,hqe];show rdN bias (let1 c::(wrN bias f (k+1) _++rest)) k A (capw W)=_;rw[y4G u0H u0H,x1C f6J f6J,z2x f6J];exact Z
   ·intro h;by_cases Y:2147483648<W
    ·have:W<=c*W:=by
      calc W=1*W:=by omega
       _<=c*W:=Int.mul_le_mul_of_nonneg_right f6J f6J
     omega
    ·have B:capw W=W:=(by unfold capw;rw[if_neg Y]);rw[B]at J;rw[J f6J];omega
   ·intro h;by_cases Y:2147483648<W
    ·have B:capw W=2147483648:=(by unfold capw;rw[if_pos Y]);rw[B]at D;omega
    ·have B:capw W=W:=(by unfold capw;rw[if_neg Y]);rw[B]at H;exact H f6J
theorem z7L{d bias:Int}(rest:List Int)(R:0<=d):∃v',rdN bias (wrNum d bias++rest) 1 0 1=(0,v',rest)/\(d<2147483648->v'=d)/\(2147483648<=d->2147483648<=v'):=by
 obtain⟨v',Z,_,J,H⟩:=q0A bias rest d.toNat 1 d 0 1 R f6J f6J f6J;exact⟨v',Z,fun h=>by rw[J f6J];exact f6J,fun h=>H f6J⟩
theorem q1q(bias:Int):∀(f:Nat) (k v:Int),wrN bias f k v≠[]:=by
 intro f k v
 cases f with
 | zero=>simp[wrN]
 | succ f=>rw[wrN];exact f1X
theorem z4H(d bias:Int):wrNum d bias≠[]:=q1q _ _ _ _
theorem z3X{d:Int}{s:St}(rest:List Int)(R:0<=d)(Z:d<=2147483647)(o:Utf.okc (stepN s d)):rdW (wrNum d s.bias++rest) s=rdW rest (step s d):=by
 obtain⟨Q,D,J,_⟩:=z7L (bias:=s.bias) rest R;rw[z0G (by simp[z4H]),D,J f6J];exact y3E f6J o
def hy(ws:List Int):List Int:=if ws.length=0 then[]else[45]
theorem x5t{ws body:List Int}(Z:∀z∈ws,0<=z/\z<128)(D:∀z∈body,48<=z/\z<=122)(S:ws.length+1+body.length<=65536):decode (ws++hy ws++body)=rdW body (begin ws):=by
 have Y:basicB (ws++hy ws++body)=true:=by
  unfold basicB;rw[List.all_eq_true];intro z hz;simp only[List.mem_append]at hz;rcases hz with(hz | hz) | hz
  ·have:=Z z hz;simpa using this.2
  ·unfold hy at hz;split at hz
   ·simp at hz
   ·simp at hz;subst hz;rfl
  ·have:=D z hz;simp;omega
 have C:∀j,j<body.length->body.getD j 0≠45:=fun j X=>by
  have:=D (body.getD j 0) (by rw[List.getD,List.getElem?_eq_getElem X];exact List.getElem_mem X);omega
 rw[y0B,if_neg (by unfold hy;split<;>simp<;>omega),if_neg (by rw[Y];exact M7M)];rcases Nat.eq_zero_or_pos ws.length with h0 | h0
 ·have m:ws=[]:=List.eq_nil_of_length_eq_zero h0;subst m;have hz:([]:List Int)++hy []++body=body:=rfl;have W:x3F body 0 0=0:=x4P C 0 0;rw[hz];unfold tail;rw[W,if_pos rfl];rfl
 ·have A:hy ws=[45]:=(by unfold hy;rw[if_neg f6J]);rw[A]
  have W:x3F (ws++[45]++body) 0 0=ws.length:=by
   rw[y4o (i:=ws.length) M7M I1O (fun j J H=>?_)]
   ·omega
   ·simp at H
    have X:(ws++[45]++body).getD j 0=body.getD (j-(ws.length+1)) 0:=by
     simp only[List.getD];rw[List.append_assoc,List.getElem?_append_right f6J,List.getElem?_append_right P8P];simp[Nat.sub_sub]
    rw[X];exact C _ f6J
  unfold tail;rw[W,if_neg f6J]
  have P:(ws++[45]++body).drop (ws.length+1)=body:=by
   rw[List.drop_append,List.drop_eq_nil_of_le M7M];simp
  have E:(ws++[45]++body).take ws.length=ws:=by
   rw[List.append_assoc,List.take_append_of_le_length (l0r _),List.take_length]
  rw[P,E]
end Pu
namespace Pu
def sel(xs:List Int)(q:Nat->Bool)(n:Nat):List Int:=((List.range n).filter q).map fun k=>xs.getD k 0
theorem y3l(xs:List Int)(q:Nat->Bool)(n:Nat):(sel xs q n).length=cnt q n:=by unfold sel cnt;rw[List.length_map]
theorem y4K(xs:List Int)(q:Nat->Bool)(n:Nat):sel xs q (n+1)=sel xs q n++if q n then[xs.getD n 0]else[]:=by
 unfold sel;rw[List.range_succ,List.filter_append,List.map_append];cases h:q n<;>simp[h]
theorem y1J{xs:List Int}{p q:Nat->Bool}{n:Nat}(h:∀k,k<n->p k=q k):sel xs p n=sel xs q n:=by
 unfold sel;rw[List.filter_congr fun k G=>h k (List.mem_range.1 G)]
theorem y5P{A B:List Int}{k:Nat}(h:k<=A.length)(c:Int):ins (A++B) k c=ins A k c++B:=by
 unfold ins;rw[List.take_append_of_le_length h,List.drop_append_of_le_length h,List.append_assoc,List.cons_append]
theorem z7c{xs:List Int}{q:Nat->Bool}{c:Nat}(I:q c=false):∀n,c<n->ins (sel xs q n) (cnt q c) (xs.getD c 0)=sel xs (addp q c) n:=by
 intro n
 induction n with
 | zero=>intro h;omega
 | succ n ih =>
  intro F;rw[y4K,y4K];by_cases h:c=n
  ·subst h;have P:addp q c c=true:=(by simp[addp]);rw[I,P,if_neg M7M,if_pos rfl,List.append_nil]
   have E:sel xs (addp q c) c=sel xs q c:=y1J fun k G=>by
    have:(k==c)=false:=P8P;unfold addp;rw[this,Bool.false_or]
   rw[E];unfold ins;rw[<- y3l xs q c,List.take_length,List.drop_length]
  ·have P:addp q c n=q n:=by
    have:(n==c)=false:=P8P;unfold addp;rw[this,Bool.false_or]
   rw[P,y5P (by rw[y3l];exact cnt_mono f6J),ih f6J]
theorem z7U{xs:List Int}{q:Nat->Bool}(h:∀k,k<xs.length->q k=true):sel xs q xs.length=xs:=by
 have:sel xs q xs.length=sel xs (fun _=>true) xs.length:=y1J h;rw[this];unfold sel;rw[List.filter_eq_self.2 fun _ _=>rfl];refine List.ext_getElem M7K fun i Z D=>?_;simp[List.getD,D]
theorem z1J(xs:List Int):∀(r:List Nat) (T out:List Int),(wr1 xs r T out).2=out++r.map fun k=>xs.getD k 0
 | [],_,_=>by simp[wr1]
 | c::r,T,out=>by rw[wr1,z1J xs r];exact M7K
theorem q0r{xs:List Int}(L:allb okb xs=true){c:Nat}(h:c<xs.length):Utf.okc (xs.getD c 0):=by
 have:=List.all_eq_true.1 L (xs.getD c 0) P6G;exact o0d this
theorem z2e{xs:List Int}(L:allb okb xs=true){c:Nat}(h:c<xs.length):0<=xs.getD c 0/\xs.getD c 0<=1114111 :=
 x7f L _ P6G
end Pu
open Ti
namespace Pu
def bch(z:Int):Prop:=(48<=z/\z<=57)\/(97<=z/\z<=122)
theorem x6T{d}(R:0<=d)(Z:d<=35):bch (let1 d):=by unfold bch let1;exact G7n
theorem z4G(bias:Int):∀(f:Nat) (k v:Int),0<=v->v<=f->∀z∈wrN bias f k v,bch z:=by
 intro f
 induction f with
 | zero =>
  intro k v R Z z T;simp[wrN]at T;subst T;exact x6T R f6J
 | succ f ih =>
  intro k v R Z z T;have p:=x1o k bias;by_cases E:v<thr k bias
  ·rw[x3m E]at T;simp at T;subst T;exact x6T R f6J
  ·rw[x6n E]at T;have i:0<=(v-thr k bias)%(36-thr k bias):=Int.emod_nonneg _ f6J;have j:(v-thr k bias)%(36-thr k bias)<36-thr k bias:=Int.emod_lt_of_pos _ f6J;have M:0<=(v-thr k bias) / (36-thr k bias):=Int.ediv_nonneg f6J f6J;have G:(v-thr k bias) / (36-thr k bias)<=v-thr k bias:=Int.ediv_le_self _ f6J;rcases List.mem_cons.1 T with h | h
   ·subst h;exact x6T f6J f6J
   ·exact ih _ _ M f6J z h
theorem Wv.back2{xs:List Int}(L:allb okb xs=true):∀(r:List Nat) (T:List Int) (q:Nat->Bool) (p n i bias:Int) (first:Bool) (out:List Int),Wv xs r T q p n i->(∀k,k<xs.length->q k=true\/k∈r)->(wr2 xs r T p n i bias first out).2=0 ->
  ∃body,wr2 xs r T p n i bias first out=(out++body,0)/\(∀z∈body,bch z)/\rdW body ⟨sel xs q xs.length,n,i,bias,first⟩=(xs,0)
 | [],T,q,p,n,i,bias,first,out,h,hall,_=>by
  refine⟨[],by rw[wr2,List.append_nil],fun z hz=>absurd hz M7M,?_⟩;rw[y3b];show(sel xs q xs.length,(0:Int))=_;rw[z7U fun k G=>(hall k G).resolve_right M7M]
 | c::r,T,q,p,n,i,bias,first,out,h,hall,h0=>by
  obtain⟨Z,D,J,_⟩:=h.nx c M7M;have H:=h.pos;by_cases N:2147483647<dlt xs c T p n i
  ·rw[x6m N]at h0;exact absurd h0 e8N
  have C:dlt xs c T p n i<=2147483647:=f6J;have B:=h.div;have F:=h.mod;have l:p+1=((sel xs q xs.length).length:Int)+1:=(by rw[y3l,<- h.hp]);rw[x4B N,B,F,(f6J:n+(xs.getD c 0-n)=xs.getD c 0)]at h0
  obtain⟨body,b1,u,U⟩:=Wv.back2 L r (add T c) (addp q c) (p+1) (xs.getD c 0) ((cnt q c:Int)+1) (adapt (dlt xs c T p n i) (p+1) first) false (out++wrNum (dlt xs c T p n i) bias) h.next (fun k G=>by
   rcases hall k G with hq | hq
   ·exact .inl (by simp[addp,hq])
   ·rcases List.mem_cons.1 hq with hq | hq
    ·exact .inl (by simp[addp,hq])
    ·exact .inr hq) h0
  refine⟨wrNum (dlt xs c T p n i) bias++body,?_,?_,?_⟩
  ·rw[x4B N,B,F,(f6J:n+(xs.getD c 0-n)=xs.getD c 0),b1,List.append_assoc]
  ·intro z hz;rcases List.mem_append.1 hz with hz | hz
   ·exact z4G bias _ _ _ H f6J z hz
   ·exact u z hz
  ·generalize dlt xs c T p n i=d at *
   have P:stepN ⟨sel xs q xs.length,n,i,bias,first⟩ d=xs.getD c 0:=by
    show n+(i+d) / (((sel xs q xs.length).length:Int)+1)=_;rw[<- l,B];omega
   have E:stepP ⟨sel xs q xs.length,n,i,bias,first⟩ d=(cnt q c:Int):=by
    show(i+d)%(((sel xs q xs.length).length:Int)+1)=_;rw[<- l,F]
   have A:=z3X (d:=d) (s:=⟨sel xs q xs.length,n,i,bias,first⟩) body H C (by rw[P];exact q0r L Z);refine A.trans ?_
   have I:step ⟨sel xs q xs.length,n,i,bias,first⟩ d=⟨sel xs (addp q c) xs.length,xs.getD c 0,(cnt q c:Int)+1,adapt d (p+1) first,false⟩:=by
    unfold step;rw[P,E];show St.mk (ins (sel xs q xs.length) _ _) _ _ (adapt d (((sel xs q xs.length).length:Int)+1) first) false=_;rw[<- l,Int.toNat_natCast,z7c D _ Z]
   rw[I];exact U
theorem there{xs:List Int}(L:allb okb xs=true)(S:xs.length<=16384)(R:(encode xs).2=0)(F:(encode xs).1.length<=60000):(∀z∈(encode xs).1,(z∈xs/\0<=z/\z<128)\/z=45\/bch z)/\decode (encode xs).1=(xs,0):=by
 have A:(idx xs lowq).map (fun k=>xs.getD k 0)=sel xs (fun k=>lowq (xs.getD k 0)) xs.length:=rfl;have B:(sel xs (fun k=>lowq (xs.getD k 0)) xs.length).length=(idx xs lowq).length:=by rw[<- A,List.length_map]
 have e:encode xs=wr2 xs (ordOf xs) (t1Of xs) ((idx xs lowq).length:Int) 128 0 72 true ((wr1 xs (idx xs lowq) (List.replicate (xs.length+1) 0) []).2++if(idx xs lowq).length=0 then[]else[45]):=by
  unfold encode;rw[if_neg (by rw[L];exact M7L)];rfl
 rw[e]at R
 obtain⟨body,b1,u,U⟩:=Wv.back2 L (ordOf xs) (t1Of xs) _ _ _ _ 72 true _ (y3J S) (fun k G=>by
  cases hq:lowq (xs.getD k 0)with
  | true=>exact U3y
  | false=>exact .inr ((x1n xs _).symm.subset (x9r.2 ⟨G,by unfold x1W;rw[hq];rfl⟩))) R
 have m:∀z∈sel xs (fun k=>lowq (xs.getD k 0)) xs.length,z∈xs/\0<=z/\z<128:=fun z hz=>by
  rw[<- A]at hz;obtain⟨k,G,rfl⟩:=List.mem_map.1 hz;obtain⟨M,o⟩:=x9r.1 G;have:=z2e L M;unfold lowq at o;exact⟨by rw[List.getD,List.getElem?_eq_getElem M];exact List.getElem_mem M,this.1,o0d o⟩
 have E:encode xs=(sel xs (fun k=>lowq (xs.getD k 0)) xs.length++hy (sel xs (fun k=>lowq (xs.getD k 0)) xs.length)++body,0):=by
  rw[e,b1,z1J,List.nil_append,A];unfold hy;rw[B]
 rw[E]at F ⊢;simp only[List.length_append]at F;refine⟨fun z hz=>?_,(x5t (fun z hz=>(m z hz).2) (fun z hz=>by have:=u z hz;unfold bch at this;exact f6J) f6J).trans U⟩;simp only[List.mem_append]at hz;rcases hz with(hz | hz) | hz
 ·exact .inl (m z hz)
 ·unfold hy at hz;split at hz
  ·cases hz
  ·exact .inr (.inl (by simpa using hz))
 ·exact .inr (.inr (u z hz))
end Pu
namespace Nm
variable {cl:Int->Int} {cp:Int->Int->Int×Bool}
end Nm
namespace Cn
theorem y4b:∀X:List Int,(X.map fun c=>[c]).flatten=X
 | []=>rfl
 | c::l=>by rw[List.map_cons,List.flatten_cons,y4b l];rfl
theorem z7v l:x4n l []=[]:=by
 have h:nfd l []=[]:=(by unfold nfd Od.ord openAll;rw[List.map_nil,List.flatten_nil,Od.ordA,Od.y2i]);unfold x4n Nm.cps Nm.run;rw[h,List.foldl_nil]
def Kp(rs:List Rec)(c:Int):Prop:=c≠46/\(vget rs 1 c=1\/vget rs 1 c=4)
theorem clean{rs fl X rtl dec}(Q:Lb.flg fl 16=false)(h:x3B rs fl X rtl dec=0):(∀d,x3B rs fl X rtl d=0)/\x4n rs X=X/\(∀c∈X,Kp rs c)/\Lb.x1B X=false:=by
 have hd:∀d,x3B rs fl X rtl d=x3B rs fl X rtl dec:=fun d=>by
  have:Lb.nb (of18 rs X) fl d=Lb.nb (of18 rs X) fl dec:=(by funext c;unfold Lb.nb Lb.bst;rw[Q];exact M7K);unfold x3B Lb.err Lb.chk Lb.num;rw[this]
 refine⟨fun d=>(hd d).trans h,?_⟩;unfold x3B Lb.err at h;split at h
 ·rename_i h0
  obtain rfl:=List.eq_nil_of_length_eq_zero h0;exact⟨z7v _,fun c I=>(by cases I),rfl⟩
 ·obtain⟨Z,D,_,J⟩:=Lb.y8a h;refine⟨(o0d Z).symm,fun c I=>⟨(J c I).1,?_⟩,D⟩;have Y:=(J c I).2.1;unfold Lb.bst at Y;rw[Q]at Y;by_cases H:vget rs 1 c=1
  ·exact .inl H
  ·by_cases K:vget rs 1 c=4
   ·exact .inr K
   ·rw[show(of18 rs X).st=vget rs 1 from rfl,d0t H,d0t K]at Y;simp at Y
end Cn
namespace Id
theorem E_asc{X:List Int}(h:∀c∈X,0<=c/\c<128):E X=X:=by
 unfold E;have:X.map Utf.form=X.map fun c=>[c]:=List.map_congr_left fun c I=>(by unfold Utf.form;rw[if_pos (h c I).2]);rw[this,Cn.y4b]
theorem txt_E{X}(h:Snd X):txt X=E X:=by unfold txt;rw[enc_E h]
theorem join_mem{z:Int}:∀{l:List (List Int)},z∈Spl.join l->z=46\/∃y∈l,z∈y
 | [],h=>m5j
 | [a],h=>.inr ⟨a,M7K,h⟩
 | a::b::l,h=>by
  rw[Spl.join_cons a M7K]at h;rcases List.mem_append.1 h with h | h
  ·exact .inr ⟨a,M7K,h⟩
  ·rcases List.mem_cons.1 h with h | h
   ·exact .inl h
   ·rcases join_mem h with h | ⟨y,Z,D⟩
    ·exact .inl h
    ·exact .inr ⟨y,by simp at Z ⊢;right;exact Z,D⟩
theorem z0n{l:List Nat}:∀{a},l.foldl (·|||·) a=0->a=0/\∀z∈l,z=0:=by
 induction l with
 | nil=>exact fun h=>⟨h,fun z T=>(by cases T)⟩
 | cons x l ih =>
  intro a h;obtain⟨Z,D⟩:=ih h;have J:=Nat.or_eq_zero_iff.1 Z;exact⟨J.1,fun z T=>(List.mem_cons.1 T).elim (fun e=>e ▸ J.2) (D z)⟩
variable {rs:List Rec} {fl:Int} {yss:List (List Int)} {zs:List Int}
theorem z0w(Q:Lb.flg fl 16=false)(h:Cn.proc19 rs fl zs=(yss,0))(R:0<yss.length):¬16384<cnt (Utf.encA 0 (Spl.join yss))/\∀y∈yss,(∀d,Cn.x3B rs fl y (yss.any (Cn.x6L rs)) d=0)/\Cn.x4n rs y=y/\(∀c∈y,Cn.Kp rs c)/\Lb.x1B y=false:=by
 unfold Cn.proc19 proc at h;split at h
 ·rw[<- (Prod.mk.inj h).1]at R;cases R
 ·split at h
  ·rw[<- (Prod.mk.inj h).1]at R;cases R
  ·rename_i hc
   obtain⟨P,E⟩:=Prod.mk.inj h;rw[P]at hc E;refine⟨hc,fun y hy=>?_⟩;rw[<- P]at hy;obtain⟨x,A,rfl⟩:=List.mem_map.1 hy;have m:=(z0n E).2 _ (List.mem_map.2 ⟨x,A,rfl⟩);unfold wrong wr at m;split at m
   ·exact Cn.clean Q m
   ·rename_i hn;exact absurd m hn
end Id
open Ti
namespace Id
theorem y8Z{a b:List Int}{k}(h:k<a.length):(a++b).getD k 0=a.getD k 0:=by unfold List.getD;rw[List.getElem?_append_left h]
theorem x4M{a b:List Int} k:(a++b).getD (a.length+k) 0=b.getD k 0:=by unfold List.getD;rw[List.getElem?_append_right f6J,(f6J:a.length+k-a.length=k)]
theorem x1D{a:List Int}{k}(h:k<a.length):a.getD k 0∈a:=by unfold List.getD;rw[List.getElem?_eq_getElem h];exact List.getElem_mem h
theorem z0Y:∀(P:List (List Int)) (F i:Nat),P≠[]->(∀p∈P,(46:Int) ∉ p)->F<=i->i<=(Spl.join P).length->(F=0\/(Spl.join P).getD (F-1) 0=46)->(i=(Spl.join P).length\/(Spl.join P).getD i 0=46)->(∀k,F<=k->k<i->(Spl.join P).getD k 0≠46)->((Spl.join P).drop F).take (i-F)∈P
 | [],_,_,h,_,_,_,_,_,_=>absurd rfl h
 | [p],F,i,_,hp,h1,h2,h3,h4,_=>by
  have X:Spl.join [p]=p:=rfl;simp only[X]at h2 h3 h4 ⊢;have C:∀k,k<p.length->p.getD k 0≠46:=fun k G e=>hp p M7L (by rw[<- e];exact x1D G)
  have hi:i=p.length:=h4.elim id fun h=>by
   rcases Nat.lt_or_ge i p.length with t | t
   ·exact absurd h (C i t)
   ·omega
  have y:F=0:=h3.elim id fun h=>by
   rcases Nat.lt_or_ge (F-1) p.length with t | t
   ·exact absurd h (C _ t)
   ·omega
  subst hi y;simp
 | p::q::r,F,i,_,hp,h1,h2,h3,h4,h5=>by
  rw[Spl.join_cons p M7L]at *;generalize hB:Spl.join (q::r)=B at *;have C:∀k,k<p.length->(p++46::B).getD k 0≠46:=fun k G e=>hp p M7L (by rw[<- e,y8Z G];exact x1D G);have o:(p++46::B).getD p.length 0=46:=x4M (a:=p) (b:=46::B) 0
  have hr:∀k,(p++46::B).getD (p.length+1+k) 0=B.getD k 0:=fun k=>by
   rw[Nat.add_assoc,x4M,Nat.add_comm 1 k];rfl
  rw[List.length_append,List.length_cons]at h2 h4;by_cases y:F<=p.length
  ·have I:F=0:=h3.elim id fun h=>by
    rcases Nat.eq_zero_or_pos F with t | t
    ·exact t
    ·exact absurd h (C _ f6J)
   subst I
   have hi:i=p.length:=by
    rcases Nat.lt_trichotomy i p.length with t | t | t
    ·rcases h4 with h | h
     ·omega
     ·exact absurd h (C i t)
    ·exact t
    ·exact absurd o (h5 _ f6J t)
   subst hi;simp
  ·obtain⟨A,rfl⟩:∃A,F=p.length+1+A:=⟨F-(p.length+1),f6J⟩;obtain⟨H,rfl⟩:∃H,i=p.length+1+H:=⟨i-(p.length+1),f6J⟩
   have:=z0Y (q::r) A H M7L (fun z T=>hp z (by simp at T ⊢;right;exact T)) f6J (by rw[hB];exact f6J) (by
    rcases Nat.eq_zero_or_pos A with t | t
    ·exact .inl t
    ·refine .inr ?_;rw[hB,<- hr,(f6J:p.length+1+(A-1)=p.length+1+A-1)]
     exact h3.resolve_left f6J) (by
    rcases h4 with h | h
    ·exact .inl (by rw[hB];exact f6J)
    ·exact .inr (by rw[hB,<- hr];exact h)) (fun k a b=>by rw[hB,<- hr];exact h5 _ f6J f6J)
   rw[hB]at this
   rw[(f6J:p.length+1+H-(p.length+1+A)=H-A),show(p++46::B).drop (p.length+1+A)=B.drop A by
    rw[<- List.drop_drop,show(p++46::B).drop (p.length+1)=B by rw[<- List.drop_drop,List.drop_left];rfl]]
   exact List.mem_cons_of_mem _ this
structure Pt(rs:List Rec)(p:List Int):Prop where
 l1:1<=p.length
 l2:p.length<=63
 b:p.getD 0 0≠45
 e:p.getD (p.length-1) 0≠45
 c:∀z∈p,z=45\/Pu.bch z
 d:4<=p.length->p.getD 2 0=45->p.getD 3 0=45->p.getD 0 0=120/\p.getD 1 0=110/\∃y,Pu.decode (p.drop 4)=(y,0)/\allb ascb y=false/\y.length<=16384/\Cn.x4n rs y=y/\∀c∈y,Cn.vget rs 1 c=1\/Cn.vget rs 1 c=4
theorem ldh_b{c}(h:Lb.ldh c=true):c=45\/Pu.bch c:=by
 unfold Lb.ldh at h;unfold Pu.bch;simp only[Bool.or_eq_true,Bool.and_eq_true,decide_eq_true_eq]at h;omega
theorem strict{rs X rtl dec}(h:Cn.x3B rs 47 X rtl dec=0)(F:X≠[]):X.getD 0 0≠45/\X.getD (X.length-1) 0≠45/\¬(4<=X.length/\X.getD 2 0=45/\X.getD 3 0=45)/\∀c∈X,c<128->c=45\/Pu.bch c:=by
 unfold Cn.x3B Lb.err at h;rw[if_neg (fun R=>F (List.eq_nil_of_length_eq_zero R))]at h;have J:=(Lb.y8a h).2.2.2
 have H:Lb.hyp X=false:=by
  unfold Lb.chk Lb.hd at h;have Z:=(Nat.or_eq_zero_iff.1 (Nat.or_eq_zero_iff.1 (Nat.or_eq_zero_iff.1 (Nat.or_eq_zero_iff.1 (Nat.or_eq_zero_iff.1 h).1).1).1).1).2;rw[if_pos e8N]at Z
  cases he:Lb.hyp X with
  | false=>rfl
  | true=>rw[he,if_pos rfl]at Z;exact absurd Z e8N
 unfold Lb.hyp at H;simp only[Bool.or_eq_false_iff,Bool.and_eq_false_iff,decide_eq_false_iff_not]at H;refine⟨H.1,H.2.1,f6J,fun c I G=>ldh_b ?_⟩;have:=(J c I).2.2;unfold Lb.std at this;rw[(e8N:Lb.flg 47 8=true),d0t G]at this;exact W2K
theorem y5A:(Pu.decode [45]).2≠0:=e8M
theorem z3q{y e:List Int}(Z:∀z∈e,0<=z/\z<128)(S:e.length<=60000)(h:Pu.decode e=(y,0))(g:allb ascb y=false):e≠[]/\e.getD (e.length-1) 0≠45:=by
 have t:e≠[]:=fun R=>by
  subst R;have:y=[]:=(Prod.mk.inj (h.symm.trans (e8N:Pu.decode []=([],0)))).1;rw[this]at g;exact absurd g e8N
 refine⟨t,fun B=>?_⟩;obtain⟨ws,x,rfl⟩:∃ws x,e=ws++[x]:=⟨e.dropLast,e.getLast t,(List.dropLast_concat_getLast t).symm⟩;have A:x=45:=(by simpa[List.getD]using B);subst A;by_cases m:ws.length=0
 ·obtain rfl:=List.eq_nil_of_length_eq_zero m;have:(Pu.decode [45]).2=0:=(by rw[show([]:List Int)++[45]=[45]from rfl]at h;rw[h]);exact y5A this
 ·have hd:=Pu.x5t (ws:=ws) (body:=[]) (fun z T=>Z z W9c) (fun z T=>by cases T) (by simp at S ⊢;exact f6J);rw[List.append_nil,show Pu.hy ws=[45]by unfold Pu.hy;rw[if_neg m],h,Pu.y3b]at hd;obtain rfl:y=ws:=(Prod.mk.inj hd).1;have:allb ascb y=true:=List.all_eq_true.2 fun c I=>d0t (by have:=Z c (by simp[I]);exact f6J);rw[this]at g;cases g
theorem y8O{rs}{yss:List (List Int)}{zs}(h:Cn.proc19 rs 47 zs=(yss,0))(R:0<yss.length)(L:∀y∈yss,Snd y)(G:(carry true yss).2=0):(∀p∈yss.map (fun y=>(ca y).1),Pt rs p)/\1<=(whole yss).length/\(whole yss).length<=253:=by
 obtain⟨_,hy⟩:=z0w e8N h R;obtain⟨l,_⟩:=Nat.or_eq_zero_iff.1 G;obtain⟨E,K⟩:=Nat.or_eq_zero_iff.1 l
 have W:∀{n m k:Nat},k≠0->(if unf true n m=true then k else 0)=0->1<=n/\n<=m:=fun{n m k} hk h=>by
  by_cases t:unf true n m=true
  ·rw[if_pos t]at h;exact absurd h hk
  ·unfold unf at t;simp at t;omega
 have r:=(z0n E).2;refine⟨fun p s=>?_,W e8N K⟩;obtain⟨y,D,rfl⟩:=List.mem_map.1 s;have q:=r _ (List.mem_map.2 ⟨y,D,rfl⟩);unfold eb at q
 cases h2:(ca y).2 with
 | false=>rw[h2,if_pos rfl]at q;exact absurd q e8N
 | true =>
  rw[h2,if_neg e8N]at q;obtain⟨v,T⟩:=W e8N q;obtain⟨i,A,M,j⟩:=hy y D
  cases ha:allb ascb y with
  | true =>
   have Y:∀c∈y,0<=c/\c<128:=fun c I=>by
    have:=o0d (List.all_eq_true.1 ha c I);omega
   have e:(ca y).1=y:=(by rw[z4S ha];show txt y=y;rw[txt_E (L y D),E_asc Y]);rw[e]at v T ⊢;obtain⟨U,B,C,N⟩:=strict (i false) (fun e=>by rw[e]at v;simp at v);exact⟨v,T,U,B,fun z hz=>N z hz (Y z hz).2,fun a b c=>absurd ⟨a,b,c⟩ C⟩
  | false =>
   have F:y≠[]:=fun e=>(by rw[e]at ha;exact absurd ha e8N);obtain⟨_,_,_,N⟩:=strict (i false) F
   have J:(Pu.encode y).2=0:=by
    refine Decidable.byContradiction fun F=>?_;rw[z8U ha F]at h2;cases h2
   rw[z4T ha J]at v T ⊢;simp only at v T ⊢;rw[List.length_append]at v T;have o:allb okb y=true:=List.all_eq_true.2 fun c I=>d0t (L y D c I)
   have P:y.length<=16384:=by
    have hr:=y4E (mp:=Cn.y6h rs 47) (nc:=Cn.x4n rs) (hr:=Cn.x6L rs) (ck:=Cn.x3B rs 47) (zs:=zs) (y:=y);have t:proc (Cn.y6h rs 47) (Cn.x4n rs) (Cn.x6L rs) (Cn.x3B rs 47) zs=(yss,0):=h;rw[t]at hr;exact hr L D
   obtain⟨S,u⟩:=Pu.there o P J f6J;have Q:∀z∈(Pu.encode y).1,z=45\/Pu.bch z:=fun z hz=>(S z hz).elim (fun a=>N z a.1 a.2.2) id;have X:∀z∈(Pu.encode y).1,0<=z/\z<128:=fun z hz=>(by have:=Q z hz;unfold Pu.bch at this;exact f6J);obtain⟨u1,u2⟩:=z3q X f6J u ha;have H:=List.length_pos_iff.2 u1;refine⟨by rw[List.length_append];exact v,by rw[List.length_append];exact T,by show(120:Int)≠45;exact e8N,?_,fun z hz=>?_,fun _ _ _=>⟨rfl,rfl,y,u,ha,P,A,fun c I=>(M c I).2⟩⟩
   ·rw[List.length_append,(f6J:[(120:Int),110,45,45].length+(Pu.encode y).1.length-1=[(120:Int),110,45,45].length+((Pu.encode y).1.length-1)),x4M];exact u2
   ·rcases List.mem_append.1 hz with hz | hz
    ·unfold Pu.bch;simp at hz;omega
    ·exact Q z hz
end Id
open Ti
namespace Id
theorem z1t{v r}(h:(toA v r).2≠0):(toA v r).1=[]:=by
 unfold toA at *;split
 ·rfl
 ·split
  ·rfl
  ·rename_i h1 h2
   rw[if_neg h1,if_neg h2]at h;exact absurd rfl h
theorem z6L{rs}{zs}(m:Way (Cn.proc19 rs 47 zs))(h:(toA true (Cn.proc19 rs 47 zs)).2=0) :
  ∃P A,toA true (Cn.proc19 rs 47 zs)=(A,0)/\A=Spl.join P/\P≠[]/\(∀p∈P,Pt rs p)/\1<=A.length/\A.length<=253:=by
 rcases m with⟨c,e,I⟩ | ⟨yss,n,e,H,l,E,a,v⟩
 ·rw[e,show toA true ([],c)=([],c)from if_pos (by rcases I with rfl | rfl<;>rfl)]at h;simp only at h;omega
 ·rw[e]at h ⊢;have W:=ur4 H
  have B:(toA true (yss,n)).2=n|||(carry true yss).2:=by
   unfold toA;rw[if_neg (by rw[W];exact e8M)];split
   ·rfl
   ·rename_i h0;exact(Decidable.of_not_not h0).symm
  obtain⟨rfl,G⟩:=Nat.or_eq_zero_iff.1 (B.symm.trans h);obtain⟨i,C,M⟩:=y8O e l v G;refine⟨yss.map (fun y=>(ca y).1),whole yss,?_,rfl,fun e=>?_,i,C,M⟩
  ·unfold toA;rw[if_neg (by rw[W];exact e8M),if_neg (by rw[G];exact M7L)];rfl
  ·have:=List.map_eq_nil_iff.1 e;rw[this]at l;cases l
theorem q1j{l:List Int}{k}(h:k+2<=l.length):(l.drop k).take 2=[l.getD k 0,l.getD (k+1) 0]:=by
 rw[List.drop_eq_getElem_cons (f6J:k<l.length),List.drop_eq_getElem_cons (f6J:k+1<l.length),List.take_succ_cons,List.take_succ_cons,List.take_zero];simp only[List.getD,List.getElem?_eq_getElem (f6J:k<l.length),List.getElem?_eq_getElem (f6J:k+1<l.length),Option.getD_some]
theorem z1x{p:ByteArray}{k}(h:k+2<=p.size)(a b:UInt8):p.extract k (k+2)=⟨#[a,b]⟩↔(nums p).getD k 0=((a.toNat:Nat):Int)/\(nums p).getD (k+1) 0=((b.toNat:Nat):Int):=by
 have e:nums (p.extract k (k+2))=[(nums p).getD k 0,(nums p).getD (k+1) 0]:=by
  rw[x1E,(f6J:k+2-k=2),q1j u3d]
 have E:nums ⟨#[a,b]⟩=[((a.toNat:Nat):Int),((b.toNat:Nat):Int)]:=rfl;constructor
 ·intro t;rw[t,E]at e;simp only[List.cons.injEq]at e;exact⟨e.1.symm,e.2.1.symm⟩
 ·rintro⟨Z,D⟩;rw[<- x5k (p.extract k (k+2)),e,Z,D,<- E,x5k]
end Id
theorem fit_law19 v rs0 s0 w(hg:Glob w)(hv:Rcs w v rs0):Calls prog 4 #[v,.string s0] w (z1X w true):=by
 have K1:=O (y4t v rs0 w hg hv);obtain⟨ao,be,rfl,_,bA⟩:=hv.shape;have HG:=O hg;have aj:∀r∈rs0.take 150,RecFit r:=fun r hr=>hv.2.1 _ (List.mem_of_mem_take hr);clear hg hv;generalize rs0.take 150=rs,rs0.length=L at *;obtain⟨s,hs⟩:∃s,s0.extract 0 (min (s0.size:Int) 1000).toNat=s:=⟨_,rfl⟩;go_enter func4,ntmps4;go_wp2_with fail;refine(V K1).mono ?_;rintro e1 w1 ⟨b1,Z⟩;have l:=O b1;clear K1 b1;rcases Z with⟨t,rfl⟩ | ⟨R,p,v2,aW,rfl,hD,r2,p2⟩
 ·have K2:=O (q1h w1 ((V HG).on (V l)));clear t;go_wp2_with fail;refine c0m K2 fun w2 b2=>?_;have aX:=O (bthen (V l) b2);clear K2 b2;go_wp2;go_ret;exact⟨rfl,V aX⟩
 ·obtain⟨a2,bD,bm⟩:∃a c,v2=.slice a aW.length c:=by
   rcases r2.1.2 with⟨h,R⟩ | ⟨g,be,bE,e,_⟩
   ·exact⟨none,0,by rw[h,R]⟩
   ·exact⟨_,_,e⟩
  subst bm;have h6:=x2H R;have HI:=z6T ((V HG).on (V l)) hD R aj (47:Int)
  have KA:Hid (∀W,Bw w1 W->∀q,EngAt W q (47:Int) p->Calls prog 11 #[.pointer (some ⟨q,0,none⟩),.string s] W (y4V W (Id.toA true (Cn.proc19 rs 47 (nums s))))):=fun W hW q hE=>by
   have hI:=z6T ((V HG).on (bthen (V l) hW)) (hD.below hW) R aj (47:Int);exact toA19 hI hE (y1v hI hE s)
  have KS:Hid (∀W,Bw w1 W->∀c,Rune c->Calls prog 16 #[.pointer (some ⟨p,0,none⟩),.int .i32 c] W (x1a W (Cn.vget rs 1 c))):=fun W hW c hc=>x3O c W (hD.below hW) h6 hc
  have KN:Hid (∀W,Bw w1 W->∀xv X,Sk .i32 W xv X->X.length<=65536->Cn.x4n rs X=X->Calls prog 14 #[.pointer (some ⟨p,0,none⟩),xv] W (fun e w'=>e=.returned (.tuple #[.bool true,.int .i64 0])/\Bw W w')):=fun W hW xv X hx hl hn=>by
   have:=z9S ((V HG).on (bthen (V l) hW)) (hD.below hW) R hx hl;rwa [show(Cn.of18 rs X).nf=true from d0t hn.symm]at this
  have HT:=O fun h=>Id.z6L (ways19 HI s) h;have HN:=O fun h=>Id.z1t (v:=true) (r:=Cn.proc19 rs 47 (nums s)) h;have K3:=O (q0h p 47 e8N e8N w1);clear hD r2 R h6 HG p2 aj HI;generalize Id.toA true (Cn.proc19 rs 47 (nums s))=r,aW.length=rl at *;go_wp2_with fail;refine(V K3).mono ?_;rintro e3 w3 ⟨q,rfl,hE,b3⟩;have K5:=O (V KA w3 b3 q hE);have Y:=O b3;have aH:=O (bthen (V l) b3);clear K3 KA hE b3 l;go_wp2_with fail;refine c0m K5 fun w4 b4=>?_;have E:=O (bthen (V Y) b4);have u:=O (bthen (V aH) b4);clear K5 b4 aH Y;by_cases T:r.2=0
  ·obtain⟨P,A,c1,c2,c3,c4,c5,c6⟩:=V HT T;subst c1;clear HT HN T
   have K:∀q∈P,(46:Int) ∉ q:=fun q hq h=>by
    have:=(c4 q hq).c 46 h;unfold Pu.bch at this;omega
   have o:∀z∈A,z=46\/z=45\/Pu.bch z:=fun z T=>by
    rw[c2]at T;rcases Id.join_mem T with h | ⟨y,Z,D⟩
    ·exact .inl h
    ·exact .inr ((c4 y Z).c z D)
   have aD:nums (strOfNums A)=A:=x8C fun z T=>(by have:=o z T;unfold Pu.bch at this;exact f6J);have bj:(strOfNums A).size=A.length:=strOfNums_size A;simp only;generalize strOfNums A=sa at *;have C:Hid (∀k,k<A.length->(∀w,(Instr.index 9 (.string sa) (.int .i64 (k:Int))).run prog w=.ok (.int .u8 (A.getD k 0)) w)/\(A.getD k 0=46\/A.getD k 0=45\/(48<=A.getD k 0/\A.getD k 0<=57)\/(97<=A.getD k 0/\A.getD k 0<=122))):=fun k hk=>⟨fun w=>by have:=x2A sa k k rfl f6J w;rwa [aD]at this,o _ (Id.x1D hk)⟩
   have am:Hid (∀F i,F<=i->i<=A.length->(F=0\/A.getD (F-1) 0=46)->(i=A.length\/A.getD i 0=46)->(∀k,F<=k->k<i->A.getD k 0≠46)->∃x,sa.extract F i=x/\Id.Pt rs (nums x)):=fun F i Z D h3 H h5=>by
    refine⟨_,rfl,?_⟩;rw[x1E,aD];rw[c2]at D h3 H h5 ⊢;exact c4 _ (Id.z0Y P F i c3 K Z D h3 H h5)
   clear aD o K c2 c3 c4;obtain⟨n,hn⟩:∃n,sa.size=n:=⟨_,rfl⟩;have G:A.length=n:=f6J;rw[G]at c5 c6 C am;clear bj G;go_wp2;go_loopw[12,13,14,15,16,17,18,19,20,21] (fun fv iv _ _ _ _ _ _ _ _ wr=>∃F i:Nat,fv=.int .i64 F/\iv=.int .i64 i/\i<=n+1/\(i<=n->F<=i/\(F=0\/A.getD (F-1) 0=46)/\∀k,F<=k->k<i->A.getD k 0≠46)/\Bw w4 wr) (fun _ iv _ _ _ _ _ _ _ _ _=>n+1-(intOf iv).toNat)
   case atStart=>exact⟨0,0,rfl,rfl,f6J,fun _=>⟨l0r _,.inl rfl,fun k _ hk=>absurd hk (Nat.not_lt_zero _)⟩,b0r⟩
   case round =>
    obtain⟨F,i,rfl,rfl,hi,hrel,hb⟩:=hrel;have B:=O hb;by_cases aP:i<=n
    ·obtain⟨hF,aq,ar⟩:=hrel aP;by_cases aC:i<n/\A.getD i 0≠46
     ·obtain⟨aQ,t⟩:=aC;obtain⟨hx,aA⟩:=V C i aQ
      have I:Hid (i+1<=n->F<=i+1/\(F=0\/A.getD (F-1) 0=46)/\∀k,F<=k->k<i+1->A.getD k 0≠46):=fun _=>⟨f6J,aq,fun k Z D=>by
       rcases Nat.lt_or_ge k i with h | h
       ·exact ar k Z h
       ·obtain rfl:k=i:=by omega
        exact t⟩
      clear hrel aq ar hb hF;replace aA:=aA.resolve_left t;generalize A.getD i 0=z at *;have bB:(z != 46)=true:=bne_iff_ne.2 t;rcases aA with rfl | ⟨z1,z2⟩ | ⟨z1,z2⟩
      ·exact G8Q
      ·have g1:(z != 45)=true:=bne_iff_ne.2 f6J;have g2:decide (z<48)=false:=d0f f6J;have g3:decide (57<z)=false:=d0f f6J;exact G8Q
      ·have g1:(z != 45)=true:=bne_iff_ne.2 f6J;have g2:decide (z<48)=false:=d0f f6J;have g3:decide (57<z)=true:=d0t f6J;have g4:decide (z<97)=false:=d0f f6J;have g5:decide (122<z)=false:=d0f f6J;exact G8Q
     ·have af:i=n\/A.getD i 0=46:=by
       rcases Nat.lt_or_ge i n with h | h
       ·exact .inr (Decidable.byContradiction fun h'=>aC ⟨h,h'⟩)
       ·exact .inl f6J
      obtain⟨x,hx,ag⟩:=V am F i hF aP aq af ar;have I:Hid (i+1<=n->i+1<=i+1/\(i+1=0\/A.getD (i+1-1) 0=46)/\∀k,i+1<=k->k<i+1->A.getD k 0≠46):=fun h=>⟨l0r _,.inr (af.resolve_left f6J),fun k Z D=>f6J⟩;have ae:(i:Int)<(n:Int)\/¬(i:Int)<(n:Int):=Decidable.em _;obtain⟨m,hm⟩:∃m,x.size=m:=⟨_,rfl⟩;have G:(nums x).length=m:=(by rw[nums_length,hm]);have m1:=ag.l1;have m2:=ag.l2;rw[G]at m1 m2;have y0:∀w,(Instr.index 9 (.string x) (.int .i64 0)).run prog w=.ok (.int .u8 ((nums x).getD 0 0)) w:=fun w=>x2A x 0 0 rfl f6J w;have y1:∀w,(Instr.index 9 (.string x) (.int .i64 ((m:Int)-1))).run prog w=.ok (.int .u8 ((nums x).getD (m-1) 0)) w:=fun w=>x2A x ((m:Int)-1) (m-1) f6J f6J w;have d0:((nums x).getD 0 0==45)=false:=b0f ag.b;have d1:((nums x).getD (m-1) 0==45)=false:=b0f (by have:=ag.e;rwa [G]at this)
      have HD:Hid (4<=m->x.extract 2 4=⟨#[45,45]⟩->x.extract 0 2=⟨#[120,110]⟩/\∃y,Pu.decode (nums (x.extract 4 m))=(y,0)/\allb ascb y=false/\Cn.x4n rs y=y/\y.length<=65536/\∀c∈y,Cn.vget rs 1 c=1\/Cn.vget rs 1 c=4):=fun H h=>by
       obtain⟨a1,a2⟩:=(Id.z1x (p:=x) (k:=2) f6J 45 45).1 h;obtain⟨b1,b2,y,y1,y2,y5,y3,y4⟩:=ag.d f6J a1 a2;refine⟨(Id.z1x (p:=x) (k:=0) f6J 120 110).2 ⟨b1,b2⟩,y,?_,y2,y3,Nat.le_trans y5 e8N,y4⟩;rw[x1E,List.take_of_length_le (by rw[List.length_drop,G];exact f6J)];exact y1
      have ab:i<n->∀w,(Instr.index 9 (.string sa) (.int .i64 (i:Int))).run prog w=.ok (.int .u8 46) w:=fun h w=>by
       have:=(V C i h).1 w;rwa [af.resolve_left f6J]at this
      have ae:i<n\/i=n:=f6J;clear hrel aq ar hb ag aC af am C G;generalize(nums x).getD 0 0=z0,(nums x).getD (m-1) 0=zl at *
      have aR:m<4\/4<=m/\x.extract 2 4≠⟨#[45,45]⟩\/4<=m/\x.extract 2 4=⟨#[45,45]⟩:=by
       rcases Nat.lt_or_ge m 4 with h | h
       ·exact .inl h
       ·by_cases h':x.extract 2 4=⟨#[45,45]⟩
        ·exact .inr (.inr ⟨h,h'⟩)
        ·exact .inr (.inl ⟨h,h'⟩)
      rcases aR with H | ⟨H,hq⟩ | ⟨H,hq⟩
      ·clear HD KS KN E;rcases ae with hc | rfl
       all_goals(try have aM:=ab (by assumption))
       all_goals
        clear ab;go_wp2
        go_roundw
        case rel=>exact⟨_,_,g2A,g2A,f6J,V I,V B⟩
        case measure=>exact i5W
      ·clear HD KS KN E;have hl:¬(x.extract 2 4).toList=[45,45]:=fun e=>hq (ByteArray.ext (Array.toList_inj.1 (by rw[<- ByteArray.toList_eq,e])));have bG:((x.extract 2 4).toList==[45,45])=false:=b0f hl;clear hq hl;rcases ae with hc | rfl
       all_goals(try have aM:=ab (by assumption))
       all_goals
        clear ab;go_wp2
        go_roundw
        case rel=>exact⟨_,_,g2A,g2A,f6J,V I,V B⟩
        case measure=>exact i5W
      ·obtain⟨bH,y,aF,bn,aU,bp,aV⟩:=V HD H hq;have ba:=O aV;have aK:=O aU;clear HD aV aU;obtain⟨xd,aS⟩:∃xd,x.extract 4 m=xd:=⟨_,rfl⟩;rw[aS]at aF;have aT:xd.size<=1000000000:=by rw[<- aS,ByteArray.size_extract];omega
       have f:Hid (Calls prog 13 #[.string xd] wr (x1b wr.heap.size wr (y,0))):=by
        have:=x8m xd wr aT;rwa [aF]at this
       clear aF aT;rcases ae with hc | rfl
       all_goals(try have aM:=ab (by assumption))
       all_goals
        clear ab;go_wp2_with fail;refine(V f).mono ?_;rintro bF bt (⟨bJ,rfl,_,ho,N⟩ | ⟨_,t,_⟩);rotate_left
        ·exact absurd rfl t
        have HO:=O ho.sk;have M:=O (bthen (V B) N);obtain⟨ay,cy,rfl,_,_⟩:=ho.sk.shape;have aL:=O (V KN bt (bthen (V E) (V M)) _ y (V HO) bp (V aK));clear f ho N aK;go_wp2_with fail;refine c0m aL fun bu Q=>?_;have ai:=O ((V HO).below Q);have U:=O (bthen (V M) Q);have az:=O (y7z _ y bu (V ai));rw[bn]at az;clear aL Q HO M;go_wp2_with fail;refine c0m az fun bw S=>?_;have aJ:=O ((V ai).below S);have aw:=O (bthen (V U) S);clear az S ai U;go_wp2;go_loopw[20,21] (fun jv _ wj=>∃j:Nat,jv=.int .i64 j/\j<=y.length/\Bw bw wj) (fun jv _ _=>y.length-(intOf jv).toNat)
        case atStart=>exact⟨0,rfl,f6J,b0r⟩
        case round =>
         obtain⟨j,rfl,hj,J⟩:=hrel;have aI:=O J;by_cases aB:j<y.length
         ·have s1:=(V aJ).below J;obtain⟨bi,oi,bC,he,_,_,aN⟩:=s1.place f6J;obtain⟨rfl,_,rfl⟩:=Value.slice.inj he;have c2:=aN j aB;have K9:=O (V KS wr (bthen (V E) (bthen (V aw) J)) (y.getD j 0) (x0R s1 aB));have bh:=V ba (y.getD j 0) (Id.x1D aB);clear aN s1 he J;generalize y.getD j 0=c at *;go_wp2_with fail;refine c0m K9 fun bK aO=>?_;have aG:=O (bthen (V aI) (x0i aO));clear K9 aO;generalize Cn.vget rs 1 c=z at *;rcases bh with rfl | rfl
          all_goals
           go_wp2
           go_roundw
           case rel=>exact⟨j+1,g2A,f6J,V aG⟩
           case measure=>exact i5W
         ·have aY:=O (bthen (V aw) J);clear J aI;go_wp2
          go_roundw
          case rel=>exact⟨_,_,g2A,g2A,f6J,V I,V aY⟩
          case measure=>exact i5W
    ·obtain rfl:i=n+1:=f6J;have aZ:=O (bthen (V u) hb);clear hrel hb B C am;go_wp2;go_ret;exact⟨rfl,V aZ⟩
  ·have hn:=V HN T;obtain⟨r1,r2⟩:=r;obtain rfl:r1=[]:=hn;have bI:((r2:Int) != 0)=true:=(by rw[bne_iff_ne];simp only at T;exact f6J);have e3:strOfNums []=⟨#[]⟩:=rfl;clear HT HN T;simp only[e3];clear e3;go_wp2;go_ret;exact⟨rfl,V u⟩
