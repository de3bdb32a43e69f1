/- Lemmas. -/
import Derived.Test.YtkfcabdmkmljjaaGreatDoorH50
namespace Go.Proofs.YtkfcabdmkmljjaaGreatDoor
open Go.Proofs.Tryz
section
variable{p:Prop}
theorem n7t(h:p:=by unfold lx at A;exact f6J):p:=h
end
namespace Pu
def lbN:Nat->Nat->Nat
  | 0,_=>1
  | f+1,j=>if j%2=1 then 1 else 2*lbN f (j / 2)
theorem y2N{f j:Nat}(h:j%2=1):lbN (f+1) j=1:=by rw[lbN,if_pos h]
theorem x9z(f a:Nat):lbN (f+1) (2*a)=2*lbN f a:=by
  rw[lbN,if_neg f6J,Nat.mul_div_cancel_left _ e8N]
theorem x4Q(f j:Nat):1<=lbN f j:=by
  induction f generalizing j with
  | zero=>exact l0r 1
  | succ f ih=>
    rw[lbN];split
    · exact l0r 1
    · have:=ih (j / 2);omega
theorem z5f{f j:Nat}(Z:1<=j)(D:j<2^f):lbN f j<=j:=by
  induction f generalizing j with
  | zero=>simp at D;omega
  | succ f ih =>
    rw[lbN];split
    · exact Z
    · have s:2^(f+1)=2*2^f:=by rw[Nat.pow_succ,Nat.mul_comm]
      have:=ih (j:=j / 2) f6J f6J;omega
theorem z7h(f:Nat):∀j q,1<=q->q<j->j<2^f->(j-lbN f j<q↔(j-lbN f j<q+lbN f q/\q+lbN f q<=j)):=by
  induction f with
  | zero=>intro j q Z D J;simp at J;omega
  | succ f ih =>
    intro j q Z D J;have s:2^(f+1)=2*2^f:=by rw[Nat.pow_succ,Nat.mul_comm]
    have A:(q+lbN (f+1) q)%2=0:=by
      rcases Nat.mod_two_eq_zero_or_one q with h | h
      · obtain⟨c,rfl⟩:∃c,q=2*c:=⟨q / 2,f6J⟩
        rw[x9z];omega
      · rw[y2N h];omega
    have G:=x4Q (f+1) q;rcases Nat.mod_two_eq_zero_or_one j with hj | hj
    · obtain⟨a,rfl⟩:∃a,j=2*a:=⟨j / 2,f6J⟩
      rw[x9z];have W:=x4Q f a;have b:=z5f (f:=f) (j:=a) f6J f6J;rcases Nat.mod_two_eq_zero_or_one q with h | h
      · obtain⟨c,rfl⟩:∃c,q=2*c:=⟨q / 2,f6J⟩
        rw[x9z];have:=ih a c f6J f6J f6J;omega
      · rw[y2N h];omega
    · rw[y2N hj];omega
def y4p:Nat->Bool
  | 0=>true
  | n+1=>decide ((lbi (n+1)).toNat=lbN 15 (n+1))&&y4p n
theorem y6a{n j:Nat}(h:y4p n=true)(Z:1<=j)(D:j<=n):(lbi j).toNat=lbN 15 j:=by
  induction n with
  | zero=>omega
  | succ n ih =>
    simp only[y4p,Bool.and_eq_true,decide_eq_true_eq]at h;rcases Nat.lt_or_ge n j with hj | hj
    · have:j=n+1:=by omega
      subst this;simpa using h.1
    · exact ih h.2 hj
theorem y1b:y4p 16600=true:=M3j
theorem z5g{j:Nat}(Z:1<=j)(D:j<=16600):(lbi j).toNat=lbN 15 j:=y6a y1b Z D
def cnt(p:Nat->Bool)(b:Nat):Nat:=((List.range b).filter p).length
theorem x9e(p:Nat->Bool):cnt p 0=0:=rfl
theorem x3Z(p:Nat->Bool)(b:Nat):cnt p (b+1)=cnt p b+if p b then 1 else 0:=by
  unfold cnt;rw[List.range_succ,List.filter_append,List.length_append];cases h:p b<;>simp[h]
theorem cnt_mono{p:Nat->Bool}{a b:Nat}(h:a<=b):cnt p a<=cnt p b:=by
  induction b with
  | zero=>
    have:a=0:=by omega
    subst this;exact l0r _
  | succ b ih =>
    rcases Nat.eq_or_lt_of_le h with h | h
    · subst h;exact l0r _
    · rw[x3Z];have:=ih f6J;omega
def addp(p:Nat->Bool)(a:Nat):Nat->Bool:=fun k=>k==a||p k
theorem x5Y{p:Nat->Bool}{a:Nat}(h:p a=false)(b:Nat):cnt (addp p a) b=cnt p b+if a<b then 1 else 0:=by
  induction b with
  | zero=>simp[x9e]
  | succ b ih =>
    rw[x3Z,x3Z,ih];unfold addp;by_cases Y:b=a
    · subst Y;simp[h]
    · have:(b==a)=false:=by simpa using Y
      rw[this,Bool.false_or];have P:(if a<b then 1 else 0)=(if a<b+1 then(1:Nat)else 0):=(by split<;>split<;>omega);rw[P];omega
def Fen(p:Nat->Bool)(T:List Int):Prop:=∀j,1<=j->j<T.length->T.getD j 0=(cnt p j:Int)-(cnt p (j-lbN 15 j):Int)
theorem y4Y{p:Nat->Bool}{T:List Int}(h:Fen p T)(S:T.length<=16500):∀(f j:Nat) (n:Int),j<=f->j<T.length->x1X f T j n=n+cnt p j:=by
  intro f
  induction f with
  | zero=>
    intro j n X _;have:j=0:=by omega
    subst this;rw[x1X,x9e];simp
  | succ f ih =>
    intro j n X m;rw[x1X];split
    · rename_i h0
      rw[z5g f6J f6J];have Z:=x4Q 15 j;have D:=z5f (f:=15) (j:=j) f6J (by show j<32768;exact f6J);rw[ih (j-lbN 15 j) _ f6J f6J,h j f6J m];omega
    · have:j=0:=by omega
      subst this;rw[x9e];simp
theorem y7w{p:Nat->Bool}{T:List Int}(h:Fen p T)(S:T.length<=16500){a:Nat}(g:a<T.length):ahead T a=cnt p a:=by
  unfold ahead;rw[y4Y h S a a 0 (l0r _) g];simp
theorem z5J:∀(f:Nat) (T:List Int) (q m:Nat),T.length<=16500->1<=q->T.length<=q+f->m<T.length->1<=m ->
    (addF f T q).getD m 0=T.getD m 0+if q<=m/\m-lbN 15 m<q then 1 else 0:=by
  intro f
  induction f with
  | zero=>intro T q m S y z o Z;rw[addF,if_neg f6J];simp
  | succ f ih =>
    intro T q m S y z o Z;rw[addF];split
    · rename_i hlt
      rw[z5g y f6J];have s:=x4Q 15 q;rw[ih _ _ _ t2Y f6J P8P (by simpa using o) Z,x6d _ _ _ _ hlt];have j:=x4Q 15 m;by_cases A:m=q
      · subst A
        rw[if_pos rfl,if_neg f6J,if_pos f6J];omega
      · rw[if_neg A]
        by_cases g:q<m
        · have I:=z7h 15 m q y g (by show m<32768;exact f6J)
          by_cases J:m-lbN 15 m<q
          · have:=I.1 J
            rw[if_pos f6J,if_pos f6J]
          · have:¬(m-lbN 15 m<q+lbN 15 q/\q+lbN 15 q<=m):=fun h=>J (I.2 h)
            rw[if_neg f6J,if_neg f6J]
        · rw[if_neg f6J,if_neg f6J]
    · rename_i hlt
      rw[if_neg f6J];simp
theorem y7v{p:Nat->Bool}{T:List Int}(h:Fen p T)(S:T.length<=16500){a:Nat}(g:p a=false):Fen (addp p a) (add T a):=by
  intro j Z D;rw[x3z]at D;unfold add;rw[z5J _ _ _ _ S f6J f6J D Z,h j Z D,x5Y g,x5Y g];have J:=x4Q 15 j;by_cases y:a<j
  · by_cases A:a<j-lbN 15 j
    · rw[if_pos y,if_pos A,if_neg f6J];omega
    · rw[if_pos y,if_neg A,if_pos f6J];omega
  · rw[if_neg y,if_neg f6J,if_neg f6J];omega
theorem z2Q(n:Nat):Fen (fun _=>false) (List.replicate n 0):=by
  intro j _ D;have I:∀b,cnt (fun _=>false) b=0:=fun b=>(by simp[cnt]);rw[I,I];simp at D;simp[List.getD,D]
end Pu
open Go.RowKit
namespace Pu
theorem y0w{p q:Nat->Bool}{n:Nat}(h:∀k,k<n->p k=q k){b:Nat}(Y:b<=n):cnt p b=cnt q b:=by
 induction b with
 | zero=>rfl
 | succ b ih=>rw[x3Z,x3Z,ih f6J,h b f6J]
theorem x6E{p q:Nat->Bool}{T:List Int}(h:∀k,k+1<T.length->p k=q k)(z:Fen p T):Fen q T:=fun j Z D=>by
 have F:∀k,k<T.length-1->p k=q k:=fun k G=>h k f6J;rw[z j Z D,y0w F f6J,y0w F (b:=j-lbN 15 j) f6J]
theorem z1I(xs:List Int):∀(r:List Nat) (T out:List Int),(wr1 xs r T out).1.length=T.length
 | [],_,_=>rfl
 | c::r,T,out=>by rw[wr1,z1I xs r,x3z]
theorem z1H(xs:List Int):∀(r:List Nat) (T out:List Int) (q:Nat->Bool),Fen q T->T.length<=16500->r.Nodup->(∀c∈r,q c=false)->Fen (fun k=>decide (k∈r)||q k) (wr1 xs r T out).1
 | [],T,out,q,h,_,_,_=>by rw[wr1];exact x6E (fun k _=>M7K) h
 | c::r,T,out,q,h,hl,hn,hq=>by
  obtain⟨Z,D⟩:=List.nodup_cons.1 hn;have I:q c=false:=hq c M7K;rw[wr1];refine x6E (fun k _=>?_) (z1H xs r _ _ (addp q c) (y7v h hl I) (by rw[x3z];exact hl) D (fun d hd=>?_))
  ·unfold addp;by_cases P:k=c
   ·simp[P]
   ·have E:(k==c)=false:=(by simpa using P);rw[E,Bool.false_or];simp[P]
  ·unfold addp;have B:d≠c:=fun e=>Z (e ▸ hd);simp[B,hq d (List.mem_cons_of_mem _ hd)]
theorem q1p{xs:List Int}{c:Nat}{r:List Nat}{T:List Int}{p n i:Int}(Z:0<=dlt xs c T p n i)(D:0<=n+(i+dlt xs c T p n i) / (p+1)/\n+(i+dlt xs c T p n i) / (p+1)<=1114111)
  (J:wok xs r (add T c) (p+1) (n+(i+dlt xs c T p n i) / (p+1)) ((i+dlt xs c T p n i)%(p+1)+1)=true):wok xs (c::r) T p n i=true:=by
 have:(0<=dlt xs c T p n i/\(0<=n+(i+dlt xs c T p n i) / (p+1)/\n+(i+dlt xs c T p n i) / (p+1)<=1114111) /\
  (2147483647<dlt xs c T p n i\/wok xs r (add T c) (p+1) (n+(i+dlt xs c T p n i) / (p+1)) ((i+dlt xs c T p n i)%(p+1)+1)=true)):=⟨Z,D,.inr J⟩
 simpa[wok,dlt,and_assoc]using this
structure Wv(xs:List Int)(r:List Nat)(T:List Int)(q:Nat->Bool)(p n i:Int):Prop where
 fen:Fen q T
 len:T.length=xs.length+1
 le:xs.length<=16384
 hp:p=(cnt q xs.length:Int)
 i0:0<=i
 ip:i<=p
 n0:0<=n
 nx:∀c∈r,c<xs.length/\q c=false/\n<=xs.getD c 0/\(xs.getD c 0=n->i<=(cnt q c:Int))
 ord:r.Pairwise (lx xs)
section
variable {xs:List Int} {c:Nat} {r:List Nat} {T:List Int} {q:Nat->Bool} {p n i:Int}
theorem Wv.ah(h:Wv xs (c::r) T q p n i):ahead T c=(cnt q c:Int):=by
 have Z:=(h.nx c M7L).1;have D:=h.len;have J:=h.le;exact y7w h.fen f6J f6J
theorem Wv.sum(h:Wv xs (c::r) T q p n i):i+dlt xs c T p n i=(xs.getD c 0-n)*(p+1)+(cnt q c:Int):=by
 unfold dlt;rw[h.ah];omega
theorem Wv.cp(h:Wv xs (c::r) T q p n i):(cnt q c:Int)<=p:=by
 have Z:=(h.nx c M7L).1;have:=cnt_mono (p:=q) (a:=c) (b:=xs.length) f6J;rw[h.hp];omega
theorem Wv.div(h:Wv xs (c::r) T q p n i):(i+dlt xs c T p n i) / (p+1)=xs.getD c 0-n:=by
 have Z:=h.cp;have D:=h.i0;have J:=h.ip;rw[h.sum,Int.add_comm,Int.add_mul_ediv_right _ _ f6J,Int.ediv_eq_zero_of_lt f6J f6J];omega
theorem Wv.mod(h:Wv xs (c::r) T q p n i):(i+dlt xs c T p n i)%(p+1)=(cnt q c:Int):=by
 have Z:=h.cp;have D:=h.i0;have J:=h.ip;rw[h.sum,Int.add_comm,Int.add_mul_emod_self_right,Int.emod_eq_of_lt f6J f6J]
theorem Wv.pos(h:Wv xs (c::r) T q p n i):0<=dlt xs c T p n i:=by
 obtain⟨_,_,Z,D⟩:=h.nx c M7L;have J:=h.ip;have H:=h.i0;have L:=h.sum;by_cases A:xs.getD c 0=n
 ·have:=D A;rw[A,Int.sub_self,Int.zero_mul]at L;omega
 ·have:=Int.mul_le_mul_of_nonneg_right (f6J:(1:Int)<=xs.getD c 0-n) (f6J:(0:Int)<=p+1);generalize(xs.getD c 0-n)*(p+1)=z at *;omega
theorem Wv.next(h:Wv xs (c::r) T q p n i):Wv xs r (add T c) (addp q c) (p+1) (xs.getD c 0) ((cnt q c:Int)+1):=by
 obtain⟨Z,D,J,H⟩:=h.nx c M7L;obtain⟨E,F⟩:=List.pairwise_cons.1 h.ord;have S:=h.len;have C:=h.le;have X:=h.cp;have N:=h.n0;refine⟨y7v h.fen f6J D,by rw[x3z];exact S,C,?_,f6J,f6J,f6J,fun d hd=>?_,F⟩
 ·rw[h.hp,x5Y D,if_pos Z];omega
 ·obtain⟨M,o,L,I⟩:=h.nx d (List.mem_cons_of_mem _ hd);have A:=E d hd;have B:d≠c:=fun e=>(by subst e;exact n7t);refine⟨M,by unfold addp;simp[B,o],n7t,fun G=>?_⟩;have K:c<d:=n7t;have:=cnt_mono (p:=q) (a:=c) (b:=d) f6J;rw[x5Y D,if_pos K];omega
end
theorem Wv.wok{xs:List Int}(A:∀z∈xs,0<=z/\z<=1114111):∀(r:List Nat) (T:List Int) (q:Nat->Bool) (p n i:Int),Wv xs r T q p n i->wok xs r T p n i=true
 | [],_,_,_,_,_,_=>rfl
 | c::r,T,q,p,n,i,h=>by
  have Z:=(h.nx c M7L).1;have B:=A (xs.getD c 0) (by rw[List.getD,List.getElem?_eq_getElem Z];exact List.getElem_mem Z);refine q1p h.pos ?_ ?_
  ·rw[h.div];omega
  ·rw[h.div,h.mod,(f6J:n+(xs.getD c 0-n)=xs.getD c 0)];exact Wv.wok A r _ _ _ _ _ h.next
theorem x9r{xs:List Int}{f:Int->Bool}{k:Nat}:k∈idx xs f↔k<xs.length/\f (xs.getD k 0)=true:=by unfold idx;exact M7K
theorem y9l(xs:List Int)(f:Int->Bool):(idx xs f).Pairwise (·<·):=List.Pairwise.filter _ List.pairwise_lt_range
theorem z2S{α:Type}(l:List α)(f:α->Bool):(l.filter f).length+(l.filter fun a=>!f a).length=l.length:=by
 induction l with
 | nil=>rfl
 | cons a l ih=>cases h:f a<;>simp[h]<;>omega
theorem y9n(xs:List Int):(idx xs lowq).length+(idx xs x1W).length=xs.length:=by
 have:=z2S (List.range xs.length) fun k=>lowq (xs.getD k 0);rw[List.length_range]at this;exact this
theorem y3J{xs:List Int}(S:xs.length<=16384):Wv xs (ordOf xs) (t1Of xs) (fun k=>lowq (xs.getD k 0)) ((idx xs lowq).length:Int) 128 0:=by
 have d:(t1Of xs).length=xs.length+1:=(by unfold t1Of;rw[z1I,List.length_replicate]);refine⟨?_,d,S,rfl,Int.le_refl _,f6J,f6J,fun c I=>?_,y4N (y9l _ _)⟩
 ·refine x6E (fun k G=>?_) (z1H xs (idx xs lowq) _ [] (fun _=>false) (z2Q _) (by rw[List.length_replicate];exact f6J) (y0W (y9l _ _)) fun _ _=>rfl);rw[d]at G;rw[Bool.or_false];have:=@x9r xs lowq k;cases hh:lowq (xs.getD k 0)<;>simp only[hh,decide_eq_true_eq,decide_eq_false_iff_not]at *<;>simp[this]<;>omega
 ·have:=x9r.1 ((x1n xs _).subset I);have D:lowq (xs.getD c 0)=false:=(by have:=this.2;unfold x1W at this;exact W2K);refine⟨this.1,D,?_,fun _=>f6J⟩;unfold lowq at D;have:=of_decide_eq_false D;omega
theorem y3Z{xs:List Int}(S:xs.length<=16384)(L:allb okb xs=true):fine xs:=by
 have Y:=y3J S;refine⟨fun a g=>(Y.nx a g).1,?_,Y.wok (x7f L) _ _ _ _ _ _⟩;have Z:=y9n xs;have D:=(x1n xs (idx xs x1W)).length_eq;unfold ordOf;omega
end Pu
theorem y5B(v:Value)(xs:List Int)(w:World)(N:Sk .i32 w v xs)(S:xs.length<=16384):Calls prog 100 #[v] w (WrP w (Pu.encode xs)):=by
 have:=Pu.y9n xs;exact x3a 100000 sortC v xs w N S f6J (Pu.y3Z S)
