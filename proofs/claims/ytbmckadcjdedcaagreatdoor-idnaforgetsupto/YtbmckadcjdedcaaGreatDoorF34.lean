import Derived.Test.YtbmckadcjdedcaaGreatDoorF18
import Derived.Deep.QuietTactic
set_option maxHeartbeats 8000000
set_option maxRecDepth 8000
namespace Go.Proofs.YtbmckadcjdedcaaGreatDoor
open Go.Proofs.Tryz
open Go.RowKit
section
variable{p:Prop}
theorem P5x(h:p:=by
 have c:=O (V I k H)
 have HN:Hid (s (rs.getD k Cn.none)=false->∀j,j<k+1->s (rs.getD j Cn.none)=false):=fun h j K=>by
  rcases Nat.lt_or_ge j k with h'|h'
  ·exact X j h'
  ·obtain rfl:j=k:=f6J;exact h
 have hR:=V Y _ k L f6J;have p:=V r k f6J;have hw:=V Z (rs.getD k Cn.none);have R:=O L;obtain⟨z0,_,_,_,⟨vk,aI,F⟩,_,_,_⟩:=hR;generalize s (rs.getD k Cn.none)=ty at *;by_cases P:(rs.getD k Cn.none).kind=7
 ·obtain⟨y,f2,f3,_,_⟩:=p P;obtain⟨kb,af,ae,rfl,aF,aG,k0,k1⟩:=x4C F y;rw[P]at z0;obtain⟨ai,aj⟩:=x0O f2;obtain⟨am,aq⟩:=x0O f3;generalize(rs.getD k Cn.none).to.getD 0 0=ka,(rs.getD k Cn.none).to.getD 1 0=D at *;have ag:(rs.getD k Cn.none).kind=7:=P;generalize(rs.getD k Cn.none).kind=kk at *;by_cases f:ka=a
  ·by_cases E:D=bb
   ·have ht:ty=true:=(by rw[hw];exact d0t ⟨P,f,E⟩);have N:=O (V c ht);subst f E;go_wp2;go_ret;exact⟨x1u (.inr (.inr (.inr (.inr (.inr (.inr (V N))))))),(V R).2⟩
   ·have U:=O (V HN (by rw[hw];exact d0f fun h=>E h.2.2));subst f;exact i6z
  ·have U:=O (V HN (by rw[hw];exact d0f fun h=>f h.2.1));exact i6z
 ·have U:=O (V HN (by rw[hw];exact d0f fun h=>P h.1));generalize(rs.getD k Cn.none).kind=kk at *;have d1:(kk==7)=false:=b0f P;exact i6z):p:=h
theorem I3V(h:p:=by simp[List.getD,(f6J:k<l.length)]):p:=h
theorem v7l(h:p:=by go_wp2;go_ret;exact⟨x1u (.inr (.inr (.inr (.inr (.inr (.inl rfl)))))),(V u).2⟩):p:=h
theorem i6z(h:p:=by
 go_wp2
 go_roundw
 case rel=>exact⟨k+1,g2A,f6J,V U,V R⟩
 case measure=>exact g7V):p:=h
theorem f8w(h:p:=by go_wp2;go_ret;exact⟨x1u (.inr (.inr (.inr (.inr (.inl c5))))),(V u).2⟩):p:=h
theorem V5f(h:p:=by exact⟨0,rfl,f6J,fun j K=>absurd K (Nat.not_lt_zero _),V u⟩):p:=h
end
namespace Cn
theorem x7X{r}(h:right r=0)(o:r.kind=7):r.to.length=2/\scalar (r.to.getD 0 0)=true/\scalar (r.to.getD 1 0)=true/\0<=r.lo/\r.lo<=1114111:=by
 obtain⟨Z,D,R⟩:=x0s h o;unfold list at R;rw[Bool.and_eq_true]at R;have H:=o0d R.1;have S:r.to.length=2:=f6J;have p:=List.all_eq_true.1 R.2;have U:=o0d D;exact⟨S,p _ (by simp[List.getD,S]),p _ (by simp[List.getD,S]),U.1,U.2.1⟩
def twin(r k:Rec):Bool:=decide (k.kind=7/\k.to.getD 0 0=r.to.getD 0 0/\k.to.getD 1 0=r.to.getD 1 0)
theorem z6v l i r:pair l i r=(!(decide (cls l r.lo≠0)||decide (cls l (r.to.getD 0 0)≠0)||decide (0<(opn l (r.to.getD 1 0)).length)||(decide (0<(opn l (r.to.getD 0 0)).length)&&!(prim l (r.to.getD 0 0)).isSome)||decide (r.to.getD 1 0<128)||decide (r.to.getD 0 0=46))&&!((l.take i).any (twin r))):=by
 have E:∀x:List Int,decide (x≠[])=decide (0<x.length):=fun x=>(by cases x<;>simp);unfold pair;rw[E,E];cases prim l (r.to.getD 0 0)<;>rfl
theorem z3p{l:List Rec}{i k r}(hi:i<=l.length)(G:k<i)(h:twin r (l.getD k none)=true):(l.take i).any (twin r)=true:=by
 rw[List.any_eq_true];exact⟨_,List.mem_take_iff_getElem.2 ⟨k,f6J,rfl⟩,by have e:l.getD k none=l[k]:=I3V;rw[<- e];exact h⟩
theorem z0J{l:List Rec}{i r}(hi:i<=l.length)(h:∀k,k<i->twin r (l.getD k none)=false):(l.take i).any (twin r)=false:=by
 rw[List.any_eq_false];intro x J;obtain⟨k,G,rfl⟩:=List.mem_take_iff_getElem.1 J;have:=h k f6J;rw[(I3V:l.getD k none=l[k])]at this;rw[this];exact Bool.false_ne_true
end Cn
theorem x0O{c}(h:Cn.scalar c=true):Rune c:=by
 have:=o0d h;exact⟨f6J,f6J⟩
theorem x4C{w va zs}(h:Sk .i32 w va zs)(S:zs.length=2):∃b off cap,va=.slice (some ⟨b,off,none⟩) 2 cap/\2<=cap/\cap<=9223372036854775807/\w.cell? ⟨b,off,none⟩=some (.int .i32 (zs.getD 0 0))/\w.cell? ⟨b,off+1,none⟩=some (.int .i32 (zs.getD 1 0)):=by
 obtain⟨b,off,cap,d,Z,D,I⟩:=h.place f6J;exact⟨b,off,cap,by rw[d,S],f6J,f6J,by have A:=I 0 f6J;rw[Nat.add_zero]at A;exact A,I 1 f6J⟩
def y2E(n1 n2:Int)(l3 l4:Nat)(p5:Bool)(bb a:Int)(an:Bool):Bool:=!(decide (n1≠0)||decide (n2≠0)||decide (0<l3)||(decide (0<l4)&&!p5)||decide (bb<128)||decide (a=46))&&!an
theorem x1u{n1 n2 l3 l4 p5 bb a}{an}(h:n1≠0\/n2≠0\/0<l3\/(0<l4/\p5=false)\/bb<128\/a=46\/an=true):Ending.returned (.bool false)=Ending.returned (.bool (y2E n1 n2 l3 l4 p5 bb a an)):=by
 have e:y2E n1 n2 l3 l4 p5 bb a an=false:=by
  unfold y2E;rcases h with h|h|h|⟨h,rfl⟩|h|h|h
  ·rw[d0t h];simp
  ·rw[d0t h];simp
  ·rw[d0t h];simp
  ·rw[d0t h];simp
  ·rw[d0t h];simp
  ·rw[d0t h];simp
  ·rw[h];simp
 rw[e]
theorem y0X{l3 l4 p5 bb a an}(R:¬0<l3)(H:0<l4->p5=true)(p:¬bb<128)(F:¬a=46)(o:an=false):Ending.returned (.bool true)=Ending.returned (.bool (y2E 0 0 l3 l4 p5 bb a an)):=by
 have e:y2E 0 0 l3 l4 p5 bb a an=true:=by
  unfold y2E;rw[o,d0f R,d0f p,d0f F];by_cases E:0<l4
  ·rw[H E];simp
  ·rw[d0f E];simp
 rw[e]
theorem y2P v rs i w(hv:Rcs w v rs)(aB:(Cn.check6 rs).2=0)(hi:i<rs.length)(h7:(rs.getD i Cn.none).kind=7):Calls prog 80 #[v,.int .i64 i] w (x0c w (Cn.pair rs i (rs.getD i Cn.none))):=by
 have z:=(Cn.x1J aB).2;have r:Hid (∀k,k<rs.length->(rs.getD k Cn.none).kind=7->(rs.getD k Cn.none).to.length=2/\Cn.scalar ((rs.getD k Cn.none).to.getD 0 0)=true/\Cn.scalar ((rs.getD k Cn.none).to.getD 1 0)=true/\0<=(rs.getD k Cn.none).lo/\(rs.getD k Cn.none).lo<=1114111):=fun k G e=>Cn.x7X (z _ w8a) e;obtain⟨t1,t2,t3,p1,p2⟩:=V r i hi h7;have d:=x0O t2;have rb:=x0O t3;have L:ChIn w v rs w:=⟨hv,b0r⟩;rw[Cn.z6v];have I:Hid (∀k,k<i->Cn.twin (rs.getD i Cn.none) (rs.getD k Cn.none)=true->(rs.take i).any (Cn.twin (rs.getD i Cn.none))=true):=fun k G h=>Cn.z3p f6J G h;have l:Hid ((∀k,k<i->Cn.twin (rs.getD i Cn.none) (rs.getD k Cn.none)=false)->(rs.take i).any (Cn.twin (rs.getD i Cn.none))=false):=fun h=>Cn.z0J f6J h;have KC:=O (fun W x (t:ChIn w v rs W) (J:Rune x)=>x3m v rs x W t.1 J);have KO:=O (fun W x (t:ChIn w v rs W) (J:Rune x)=>x2I v rs x W t.1 J);have KP:=O (fun W x (t:ChIn w v rs W) (J:Rune x)=>x7L v rs x W t.1 J);have aK:=hv.1;obtain⟨b,ab,M,rfl,aO,aP,hc⟩:=hv.place f6J;have hA:=hc i hi;obtain⟨x0,x1,x2,x3,⟨va,x4,aH⟩,x5,x6,x7⟩:=hA;obtain⟨tb,aN,aM,rfl,aU,aV,y0,y1⟩:=x4C aH t1
 have Y:Hid (∀W k,ChIn w (.slice (some ⟨b,ab,none⟩) rs.length M) rs W->k<rs.length->RecAt W b (ab+k*8) (rs.getD k Cn.none)):=fun W k t G=>by
  obtain⟨b',aL,aJ,he,_,_,h⟩:=t.1.place f6J;simp only[Value.slice.injEq,Option.some.injEq,Addr.mk.injEq,and_true,true_and]at he;obtain⟨⟨rfl,rfl⟩,rfl⟩:=he;exact h k G
 have Z:∀k:Rec,Cn.twin (rs.getD i Cn.none) k=decide (k.kind=7/\k.to.getD 0 0=(rs.getD i Cn.none).to.getD 0 0/\k.to.getD 1 0=(rs.getD i Cn.none).to.getD 1 0):=fun _=>rfl;generalize Cn.twin (rs.getD i Cn.none)=s at *;replace Z:=O Z;generalize(rs.getD i Cn.none).lo=lo,(rs.getD i Cn.none).to.getD 0 0=a,(rs.getD i Cn.none).to.getD 1 0=bb at *;have K1:=O (fun W t=>V KC W lo t ⟨f6J,f6J⟩);have K2:=O (fun W t=>V KC W a t d);have K3:=O (fun W t=>V KO W bb t rb);have K4:=O (fun W t=>V KO W a t d);have K5:=O (fun W t=>V KP W a t d);generalize Cn.cls rs lo=n1,Cn.cls rs a=n2,Cn.opn rs bb=z3,Cn.opn rs a=z4,Cn.prim rs a=pr at *;unfold x6h at K5;generalize((pr.map (·.1)).getD 0)=q1,((pr.map (·.2)).getD 0)=q2,pr.isSome=p5 at *;have B:=O L;obtain⟨aQ,aR⟩:=d;obtain⟨aS,aT⟩:=rb;have i0:(0:Int)<=(i:Int):=f6J;have i1:(i:Int)<rs.length:=f6J;generalize(rs.take i).any s=an at *;show Calls prog 80 _ w (x0c w (y2E n1 n2 z3.length z4.length p5 bb a an));go_enter func80,ntmps80;go_wp2;go_quiet(fail)
 all_goals
  have S:Hid (∀n,ChIn w (.slice (some ⟨b,ab,none⟩) rs.length M) rs (w.drewN n)):=fun n=>(V B).on (x0k ⟨n,rfl⟩);go_wp2_with fail;refine c1m (V K5 _ (V S _)) fun w1 ar=>?_;have Q:=O ((V S _).on ar);go_wp2_with fail;refine c1m (V K1 _ (V Q)) fun w2 aw=>?_;have g:=O ((V Q).on aw);by_cases c1:n1=0
  ·subst c1;go_wp2_with fail;refine c1m (V K2 _ (V g)) fun w3 ay=>?_;have m:=O ((V g).on ay);by_cases c2:n2=0
   ·subst c2;go_wp2_with fail;refine(V K3 _ (V m)).mono ?_;rintro e w4 ⟨u4,rfl,aC,az⟩;obtain⟨o4,s4,rfl,g4,g5⟩:=aC.sk.shape;have o:=O ((V m).on az);by_cases q:0<z3.length
    ·clear K4 Y I l Z r;go_wp2;go_ret;exact⟨x1u (.inr (.inr (.inl q))),(V o).2⟩
    ·go_wp2_with fail;refine(V K4 _ (V o)).mono ?_;rintro e w5 ⟨u5,rfl,aD,aA⟩;obtain⟨o5,s5,rfl,g6,g7⟩:=aD.sk.shape;have u:=O ((V o).on aA);by_cases T:0<z4.length/\p5=false
     ·obtain⟨T,rfl⟩:=T;go_wp2;go_ret;exact⟨x1u (.inr (.inr (.inr (.inl ⟨T,rfl⟩)))),(V u).2⟩
     ·have L9:Hid (0<z4.length->p5=true):=fun h=>by
       cases hp:p5 with
       | true=>rfl
       | false=>exact absurd ⟨h,hp⟩ T
      by_cases c5:bb<128
      ·clear Y I l Z r;by_cases A:0<z4.length
       ·obtain rfl:=V L9 A;exact f8w
       ·clear L9;exact f8w
      ·by_cases c7:a=46
       ·clear Y I l Z r;subst c7;by_cases A:0<z4.length
        ·obtain rfl:=V L9 A;exact v7l
        ·clear L9;exact v7l
       ·have d7:(a==46)=false:=b0f c7;by_cases A:0<z4.length
        ·obtain rfl:=V L9 A;go_wp2;go_loopw[11] (fun C wj=>∃k:Nat,C=.int .i64 k/\k<=i/\(∀j,j<k->s (rs.getD j Cn.none)=false)/\ChIn w (.slice (some ⟨b,ab,none⟩) rs.length M) rs wj) (fun C _=>i-(intOf C).toNat)
         case atStart=>exact V5f
         case round =>
          obtain⟨k,rfl,G,X,L⟩:=hrel;by_cases H:k<i
          ·exact P5x
          ·obtain rfl:k=i:=f6J;have N:=O (V l X);have R:=O L;go_wp2;go_ret;exact⟨y0X q (fun _=>rfl) f6J c7 (V N),(V R).2⟩
        ·clear L9;go_wp2;go_loopw[11] (fun C wj=>∃k:Nat,C=.int .i64 k/\k<=i/\(∀j,j<k->s (rs.getD j Cn.none)=false)/\ChIn w (.slice (some ⟨b,ab,none⟩) rs.length M) rs wj) (fun C _=>i-(intOf C).toNat)
         case atStart=>exact V5f
         case round =>
          obtain⟨k,rfl,G,X,L⟩:=hrel;by_cases H:k<i
          ·exact P5x
          ·obtain rfl:k=i:=f6J;have N:=O (V l X);have R:=O L;go_wp2;go_ret;exact⟨y0X q (fun h=>absurd h A) f6J c7 (V N),(V R).2⟩
   ·have d2:(n2 != 0)=true:=(by simp[c2]);go_wp2;go_ret;exact⟨x1u (.inr (.inl c2)),(V m).2⟩
  ·have d1:(n1 != 0)=true:=(by simp[c1]);go_wp2;go_ret;exact⟨x1u (.inl c1),(V g).2⟩
