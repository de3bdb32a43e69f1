/- Lemmas. -/
import Derived.Test.YtkfcabdmkmljjaaGreatDoorF15
import Derived.Deep.QuietTactic
set_option maxHeartbeats 8000000
set_option maxRecDepth 8000
namespace Go.Proofs.YtkfcabdmkmljjaaGreatDoor
open Go.Proofs.Tryz
open Go.RowKit
section
variable{p:Prop}
theorem g0q(h:p:=by
 have q:=O (V C k E)
 have f:Hid (tw (rs.getD k Cn.none)=false->∀j,j<k+1->tw (rs.getD j Cn.none)=false):=fun h j R=>i3e
 have hR:=V J _ k G f6J;have hT:=V B k f6J;have y:=V T (rs.getD k Cn.none);have H:=O G;obtain⟨z0,_,_,_,⟨vk,aO,F⟩,_,_,_⟩:=hR;generalize tw (rs.getD k Cn.none)=ty at *;by_cases P:(rs.getD k Cn.none).kind=7
 ·obtain⟨s,f2,r,_,_⟩:=hT P;obtain⟨kb,aq,am,rfl,aL,aM,k0,k1⟩:=x4y F s;rw[P]at z0;obtain⟨aw,ay⟩:=x0R f2;obtain⟨aA,aB⟩:=x0R r;generalize(rs.getD k Cn.none).to.getD 0 0=ka,(rs.getD k Cn.none).to.getD 1 0=ae at *;have ar:(rs.getD k Cn.none).kind=7:=P;generalize(rs.getD k Cn.none).kind=kk at *;by_cases z:ka=a
  ·by_cases N:ae=bb
   ·have ht:ty=true:=(by rw[y];exact d0t ⟨P,z,N⟩);have p:=O (V q ht);subst z N;go_wp2;go_ret;exact⟨x1t (.inr (.inr (.inr (.inr (.inr (.inr (V p))))))),(V H).2⟩
   ·have L:=O (V f (by rw[y];exact d0f fun h=>N h.2.2));subst z;exact v4l
  ·have L:=O (V f (by rw[y];exact d0f fun h=>z h.2.1));exact v4l
 ·have L:=O (V f (by rw[y];exact d0f fun h=>P h.1));generalize(rs.getD k Cn.none).kind=kk at *;have d1:(kk==7)=false:=b0f P;exact v4l):p:=h
theorem I3V(h:p:=by simp[List.getD,(f6J:k<l.length)]):p:=h
theorem n3V(h:p:=by go_wp2;go_ret;exact⟨x1t (.inr (.inr (.inr (.inr (.inr (.inl rfl)))))),(V D).2⟩):p:=h
theorem R3h(h:p:=by go_wp2;go_ret;exact⟨x1t (.inr (.inr (.inr (.inr (.inl c5))))),(V D).2⟩):p:=h
theorem v4l(h:p:=by
 go_wp2
 go_roundw
 case rel=>exact⟨k+1,g2A,f6J,V L,V H⟩
 case measure=>exact g7W):p:=h
theorem e5a(h:p:=by exact⟨0,rfl,f6J,fun j R=>absurd R (Nat.not_lt_zero _),V D⟩):p:=h
end
namespace Cn
theorem x8j{r}(h:right r=0)(y:r.kind=7):r.to.length=2/\scalar (r.to.getD 0 0)=true/\scalar (r.to.getD 1 0)=true/\0<=r.lo/\r.lo<=1114111:=by
 obtain⟨Z,D,J⟩:=x0E h y;unfold list at J;rw[Bool.and_eq_true]at J;have F:=o0d J.1;have S:r.to.length=2:=f6J;have E:=List.all_eq_true.1 J.2;have L:=o0d D;exact⟨S,E _ (by simp[List.getD,S]),E _ (by simp[List.getD,S]),L.1,L.2.1⟩
def twin(r k:Rec):Bool:=decide (k.kind=7/\k.to.getD 0 0=r.to.getD 0 0/\k.to.getD 1 0=r.to.getD 1 0)
theorem z7G l i r:pair l i r=(!(decide (cls l r.lo≠0)||decide (cls l (r.to.getD 0 0)≠0)||decide (0<(opn l (r.to.getD 1 0)).length)||(decide (0<(opn l (r.to.getD 0 0)).length)&&!(prim l (r.to.getD 0 0)).isSome)||decide (r.to.getD 1 0<128)||decide (r.to.getD 0 0=46))&&!((l.take i).any (twin r))):=by
 have F:∀x:List Int,decide (x≠[])=decide (0<x.length):=fun x=>(by cases x<;>simp);unfold pair;rw[F,F];cases prim l (r.to.getD 0 0)<;>rfl
theorem z4A{l:List Rec}{i k r}(hi:i<=l.length)(G:k<i)(h:twin r (l.getD k none)=true):(l.take i).any (twin r)=true:=by
 rw[List.any_eq_true];exact⟨_,List.mem_take_iff_getElem.2 ⟨k,f6J,rfl⟩,by have e:l.getD k none=l[k]:=I3V;rw[<- e];exact h⟩
theorem z1v{l:List Rec}{i r}(hi:i<=l.length)(h:∀k,k<i->twin r (l.getD k none)=false):(l.take i).any (twin r)=false:=by
 rw[List.any_eq_false];intro x A;obtain⟨k,G,rfl⟩:=List.mem_take_iff_getElem.1 A;have:=h k f6J;rw[(I3V:l.getD k none=l[k])]at this;rw[this];exact Bool.false_ne_true
end Cn
theorem x0R{c}(h:Cn.scalar c=true):Rune c:=by
 have:=o0d h;exact⟨f6J,f6J⟩
theorem x4y{w va zs}(h:Sk .i32 w va zs)(S:zs.length=2):∃b off cap,va=.slice (some ⟨b,off,none⟩) 2 cap/\2<=cap/\cap<=9223372036854775807/\w.cell? ⟨b,off,none⟩=some (.int .i32 (zs.getD 0 0))/\w.cell? ⟨b,off+1,none⟩=some (.int .i32 (zs.getD 1 0)):=by
 obtain⟨b,off,cap,s,Z,D,I⟩:=h.place f6J;exact⟨b,off,cap,by rw[s,S],f6J,f6J,by have U:=I 0 f6J;rw[Nat.add_zero]at U;exact U,I 1 f6J⟩
def y2U(n1 n2:Int)(l3 l4:Nat)(p5:Bool)(bb a:Int)(an:Bool):Bool:=!(decide (n1≠0)||decide (n2≠0)||decide (0<l3)||(decide (0<l4)&&!p5)||decide (bb<128)||decide (a=46))&&!an
theorem x1t{n1 n2 l3 l4 p5 bb a}{an}(h:n1≠0\/n2≠0\/0<l3\/(0<l4/\p5=false)\/bb<128\/a=46\/an=true):Ending.returned (.bool false)=Ending.returned (.bool (y2U n1 n2 l3 l4 p5 bb a an)):=by
 have e:y2U n1 n2 l3 l4 p5 bb a an=false:=by
  unfold y2U;rcases h with h | h | h | ⟨h,rfl⟩ | h | h | h
  ·rw[d0t h];simp
  ·rw[d0t h];simp
  ·rw[d0t h];simp
  ·rw[d0t h];simp
  ·rw[d0t h];simp
  ·rw[d0t h];simp
  ·rw[h];simp
 rw[e]
theorem y1r{l3 l4 p5 bb a an}(J:¬0<l3)(F:0<l4->p5=true)(E:¬bb<128)(q:¬a=46)(y:an=false):Ending.returned (.bool true)=Ending.returned (.bool (y2U 0 0 l3 l4 p5 bb a an)):=by
 have e:y2U 0 0 l3 l4 p5 bb a an=true:=by
  unfold y2U;rw[y,d0f J,d0f E,d0f q];by_cases W:0<l4
  ·rw[F W];simp
  ·rw[d0f W];simp
 rw[e]
theorem y3g v rs i w(hv:Rcs w v rs)(aI:(Cn.check6 rs).2=0)(hi:i<rs.length)(h7:(rs.getD i Cn.none).kind=7):Calls prog 88 #[v,.int .i64 i] w (x0g w (Cn.pair rs i (rs.getD i Cn.none))):=by
 have o:=(Cn.x1F aI).2;have B:Hid (∀k,k<rs.length->(rs.getD k Cn.none).kind=7->(rs.getD k Cn.none).to.length=2/\Cn.scalar ((rs.getD k Cn.none).to.getD 0 0)=true/\Cn.scalar ((rs.getD k Cn.none).to.getD 1 0)=true/\0<=(rs.getD k Cn.none).lo/\(rs.getD k Cn.none).lo<=1114111):=fun k hk e=>Cn.x8j (o _ E8Q) e;obtain⟨t1,t2,t3,p1,p2⟩:=V B i hi h7;have d:=x0R t2;have rb:=x0R t3;have G:ChIn w v rs w:=⟨hv,b0r⟩;rw[Cn.z7G];have C:Hid (∀k,k<i->Cn.twin (rs.getD i Cn.none) (rs.getD k Cn.none)=true->(rs.take i).any (Cn.twin (rs.getD i Cn.none))=true):=fun k hk h=>Cn.z4A f6J hk h;have m:Hid ((∀k,k<i->Cn.twin (rs.getD i Cn.none) (rs.getD k Cn.none)=false)->(rs.take i).any (Cn.twin (rs.getD i Cn.none))=false):=fun h=>Cn.z1v f6J h;have KC:=O (fun W x (U:ChIn w v rs W) (A:Rune x)=>x2V v rs x W U.1 A);have KO:=O (fun W x (U:ChIn w v rs W) (A:Rune x)=>x3K v rs x W U.1 A);have KP:=O (fun W x (U:ChIn w v rs W) (A:Rune x)=>x7Y v rs x W U.1 A);have aQ:=hv.1;obtain⟨b,ab,M,rfl,aU,aV,hc⟩:=hv.place f6J;have hA:=hc i hi;obtain⟨x0,x1,x2,x3,⟨va,x4,aN⟩,x5,x6,x7⟩:=hA;obtain⟨tb,aT,aS,rfl,ba,be,y0,y1⟩:=x4y aN t1
 have J:Hid (∀W k,ChIn w (.slice (some ⟨b,ab,none⟩) rs.length M) rs W->k<rs.length->RecAt W b (ab+k*8) (rs.getD k Cn.none)):=fun W k U hk=>by
  obtain⟨b',aR,aP,he,_,_,h⟩:=U.1.place f6J;simp only[Value.slice.injEq,Option.some.injEq,Addr.mk.injEq,and_true,true_and]at he;obtain⟨⟨rfl,rfl⟩,rfl⟩:=he;exact h k hk
 have T:∀k:Rec,Cn.twin (rs.getD i Cn.none) k=decide (k.kind=7/\k.to.getD 0 0=(rs.getD i Cn.none).to.getD 0 0/\k.to.getD 1 0=(rs.getD i Cn.none).to.getD 1 0):=fun _=>rfl;generalize Cn.twin (rs.getD i Cn.none)=tw at *;replace T:=O T;generalize(rs.getD i Cn.none).lo=lo,(rs.getD i Cn.none).to.getD 0 0=a,(rs.getD i Cn.none).to.getD 1 0=bb at *;have K1:=O (fun W U=>V KC W lo U ⟨f6J,f6J⟩);have K2:=O (fun W U=>V KC W a U d);have K3:=O (fun W U=>V KO W bb U rb);have K4:=O (fun W U=>V KO W a U d);have K5:=O (fun W U=>V KP W a U d);generalize Cn.cls rs lo=n1,Cn.cls rs a=n2,Cn.opn rs bb=z3,Cn.opn rs a=z4,Cn.prim rs a=pr at *;unfold x6q at K5;generalize((pr.map (·.1)).getD 0)=q1,((pr.map (·.2)).getD 0)=q2,pr.isSome=p5 at *;have l:=O G;obtain⟨aW,aX⟩:=d;obtain⟨aY,aZ⟩:=rb;have i0:(0:Int)<=(i:Int):=f6J;have i1:(i:Int)<rs.length:=f6J;generalize(rs.take i).any tw=an at *;show Calls prog 88 _ w (x0g w (y2U n1 n2 z3.length z4.length p5 bb a an));go_enter func88,ntmps88;go_wp2;go_quiet(fail)
 all_goals
  have K:Hid (∀n,ChIn w (.slice (some ⟨b,ab,none⟩) rs.length M) rs (w.drewN n)):=fun n=>(V l).on (x0i ⟨n,rfl⟩);go_wp2_with fail;refine c1m (V K5 _ (V K _)) fun w1 aC=>?_;have aj:=O ((V K _).on aC);go_wp2_with fail;refine c1m (V K1 _ (V aj)) fun w2 aD=>?_;have Y:=O ((V aj).on aD);by_cases g:n1=0
  ·subst g;go_wp2_with fail;refine c1m (V K2 _ (V Y)) fun w3 aF=>?_;have t:=O ((V Y).on aF);by_cases Q:n2=0
   ·subst Q;go_wp2_with fail;refine(V K3 _ (V t)).mono ?_;rintro e w4 ⟨u4,rfl,aJ,aG⟩;obtain⟨o4,s4,rfl,g4,g5⟩:=aJ.sk.shape;have Z:=O ((V t).on aG);by_cases u:0<z3.length
    ·clear K4 J C m T B;go_wp2;go_ret;exact⟨x1t (.inr (.inr (.inl u))),(V Z).2⟩
    ·go_wp2_with fail;refine(V K4 _ (V Z)).mono ?_;rintro e w5 ⟨u5,rfl,aK,aH⟩;obtain⟨o5,s5,rfl,g6,g7⟩:=aK.sk.shape;have D:=O ((V Z).on aH);by_cases S:0<z4.length/\p5=false
     ·obtain⟨S,rfl⟩:=S;go_wp2;go_ret;exact⟨x1t (.inr (.inr (.inr (.inl ⟨S,rfl⟩)))),(V D).2⟩
     ·have L9:Hid (0<z4.length->p5=true):=fun h=>by
       cases hp:p5 with
       | true=>rfl
       | false=>exact absurd ⟨h,hp⟩ S
      by_cases c5:bb<128
      ·clear J C m T B;by_cases I:0<z4.length
       ·obtain rfl:=V L9 I;exact R3h
       ·clear L9;exact R3h
      ·by_cases c7:a=46
       ·clear J C m T B;subst c7;by_cases I:0<z4.length
        ·obtain rfl:=V L9 I;exact n3V
        ·clear L9;exact n3V
       ·have d7:(a==46)=false:=b0f c7;by_cases I:0<z4.length
        ·obtain rfl:=V L9 I;go_wp2;go_loopw[11] (fun c wj=>∃k:Nat,c=.int .i64 k/\k<=i/\(∀j,j<k->tw (rs.getD j Cn.none)=false)/\ChIn w (.slice (some ⟨b,ab,none⟩) rs.length M) rs wj) (fun c _=>i-(intOf c).toNat)
         case atStart=>exact e5a
         case round =>
          obtain⟨k,rfl,hk,X,G⟩:=hrel;by_cases E:k<i
          ·exact g0q
          ·obtain rfl:k=i:=f6J;have p:=O (V m X);have H:=O G;go_wp2;go_ret;exact⟨y1r u (fun _=>rfl) f6J c7 (V p),(V H).2⟩
        ·clear L9;go_wp2;go_loopw[11] (fun c wj=>∃k:Nat,c=.int .i64 k/\k<=i/\(∀j,j<k->tw (rs.getD j Cn.none)=false)/\ChIn w (.slice (some ⟨b,ab,none⟩) rs.length M) rs wj) (fun c _=>i-(intOf c).toNat)
         case atStart=>exact e5a
         case round =>
          obtain⟨k,rfl,hk,X,G⟩:=hrel;by_cases E:k<i
          ·exact g0q
          ·obtain rfl:k=i:=f6J;have p:=O (V m X);have H:=O G;go_wp2;go_ret;exact⟨y1r u (fun h=>absurd h I) f6J c7 (V p),(V H).2⟩
   ·have d2:(n2 != 0)=true:=(by simp[Q]);go_wp2;go_ret;exact⟨x1t (.inr (.inl Q)),(V t).2⟩
  ·have d1:(n1 != 0)=true:=P1e;go_wp2;go_ret;exact⟨x1t (.inl g),(V Y).2⟩
