/- Lemmas. -/
import Derived.Test.YtkfcabdmkmljjaaGreatDoorH15
import Derived.Deep.QuietTactic
set_option maxHeartbeats 8000000
set_option maxRecDepth 8000
namespace Go.Proofs.YtkfcabdmkmljjaaGreatDoor
open Go.Proofs.Tryz
open Go.RowKit
section
variable{p:Prop}
theorem w4f(h:p:=by
 have r:=O (V G k ae)
 have f:Hid (tw (rs.getD k Cn.none)=false->∀j,j<k+1->tw (rs.getD j Cn.none)=false):=fun h j X=>by
  rcases Nat.lt_or_ge j k with t | t
  ·exact J j t
  ·obtain rfl:j=k:=f6J;exact h
 have hR:=V U _ k o f6J;have u:=V A k f6J;have m:=V Y (rs.getD k Cn.none);have C:=O o;obtain⟨z0,_,_,_,⟨vk,aM,af⟩,_,_,_⟩:=hR;generalize tw (rs.getD k Cn.none)=ty at *;by_cases P:(rs.getD k Cn.none).kind=7
 ·obtain⟨s,f2,f3,_,_⟩:=u P;obtain⟨kb,ai,ag,rfl,aJ,aK,k0,k1⟩:=x4z af s;rw[P]at z0;obtain⟨aq,ar⟩:=x0L f2;obtain⟨aw,az⟩:=x0L f3;generalize(rs.getD k Cn.none).to.getD 0 0=ka,(rs.getD k Cn.none).to.getD 1 0=D at *;have am:(rs.getD k Cn.none).kind=7:=P;generalize(rs.getD k Cn.none).kind=Z at *;by_cases E:ka=a
  ·by_cases N:D=l
   ·have ht:ty=true:=(by rw[m];exact d0t ⟨P,E,N⟩);have B:=O (V r ht);subst E N;go_wp2;go_ret;exact⟨x1r (.inr (.inr (.inr (.inr (.inr (.inr (V B))))))),(V C).2⟩
   ·have c:=O (V f (by rw[m];exact d0f fun h=>N h.2.2));subst E;exact S2w
  ·have c:=O (V f (by rw[m];exact d0f fun h=>E h.2.1));exact S2w
 ·have c:=O (V f (by rw[m];exact d0f fun h=>P h.1));generalize(rs.getD k Cn.none).kind=Z at *;have d1:(Z==7)=false:=b0f P;exact S2w):p:=h
theorem I3V(h:p:=by simp[List.getD,(f6J:k<l.length)]):p:=h
theorem m5F(h:p:=by go_wp2;go_ret;exact⟨x1r (.inr (.inr (.inr (.inr (.inr (.inl rfl)))))),(V d).2⟩):p:=h
theorem g8l(h:p:=by go_wp2;go_ret;exact⟨x1r (.inr (.inr (.inr (.inr (.inl c5))))),(V d).2⟩):p:=h
theorem S2w(h:p:=by
 go_wp2
 go_roundw
 case rel=>exact⟨k+1,g2A,f6J,V c,V C⟩
 case measure=>exact g7W):p:=h
theorem v7K(h:p:=by exact⟨0,rfl,f6J,fun j X=>absurd X (Nat.not_lt_zero _),V d⟩):p:=h
end
namespace Cn
theorem x8n{r}(h:right r=0)(x:r.kind=7):r.to.length=2/\scalar (r.to.getD 0 0)=true/\scalar (r.to.getD 1 0)=true/\0<=r.lo/\r.lo<=1114111:=by
 obtain⟨Z,D,J⟩:=x0C h x;unfold list at J;rw[Bool.and_eq_true]at J;have H:=o0d J.1;have S:r.to.length=2:=f6J;have K:=List.all_eq_true.1 J.2;have L:=o0d D;exact⟨S,K _ (by simp[List.getD,S]),K _ (by simp[List.getD,S]),L.1,L.2.1⟩
def twin(r k:Rec):Bool:=decide (k.kind=7/\k.to.getD 0 0=r.to.getD 0 0/\k.to.getD 1 0=r.to.getD 1 0)
theorem z7E l i r:pair l i r=(!(decide (cls l r.lo≠0)||decide (cls l (r.to.getD 0 0)≠0)||decide (0<(opn l (r.to.getD 1 0)).length)||(decide (0<(opn l (r.to.getD 0 0)).length)&&!(prim l (r.to.getD 0 0)).isSome)||decide (r.to.getD 1 0<128)||decide (r.to.getD 0 0=46))&&!((l.take i).any (twin r))):=by
 have F:∀x:List Int,decide (x≠[])=decide (0<x.length):=fun x=>(by cases x<;>simp);unfold pair;rw[F,F];cases prim l (r.to.getD 0 0)<;>rfl
theorem z4y{l:List Rec}{i k r}(hi:i<=l.length)(G:k<i)(h:twin r (l.getD k none)=true):(l.take i).any (twin r)=true:=by
 rw[List.any_eq_true];exact⟨_,List.mem_take_iff_getElem.2 ⟨k,f6J,rfl⟩,by have e:l.getD k none=l[k]:=I3V;rw[<- e];exact h⟩
theorem z1w{l:List Rec}{i r}(hi:i<=l.length)(h:∀k,k<i->twin r (l.getD k none)=false):(l.take i).any (twin r)=false:=by
 rw[List.any_eq_false];intro x A;obtain⟨k,G,rfl⟩:=List.mem_take_iff_getElem.1 A;have:=h k f6J;rw[(I3V:l.getD k none=l[k])]at this;rw[this];exact Bool.false_ne_true
end Cn
theorem x0L{c}(h:Cn.scalar c=true):Rune c:=by
 have:=o0d h;exact⟨f6J,f6J⟩
theorem x4z{w va zs}(h:Sk .i32 w va zs)(S:zs.length=2):∃b off cap,va=.slice (some ⟨b,off,none⟩) 2 cap/\2<=cap/\cap<=9223372036854775807/\w.cell? ⟨b,off,none⟩=some (.int .i32 (zs.getD 0 0))/\w.cell? ⟨b,off+1,none⟩=some (.int .i32 (zs.getD 1 0)):=by
 obtain⟨b,off,cap,q,Z,D,I⟩:=h.place f6J;exact⟨b,off,cap,by rw[q,S],f6J,f6J,by have R:=I 0 f6J;rw[Nat.add_zero]at R;exact R,I 1 f6J⟩
def y2V(n1 n2:Int)(l3 l4:Nat)(p5:Bool)(bb a:Int)(an:Bool):Bool:=!(decide (n1≠0)||decide (n2≠0)||decide (0<l3)||(decide (0<l4)&&!p5)||decide (bb<128)||decide (a=46))&&!an
theorem x1r{n1 n2 l3 l4 p5 bb a}{an}(h:n1≠0\/n2≠0\/0<l3\/(0<l4/\p5=false)\/bb<128\/a=46\/an=true):Ending.returned (.bool false)=Ending.returned (.bool (y2V n1 n2 l3 l4 p5 bb a an)):=by
 have e:y2V n1 n2 l3 l4 p5 bb a an=false:=by
  unfold y2V;rcases h with h | h | h | ⟨h,rfl⟩ | h | h | h
  ·rw[d0t h];simp
  ·rw[d0t h];simp
  ·rw[d0t h];simp
  ·rw[d0t h];simp
  ·rw[d0t h];simp
  ·rw[d0t h];simp
  ·rw[h];simp
 rw[e]
theorem y1r{l3 l4 p5 bb a an}(J:¬0<l3)(H:0<l4->p5=true)(K:¬bb<128)(y:¬a=46)(x:an=false):Ending.returned (.bool true)=Ending.returned (.bool (y2V 0 0 l3 l4 p5 bb a an)):=by
 have e:y2V 0 0 l3 l4 p5 bb a an=true:=by
  unfold y2V;rw[x,d0f J,d0f K,d0f y];by_cases n:0<l4
  ·rw[H n];simp
  ·rw[d0f n];simp
 rw[e]
theorem y3g v rs i w(hv:Rcs w v rs)(aG:(Cn.check6 rs).2=0)(hi:i<rs.length)(h7:(rs.getD i Cn.none).kind=7):Calls prog 88 #[v,.int .i64 i] w (x0g w (Cn.pair rs i (rs.getD i Cn.none))):=by
 have Q:=(Cn.x1H aG).2;have A:Hid (∀k,k<rs.length->(rs.getD k Cn.none).kind=7->(rs.getD k Cn.none).to.length=2/\Cn.scalar ((rs.getD k Cn.none).to.getD 0 0)=true/\Cn.scalar ((rs.getD k Cn.none).to.getD 1 0)=true/\0<=(rs.getD k Cn.none).lo/\(rs.getD k Cn.none).lo<=1114111):=fun k hk e=>Cn.x8n (Q _ E8Q) e;obtain⟨t1,t2,t3,p1,p2⟩:=V A i hi h7;have g:=x0L t2;have rb:=x0L t3;have o:ChIn w v rs w:=⟨hv,b0r⟩;rw[Cn.z7E];have G:Hid (∀k,k<i->Cn.twin (rs.getD i Cn.none) (rs.getD k Cn.none)=true->(rs.take i).any (Cn.twin (rs.getD i Cn.none))=true):=fun k hk h=>Cn.z4y f6J hk h;have H:Hid ((∀k,k<i->Cn.twin (rs.getD i Cn.none) (rs.getD k Cn.none)=false)->(rs.take i).any (Cn.twin (rs.getD i Cn.none))=false):=fun h=>Cn.z1w f6J h;have KC:=O (fun W x (R:ChIn w v rs W) (hx:Rune x)=>x2T v rs x W R.1 hx);have KO:=O (fun W x (R:ChIn w v rs W) (hx:Rune x)=>x3L v rs x W R.1 hx);have KP:=O (fun W x (R:ChIn w v rs W) (hx:Rune x)=>x8a v rs x W R.1 hx);have aO:=hv.1;obtain⟨b,ab,M,rfl,aS,aT,hc⟩:=hv.place f6J;have hA:=hc i hi;obtain⟨x0,x1,x2,x3,⟨va,x4,aL⟩,x5,x6,x7⟩:=hA;obtain⟨tb,aR,aQ,rfl,aY,aZ,y0,y1⟩:=x4z aL t1
 have U:Hid (∀W k,ChIn w (.slice (some ⟨b,ab,none⟩) rs.length M) rs W->k<rs.length->RecAt W b (ab+k*8) (rs.getD k Cn.none)):=fun W k R hk=>by
  obtain⟨b',aP,aN,he,_,_,h⟩:=R.1.place f6J;simp only[Value.slice.injEq,Option.some.injEq,Addr.mk.injEq,and_true,true_and]at he;obtain⟨⟨rfl,rfl⟩,rfl⟩:=he;exact h k hk
 have Y:∀k:Rec,Cn.twin (rs.getD i Cn.none) k=decide (k.kind=7/\k.to.getD 0 0=(rs.getD i Cn.none).to.getD 0 0/\k.to.getD 1 0=(rs.getD i Cn.none).to.getD 1 0):=fun _=>rfl;generalize Cn.twin (rs.getD i Cn.none)=tw at *;replace Y:=O Y;generalize(rs.getD i Cn.none).lo=lo,(rs.getD i Cn.none).to.getD 0 0=a,(rs.getD i Cn.none).to.getD 1 0=l at *;have K1:=O (fun W R=>V KC W lo R ⟨f6J,f6J⟩);have K2:=O (fun W R=>V KC W a R g);have K3:=O (fun W R=>V KO W l R rb);have K4:=O (fun W R=>V KO W a R g);have K5:=O (fun W R=>V KP W a R g);generalize Cn.cls rs lo=n1,Cn.cls rs a=n2,Cn.opn rs l=z3,Cn.opn rs a=z4,Cn.prim rs a=pr at *;unfold x6r at K5;generalize((pr.map (·.1)).getD 0)=q1,((pr.map (·.2)).getD 0)=q2,pr.isSome=p5 at *;have aj:=O o;obtain⟨aU,aV⟩:=g;obtain⟨aW,aX⟩:=rb;have i0:(0:Int)<=(i:Int):=f6J;have i1:(i:Int)<rs.length:=f6J;generalize(rs.take i).any tw=an at *;show Calls prog 88 _ w (x0g w (y2V n1 n2 z3.length z4.length p5 l a an));go_enter func88,ntmps88;go_wp2;go_quiet(fail)
 all_goals
  have F:Hid (∀n,ChIn w (.slice (some ⟨b,ab,none⟩) rs.length M) rs (w.drewN n)):=fun n=>(V aj).on (x0i ⟨n,rfl⟩);go_wp2_with fail;refine c1m (V K5 _ (V F _)) fun w1 aA=>?_;have p:=O ((V F _).on aA);go_wp2_with fail;refine c1m (V K1 _ (V p)) fun w2 aB=>?_;have T:=O ((V p).on aB);by_cases y:n1=0
  ·subst y;go_wp2_with fail;refine c1m (V K2 _ (V T)) fun w3 aC=>?_;have z:=O ((V T).on aC);by_cases q:n2=0
   ·subst q;go_wp2_with fail;refine(V K3 _ (V z)).mono ?_;rintro e w4 ⟨u4,rfl,aH,aD⟩;obtain⟨o4,s4,rfl,g4,g5⟩:=aH.sk.shape;have K:=O ((V z).on aD);by_cases c3:0<z3.length
    ·clear K4 U G H Y A;go_wp2;go_ret;exact⟨x1r (.inr (.inr (.inl c3))),(V K).2⟩
    ·go_wp2_with fail;refine(V K4 _ (V K)).mono ?_;rintro e w5 ⟨u5,rfl,aI,aF⟩;obtain⟨o5,s5,rfl,g6,g7⟩:=aI.sk.shape;have d:=O ((V K).on aF);by_cases S:0<z4.length/\p5=false
     ·obtain⟨S,rfl⟩:=S;go_wp2;go_ret;exact⟨x1r (.inr (.inr (.inr (.inl ⟨S,rfl⟩)))),(V d).2⟩
     ·have I:Hid (0<z4.length->p5=true):=fun h=>by
       cases hp:p5 with
       | true=>rfl
       | false=>exact absurd ⟨h,hp⟩ S
      by_cases c5:l<128
      ·clear U G H Y A;by_cases c6:0<z4.length
       ·obtain rfl:=V I c6;exact g8l
       ·clear I;exact g8l
      ·by_cases c7:a=46
       ·clear U G H Y A;subst c7;by_cases c6:0<z4.length
        ·obtain rfl:=V I c6;exact m5F
        ·clear I;exact m5F
       ·have d7:(a==46)=false:=b0f c7;by_cases c6:0<z4.length
        ·obtain rfl:=V I c6;go_wp2;go_loopw[11] (fun L wj=>∃k:Nat,L=.int .i64 k/\k<=i/\(∀j,j<k->tw (rs.getD j Cn.none)=false)/\ChIn w (.slice (some ⟨b,ab,none⟩) rs.length M) rs wj) (fun L _=>i-(intOf L).toNat)
         case atStart=>exact v7K
         case round =>
          obtain⟨k,rfl,hk,J,o⟩:=hrel;by_cases ae:k<i
          ·exact w4f
          ·obtain rfl:k=i:=f6J;have B:=O (V H J);have C:=O o;go_wp2;go_ret;exact⟨y1r c3 (fun _=>rfl) f6J c7 (V B),(V C).2⟩
        ·clear I;go_wp2;go_loopw[11] (fun L wj=>∃k:Nat,L=.int .i64 k/\k<=i/\(∀j,j<k->tw (rs.getD j Cn.none)=false)/\ChIn w (.slice (some ⟨b,ab,none⟩) rs.length M) rs wj) (fun L _=>i-(intOf L).toNat)
         case atStart=>exact v7K
         case round =>
          obtain⟨k,rfl,hk,J,o⟩:=hrel;by_cases ae:k<i
          ·exact w4f
          ·obtain rfl:k=i:=f6J;have B:=O (V H J);have C:=O o;go_wp2;go_ret;exact⟨y1r c3 (fun h=>absurd h c6) f6J c7 (V B),(V C).2⟩
   ·have d2:(n2 != 0)=true:=n9f;go_wp2;go_ret;exact⟨x1r (.inr (.inl q)),(V z).2⟩
  ·have d1:(n1 != 0)=true:=(by simp[y]);go_wp2;go_ret;exact⟨x1r (.inl y),(V T).2⟩
