/- Rx7 -/
import Derived.Test.YtbmckadcjdedcaaGreatDoorD18
import Derived.Deep.QuietTactic
set_option maxHeartbeats 8000000
set_option maxRecDepth 8000
namespace Go.Proofs.YtbmckadcjdedcaaGreatDoor
open Go.Proofs.Tryz
open Go.RowKit
section
variable{p:Prop}
theorem W9t(h:p:=by
 have c:=O (V C k H)
 have HN:Hid (D (rs.getD k Cn.none)=false->∀j,j<k+1->D (rs.getD j Cn.none)=false):=fun h j K=>N8P
 have X:=V T _ k A f6J;have r:=V ab k f6J;have hw:=V Z (rs.getD k Cn.none);have F:=O A;obtain⟨z0,_,_,_,⟨vk,aM,af⟩,_,_,_⟩:=X;generalize D (rs.getD k Cn.none)=ty at *;by_cases N:(rs.getD k Cn.none).kind=7
 ·obtain⟨f1,f2,u,_,_⟩:=r N;obtain⟨kb,aj,ai,rfl,aJ,aK,k0,k1⟩:=x4x af f1;rw[N]at z0;obtain⟨ar,aw⟩:=x0N f2;obtain⟨ay,az⟩:=x0N u;generalize(rs.getD k Cn.none).to.getD 0 0=ka,(rs.getD k Cn.none).to.getD 1 0=ae at *;have aq:(rs.getD k Cn.none).kind=7:=N;generalize(rs.getD k Cn.none).kind=Y at *;by_cases f:ka=a
  ·by_cases E:ae=l
   ·have ht:ty=true:=(by rw[hw];exact d0t ⟨N,f,E⟩);have q:=O (V c ht);subst f E;go_wp2;go_ret;exact⟨x1u (.inr (.inr (.inr (.inr (.inr (.inr (V q))))))),(V F).2⟩
   ·have U:=O (V HN (by rw[hw];exact d0f fun h=>E h.2.2));subst f;exact f1C
  ·have U:=O (V HN (by rw[hw];exact d0f fun h=>f h.2.1));exact f1C
 ·have U:=O (V HN (by rw[hw];exact d0f fun h=>N h.1));generalize(rs.getD k Cn.none).kind=Y at *;have d1:(Y==7)=false:=b0f N;exact f1C):p:=h
theorem I3V(h:p:=by simp[List.getD,(f6J:k<l.length)]):p:=h
theorem w6U(h:p:=by go_wp2;go_ret;exact⟨x1u (.inr (.inr (.inr (.inr (.inr (.inl rfl)))))),(V R).2⟩):p:=h
theorem f1C(h:p:=by
 go_wp2
 go_roundw
 case rel=>exact⟨k+1,g2A,f6J,V U,V F⟩
 case measure=>exact g7V):p:=h
theorem S5u(h:p:=by go_wp2;go_ret;exact⟨x1u (.inr (.inr (.inr (.inr (.inl c5))))),(V R).2⟩):p:=h
theorem N9b(h:p:=by exact⟨0,rfl,f6J,fun j K=>absurd K (Nat.not_lt_zero _),V R⟩):p:=h
end
namespace Cn
theorem x7P{r:Rec}(h:right r=0)(x:r.kind=7):r.to.length=2/\scalar (r.to.getD 0 0)=true/\scalar (r.to.getD 1 0)=true/\0<=r.lo/\r.lo<=1114111:=by
 obtain⟨D,Z,R⟩:=x0A h x;unfold list at R;rw[Bool.and_eq_true]at R;have H:=o0d R.1;have S:r.to.length=2:=f6J;have p:=List.all_eq_true.1 R.2;have X:=o0d Z;exact⟨S,p _ (by simp[List.getD,S]),p _ (by simp[List.getD,S]),X.1,X.2.1⟩
def twin(r k:Rec):Bool:=decide (k.kind=7/\k.to.getD 0 0=r.to.getD 0 0/\k.to.getD 1 0=r.to.getD 1 0)
theorem z5M(l:List Rec)(i:Nat)(r:Rec):pair l i r=(!(decide (cls l r.lo≠0)||decide (cls l (r.to.getD 0 0)≠0)||decide (0<(opn l (r.to.getD 1 0)).length)||(decide (0<(opn l (r.to.getD 0 0)).length)&&!(prim l (r.to.getD 0 0)).isSome)||decide (r.to.getD 1 0<128)||decide (r.to.getD 0 0=46))&&!((l.take i).any (twin r))):=by
 have E:∀x:List Int,decide (x≠[])=decide (0<x.length):=fun x=>(by cases x<;>simp);unfold pair;rw[E,E];cases prim l (r.to.getD 0 0)<;>rfl
theorem z2J{l:List Rec}{i k:Nat}{r:Rec}(hi:i<=l.length)(G:k<i)(h:twin r (l.getD k none)=true):(l.take i).any (twin r)=true:=by
 rw[List.any_eq_true];exact⟨_,List.mem_take_iff_getElem.2 ⟨k,f6J,rfl⟩,by have e:l.getD k none=l[k]:=I3V;rw[<- e];exact h⟩
theorem z0j{l:List Rec}{i:Nat}{r:Rec}(hi:i<=l.length)(h:∀k,k<i->twin r (l.getD k none)=false):(l.take i).any (twin r)=false:=by
 rw[List.any_eq_false];intro x J;obtain⟨k,G,rfl⟩:=List.mem_take_iff_getElem.1 J;have:=h k f6J;rw[(I3V:l.getD k none=l[k])]at this;rw[this];exact Bool.false_ne_true
end Cn
theorem x0N{c:Int}(h:Cn.scalar c=true):Rune c:=by
 have:=o0d h;exact⟨f6J,f6J⟩
theorem x4x{w:World}{y:Value}{zs:List Int}(h:Sk .i32 w y zs)(S:zs.length=2):∃b off cap,y=.slice (some ⟨b,off,none⟩) 2 cap/\2<=cap/\cap<=9223372036854775807/\w.cell? ⟨b,off,none⟩=some (.int .i32 (zs.getD 0 0))/\w.cell? ⟨b,off+1,none⟩=some (.int .i32 (zs.getD 1 0)):=by
 obtain⟨b,off,cap,q,D,Z,I⟩:=h.place f6J;exact⟨b,off,cap,by rw[q,S],f6J,f6J,by have T:=I 0 f6J;rw[Nat.add_zero]at T;exact T,I 1 f6J⟩
def y2m(n1 n2:Int)(l3 l4:Nat)(p5:Bool)(bb a:Int)(an:Bool):Bool:=!(decide (n1≠0)||decide (n2≠0)||decide (0<l3)||(decide (0<l4)&&!p5)||decide (bb<128)||decide (a=46))&&!an
theorem x1u{t E:Int}{g T:Nat}{y:Bool}{l a:Int}{A:Bool}(h:t≠0\/E≠0\/0<g\/(0<T/\y=false)\/l<128\/a=46\/A=true):Ending.returned (.bool false)=Ending.returned (.bool (y2m t E g T y l a A)):=by
 have e:y2m t E g T y l a A=false:=by
  unfold y2m;rcases h with h | h | h | ⟨h,rfl⟩ | h | h | h
  ·rw[d0t h];simp
  ·rw[d0t h];simp
  ·rw[d0t h];simp
  ·rw[d0t h];simp
  ·rw[d0t h];simp
  ·rw[d0t h];simp
  ·rw[h];simp
 rw[e]
theorem y0J{g T:Nat}{y:Bool}{l a:Int}{A:Bool}(R:¬0<g)(H:0<T->y=true)(p:¬l<128)(F:¬a=46)(x:A=false):Ending.returned (.bool true)=Ending.returned (.bool (y2m 0 0 g T y l a A)):=by
 have e:y2m 0 0 g T y l a A=true:=by
  unfold y2m;rw[x,d0f R,d0f p,d0f F];by_cases L:0<T
  ·rw[H L];simp
  ·rw[d0f L];simp
 rw[e]
theorem y2w(v:Value)(rs:List Rec)(i:Nat)(w:World)(hv:Rcs w v rs)(aG:(Cn.check6 rs).2=0)(hi:i<rs.length)(h7:(rs.getD i Cn.none).kind=7):Calls prog 80 #[v,.int .i64 i] w (x0c w (Cn.pair rs i (rs.getD i Cn.none))):=by
 have S:=(Cn.x1I aG).2;have ab:Hid (∀k,k<rs.length->(rs.getD k Cn.none).kind=7->(rs.getD k Cn.none).to.length=2/\Cn.scalar ((rs.getD k Cn.none).to.getD 0 0)=true/\Cn.scalar ((rs.getD k Cn.none).to.getD 1 0)=true/\0<=(rs.getD k Cn.none).lo/\(rs.getD k Cn.none).lo<=1114111):=fun k G e=>Cn.x7P (S _ w8a) e;obtain⟨t1,t2,t3,p1,p2⟩:=V ab i hi h7;have d:=x0N t2;have rb:=x0N t3;have A:ChIn w v rs w:=⟨hv,b0r⟩;rw[Cn.z5M];have C:Hid (∀k,k<i->Cn.twin (rs.getD i Cn.none) (rs.getD k Cn.none)=true->(rs.take i).any (Cn.twin (rs.getD i Cn.none))=true):=fun k G h=>Cn.z2J f6J G h;have m:Hid ((∀k,k<i->Cn.twin (rs.getD i Cn.none) (rs.getD k Cn.none)=false)->(rs.take i).any (Cn.twin (rs.getD i Cn.none))=false):=fun h=>Cn.z0j f6J h;have KC:=O (fun W x (t:ChIn w v rs W) (J:Rune x)=>x3f v rs x W t.1 J);have KO:=O (fun W x (t:ChIn w v rs W) (J:Rune x)=>x2B v rs x W t.1 J);have KP:=O (fun W x (t:ChIn w v rs W) (J:Rune x)=>x7D v rs x W t.1 J);have aO:=hv.1;obtain⟨b,P,M,rfl,aS,aT,hc⟩:=hv.place f6J;have hA:=hc i hi;obtain⟨x0,x1,x2,x3,⟨va,x4,aL⟩,x5,x6,x7⟩:=hA;obtain⟨tb,aR,aQ,rfl,aY,aZ,y0,y1⟩:=x4x aL t1
 have T:Hid (∀W k,ChIn w (.slice (some ⟨b,P,none⟩) rs.length M) rs W->k<rs.length->RecAt W b (P+k*8) (rs.getD k Cn.none)):=fun W k t G=>by
  obtain⟨b',aP,aN,he,_,_,h⟩:=t.1.place f6J;simp only[Value.slice.injEq,Option.some.injEq,Addr.mk.injEq,and_true,true_and]at he;obtain⟨⟨rfl,rfl⟩,rfl⟩:=he;exact h k G
 have Z:∀k:Rec,Cn.twin (rs.getD i Cn.none) k=decide (k.kind=7/\k.to.getD 0 0=(rs.getD i Cn.none).to.getD 0 0/\k.to.getD 1 0=(rs.getD i Cn.none).to.getD 1 0):=fun _=>rfl;generalize Cn.twin (rs.getD i Cn.none)=D at *;replace Z:=O Z;generalize(rs.getD i Cn.none).lo=lo,(rs.getD i Cn.none).to.getD 0 0=a,(rs.getD i Cn.none).to.getD 1 0=l at *;have K1:=O (fun W t=>V KC W lo t ⟨f6J,f6J⟩);have K2:=O (fun W t=>V KC W a t d);have K3:=O (fun W t=>V KO W l t rb);have K4:=O (fun W t=>V KO W a t d);have K5:=O (fun W t=>V KP W a t d);generalize Cn.cls rs lo=n1,Cn.cls rs a=n2,Cn.opn rs l=z3,Cn.opn rs a=z4,Cn.prim rs a=pr at *;unfold x6c at K5;generalize((pr.map (·.1)).getD 0)=q1,((pr.map (·.2)).getD 0)=q2,pr.isSome=y at *;have am:=O A;obtain⟨aU,aV⟩:=d;obtain⟨aW,aX⟩:=rb;have i0:(0:Int)<=(i:Int):=f6J;have i1:(i:Int)<rs.length:=f6J;generalize(rs.take i).any D=an at *;show Calls prog 80 _ w (x0c w (y2m n1 n2 z3.length z4.length y l a an));go_enter func80,ntmps80;go_wp2;go_quiet(fail)
 all_goals
  have g:Hid (∀n,ChIn w (.slice (some ⟨b,P,none⟩) rs.length M) rs (w.drewN n)):=fun n=>(V am).on (x0k ⟨n,rfl⟩);go_wp2_with fail;refine c1m (V K5 _ (V g _)) fun w1 aA=>?_;have ag:=O ((V g _).on aA);go_wp2_with fail;refine c1m (V K1 _ (V ag)) fun w2 aB=>?_;have p:=O ((V ag).on aB);by_cases o:n1=0
  ·subst o;go_wp2_with fail;refine c1m (V K2 _ (V p)) fun w3 aC=>?_;have B:=O ((V p).on aC);by_cases z:n2=0
   ·subst z;go_wp2_with fail;refine(V K3 _ (V B)).mono ?_;rintro e w4 ⟨u4,rfl,aH,aD⟩;obtain⟨o4,s4,rfl,g4,g5⟩:=aH.sk.shape;have Q:=O ((V B).on aD);by_cases s:0<z3.length
    ·clear K4 T C m Z ab;go_wp2;go_ret;exact⟨x1u (.inr (.inr (.inl s))),(V Q).2⟩
    ·go_wp2_with fail;refine(V K4 _ (V Q)).mono ?_;rintro e w5 ⟨u5,rfl,aI,aF⟩;obtain⟨o5,s5,rfl,g6,g7⟩:=aI.sk.shape;have R:=O ((V Q).on aF);by_cases c4:0<z4.length/\y=false
     ·obtain⟨c4,rfl⟩:=c4;go_wp2;go_ret;exact⟨x1u (.inr (.inr (.inr (.inl ⟨c4,rfl⟩)))),(V R).2⟩
     ·have L9:Hid (0<z4.length->y=true):=fun h=>by
       cases hp:y with
       | true=>rfl
       | false=>exact absurd ⟨h,hp⟩ c4
      by_cases c5:l<128
      ·clear T C m Z ab;by_cases c6:0<z4.length
       ·obtain rfl:=V L9 c6;exact S5u
       ·clear L9;exact S5u
      ·by_cases c7:a=46
       ·clear T C m Z ab;subst c7;by_cases c6:0<z4.length
        ·obtain rfl:=V L9 c6;exact w6U
        ·clear L9;exact w6U
       ·have d7:(a==46)=false:=b0f c7;by_cases c6:0<z4.length
        ·obtain rfl:=V L9 c6;go_wp2;go_loopw[11] (fun I wj=>∃k:Nat,I=.int .i64 k/\k<=i/\(∀j,j<k->D (rs.getD j Cn.none)=false)/\ChIn w (.slice (some ⟨b,P,none⟩) rs.length M) rs wj) (fun I _=>i-(intOf I).toNat)
         case atStart=>exact N9b
         case round =>
          obtain⟨k,rfl,G,L,A⟩:=hrel;by_cases H:k<i
          ·exact W9t
          ·obtain rfl:k=i:=f6J;have q:=O (V m L);have F:=O A;go_wp2;go_ret;exact⟨y0J s (fun _=>rfl) f6J c7 (V q),(V F).2⟩
        ·clear L9;go_wp2;go_loopw[11] (fun I wj=>∃k:Nat,I=.int .i64 k/\k<=i/\(∀j,j<k->D (rs.getD j Cn.none)=false)/\ChIn w (.slice (some ⟨b,P,none⟩) rs.length M) rs wj) (fun I _=>i-(intOf I).toNat)
         case atStart=>exact N9b
         case round =>
          obtain⟨k,rfl,G,L,A⟩:=hrel;by_cases H:k<i
          ·exact W9t
          ·obtain rfl:k=i:=f6J;have q:=O (V m L);have F:=O A;go_wp2;go_ret;exact⟨y0J s (fun h=>absurd h c6) f6J c7 (V q),(V F).2⟩
   ·have d2:(n2 != 0)=true:=(by simp[z]);go_wp2;go_ret;exact⟨x1u (.inr (.inl z)),(V B).2⟩
  ·have d1:(n1 != 0)=true:=(by simp[o]);go_wp2;go_ret;exact⟨x1u (.inl o),(V p).2⟩
