/- Lemmas. -/
import Derived.Test.YtkfcabdmkmljjaaGreatDoorG15
import Derived.Deep.QuietTactic
set_option maxHeartbeats 8000000
set_option maxRecDepth 8000
namespace Go.Proofs.YtkfcabdmkmljjaaGreatDoor
open Go.Proofs.Tryz
open Go.RowKit
section
variable{p:Prop}
theorem r8B(h:p:=by
 have HH:=O (V L k ae)
 have f:Hid (y (rs.getD k Cn.none)=false->∀j,j<k+1->y (rs.getD j Cn.none)=false):=fun h j X=>by
  rcases Nat.lt_or_ge j k with D | D
  ·exact ab j D
  ·obtain rfl:j=k:=f6J;exact h
 have Q:=V H _ k G f6J;have hT:=V U k f6J;have q:=V J (rs.getD k Cn.none);have B:=O G;obtain⟨z0,_,_,_,⟨vk,aJ,af⟩,_,_,_⟩:=Q;generalize y (rs.getD k Cn.none)=ty at *;by_cases t:(rs.getD k Cn.none).kind=7
 ·obtain⟨f1,f2,g,_,_⟩:=hT t;obtain⟨kb,ag,I,rfl,aG,aH,k0,k1⟩:=x4z af f1;rw[t]at z0;obtain⟨F,am⟩:=x0O f2;obtain⟨aq,ar⟩:=x0O g;generalize(rs.getD k Cn.none).to.getD 0 0=ka,(rs.getD k Cn.none).to.getD 1 0=A at *;have aj:(rs.getD k Cn.none).kind=7:=t;generalize(rs.getD k Cn.none).kind=kk at *;by_cases E:ka=a
  ·by_cases N:A=r
   ·have ht:ty=true:=(by rw[q];exact d0t ⟨t,E,N⟩);have s:=O (V HH ht);subst E N;go_wp2;go_ret;exact⟨x1s (.inr (.inr (.inr (.inr (.inr (.inr (V s))))))),(V B).2⟩
   ·have c:=O (V f (by rw[q];exact d0f fun h=>N h.2.2));subst E;exact g5s
  ·have c:=O (V f (by rw[q];exact d0f fun h=>E h.2.1));exact g5s
 ·have c:=O (V f (by rw[q];exact d0f fun h=>t h.1));generalize(rs.getD k Cn.none).kind=kk at *;have d1:(kk==7)=false:=b0f t;exact g5s):p:=h
theorem I3V(h:p:=by simp[List.getD,(f6J:k<l.length)]):p:=h
theorem V5Y(h:p:=by go_wp2;go_ret;exact⟨x1s (.inr (.inr (.inr (.inr (.inr (.inl rfl)))))),(V p).2⟩):p:=h
theorem r8X(h:p:=by go_wp2;go_ret;exact⟨x1s (.inr (.inr (.inr (.inr (.inl c5))))),(V p).2⟩):p:=h
theorem g5s(h:p:=by
 go_wp2
 go_roundw
 case rel=>exact⟨k+1,g2B,f6J,V c,V B⟩
 case measure=>exact g7W):p:=h
theorem g7m(h:p:=by exact⟨0,rfl,f6J,fun j X=>absurd X (Nat.not_lt_zero _),V p⟩):p:=h
end
namespace Cn
theorem x8u{r}(h:right r=0)(y:r.kind=7):r.to.length=2/\scalar (r.to.getD 0 0)=true/\scalar (r.to.getD 1 0)=true/\0<=r.lo/\r.lo<=1114111:=by
 obtain⟨Z,D,J⟩:=x0C h y;unfold list at J;rw[Bool.and_eq_true]at J;have H:=o0d J.1;have S:r.to.length=2:=f6J;have K:=List.all_eq_true.1 J.2;have L:=o0d D;exact⟨S,K _ (by simp[List.getD,S]),K _ (by simp[List.getD,S]),L.1,L.2.1⟩
def twin(r k:Rec):Bool:=decide (k.kind=7/\k.to.getD 0 0=r.to.getD 0 0/\k.to.getD 1 0=r.to.getD 1 0)
theorem z7Y l i r:pair l i r=(!(decide (cls l r.lo≠0)||decide (cls l (r.to.getD 0 0)≠0)||decide (0<(opn l (r.to.getD 1 0)).length)||(decide (0<(opn l (r.to.getD 0 0)).length)&&!(prim l (r.to.getD 0 0)).isSome)||decide (r.to.getD 1 0<128)||decide (r.to.getD 0 0=46))&&!((l.take i).any (twin r))):=by
 have F:∀x:List Int,decide (x≠[])=decide (0<x.length):=fun x=>(by cases x<;>simp);unfold pair;rw[F,F];cases prim l (r.to.getD 0 0)<;>rfl
theorem z4N{l:List Rec}{i k r}(hi:i<=l.length)(G:k<i)(h:twin r (l.getD k none)=true):(l.take i).any (twin r)=true:=by
 rw[List.any_eq_true];exact⟨_,List.mem_take_iff_getElem.2 ⟨k,f6J,rfl⟩,by have e:l.getD k none=l[k]:=I3V;rw[<- e];exact h⟩
theorem z1I{l:List Rec}{i r}(hi:i<=l.length)(h:∀k,k<i->twin r (l.getD k none)=false):(l.take i).any (twin r)=false:=by
 rw[List.any_eq_false];intro x A;obtain⟨k,G,rfl⟩:=List.mem_take_iff_getElem.1 A;have:=h k f6J;rw[(I3V:l.getD k none=l[k])]at this;rw[this];exact Bool.false_ne_true
end Cn
theorem x0O{c}(h:Cn.scalar c=true):Rune c:=by
 have:=o0d h;exact⟨f6J,f6J⟩
theorem x4z{w va zs}(h:Sk .i32 w va zs)(S:zs.length=2):∃b off cap,va=.slice (some ⟨b,off,none⟩) 2 cap/\2<=cap/\cap<=9223372036854775807/\w.cell? ⟨b,off,none⟩=some (.int .i32 (zs.getD 0 0))/\w.cell? ⟨b,off+1,none⟩=some (.int .i32 (zs.getD 1 0)):=by
 obtain⟨b,off,cap,P,Z,D,I⟩:=h.place f6J;exact⟨b,off,cap,by rw[P,S],f6J,f6J,by have R:=I 0 f6J;rw[Nat.add_zero]at R;exact R,I 1 f6J⟩
def y3i(n1 n2:Int)(l3 l4:Nat)(p5:Bool)(bb a:Int)(an:Bool):Bool:=!(decide (n1≠0)||decide (n2≠0)||decide (0<l3)||(decide (0<l4)&&!p5)||decide (bb<128)||decide (a=46))&&!an
theorem x1s{n1 n2 l3 l4 p5 bb a}{an}(h:n1≠0\/n2≠0\/0<l3\/(0<l4/\p5=false)\/bb<128\/a=46\/an=true):Ending.returned (.bool false)=Ending.returned (.bool (y3i n1 n2 l3 l4 p5 bb a an)):=by
 have e:y3i n1 n2 l3 l4 p5 bb a an=false:=by
  unfold y3i;rcases h with h | h | h | ⟨h,rfl⟩ | h | h | h
  ·rw[d0t h];simp
  ·rw[d0t h];simp
  ·rw[d0t h];simp
  ·rw[d0t h];simp
  ·rw[d0t h];simp
  ·rw[d0t h];simp
  ·rw[h];simp
 rw[e]
theorem y1D{l3 l4 p5 bb a an}(J:¬0<l3)(H:0<l4->p5=true)(K:¬bb<128)(q:¬a=46)(y:an=false):Ending.returned (.bool true)=Ending.returned (.bool (y3i 0 0 l3 l4 p5 bb a an)):=by
 have e:y3i 0 0 l3 l4 p5 bb a an=true:=by
  unfold y3i;rw[y,d0f J,d0f K,d0f q];by_cases W:0<l4
  ·rw[H W];simp
  ·rw[d0f W];simp
 rw[e]
theorem y3t v rs i w(hv:Rcs w v rs)(aC:(Cn.check6 rs).2=0)(hi:i<rs.length)(h7:(rs.getD i Cn.none).kind=7):Calls prog 88 #[v,.int .i64 i] w (x0g w (Cn.pair rs i (rs.getD i Cn.none))):=by
 have z:=(Cn.x1G aC).2;have U:Hid (∀k,k<rs.length->(rs.getD k Cn.none).kind=7->(rs.getD k Cn.none).to.length=2/\Cn.scalar ((rs.getD k Cn.none).to.getD 0 0)=true/\Cn.scalar ((rs.getD k Cn.none).to.getD 1 0)=true/\0<=(rs.getD k Cn.none).lo/\(rs.getD k Cn.none).lo<=1114111):=fun k hk e=>Cn.x8u (z _ E8S) e;obtain⟨t1,t2,t3,p1,p2⟩:=V U i hi h7;have ra:=x0O t2;have rb:=x0O t3;have G:ChIn w v rs w:=⟨hv,b0r⟩;rw[Cn.z7Y];have L:Hid (∀k,k<i->Cn.twin (rs.getD i Cn.none) (rs.getD k Cn.none)=true->(rs.take i).any (Cn.twin (rs.getD i Cn.none))=true):=fun k hk h=>Cn.z4N f6J hk h;have l:Hid ((∀k,k<i->Cn.twin (rs.getD i Cn.none) (rs.getD k Cn.none)=false)->(rs.take i).any (Cn.twin (rs.getD i Cn.none))=false):=fun h=>Cn.z1I f6J h;have KC:=O (fun W x (P:ChIn w v rs W) (hx:Rune x)=>x2Q v rs x W P.1 hx);have KO:=O (fun W x (P:ChIn w v rs W) (hx:Rune x)=>x3J v rs x W P.1 hx);have KP:=O (fun W x (P:ChIn w v rs W) (hx:Rune x)=>x8i v rs x W P.1 hx);have aL:=hv.1;obtain⟨b,R,M,rfl,aP,aQ,hc⟩:=hv.place f6J;have hA:=hc i hi;obtain⟨x0,x1,x2,x3,⟨va,x4,aI⟩,x5,x6,x7⟩:=hA;obtain⟨tb,aO,aN,rfl,aV,aW,y0,y1⟩:=x4z aI t1
 have H:Hid (∀W k,ChIn w (.slice (some ⟨b,R,none⟩) rs.length M) rs W->k<rs.length->RecAt W b (R+k*8) (rs.getD k Cn.none)):=fun W k P hk=>by
  obtain⟨b',aM,aK,he,_,_,h⟩:=P.1.place f6J;simp only[Value.slice.injEq,Option.some.injEq,Addr.mk.injEq,and_true,true_and]at he;obtain⟨⟨rfl,rfl⟩,rfl⟩:=he;exact h k hk
 have J:∀k:Rec,Cn.twin (rs.getD i Cn.none) k=decide (k.kind=7/\k.to.getD 0 0=(rs.getD i Cn.none).to.getD 0 0/\k.to.getD 1 0=(rs.getD i Cn.none).to.getD 1 0):=fun _=>rfl;generalize Cn.twin (rs.getD i Cn.none)=y at *;replace J:=O J;generalize(rs.getD i Cn.none).lo=lo,(rs.getD i Cn.none).to.getD 0 0=a,(rs.getD i Cn.none).to.getD 1 0=r at *;have K1:=O (fun W P=>V KC W lo P ⟨f6J,f6J⟩);have K2:=O (fun W P=>V KC W a P ra);have K3:=O (fun W P=>V KO W r P rb);have K4:=O (fun W P=>V KO W a P ra);have K5:=O (fun W P=>V KP W a P ra);generalize Cn.cls rs lo=n1,Cn.cls rs a=n2,Cn.opn rs r=z3,Cn.opn rs a=z4,Cn.prim rs a=pr at *;unfold x6u at K5;generalize((pr.map (·.1)).getD 0)=q1,((pr.map (·.2)).getD 0)=q2,pr.isSome=T at *;have ai:=O G;obtain⟨aR,aS⟩:=ra;obtain⟨aT,aU⟩:=rb;have i0:(0:Int)<=(i:Int):=f6J;have i1:(i:Int)<rs.length:=f6J;generalize(rs.take i).any y=an at *;show Calls prog 88 _ w (x0g w (y3i n1 n2 z3.length z4.length T r a an));go_enter func88,ntmps88;go_wp2;go_quiet(fail)
 all_goals
  have o:Hid (∀n,ChIn w (.slice (some ⟨b,R,none⟩) rs.length M) rs (w.drewN n)):=fun n=>(V ai).on (x0i ⟨n,rfl⟩);go_wp2_with fail;refine c1m (V K5 _ (V o _)) fun w1 aw=>?_;have Z:=O ((V o _).on aw);go_wp2_with fail;refine c1m (V K1 _ (V Z)) fun w2 ay=>?_;have Y:=O ((V Z).on ay);by_cases c1:n1=0
  ·subst c1;go_wp2_with fail;refine c1m (V K2 _ (V Y)) fun w3 az=>?_;have d:=O ((V Y).on az);by_cases K:n2=0
   ·subst K;go_wp2_with fail;refine(V K3 _ (V d)).mono ?_;rintro e w4 ⟨u4,rfl,aD,aA⟩;obtain⟨o4,s4,rfl,g4,g5⟩:=aD.sk.shape;have u:=O ((V d).on aA);by_cases S:0<z3.length
    ·clear K4 H L l J U;go_wp2;go_ret;exact⟨x1s (.inr (.inr (.inl S))),(V u).2⟩
    ·go_wp2_with fail;refine(V K4 _ (V u)).mono ?_;rintro e w5 ⟨u5,rfl,aF,aB⟩;obtain⟨o5,s5,rfl,g6,g7⟩:=aF.sk.shape;have p:=O ((V u).on aB);by_cases c4:0<z4.length/\T=false
     ·obtain⟨c4,rfl⟩:=c4;go_wp2;go_ret;exact⟨x1s (.inr (.inr (.inr (.inl ⟨c4,rfl⟩)))),(V p).2⟩
     ·have L9:Hid (0<z4.length->T=true):=fun h=>by
       cases hp:T with
       | true=>rfl
       | false=>exact absurd ⟨h,hp⟩ c4
      by_cases c5:r<128
      ·clear H L l J U;by_cases m:0<z4.length
       ·obtain rfl:=V L9 m;exact r8X
       ·clear L9;exact r8X
      ·by_cases c7:a=46
       ·clear H L l J U;subst c7;by_cases m:0<z4.length
        ·obtain rfl:=V L9 m;exact V5Y
        ·clear L9;exact V5Y
       ·have d7:(a==46)=false:=b0f c7;by_cases m:0<z4.length
        ·obtain rfl:=V L9 m;go_wp2;go_loopw[11] (fun C wj=>∃k:Nat,C=.int .i64 k/\k<=i/\(∀j,j<k->y (rs.getD j Cn.none)=false)/\ChIn w (.slice (some ⟨b,R,none⟩) rs.length M) rs wj) (fun C _=>i-(intOf C).toNat)
         case atStart=>exact g7m
         case round =>
          obtain⟨k,rfl,hk,ab,G⟩:=hrel;by_cases ae:k<i
          ·exact r8B
          ·obtain rfl:k=i:=f6J;have s:=O (V l ab);have B:=O G;go_wp2;go_ret;exact⟨y1D S (fun _=>rfl) f6J c7 (V s),(V B).2⟩
        ·clear L9;go_wp2;go_loopw[11] (fun C wj=>∃k:Nat,C=.int .i64 k/\k<=i/\(∀j,j<k->y (rs.getD j Cn.none)=false)/\ChIn w (.slice (some ⟨b,R,none⟩) rs.length M) rs wj) (fun C _=>i-(intOf C).toNat)
         case atStart=>exact g7m
         case round =>
          obtain⟨k,rfl,hk,ab,G⟩:=hrel;by_cases ae:k<i
          ·exact r8B
          ·obtain rfl:k=i:=f6J;have s:=O (V l ab);have B:=O G;go_wp2;go_ret;exact⟨y1D S (fun h=>absurd h m) f6J c7 (V s),(V B).2⟩
   ·have d2:(n2 != 0)=true:=(by simp[K]);go_wp2;go_ret;exact⟨x1s (.inr (.inl K)),(V d).2⟩
  ·have d1:(n1 != 0)=true:=(by simp[c1]);go_wp2;go_ret;exact⟨x1s (.inl c1),(V Y).2⟩
