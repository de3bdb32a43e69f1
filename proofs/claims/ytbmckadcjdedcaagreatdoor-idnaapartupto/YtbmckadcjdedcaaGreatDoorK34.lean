/- Lemmas. -/
import Derived.Test.YtbmckadcjdedcaaGreatDoorK18
import Derived.Deep.QuietTactic
set_option maxHeartbeats 8000000
set_option maxRecDepth 8000
namespace Go.Proofs.YtbmckadcjdedcaaGreatDoor
open Go.Proofs.Tryz
open Go.RowKit
section
variable{p:Prop}
theorem P7k(h:p:=by
 have t:=O (V ab k H)
 have HN:Hid (m (rs.getD k Cn.none)=false->∀j,j<k+1->m (rs.getD j Cn.none)=false):=fun h j K=>by
  rcases Nat.lt_or_ge j k with h' | h'
  ·exact p j h'
  ·obtain rfl:j=k:=f6J;exact h
 have X:=V F _ k A f6J;have hT:=V d k f6J;have q:=V L (rs.getD k Cn.none);have B:=O A;obtain⟨z0,_,_,_,⟨vk,aI,y⟩,_,_,_⟩:=X;generalize m (rs.getD k Cn.none)=ty at *;by_cases P:(rs.getD k Cn.none).kind=7
 ·obtain⟨f1,f2,g,_,_⟩:=hT P;obtain⟨kb,af,C,rfl,aF,aG,k0,k1⟩:=x4D y f1;rw[P]at z0;obtain⟨ai,aj⟩:=x0Q f2;obtain⟨am,aq⟩:=x0Q g;generalize(rs.getD k Cn.none).to.getD 0 0=ka,(rs.getD k Cn.none).to.getD 1 0=r at *;have ag:(rs.getD k Cn.none).kind=7:=P;generalize(rs.getD k Cn.none).kind=Q at *;by_cases f:ka=a
  ·by_cases J:r=N
   ·have ht:ty=true:=(by rw[q];exact d0t ⟨P,f,J⟩);have o:=O (V t ht);subst f J;go_wp2;go_ret;exact⟨x1u (.inr (.inr (.inr (.inr (.inr (.inr (V o))))))),(V B).2⟩
   ·have c:=O (V HN (by rw[q];exact d0f fun h=>J h.2.2));subst f;exact s3l
  ·have c:=O (V HN (by rw[q];exact d0f fun h=>f h.2.1));exact s3l
 ·have c:=O (V HN (by rw[q];exact d0f fun h=>P h.1));generalize(rs.getD k Cn.none).kind=Q at *;have d1:(Q==7)=false:=b0f P;exact s3l):p:=h
theorem I3V(h:p:=by simp[List.getD,(f6J:k<l.length)]):p:=h
theorem w6U(h:p:=by go_wp2;go_ret;exact⟨x1u (.inr (.inr (.inr (.inr (.inr (.inl rfl)))))),(V R).2⟩):p:=h
theorem S5u(h:p:=by go_wp2;go_ret;exact⟨x1u (.inr (.inr (.inr (.inr (.inl c5))))),(V R).2⟩):p:=h
theorem s3l(h:p:=by
 go_wp2
 go_roundw
 case rel=>exact⟨k+1,g2A,f6J,V c,V B⟩
 case measure=>exact g7V):p:=h
theorem N9b(h:p:=by exact⟨0,rfl,f6J,fun j K=>absurd K (Nat.not_lt_zero _),V R⟩):p:=h
end
namespace Cn
theorem x7V{r}(h:right r=0)(F:r.kind=7):r.to.length=2/\scalar (r.to.getD 0 0)=true/\scalar (r.to.getD 1 0)=true/\0<=r.lo/\r.lo<=1114111:=by
 obtain⟨Z,D,R⟩:=x0A h F;unfold list at R;rw[Bool.and_eq_true]at R;have z:=o0d R.1;have S:r.to.length=2:=f6J;have H:=List.all_eq_true.1 R.2;have X:=o0d D;exact⟨S,H _ (by simp[List.getD,S]),H _ (by simp[List.getD,S]),X.1,X.2.1⟩
def twin(r k:Rec):Bool:=decide (k.kind=7/\k.to.getD 0 0=r.to.getD 0 0/\k.to.getD 1 0=r.to.getD 1 0)
theorem z6t l i r:pair l i r=(!(decide (cls l r.lo≠0)||decide (cls l (r.to.getD 0 0)≠0)||decide (0<(opn l (r.to.getD 1 0)).length)||(decide (0<(opn l (r.to.getD 0 0)).length)&&!(prim l (r.to.getD 0 0)).isSome)||decide (r.to.getD 1 0<128)||decide (r.to.getD 0 0=46))&&!((l.take i).any (twin r))):=by
 have E:∀x:List Int,decide (x≠[])=decide (0<x.length):=fun x=>(by cases x<;>simp);unfold pair;rw[E,E];cases prim l (r.to.getD 0 0)<;>rfl
theorem z3k{l:List Rec}{i k r}(hi:i<=l.length)(G:k<i)(h:twin r (l.getD k none)=true):(l.take i).any (twin r)=true:=by
 rw[List.any_eq_true];exact⟨_,List.mem_take_iff_getElem.2 ⟨k,f6J,rfl⟩,by have e:l.getD k none=l[k]:=I3V;rw[<- e];exact h⟩
theorem z0F{l:List Rec}{i r}(hi:i<=l.length)(h:∀k,k<i->twin r (l.getD k none)=false):(l.take i).any (twin r)=false:=by
 rw[List.any_eq_false];intro x J;obtain⟨k,G,rfl⟩:=List.mem_take_iff_getElem.1 J;have:=h k f6J;rw[(I3V:l.getD k none=l[k])]at this;rw[this];exact Bool.false_ne_true
end Cn
theorem x0Q{c}(h:Cn.scalar c=true):Rune c:=by
 have:=o0d h;exact⟨f6J,f6J⟩
theorem x4D{w va zs}(h:Sk .i32 w va zs)(S:zs.length=2):∃b off cap,va=.slice (some ⟨b,off,none⟩) 2 cap/\2<=cap/\cap<=9223372036854775807/\w.cell? ⟨b,off,none⟩=some (.int .i32 (zs.getD 0 0))/\w.cell? ⟨b,off+1,none⟩=some (.int .i32 (zs.getD 1 0)):=by
 obtain⟨b,off,cap,d,Z,D,T⟩:=h.place f6J;exact⟨b,off,cap,by rw[d,S],f6J,f6J,by have A:=T 0 f6J;rw[Nat.add_zero]at A;exact A,T 1 f6J⟩
def y2w(n1 n2:Int)(l3 l4:Nat)(p5:Bool)(bb a:Int)(an:Bool):Bool:=!(decide (n1≠0)||decide (n2≠0)||decide (0<l3)||(decide (0<l4)&&!p5)||decide (bb<128)||decide (a=46))&&!an
theorem x1u{n1 n2 l3 l4 p5 bb a}{an}(h:n1≠0\/n2≠0\/0<l3\/(0<l4/\p5=false)\/bb<128\/a=46\/an=true):Ending.returned (.bool false)=Ending.returned (.bool (y2w n1 n2 l3 l4 p5 bb a an)):=by
 have e:y2w n1 n2 l3 l4 p5 bb a an=false:=by
  unfold y2w;rcases h with h | h | h | ⟨h,rfl⟩ | h | h | h
  ·rw[d0t h];simp
  ·rw[d0t h];simp
  ·rw[d0t h];simp
  ·rw[d0t h];simp
  ·rw[d0t h];simp
  ·rw[d0t h];simp
  ·rw[h];simp
 rw[e]
theorem y0O{l3 l4 p5 bb a an}(R:¬0<l3)(z:0<l4->p5=true)(H:¬bb<128)(q:¬a=46)(F:an=false):Ending.returned (.bool true)=Ending.returned (.bool (y2w 0 0 l3 l4 p5 bb a an)):=by
 have e:y2w 0 0 l3 l4 p5 bb a an=true:=by
  unfold y2w;rw[F,d0f R,d0f H,d0f q];by_cases B:0<l4
  ·rw[z B];simp
  ·rw[d0f B];simp
 rw[e]
theorem y2H v rs i w(hv:Rcs w v rs)(aB:(Cn.check6 rs).2=0)(hi:i<rs.length)(h7:(rs.getD i Cn.none).kind=7):Calls prog 80 #[v,.int .i64 i] w (x0c w (Cn.pair rs i (rs.getD i Cn.none))):=by
 have S:=(Cn.x1J aB).2;have d:Hid (∀k,k<rs.length->(rs.getD k Cn.none).kind=7->(rs.getD k Cn.none).to.length=2/\Cn.scalar ((rs.getD k Cn.none).to.getD 0 0)=true/\Cn.scalar ((rs.getD k Cn.none).to.getD 1 0)=true/\0<=(rs.getD k Cn.none).lo/\(rs.getD k Cn.none).lo<=1114111):=fun k hk e=>Cn.x7V (S _ E8R) e;obtain⟨t1,t2,t3,p1,p2⟩:=V d i hi h7;have ra:=x0Q t2;have rb:=x0Q t3;have A:ChIn w v rs w:=⟨hv,b0r⟩;rw[Cn.z6t];have ab:Hid (∀k,k<i->Cn.twin (rs.getD i Cn.none) (rs.getD k Cn.none)=true->(rs.take i).any (Cn.twin (rs.getD i Cn.none))=true):=fun k hk h=>Cn.z3k f6J hk h;have l:Hid ((∀k,k<i->Cn.twin (rs.getD i Cn.none) (rs.getD k Cn.none)=false)->(rs.take i).any (Cn.twin (rs.getD i Cn.none))=false):=fun h=>Cn.z0F f6J h;have KC:=O (fun W x (U:ChIn w v rs W) (hx:Rune x)=>x3j v rs x W U.1 hx);have KO:=O (fun W x (U:ChIn w v rs W) (hx:Rune x)=>x2F v rs x W U.1 hx);have KP:=O (fun W x (U:ChIn w v rs W) (hx:Rune x)=>x7J v rs x W U.1 hx);have aK:=hv.1;obtain⟨b,ae,M,rfl,aO,aP,hc⟩:=hv.place f6J;have hA:=hc i hi;obtain⟨x0,x1,x2,x3,⟨va,x4,aH⟩,x5,x6,x7⟩:=hA;obtain⟨tb,aN,aM,rfl,aU,aV,y0,y1⟩:=x4D aH t1
 have F:Hid (∀W k,ChIn w (.slice (some ⟨b,ae,none⟩) rs.length M) rs W->k<rs.length->RecAt W b (ae+k*8) (rs.getD k Cn.none)):=fun W k U hk=>by
  obtain⟨b',aL,aJ,he,_,_,h⟩:=U.1.place f6J;simp only[Value.slice.injEq,Option.some.injEq,Addr.mk.injEq,and_true,true_and]at he;obtain⟨⟨rfl,rfl⟩,rfl⟩:=he;exact h k hk
 have L:∀k:Rec,Cn.twin (rs.getD i Cn.none) k=decide (k.kind=7/\k.to.getD 0 0=(rs.getD i Cn.none).to.getD 0 0/\k.to.getD 1 0=(rs.getD i Cn.none).to.getD 1 0):=fun _=>rfl;generalize Cn.twin (rs.getD i Cn.none)=m at *;replace L:=O L;generalize(rs.getD i Cn.none).lo=lo,(rs.getD i Cn.none).to.getD 0 0=a,(rs.getD i Cn.none).to.getD 1 0=N at *;have K1:=O (fun W U=>V KC W lo U ⟨f6J,f6J⟩);have K2:=O (fun W U=>V KC W a U ra);have K3:=O (fun W U=>V KO W N U rb);have K4:=O (fun W U=>V KO W a U ra);have K5:=O (fun W U=>V KP W a U ra);generalize Cn.cls rs lo=n1,Cn.cls rs a=n2,Cn.opn rs N=z3,Cn.opn rs a=z4,Cn.prim rs a=pr at *;unfold x6l at K5;generalize((pr.map (·.1)).getD 0)=q1,((pr.map (·.2)).getD 0)=q2,pr.isSome=z at *;have T:=O A;obtain⟨aQ,aR⟩:=ra;obtain⟨aS,aT⟩:=rb;have i0:(0:Int)<=(i:Int):=f6J;have i1:(i:Int)<rs.length:=f6J;generalize(rs.take i).any m=an at *;show Calls prog 80 _ w (x0c w (y2w n1 n2 z3.length z4.length z N a an));go_enter func80,ntmps80;go_wp2;go_quiet(fail)
 all_goals
  have Z:Hid (∀n,ChIn w (.slice (some ⟨b,ae,none⟩) rs.length M) rs (w.drewN n)):=fun n=>(V T).on (x0k ⟨n,rfl⟩);go_wp2_with fail;refine c1m (V K5 _ (V Z _)) fun w1 ar=>?_;have Y:=O ((V Z _).on ar);go_wp2_with fail;refine c1m (V K1 _ (V Y)) fun w2 aw=>?_;have D:=O ((V Y).on aw);by_cases c1:n1=0
  ·subst c1;go_wp2_with fail;refine c1m (V K2 _ (V D)) fun w3 ay=>?_;have I:=O ((V D).on ay);by_cases c2:n2=0
   ·subst c2;go_wp2_with fail;refine(V K3 _ (V I)).mono ?_;rintro e w4 ⟨u4,rfl,aC,az⟩;obtain⟨o4,s4,rfl,g4,g5⟩:=aC.sk.shape;have G:=O ((V I).on az);by_cases s:0<z3.length
    ·clear K4 F ab l L d;go_wp2;go_ret;exact⟨x1u (.inr (.inr (.inl s))),(V G).2⟩
    ·go_wp2_with fail;refine(V K4 _ (V G)).mono ?_;rintro e w5 ⟨u5,rfl,aD,aA⟩;obtain⟨o5,s5,rfl,g6,g7⟩:=aD.sk.shape;have R:=O ((V G).on aA);by_cases u:0<z4.length/\z=false
     ·obtain⟨u,rfl⟩:=u;go_wp2;go_ret;exact⟨x1u (.inr (.inr (.inr (.inl ⟨u,rfl⟩)))),(V R).2⟩
     ·have L9:Hid (0<z4.length->z=true):=fun h=>by
       cases hp:z with
       | true=>rfl
       | false=>exact absurd ⟨h,hp⟩ u
      by_cases c5:N<128
      ·clear F ab l L d;by_cases c6:0<z4.length
       ·obtain rfl:=V L9 c6;exact S5u
       ·clear L9;exact S5u
      ·by_cases E:a=46
       ·clear F ab l L d;subst E;by_cases c6:0<z4.length
        ·obtain rfl:=V L9 c6;exact w6U
        ·clear L9;exact w6U
       ·have d7:(a==46)=false:=b0f E;by_cases c6:0<z4.length
        ·obtain rfl:=V L9 c6;go_wp2;go_loopw[11] (fun kv wj=>∃k:Nat,kv=.int .i64 k/\k<=i/\(∀j,j<k->m (rs.getD j Cn.none)=false)/\ChIn w (.slice (some ⟨b,ae,none⟩) rs.length M) rs wj) (fun kv _=>i-(intOf kv).toNat)
         case atStart=>exact N9b
         case round =>
          obtain⟨k,rfl,hk,p,A⟩:=hrel;by_cases H:k<i
          ·exact P7k
          ·obtain rfl:k=i:=f6J;have o:=O (V l p);have B:=O A;go_wp2;go_ret;exact⟨y0O s (fun _=>rfl) f6J E (V o),(V B).2⟩
        ·clear L9;go_wp2;go_loopw[11] (fun kv wj=>∃k:Nat,kv=.int .i64 k/\k<=i/\(∀j,j<k->m (rs.getD j Cn.none)=false)/\ChIn w (.slice (some ⟨b,ae,none⟩) rs.length M) rs wj) (fun kv _=>i-(intOf kv).toNat)
         case atStart=>exact N9b
         case round =>
          obtain⟨k,rfl,hk,p,A⟩:=hrel;by_cases H:k<i
          ·exact P7k
          ·obtain rfl:k=i:=f6J;have o:=O (V l p);have B:=O A;go_wp2;go_ret;exact⟨y0O s (fun h=>absurd h c6) f6J E (V o),(V B).2⟩
   ·have d2:(n2 != 0)=true:=(by simp[c2]);go_wp2;go_ret;exact⟨x1u (.inr (.inl c2)),(V I).2⟩
  ·have d1:(n1 != 0)=true:=(by simp[c1]);go_wp2;go_ret;exact⟨x1u (.inl c1),(V D).2⟩
