/- Lemmas. -/
import Derived.Test.YtbmckadcjdedcaaGreatDoorK18
import Derived.Deep.DeepCutAuto
import Derived.Laws.BitsLemmas
set_option maxHeartbeats 8000000
set_option maxRecDepth 8000
namespace Go.Proofs.YtbmckadcjdedcaaGreatDoor
open Go.Proofs.Tryz
open Go.RowKit
section
variable{p:Prop}
theorem I2H(h:p:=by go_enter func70,ntmps70;go_wp2_with fail;refine(V q).mono ?_;rintro e H ⟨rfl,rfl⟩;exact w4J):p:=h
end
theorem z6J kd lo hi n ao tl tc nm ot wt w(G:I64 kd)(U:Cn.fam kd=0):Calls prog 70 #[.agg #[.int .i64 kd,.int .i64 lo,.int .i64 hi,.int .i64 n,.slice ao tl tc,.string nm,.string ot,.float .f64 wt]] w (IntB w 60):=by
 obtain⟨H,k,D,A⟩:=x0O w kd lo hi n (.slice ao tl tc) nm ot wt;obtain⟨z,u,X,g,x,j,p,Q⟩:=D;have t:=O A;have q:=O (x0l kd H G);rw[U]at q;go_enter func70,ntmps70;go_wp2_with fail;refine(V q).mono ?_;rintro e H ⟨rfl,rfl⟩;exact w4H
theorem rw_15 lo hi n ao tl tc nm ot wt w(m:I64 lo)(l:I64 hi) b1 nb ob wb(v:Hid (∀W,Bw w W->Calls prog 113 #[.agg #[.int .i64 15,.int .i64 lo,.int .i64 hi,.int .i64 n,.slice ao tl tc,.string nm,.string ot,.float .f64 wt],.bool false,.bool false,.bool true,.bool true,.bool true] W (x0c W b1)))(KN:Hid (∀W,Calls prog 114 #[.string nm] W fun e w'=>e=.returned (.bool nb)/\w'=W))(c:Hid (∀W,Calls prog 114 #[.string ot] W fun e w'=>e=.returned (.bool ob)/\w'=W))(y:Hid (∀W,Calls prog 115 #[.float .f64 wt] W fun e w'=>e=.returned (.bool wb)/\w'=W)):Calls prog 70 #[.agg #[.int .i64 15,.int .i64 lo,.int .i64 hi,.int .i64 n,.slice ao tl tc,.string nm,.string ot,.float .f64 wt]] w (IntB w (ansG (decide (lo=0)&&decide (hi=0)&&b1&&nb&&ob&&decide (nm≠ot)&&wb))):=by
 obtain⟨H,k,D,A⟩:=x0O w 15 lo hi n (.slice ao tl tc) nm ot wt;have Y:=O D;obtain⟨z,u,X,g,x,j,x6,Q⟩:=D;have t:=O A;have q:=O (x0l 15 H ⟨f6J,f6J⟩);rw[(e8N:Cn.fam 15=10)]at q;obtain⟨P,B⟩:∃P,decide (lo=0)=P:=⟨_,rfl⟩;obtain⟨f,s⟩:∃f,decide (hi=0)=f:=⟨_,rfl⟩;obtain⟨J,I⟩:∃J,decide (nm≠ot)=J:=⟨_,rfl⟩;rw[B,s,I]
 have S:Hid (((nm.toList==ot.toList)=!J)):=by
  show(nm.toList==ot.toList)=!J;rw[<- I,bytes_beq];by_cases h:nm=ot<;>simp[h]
 obtain⟨R,p2⟩:=m;obtain⟨b,p4⟩:=l;by_cases C:lo=0
 ·rw[d0t C]at B;subst B C;by_cases U:hi=0
  ·rw[d0t U]at s;subst s U;go_enter func70,ntmps70;go_wp2_with fail;refine(V q).mono ?_;rintro e H ⟨rfl,rfl⟩;go_wp2_with fail;refine c1m (V v _ (V t)) fun d F=>?_;obtain⟨E,y1,y2,a,L,K,o,N⟩:=(V Y).keep F;have i:=O (x0b (V t) F)
   cases b1 with
   | false =>exact V4H
   | true =>
    go_wp2_with fail;refine(V KN _).mono ?_;rintro e w3 ⟨rfl,rfl⟩
    cases nb with
    | false =>exact V4H
    | true =>
     go_wp2_with fail;refine(V c _).mono ?_;rintro e G ⟨rfl,rfl⟩
     cases ob with
     | false =>exact V4H
     | true =>
      have T:=V S
      cases J with
      | false =>exact V4H
      | true =>
       go_wp2_with fail;refine(V y _).mono ?_;rintro e M ⟨rfl,rfl⟩
       cases wb with
       | false =>exact V4H
       | true =>exact V4H
  ·rw[d0f U]at s;subst s;have p:(hi==0)=false:=b0f U;exact I2H
 ·rw[d0f C]at B;subst B;have r:(lo==0)=false:=b0f C;exact I2H
