import Derived.Test.YtbmckadcjdedcaaGreatDoorF18
import Derived.Deep.DeepCutAuto
import Derived.Laws.BitsLemmas
set_option maxHeartbeats 8000000
set_option maxRecDepth 8000
namespace Go.Proofs.YtbmckadcjdedcaaGreatDoor
open Go.Proofs.Tryz
open Go.RowKit
section
variable{p:Prop}
theorem V6V(h:p:=by go_enter func70,ntmps70;go_wp2_with fail;refine(V o).mono ?_;rintro e U ⟨rfl,rfl⟩;exact r0r):p:=h
end
theorem z6L kd lo hi n ao tl tc nm ot wt w(G:I64 kd)(X:Cn.fam kd=0):Calls prog 70 #[.agg #[.int .i64 kd,.int .i64 lo,.int .i64 hi,.int .i64 n,.slice ao tl tc,.string nm,.string ot,.float .f64 wt]] w (IntB w 60):=by
 obtain⟨U,k,D,A⟩:=x0L w kd lo hi n (.slice ao tl tc) nm ot wt;obtain⟨x,u,S,p,g,t,y,T⟩:=D;have B:=O A;have o:=O (x0l kd U G);rw[X]at o;go_enter func70,ntmps70;go_wp2_with fail;refine(V o).mono ?_;rintro e U ⟨rfl,rfl⟩;exact r0p
theorem rw_15 lo hi n ao tl tc nm ot wt w(m:I64 lo)(l:I64 hi) b1 nb ob wb(v:Hid (∀W,Bw w W->Calls prog 113 #[.agg #[.int .i64 15,.int .i64 lo,.int .i64 hi,.int .i64 n,.slice ao tl tc,.string nm,.string ot,.float .f64 wt],.bool false,.bool false,.bool true,.bool true,.bool true] W (x0c W b1)))(KN:Hid (∀W,Calls prog 114 #[.string nm] W fun e w'=>e=.returned (.bool nb)/\w'=W))(M:Hid (∀W,Calls prog 114 #[.string ot] W fun e w'=>e=.returned (.bool ob)/\w'=W))(q:Hid (∀W,Calls prog 115 #[.float .f64 wt] W fun e w'=>e=.returned (.bool wb)/\w'=W)):Calls prog 70 #[.agg #[.int .i64 15,.int .i64 lo,.int .i64 hi,.int .i64 n,.slice ao tl tc,.string nm,.string ot,.float .f64 wt]] w (IntB w (ansG (decide (lo=0)&&decide (hi=0)&&b1&&nb&&ob&&decide (nm≠ot)&&wb))):=by
 obtain⟨U,k,D,A⟩:=x0L w 15 lo hi n (.slice ao tl tc) nm ot wt;have Y:=O D;obtain⟨x0,u,S,p,x4,t,y,T⟩:=D;have B:=O A;have o:=O (x0l 15 U ⟨f6J,f6J⟩);rw[(e8N:Cn.fam 15=10)]at o;obtain⟨P,J⟩:∃P,decide (lo=0)=P:=⟨_,rfl⟩;obtain⟨f,I⟩:∃f,decide (hi=0)=f:=⟨_,rfl⟩;obtain⟨E,Q⟩:∃E,decide (nm≠ot)=E:=⟨_,rfl⟩;rw[J,I,Q]
 have X:Hid (((nm.toList==ot.toList)=!E)):=by
  show(nm.toList==ot.toList)=!E;rw[<- Q,bytes_beq];by_cases h:nm=ot<;>simp[h]
 obtain⟨R,s⟩:=m;obtain⟨b,G⟩:=l;by_cases j:lo=0
 ·rw[d0t j]at J;subst J j;by_cases K:hi=0
  ·rw[d0t K]at I;subst I K;go_enter func70,ntmps70;go_wp2_with fail;refine(V o).mono ?_;rintro e U ⟨rfl,rfl⟩;go_wp2_with fail;refine c1m (V v _ (V B)) fun d F=>?_;obtain⟨z,y1,a,N,C,y5,L,H⟩:=(V Y).keep F;have i:=O (x0b (V B) F)
   cases b1 with
   | false =>exact V4H
   | true =>
    go_wp2_with fail;refine(V KN _).mono ?_;rintro e x ⟨rfl,rfl⟩
    cases nb with
    | false =>exact V4H
    | true =>
     go_wp2_with fail;refine(V M _).mono ?_;rintro e w4 ⟨rfl,rfl⟩
     cases ob with
     | false =>exact V4H
     | true =>
      have Z:=V X
      cases E with
      | false =>exact V4H
      | true =>
       go_wp2_with fail;refine(V q _).mono ?_;rintro e w5 ⟨rfl,rfl⟩
       cases wb with
       | false =>exact V4H
       | true =>exact V4H
  ·rw[d0f K]at I;subst I;have r:(hi==0)=false:=b0f K;exact V6V
 ·rw[d0f j]at J;subst J;have g:(lo==0)=false:=b0f j;exact V6V
