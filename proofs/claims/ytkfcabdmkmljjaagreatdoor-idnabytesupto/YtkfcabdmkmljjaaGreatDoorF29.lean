/- Lemmas. -/
import Derived.Test.YtkfcabdmkmljjaaGreatDoorF15
import Derived.Deep.DeepCutAuto
import Derived.Laws.BitsLemmas
set_option maxHeartbeats 8000000
set_option maxRecDepth 8000
namespace Go.Proofs.YtkfcabdmkmljjaaGreatDoor
open Go.Proofs.Tryz
open Go.RowKit
section
variable{p:Prop}
theorem r1l(h:p:=by go_enter func78,ntmps78;go_wp2_with fail;refine(V P).mono ?_;rintro e y ⟨rfl,rfl⟩;exact E0d):p:=h
end
theorem z7W kd lo hi n ao tl tc nm ot wt w(G:I64 kd)(C:Cn.fam kd=0):Calls prog 78 #[.agg #[.int .i64 kd,.int .i64 lo,.int .i64 hi,.int .i64 n,.slice ao tl tc,.string nm,.string ot,.float .f64 wt]] w (IntB w 60):=by
 obtain⟨y,i,Y,f⟩:=x0N w kd lo hi n (.slice ao tl tc) nm ot wt;obtain⟨p,d,S,q,j,m,U,u⟩:=Y;have x:=O f;have P:=O (x0j kd y G);rw[C]at P;go_enter func78,ntmps78;go_wp2_with fail;refine(V P).mono ?_;rintro e y ⟨rfl,rfl⟩;exact E0c
theorem rw_15 lo hi n ao tl tc nm ot wt w(r:I64 lo)(J:I64 hi) b1 nb ob wb(v:Hid (∀W,Bw w W->Calls prog 122 #[.agg #[.int .i64 15,.int .i64 lo,.int .i64 hi,.int .i64 n,.slice ao tl tc,.string nm,.string ot,.float .f64 wt],.bool false,.bool false,.bool true,.bool true,.bool true] W (x0g W b1)))(KN:Hid (∀W,Calls prog 123 #[.string nm] W fun e w'=>e=.returned (.bool nb)/\w'=W))(l:Hid (∀W,Calls prog 123 #[.string ot] W fun e w'=>e=.returned (.bool ob)/\w'=W))(E:Hid (∀W,Calls prog 124 #[.float .f64 wt] W fun e w'=>e=.returned (.bool wb)/\w'=W)):Calls prog 78 #[.agg #[.int .i64 15,.int .i64 lo,.int .i64 hi,.int .i64 n,.slice ao tl tc,.string nm,.string ot,.float .f64 wt]] w (IntB w (ansG (decide (lo=0)&&decide (hi=0)&&b1&&nb&&ob&&decide (nm≠ot)&&wb))):=by
 obtain⟨y,i,Y,f⟩:=x0N w 15 lo hi n (.slice ao tl tc) nm ot wt;have T:=O Y;obtain⟨p,d,S,q,j,m,U,x7⟩:=Y;have x:=O f;have P:=O (x0j 15 y ⟨f6J,f6J⟩);rw[(e8N:Cn.fam 15=10)]at P;obtain⟨e1,D⟩:∃e1,decide (lo=0)=e1:=⟨_,rfl⟩;obtain⟨z,I⟩:∃z,decide (hi=0)=z:=⟨_,rfl⟩;obtain⟨N,H⟩:∃N,decide (nm≠ot)=N:=⟨_,rfl⟩;rw[D,I,H]
 have K:Hid (((nm.toList==ot.toList)=!N)):=by
  show(nm.toList==ot.toList)=!N;rw[<- H,bytes_beq];by_cases h:nm=ot<;>simp[h]
 obtain⟨p1,Z⟩:=r;obtain⟨k,G⟩:=J;by_cases g:lo=0
 ·rw[d0t g]at D;subst D g;by_cases Q:hi=0
  ·rw[d0t Q]at I;subst I Q;go_enter func78,ntmps78;go_wp2_with fail;refine(V P).mono ?_;rintro e y ⟨rfl,rfl⟩;go_wp2_with fail;refine c1m (V v _ (V x)) fun u t=>?_;obtain⟨R,F,s,o,a,y5,M,A⟩:=(V T).keep t;have X:=O (bthen (V x) t)
   cases b1 with
   | false =>exact I4d
   | true =>
    go_wp2_with fail;refine(V KN _).mono ?_;rintro e B ⟨rfl,rfl⟩
    cases nb with
    | false =>exact I4d
    | true =>
     go_wp2_with fail;refine(V l _).mono ?_;rintro e C ⟨rfl,rfl⟩
     cases ob with
     | false =>exact I4d
     | true =>
      have L:=V K
      cases N with
      | false =>exact I4d
      | true =>
       go_wp2_with fail;refine(V E _).mono ?_;rintro e w5 ⟨rfl,rfl⟩
       cases wb with
       | false =>exact I4d
       | true =>exact I4d
  ·rw[d0f Q]at I;subst I;have b:(hi==0)=false:=b0f Q;exact r1l
 ·rw[d0f g]at D;subst D;have d1:(lo==0)=false:=b0f g;exact r1l
