/- Lemmas. -/
import Derived.Test.YtkfcabdmkmljjaaGreatDoorG15
import Derived.Deep.DeepCutAuto
import Derived.Laws.BitsLemmas
set_option maxHeartbeats 8000000
set_option maxRecDepth 8000
namespace Go.Proofs.YtkfcabdmkmljjaaGreatDoor
open Go.Proofs.Tryz
open Go.RowKit
section
variable{p:Prop}
theorem V4I(h:p:=by go_wp2;go_ret;exact⟨rfl,V i⟩):p:=h
theorem S8f(h:p:=by go_enter func78,ntmps78;go_wp2_with fail;refine(V b).mono ?_;rintro e p ⟨rfl,rfl⟩;exact E0e):p:=h
end
theorem z8m kd lo hi n ao tl tc nm ot wt w(G:I64 kd)(o:Cn.fam kd=0):Calls prog 78 #[.agg #[.int .i64 kd,.int .i64 lo,.int .i64 hi,.int .i64 n,.slice ao tl tc,.string nm,.string ot,.float .f64 wt]] w (IntB w 60):=by
 obtain⟨p,T,Y,f⟩:=x0M w kd lo hi n (.slice ao tl tc) nm ot wt;obtain⟨d,u,S,m,j,s,k,D⟩:=Y;have x:=O f;have b:=O (x0j kd p G);rw[o]at b;go_enter func78,ntmps78;go_wp2_with fail;refine(V b).mono ?_;rintro e p ⟨rfl,rfl⟩;exact E0c
theorem rw_15 lo hi n ao tl tc nm ot wt w(y:I64 lo)(Q:I64 hi) b1 nb ob wb(C:Hid (∀W,Bw w W->Calls prog 122 #[.agg #[.int .i64 15,.int .i64 lo,.int .i64 hi,.int .i64 n,.slice ao tl tc,.string nm,.string ot,.float .f64 wt],.bool false,.bool false,.bool true,.bool true,.bool true] W (x0g W b1)))(KN:Hid (∀W,Calls prog 123 #[.string nm] W fun e w'=>e=.returned (.bool nb)/\w'=W))(J:Hid (∀W,Calls prog 123 #[.string ot] W fun e w'=>e=.returned (.bool ob)/\w'=W))(l:Hid (∀W,Calls prog 124 #[.float .f64 wt] W fun e w'=>e=.returned (.bool wb)/\w'=W)):Calls prog 78 #[.agg #[.int .i64 15,.int .i64 lo,.int .i64 hi,.int .i64 n,.slice ao tl tc,.string nm,.string ot,.float .f64 wt]] w (IntB w (ansG (decide (lo=0)&&decide (hi=0)&&b1&&nb&&ob&&decide (nm≠ot)&&wb))):=by
 obtain⟨p,T,Y,f⟩:=x0M w 15 lo hi n (.slice ao tl tc) nm ot wt;have U:=O Y;obtain⟨d,x1,S,m,j,s,k,D⟩:=Y;have x:=O f;have b:=O (x0j 15 p ⟨f6J,f6J⟩);rw[(e8N:Cn.fam 15=10)]at b;obtain⟨t,I⟩:∃t,decide (lo=0)=t:=⟨_,rfl⟩;obtain⟨E,o⟩:∃E,decide (hi=0)=E:=⟨_,rfl⟩;obtain⟨N,L⟩:∃N,decide (nm≠ot)=N:=⟨_,rfl⟩;rw[I,o,L]
 have c:Hid (((nm.toList==ot.toList)=!N)):=by
  show(nm.toList==ot.toList)=!N;rw[<- L,bytes_beq];by_cases h:nm=ot<;>simp[h]
 obtain⟨G,p2⟩:=y;obtain⟨p3,p4⟩:=Q;by_cases X:lo=0
 ·rw[d0t X]at I;subst I X;by_cases K:hi=0
  ·rw[d0t K]at o;subst o K;go_enter func78,ntmps78;go_wp2_with fail;refine(V b).mono ?_;rintro e p ⟨rfl,rfl⟩;go_wp2_with fail;refine c1m (V C _ (V x)) fun w2 H=>?_;obtain⟨F,g,P,v,z,M,A,Z⟩:=(V U).keep H;have i:=O (bthen (V x) H)
   cases b1 with
   | false =>exact V4I
   | true =>
    go_wp2_with fail;refine(V KN _).mono ?_;rintro e B ⟨rfl,rfl⟩
    cases nb with
    | false =>exact V4I
    | true =>
     go_wp2_with fail;refine(V J _).mono ?_;rintro e R ⟨rfl,rfl⟩
     cases ob with
     | false =>exact V4I
     | true =>
      have q:=V c
      cases N with
      | false =>exact V4I
      | true =>
       go_wp2_with fail;refine(V l _).mono ?_;rintro e w5 ⟨rfl,rfl⟩
       cases wb with
       | false =>exact V4I
       | true =>exact V4I
  ·rw[d0f K]at o;subst o;have a:(hi==0)=false:=b0f K;exact S8f
 ·rw[d0f X]at I;subst I;have u:(lo==0)=false:=b0f X;exact S8f
