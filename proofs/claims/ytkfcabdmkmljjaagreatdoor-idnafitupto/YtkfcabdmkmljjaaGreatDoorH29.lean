/- Lemmas. -/
import Derived.Test.YtkfcabdmkmljjaaGreatDoorH15
import Derived.Deep.DeepCutAuto
import Derived.Laws.BitsLemmas
set_option maxHeartbeats 8000000
set_option maxRecDepth 8000
namespace Go.Proofs.YtkfcabdmkmljjaaGreatDoor
open Go.Proofs.Tryz
open Go.RowKit
section
variable{p:Prop}
theorem u9Y(h:p:=by go_wp2;go_ret;exact⟨rfl,V T⟩):p:=h
theorem u5h(h:p:=by go_enter func78,ntmps78;go_wp2_with fail;refine(V P).mono ?_;rintro e X ⟨rfl,rfl⟩;exact E0e):p:=h
end
theorem z7S kd lo hi n ao tl tc nm ot wt w(G:I64 kd)(z:Cn.fam kd=0):Calls prog 78 #[.agg #[.int .i64 kd,.int .i64 lo,.int .i64 hi,.int .i64 n,.slice ao tl tc,.string nm,.string ot,.float .f64 wt]] w (IntB w 60):=by
 obtain⟨X,b,Y,f⟩:=x0J w kd lo hi n (.slice ao tl tc) nm ot wt;obtain⟨g,S,p,K,j,m,u,k⟩:=Y;have x:=O f;have P:=O (x0j kd X G);rw[z]at P;go_enter func78,ntmps78;go_wp2_with fail;refine(V P).mono ?_;rintro e X ⟨rfl,rfl⟩;exact E0c
theorem rw_15 lo hi n ao tl tc nm ot wt w(i:I64 lo)(J:I64 hi) b1 nb ob wb(C:Hid (∀W,Bw w W->Calls prog 122 #[.agg #[.int .i64 15,.int .i64 lo,.int .i64 hi,.int .i64 n,.slice ao tl tc,.string nm,.string ot,.float .f64 wt],.bool false,.bool false,.bool true,.bool true,.bool true] W (x0g W b1)))(KN:Hid (∀W,Calls prog 123 #[.string nm] W fun e w'=>e=.returned (.bool nb)/\w'=W))(d:Hid (∀W,Calls prog 123 #[.string ot] W fun e w'=>e=.returned (.bool ob)/\w'=W))(z:Hid (∀W,Calls prog 124 #[.float .f64 wt] W fun e w'=>e=.returned (.bool wb)/\w'=W)):Calls prog 78 #[.agg #[.int .i64 15,.int .i64 lo,.int .i64 hi,.int .i64 n,.slice ao tl tc,.string nm,.string ot,.float .f64 wt]] w (IntB w (ansG (decide (lo=0)&&decide (hi=0)&&b1&&nb&&ob&&decide (nm≠ot)&&wb))):=by
 obtain⟨X,b,Y,f⟩:=x0J w 15 lo hi n (.slice ao tl tc) nm ot wt;have U:=O Y;obtain⟨x0,S,p,K,j,m,x6,k⟩:=Y;have x:=O f;have P:=O (x0j 15 X ⟨f6J,f6J⟩);rw[(e8N:Cn.fam 15=10)]at P;obtain⟨s,o⟩:∃s,decide (lo=0)=s:=⟨_,rfl⟩;obtain⟨E,Z⟩:∃E,decide (hi=0)=E:=⟨_,rfl⟩;obtain⟨N,F⟩:∃N,decide (nm≠ot)=N:=⟨_,rfl⟩;rw[o,Z,F]
 have I:Hid (((nm.toList==ot.toList)=!N)):=by
  show(nm.toList==ot.toList)=!N;rw[<- F,bytes_beq];by_cases h:nm=ot<;>simp[h]
 obtain⟨p1,G⟩:=i;obtain⟨r,R⟩:=J;by_cases y:lo=0
 ·rw[d0t y]at o;subst o y;by_cases q:hi=0
  ·rw[d0t q]at Z;subst Z q;go_enter func78,ntmps78;go_wp2_with fail;refine(V P).mono ?_;rintro e X ⟨rfl,rfl⟩;go_wp2_with fail;refine c1m (V C _ (V x)) fun t H=>?_;obtain⟨l,y1,a,v,y4,A,M,L⟩:=(V U).keep H;have T:=O (bthen (V x) H)
   cases b1 with
   | false =>exact u9Y
   | true =>
    go_wp2_with fail;refine(V KN _).mono ?_;rintro e w3 ⟨rfl,rfl⟩
    cases nb with
    | false =>exact u9Y
    | true =>
     go_wp2_with fail;refine(V d _).mono ?_;rintro e D ⟨rfl,rfl⟩
     cases ob with
     | false =>exact u9Y
     | true =>
      have Q:=V I
      cases N with
      | false =>exact u9Y
      | true =>
       go_wp2_with fail;refine(V z _).mono ?_;rintro e B ⟨rfl,rfl⟩
       cases wb with
       | false =>exact u9Y
       | true =>exact u9Y
  ·rw[d0f q]at Z;subst Z;have g:(hi==0)=false:=b0f q;exact u5h
 ·rw[d0f y]at o;subst o;have u:(lo==0)=false:=b0f y;exact u5h
