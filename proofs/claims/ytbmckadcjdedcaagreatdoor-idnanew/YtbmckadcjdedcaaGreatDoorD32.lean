/- Rwe7 -/
import Derived.Test.YtbmckadcjdedcaaGreatDoorD18
import Derived.Deep.DeepCutAuto
import Derived.Laws.BitsLemmas
set_option maxHeartbeats 8000000
set_option maxRecDepth 8000
namespace Go.Proofs.YtbmckadcjdedcaaGreatDoor
open Go.Proofs.Tryz
open Go.RowKit
section
variable{p:Prop}
theorem E6l(h:p:=by go_enter func70,ntmps70;go_wp2_with fail;refine(V D).mono ?_;rintro e l ⟨rfl,rfl⟩;go_wp2;go_ret;exact⟨rfl,V B⟩):p:=h
end
theorem z6c(J lo hi n:Int)(ao:Option Addr)(f q:Nat)(Z M:ByteArray)(wt:Nat)(w:World)(G:I64 J)(z:Cn.fam J=0):Calls prog 70 #[.agg #[.int .i64 J,.int .i64 lo,.int .i64 hi,.int .i64 n,.slice ao f q,.string Z,.string M,.float .f64 wt]] w (IntB w 60):=by
 obtain⟨l,P,T,U⟩:=x0L w J lo hi n (.slice ao f q) Z M wt;obtain⟨x,u,p,R,F,j,g,K⟩:=T;have B:=O U;have D:=O (x0l J l G);rw[z]at D;go_enter func70,ntmps70;go_wp2_with fail;refine(V D).mono ?_;rintro e l ⟨rfl,rfl⟩;exact r0p
theorem rw_15(lo hi n:Int)(ao:Option Addr)(f q:Nat)(Z M:ByteArray)(wt:Nat)(w:World)(a:I64 lo)(p:I64 hi)(b1 nb H b:Bool)(Y:Hid (∀W,Bw w W->Calls prog 113 #[.agg #[.int .i64 15,.int .i64 lo,.int .i64 hi,.int .i64 n,.slice ao f q,.string Z,.string M,.float .f64 wt],.bool false,.bool false,.bool true,.bool true,.bool true] W (x0c W b1)))(KN:Hid (∀W,Calls prog 114 #[.string Z] W fun e w'=>e=.returned (.bool nb)/\w'=W))(s:Hid (∀W,Calls prog 114 #[.string M] W fun e w'=>e=.returned (.bool H)/\w'=W))(y:Hid (∀W,Calls prog 115 #[.float .f64 wt] W fun e w'=>e=.returned (.bool b)/\w'=W)):Calls prog 70 #[.agg #[.int .i64 15,.int .i64 lo,.int .i64 hi,.int .i64 n,.slice ao f q,.string Z,.string M,.float .f64 wt]] w (IntB w (ansG (decide (lo=0)&&decide (hi=0)&&b1&&nb&&H&&decide (Z≠M)&&b))):=by
 obtain⟨l,P,T,U⟩:=x0L w 15 lo hi n (.slice ao f q) Z M wt;have C:=O T;obtain⟨x,x1,x2,R,x4,j,x6,K⟩:=T;have B:=O U;have D:=O (x0l 15 l ⟨f6J,f6J⟩);rw[(e8N:Cn.fam 15=10)]at D;obtain⟨N,Q⟩:∃N,decide (lo=0)=N:=⟨_,rfl⟩;obtain⟨e2,G⟩:∃e2,decide (hi=0)=e2:=⟨_,rfl⟩;obtain⟨E,S⟩:∃E,decide (Z≠M)=E:=⟨_,rfl⟩;rw[Q,G,S]
 have c:Hid (((Z.toList==M.toList)=!E)):=by
  show(Z.toList==M.toList)=!E;rw[<- S,bytes_beq];by_cases h:Z=M<;>simp[h]
 obtain⟨r,v⟩:=a;obtain⟨p3,p4⟩:=p;by_cases o:lo=0
 ·rw[d0t o]at Q;subst Q o;by_cases z:hi=0
  ·rw[d0t z]at G;subst G z;go_enter func70,ntmps70;go_wp2_with fail;refine(V D).mono ?_;rintro e l ⟨rfl,rfl⟩;go_wp2_with fail;refine c1m (V Y _ (V B)) fun w2 F=>?_;obtain⟨m,t,y2,i,y4,y5,I,J⟩:=(V C).keep F;have d:=O (x0b (V B) F)
   cases b1 with
   | false =>exact p1o
   | true =>
    go_wp2_with fail;refine(V KN _).mono ?_;rintro e u ⟨rfl,rfl⟩
    cases nb with
    | false =>exact p1o
    | true =>
     go_wp2_with fail;refine(V s _).mono ?_;rintro e X ⟨rfl,rfl⟩
     cases H with
     | false =>exact p1o
     | true =>
      have A:=V c
      cases E with
      | false =>exact p1o
      | true =>
       go_wp2_with fail;refine(V y _).mono ?_;rintro e k ⟨rfl,rfl⟩
       cases b with
       | false =>exact p1o
       | true =>exact p1o
  ·rw[d0f z]at G;subst G;have L:(hi==0)=false:=b0f z;exact E6l
 ·rw[d0f o]at Q;subst Q;have g:(lo==0)=false:=b0f o;exact E6l
