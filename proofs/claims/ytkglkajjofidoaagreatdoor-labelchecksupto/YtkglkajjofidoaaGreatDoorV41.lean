/- Ry7 -/
import Derived.Test.YtkglkajjofidoaaGreatDoorV40
import Derived.Deep.DeepCutAuto
set_option maxHeartbeats 8000000
set_option maxRecDepth 8000
namespace Go.Proofs.YtkglkajjofidoaaGreatDoor
open Go.Proofs.Tryz
open Go.RowKit
def recG (f:Int) (v0 v1 v2 v3 v4 k7 hg:Bool) (fe:Int) (fl pb:Bool):Int :=
 if f≠2/\f≠3 then 0 else if v0=true then 70 else if (v1 || v2 || v3 || v4)=true then 71 else if (k7 && hg)=true then 71 else if f=2 then 0 else if fe≠0 then fe else if fl=true then 75 else if (k7 && !pb)=true then 74 else 0
def hanG (aB aq ay md am:Bool):Bool:=(aB && aq) || (ay && md && am)
theorem x8n (l:List Rec) (i:Nat) (r:Rec):Cn.record l i r=recG (Cn.fam r.kind) (Cn.covers r 0 127) (Cn.covers r 4352 4370) (Cn.covers r 4449 4469) (Cn.covers r 4520 4546) (Cn.covers r 44032 55203) (decide (r.kind=7)) (hanG (Cn.jl (r.to.getD 0 0)) (Cn.jv (r.to.getD 1 0)) (Cn.syl (r.to.getD 0 0)) (decide ((r.to.getD 0 0 - 44032) % 28=0)) (Cn.jt (r.to.getD 1 0))) (Cn.full l r.lo).2 (Cn.fallsA l (Cn.full l r.lo).1) (Cn.pair l i r):=by
 unfold Cn.record recG hanG;by_cases h7:r.kind=7
 ·simp only [h7,true_and,decide_true,Bool.true_and];simp
 ·simp only [h7,false_and,decide_false,Bool.false_and];simp
theorem y2f {f:Int} {v0 v1 v2 v3 v4 k7 hg:Bool} {fe:Int} {fl pb:Bool} (h2:f≠2) (h3:f≠3):Ending.returned (.int .i64 0)=Ending.returned (.int .i64 (recG f v0 v1 v2 v3 v4 k7 hg fe fl pb)):=by
 unfold recG;rw [if_pos ⟨h2,h3⟩]
theorem x1C {k7 hg:Bool} {fe:Int} {fl pb:Bool} (h:(k7 && hg)=false) (he:¬ fe=0):Ending.returned (.int .i64 fe)=Ending.returned (.int .i64 (recG 3 false false false false false k7 hg fe fl pb)):=by
 unfold recG;rw [h,if_neg (by decide),if_neg (by decide),if_neg (by decide),if_neg (by decide),if_neg (by decide),if_pos he]
theorem y2i (v:Value) (rs:List Rec) (i:Nat) (w:World) (hv:Rcs w v rs) (ak:(Cn.check6 rs).2=0) (hi:i<rs.length) (h7:(rs.getD i Cn.none).kind=7):Calls prog 37 #[v,.int .i64 i] w (IntB w (Cn.record rs i (rs.getD i Cn.none))):=by
 have hall:=(Cn.x1u ak).2;have hr:=hall (rs.getD i Cn.none) (by simp [List.getD,hi]);rw [x8n];have aw:ChIn w v rs w:=⟨hv,b0r⟩;have af:=hv.fit hi;have aA:=hv.1;have KP:Hid (∀ W,ChIn w v rs W->Calls prog 70 #[v,.int .i64 i] W (x0d W (Cn.pair rs i (rs.getD i Cn.none)))):=fun W hW=>x9I v rs i W hW.1 ak hi h7;have KU:Hid (∀ W c,ChIn w v rs W->Rune c->Calls prog 68 #[v,.int .i32 c] W (x5y W (Cn.full rs c))):=fun W c hW hc=>x2T v rs c W hW.1 hc;have KL:Hid (∀ W u,ChIn w v rs W->Sk .i32 W u (Cn.full rs (rs.getD i Cn.none).lo).1->Calls prog 69 #[v,u] W (x0d W (Cn.fallsA rs (Cn.full rs (rs.getD i Cn.none).lo).1))):=fun W u hW hu=>x3V v u rs _ W hW.1 hu (Nat.le_trans (Cn.x3e rs _) (by omega));have KF:Hid (∀ W,Calls prog 62 #[.int .i64 (rs.getD i Cn.none).kind] W fun e w'=>e=.returned (.int .i64 (Cn.fam (rs.getD i Cn.none).kind))/\w'=W):=fun W=>x0l _ W af.kind;obtain ⟨b,off,cap,rfl,aE,aF,hc⟩:=hv.place (by omega);obtain ⟨x0,x1,x2,x3,⟨va,x4,ar⟩,x5,x6,x7⟩:=hc i hi;have KV:Hid (∀ a c,I64 a->I64 c->∀ W,Calls prog 63 #[recV (rs.getD i Cn.none) va,.int .i64 a,.int .i64 c] W (x0d W (Cn.covers (rs.getD i Cn.none) a c))):=fun a c ha hc W=>x3k _ va a c W af ha hc;unfold recV at KV;obtain ⟨t1,t2,t3,p1,p2⟩:=Cn.x5Y hr h7;have ra:=x0C t2;have rb:=x0C t3;have HT:Hid (∀ W,Bw w W->Sk .i32 W va (rs.getD i Cn.none).to):=fun W hW=>ar.below hW;obtain ⟨tb,ap,sc,rfl,tc1,tc2,y0,y1⟩:=x2u ar t1;have an:Hid (∀ W,Bw w W->W.cell? ⟨tb,ap,none⟩=some (.int .i32 ((rs.getD i Cn.none).to.getD 0 0))/\W.cell? ⟨tb,ap+1,none⟩=some (.int .i32 ((rs.getD i Cn.none).to.getD 1 0))):=fun W hW=>⟨by rw [hW.cell (x0a y0)]; exact y0,by rw [hW.cell (x0a y1)]; exact y1⟩;rw [d0t h7];rw [h7] at KF KV x0 ⊢;have aG:Cn.fam 7=3:=(by decide);rw [aG] at KF ⊢;have i0:(0:Int)<=(i:Int):=(by omega);have i1:(i:Int)<rs.length:=(by omega);have al:=O (V KV 0 127 ⟨by omega,by omega⟩ ⟨by omega,by omega⟩);generalize Cn.covers (rs.getD i Cn.none) 0 127=v0 at *;have aj:=O (V KV 4352 4370 ⟨by omega,by omega⟩ ⟨by omega,by omega⟩);generalize Cn.covers (rs.getD i Cn.none) 4352 4370=v1 at *;have ai:=O (V KV 4449 4469 ⟨by omega,by omega⟩ ⟨by omega,by omega⟩);generalize Cn.covers (rs.getD i Cn.none) 4449 4469=v2 at *;have ae:=O (V KV 4520 4546 ⟨by omega,by omega⟩ ⟨by omega,by omega⟩);generalize Cn.covers (rs.getD i Cn.none) 4520 4546=v3 at *;have ad:=O (V KV 44032 55203 ⟨by omega,by omega⟩ ⟨by omega,by omega⟩);generalize Cn.covers (rs.getD i Cn.none) 44032 55203=v4 at *;have J1:Hid (∀ W,Calls prog 64 #[.int .i32 ((rs.getD i Cn.none).to.getD 0 0)] W fun e w'=>e=.returned (.bool (Cn.jl ((rs.getD i Cn.none).to.getD 0 0)))/\w'=W):=fun W=>x8s _ W ra;have J2:Hid (∀ W,Calls prog 65 #[.int .i32 ((rs.getD i Cn.none).to.getD 1 0)] W fun e w'=>e=.returned (.bool (Cn.jv ((rs.getD i Cn.none).to.getD 1 0)))/\w'=W):=fun W=>x8u _ W rb;have J3:Hid (∀ W,Calls prog 66 #[.int .i32 ((rs.getD i Cn.none).to.getD 0 0)] W fun e w'=>e=.returned (.bool (Cn.syl ((rs.getD i Cn.none).to.getD 0 0)))/\w'=W):=fun W=>x2B _ W ra;have J4:Hid (∀ W,Calls prog 67 #[.int .i32 ((rs.getD i Cn.none).to.getD 1 0)] W fun e w'=>e=.returned (.bool (Cn.jt ((rs.getD i Cn.none).to.getD 1 0)))/\w'=W):=fun W=>x8t _ W rb;have HS:Hid (Cn.syl ((rs.getD i Cn.none).to.getD 0 0)=true->44032<=(rs.getD i Cn.none).to.getD 0 0/\(rs.getD i Cn.none).to.getD 0 0<=55203):=fun h=>o0d h;generalize Cn.jl ((rs.getD i Cn.none).to.getD 0 0)=aB at *;generalize Cn.jv ((rs.getD i Cn.none).to.getD 1 0)=aq at *;generalize Cn.syl ((rs.getD i Cn.none).to.getD 0 0)=ay at *;generalize Cn.jt ((rs.getD i Cn.none).to.getD 1 0)=am at *;obtain ⟨md,ax⟩:∃ md,decide (((rs.getD i Cn.none).to.getD 0 0 - 44032) % 28=0)=md:=⟨_,rfl⟩;rw [ax];have ag:Hid (md=true->((rs.getD i Cn.none).to.getD 0 0 - 44032) % 28=0):=fun h=>o0d (ax.trans h);have ah:Hid (md=false->¬ ((rs.getD i Cn.none).to.getD 0 0 - 44032) % 28=0):=fun h=>of_decide_eq_false (ax.trans h);clear ax;generalize (rs.getD i Cn.none).to.getD 0 0=a at *;generalize (rs.getD i Cn.none).to.getD 1 0=c at *;generalize Cn.pair rs i (rs.getD i Cn.none)=pb at *;have K1:Hid (∀ W,ChIn w (.slice (some ⟨b,off,none⟩) rs.length cap) rs W->0<=(rs.getD i Cn.none).lo->(rs.getD i Cn.none).lo<=1114111->Calls prog 68 #[.slice (some ⟨b,off,none⟩) rs.length cap,.int .i32 (rs.getD i Cn.none).lo] W (x5y W (Cn.full rs (rs.getD i Cn.none).lo))):=fun W hW a1 a2=>V KU W _ hW ⟨by omega,by omega⟩;generalize Cn.full rs (rs.getD i Cn.none).lo=fu at *;generalize Cn.fallsA rs fu.1=fl at *;clear KU KV hv hc ak hall hr af ar HT y0 y1 t1 t2 t3;generalize rs.getD i Cn.none=r at *;skip;generalize r.lo=lo at *;generalize r.hi=hi2 at *;generalize r.n=n at *;generalize r.name=nm at *;generalize r.other=ot at *;generalize r.wt=wt at *;have az:∀ W a m,(store a (.float .f64 wt) m).run prog W=stored prog W a (.float .f64 wt) m:=fun W a m=>run_store prog W a _ m rfl;obtain ⟨W0,aD,av,au⟩:=x0I w 7 lo hi2 n (.slice (some ⟨tb,ap,none⟩) 2 sc) nm ot wt;have HB:=O av;have HC:=O (aw.on au);clear aw;obtain ⟨aC,fe⟩:=fu;go_enter func37,ntmps37;go_upto_region 2 with fail;clear az x0 x1 x2 x3 x4 x5 x6 x7 au;obtain ⟨x0,x1,x2,x3,x4,x5,x6,x7⟩:=av;go_wp2_with fail;refine (V KF _).mono ?_;rintro e W0 ⟨rfl,rfl⟩;clear KF;go_wp2_with fail;refine (V al _).mono ?_;rintro e w1 ⟨rfl,aa⟩;replace HC:=O ((V HC).on aa);replace HB:=O ((V HB).keep aa);clear al aa x0 x1 x2 x3 x4 x5 x6 x7;obtain ⟨x0,x1,x2,x3,x4,x5,x6,x7⟩:=V HB
 cases v0 with
 | true =>
  clear aj ai ae ad K1 KL KP J1 J2 J3 J4 HS an ag ah;go_wp2;go_ret;exact ⟨rfl,(V HC).2⟩
 | false =>
  go_wp2_with fail;refine (V aj _).mono ?_;rintro e w1 ⟨rfl,aa⟩;replace HC:=O ((V HC).on aa);replace HB:=O ((V HB).keep aa);clear aj aa x0 x1 x2 x3 x4 x5 x6 x7;obtain ⟨x0,x1,x2,x3,x4,x5,x6,x7⟩:=V HB
  cases v1 with
  | true =>
   clear K1 KL ai ae ad KP J1 J2 J3 J4 HS an ag ah;go_wp2;go_ret;exact ⟨rfl,(V HC).2⟩
  | false =>
   go_wp2_with fail;refine (V ai _).mono ?_;rintro e w1 ⟨rfl,aa⟩;replace HC:=O ((V HC).on aa);replace HB:=O ((V HB).keep aa);clear ai aa x0 x1 x2 x3 x4 x5 x6 x7;obtain ⟨x0,x1,x2,x3,x4,x5,x6,x7⟩:=V HB
   cases v2 with
   | true =>
    clear K1 KL ae ad KP J1 J2 J3 J4 HS an ag ah;go_wp2;go_ret;exact ⟨rfl,(V HC).2⟩
   | false =>
    go_wp2_with fail;refine (V ae _).mono ?_;rintro e w1 ⟨rfl,aa⟩;replace HC:=O ((V HC).on aa);replace HB:=O ((V HB).keep aa);clear ae aa x0 x1 x2 x3 x4 x5 x6 x7;obtain ⟨x0,x1,x2,x3,x4,x5,x6,x7⟩:=V HB
    cases v3 with
    | true =>
     clear K1 KL ad KP J1 J2 J3 J4 HS an ag ah;go_wp2;go_ret;exact ⟨rfl,(V HC).2⟩
    | false =>
     go_wp2_with fail;refine (V ad _).mono ?_;rintro e w1 ⟨rfl,aa⟩;replace HC:=O ((V HC).on aa);replace HB:=O ((V HB).keep aa);clear ad aa x0 x1 x2 x3 x4 x5 x6 x7;obtain ⟨x0,x1,x2,x3,x4,x5,x6,x7⟩:=V HB
     cases v4 with
     | true =>
      clear K1 KL KP J1 J2 J3 J4 HS an ag ah;go_wp2;go_ret;exact ⟨rfl,(V HC).2⟩
     | false =>
      obtain ⟨y0,y1⟩:=V an _ (V HC).2;clear an;obtain ⟨a1,a2⟩:=ra;obtain ⟨c1,c2⟩:=rb;go_wp2_with fail;refine (V J1 _).mono ?_;rintro e W1 ⟨rfl,rfl⟩;clear J1
      cases aB with
      | true =>
       go_wp2_with fail;refine (V J2 _).mono ?_;rintro e W1 ⟨rfl,rfl⟩;clear J2
       cases aq with
       | true =>
        clear K1 KL KP J3 J4 HS ag ah;go_wp2;go_ret;exact ⟨rfl,(V HC).2⟩
       | false =>
        go_wp2_with fail;refine (V J3 _).mono ?_;rintro e W1 ⟨rfl,rfl⟩;clear J3
        cases ay with
        | false =>
         clear J4 HS y0 y1 ag ah;have hh:(true && hanG true false false md am)=false:=(by simp [hanG]);go_wp2_with fail;refine (V K1 _ (V HC) p1 p2).mono ?_;rintro e w1 ⟨fv,rfl,ac,aa⟩;have ab:=O (V KL _ fv ((V HC).on aa) ac.sk);obtain ⟨fo,fc,rfl,_,_⟩:=ac.sk.shape;replace HC:=O ((V HC).on aa);replace HB:=O ((V HB).keep aa);clear K1 KL ac aa x0 x1 x2 x3 x4 x5 x6 x7;obtain ⟨x0,x1,x2,x3,x4,x5,x6,x7⟩:=V HB;by_cases he:fe=0
         ·subst he;go_wp2_with fail;refine (V ab).mono ?_;rintro e w1 ⟨rfl,aa⟩;replace HC:=O ((V HC).on aa);replace HB:=O ((V HB).keep aa);clear ab aa x0 x1 x2 x3 x4 x5 x6 x7;obtain ⟨x0,x1,x2,x3,x4,x5,x6,x7⟩:=V HB
          cases fl with
          | true =>
           clear KP;go_wp2;go_ret;exact ⟨rfl,(V HC).2⟩
          | false =>
           go_wp2_with fail;refine (V KP _ (V HC)).mono ?_;rintro e w1 ⟨rfl,aa⟩;replace HC:=O ((V HC).on aa);replace HB:=O ((V HB).keep aa);clear KP aa x0 x1 x2 x3 x4 x5 x6 x7;obtain ⟨x0,x1,x2,x3,x4,x5,x6,x7⟩:=V HB
           cases pb with
           | true =>
            go_wp2;go_ret;exact ⟨rfl,(V HC).2⟩
           | false =>
            go_wp2;go_ret;exact ⟨rfl,(V HC).2⟩
         ·have d1:(fe != 0)=true:=(by simp [he]);clear ab KP;go_wp2;go_ret;exact ⟨x1C (by first | rfl | assumption) he,(V HC).2⟩
        | true =>
         obtain ⟨s0,s1⟩:=V HS rfl;have e1:(a - 44032).tmod 28=(a - 44032) % 28:=Int.tmod_eq_emod_of_nonneg (by omega)
         cases md with
         | true =>
          have ao:((a - 44032) % 28==0)=true:=beq_iff_eq.2 (V ag rfl);clear ag ah;go_wp2_with fail;refine (V J4 _).mono ?_;rintro e W1 ⟨rfl,rfl⟩;clear J4
          cases am with
          | true =>
           clear K1 KL KP HS;go_wp2;go_ret;exact ⟨rfl,(V HC).2⟩
          | false =>
           clear HS y0 y1;have hh:(true && hanG true false true true false)=false:=(by simp [hanG]);go_wp2_with fail;refine (V K1 _ (V HC) p1 p2).mono ?_;rintro e w1 ⟨fv,rfl,ac,aa⟩;have ab:=O (V KL _ fv ((V HC).on aa) ac.sk);obtain ⟨fo,fc,rfl,_,_⟩:=ac.sk.shape;replace HC:=O ((V HC).on aa);replace HB:=O ((V HB).keep aa);clear K1 KL ac aa x0 x1 x2 x3 x4 x5 x6 x7;obtain ⟨x0,x1,x2,x3,x4,x5,x6,x7⟩:=V HB;by_cases he:fe=0
           ·subst he;go_wp2_with fail;refine (V ab).mono ?_;rintro e w1 ⟨rfl,aa⟩;replace HC:=O ((V HC).on aa);replace HB:=O ((V HB).keep aa);clear ab aa x0 x1 x2 x3 x4 x5 x6 x7;obtain ⟨x0,x1,x2,x3,x4,x5,x6,x7⟩:=V HB
            cases fl with
            | true =>
             clear KP;go_wp2;go_ret;exact ⟨rfl,(V HC).2⟩
            | false =>
             go_wp2_with fail;refine (V KP _ (V HC)).mono ?_;rintro e w1 ⟨rfl,aa⟩;replace HC:=O ((V HC).on aa);replace HB:=O ((V HB).keep aa);clear KP aa x0 x1 x2 x3 x4 x5 x6 x7;obtain ⟨x0,x1,x2,x3,x4,x5,x6,x7⟩:=V HB
             cases pb with
             | true =>
              go_wp2;go_ret;exact ⟨rfl,(V HC).2⟩
             | false =>
              go_wp2;go_ret;exact ⟨rfl,(V HC).2⟩
           ·have d1:(fe != 0)=true:=(by simp [he]);clear ab KP;go_wp2;go_ret;exact ⟨x1C (by first | rfl | assumption) he,(V HC).2⟩
         | false =>
          have ao:((a - 44032) % 28==0)=false:=b0f (V ah rfl);clear ag ah;clear J4 HS;have hh:(true && hanG true false true false am)=false:=(by simp [hanG]);go_wp2_with fail;refine (V K1 _ (V HC) p1 p2).mono ?_;rintro e w1 ⟨fv,rfl,ac,aa⟩;have ab:=O (V KL _ fv ((V HC).on aa) ac.sk);obtain ⟨fo,fc,rfl,_,_⟩:=ac.sk.shape;replace HC:=O ((V HC).on aa);replace HB:=O ((V HB).keep aa);clear K1 KL ac aa x0 x1 x2 x3 x4 x5 x6 x7;obtain ⟨x0,x1,x2,x3,x4,x5,x6,x7⟩:=V HB;by_cases he:fe=0
          ·subst he;go_wp2_with fail;refine (V ab).mono ?_;rintro e w1 ⟨rfl,aa⟩;replace HC:=O ((V HC).on aa);replace HB:=O ((V HB).keep aa);clear ab aa x0 x1 x2 x3 x4 x5 x6 x7;obtain ⟨x0,x1,x2,x3,x4,x5,x6,x7⟩:=V HB
           cases fl with
           | true =>
            clear KP;go_wp2;go_ret;exact ⟨rfl,(V HC).2⟩
           | false =>
            go_wp2_with fail;refine (V KP _ (V HC)).mono ?_;rintro e w1 ⟨rfl,aa⟩;replace HC:=O ((V HC).on aa);replace HB:=O ((V HB).keep aa);clear KP aa x0 x1 x2 x3 x4 x5 x6 x7;obtain ⟨x0,x1,x2,x3,x4,x5,x6,x7⟩:=V HB
            cases pb with
            | true =>
             go_wp2;go_ret;exact ⟨rfl,(V HC).2⟩
            | false =>
             go_wp2;go_ret;exact ⟨rfl,(V HC).2⟩
          ·have d1:(fe != 0)=true:=(by simp [he]);clear ab KP;go_wp2;go_ret;exact ⟨x1C (by first | rfl | assumption) he,(V HC).2⟩
      | false =>
       clear J2;go_wp2_with fail;refine (V J3 _).mono ?_;rintro e W1 ⟨rfl,rfl⟩;clear J3
       cases ay with
       | false =>
        clear J4 HS y0 y1 ag ah;have hh:(true && hanG false aq false md am)=false:=(by simp [hanG]);go_wp2_with fail;refine (V K1 _ (V HC) p1 p2).mono ?_;rintro e w1 ⟨fv,rfl,ac,aa⟩;have ab:=O (V KL _ fv ((V HC).on aa) ac.sk);obtain ⟨fo,fc,rfl,_,_⟩:=ac.sk.shape;replace HC:=O ((V HC).on aa);replace HB:=O ((V HB).keep aa);clear K1 KL ac aa x0 x1 x2 x3 x4 x5 x6 x7;obtain ⟨x0,x1,x2,x3,x4,x5,x6,x7⟩:=V HB;by_cases he:fe=0
        ·subst he;go_wp2_with fail;refine (V ab).mono ?_;rintro e w1 ⟨rfl,aa⟩;replace HC:=O ((V HC).on aa);replace HB:=O ((V HB).keep aa);clear ab aa x0 x1 x2 x3 x4 x5 x6 x7;obtain ⟨x0,x1,x2,x3,x4,x5,x6,x7⟩:=V HB
         cases fl with
         | true =>
          clear KP;go_wp2;go_ret;exact ⟨rfl,(V HC).2⟩
         | false =>
          go_wp2_with fail;refine (V KP _ (V HC)).mono ?_;rintro e w1 ⟨rfl,aa⟩;replace HC:=O ((V HC).on aa);replace HB:=O ((V HB).keep aa);clear KP aa x0 x1 x2 x3 x4 x5 x6 x7;obtain ⟨x0,x1,x2,x3,x4,x5,x6,x7⟩:=V HB
          cases pb with
          | true =>
           go_wp2;go_ret;exact ⟨rfl,(V HC).2⟩
          | false =>
           go_wp2;go_ret;exact ⟨rfl,(V HC).2⟩
        ·have d1:(fe != 0)=true:=(by simp [he]);clear ab KP;go_wp2;go_ret;exact ⟨x1C (by first | rfl | assumption) he,(V HC).2⟩
       | true =>
        obtain ⟨s0,s1⟩:=V HS rfl;have e1:(a - 44032).tmod 28=(a - 44032) % 28:=Int.tmod_eq_emod_of_nonneg (by omega)
        cases md with
        | true =>
         have ao:((a - 44032) % 28==0)=true:=beq_iff_eq.2 (V ag rfl);clear ag ah;go_wp2_with fail;refine (V J4 _).mono ?_;rintro e W1 ⟨rfl,rfl⟩;clear J4
         cases am with
         | true =>
          clear K1 KL KP HS;go_wp2;go_ret;exact ⟨rfl,(V HC).2⟩
         | false =>
          clear HS y0 y1;have hh:(true && hanG false aq true true false)=false:=(by simp [hanG]);go_wp2_with fail;refine (V K1 _ (V HC) p1 p2).mono ?_;rintro e w1 ⟨fv,rfl,ac,aa⟩;have ab:=O (V KL _ fv ((V HC).on aa) ac.sk);obtain ⟨fo,fc,rfl,_,_⟩:=ac.sk.shape;replace HC:=O ((V HC).on aa);replace HB:=O ((V HB).keep aa);clear K1 KL ac aa x0 x1 x2 x3 x4 x5 x6 x7;obtain ⟨x0,x1,x2,x3,x4,x5,x6,x7⟩:=V HB;by_cases he:fe=0
          ·subst he;go_wp2_with fail;refine (V ab).mono ?_;rintro e w1 ⟨rfl,aa⟩;replace HC:=O ((V HC).on aa);replace HB:=O ((V HB).keep aa);clear ab aa x0 x1 x2 x3 x4 x5 x6 x7;obtain ⟨x0,x1,x2,x3,x4,x5,x6,x7⟩:=V HB
           cases fl with
           | true =>
            clear KP;go_wp2;go_ret;exact ⟨rfl,(V HC).2⟩
           | false =>
            go_wp2_with fail;refine (V KP _ (V HC)).mono ?_;rintro e w1 ⟨rfl,aa⟩;replace HC:=O ((V HC).on aa);replace HB:=O ((V HB).keep aa);clear KP aa x0 x1 x2 x3 x4 x5 x6 x7;obtain ⟨x0,x1,x2,x3,x4,x5,x6,x7⟩:=V HB
            cases pb with
            | true =>
             go_wp2;go_ret;exact ⟨rfl,(V HC).2⟩
            | false =>
             go_wp2;go_ret;exact ⟨rfl,(V HC).2⟩
          ·have d1:(fe != 0)=true:=(by simp [he]);clear ab KP;go_wp2;go_ret;exact ⟨x1C (by first | rfl | assumption) he,(V HC).2⟩
        | false =>
         have ao:((a - 44032) % 28==0)=false:=b0f (V ah rfl);clear ag ah;clear J4 HS;have hh:(true && hanG false aq true false am)=false:=(by simp [hanG]);go_wp2_with fail;refine (V K1 _ (V HC) p1 p2).mono ?_;rintro e w1 ⟨fv,rfl,ac,aa⟩;have ab:=O (V KL _ fv ((V HC).on aa) ac.sk);obtain ⟨fo,fc,rfl,_,_⟩:=ac.sk.shape;replace HC:=O ((V HC).on aa);replace HB:=O ((V HB).keep aa);clear K1 KL ac aa x0 x1 x2 x3 x4 x5 x6 x7;obtain ⟨x0,x1,x2,x3,x4,x5,x6,x7⟩:=V HB;by_cases he:fe=0
         ·subst he;go_wp2_with fail;refine (V ab).mono ?_;rintro e w1 ⟨rfl,aa⟩;replace HC:=O ((V HC).on aa);replace HB:=O ((V HB).keep aa);clear ab aa x0 x1 x2 x3 x4 x5 x6 x7;obtain ⟨x0,x1,x2,x3,x4,x5,x6,x7⟩:=V HB
          cases fl with
          | true =>
           clear KP;go_wp2;go_ret;exact ⟨rfl,(V HC).2⟩
          | false =>
           go_wp2_with fail;refine (V KP _ (V HC)).mono ?_;rintro e w1 ⟨rfl,aa⟩;replace HC:=O ((V HC).on aa);replace HB:=O ((V HB).keep aa);clear KP aa x0 x1 x2 x3 x4 x5 x6 x7;obtain ⟨x0,x1,x2,x3,x4,x5,x6,x7⟩:=V HB
           cases pb with
           | true =>
            go_wp2;go_ret;exact ⟨rfl,(V HC).2⟩
           | false =>
            go_wp2;go_ret;exact ⟨rfl,(V HC).2⟩
         ·have d1:(fe != 0)=true:=(by simp [he]);clear ab KP;go_wp2;go_ret;exact ⟨x1C (by first | rfl | assumption) he,(V HC).2⟩
theorem y2j (v:Value) (rs:List Rec) (i:Nat) (w:World) (hv:Rcs w v rs) (ak:(Cn.check6 rs).2=0) (hi:i<rs.length) (h7:¬ (rs.getD i Cn.none).kind=7):Calls prog 37 #[v,.int .i64 i] w (IntB w (Cn.record rs i (rs.getD i Cn.none))):=by
 have hall:=(Cn.x1u ak).2;have hr:=hall (rs.getD i Cn.none) (by simp [List.getD,hi]);rw [x8n];have aw:ChIn w v rs w:=⟨hv,b0r⟩;have af:=hv.fit hi;have aA:=hv.1;have KU:Hid (∀ W c,ChIn w v rs W->Rune c->Calls prog 68 #[v,.int .i32 c] W (x5y W (Cn.full rs c))):=fun W c hW hc=>x2T v rs c W hW.1 hc;have KL:Hid (∀ W u,ChIn w v rs W->Sk .i32 W u (Cn.full rs (rs.getD i Cn.none).lo).1->Calls prog 69 #[v,u] W (x0d W (Cn.fallsA rs (Cn.full rs (rs.getD i Cn.none).lo).1))):=fun W u hW hu=>x3V v u rs _ W hW.1 hu (Nat.le_trans (Cn.x3e rs _) (by omega));have KF:Hid (∀ W,Calls prog 62 #[.int .i64 (rs.getD i Cn.none).kind] W fun e w'=>e=.returned (.int .i64 (Cn.fam (rs.getD i Cn.none).kind))/\w'=W):=fun W=>x0l _ W af.kind;obtain ⟨b,off,cap,rfl,aE,aF,hc⟩:=hv.place (by omega);obtain ⟨x0,x1,x2,x3,⟨va,x4,ar⟩,x5,x6,x7⟩:=hc i hi;have KV:Hid (∀ a c,I64 a->I64 c->∀ W,Calls prog 63 #[recV (rs.getD i Cn.none) va,.int .i64 a,.int .i64 c] W (x0d W (Cn.covers (rs.getD i Cn.none) a c))):=fun a c ha hc W=>x3k _ va a c W af ha hc;unfold recV at KV;obtain ⟨so,sc,rfl,_,_⟩:=ar.shape;rw [d0f h7]
 have hp:Hid (Cn.fam (rs.getD i Cn.none).kind=3->0<=(rs.getD i Cn.none).lo/\(rs.getD i Cn.none).lo<=1114111):=fun e=>by
  have:=Cn.x0o hr (fun e2=>by rw [e2] at e; exact absurd e (by decide));omega
 have i0:(0:Int)<=(i:Int):=(by omega);have i1:(i:Int)<rs.length:=(by omega);have al:=O (V KV 0 127 ⟨by omega,by omega⟩ ⟨by omega,by omega⟩);generalize Cn.covers (rs.getD i Cn.none) 0 127=v0 at *;have aj:=O (V KV 4352 4370 ⟨by omega,by omega⟩ ⟨by omega,by omega⟩);generalize Cn.covers (rs.getD i Cn.none) 4352 4370=v1 at *;have ai:=O (V KV 4449 4469 ⟨by omega,by omega⟩ ⟨by omega,by omega⟩);generalize Cn.covers (rs.getD i Cn.none) 4449 4469=v2 at *;have ae:=O (V KV 4520 4546 ⟨by omega,by omega⟩ ⟨by omega,by omega⟩);generalize Cn.covers (rs.getD i Cn.none) 4520 4546=v3 at *;have ad:=O (V KV 44032 55203 ⟨by omega,by omega⟩ ⟨by omega,by omega⟩);generalize Cn.covers (rs.getD i Cn.none) 44032 55203=v4 at *;generalize Cn.fam (rs.getD i Cn.none).kind=f at *;generalize Cn.pair rs i (rs.getD i Cn.none)=pb at *;generalize hanG _ _ _ _ _=hg at *;have K1:Hid (∀ W,ChIn w (.slice (some ⟨b,off,none⟩) rs.length cap) rs W->0<=(rs.getD i Cn.none).lo->(rs.getD i Cn.none).lo<=1114111->Calls prog 68 #[.slice (some ⟨b,off,none⟩) rs.length cap,.int .i32 (rs.getD i Cn.none).lo] W (x5y W (Cn.full rs (rs.getD i Cn.none).lo))):=fun W hW a1 a2=>V KU W _ hW ⟨by omega,by omega⟩;generalize Cn.full rs (rs.getD i Cn.none).lo=fu at *;generalize Cn.fallsA rs fu.1=fl at *;generalize (rs.getD i Cn.none).to.length=tl at *;clear KU KV hv hc ak hall hr af ar;generalize rs.getD i Cn.none=r at *;generalize r.kind=kd at *;generalize r.lo=lo at *;generalize r.hi=hi2 at *;generalize r.n=n at *;generalize r.name=nm at *;generalize r.other=ot at *;generalize r.wt=wt at *;have az:∀ W a m,(store a (.float .f64 wt) m).run prog W=stored prog W a (.float .f64 wt) m:=fun W a m=>run_store prog W a _ m rfl;obtain ⟨W0,aD,av,au⟩:=x0I w kd lo hi2 n (.slice so tl sc) nm ot wt;have HB:=O av;have HC:=O (aw.on au);clear aw;have hk7:(kd==7)=false:=b0f h7;obtain ⟨aC,fe⟩:=fu;go_enter func37,ntmps37;go_upto_region 2 with fail;clear az x0 x1 x2 x3 x4 x5 x6 x7 au;obtain ⟨x0,x1,x2,x3,x4,x5,x6,x7⟩:=av;go_wp2_with fail;refine (V KF _).mono ?_;rintro e W0 ⟨rfl,rfl⟩;clear KF;by_cases f2:f=2
 ·subst f2;go_wp2_with fail;refine (V al _).mono ?_;rintro e w1 ⟨rfl,aa⟩;replace HC:=O ((V HC).on aa);replace HB:=O ((V HB).keep aa);clear al aa x0 x1 x2 x3 x4 x5 x6 x7;obtain ⟨x0,x1,x2,x3,x4,x5,x6,x7⟩:=V HB
  cases v0 with
  | true =>
   clear aj ai ae ad K1 KL hp;go_wp2;go_ret;exact ⟨rfl,(V HC).2⟩
  | false =>
   go_wp2_with fail;refine (V aj _).mono ?_;rintro e w1 ⟨rfl,aa⟩;replace HC:=O ((V HC).on aa);replace HB:=O ((V HB).keep aa);clear aj aa x0 x1 x2 x3 x4 x5 x6 x7;obtain ⟨x0,x1,x2,x3,x4,x5,x6,x7⟩:=V HB
   cases v1 with
   | true =>
    clear K1 KL ai ae ad hp;go_wp2;go_ret;exact ⟨rfl,(V HC).2⟩
   | false =>
    go_wp2_with fail;refine (V ai _).mono ?_;rintro e w1 ⟨rfl,aa⟩;replace HC:=O ((V HC).on aa);replace HB:=O ((V HB).keep aa);clear ai aa x0 x1 x2 x3 x4 x5 x6 x7;obtain ⟨x0,x1,x2,x3,x4,x5,x6,x7⟩:=V HB
    cases v2 with
    | true =>
     clear K1 KL ae ad hp;go_wp2;go_ret;exact ⟨rfl,(V HC).2⟩
    | false =>
     go_wp2_with fail;refine (V ae _).mono ?_;rintro e w1 ⟨rfl,aa⟩;replace HC:=O ((V HC).on aa);replace HB:=O ((V HB).keep aa);clear ae aa x0 x1 x2 x3 x4 x5 x6 x7;obtain ⟨x0,x1,x2,x3,x4,x5,x6,x7⟩:=V HB
     cases v3 with
     | true =>
      clear K1 KL ad hp;go_wp2;go_ret;exact ⟨rfl,(V HC).2⟩
     | false =>
      go_wp2_with fail;refine (V ad _).mono ?_;rintro e w1 ⟨rfl,aa⟩;replace HC:=O ((V HC).on aa);replace HB:=O ((V HB).keep aa);clear ad aa x0 x1 x2 x3 x4 x5 x6 x7;obtain ⟨x0,x1,x2,x3,x4,x5,x6,x7⟩:=V HB
      cases v4 with
      | true =>
       clear K1 KL hp;go_wp2;go_ret;exact ⟨rfl,(V HC).2⟩
      | false =>
       clear K1 KL hp;go_wp2;go_ret;exact ⟨rfl,(V HC).2⟩
 ·by_cases f3:f=3
  ·subst f3;replace hp:=O (V hp rfl);go_wp2_with fail;refine (V al _).mono ?_;rintro e w1 ⟨rfl,aa⟩;replace HC:=O ((V HC).on aa);replace HB:=O ((V HB).keep aa);clear al aa x0 x1 x2 x3 x4 x5 x6 x7;obtain ⟨x0,x1,x2,x3,x4,x5,x6,x7⟩:=V HB
   cases v0 with
   | true =>
    clear aj ai ae ad K1 KL hp;go_wp2;go_ret;exact ⟨rfl,(V HC).2⟩
   | false =>
    go_wp2_with fail;refine (V aj _).mono ?_;rintro e w1 ⟨rfl,aa⟩;replace HC:=O ((V HC).on aa);replace HB:=O ((V HB).keep aa);clear aj aa x0 x1 x2 x3 x4 x5 x6 x7;obtain ⟨x0,x1,x2,x3,x4,x5,x6,x7⟩:=V HB
    cases v1 with
    | true =>
     clear K1 KL ai ae ad hp;go_wp2;go_ret;exact ⟨rfl,(V HC).2⟩
    | false =>
     go_wp2_with fail;refine (V ai _).mono ?_;rintro e w1 ⟨rfl,aa⟩;replace HC:=O ((V HC).on aa);replace HB:=O ((V HB).keep aa);clear ai aa x0 x1 x2 x3 x4 x5 x6 x7;obtain ⟨x0,x1,x2,x3,x4,x5,x6,x7⟩:=V HB
     cases v2 with
     | true =>
      clear K1 KL ae ad hp;go_wp2;go_ret;exact ⟨rfl,(V HC).2⟩
     | false =>
      go_wp2_with fail;refine (V ae _).mono ?_;rintro e w1 ⟨rfl,aa⟩;replace HC:=O ((V HC).on aa);replace HB:=O ((V HB).keep aa);clear ae aa x0 x1 x2 x3 x4 x5 x6 x7;obtain ⟨x0,x1,x2,x3,x4,x5,x6,x7⟩:=V HB
      cases v3 with
      | true =>
       clear K1 KL ad hp;go_wp2;go_ret;exact ⟨rfl,(V HC).2⟩
      | false =>
       go_wp2_with fail;refine (V ad _).mono ?_;rintro e w1 ⟨rfl,aa⟩;replace HC:=O ((V HC).on aa);replace HB:=O ((V HB).keep aa);clear ad aa x0 x1 x2 x3 x4 x5 x6 x7;obtain ⟨x0,x1,x2,x3,x4,x5,x6,x7⟩:=V HB
       cases v4 with
       | true =>
        clear K1 KL hp;go_wp2;go_ret;exact ⟨rfl,(V HC).2⟩
       | false =>
        have hh:(false && hg)=false:=rfl;obtain ⟨p1,p2⟩:=V hp;go_wp2_with fail;refine (V K1 _ (V HC) p1 p2).mono ?_;rintro e w1 ⟨fv,rfl,ac,aa⟩;have ab:=O (V KL _ fv ((V HC).on aa) ac.sk);obtain ⟨fo,fc,rfl,_,_⟩:=ac.sk.shape;replace HC:=O ((V HC).on aa);replace HB:=O ((V HB).keep aa);clear K1 KL ac aa x0 x1 x2 x3 x4 x5 x6 x7;obtain ⟨x0,x1,x2,x3,x4,x5,x6,x7⟩:=V HB;by_cases he:fe=0
        ·subst he;go_wp2_with fail;refine (V ab).mono ?_;rintro e w1 ⟨rfl,aa⟩;replace HC:=O ((V HC).on aa);replace HB:=O ((V HB).keep aa);clear ab aa x0 x1 x2 x3 x4 x5 x6 x7;obtain ⟨x0,x1,x2,x3,x4,x5,x6,x7⟩:=V HB
         cases fl with
         | true =>
          clear HB;go_wp2;go_ret;exact ⟨rfl,(V HC).2⟩
         | false =>
          go_wp2;go_ret;exact ⟨rfl,(V HC).2⟩
        ·have d1:(fe != 0)=true:=(by simp [he]);clear ab;go_wp2;go_ret;exact ⟨x1C (by first | rfl | assumption) he,(V HC).2⟩
  ·have d2:(f != 2)=true:=(by simp [f2]);have d3:(f != 3)=true:=(by simp [f3]);clear al aj ai ae ad K1 KL hp;go_wp2;go_ret;exact ⟨y2f f2 f3,(V HC).2⟩
theorem x7g:y2Q:=by
 intro v rs i w hv ak hi;by_cases h7:(rs.getD i Cn.none).kind=7
 ·exact y2i v rs i w hv ak hi h7
 ·exact y2j v rs i w hv ak hi h7
