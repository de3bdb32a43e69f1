/- Ry7 -/
import Derived.Test.YtbmckadcjdedcaaGreatDoorD34
import Derived.Deep.DeepCutAuto
set_option maxHeartbeats 8000000
set_option maxRecDepth 8000
namespace Go.Proofs.YtbmckadcjdedcaaGreatDoor
open Go.Proofs.Tryz
open Go.RowKit
section
variable{p:Prop}
theorem V2j(h:p:=by
 subst q;go_wp2_with fail;refine c0m Z fun Q E=>?_;replace Y:=O ((V Y).on E);replace B:=O ((V B).keep E);obtain⟨x,x1,p,R,F,j,g,K⟩:=V B
 cases fl with
 | true =>exact P4i
 | false =>
  go_wp2_with fail;refine c1m (V KP _ (V Y)) fun Q E=>?_;replace Y:=O ((V Y).on E);replace B:=O ((V B).keep E);obtain⟨x,x1,p,R,F,j,g,K⟩:=V B
  cases A with
  | true =>exact P4i
  | false =>exact P4i):p:=h
theorem P4i(h:p:=by go_wp2;go_ret;exact⟨rfl,(V Y).2⟩):p:=h
theorem e6y(h:p:=by have d1:(G != 0)=true:=(by simp[q]);go_wp2;go_ret;exact⟨x1V (by first| rfl | assumption) q,(V Y).2⟩):p:=h
theorem V7a(h:p:=by simp[hanG]):p:=h
end
def recG(f:Int)(v0 v1 v2 v3 v4 k7 hg:Bool)(fe:Int)(fl pb:Bool):Int :=
 if f≠2/\f≠3 then 0 else if v0=true then 70 else if(v1||v2||v3||v4)=true then 71 else if(k7&&hg)=true then 71 else if f=2 then 0 else if fe≠0 then fe else if fl=true then 75 else if(k7&&!pb)=true then 74 else 0
def hanG(jlb jvb syb md jtb:Bool):Bool:=(jlb&&jvb)||(syb&&md&&jtb)
theorem y0O(l:List Rec)(i:Nat)(r:Rec):Cn.record l i r=recG (Cn.fam r.kind) (Cn.covers r 0 127) (Cn.covers r 4352 4370) (Cn.covers r 4449 4469) (Cn.covers r 4520 4546) (Cn.covers r 44032 55203) (decide (r.kind=7)) (hanG (Cn.jl (r.to.getD 0 0)) (Cn.jv (r.to.getD 1 0)) (Cn.syl (r.to.getD 0 0)) (decide ((r.to.getD 0 0-44032)%28=0)) (Cn.jt (r.to.getD 1 0))) (Cn.full l r.lo).2 (Cn.fallsA l (Cn.full l r.lo).1) (Cn.pair l i r):=by
 unfold Cn.record recG hanG;by_cases x:r.kind=7
 ·grind
 ·grind
theorem y5z{f:Int}{C H D z F B Y:Bool}{G:Int}{fl A:Bool}(Z:f≠2)(R:f≠3):Ending.returned (.int .i64 0)=Ending.returned (.int .i64 (recG f C H D z F B Y G fl A)):=by
 unfold recG;rw[if_pos ⟨Z,R⟩]
theorem x1V{B Y:Bool}{G:Int}{fl A:Bool}(h:(B&&Y)=false)(q:¬G=0):Ending.returned (.int .i64 G)=Ending.returned (.int .i64 (recG 3 false false false false false B Y G fl A)):=by
 unfold recG;rw[h,if_neg e8M,if_neg e8M,if_neg e8M,if_neg e8M,if_neg e8M,if_pos q]
theorem y5B(v:Value)(rs:List Rec)(i:Nat)(w:World)(N:Rcs w v rs)(ag:(Cn.check6 rs).2=0)(hi:i<rs.length)(h7:(rs.getD i Cn.none).kind=7):Calls prog 43 #[v,.int .i64 i] w (IntB w (Cn.record rs i (rs.getD i Cn.none))):=by
 have S:=(Cn.x1I ag).2;have hr:=S (rs.getD i Cn.none) (by simp[List.getD,hi]);rw[y0O];have ay:ChIn w v rs w:=⟨N,b0r⟩;have o:=N.fit hi;have aA:=N.1;have KP:Hid (∀W,ChIn w v rs W->Calls prog 80 #[v,.int .i64 i] W (x0c W (Cn.pair rs i (rs.getD i Cn.none)))):=fun W t=>y2w v rs i W t.1 ag hi h7;have KU:Hid (∀W c,ChIn w v rs W->Rune c->Calls prog 78 #[v,.int .i32 c] W (x7l W (Cn.full rs c))):=fun W c t I=>x6R v rs c W t.1 I;have KL:Hid (∀W u,ChIn w v rs W->Sk .i32 W u (Cn.full rs (rs.getD i Cn.none).lo).1->Calls prog 79 #[v,u] W (x0c W (Cn.fallsA rs (Cn.full rs (rs.getD i Cn.none).lo).1))):=fun W u t hu=>x5q v u rs _ W t.1 hu (Nat.le_trans (Cn.x4f rs _) f6J);have D:Hid (∀W,Calls prog 72 #[.int .i64 (rs.getD i Cn.none).kind] W fun e w'=>e=.returned (.int .i64 (Cn.fam (rs.getD i Cn.none).kind))/\w'=W):=fun W=>x0l _ W o.kind;obtain⟨b,P,M,rfl,aD,aF,I⟩:=N.place f6J;obtain⟨x,x1,p,R,⟨y,F,ai⟩,j,g,K⟩:=I i hi;have X:Hid (∀a c,I64 a->I64 c->∀W,Calls prog 73 #[recV (rs.getD i Cn.none) y,.int .i64 a,.int .i64 c] W (x0c W (Cn.covers (rs.getD i Cn.none) a c))):=fun a c ha I W=>x4o _ y a c W o ha I;unfold recV at X;obtain⟨t1,t2,t3,p1,p2⟩:=Cn.x7P hr h7;have d:=x0N t2;have l:=x0N t3;have HT:Hid (∀W,Bw w W->Sk .i32 W y (rs.getD i Cn.none).to):=fun W t=>ai.below t;obtain⟨tb,ae,sc,rfl,aH,aI,y0,y1⟩:=x4x ai t1;have L:Hid (∀W,Bw w W->W.cell? ⟨tb,ae,none⟩=some (.int .i32 ((rs.getD i Cn.none).to.getD 0 0))/\W.cell? ⟨tb,ae+1,none⟩=some (.int .i32 ((rs.getD i Cn.none).to.getD 1 0))):=fun W t=>⟨by rw[t.cell (x0a y0)];exact y0,by rw[t.cell (x0a y1)];exact y1⟩;rw[d0t h7];rw[h7]at D X x ⊢;have az:Cn.fam 7=3:=e8P;rw[az]at D ⊢;have i0:(0:Int)<=(i:Int):=f6J;have i1:(i:Int)<rs.length:=f6J;have aj:=O (V X 0 127 ⟨f6J,f6J⟩ ⟨f6J,f6J⟩);generalize Cn.covers (rs.getD i Cn.none) 0 127=v0 at *;have am:=O (V X 4352 4370 ⟨f6J,f6J⟩ ⟨f6J,f6J⟩);generalize Cn.covers (rs.getD i Cn.none) 4352 4370=v1 at *;have aq:=O (V X 4449 4469 ⟨f6J,f6J⟩ ⟨f6J,f6J⟩);generalize Cn.covers (rs.getD i Cn.none) 4449 4469=v2 at *;have ar:=O (V X 4520 4546 ⟨f6J,f6J⟩ ⟨f6J,f6J⟩);generalize Cn.covers (rs.getD i Cn.none) 4520 4546=v3 at *;have aw:=O (V X 44032 55203 ⟨f6J,f6J⟩ ⟨f6J,f6J⟩);generalize Cn.covers (rs.getD i Cn.none) 44032 55203=v4 at *;have J1:Hid (∀W,Calls prog 74 #[.int .i32 ((rs.getD i Cn.none).to.getD 0 0)] W fun e w'=>e=.returned (.bool (Cn.jl ((rs.getD i Cn.none).to.getD 0 0)))/\w'=W):=fun W=>y9x _ W d;have J2:Hid (∀W,Calls prog 75 #[.int .i32 ((rs.getD i Cn.none).to.getD 1 0)] W fun e w'=>e=.returned (.bool (Cn.jv ((rs.getD i Cn.none).to.getD 1 0)))/\w'=W):=fun W=>y9z _ W l;have J3:Hid (∀W,Calls prog 76 #[.int .i32 ((rs.getD i Cn.none).to.getD 0 0)] W fun e w'=>e=.returned (.bool (Cn.syl ((rs.getD i Cn.none).to.getD 0 0)))/\w'=W):=fun W=>x4U _ W d;have J4:Hid (∀W,Calls prog 77 #[.int .i32 ((rs.getD i Cn.none).to.getD 1 0)] W fun e w'=>e=.returned (.bool (Cn.jt ((rs.getD i Cn.none).to.getD 1 0)))/\w'=W):=fun W=>y9y _ W l;have HS:Hid (Cn.syl ((rs.getD i Cn.none).to.getD 0 0)=true->44032<=(rs.getD i Cn.none).to.getD 0 0/\(rs.getD i Cn.none).to.getD 0 0<=55203):=fun h=>o0d h;generalize Cn.jl ((rs.getD i Cn.none).to.getD 0 0)=jlb,Cn.jv ((rs.getD i Cn.none).to.getD 1 0)=jvb,Cn.syl ((rs.getD i Cn.none).to.getD 0 0)=syb,Cn.jt ((rs.getD i Cn.none).to.getD 1 0)=z at *;obtain⟨H,C⟩:∃H,decide (((rs.getD i Cn.none).to.getD 0 0-44032)%28=0)=H:=⟨_,rfl⟩;rw[C];have s:Hid (H=true->((rs.getD i Cn.none).to.getD 0 0-44032)%28=0):=fun h=>o0d (C.trans h);have af:Hid (H=false->¬((rs.getD i Cn.none).to.getD 0 0-44032)%28=0):=fun h=>of_decide_eq_false (C.trans h);generalize(rs.getD i Cn.none).to.getD 0 0=a,(rs.getD i Cn.none).to.getD 1 0=c,Cn.pair rs i (rs.getD i Cn.none)=A at *;have K1:Hid (∀W,ChIn w (.slice (some ⟨b,P,none⟩) rs.length M) rs W->0<=(rs.getD i Cn.none).lo->(rs.getD i Cn.none).lo<=1114111->Calls prog 78 #[.slice (some ⟨b,P,none⟩) rs.length M,.int .i32 (rs.getD i Cn.none).lo] W (x7l W (Cn.full rs (rs.getD i Cn.none).lo))):=fun W t a1 a2=>V KU W _ t ⟨f6J,f6J⟩;generalize Cn.full rs (rs.getD i Cn.none).lo=fu at *;generalize Cn.fallsA rs fu.1=fl at *;generalize rs.getD i Cn.none=r at *;skip;generalize r.lo=lo,r.hi=hi2,r.n=n at *;generalize r.name=nm,r.other=ot,r.wt=wt at *;have aG:∀W a m,(store a (.float .f64 wt) m).run prog W=stored prog W a (.float .f64 wt) m:=fun W a m=>run_store prog W a _ m rfl;obtain⟨W0,aC,T,U⟩:=x0L w 7 lo hi2 n (.slice (some ⟨tb,ae,none⟩) 2 sc) nm ot wt;have B:=O T;have Y:=O (ay.on U);obtain⟨aB,G⟩:=fu;go_enter func43,ntmps43;go_upto_region 2 with fail;obtain⟨x,x1,p,R,F,j,g,K⟩:=T;go_wp2_with fail;refine(V D _).mono ?_;rintro e W0 ⟨rfl,rfl⟩;go_wp2_with fail;refine c1m (V aj _) fun Q E=>?_;replace Y:=O ((V Y).on E);replace B:=O ((V B).keep E);obtain⟨x,x1,p,R,F,j,g,K⟩:=V B
 cases v0 with
 | true =>exact P4i
 | false =>
  go_wp2_with fail;refine c1m (V am _) fun Q E=>?_;replace Y:=O ((V Y).on E);replace B:=O ((V B).keep E);obtain⟨x,x1,p,R,F,j,g,K⟩:=V B
  cases v1 with
  | true =>exact P4i
  | false =>
   go_wp2_with fail;refine c1m (V aq _) fun Q E=>?_;replace Y:=O ((V Y).on E);replace B:=O ((V B).keep E);obtain⟨x,x1,p,R,F,j,g,K⟩:=V B
   cases v2 with
   | true =>exact P4i
   | false =>
    go_wp2_with fail;refine c1m (V ar _) fun Q E=>?_;replace Y:=O ((V Y).on E);replace B:=O ((V B).keep E);obtain⟨x,x1,p,R,F,j,g,K⟩:=V B
    cases v3 with
    | true =>exact P4i
    | false =>
     go_wp2_with fail;refine c1m (V aw _) fun Q E=>?_;replace Y:=O ((V Y).on E);replace B:=O ((V B).keep E);obtain⟨x,x1,p,R,F,j,g,K⟩:=V B
     cases v4 with
     | true =>exact P4i
     | false =>
      obtain⟨y0,y1⟩:=V L _ (V Y).2;obtain⟨a1,a2⟩:=d;obtain⟨c1,c2⟩:=l;go_wp2_with fail;refine(V J1 _).mono ?_;rintro e f ⟨rfl,rfl⟩
      cases jlb with
      | true =>
       go_wp2_with fail;refine(V J2 _).mono ?_;rintro e f ⟨rfl,rfl⟩
       cases jvb with
       | true =>exact P4i
       | false =>
        go_wp2_with fail;refine(V J3 _).mono ?_;rintro e f ⟨rfl,rfl⟩
        cases syb with
        | false =>
         have hh:(true&&hanG true false false H z)=false:=V7a;go_wp2_with fail;refine(V K1 _ (V Y) p1 p2).mono ?_;rintro e Q ⟨k,rfl,J,E⟩;have Z:=O (V KL _ k ((V Y).on E) J.sk);obtain⟨fo,fc,rfl,_,_⟩:=J.sk.shape;replace Y:=O ((V Y).on E);replace B:=O ((V B).keep E);obtain⟨x,x1,p,R,F,j,g,K⟩:=V B;by_cases q:G=0
         ·exact V2j
         ·exact e6y
        | true =>
         obtain⟨s0,s1⟩:=V HS rfl;have e1:(a-44032).tmod 28=(a-44032)%28:=Int.tmod_eq_emod_of_nonneg f6J
         cases H with
         | true =>
          have ab:((a-44032)%28==0)=true:=beq_iff_eq.2 (V s rfl);go_wp2_with fail;refine(V J4 _).mono ?_;rintro e f ⟨rfl,rfl⟩
          cases z with
          | true =>exact P4i
          | false =>
           have hh:(true&&hanG true false true true false)=false:=V7a;go_wp2_with fail;refine(V K1 _ (V Y) p1 p2).mono ?_;rintro e Q ⟨k,rfl,J,E⟩;have Z:=O (V KL _ k ((V Y).on E) J.sk);obtain⟨fo,fc,rfl,_,_⟩:=J.sk.shape;replace Y:=O ((V Y).on E);replace B:=O ((V B).keep E);obtain⟨x,x1,p,R,F,j,g,K⟩:=V B;by_cases q:G=0
           ·exact V2j
           ·exact e6y
         | false =>
          have ab:((a-44032)%28==0)=false:=b0f (V af rfl);have hh:(true&&hanG true false true false z)=false:=V7a;go_wp2_with fail;refine(V K1 _ (V Y) p1 p2).mono ?_;rintro e Q ⟨k,rfl,J,E⟩;have Z:=O (V KL _ k ((V Y).on E) J.sk);obtain⟨fo,fc,rfl,_,_⟩:=J.sk.shape;replace Y:=O ((V Y).on E);replace B:=O ((V B).keep E);obtain⟨x,x1,p,R,F,j,g,K⟩:=V B;by_cases q:G=0
          ·exact V2j
          ·exact e6y
      | false =>
       go_wp2_with fail;refine(V J3 _).mono ?_;rintro e f ⟨rfl,rfl⟩
       cases syb with
       | false =>
        have hh:(true&&hanG false jvb false H z)=false:=V7a;go_wp2_with fail;refine(V K1 _ (V Y) p1 p2).mono ?_;rintro e Q ⟨k,rfl,J,E⟩;have Z:=O (V KL _ k ((V Y).on E) J.sk);obtain⟨fo,fc,rfl,_,_⟩:=J.sk.shape;replace Y:=O ((V Y).on E);replace B:=O ((V B).keep E);obtain⟨x,x1,p,R,F,j,g,K⟩:=V B;by_cases q:G=0
        ·exact V2j
        ·exact e6y
       | true =>
        obtain⟨s0,s1⟩:=V HS rfl;have e1:(a-44032).tmod 28=(a-44032)%28:=Int.tmod_eq_emod_of_nonneg f6J
        cases H with
        | true =>
         have ab:((a-44032)%28==0)=true:=beq_iff_eq.2 (V s rfl);go_wp2_with fail;refine(V J4 _).mono ?_;rintro e f ⟨rfl,rfl⟩
         cases z with
         | true =>exact P4i
         | false =>
          have hh:(true&&hanG false jvb true true false)=false:=V7a;go_wp2_with fail;refine(V K1 _ (V Y) p1 p2).mono ?_;rintro e Q ⟨k,rfl,J,E⟩;have Z:=O (V KL _ k ((V Y).on E) J.sk);obtain⟨fo,fc,rfl,_,_⟩:=J.sk.shape;replace Y:=O ((V Y).on E);replace B:=O ((V B).keep E);obtain⟨x,x1,p,R,F,j,g,K⟩:=V B;by_cases q:G=0
          ·exact V2j
          ·exact e6y
        | false =>
         have ab:((a-44032)%28==0)=false:=b0f (V af rfl);have hh:(true&&hanG false jvb true false z)=false:=V7a;go_wp2_with fail;refine(V K1 _ (V Y) p1 p2).mono ?_;rintro e Q ⟨k,rfl,J,E⟩;have Z:=O (V KL _ k ((V Y).on E) J.sk);obtain⟨fo,fc,rfl,_,_⟩:=J.sk.shape;replace Y:=O ((V Y).on E);replace B:=O ((V B).keep E);obtain⟨x,x1,p,R,F,j,g,K⟩:=V B;by_cases q:G=0
         ·exact V2j
         ·exact e6y
theorem y5C(v:Value)(rs:List Rec)(i:Nat)(w:World)(N:Rcs w v rs)(ag:(Cn.check6 rs).2=0)(hi:i<rs.length)(h7:¬(rs.getD i Cn.none).kind=7):Calls prog 43 #[v,.int .i64 i] w (IntB w (Cn.record rs i (rs.getD i Cn.none))):=by
 have S:=(Cn.x1I ag).2;have hr:=S (rs.getD i Cn.none) n7B;rw[y0O];have A:ChIn w v rs w:=⟨N,b0r⟩;have o:=N.fit hi;have d:=N.1;have s:Hid (∀W c,ChIn w v rs W->Rune c->Calls prog 78 #[v,.int .i32 c] W (x7l W (Cn.full rs c))):=fun W c t I=>x6R v rs c W t.1 I;have KL:Hid (∀W u,ChIn w v rs W->Sk .i32 W u (Cn.full rs (rs.getD i Cn.none).lo).1->Calls prog 79 #[v,u] W (x0c W (Cn.fallsA rs (Cn.full rs (rs.getD i Cn.none).lo).1))):=fun W u t hu=>x5q v u rs _ W t.1 hu (Nat.le_trans (Cn.x4f rs _) f6J);have KF:Hid (∀W,Calls prog 72 #[.int .i64 (rs.getD i Cn.none).kind] W fun e w'=>e=.returned (.int .i64 (Cn.fam (rs.getD i Cn.none).kind))/\w'=W):=fun W=>x0l _ W o.kind;obtain⟨b,P,M,rfl,aq,ar,I⟩:=N.place f6J;obtain⟨x,x1,p,R,⟨y,F,ai⟩,j,g,K⟩:=I i hi;have X:Hid (∀a c,I64 a->I64 c->∀W,Calls prog 73 #[recV (rs.getD i Cn.none) y,.int .i64 a,.int .i64 c] W (x0c W (Cn.covers (rs.getD i Cn.none) a c))):=fun a c L I W=>x4o _ y a c W o L I;unfold recV at X;obtain⟨so,sc,rfl,_,_⟩:=ai.shape;rw[d0f h7]
 have hp:Hid (Cn.fam (rs.getD i Cn.none).kind=3->0<=(rs.getD i Cn.none).lo/\(rs.getD i Cn.none).lo<=1114111):=fun e=>by
  have:=Cn.x0o hr (fun e2=>by rw[e2]at e;exact absurd e e8N);omega
 have i0:(0:Int)<=(i:Int):=f6J;have i1:(i:Int)<rs.length:=f6J;have ab:=O (V X 0 127 ⟨f6J,f6J⟩ ⟨f6J,f6J⟩);generalize Cn.covers (rs.getD i Cn.none) 0 127=v0 at *;have D:=O (V X 4352 4370 ⟨f6J,f6J⟩ ⟨f6J,f6J⟩);generalize Cn.covers (rs.getD i Cn.none) 4352 4370=v1 at *;have ae:=O (V X 4449 4469 ⟨f6J,f6J⟩ ⟨f6J,f6J⟩);generalize Cn.covers (rs.getD i Cn.none) 4449 4469=v2 at *;have H:=O (V X 4520 4546 ⟨f6J,f6J⟩ ⟨f6J,f6J⟩);generalize Cn.covers (rs.getD i Cn.none) 4520 4546=z at *;have J:=O (V X 44032 55203 ⟨f6J,f6J⟩ ⟨f6J,f6J⟩);generalize Cn.covers (rs.getD i Cn.none) 44032 55203=v4,Cn.fam (rs.getD i Cn.none).kind=f,Cn.pair rs i (rs.getD i Cn.none)=pb,hanG _ _ _ _ _=hg at *;have K1:Hid (∀W,ChIn w (.slice (some ⟨b,P,none⟩) rs.length M) rs W->0<=(rs.getD i Cn.none).lo->(rs.getD i Cn.none).lo<=1114111->Calls prog 78 #[.slice (some ⟨b,P,none⟩) rs.length M,.int .i32 (rs.getD i Cn.none).lo] W (x7l W (Cn.full rs (rs.getD i Cn.none).lo))):=fun W t a1 a2=>V s W _ t ⟨f6J,f6J⟩;generalize Cn.full rs (rs.getD i Cn.none).lo=C at *;generalize Cn.fallsA rs C.1=fl at *;generalize(rs.getD i Cn.none).to.length=tl at *;generalize rs.getD i Cn.none=r at *;generalize r.kind=kd,r.lo=lo,r.hi=hi2,r.n=n at *;generalize r.name=nm,r.other=ot,r.wt=wt at *;have aw:∀W a m,(store a (.float .f64 wt) m).run prog W=stored prog W a (.float .f64 wt) m:=fun W a m=>run_store prog W a _ m rfl;obtain⟨l,am,T,U⟩:=x0L w kd lo hi2 n (.slice so tl sc) nm ot wt;have B:=O T;have Y:=O (A.on U);have ay:(kd==7)=false:=b0f h7;obtain⟨aj,G⟩:=C;go_enter func43,ntmps43;go_upto_region 2 with fail;obtain⟨x,x1,p,R,F,j,g,K⟩:=T;go_wp2_with fail;refine(V KF _).mono ?_;rintro e l ⟨rfl,rfl⟩;by_cases f2:f=2
 ·subst f2;go_wp2_with fail;refine c1m (V ab _) fun Q E=>?_;replace Y:=O ((V Y).on E);replace B:=O ((V B).keep E);obtain⟨x,x1,p,R,F,j,g,K⟩:=V B
  cases v0 with
  | true =>exact P4i
  | false =>
   go_wp2_with fail;refine c1m (V D _) fun Q E=>?_;replace Y:=O ((V Y).on E);replace B:=O ((V B).keep E);obtain⟨x,x1,p,R,F,j,g,K⟩:=V B
   cases v1 with
   | true =>exact P4i
   | false =>
    go_wp2_with fail;refine c1m (V ae _) fun Q E=>?_;replace Y:=O ((V Y).on E);replace B:=O ((V B).keep E);obtain⟨x,x1,p,R,F,j,g,K⟩:=V B
    cases v2 with
    | true =>exact P4i
    | false =>
     go_wp2_with fail;refine c1m (V H _) fun Q E=>?_;replace Y:=O ((V Y).on E);replace B:=O ((V B).keep E);obtain⟨x,x1,p,R,F,j,g,K⟩:=V B
     cases z with
     | true =>exact P4i
     | false =>
      go_wp2_with fail;refine c1m (V J _) fun Q E=>?_;replace Y:=O ((V Y).on E);replace B:=O ((V B).keep E);obtain⟨x,x1,p,R,F,j,g,K⟩:=V B
      cases v4 with
      | true =>exact P4i
      | false =>exact P4i
 ·by_cases f3:f=3
  ·subst f3;replace hp:=O (V hp rfl);go_wp2_with fail;refine c1m (V ab _) fun Q E=>?_;replace Y:=O ((V Y).on E);replace B:=O ((V B).keep E);obtain⟨x,x1,p,R,F,j,g,K⟩:=V B
   cases v0 with
   | true =>exact P4i
   | false =>
    go_wp2_with fail;refine c1m (V D _) fun Q E=>?_;replace Y:=O ((V Y).on E);replace B:=O ((V B).keep E);obtain⟨x,x1,p,R,F,j,g,K⟩:=V B
    cases v1 with
    | true =>exact P4i
    | false =>
     go_wp2_with fail;refine c1m (V ae _) fun Q E=>?_;replace Y:=O ((V Y).on E);replace B:=O ((V B).keep E);obtain⟨x,x1,p,R,F,j,g,K⟩:=V B
     cases v2 with
     | true =>exact P4i
     | false =>
      go_wp2_with fail;refine c1m (V H _) fun Q E=>?_;replace Y:=O ((V Y).on E);replace B:=O ((V B).keep E);obtain⟨x,x1,p,R,F,j,g,K⟩:=V B
      cases z with
      | true =>exact P4i
      | false =>
       go_wp2_with fail;refine c1m (V J _) fun Q E=>?_;replace Y:=O ((V Y).on E);replace B:=O ((V B).keep E);obtain⟨x,x1,p,R,F,j,g,K⟩:=V B
       cases v4 with
       | true =>exact P4i
       | false =>
        have hh:(false&&hg)=false:=rfl;obtain⟨p1,p2⟩:=V hp;go_wp2_with fail;refine(V K1 _ (V Y) p1 p2).mono ?_;rintro e Q ⟨k,rfl,af,E⟩;have Z:=O (V KL _ k ((V Y).on E) af.sk);obtain⟨fo,fc,rfl,_,_⟩:=af.sk.shape;replace Y:=O ((V Y).on E);replace B:=O ((V B).keep E);obtain⟨x,x1,p,R,F,j,g,K⟩:=V B;by_cases q:G=0
        ·subst q;go_wp2_with fail;refine c0m Z fun Q E=>?_;replace Y:=O ((V Y).on E);replace B:=O ((V B).keep E);obtain⟨x,x1,p,R,F,j,g,K⟩:=V B
         cases fl with
         | true =>exact P4i
         | false =>exact P4i
        ·exact e6y
  ·have d2:(f != 2)=true:=(by simp[f2]);have d3:(f != 3)=true:=(by simp[f3]);go_wp2;go_ret;exact⟨y5z f2 f3,(V Y).2⟩
theorem x9x:y6l:=by
 intro v rs i w N I hi;by_cases x:(rs.getD i Cn.none).kind=7
 ·exact y5B v rs i w N I hi x
 ·exact y5C v rs i w N I hi x
