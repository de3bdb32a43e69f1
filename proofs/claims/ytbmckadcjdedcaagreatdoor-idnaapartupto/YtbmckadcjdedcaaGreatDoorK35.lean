/- Lemmas. -/
import Derived.Test.YtbmckadcjdedcaaGreatDoorK34
import Derived.Deep.DeepCutAuto
set_option maxHeartbeats 8000000
set_option maxRecDepth 8000
namespace Go.Proofs.YtbmckadcjdedcaaGreatDoor
open Go.Proofs.Tryz
open Go.RowKit
section
variable{p:Prop}
theorem I3s(h:p:=by
 subst d;go_wp2_with fail;refine c0m J fun I E=>?_;replace B:=O ((V B).on E);replace t:=O ((V t).keep E);obtain⟨z,x1,X,g,x,j,p,Q⟩:=V t
 cases fl with
 | true =>exact U1R
 | false =>
  go_wp2_with fail;refine c1m (V KP _ (V B)) fun I E=>?_;replace B:=O ((V B).on E);replace t:=O ((V t).keep E);obtain⟨z,x1,X,g,x,j,p,Q⟩:=V t
  cases s with
  | true =>exact U1R
  | false =>exact U1R):p:=h
theorem U1R(h:p:=by go_wp2;go_ret;exact⟨rfl,(V B).2⟩):p:=h
theorem m4G(h:p:=by have d1:(R != 0)=true:=i1x;go_wp2;go_ret;exact⟨x1W (by first| rfl | assumption) d,(V B).2⟩):p:=h
theorem V7a(h:p:=by simp[hanG]):p:=h
end
def recG(f:Int)(v0 v1 v2 v3 v4 k7 hg:Bool)(fe:Int)(fl pb:Bool):Int :=
 if f≠2/\f≠3 then 0 else if v0=true then 70 else if(v1||v2||v3||v4)=true then 71 else if(k7&&hg)=true then 71 else if f=2 then 0 else if fe≠0 then fe else if fl=true then 75 else if(k7&&!pb)=true then 74 else 0
def hanG(jlb jvb syb md jtb:Bool):Bool:=(jlb&&jvb)||(syb&&md&&jtb)
theorem y0T l i r:Cn.record l i r=recG (Cn.fam r.kind) (Cn.covers r 0 127) (Cn.covers r 4352 4370) (Cn.covers r 4449 4469) (Cn.covers r 4520 4546) (Cn.covers r 44032 55203) (decide (r.kind=7)) (hanG (Cn.jl (r.to.getD 0 0)) (Cn.jv (r.to.getD 1 0)) (Cn.syl (r.to.getD 0 0)) (decide ((r.to.getD 0 0-44032)%28=0)) (Cn.jt (r.to.getD 1 0))) (Cn.full l r.lo).2 (Cn.fallsA l (Cn.full l r.lo).1) (Cn.pair l i r):=by
 unfold Cn.record recG hanG;by_cases F:r.kind=7
 ·grind
 ·grind
theorem y5Q{f v0 v1 v2 v3 v4 k7 hg fe fl pb}(D:f≠2)(R:f≠3):Ending.returned (.int .i64 0)=Ending.returned (.int .i64 (recG f v0 v1 v2 v3 v4 k7 hg fe fl pb)):=by
 unfold recG;rw[if_pos ⟨D,R⟩]
theorem x1W{k7 hg fe fl pb}(h:(k7&&hg)=false)(d:¬fe=0):Ending.returned (.int .i64 fe)=Ending.returned (.int .i64 (recG 3 false false false false false k7 hg fe fl pb)):=by
 unfold recG;rw[h,if_neg e8M,if_neg e8M,if_neg e8M,if_neg e8M,if_neg e8M,if_pos d]
theorem y5S v rs i w(N:Rcs w v rs)(ag:(Cn.check6 rs).2=0)(hi:i<rs.length)(h7:(rs.getD i Cn.none).kind=7):Calls prog 43 #[v,.int .i64 i] w (IntB w (Cn.record rs i (rs.getD i Cn.none))):=by
 have S:=(Cn.x1J ag).2;have hr:=S (rs.getD i Cn.none) (by simp[List.getD,hi]);rw[y0T];have ay:ChIn w v rs w:=⟨N,b0r⟩;have ab:=N.fit hi;have aA:=N.1;have KP:Hid (∀W,ChIn w v rs W->Calls prog 80 #[v,.int .i64 i] W (x0c W (Cn.pair rs i (rs.getD i Cn.none)))):=fun W U=>y2H v rs i W U.1 ag hi h7;have KU:Hid (∀W c,ChIn w v rs W->Rune c->Calls prog 78 #[v,.int .i32 c] W (x7r W (Cn.full rs c))):=fun W c U hc=>x6X v rs c W U.1 hc;have KL:Hid (∀W u,ChIn w v rs W->Sk .i32 W u (Cn.full rs (rs.getD i Cn.none).lo).1->Calls prog 79 #[v,u] W (x0c W (Cn.fallsA rs (Cn.full rs (rs.getD i Cn.none).lo).1))):=fun W u U hu=>x5z v u rs _ W U.1 hu (Nat.le_trans (Cn.x4k rs _) f6J);have KF:Hid (∀W,Calls prog 72 #[.int .i64 (rs.getD i Cn.none).kind] W fun e l=>e=.returned (.int .i64 (Cn.fam (rs.getD i Cn.none).kind))/\l=W):=fun W=>x0l _ W ab.kind;obtain⟨b,P,M,rfl,aD,aF,hc⟩:=N.place f6J;obtain⟨z,x1,X,g,⟨va,x,ai⟩,j,p,Q⟩:=hc i hi;have T:Hid (∀a c,I64 a->I64 c->∀W,Calls prog 73 #[recV (rs.getD i Cn.none) va,.int .i64 a,.int .i64 c] W (x0c W (Cn.covers (rs.getD i Cn.none) a c))):=fun a c ha hc W=>x4t _ va a c W ab ha hc;unfold recV at T;obtain⟨t1,t2,t3,p1,y⟩:=Cn.x7V hr h7;have ra:=x0Q t2;have rb:=x0Q t3;have HT:Hid (∀W,Bw w W->Sk .i32 W va (rs.getD i Cn.none).to):=fun W U=>ai.below U;obtain⟨tb,G,sc,rfl,aH,aI,y0,y1⟩:=x4D ai t1;have L:Hid (∀W,Bw w W->W.cell? ⟨tb,G,none⟩=some (.int .i32 ((rs.getD i Cn.none).to.getD 0 0))/\W.cell? ⟨tb,G+1,none⟩=some (.int .i32 ((rs.getD i Cn.none).to.getD 1 0))):=fun W U=>⟨by rw[U.cell (x0a y0)];exact y0,by rw[U.cell (x0a y1)];exact y1⟩;rw[d0t h7];rw[h7]at KF T z ⊢;have az:Cn.fam 7=3:=e8P;rw[az]at KF ⊢;have i0:(0:Int)<=(i:Int):=f6J;have i1:(i:Int)<rs.length:=f6J;have aj:=O (V T 0 127 ⟨f6J,f6J⟩ ⟨f6J,f6J⟩);generalize Cn.covers (rs.getD i Cn.none) 0 127=v0 at *;have am:=O (V T 4352 4370 ⟨f6J,f6J⟩ ⟨f6J,f6J⟩);generalize Cn.covers (rs.getD i Cn.none) 4352 4370=v1 at *;have aq:=O (V T 4449 4469 ⟨f6J,f6J⟩ ⟨f6J,f6J⟩);generalize Cn.covers (rs.getD i Cn.none) 4449 4469=v2 at *;have ar:=O (V T 4520 4546 ⟨f6J,f6J⟩ ⟨f6J,f6J⟩);generalize Cn.covers (rs.getD i Cn.none) 4520 4546=v3 at *;have aw:=O (V T 44032 55203 ⟨f6J,f6J⟩ ⟨f6J,f6J⟩);generalize Cn.covers (rs.getD i Cn.none) 44032 55203=v4 at *;have J1:Hid (∀W,Calls prog 74 #[.int .i32 ((rs.getD i Cn.none).to.getD 0 0)] W fun e l=>e=.returned (.bool (Cn.jl ((rs.getD i Cn.none).to.getD 0 0)))/\l=W):=fun W=>y9R _ W ra;have J2:Hid (∀W,Calls prog 75 #[.int .i32 ((rs.getD i Cn.none).to.getD 1 0)] W fun e l=>e=.returned (.bool (Cn.jv ((rs.getD i Cn.none).to.getD 1 0)))/\l=W):=fun W=>y9T _ W rb;have J3:Hid (∀W,Calls prog 76 #[.int .i32 ((rs.getD i Cn.none).to.getD 0 0)] W fun e l=>e=.returned (.bool (Cn.syl ((rs.getD i Cn.none).to.getD 0 0)))/\l=W):=fun W=>x5d _ W ra;have J4:Hid (∀W,Calls prog 77 #[.int .i32 ((rs.getD i Cn.none).to.getD 1 0)] W fun e l=>e=.returned (.bool (Cn.jt ((rs.getD i Cn.none).to.getD 1 0)))/\l=W):=fun W=>y9S _ W rb;have HS:Hid (Cn.syl ((rs.getD i Cn.none).to.getD 0 0)=true->44032<=(rs.getD i Cn.none).to.getD 0 0/\(rs.getD i Cn.none).to.getD 0 0<=55203):=fun h=>o0d h;generalize Cn.jl ((rs.getD i Cn.none).to.getD 0 0)=jlb,Cn.jv ((rs.getD i Cn.none).to.getD 1 0)=jvb,Cn.syl ((rs.getD i Cn.none).to.getD 0 0)=syb,Cn.jt ((rs.getD i Cn.none).to.getD 1 0)=f at *;obtain⟨K,ae⟩:∃K,decide (((rs.getD i Cn.none).to.getD 0 0-44032)%28=0)=K:=⟨_,rfl⟩;rw[ae];have C:Hid (K=true->((rs.getD i Cn.none).to.getD 0 0-44032)%28=0):=fun h=>o0d (ae.trans h);have af:Hid (K=false->¬((rs.getD i Cn.none).to.getD 0 0-44032)%28=0):=fun h=>of_decide_eq_false (ae.trans h);generalize(rs.getD i Cn.none).to.getD 0 0=a,(rs.getD i Cn.none).to.getD 1 0=c,Cn.pair rs i (rs.getD i Cn.none)=s at *;have o:Hid (∀W,ChIn w (.slice (some ⟨b,P,none⟩) rs.length M) rs W->0<=(rs.getD i Cn.none).lo->(rs.getD i Cn.none).lo<=1114111->Calls prog 78 #[.slice (some ⟨b,P,none⟩) rs.length M,.int .i32 (rs.getD i Cn.none).lo] W (x7r W (Cn.full rs (rs.getD i Cn.none).lo))):=fun W U a1 a2=>V KU W _ U ⟨f6J,f6J⟩;generalize Cn.full rs (rs.getD i Cn.none).lo=fu at *;generalize Cn.fallsA rs fu.1=fl at *;generalize rs.getD i Cn.none=r at *;skip;generalize r.lo=lo,r.hi=hi2,r.n=n at *;generalize r.name=nm,r.other=ot,r.wt=wt at *;have aG:∀W a m,(store a (.float .f64 wt) m).run prog W=stored prog W a (.float .f64 wt) m:=fun W a m=>run_store prog W a _ m rfl;obtain⟨W0,aC,D,A⟩:=x0O w 7 lo hi2 n (.slice (some ⟨tb,G,none⟩) 2 sc) nm ot wt;have t:=O D;have B:=O (ay.on A);obtain⟨aB,R⟩:=fu;go_enter func43,ntmps43;go_upto_region 2 with fail;obtain⟨z,x1,X,g,x,j,p,Q⟩:=D;go_wp2_with fail;refine(V KF _).mono ?_;rintro e W0 ⟨rfl,rfl⟩;go_wp2_with fail;refine c1m (V aj _) fun I E=>?_;replace B:=O ((V B).on E);replace t:=O ((V t).keep E);obtain⟨z,x1,X,g,x,j,p,Q⟩:=V t
 cases v0 with
 | true =>exact U1R
 | false =>
  go_wp2_with fail;refine c1m (V am _) fun I E=>?_;replace B:=O ((V B).on E);replace t:=O ((V t).keep E);obtain⟨z,x1,X,g,x,j,p,Q⟩:=V t
  cases v1 with
  | true =>exact U1R
  | false =>
   go_wp2_with fail;refine c1m (V aq _) fun I E=>?_;replace B:=O ((V B).on E);replace t:=O ((V t).keep E);obtain⟨z,x1,X,g,x,j,p,Q⟩:=V t
   cases v2 with
   | true =>exact U1R
   | false =>
    go_wp2_with fail;refine c1m (V ar _) fun I E=>?_;replace B:=O ((V B).on E);replace t:=O ((V t).keep E);obtain⟨z,x1,X,g,x,j,p,Q⟩:=V t
    cases v3 with
    | true =>exact U1R
    | false =>
     go_wp2_with fail;refine c1m (V aw _) fun I E=>?_;replace B:=O ((V B).on E);replace t:=O ((V t).keep E);obtain⟨z,x1,X,g,x,j,p,Q⟩:=V t
     cases v4 with
     | true =>exact U1R
     | false =>
      obtain⟨y0,y1⟩:=V L _ (V B).2;obtain⟨a1,a2⟩:=ra;obtain⟨c1,c2⟩:=rb;go_wp2_with fail;refine(V J1 _).mono ?_;rintro e q ⟨rfl,rfl⟩
      cases jlb with
      | true =>
       go_wp2_with fail;refine(V J2 _).mono ?_;rintro e q ⟨rfl,rfl⟩
       cases jvb with
       | true =>exact U1R
       | false =>
        go_wp2_with fail;refine(V J3 _).mono ?_;rintro e q ⟨rfl,rfl⟩
        cases syb with
        | false =>
         have hh:(true&&hanG true false false K f)=false:=V7a;go_wp2_with fail;refine(V o _ (V B) p1 y).mono ?_;rintro e I ⟨Y,rfl,Z,E⟩;have J:=O (V KL _ Y ((V B).on E) Z.sk);obtain⟨F,H,rfl,_,_⟩:=Z.sk.shape;replace B:=O ((V B).on E);replace t:=O ((V t).keep E);obtain⟨z,x1,X,g,x,j,p,Q⟩:=V t;by_cases d:R=0
         ·exact I3s
         ·exact m4G
        | true =>
         obtain⟨s0,s1⟩:=V HS rfl;have e1:(a-44032).tmod 28=(a-44032)%28:=Int.tmod_eq_emod_of_nonneg f6J
         cases K with
         | true =>
          have k:((a-44032)%28==0)=true:=beq_iff_eq.2 (V C rfl);go_wp2_with fail;refine(V J4 _).mono ?_;rintro e q ⟨rfl,rfl⟩
          cases f with
          | true =>exact U1R
          | false =>
           have hh:(true&&hanG true false true true false)=false:=V7a;go_wp2_with fail;refine(V o _ (V B) p1 y).mono ?_;rintro e I ⟨Y,rfl,Z,E⟩;have J:=O (V KL _ Y ((V B).on E) Z.sk);obtain⟨F,H,rfl,_,_⟩:=Z.sk.shape;replace B:=O ((V B).on E);replace t:=O ((V t).keep E);obtain⟨z,x1,X,g,x,j,p,Q⟩:=V t;by_cases d:R=0
           ·exact I3s
           ·exact m4G
         | false =>
          have k:((a-44032)%28==0)=false:=b0f (V af rfl);have hh:(true&&hanG true false true false f)=false:=V7a;go_wp2_with fail;refine(V o _ (V B) p1 y).mono ?_;rintro e I ⟨Y,rfl,Z,E⟩;have J:=O (V KL _ Y ((V B).on E) Z.sk);obtain⟨F,H,rfl,_,_⟩:=Z.sk.shape;replace B:=O ((V B).on E);replace t:=O ((V t).keep E);obtain⟨z,x1,X,g,x,j,p,Q⟩:=V t;by_cases d:R=0
          ·exact I3s
          ·exact m4G
      | false =>
       go_wp2_with fail;refine(V J3 _).mono ?_;rintro e q ⟨rfl,rfl⟩
       cases syb with
       | false =>
        have hh:(true&&hanG false jvb false K f)=false:=V7a;go_wp2_with fail;refine(V o _ (V B) p1 y).mono ?_;rintro e I ⟨Y,rfl,Z,E⟩;have J:=O (V KL _ Y ((V B).on E) Z.sk);obtain⟨F,H,rfl,_,_⟩:=Z.sk.shape;replace B:=O ((V B).on E);replace t:=O ((V t).keep E);obtain⟨z,x1,X,g,x,j,p,Q⟩:=V t;by_cases d:R=0
        ·exact I3s
        ·exact m4G
       | true =>
        obtain⟨s0,s1⟩:=V HS rfl;have e1:(a-44032).tmod 28=(a-44032)%28:=Int.tmod_eq_emod_of_nonneg f6J
        cases K with
        | true =>
         have k:((a-44032)%28==0)=true:=beq_iff_eq.2 (V C rfl);go_wp2_with fail;refine(V J4 _).mono ?_;rintro e q ⟨rfl,rfl⟩
         cases f with
         | true =>exact U1R
         | false =>
          have hh:(true&&hanG false jvb true true false)=false:=V7a;go_wp2_with fail;refine(V o _ (V B) p1 y).mono ?_;rintro e I ⟨Y,rfl,Z,E⟩;have J:=O (V KL _ Y ((V B).on E) Z.sk);obtain⟨F,H,rfl,_,_⟩:=Z.sk.shape;replace B:=O ((V B).on E);replace t:=O ((V t).keep E);obtain⟨z,x1,X,g,x,j,p,Q⟩:=V t;by_cases d:R=0
          ·exact I3s
          ·exact m4G
        | false =>
         have k:((a-44032)%28==0)=false:=b0f (V af rfl);have hh:(true&&hanG false jvb true false f)=false:=V7a;go_wp2_with fail;refine(V o _ (V B) p1 y).mono ?_;rintro e I ⟨Y,rfl,Z,E⟩;have J:=O (V KL _ Y ((V B).on E) Z.sk);obtain⟨F,H,rfl,_,_⟩:=Z.sk.shape;replace B:=O ((V B).on E);replace t:=O ((V t).keep E);obtain⟨z,x1,X,g,x,j,p,Q⟩:=V t;by_cases d:R=0
         ·exact I3s
         ·exact m4G
theorem y5T v rs i w(hv:Rcs w v rs)(aj:(Cn.check6 rs).2=0)(hi:i<rs.length)(F:¬(rs.getD i Cn.none).kind=7):Calls prog 43 #[v,.int .i64 i] w (IntB w (Cn.record rs i (rs.getD i Cn.none))):=by
 have S:=(Cn.x1J aj).2;have hr:=S (rs.getD i Cn.none) n7B;rw[y0T];have ai:ChIn w v rs w:=⟨hv,b0r⟩;have l:=hv.fit hi;have s:=hv.1;have KU:Hid (∀W c,ChIn w v rs W->Rune c->Calls prog 78 #[v,.int .i32 c] W (x7r W (Cn.full rs c))):=fun W c U hc=>x6X v rs c W U.1 hc;have KL:Hid (∀W u,ChIn w v rs W->Sk .i32 W u (Cn.full rs (rs.getD i Cn.none).lo).1->Calls prog 79 #[v,u] W (x0c W (Cn.fallsA rs (Cn.full rs (rs.getD i Cn.none).lo).1))):=fun W u U hu=>x5z v u rs _ W U.1 hu (Nat.le_trans (Cn.x4k rs _) f6J);have q:Hid (∀W,Calls prog 72 #[.int .i64 (rs.getD i Cn.none).kind] W fun e w'=>e=.returned (.int .i64 (Cn.fam (rs.getD i Cn.none).kind))/\w'=W):=fun W=>x0l _ W l.kind;obtain⟨b,ag,af,rfl,ar,aw,hc⟩:=hv.place f6J;obtain⟨z,x1,X,g,⟨y,x,am⟩,j,p,Q⟩:=hc i hi;have T:Hid (∀a c,I64 a->I64 c->∀W,Calls prog 73 #[recV (rs.getD i Cn.none) y,.int .i64 a,.int .i64 c] W (x0c W (Cn.covers (rs.getD i Cn.none) a c))):=fun a c ha hc W=>x4t _ y a c W l ha hc;unfold recV at T;obtain⟨so,sc,rfl,_,_⟩:=am.shape;rw[d0f F]
 have L:Hid (Cn.fam (rs.getD i Cn.none).kind=3->0<=(rs.getD i Cn.none).lo/\(rs.getD i Cn.none).lo<=1114111):=fun e=>by
  have:=Cn.x0o hr (fun e2=>by rw[e2]at e;exact absurd e e8N);omega
 have i0:(0:Int)<=(i:Int):=f6J;have i1:(i:Int)<rs.length:=f6J;have M:=O (V T 0 127 ⟨f6J,f6J⟩ ⟨f6J,f6J⟩);generalize Cn.covers (rs.getD i Cn.none) 0 127=G at *;have N:=O (V T 4352 4370 ⟨f6J,f6J⟩ ⟨f6J,f6J⟩);generalize Cn.covers (rs.getD i Cn.none) 4352 4370=v1 at *;have P:=O (V T 4449 4469 ⟨f6J,f6J⟩ ⟨f6J,f6J⟩);generalize Cn.covers (rs.getD i Cn.none) 4449 4469=v2 at *;have ab:=O (V T 4520 4546 ⟨f6J,f6J⟩ ⟨f6J,f6J⟩);generalize Cn.covers (rs.getD i Cn.none) 4520 4546=K at *;have ae:=O (V T 44032 55203 ⟨f6J,f6J⟩ ⟨f6J,f6J⟩);generalize Cn.covers (rs.getD i Cn.none) 44032 55203=v4,Cn.fam (rs.getD i Cn.none).kind=f,Cn.pair rs i (rs.getD i Cn.none)=pb,hanG _ _ _ _ _=hg at *;have o:Hid (∀W,ChIn w (.slice (some ⟨b,ag,none⟩) rs.length af) rs W->0<=(rs.getD i Cn.none).lo->(rs.getD i Cn.none).lo<=1114111->Calls prog 78 #[.slice (some ⟨b,ag,none⟩) rs.length af,.int .i32 (rs.getD i Cn.none).lo] W (x7r W (Cn.full rs (rs.getD i Cn.none).lo))):=fun W U a1 a2=>V KU W _ U ⟨f6J,f6J⟩;generalize Cn.full rs (rs.getD i Cn.none).lo=C at *;generalize Cn.fallsA rs C.1=fl at *;generalize(rs.getD i Cn.none).to.length=tl at *;generalize rs.getD i Cn.none=r at *;generalize r.kind=kd,r.lo=lo,r.hi=hi2,r.n=n at *;generalize r.name=nm,r.other=ot,r.wt=wt at *;have ay:∀W a m,(store a (.float .f64 wt) m).run prog W=stored prog W a (.float .f64 wt) m:=fun W a m=>run_store prog W a _ m rfl;obtain⟨H,k,D,A⟩:=x0O w kd lo hi2 n (.slice so tl sc) nm ot wt;have t:=O D;have B:=O (ai.on A);have az:(kd==7)=false:=b0f F;obtain⟨aq,R⟩:=C;go_enter func43,ntmps43;go_upto_region 2 with fail;obtain⟨z,x1,X,g,x,j,p,Q⟩:=D;go_wp2_with fail;refine(V q _).mono ?_;rintro e H ⟨rfl,rfl⟩;by_cases f2:f=2
 ·subst f2;go_wp2_with fail;refine c1m (V M _) fun I E=>?_;replace B:=O ((V B).on E);replace t:=O ((V t).keep E);obtain⟨z,x1,X,g,x,j,p,Q⟩:=V t
  cases G with
  | true =>exact U1R
  | false =>
   go_wp2_with fail;refine c1m (V N _) fun I E=>?_;replace B:=O ((V B).on E);replace t:=O ((V t).keep E);obtain⟨z,x1,X,g,x,j,p,Q⟩:=V t
   cases v1 with
   | true =>exact U1R
   | false =>
    go_wp2_with fail;refine c1m (V P _) fun I E=>?_;replace B:=O ((V B).on E);replace t:=O ((V t).keep E);obtain⟨z,x1,X,g,x,j,p,Q⟩:=V t
    cases v2 with
    | true =>exact U1R
    | false =>
     go_wp2_with fail;refine c1m (V ab _) fun I E=>?_;replace B:=O ((V B).on E);replace t:=O ((V t).keep E);obtain⟨z,x1,X,g,x,j,p,Q⟩:=V t
     cases K with
     | true =>exact U1R
     | false =>
      go_wp2_with fail;refine c1m (V ae _) fun I E=>?_;replace B:=O ((V B).on E);replace t:=O ((V t).keep E);obtain⟨z,x1,X,g,x,j,p,Q⟩:=V t
      cases v4 with
      | true =>exact U1R
      | false =>exact U1R
 ·by_cases f3:f=3
  ·subst f3;replace L:=O (V L rfl);go_wp2_with fail;refine c1m (V M _) fun I E=>?_;replace B:=O ((V B).on E);replace t:=O ((V t).keep E);obtain⟨z,x1,X,g,x,j,p,Q⟩:=V t
   cases G with
   | true =>exact U1R
   | false =>
    go_wp2_with fail;refine c1m (V N _) fun I E=>?_;replace B:=O ((V B).on E);replace t:=O ((V t).keep E);obtain⟨z,x1,X,g,x,j,p,Q⟩:=V t
    cases v1 with
    | true =>exact U1R
    | false =>
     go_wp2_with fail;refine c1m (V P _) fun I E=>?_;replace B:=O ((V B).on E);replace t:=O ((V t).keep E);obtain⟨z,x1,X,g,x,j,p,Q⟩:=V t
     cases v2 with
     | true =>exact U1R
     | false =>
      go_wp2_with fail;refine c1m (V ab _) fun I E=>?_;replace B:=O ((V B).on E);replace t:=O ((V t).keep E);obtain⟨z,x1,X,g,x,j,p,Q⟩:=V t
      cases K with
      | true =>exact U1R
      | false =>
       go_wp2_with fail;refine c1m (V ae _) fun I E=>?_;replace B:=O ((V B).on E);replace t:=O ((V t).keep E);obtain⟨z,x1,X,g,x,j,p,Q⟩:=V t
       cases v4 with
       | true =>exact U1R
       | false =>
        have hh:(false&&hg)=false:=rfl;obtain⟨p1,p2⟩:=V L;go_wp2_with fail;refine(V o _ (V B) p1 p2).mono ?_;rintro e I ⟨Y,rfl,Z,E⟩;have J:=O (V KL _ Y ((V B).on E) Z.sk);obtain⟨fo,fc,rfl,_,_⟩:=Z.sk.shape;replace B:=O ((V B).on E);replace t:=O ((V t).keep E);obtain⟨z,x1,X,g,x,j,p,Q⟩:=V t;by_cases d:R=0
        ·subst d;go_wp2_with fail;refine c0m J fun I E=>?_;replace B:=O ((V B).on E);replace t:=O ((V t).keep E);obtain⟨z,x1,X,g,x,j,p,Q⟩:=V t
         cases fl with
         | true =>exact U1R
         | false =>exact U1R
        ·exact m4G
  ·have d2:(f != 2)=true:=(by simp[f2]);have d3:(f != 3)=true:=(by simp[f3]);go_wp2;go_ret;exact⟨y5Q f2 f3,(V B).2⟩
theorem x9A:y6E:=by
 intro v rs i w N n hi;by_cases F:(rs.getD i Cn.none).kind=7
 ·exact y5S v rs i w N n hi F
 ·exact y5T v rs i w N n hi F
