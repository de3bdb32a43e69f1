import Derived.Test.YtbmckadcjdedcaaGreatDoorF34
import Derived.Deep.DeepCutAuto
set_option maxHeartbeats 8000000
set_option maxRecDepth 8000
namespace Go.Proofs.YtbmckadcjdedcaaGreatDoor
open Go.Proofs.Tryz
open Go.RowKit
section
variable{p:Prop}
theorem m8t(h:p:=by
 subst d;go_wp2_with fail;refine c0m G fun Q E=>?_;replace C:=O ((V C).on E);replace B:=O ((V B).keep E);obtain⟨x,x1,S,p,g,t,y,T⟩:=V B
 cases fl with
 | true =>exact P0N
 | false =>
  go_wp2_with fail;refine c1m (V KP _ (V C)) fun Q E=>?_;replace C:=O ((V C).on E);replace B:=O ((V B).keep E);obtain⟨x,x1,S,p,g,t,y,T⟩:=V B
  cases U with
  | true =>exact P0N
  | false =>exact P0N):p:=h
theorem P0N(h:p:=by go_wp2;go_ret;exact⟨rfl,(V C).2⟩):p:=h
theorem n0h(h:p:=by have d1:(Y != 0)=true:=(by simp[d]);go_wp2;go_ret;exact⟨x1X (by first| rfl | assumption) d,(V C).2⟩):p:=h
theorem V7a(h:p:=by simp[hanG]):p:=h
end
def recG(f:Int)(v0 v1 v2 v3 v4 k7 hg:Bool)(fe:Int)(fl pb:Bool):Int :=
 if f≠2/\f≠3 then 0 else if v0=true then 70 else if(v1||v2||v3||v4)=true then 71 else if(k7&&hg)=true then 71 else if f=2 then 0 else if fe≠0 then fe else if fl=true then 75 else if(k7&&!pb)=true then 74 else 0
def hanG(jlb jvb syb md jtb:Bool):Bool:=(jlb&&jvb)||(syb&&md&&jtb)
theorem y1d l i r:Cn.record l i r=recG (Cn.fam r.kind) (Cn.covers r 0 127) (Cn.covers r 4352 4370) (Cn.covers r 4449 4469) (Cn.covers r 4520 4546) (Cn.covers r 44032 55203) (decide (r.kind=7)) (hanG (Cn.jl (r.to.getD 0 0)) (Cn.jv (r.to.getD 1 0)) (Cn.syl (r.to.getD 0 0)) (decide ((r.to.getD 0 0-44032)%28=0)) (Cn.jt (r.to.getD 1 0))) (Cn.full l r.lo).2 (Cn.fallsA l (Cn.full l r.lo).1) (Cn.pair l i r):=by
 unfold Cn.record recG hanG;by_cases o:r.kind=7
 ·grind
 ·grind
theorem y6b{f v0 v1 v2 v3 v4 k7 hg fe fl pb}(D:f≠2)(R:f≠3):Ending.returned (.int .i64 0)=Ending.returned (.int .i64 (recG f v0 v1 v2 v3 v4 k7 hg fe fl pb)):=by
 unfold recG;rw[if_pos ⟨D,R⟩]
theorem x1X{k7 hg fe fl pb}(h:(k7&&hg)=false)(d:¬fe=0):Ending.returned (.int .i64 fe)=Ending.returned (.int .i64 (recG 3 false false false false false k7 hg fe fl pb)):=by
 unfold recG;rw[h,if_neg e8M,if_neg e8M,if_neg e8M,if_neg e8M,if_neg e8M,if_pos d]
theorem y6d v rs i w(N:Rcs w v rs)(aj:(Cn.check6 rs).2=0)(hi:i<rs.length)(o:(rs.getD i Cn.none).kind=7):Calls prog 43 #[v,.int .i64 i] w (IntB w (Cn.record rs i (rs.getD i Cn.none))):=by
 have z:=(Cn.x1J aj).2;have hr:=z (rs.getD i Cn.none) (by simp[List.getD,hi]);rw[y1d];have L:ChIn w v rs w:=⟨N,b0r⟩;have ae:=N.fit hi;have aB:=N.1;have KP:Hid (∀W,ChIn w v rs W->Calls prog 80 #[v,.int .i64 i] W (x0c W (Cn.pair rs i (rs.getD i Cn.none)))):=fun W hW=>y2P v rs i W hW.1 aj hi o;have KU:Hid (∀W c,ChIn w v rs W->Rune c->Calls prog 78 #[v,.int .i32 c] W (x7t W (Cn.full rs c))):=fun W c hW I=>x6X v rs c W hW.1 I;have KL:Hid (∀W u,ChIn w v rs W->Sk .i32 W u (Cn.full rs (rs.getD i Cn.none).lo).1->Calls prog 79 #[v,u] W (x0c W (Cn.fallsA rs (Cn.full rs (rs.getD i Cn.none).lo).1))):=fun W u hW hu=>x5v v u rs _ W hW.1 hu (Nat.le_trans (Cn.x4k rs _) f6J);have KF:Hid (∀W,Calls prog 72 #[.int .i64 (rs.getD i Cn.none).kind] W fun e l=>e=.returned (.int .i64 (Cn.fam (rs.getD i Cn.none).kind))/\l=W):=fun W=>x0l _ W ae.kind;obtain⟨b,P,M,rfl,aF,aG,I⟩:=N.place f6J;obtain⟨x,x1,S,p,⟨va,g,Z⟩,t,y,T⟩:=I i hi;have s:Hid (∀a c,I64 a->I64 c->∀W,Calls prog 73 #[recV (rs.getD i Cn.none) va,.int .i64 a,.int .i64 c] W (x0c W (Cn.covers (rs.getD i Cn.none) a c))):=fun a c ha I W=>x4t _ va a c W ae ha I;unfold recV at s;obtain⟨t1,t2,t3,R,D⟩:=Cn.x7X hr o;have ra:=x0O t2;have j:=x0O t3;have HT:Hid (∀W,Bw w W->Sk .i32 W va (rs.getD i Cn.none).to):=fun W hW=>Z.below hW;obtain⟨tb,ab,sc,rfl,aI,aJ,y0,y1⟩:=x4C Z t1;have X:Hid (∀W,Bw w W->W.cell? ⟨tb,ab,none⟩=some (.int .i32 ((rs.getD i Cn.none).to.getD 0 0))/\W.cell? ⟨tb,ab+1,none⟩=some (.int .i32 ((rs.getD i Cn.none).to.getD 1 0))):=fun W hW=>⟨by rw[hW.cell (x0a y0)];exact y0,by rw[hW.cell (x0a y1)];exact y1⟩;rw[d0t o];rw[o]at KF s x ⊢;have aA:Cn.fam 7=3:=e8P;rw[aA]at KF ⊢;have i0:(0:Int)<=(i:Int):=f6J;have i1:(i:Int)<rs.length:=f6J;have am:=O (V s 0 127 ⟨f6J,f6J⟩ ⟨f6J,f6J⟩);generalize Cn.covers (rs.getD i Cn.none) 0 127=v0 at *;have aq:=O (V s 4352 4370 ⟨f6J,f6J⟩ ⟨f6J,f6J⟩);generalize Cn.covers (rs.getD i Cn.none) 4352 4370=v1 at *;have ar:=O (V s 4449 4469 ⟨f6J,f6J⟩ ⟨f6J,f6J⟩);generalize Cn.covers (rs.getD i Cn.none) 4449 4469=v2 at *;have aw:=O (V s 4520 4546 ⟨f6J,f6J⟩ ⟨f6J,f6J⟩);generalize Cn.covers (rs.getD i Cn.none) 4520 4546=v3 at *;have ay:=O (V s 44032 55203 ⟨f6J,f6J⟩ ⟨f6J,f6J⟩);generalize Cn.covers (rs.getD i Cn.none) 44032 55203=v4 at *;have J1:Hid (∀W,Calls prog 74 #[.int .i32 ((rs.getD i Cn.none).to.getD 0 0)] W fun e l=>e=.returned (.bool (Cn.jl ((rs.getD i Cn.none).to.getD 0 0)))/\l=W):=fun W=>y9Y _ W ra;have J2:Hid (∀W,Calls prog 75 #[.int .i32 ((rs.getD i Cn.none).to.getD 1 0)] W fun e l=>e=.returned (.bool (Cn.jv ((rs.getD i Cn.none).to.getD 1 0)))/\l=W):=fun W=>z0a _ W j;have J3:Hid (∀W,Calls prog 76 #[.int .i32 ((rs.getD i Cn.none).to.getD 0 0)] W fun e l=>e=.returned (.bool (Cn.syl ((rs.getD i Cn.none).to.getD 0 0)))/\l=W):=fun W=>x5a _ W ra;have J4:Hid (∀W,Calls prog 77 #[.int .i32 ((rs.getD i Cn.none).to.getD 1 0)] W fun e l=>e=.returned (.bool (Cn.jt ((rs.getD i Cn.none).to.getD 1 0)))/\l=W):=fun W=>y9Z _ W j;have HS:Hid (Cn.syl ((rs.getD i Cn.none).to.getD 0 0)=true->44032<=(rs.getD i Cn.none).to.getD 0 0/\(rs.getD i Cn.none).to.getD 0 0<=55203):=fun h=>o0d h;generalize Cn.jl ((rs.getD i Cn.none).to.getD 0 0)=jlb,Cn.jv ((rs.getD i Cn.none).to.getD 1 0)=jvb,Cn.syl ((rs.getD i Cn.none).to.getD 0 0)=syb,Cn.jt ((rs.getD i Cn.none).to.getD 1 0)=A at *;obtain⟨J,af⟩:∃J,decide (((rs.getD i Cn.none).to.getD 0 0-44032)%28=0)=J:=⟨_,rfl⟩;rw[af];have F:Hid (J=true->((rs.getD i Cn.none).to.getD 0 0-44032)%28=0):=fun h=>o0d (af.trans h);have ag:Hid (J=false->¬((rs.getD i Cn.none).to.getD 0 0-44032)%28=0):=fun h=>of_decide_eq_false (af.trans h);generalize(rs.getD i Cn.none).to.getD 0 0=a,(rs.getD i Cn.none).to.getD 1 0=c,Cn.pair rs i (rs.getD i Cn.none)=U at *;have H:Hid (∀W,ChIn w (.slice (some ⟨b,P,none⟩) rs.length M) rs W->0<=(rs.getD i Cn.none).lo->(rs.getD i Cn.none).lo<=1114111->Calls prog 78 #[.slice (some ⟨b,P,none⟩) rs.length M,.int .i32 (rs.getD i Cn.none).lo] W (x7t W (Cn.full rs (rs.getD i Cn.none).lo))):=fun W hW a1 a2=>V KU W _ hW ⟨f6J,f6J⟩;generalize Cn.full rs (rs.getD i Cn.none).lo=fu at *;generalize Cn.fallsA rs fu.1=fl at *;generalize rs.getD i Cn.none=r at *;skip;generalize r.lo=lo,r.hi=hi2,r.n=n at *;generalize r.name=nm,r.other=ot,r.wt=wt at *;have aH:∀W a m,(store a (.float .f64 wt) m).run prog W=stored prog W a (.float .f64 wt) m:=fun W a m=>run_store prog W a _ m rfl;obtain⟨W0,aD,ai,az⟩:=x0L w 7 lo hi2 n (.slice (some ⟨tb,ab,none⟩) 2 sc) nm ot wt;have B:=O ai;have C:=O (L.on az);obtain⟨aC,Y⟩:=fu;go_enter func43,ntmps43;go_upto_region 2 with fail;obtain⟨x,x1,S,p,g,t,y,T⟩:=ai;go_wp2_with fail;refine(V KF _).mono ?_;rintro e W0 ⟨rfl,rfl⟩;go_wp2_with fail;refine c1m (V am _) fun Q E=>?_;replace C:=O ((V C).on E);replace B:=O ((V B).keep E);obtain⟨x,x1,S,p,g,t,y,T⟩:=V B
 cases v0 with
 | true =>exact P0N
 | false =>
  go_wp2_with fail;refine c1m (V aq _) fun Q E=>?_;replace C:=O ((V C).on E);replace B:=O ((V B).keep E);obtain⟨x,x1,S,p,g,t,y,T⟩:=V B
  cases v1 with
  | true =>exact P0N
  | false =>
   go_wp2_with fail;refine c1m (V ar _) fun Q E=>?_;replace C:=O ((V C).on E);replace B:=O ((V B).keep E);obtain⟨x,x1,S,p,g,t,y,T⟩:=V B
   cases v2 with
   | true =>exact P0N
   | false =>
    go_wp2_with fail;refine c1m (V aw _) fun Q E=>?_;replace C:=O ((V C).on E);replace B:=O ((V B).keep E);obtain⟨x,x1,S,p,g,t,y,T⟩:=V B
    cases v3 with
    | true =>exact P0N
    | false =>
     go_wp2_with fail;refine c1m (V ay _) fun Q E=>?_;replace C:=O ((V C).on E);replace B:=O ((V B).keep E);obtain⟨x,x1,S,p,g,t,y,T⟩:=V B
     cases v4 with
     | true =>exact P0N
     | false =>
      obtain⟨y0,y1⟩:=V X _ (V C).2;obtain⟨a1,a2⟩:=ra;obtain⟨c1,c2⟩:=j;go_wp2_with fail;refine(V J1 _).mono ?_;rintro e f ⟨rfl,rfl⟩
      cases jlb with
      | true =>
       go_wp2_with fail;refine(V J2 _).mono ?_;rintro e f ⟨rfl,rfl⟩
       cases jvb with
       | true =>exact P0N
       | false =>
        go_wp2_with fail;refine(V J3 _).mono ?_;rintro e f ⟨rfl,rfl⟩
        cases syb with
        | false =>
         have hh:(true&&hanG true false false J A)=false:=V7a;go_wp2_with fail;refine(V H _ (V C) R D).mono ?_;rintro e Q ⟨q,rfl,K,E⟩;have G:=O (V KL _ q ((V C).on E) K.sk);obtain⟨fo,fc,rfl,_,_⟩:=K.sk.shape;replace C:=O ((V C).on E);replace B:=O ((V B).keep E);obtain⟨x,x1,S,p,g,t,y,T⟩:=V B;by_cases d:Y=0
         ·exact m8t
         ·exact n0h
        | true =>
         obtain⟨s0,s1⟩:=V HS rfl;have e1:(a-44032).tmod 28=(a-44032)%28:=Int.tmod_eq_emod_of_nonneg f6J
         cases J with
         | true =>
          have k:((a-44032)%28==0)=true:=beq_iff_eq.2 (V F rfl);go_wp2_with fail;refine(V J4 _).mono ?_;rintro e f ⟨rfl,rfl⟩
          cases A with
          | true =>exact P0N
          | false =>
           have hh:(true&&hanG true false true true false)=false:=V7a;go_wp2_with fail;refine(V H _ (V C) R D).mono ?_;rintro e Q ⟨q,rfl,K,E⟩;have G:=O (V KL _ q ((V C).on E) K.sk);obtain⟨fo,fc,rfl,_,_⟩:=K.sk.shape;replace C:=O ((V C).on E);replace B:=O ((V B).keep E);obtain⟨x,x1,S,p,g,t,y,T⟩:=V B;by_cases d:Y=0
           ·exact m8t
           ·exact n0h
         | false =>
          have k:((a-44032)%28==0)=false:=b0f (V ag rfl);have hh:(true&&hanG true false true false A)=false:=V7a;go_wp2_with fail;refine(V H _ (V C) R D).mono ?_;rintro e Q ⟨q,rfl,K,E⟩;have G:=O (V KL _ q ((V C).on E) K.sk);obtain⟨fo,fc,rfl,_,_⟩:=K.sk.shape;replace C:=O ((V C).on E);replace B:=O ((V B).keep E);obtain⟨x,x1,S,p,g,t,y,T⟩:=V B;by_cases d:Y=0
          ·exact m8t
          ·exact n0h
      | false =>
       go_wp2_with fail;refine(V J3 _).mono ?_;rintro e f ⟨rfl,rfl⟩
       cases syb with
       | false =>
        have hh:(true&&hanG false jvb false J A)=false:=V7a;go_wp2_with fail;refine(V H _ (V C) R D).mono ?_;rintro e Q ⟨q,rfl,K,E⟩;have G:=O (V KL _ q ((V C).on E) K.sk);obtain⟨fo,fc,rfl,_,_⟩:=K.sk.shape;replace C:=O ((V C).on E);replace B:=O ((V B).keep E);obtain⟨x,x1,S,p,g,t,y,T⟩:=V B;by_cases d:Y=0
        ·exact m8t
        ·exact n0h
       | true =>
        obtain⟨s0,s1⟩:=V HS rfl;have e1:(a-44032).tmod 28=(a-44032)%28:=Int.tmod_eq_emod_of_nonneg f6J
        cases J with
        | true =>
         have k:((a-44032)%28==0)=true:=beq_iff_eq.2 (V F rfl);go_wp2_with fail;refine(V J4 _).mono ?_;rintro e f ⟨rfl,rfl⟩
         cases A with
         | true =>exact P0N
         | false =>
          have hh:(true&&hanG false jvb true true false)=false:=V7a;go_wp2_with fail;refine(V H _ (V C) R D).mono ?_;rintro e Q ⟨q,rfl,K,E⟩;have G:=O (V KL _ q ((V C).on E) K.sk);obtain⟨fo,fc,rfl,_,_⟩:=K.sk.shape;replace C:=O ((V C).on E);replace B:=O ((V B).keep E);obtain⟨x,x1,S,p,g,t,y,T⟩:=V B;by_cases d:Y=0
          ·exact m8t
          ·exact n0h
        | false =>
         have k:((a-44032)%28==0)=false:=b0f (V ag rfl);have hh:(true&&hanG false jvb true false A)=false:=V7a;go_wp2_with fail;refine(V H _ (V C) R D).mono ?_;rintro e Q ⟨q,rfl,K,E⟩;have G:=O (V KL _ q ((V C).on E) K.sk);obtain⟨fo,fc,rfl,_,_⟩:=K.sk.shape;replace C:=O ((V C).on E);replace B:=O ((V B).keep E);obtain⟨x,x1,S,p,g,t,y,T⟩:=V B;by_cases d:Y=0
         ·exact m8t
         ·exact n0h
theorem y6e v rs i w(hv:Rcs w v rs)(af:(Cn.check6 rs).2=0)(hi:i<rs.length)(o:¬(rs.getD i Cn.none).kind=7):Calls prog 43 #[v,.int .i64 i] w (IntB w (Cn.record rs i (rs.getD i Cn.none))):=by
 have z:=(Cn.x1J af).2;have hr:=z (rs.getD i Cn.none) n7D;rw[y1d];have L:ChIn w v rs w:=⟨hv,b0r⟩;have l:=hv.fit hi;have ag:=hv.1;have R:Hid (∀W c,ChIn w v rs W->Rune c->Calls prog 78 #[v,.int .i32 c] W (x7t W (Cn.full rs c))):=fun W c hW hc=>x6X v rs c W hW.1 hc;have KL:Hid (∀W u,ChIn w v rs W->Sk .i32 W u (Cn.full rs (rs.getD i Cn.none).lo).1->Calls prog 79 #[v,u] W (x0c W (Cn.fallsA rs (Cn.full rs (rs.getD i Cn.none).lo).1))):=fun W u hW hu=>x5v v u rs _ W hW.1 hu (Nat.le_trans (Cn.x4k rs _) f6J);have KF:Hid (∀W,Calls prog 72 #[.int .i64 (rs.getD i Cn.none).kind] W fun e w'=>e=.returned (.int .i64 (Cn.fam (rs.getD i Cn.none).kind))/\w'=W):=fun W=>x0l _ W l.kind;obtain⟨b,P,ab,rfl,aj,am,hc⟩:=hv.place f6J;obtain⟨x,x1,S,p,⟨va,g,Z⟩,t,y,T⟩:=hc i hi;have s:Hid (∀a c,I64 a->I64 c->∀W,Calls prog 73 #[recV (rs.getD i Cn.none) va,.int .i64 a,.int .i64 c] W (x0c W (Cn.covers (rs.getD i Cn.none) a c))):=fun a c ha hc W=>x4t _ va a c W l ha hc;unfold recV at s;obtain⟨so,sc,rfl,_,_⟩:=Z.shape;rw[d0f o]
 have hp:Hid (Cn.fam (rs.getD i Cn.none).kind=3->0<=(rs.getD i Cn.none).lo/\(rs.getD i Cn.none).lo<=1114111):=fun e=>by
  have:=Cn.x0n hr (fun e2=>by rw[e2]at e;exact absurd e e8N);omega
 have i0:(0:Int)<=(i:Int):=f6J;have i1:(i:Int)<rs.length:=f6J;have H:=O (V s 0 127 ⟨f6J,f6J⟩ ⟨f6J,f6J⟩);generalize Cn.covers (rs.getD i Cn.none) 0 127=F at *;have I:=O (V s 4352 4370 ⟨f6J,f6J⟩ ⟨f6J,f6J⟩);generalize Cn.covers (rs.getD i Cn.none) 4352 4370=X at *;have K:=O (V s 4449 4469 ⟨f6J,f6J⟩ ⟨f6J,f6J⟩);generalize Cn.covers (rs.getD i Cn.none) 4449 4469=j at *;have M:=O (V s 4520 4546 ⟨f6J,f6J⟩ ⟨f6J,f6J⟩);generalize Cn.covers (rs.getD i Cn.none) 4520 4546=v3 at *;have N:=O (V s 44032 55203 ⟨f6J,f6J⟩ ⟨f6J,f6J⟩);generalize Cn.covers (rs.getD i Cn.none) 44032 55203=v4,Cn.fam (rs.getD i Cn.none).kind=f,Cn.pair rs i (rs.getD i Cn.none)=pb,hanG _ _ _ _ _=hg at *;have K1:Hid (∀W,ChIn w (.slice (some ⟨b,P,none⟩) rs.length ab) rs W->0<=(rs.getD i Cn.none).lo->(rs.getD i Cn.none).lo<=1114111->Calls prog 78 #[.slice (some ⟨b,P,none⟩) rs.length ab,.int .i32 (rs.getD i Cn.none).lo] W (x7t W (Cn.full rs (rs.getD i Cn.none).lo))):=fun W hW a1 a2=>V R W _ hW ⟨f6J,f6J⟩;generalize Cn.full rs (rs.getD i Cn.none).lo=fu at *;generalize Cn.fallsA rs fu.1=fl at *;generalize(rs.getD i Cn.none).to.length=tl at *;generalize rs.getD i Cn.none=r at *;generalize r.kind=kd,r.lo=lo,r.hi=hi2,r.n=n at *;generalize r.name=nm,r.other=ot,r.wt=J at *;have aq:∀W a m,(store a (.float .f64 J) m).run prog W=stored prog W a (.float .f64 J) m:=fun W a m=>run_store prog W a _ m rfl;obtain⟨U,k,D,A⟩:=x0L w kd lo hi2 n (.slice so tl sc) nm ot J;have B:=O D;have C:=O (L.on A);have ar:(kd==7)=false:=b0f o;obtain⟨ai,Y⟩:=fu;go_enter func43,ntmps43;go_upto_region 2 with fail;obtain⟨x,x1,S,p,g,t,y,T⟩:=D;go_wp2_with fail;refine(V KF _).mono ?_;rintro e U ⟨rfl,rfl⟩;by_cases f2:f=2
 ·subst f2;go_wp2_with fail;refine c1m (V H _) fun Q E=>?_;replace C:=O ((V C).on E);replace B:=O ((V B).keep E);obtain⟨x,x1,S,p,g,t,y,T⟩:=V B
  cases F with
  | true =>exact P0N
  | false =>
   go_wp2_with fail;refine c1m (V I _) fun Q E=>?_;replace C:=O ((V C).on E);replace B:=O ((V B).keep E);obtain⟨x,x1,S,p,g,t,y,T⟩:=V B
   cases X with
   | true =>exact P0N
   | false =>
    go_wp2_with fail;refine c1m (V K _) fun Q E=>?_;replace C:=O ((V C).on E);replace B:=O ((V B).keep E);obtain⟨x,x1,S,p,g,t,y,T⟩:=V B
    cases j with
    | true =>exact P0N
    | false =>
     go_wp2_with fail;refine c1m (V M _) fun Q E=>?_;replace C:=O ((V C).on E);replace B:=O ((V B).keep E);obtain⟨x,x1,S,p,g,t,y,T⟩:=V B
     cases v3 with
     | true =>exact P0N
     | false =>
      go_wp2_with fail;refine c1m (V N _) fun Q E=>?_;replace C:=O ((V C).on E);replace B:=O ((V B).keep E);obtain⟨x,x1,S,p,g,t,y,T⟩:=V B
      cases v4 with
      | true =>exact P0N
      | false =>exact P0N
 ·by_cases f3:f=3
  ·subst f3;replace hp:=O (V hp rfl);go_wp2_with fail;refine c1m (V H _) fun Q E=>?_;replace C:=O ((V C).on E);replace B:=O ((V B).keep E);obtain⟨x,x1,S,p,g,t,y,T⟩:=V B
   cases F with
   | true =>exact P0N
   | false =>
    go_wp2_with fail;refine c1m (V I _) fun Q E=>?_;replace C:=O ((V C).on E);replace B:=O ((V B).keep E);obtain⟨x,x1,S,p,g,t,y,T⟩:=V B
    cases X with
    | true =>exact P0N
    | false =>
     go_wp2_with fail;refine c1m (V K _) fun Q E=>?_;replace C:=O ((V C).on E);replace B:=O ((V B).keep E);obtain⟨x,x1,S,p,g,t,y,T⟩:=V B
     cases j with
     | true =>exact P0N
     | false =>
      go_wp2_with fail;refine c1m (V M _) fun Q E=>?_;replace C:=O ((V C).on E);replace B:=O ((V B).keep E);obtain⟨x,x1,S,p,g,t,y,T⟩:=V B
      cases v3 with
      | true =>exact P0N
      | false =>
       go_wp2_with fail;refine c1m (V N _) fun Q E=>?_;replace C:=O ((V C).on E);replace B:=O ((V B).keep E);obtain⟨x,x1,S,p,g,t,y,T⟩:=V B
       cases v4 with
       | true =>exact P0N
       | false =>
        have hh:(false&&hg)=false:=rfl;obtain⟨p1,p2⟩:=V hp;go_wp2_with fail;refine(V K1 _ (V C) p1 p2).mono ?_;rintro e Q ⟨q,rfl,ae,E⟩;have G:=O (V KL _ q ((V C).on E) ae.sk);obtain⟨fo,fc,rfl,_,_⟩:=ae.sk.shape;replace C:=O ((V C).on E);replace B:=O ((V B).keep E);obtain⟨x,x1,S,p,g,t,y,T⟩:=V B;by_cases d:Y=0
        ·subst d;go_wp2_with fail;refine c0m G fun Q E=>?_;replace C:=O ((V C).on E);replace B:=O ((V B).keep E);obtain⟨x,x1,S,p,g,t,y,T⟩:=V B
         cases fl with
         | true =>exact P0N
         | false =>exact P0N
        ·exact n0h
  ·have d2:(f != 2)=true:=(by simp[f2]);have d3:(f != 3)=true:=(by simp[f3]);go_wp2;go_ret;exact⟨y6b f2 f3,(V C).2⟩
theorem x9E:y6P:=by
 intro v rs i w N n hi;by_cases o:(rs.getD i Cn.none).kind=7
 ·exact y6d v rs i w N n hi o
 ·exact y6e v rs i w N n hi o
