/- Rt7 Ru7 -/
import Derived.Test.YtkglkajjofidoaaGreatDoorU13
import Derived.Deep.RegionWith
set_option maxHeartbeats 4000000
set_option maxRecDepth 8000
namespace Go.Proofs.YtkglkajjofidoaaGreatDoor
open Go.RowKit
namespace Cn
def x3Y (rs:List Rec) (k:Nat):Nat × Int:=match x0F rs k (rs.drop k) with
 | some x=>x
 | Option.none=>if baseA rs 78 45 then (0,0) else (rs.length,70)
theorem y6E {rs:List Rec} {k:Nat} (hk:k<rs.length) (h:record rs k (rs.getD k none)≠0):x3Y rs k=(k,record rs k (rs.getD k none)):=by
 have e:rs.getD k none=rs[k]:=(by simp [List.getD,hk]);rw [e] at h ⊢;unfold x3Y;rw [List.drop_eq_getElem_cons hk,x0F,if_neg h]
theorem y4G {rs:List Rec} {k:Nat} (hk:k<rs.length) (h:record rs k (rs.getD k none)=0):x3Y rs k=x3Y rs (k+1):=by
 have e:rs.getD k none=rs[k]:=(by simp [List.getD,hk]);rw [e] at h;unfold x3Y;rw [List.drop_eq_getElem_cons hk,x0F,if_pos h]
def x5o (rs:List Rec) (c:Nat):Nat × Int:=if baseA rs (123 - c) c then (0,0) else (rs.length,70)
theorem y6D (rs:List Rec):x3Y rs rs.length=x5o rs 45:=by
 unfold x3Y;rw [List.drop_length,x0F];rfl
theorem y5d {rs:List Rec} {c:Nat} (h:123≤c):x5o rs c=(0,0):=by
 unfold x5o;rw [show 123 - c=0 by omega,baseA,if_pos rfl]
theorem y7K {rs:List Rec} {c:Nat} (h:c≤122) (h1:baseOf c=true) (h2:plain rs c=false):x5o rs c=(rs.length,70):=by
 unfold x5o;rw [show 123 - c=(122 - c)+1 by omega,baseA,h1,h2];rfl
theorem y2c {rs:List Rec} {c:Nat} (h:c≤122) (h1:baseOf c=false∨plain rs c=true):x5o rs c=x5o rs (c+1):=by
 unfold x5o;rw [show 123 - c=(123 - (c+1))+1 by omega,baseA];have:(!baseOf (c:Int) || plain rs (c:Int))=true:=(by rcases h1 with e | e <;> simp [e]);rw [this,Bool.true_and,Int.natCast_add];rfl
theorem y2t {rs:List Rec} (h:(check6 rs).2≠0):check rs=check6 rs:=by unfold check; rw [if_pos h]
theorem x2P {rs:List Rec} (h:(check6 rs).2=0):check rs=x3Y rs 0:=by unfold check x3Y; rw [if_neg (fun e=>e h)]; rfl
end Cn
def x8o:Prop:=∀ (v:Value) (rs:List Rec) (w:World),Rcs w v rs→Calls Tryz.prog 36 #[v] w (x2M w (Cn.check6 rs))
def y1S:Prop:=∀ (v:Value) (rs:List Rec) (i:Nat) (w:World),Rcs w v rs→(Cn.check6 rs).2=0→i<rs.length→Calls Tryz.prog 37 #[v,.int .i64 i] w (IntB w (Cn.record rs i (rs.getD i Cn.none)))
def ChIn (w:World) (v:Value) (rs:List Rec) (wr:World):Prop:=Rcs wr v rs∧Below w.heap.size w wr
theorem ChIn.on {w wr w':World} {v:Value} {rs:List Rec} (h:ChIn w v rs wr) (hb:Below wr.heap.size wr w'):ChIn w v rs w':=⟨h.1.below hb,x0b h.2 hb⟩
theorem x7S (H6:x8o) (HR:y1S):y1R:=by
 intro v rs w hv;have K6:=Hd (H6 v rs w hv);have am:Hid ((Cn.check6 rs).2≠0→Cn.check rs=Cn.check6 rs):=Cn.y2t;have aw:Hid ((Cn.check6 rs).2=0→Cn.check rs=Cn.x3Y rs 0∧∀ (i:Nat) (wr:World),Rcs wr v rs→i<rs.length→Calls Tryz.prog 37 #[v,.int .i64 i] wr (IntB wr (Cn.record rs i (rs.getD i Cn.none)))):=fun h=>⟨Cn.x2P h,fun i wr hr hi=>HR v rs i wr hr h hi⟩;have HW:Hid (ChIn w v rs w):=⟨hv,Below.refl _ _⟩;generalize Cn.check rs=res at *;generalize Cn.check6 rs=q at *;obtain ⟨q1,q2⟩:=q;have ax:=hv.1;obtain ⟨ao,cap,rfl,_,_⟩:=hv.shape;clear hv H6 HR;go_enter Tryz.func19,Tryz.ntmps19;go_wp2_with fail;refine (Uh K6).mono ?_;rintro e w1 ⟨rfl,aq⟩;clear K6;by_cases hq:q2=0
 ·obtain ⟨aa,au⟩:=(Uh aw) hq
  obtain rfl:q2=0:=hq;have an:=Hd au;have ah:=Hd aa;have az:=Hd ((Uh HW).on aq);clear aw am au aa HW aq;go_wp2;go_loopw [6,7] (fun iv _ wr=>∃ k:Nat,iv=.int .i64 k∧k≤rs.length∧res=Cn.x3Y rs k∧ChIn w (.slice ao rs.length cap) rs wr) (fun iv _ _=>rs.length - (intOf iv).toNat)
  case atStart=>exact ⟨0,rfl,by omega,Uh ah,Uh az⟩
  case round =>
   obtain ⟨k,rfl,hk,aa,ad⟩:=hrel;clear ah az;by_cases hlt:k<rs.length
   ·have KC:=Hd ((Uh an) k wr ad.1 hlt)
    have ag:Hid (Cn.record rs k (rs.getD k Cn.none)≠0→res=(k,Cn.record rs k (rs.getD k Cn.none))):=fun h=>aa.trans (Cn.y6E hlt h);have af:Hid (Cn.record rs k (rs.getD k Cn.none)=0→res=Cn.x3Y rs (k+1)):=fun h=>aa.trans (Cn.y4G hlt h);have ab:=Hd ad;clear aa ad an;generalize Cn.record rs k (rs.getD k Cn.none)=y at *;go_wp2_with fail;refine (Uh KC).mono ?_;rintro e w2 ⟨rfl,ae⟩;clear KC;by_cases hy:y=0
    ·have HN:=Hd ((Uh af) hy)
     obtain rfl:y=0:=hy;have ai:=Hd ((Uh ab).on ae);clear af ag ab ae;go_wp2;go_round
     case rel=>exact ⟨k+1,by go_num,by omega,Uh HN,Uh ai⟩
     case measure=>simp [intOf]; omega
    ·obtain rfl:=(Uh ag) hy
     have aF:(y==0)=false:=beq_eq_false_iff_ne.2 hy;have ai:=Hd ((Uh ab).on ae).2;clear af ag ab ae hy;go_wp2;go_ret2;exact ⟨rfl,Uh ai⟩
   ·obtain rfl:k=rs.length:=by omega
    have ah:=Hd (aa.trans (Cn.y6D rs));have ab:=Hd ad;clear aa ad an;go_wp2;go_loopw [8] (fun iv wi=>∃ c:Nat,iv=.int .i32 c∧45≤c∧c≤123∧res=Cn.x5o rs c∧ChIn w (.slice ao rs.length cap) rs wi) (fun iv _=>123 - (intOf iv).toNat)
    case atStart=>exact ⟨45,rfl,by omega,by omega,Uh ah,Uh ab⟩
    case round =>
     obtain ⟨c,rfl,hc0,aA,aa,ad⟩:=hrel;clear ah ab;by_cases hlt2:c≤122
     ·have KP:=Hd (x7U _ rs c wr ad.1 ⟨by omega,by omega⟩)
      have ak:Hid (Cn.baseOf c=true→Cn.plain rs c=false→res=(rs.length,70)):=fun a b=>aa.trans (Cn.y7K hlt2 a b);have af:Hid (Cn.baseOf c=false∨Cn.plain rs c=true→res=Cn.x5o rs (c+1)):=fun a=>aa.trans (Cn.y2c hlt2 a);have ab:=Hd ad;have aj:Hid (∀ b,decide ((c:Int)=45∨(c:Int)=46∨(48≤(c:Int)∧(c:Int)≤57)∨97≤(c:Int))=b→Cn.baseOf c=b):=fun b h=>h;clear aa ad;generalize Cn.plain rs c=y at *;generalize Cn.baseOf c=z at *;by_cases e1:c=45
      ·subst e1
       obtain rfl:=(Uh aj) true (decide_eq_true (by omega));have ac:Hid (y=false→res=(rs.length,70)):=fun h=>(Uh ak) rfl h;clear aj ak;go_wp2_with fail;refine (Uh KP).mono ?_;rintro e w2 ⟨rfl,ae⟩;clear KP
       cases y with
       | false =>
        obtain rfl:=(Uh ac) rfl;have HF:=Hd ((Uh ab).on ae).2;clear ac af ab ae;go_wp2;go_ret2;exact ⟨rfl,Uh HF⟩
       | true =>
        have HN:=Hd ((Uh af) (.inr rfl));have ai:=Hd ((Uh ab).on ae);clear ac af ab ae;go_wp2;go_round
        case rel=>exact ⟨46,by go_num,by omega,by omega,Uh HN,Uh ai⟩
        case measure=>simp [intOf] <;> omega
      ·by_cases e2:c=46
       ·subst e2
        obtain rfl:=(Uh aj) true (decide_eq_true (by omega));have ac:Hid (y=false→res=(rs.length,70)):=fun h=>(Uh ak) rfl h;clear aj ak;go_wp2_with fail;refine (Uh KP).mono ?_;rintro e w2 ⟨rfl,ae⟩;clear KP
        cases y with
        | false =>
         obtain rfl:=(Uh ac) rfl;have HF:=Hd ((Uh ab).on ae).2;clear ac af ab ae;go_wp2;go_ret2;exact ⟨rfl,Uh HF⟩
        | true =>
         have HN:=Hd ((Uh af) (.inr rfl));have ai:=Hd ((Uh ab).on ae);clear ac af ab ae;go_wp2;go_round
         case rel=>exact ⟨47,by go_num,by omega,by omega,Uh HN,Uh ai⟩
         case measure=>simp [intOf] <;> omega
       ·have q45:((c:Int)==45)=false:=beq_eq_false_iff_ne.2 (by omega)
        have q46:((c:Int)==46)=false:=beq_eq_false_iff_ne.2 (by omega);by_cases e3:48≤c
        ·by_cases e4:c≤57
         ·obtain rfl:=(Uh aj) true (decide_eq_true (by omega))
          have ac:Hid (y=false→res=(rs.length,70)):=fun h=>(Uh ak) rfl h;clear aj ak;go_wp2_with fail;refine (Uh KP).mono ?_;rintro e w2 ⟨rfl,ae⟩;clear KP
          cases y with
          | false =>
           obtain rfl:=(Uh ac) rfl;have HF:=Hd ((Uh ab).on ae).2;clear ac af ab ae;go_wp2;go_ret2;exact ⟨rfl,Uh HF⟩
          | true =>
           have HN:=Hd ((Uh af) (.inr rfl));have ai:=Hd ((Uh ab).on ae);clear ac af ab ae;go_wp2;go_round
           case rel=>exact ⟨c+1,by go_num,by omega,by omega,Uh HN,Uh ai⟩
           case measure=>simp [intOf] <;> omega
         ·by_cases e5:97≤c
          ·obtain rfl:=(Uh aj) true (decide_eq_true (by omega))
           have ac:Hid (y=false→res=(rs.length,70)):=fun h=>(Uh ak) rfl h;clear aj ak;go_wp2_with fail;refine (Uh KP).mono ?_;rintro e w2 ⟨rfl,ae⟩;clear KP
           cases y with
           | false =>
            obtain rfl:=(Uh ac) rfl;have HF:=Hd ((Uh ab).on ae).2;clear ac af ab ae;go_wp2;go_ret2;exact ⟨rfl,Uh HF⟩
           | true =>
            have HN:=Hd ((Uh af) (.inr rfl));have ai:=Hd ((Uh ab).on ae);clear ac af ab ae;go_wp2;go_round
            case rel=>exact ⟨c+1,by go_num,by omega,by omega,Uh HN,Uh ai⟩
            case measure=>simp [intOf] <;> omega
          ·obtain rfl:=(Uh aj) false (decide_eq_false (by omega))
           have HN:=Hd ((Uh af) (.inl rfl));have ai:=Hd (Uh ab);clear aj KP ak af ab;go_wp2;go_round
           case rel=>exact ⟨c+1,by go_num,by omega,by omega,Uh HN,Uh ai⟩
           case measure=>simp [intOf]; omega
        ·obtain rfl:=(Uh aj) false (decide_eq_false (by omega))
         have HN:=Hd ((Uh af) (.inl rfl));have ai:=Hd (Uh ab);clear aj KP ak af ab;go_wp2;go_round
         case rel=>exact ⟨c+1,by go_num,by omega,by omega,Uh HN,Uh ai⟩
         case measure=>simp [intOf]; omega
     ·obtain rfl:=aa.trans (Cn.y5d (by omega))
      have HF:=Hd ad.2;clear aa ad;go_wp2;go_ret2;exact ⟨rfl,Uh HF⟩
 ·obtain rfl:=(Uh am) hq
  have aF:(q2==0)=false:=beq_eq_false_iff_ne.2 hq;have HF:=Hd aq;clear aw am HW aq hq;go_wp2;go_ret2;exact ⟨rfl,Uh HF⟩
namespace Cn
def x3Z (rs:List Rec) (i:Nat):Nat × Int:=match x1i rs i (rs.drop i) with
 | some i=>(i,62)
 | Option.none=>(0,0)
def x5f (rs:List Rec) (k:Nat):Nat × Int:=match x0P k (rs.drop k) with
 | some x=>x
 | Option.none=>x3Z rs 0
theorem q_hit {rs:List Rec} {k:Nat} (hk:k<rs.length) (h:right (rs.getD k none)≠0):x5f rs k=(k,right (rs.getD k none)):=by
 have e:rs.getD k none=rs[k]:=(by simp [List.getD,hk]);rw [e] at h ⊢;unfold x5f;rw [List.drop_eq_getElem_cons hk,x0P,if_neg h]
theorem z0K {rs:List Rec} {k:Nat} (hk:k<rs.length) (h:right (rs.getD k none)=0):x5f rs k=x5f rs (k+1):=by
 have e:rs.getD k none=rs[k]:=(by simp [List.getD,hk]);rw [e] at h;unfold x5f;rw [List.drop_eq_getElem_cons hk,x0P,if_pos h]
theorem q_end (rs:List Rec):x5f rs rs.length=x3Z rs 0:=by
 unfold x5f;rw [List.drop_length,x0P]
theorem t_hit {rs:List Rec} {i k:Nat} (hi:i<rs.length) (hk:k<i) (h:clash (rs.getD k none) (rs.getD i none)=true):x3Z rs i=(i,62):=by
 have e:rs.getD i none=rs[i]:=(by simp [List.getD,hi]);have e2:rs.getD k none=rs[k]:=(by simp [List.getD,Nat.lt_trans hk hi]);rw [e,e2] at h;unfold x3Z;rw [List.drop_eq_getElem_cons hi,x1i,if_pos];rw [List.any_eq_true];exact ⟨rs[k],List.mem_take_iff_getElem.2 ⟨k,by omega,rfl⟩,h⟩
theorem z1l {rs:List Rec} {i:Nat} (hi:i<rs.length) (h:∀ k,k<i→clash (rs.getD k none) (rs.getD i none)=false):x3Z rs i=x3Z rs (i+1):=by
 have e:rs.getD i none=rs[i]:=(by simp [List.getD,hi]);unfold x3Z;rw [List.drop_eq_getElem_cons hi,x1i,if_neg];rw [List.any_eq_true];rintro ⟨x,hx,hc⟩;obtain ⟨k,hk,rfl⟩:=List.mem_take_iff_getElem.1 hx;have:=h k (by omega);rw [e,show rs.getD k none=rs[k] by simp [List.getD,show k<rs.length by omega]] at this;rw [this] at hc;cases hc
theorem t_end (rs:List Rec):x3Z rs rs.length=(0,0):=by
 unfold x3Z;rw [List.drop_length,x1i]
theorem x8u {rs:List Rec} (h:4096<rs.length):check6 rs=(0,3):=by unfold check6; rw [if_pos h]
theorem y0v {rs:List Rec} (h:¬ 4096<rs.length):check6 rs=x5f rs 0:=by
 unfold check6 x5f x3Z;rw [if_neg h];rfl
end Cn
def y6S:Prop:=∀ (r:Rec) (vt:Value) (w:World),RecFit r→Sk .i32 w vt r.to→Calls Tryz.prog 60 #[recV r vt] w (IntB w (Cn.right r))
def y6R:Prop:=∀ (a b:Rec) (va vb:Value) (w:World),RecFit a→RecFit b→Sk .i32 w va a.to→Sk .i32 w vb b.to→Cn.right a=0→Cn.right b=0→Calls Tryz.prog 61 #[recV a va,recV b vb] w (x0d w (Cn.clash a b))
theorem x6N (HR:y6S) (HC:y6R):x8o:=by
 intro v rs w hv;have HW:Hid (ChIn w v rs w):=⟨hv,Below.refl _ _⟩;have ax:=hv.1;by_cases hbig:4096<rs.length
 ·rw [Cn.x8u hbig]
  obtain ⟨ao,cap,rfl,_,_⟩:=hv.shape;clear hv HR HC HW;go_enter Tryz.func36,Tryz.ntmps36;go_wp2;go_ret2;exact ⟨rfl,Below.refl _ _⟩
 ·have ah:=Hd (Cn.y0v hbig)
  generalize Cn.check6 rs=res at *;obtain ⟨ao,cap,rfl,_,_⟩:=hv.shape;have HR:=Hd HR;have HC:=Hd HC;clear hv;go_enter Tryz.func36,Tryz.ntmps36;go_wp2;go_loopw [4,5] (fun iv _ wr=>∃ k:Nat,iv=.int .i64 k∧k≤rs.length∧res=Cn.x5f rs k∧(∀ j,j<k→Cn.right (rs.getD j Cn.none)=0)∧ChIn w (.slice ao rs.length cap) rs wr) (fun iv _ _=>rs.length - (intOf iv).toNat)
  case atStart=>exact ⟨0,rfl,by omega,Uh ah,fun j hj=>absurd hj (Nat.not_lt_zero _),Uh HW⟩
  case round =>
   obtain ⟨k,rfl,hk,aa,hall,ad⟩:=hrel;clear ah HW;by_cases hlt:k<rs.length
   ·have ag:Hid (Cn.right (rs.getD k Cn.none)≠0→res=(k,Cn.right (rs.getD k Cn.none))):=fun h=>aa.trans (Cn.q_hit hlt h)
    have af:Hid (Cn.right (rs.getD k Cn.none)=0→res=Cn.x5f rs (k+1)∧∀ j,j<k+1→Cn.right (rs.getD j Cn.none)=0):=fun h=>⟨aa.trans (Cn.z0K hlt h),fun j hj=>by
     rcases Nat.lt_or_ge j k with h' | h'
     ·exact hall j h'
     ·obtain rfl:j=k:=by omega
      exact h⟩
    have ab:=Hd ad;have hf:=ad.1.fit hlt;obtain ⟨b,off,ap,he,aA,aH,hc⟩:=ad.1.place (by omega);obtain ⟨rfl,rfl⟩:ao=some ⟨b,off,none⟩∧cap=ap:=(by simpa using he);have hA:=hc k hlt;clear hc he aa hall ad;obtain ⟨x0,x1,x2,x3,⟨va,x4,ar⟩,x5,x6,x7⟩:=hA;have KC:=Hd ((Uh HR) _ va wr hf ar);unfold recV at KC;obtain ⟨tq,tc,rfl,_,_⟩:=ar.shape;clear HR HC hf ar;generalize Cn.right (rs.getD k Cn.none)=y at *;generalize rs.getD k Cn.none=r at *;generalize r.kind=kd at *;generalize r.n=n at *;generalize r.lo=lo at *;generalize r.hi=hi at *;generalize r.name=nm at *;generalize r.other=ot at *;generalize r.wt=wt at *;generalize r.to.length=tl at *;go_wp2_with fail;refine (Uh KC).mono ?_;rintro e w2 ⟨rfl,ae⟩;clear KC x0 x1 x2 x3 x4 x5 x6 x7;by_cases hy:y=0
    ·have HN:=Hd ((Uh af) hy)
     obtain rfl:y=0:=hy;have ai:=Hd ((Uh ab).on ae);clear af ag ab ae;go_wp2;go_round
     case rel=>exact ⟨k+1,by go_num,by omega,(Uh HN).1,(Uh HN).2,Uh ai⟩
     case measure=>simp [intOf]; omega
    ·obtain rfl:=(Uh ag) hy
     have aF:(y==0)=false:=beq_eq_false_iff_ne.2 hy;have ai:=Hd ((Uh ab).on ae).2;clear af ag ab ae hy;go_wp2;go_ret2;exact ⟨rfl,Uh ai⟩
   ·obtain rfl:k=rs.length:=by omega
    have ah:=Hd (aa.trans (Cn.q_end rs));have ab:=Hd ad;have al:=Hd hall;clear aa ad hall HR;go_wp2;go_loopw [6,7] (fun iv _ wi=>∃ i:Nat,iv=.int .i64 i∧i≤rs.length∧res=Cn.x3Z rs i∧ChIn w (.slice ao rs.length cap) rs wi) (fun iv _ _=>rs.length - (intOf iv).toNat)
    case atStart=>exact ⟨0,rfl,by omega,Uh ah,Uh ab⟩
    case round =>
     obtain ⟨i,rfl,hi,aa,ad⟩:=hrel;clear ah ab;by_cases hlt2:i<rs.length
     ·have ag:Hid (∀ k,k<i→Cn.clash (rs.getD k Cn.none) (rs.getD i Cn.none)=true→res=(i,62)):=fun k a h=>aa.trans (Cn.t_hit hlt2 a h)
      have af:Hid ((∀ k,k<i→Cn.clash (rs.getD k Cn.none) (rs.getD i Cn.none)=false)→res=Cn.x3Z rs (i+1)):=fun h=>aa.trans (Cn.z1l hlt2 h);have ab:=Hd ad;clear aa ad;go_wp2;go_loopw [7] (fun kv wj=>∃ k:Nat,kv=.int .i64 k∧k≤i∧(∀ j,j<k→Cn.clash (rs.getD j Cn.none) (rs.getD i Cn.none)=false)∧ChIn w (.slice ao rs.length cap) rs wj) (fun kv _=>i - (intOf kv).toNat)
      case atStart=>exact ⟨0,rfl,by omega,fun j hj=>absurd hj (Nat.not_lt_zero _),Uh ab⟩
      case round =>
       obtain ⟨k,rfl,hk2,av,ad⟩:=hrel;clear ab;by_cases hlt3:k<i
       ·have HH:=Hd ((Uh ag) k hlt3)
        have HN:Hid (Cn.clash (rs.getD k Cn.none) (rs.getD i Cn.none)=false→∀ j,j<k+1→Cn.clash (rs.getD j Cn.none) (rs.getD i Cn.none)=false):=fun h j hj=>by
         rcases Nat.lt_or_ge j k with h' | h'
         ·exact av j h'
         ·obtain rfl:j=k:=by omega
          exact h
        have ab:=Hd ad;have aC:=ad.1.fit (i:=k) (by omega);have aB:=ad.1.fit hlt2;have aE:=(Uh al) k (by omega);have aD:=(Uh al) i hlt2;obtain ⟨b,off,ap,he,aA,aH,hc⟩:=ad.1.place (by omega);obtain ⟨rfl,rfl⟩:ao=some ⟨b,off,none⟩∧cap=ap:=(by simpa using he);have hA:=hc k (by omega);have hB:=hc i hlt2;clear hc he av ad ag af al;obtain ⟨x0,x1,x2,x3,⟨va,x4,ar⟩,x5,x6,x7⟩:=hA;obtain ⟨y0,y1,y2,y3,⟨vb,y4,ay⟩,y5,y6,y7⟩:=hB;have KC:Hid (∀ n,Calls Tryz.prog 61 #[recV (rs.getD k Cn.none) va,recV (rs.getD i Cn.none) vb] (wr.drewN n) (x0d (wr.drewN n) (Cn.clash (rs.getD k Cn.none) (rs.getD i Cn.none)))):=fun n=>(Uh HC) _ _ va vb _ aC aB (x3w ar n) (x3w ay n) aE aD;unfold recV at KC;obtain ⟨tq,tc,rfl,_,_⟩:=ar.shape;obtain ⟨uo,uc,rfl,_,_⟩:=ay.shape;clear HC aC aB aE aD ar ay;generalize Cn.clash (rs.getD k Cn.none) (rs.getD i Cn.none)=y at HH KC HN;generalize (rs.getD k Cn.none).kind=kind1 at *;generalize (rs.getD k Cn.none).lo=lo1 at *;generalize (rs.getD k Cn.none).hi=hi1 at *;generalize (rs.getD k Cn.none).n=n1 at *;generalize (rs.getD k Cn.none).name=name1 at *;generalize (rs.getD k Cn.none).other=other1 at *;generalize (rs.getD k Cn.none).wt=wt1 at *;generalize (rs.getD k Cn.none).to.length=tl1 at *;generalize (rs.getD i Cn.none).kind=kind2 at *;generalize (rs.getD i Cn.none).lo=lo2 at *;generalize (rs.getD i Cn.none).hi=hi2 at *;generalize (rs.getD i Cn.none).n=n2 at *;generalize (rs.getD i Cn.none).name=name2 at *;generalize (rs.getD i Cn.none).other=other2 at *;generalize (rs.getD i Cn.none).wt=wt2 at *;generalize (rs.getD i Cn.none).to.length=tl2 at *;go_wp2;go_region_with (refine ((Uh KC) _).mono ?_; rintro e w1 ⟨rfl,aq⟩)
        all_goals
         have ai:=Hd ((Uh ab).on (x0b (x0l ⟨_,rfl⟩) aq));clear aq ab KC x0 x1 x2 x3 x4 x5 x6 x7 y0 y1 y2 y3 y4 y5 y6 y7
         cases y with
         | true =>
          obtain rfl:=(Uh HH) rfl;clear HH HN;go_wp2;go_ret2;exact ⟨rfl,(Uh ai).2⟩
         | false =>
          have aG:=Hd ((Uh HN) rfl);clear HH HN;go_wp2
          go_roundw
          case rel=>exact ⟨k+1,by go_num,by omega,Uh aG,Uh ai⟩
          case measure=>simp [intOf]; omega
       ·obtain rfl:k=i:=by omega
        have HN:=Hd ((Uh af) av);have ab:=Hd ad;clear av ad af ag;go_wp2;go_round
        case rel=>exact ⟨k+1,by go_num,by omega,Uh HN,Uh ab⟩
        case measure=>simp [intOf]; omega
     ·obtain rfl:i=rs.length:=by omega
      obtain rfl:=aa.trans (Cn.t_end rs);have HF:=Hd ad.2;clear aa ad al HC;go_wp2;go_ret2;exact ⟨rfl,Uh HF⟩
end Go.Proofs.YtkglkajjofidoaaGreatDoor
