/- Rt7 Ru7 -/
import Derived.Test.YtkglkajjofidoaaGreatDoorV13
import Derived.Deep.RegionWith
set_option maxHeartbeats 4000000
set_option maxRecDepth 8000
namespace Go.Proofs.YtkglkajjofidoaaGreatDoor
open Go.Proofs.Tryz
open Go.RowKit
namespace Cn
def x4j (rs:List Rec) (k:Nat):Nat × Int:=match x0J rs k (rs.drop k) with
 | some x=>x
 | Option.none=>if baseA rs 78 45 then (0,0) else (rs.length,70)
theorem y7L {rs:List Rec} {k:Nat} (hk:k<rs.length) (h:record rs k (rs.getD k none)≠0):x4j rs k=(k,record rs k (rs.getD k none)):=by
 have e:rs.getD k none=rs[k]:=(by simp [List.getD,hk]);rw [e] at h ⊢;unfold x4j;rw [List.drop_eq_getElem_cons hk,x0J,if_neg h]
theorem y5B {rs:List Rec} {k:Nat} (hk:k<rs.length) (h:record rs k (rs.getD k none)=0):x4j rs k=x4j rs (k+1):=by
 have e:rs.getD k none=rs[k]:=(by simp [List.getD,hk]);rw [e] at h;unfold x4j;rw [List.drop_eq_getElem_cons hk,x0J,if_pos h]
def x5B (rs:List Rec) (c:Nat):Nat × Int:=if baseA rs (123 - c) c then (0,0) else (rs.length,70)
theorem y7K (rs:List Rec):x4j rs rs.length=x5B rs 45:=by
 unfold x4j;rw [List.drop_length,x0J];rfl
theorem y6b {rs:List Rec} {c:Nat} (h:123<=c):x5B rs c=(0,0):=by
 unfold x5B;rw [show 123 - c=0 by omega,baseA,if_pos rfl]
theorem y8Y {rs:List Rec} {c:Nat} (h:c<=122) (h1:baseOf c=true) (h2:plain rs c=false):x5B rs c=(rs.length,70):=by
 unfold x5B;rw [show 123 - c=(122 - c)+1 by omega,baseA,h1,h2];rfl
theorem y2Z {rs:List Rec} {c:Nat} (h:c<=122) (h1:baseOf c=false\/plain rs c=true):x5B rs c=x5B rs (c+1):=by
 unfold x5B;rw [show 123 - c=(123 - (c+1))+1 by omega,baseA];have:(!baseOf (c:Int) || plain rs (c:Int))=true:=(by rcases h1 with e | e <;> simp [e]);rw [this,Bool.true_and,Int.natCast_add];rfl
theorem y3p {rs:List Rec} (h:(check6 rs).2≠0):check rs=check6 rs:=by unfold check; rw [if_pos h]
theorem x3b {rs:List Rec} (h:(check6 rs).2=0):check rs=x4j rs 0:=by unfold check x4j; rw [if_neg (fun e=>e h)]; rfl
end Cn
def x8Q:Prop:=∀ (v:Value) (rs:List Rec) (w:World),Rcs w v rs->Calls prog 36 #[v] w (x2Z w (Cn.check6 rs))
def y2Q:Prop:=∀ (v:Value) (rs:List Rec) (i:Nat) (w:World),Rcs w v rs->(Cn.check6 rs).2=0->i<rs.length->Calls prog 37 #[v,.int .i64 i] w (IntB w (Cn.record rs i (rs.getD i Cn.none)))
def ChIn (w:World) (v:Value) (rs:List Rec) (wr:World):Prop:=Rcs wr v rs/\Below w.heap.size w wr
theorem ChIn.on {w wr w':World} {v:Value} {rs:List Rec} (h:ChIn w v rs wr) (hb:Bw wr w'):ChIn w v rs w':=⟨h.1.below hb,x0b h.2 hb⟩
theorem x8o (H6:x8Q) (HR:y2Q):y2P:=by
 intro v rs w hv;have K6:=O (H6 v rs w hv);have am:Hid ((Cn.check6 rs).2≠0->Cn.check rs=Cn.check6 rs):=Cn.y3p;have aw:Hid ((Cn.check6 rs).2=0->Cn.check rs=Cn.x4j rs 0/\∀ (i:Nat) (wr:World),Rcs wr v rs->i<rs.length->Calls prog 37 #[v,.int .i64 i] wr (IntB wr (Cn.record rs i (rs.getD i Cn.none)))):=fun h=>⟨Cn.x3b h,fun i wr hr hi=>HR v rs i wr hr h hi⟩;have HW:Hid (ChIn w v rs w):=⟨hv,b0r⟩;generalize Cn.check rs=res at *;generalize Cn.check6 rs=q at *;obtain ⟨q1,q2⟩:=q;have ax:=hv.1;obtain ⟨ao,cap,rfl,_,_⟩:=hv.shape;clear hv H6 HR;go_enter func19,ntmps19;go_wp2_with fail;refine (V K6).mono ?_;rintro e w1 ⟨rfl,aq⟩;clear K6;by_cases hq:q2=0
 ·obtain ⟨aa,au⟩:=V aw hq;obtain rfl:q2=0:=hq;have an:=O au;have ah:=O aa;have az:=O ((V HW).on aq);clear aw am au aa HW aq;go_wp2;go_loopw [6,7] (fun iv _ wr=>∃ k:Nat,iv=.int .i64 k/\k<=rs.length/\res=Cn.x4j rs k/\ChIn w (.slice ao rs.length cap) rs wr) (fun iv _ _=>rs.length - (intOf iv).toNat)
  case atStart=>exact ⟨0,rfl,by omega,V ah,V az⟩
  case round =>
   obtain ⟨k,rfl,hk,aa,ad⟩:=hrel;clear ah az;by_cases hlt:k<rs.length
   ·have KC:=O (V an k wr ad.1 hlt);have ag:Hid (Cn.record rs k (rs.getD k Cn.none)≠0->res=(k,Cn.record rs k (rs.getD k Cn.none))):=fun h=>aa.trans (Cn.y7L hlt h);have af:Hid (Cn.record rs k (rs.getD k Cn.none)=0->res=Cn.x4j rs (k+1)):=fun h=>aa.trans (Cn.y5B hlt h);have ab:=O ad;clear aa ad an;generalize Cn.record rs k (rs.getD k Cn.none)=y at *;go_wp2_with fail;refine (V KC).mono ?_;rintro e w2 ⟨rfl,ae⟩;clear KC;by_cases hy:y=0
    ·have HN:=O (V af hy);obtain rfl:y=0:=hy;have ai:=O ((V ab).on ae);clear af ag ab ae;go_wp2;go_round
     case rel=>exact ⟨k+1,by go_num,by omega,V HN,V ai⟩
     case measure=>simp [intOf]; omega
    ·obtain rfl:=V ag hy;have aF:(y==0)=false:=b0f hy;have ai:=O ((V ab).on ae).2;clear af ag ab ae hy;go_wp2;go_ret2;exact ⟨rfl,V ai⟩
   ·obtain rfl:k=rs.length:=(by omega);have ah:=O (aa.trans (Cn.y7K rs));have ab:=O ad;clear aa ad an;go_wp2;go_loopw [8] (fun iv wi=>∃ c:Nat,iv=.int .i32 c/\45<=c/\c<=123/\res=Cn.x5B rs c/\ChIn w (.slice ao rs.length cap) rs wi) (fun iv _=>123 - (intOf iv).toNat)
    case atStart=>exact ⟨45,rfl,by omega,by omega,V ah,V ab⟩
    case round =>
     obtain ⟨c,rfl,hc0,aA,aa,ad⟩:=hrel;clear ah ab;by_cases hlt2:c<=122
     ·have KP:=O (x8w _ rs c wr ad.1 ⟨by omega,by omega⟩);have ak:Hid (Cn.baseOf c=true->Cn.plain rs c=false->res=(rs.length,70)):=fun a b=>aa.trans (Cn.y8Y hlt2 a b);have af:Hid (Cn.baseOf c=false\/Cn.plain rs c=true->res=Cn.x5B rs (c+1)):=fun a=>aa.trans (Cn.y2Z hlt2 a);have ab:=O ad;have aj:Hid (∀ b,decide ((c:Int)=45\/(c:Int)=46\/(48<=(c:Int)/\(c:Int)<=57)\/97<=(c:Int))=b->Cn.baseOf c=b):=fun b h=>h;clear aa ad;generalize Cn.plain rs c=y at *;generalize Cn.baseOf c=z at *;by_cases e1:c=45
      ·subst e1;obtain rfl:=V aj true (d0t (by omega));have ac:Hid (y=false->res=(rs.length,70)):=fun h=>V ak rfl h;clear aj ak;go_wp2_with fail;refine (V KP).mono ?_;rintro e w2 ⟨rfl,ae⟩;clear KP
       cases y with
       | false =>
        obtain rfl:=V ac rfl;have HF:=O ((V ab).on ae).2;clear ac af ab ae;go_wp2;go_ret2;exact ⟨rfl,V HF⟩
       | true =>
        have HN:=O (V af (.inr rfl));have ai:=O ((V ab).on ae);clear ac af ab ae;go_wp2;go_round
        case rel=>exact ⟨46,by go_num,by omega,by omega,V HN,V ai⟩
        case measure=>simp [intOf] <;> omega
      ·by_cases e2:c=46
       ·subst e2;obtain rfl:=V aj true (d0t (by omega));have ac:Hid (y=false->res=(rs.length,70)):=fun h=>V ak rfl h;clear aj ak;go_wp2_with fail;refine (V KP).mono ?_;rintro e w2 ⟨rfl,ae⟩;clear KP
        cases y with
        | false =>
         obtain rfl:=V ac rfl;have HF:=O ((V ab).on ae).2;clear ac af ab ae;go_wp2;go_ret2;exact ⟨rfl,V HF⟩
        | true =>
         have HN:=O (V af (.inr rfl));have ai:=O ((V ab).on ae);clear ac af ab ae;go_wp2;go_round
         case rel=>exact ⟨47,by go_num,by omega,by omega,V HN,V ai⟩
         case measure=>simp [intOf] <;> omega
       ·have q45:((c:Int)==45)=false:=b0f (by omega);have q46:((c:Int)==46)=false:=b0f (by omega);by_cases e3:48<=c
        ·by_cases e4:c<=57
         ·obtain rfl:=V aj true (d0t (by omega));have ac:Hid (y=false->res=(rs.length,70)):=fun h=>V ak rfl h;clear aj ak;go_wp2_with fail;refine (V KP).mono ?_;rintro e w2 ⟨rfl,ae⟩;clear KP
          cases y with
          | false =>
           obtain rfl:=V ac rfl;have HF:=O ((V ab).on ae).2;clear ac af ab ae;go_wp2;go_ret2;exact ⟨rfl,V HF⟩
          | true =>
           have HN:=O (V af (.inr rfl));have ai:=O ((V ab).on ae);clear ac af ab ae;go_wp2;go_round
           case rel=>exact ⟨c+1,by go_num,by omega,by omega,V HN,V ai⟩
           case measure=>simp [intOf] <;> omega
         ·by_cases e5:97<=c
          ·obtain rfl:=V aj true (d0t (by omega));have ac:Hid (y=false->res=(rs.length,70)):=fun h=>V ak rfl h;clear aj ak;go_wp2_with fail;refine (V KP).mono ?_;rintro e w2 ⟨rfl,ae⟩;clear KP
           cases y with
           | false =>
            obtain rfl:=V ac rfl;have HF:=O ((V ab).on ae).2;clear ac af ab ae;go_wp2;go_ret2;exact ⟨rfl,V HF⟩
           | true =>
            have HN:=O (V af (.inr rfl));have ai:=O ((V ab).on ae);clear ac af ab ae;go_wp2;go_round
            case rel=>exact ⟨c+1,by go_num,by omega,by omega,V HN,V ai⟩
            case measure=>simp [intOf] <;> omega
          ·obtain rfl:=V aj false (d0f (by omega));have HN:=O (V af (.inl rfl));have ai:=O (V ab);clear aj KP ak af ab;go_wp2;go_round
           case rel=>exact ⟨c+1,by go_num,by omega,by omega,V HN,V ai⟩
           case measure=>simp [intOf]; omega
        ·obtain rfl:=V aj false (d0f (by omega));have HN:=O (V af (.inl rfl));have ai:=O (V ab);clear aj KP ak af ab;go_wp2;go_round
         case rel=>exact ⟨c+1,by go_num,by omega,by omega,V HN,V ai⟩
         case measure=>simp [intOf]; omega
     ·obtain rfl:=aa.trans (Cn.y6b (by omega));have HF:=O ad.2;clear aa ad;go_wp2;go_ret2;exact ⟨rfl,V HF⟩
 ·obtain rfl:=V am hq;have aF:(q2==0)=false:=b0f hq;have HF:=O aq;clear aw am HW aq hq;go_wp2;go_ret2;exact ⟨rfl,V HF⟩
namespace Cn
def x4k (rs:List Rec) (i:Nat):Nat × Int:=match x1q rs i (rs.drop i) with
 | some i=>(i,62)
 | Option.none=>(0,0)
def x5s (rs:List Rec) (k:Nat):Nat × Int:=match x0T k (rs.drop k) with
 | some x=>x
 | Option.none=>x4k rs 0
theorem q_hit {rs:List Rec} {k:Nat} (hk:k<rs.length) (h:right (rs.getD k none)≠0):x5s rs k=(k,right (rs.getD k none)):=by
 have e:rs.getD k none=rs[k]:=(by simp [List.getD,hk]);rw [e] at h ⊢;unfold x5s;rw [List.drop_eq_getElem_cons hk,x0T,if_neg h]
theorem z1X {rs:List Rec} {k:Nat} (hk:k<rs.length) (h:right (rs.getD k none)=0):x5s rs k=x5s rs (k+1):=by
 have e:rs.getD k none=rs[k]:=(by simp [List.getD,hk]);rw [e] at h;unfold x5s;rw [List.drop_eq_getElem_cons hk,x0T,if_pos h]
theorem q_end (rs:List Rec):x5s rs rs.length=x4k rs 0:=by
 unfold x5s;rw [List.drop_length,x0T]
theorem t_hit {rs:List Rec} {i k:Nat} (hi:i<rs.length) (hk:k<i) (h:clash (rs.getD k none) (rs.getD i none)=true):x4k rs i=(i,62):=by
 have e:rs.getD i none=rs[i]:=(by simp [List.getD,hi]);have e2:rs.getD k none=rs[k]:=(by simp [List.getD,Nat.lt_trans hk hi]);rw [e,e2] at h;unfold x4k;rw [List.drop_eq_getElem_cons hi,x1q,if_pos];rw [List.any_eq_true];exact ⟨rs[k],List.mem_take_iff_getElem.2 ⟨k,by omega,rfl⟩,h⟩
theorem z2w {rs:List Rec} {i:Nat} (hi:i<rs.length) (h:∀ k,k<i->clash (rs.getD k none) (rs.getD i none)=false):x4k rs i=x4k rs (i+1):=by
 have e:rs.getD i none=rs[i]:=(by simp [List.getD,hi]);unfold x4k;rw [List.drop_eq_getElem_cons hi,x1q,if_neg];rw [List.any_eq_true];rintro ⟨x,hx,hc⟩;obtain ⟨k,hk,rfl⟩:=List.mem_take_iff_getElem.1 hx;have:=h k (by omega);rw [e,show rs.getD k none=rs[k] by simp [List.getD,show k<rs.length by omega]] at this;rw [this] at hc;cases hc
theorem t_end (rs:List Rec):x4k rs rs.length=(0,0):=by
 unfold x4k;rw [List.drop_length,x1q]
theorem x8Z {rs:List Rec} (h:4096<rs.length):check6 rs=(0,3):=by unfold check6; rw [if_pos h]
theorem y1p {rs:List Rec} (h:¬ 4096<rs.length):check6 rs=x5s rs 0:=by
 unfold check6 x5s x4k;rw [if_neg h];rfl
end Cn
def y7X:Prop:=∀ (r:Rec) (vt:Value) (w:World),RecFit r->Sk .i32 w vt r.to->Calls prog 60 #[recV r vt] w (IntB w (Cn.right r))
def y7W:Prop:=∀ (a b:Rec) (va vb:Value) (w:World),RecFit a->RecFit b->Sk .i32 w va a.to->Sk .i32 w vb b.to->Cn.right a=0->Cn.right b=0->Calls prog 61 #[recV a va,recV b vb] w (x0d w (Cn.clash a b))
theorem x7f (HR:y7X) (HC:y7W):x8Q:=by
 intro v rs w hv;have HW:Hid (ChIn w v rs w):=⟨hv,b0r⟩;have ax:=hv.1;by_cases hbig:4096<rs.length
 ·rw [Cn.x8Z hbig];obtain ⟨ao,cap,rfl,_,_⟩:=hv.shape;clear hv HR HC HW;go_enter func36,ntmps36;go_wp2;go_ret2;exact ⟨rfl,b0r⟩
 ·have ah:=O (Cn.y1p hbig);generalize Cn.check6 rs=res at *;obtain ⟨ao,cap,rfl,_,_⟩:=hv.shape;have HR:=O HR;have HC:=O HC;clear hv;go_enter func36,ntmps36;go_wp2;go_loopw [4,5] (fun iv _ wr=>∃ k:Nat,iv=.int .i64 k/\k<=rs.length/\res=Cn.x5s rs k/\(∀ j,j<k->Cn.right (rs.getD j Cn.none)=0)/\ChIn w (.slice ao rs.length cap) rs wr) (fun iv _ _=>rs.length - (intOf iv).toNat)
  case atStart=>exact ⟨0,rfl,by omega,V ah,fun j hj=>absurd hj (Nat.not_lt_zero _),V HW⟩
  case round =>
   obtain ⟨k,rfl,hk,aa,hall,ad⟩:=hrel;clear ah HW;by_cases hlt:k<rs.length
   ·have ag:Hid (Cn.right (rs.getD k Cn.none)≠0->res=(k,Cn.right (rs.getD k Cn.none))):=fun h=>aa.trans (Cn.q_hit hlt h)
    have af:Hid (Cn.right (rs.getD k Cn.none)=0->res=Cn.x5s rs (k+1)/\∀ j,j<k+1->Cn.right (rs.getD j Cn.none)=0):=fun h=>⟨aa.trans (Cn.z1X hlt h),fun j hj=>by
     rcases Nat.lt_or_ge j k with h' | h'
     ·exact hall j h'
     ·obtain rfl:j=k:=by omega
      exact h⟩
    have ab:=O ad;have hf:=ad.1.fit hlt;obtain ⟨b,off,ap,he,aA,aH,hc⟩:=ad.1.place (by omega);obtain ⟨rfl,rfl⟩:ao=some ⟨b,off,none⟩/\cap=ap:=(by simpa using he);have hA:=hc k hlt;clear hc he aa hall ad;obtain ⟨x0,x1,x2,x3,⟨va,x4,ar⟩,x5,x6,x7⟩:=hA;have KC:=O (V HR _ va wr hf ar);unfold recV at KC;obtain ⟨tq,tc,rfl,_,_⟩:=ar.shape;clear HR HC hf ar;generalize Cn.right (rs.getD k Cn.none)=y at *;generalize rs.getD k Cn.none=r at *;generalize r.kind=kd at *;generalize r.n=n at *;generalize r.lo=lo at *;generalize r.hi=hi at *;generalize r.name=nm at *;generalize r.other=ot at *;generalize r.wt=wt at *;generalize r.to.length=tl at *;go_wp2_with fail;refine (V KC).mono ?_;rintro e w2 ⟨rfl,ae⟩;clear KC x0 x1 x2 x3 x4 x5 x6 x7;by_cases hy:y=0
    ·have HN:=O (V af hy);obtain rfl:y=0:=hy;have ai:=O ((V ab).on ae);clear af ag ab ae;go_wp2;go_round
     case rel=>exact ⟨k+1,by go_num,by omega,(V HN).1,(V HN).2,V ai⟩
     case measure=>simp [intOf]; omega
    ·obtain rfl:=V ag hy;have aF:(y==0)=false:=b0f hy;have ai:=O ((V ab).on ae).2;clear af ag ab ae hy;go_wp2;go_ret2;exact ⟨rfl,V ai⟩
   ·obtain rfl:k=rs.length:=(by omega);have ah:=O (aa.trans (Cn.q_end rs));have ab:=O ad;have al:=O hall;clear aa ad hall HR;go_wp2;go_loopw [6,7] (fun iv _ wi=>∃ i:Nat,iv=.int .i64 i/\i<=rs.length/\res=Cn.x4k rs i/\ChIn w (.slice ao rs.length cap) rs wi) (fun iv _ _=>rs.length - (intOf iv).toNat)
    case atStart=>exact ⟨0,rfl,by omega,V ah,V ab⟩
    case round =>
     obtain ⟨i,rfl,hi,aa,ad⟩:=hrel;clear ah ab;by_cases hlt2:i<rs.length
     ·have ag:Hid (∀ k,k<i->Cn.clash (rs.getD k Cn.none) (rs.getD i Cn.none)=true->res=(i,62)):=fun k a h=>aa.trans (Cn.t_hit hlt2 a h);have af:Hid ((∀ k,k<i->Cn.clash (rs.getD k Cn.none) (rs.getD i Cn.none)=false)->res=Cn.x4k rs (i+1)):=fun h=>aa.trans (Cn.z2w hlt2 h);have ab:=O ad;clear aa ad;go_wp2;go_loopw [7] (fun kv wj=>∃ k:Nat,kv=.int .i64 k/\k<=i/\(∀ j,j<k->Cn.clash (rs.getD j Cn.none) (rs.getD i Cn.none)=false)/\ChIn w (.slice ao rs.length cap) rs wj) (fun kv _=>i - (intOf kv).toNat)
      case atStart=>exact ⟨0,rfl,by omega,fun j hj=>absurd hj (Nat.not_lt_zero _),V ab⟩
      case round =>
       obtain ⟨k,rfl,hk2,av,ad⟩:=hrel;clear ab;by_cases hlt3:k<i
       ·have HH:=O (V ag k hlt3)
        have HN:Hid (Cn.clash (rs.getD k Cn.none) (rs.getD i Cn.none)=false->∀ j,j<k+1->Cn.clash (rs.getD j Cn.none) (rs.getD i Cn.none)=false):=fun h j hj=>by
         rcases Nat.lt_or_ge j k with h' | h'
         ·exact av j h'
         ·obtain rfl:j=k:=(by omega);exact h
        have ab:=O ad;have aC:=ad.1.fit (i:=k) (by omega);have aB:=ad.1.fit hlt2;have aE:=V al k (by omega);have aD:=V al i hlt2;obtain ⟨b,off,ap,he,aA,aH,hc⟩:=ad.1.place (by omega);obtain ⟨rfl,rfl⟩:ao=some ⟨b,off,none⟩/\cap=ap:=(by simpa using he);have hA:=hc k (by omega);have hB:=hc i hlt2;clear hc he av ad ag af al;obtain ⟨x0,x1,x2,x3,⟨va,x4,ar⟩,x5,x6,x7⟩:=hA;obtain ⟨y0,y1,y2,y3,⟨vb,y4,ay⟩,y5,y6,y7⟩:=hB;have KC:Hid (∀ n,Calls prog 61 #[recV (rs.getD k Cn.none) va,recV (rs.getD i Cn.none) vb] (wr.drewN n) (x0d (wr.drewN n) (Cn.clash (rs.getD k Cn.none) (rs.getD i Cn.none)))):=fun n=>V HC _ _ va vb _ aC aB (x3G ar n) (x3G ay n) aE aD;unfold recV at KC;obtain ⟨tq,tc,rfl,_,_⟩:=ar.shape;obtain ⟨uo,uc,rfl,_,_⟩:=ay.shape;clear HC aC aB aE aD ar ay;generalize Cn.clash (rs.getD k Cn.none) (rs.getD i Cn.none)=y at HH KC HN;generalize (rs.getD k Cn.none).kind=kind1 at *;generalize (rs.getD k Cn.none).lo=lo1 at *;generalize (rs.getD k Cn.none).hi=hi1 at *;generalize (rs.getD k Cn.none).n=n1 at *;generalize (rs.getD k Cn.none).name=name1 at *;generalize (rs.getD k Cn.none).other=other1 at *;generalize (rs.getD k Cn.none).wt=wt1 at *;generalize (rs.getD k Cn.none).to.length=tl1 at *;generalize (rs.getD i Cn.none).kind=kind2 at *;generalize (rs.getD i Cn.none).lo=lo2 at *;generalize (rs.getD i Cn.none).hi=hi2 at *;generalize (rs.getD i Cn.none).n=n2 at *;generalize (rs.getD i Cn.none).name=name2 at *;generalize (rs.getD i Cn.none).other=other2 at *;generalize (rs.getD i Cn.none).wt=wt2 at *;generalize (rs.getD i Cn.none).to.length=tl2 at *;go_wp2;go_region_with (refine (V KC _).mono ?_; rintro e w1 ⟨rfl,aq⟩)
        all_goals
         have ai:=O ((V ab).on (x0b (x0k ⟨_,rfl⟩) aq));clear aq ab KC x0 x1 x2 x3 x4 x5 x6 x7 y0 y1 y2 y3 y4 y5 y6 y7
         cases y with
         | true =>
          obtain rfl:=V HH rfl;clear HH HN;go_wp2;go_ret2;exact ⟨rfl,(V ai).2⟩
         | false =>
          have aG:=O (V HN rfl);clear HH HN;go_wp2
          go_roundw
          case rel=>exact ⟨k+1,by go_num,by omega,V aG,V ai⟩
          case measure=>simp [intOf]; omega
       ·obtain rfl:k=i:=(by omega);have HN:=O (V af av);have ab:=O ad;clear av ad af ag;go_wp2;go_round
        case rel=>exact ⟨k+1,by go_num,by omega,V HN,V ab⟩
        case measure=>simp [intOf]; omega
     ·obtain rfl:i=rs.length:=(by omega);obtain rfl:=aa.trans (Cn.t_end rs);have HF:=O ad.2;clear aa ad al HC;go_wp2;go_ret2;exact ⟨rfl,V HF⟩
