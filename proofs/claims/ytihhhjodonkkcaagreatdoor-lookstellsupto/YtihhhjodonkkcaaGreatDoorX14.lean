/- Rt7 Ru7 -/
import Derived.Test.YtihhhjodonkkcaaGreatDoorX7
import Derived.Deep.RegionWith
namespace Go.Proofs.YtihhhjodonkkcaaGreatDoor
open Go.RowKit
namespace Cn
def tailR (rs:List Rec) (k:Nat):Nat × Int:=match recordA rs k (rs.drop k) with
 | some x=>x
 | Option.none=>if baseA rs 78 45 then (0,0) else (rs.length,70)
theorem tail_hit {rs k} (hk:k<rs.length) (h:record rs k (rs.getD k none)≠0):tailR rs k=(k,record rs k (rs.getD k none)):=by
 have e:rs.getD k none=rs[k]:=by grind
 rw [e] at h ⊢
 unfold tailR
 rw [List.drop_eq_getElem_cons hk,recordA,if_neg h]
theorem tail_next {rs k} (hk:k<rs.length) (h:record rs k (rs.getD k none)=0):tailR rs k=tailR rs (k+1):=by
 have e:rs.getD k none=rs[k]:=by grind
 rw [e] at h
 unfold tailR
 rw [List.drop_eq_getElem_cons hk,recordA,if_pos h]
def baseR (rs:List Rec) (c:Nat):Nat × Int:=if baseA rs (123 - c) c then (0,0) else (rs.length,70)
theorem tail_end rs:tailR rs rs.length=baseR rs 45:=by
 unfold tailR
 rw [List.drop_length,recordA]
 rfl
theorem base_end {rs c} (h:123≤c):baseR rs c=(0,0):=by
 unfold baseR
 rw [show 123 - c=0 by omega,baseA,if_pos rfl]
theorem base_no {rs} {c:Nat} (h:c≤122) (h1:baseOf c=true) (h2:plain rs c=false):baseR rs c=(rs.length,70):=by
 unfold baseR
 rw [show 123 - c=(122 - c)+1 by omega,baseA,h1,h2]
 rfl
theorem base_next {rs} {c:Nat} (h:c≤122) (h1:baseOf c=false∨plain rs c=true):baseR rs c=baseR rs (c+1):=by
 unfold baseR
 rw [show 123 - c=(123 - (c+1))+1 by omega,baseA]
 have:(!baseOf (c:Int) || plain rs (c:Int))=true:=by rcases h1 with e | e <;> simp [e]
 rw [this,Bool.true_and,Int.natCast_add]
 rfl
theorem check_err {rs} (h:(check6 rs).2≠0):check rs=check6 rs:=by unfold check; rw [if_pos h]
theorem check_ok {rs} (h:(check6 rs).2=0):check rs=tailR rs 0:=by unfold check tailR; rw [if_neg (fun e=>e h)]; rfl
end Cn
def Check6R:Prop:=∀ (v:Value) (rs:List Rec) (w:World),Rcs w v rs→Calls Tryz.prog 44 #[v] w (CheckB w (Cn.check6 rs))
def RecordR:Prop:=∀ (v:Value) (rs:List Rec) (i:Nat) (w:World),Rcs w v rs→(Cn.check6 rs).2=0→i<rs.length→Calls Tryz.prog 45 #[v,.int .i64 i] w (IntB w (Cn.record rs i (rs.getD i Cn.none)))
def ChIn (w:World) (v:Value) (rs:List Rec) (wr:World):Prop:=Rcs wr v rs∧Below w.heap.size w wr
theorem ChIn.on {w wr w' v rs} (h:ChIn w v rs wr) (hb:Below wr.heap.size wr w'):ChIn w v rs w':=⟨h.1.below hb,bthen h.2 hb⟩
set_option maxRecDepth 8000 in
set_option maxHeartbeats 4000000 in
theorem refCheck_any (H6:Check6R) (HR:RecordR):RCheckC:=by
 intro v rs w hv
 have K6:=Hd (H6 v rs w hv)
 have HERR:Hid ((Cn.check6 rs).2≠0→Cn.check rs=Cn.check6 rs):=Cn.check_err
 have HOK:Hid ((Cn.check6 rs).2=0→Cn.check rs=Cn.tailR rs 0∧∀ (i:Nat) (wr:World),Rcs wr v rs→i<rs.length→Calls Tryz.prog 45 #[v,.int .i64 i] wr (IntB wr (Cn.record rs i (rs.getD i Cn.none)))):=fun h=>⟨Cn.check_ok h,fun i wr hr hi=>HR v rs i wr hr h hi⟩
 have HW:Hid (ChIn w v rs w):=⟨hv,Below.refl _ _⟩
 generalize Cn.check rs=res at *
 generalize Cn.check6 rs=q at *
 obtain ⟨q1,q2⟩:=q
 have hlen:=hv.1
 obtain ⟨ao,cap,rfl,_,_⟩:=hv.shape
 go_enter Tryz.func27,Tryz.ntmps27
 go_wp2_with fail
 refine (Uh K6).mono ?_
 rintro e w1 ⟨rfl,hb1⟩
 by_cases hq:q2=0
 ·obtain ⟨hres,hrec⟩:=(Uh HOK) hq
  obtain rfl:q2=0:=hq
  have HREC:=Hd hrec
  have HRES:=Hd hres
  have HW1:=Hd ((Uh HW).on hb1)
  go_wp2
  go_loopw [6,7] (fun iv _ wr=>∃ k:Nat,iv=.int .i64 k∧k≤rs.length∧res=Cn.tailR rs k∧ChIn w (.slice ao rs.length cap) rs wr) (fun iv _ _=>rs.length - (intOf iv).toNat)
  case atStart=>exact ⟨0,rfl,by omega,Uh HRES,Uh HW1⟩
  case round =>
   obtain ⟨k,rfl,hk,hres,hch⟩:=hrel
   by_cases hlt:k<rs.length
   ·have KC:=Hd ((Uh HREC) k wr hch.1 hlt)
    have HHIT:Hid (Cn.record rs k (rs.getD k Cn.none)≠0→res=(k,Cn.record rs k (rs.getD k Cn.none))):=fun h=>hres.trans (Cn.tail_hit hlt h)
    have HNX:Hid (Cn.record rs k (rs.getD k Cn.none)=0→res=Cn.tailR rs (k+1)):=fun h=>hres.trans (Cn.tail_next hlt h)
    have HCH:=Hd hch
    generalize Cn.record rs k (rs.getD k Cn.none)=y at *
    go_wp2_with fail
    refine (Uh KC).mono ?_
    rintro e w2 ⟨rfl,hb2⟩
    by_cases hy:y=0
    ·have HN:=Hd ((Uh HNX) hy)
     obtain rfl:y=0:=hy
     have HC2:=Hd ((Uh HCH).on hb2)
     go_wp2
     go_round
     case rel=>exact ⟨k+1,by go_num,by omega,Uh HN,Uh HC2⟩
     case measure=>simp [intOf]; omega
    ·obtain rfl:=(Uh HHIT) hy
     have hyb:(y==0)=false:=beq_eq_false_iff_ne.2 hy
     have HC2:=Hd ((Uh HCH).on hb2).2
     go_wp2
     go_ret2
     exact ⟨rfl,Uh HC2⟩
   ·obtain rfl:k=rs.length:=by omega
    have HRES:=Hd (hres.trans (Cn.tail_end rs))
    have HCH:=Hd hch
    go_wp2
    go_loopw [8] (fun iv wi=>∃ c:Nat,iv=.int .i32 c∧45≤c∧c≤123∧res=Cn.baseR rs c∧ChIn w (.slice ao rs.length cap) rs wi) (fun iv _=>123 - (intOf iv).toNat)
    case atStart=>exact ⟨45,rfl,by omega,by omega,Uh HRES,Uh HCH⟩
    case round =>
     obtain ⟨c,rfl,hc0,hc1,hres,hch⟩:=hrel
     by_cases hlt2:c≤122
     ·have KP:=Hd (refPlain_any _ rs c wr hch.1 ⟨by omega,by omega⟩)
      have HNO:Hid (Cn.baseOf c=true→Cn.plain rs c=false→res=(rs.length,70)):=fun a b=>hres.trans (Cn.base_no hlt2 a b)
      have HNX:Hid (Cn.baseOf c=false∨Cn.plain rs c=true→res=Cn.baseR rs (c+1)):=fun a=>hres.trans (Cn.base_next hlt2 a)
      have HCH:=Hd hch
      have HBO:Hid (∀ b,decide ((c:Int)=45∨(c:Int)=46∨(48≤(c:Int)∧(c:Int)≤57)∨97≤(c:Int))=b→Cn.baseOf c=b):=fun b h=>h
      generalize Cn.plain rs c=y at *
      generalize Cn.baseOf c=z at *
      by_cases e1:c=45
      ·subst e1
       obtain rfl:=(Uh HBO) true (decide_eq_true (by omega))
       have HNO1:Hid (y=false→res=(rs.length,70)):=fun h=>(Uh HNO) rfl h
       go_wp2_with fail
       refine (Uh KP).mono ?_
       rintro e w2 ⟨rfl,hb2⟩
       cases y with
       | false =>
        obtain rfl:=(Uh HNO1) rfl
        have HF:=Hd ((Uh HCH).on hb2).2
        go_wp2
        go_ret2
        exact ⟨rfl,Uh HF⟩
       | true =>
        have HN:=Hd ((Uh HNX) (.inr rfl))
        have HC2:=Hd ((Uh HCH).on hb2)
        go_wp2
        go_round
        case rel=>exact ⟨46,by go_num,by omega,by omega,Uh HN,Uh HC2⟩
        case measure=>simp [intOf] <;> omega
      ·by_cases e2:c=46
       ·subst e2
        obtain rfl:=(Uh HBO) true (decide_eq_true (by omega))
        have HNO1:Hid (y=false→res=(rs.length,70)):=fun h=>(Uh HNO) rfl h
        go_wp2_with fail
        refine (Uh KP).mono ?_
        rintro e w2 ⟨rfl,hb2⟩
        cases y with
        | false =>
         obtain rfl:=(Uh HNO1) rfl
         have HF:=Hd ((Uh HCH).on hb2).2
         go_wp2
         go_ret2
         exact ⟨rfl,Uh HF⟩
        | true =>
         have HN:=Hd ((Uh HNX) (.inr rfl))
         have HC2:=Hd ((Uh HCH).on hb2)
         go_wp2
         go_round
         case rel=>exact ⟨47,by go_num,by omega,by omega,Uh HN,Uh HC2⟩
         case measure=>simp [intOf] <;> omega
       ·have q45:((c:Int)==45)=false:=beq_eq_false_iff_ne.2 (by omega)
        have q46:((c:Int)==46)=false:=beq_eq_false_iff_ne.2 (by omega)
        by_cases e3:48≤c
        ·by_cases e4:c≤57
         ·obtain rfl:=(Uh HBO) true (decide_eq_true (by omega))
          have HNO1:Hid (y=false→res=(rs.length,70)):=fun h=>(Uh HNO) rfl h
          go_wp2_with fail
          refine (Uh KP).mono ?_
          rintro e w2 ⟨rfl,hb2⟩
          cases y with
          | false =>
           obtain rfl:=(Uh HNO1) rfl
           have HF:=Hd ((Uh HCH).on hb2).2
           go_wp2
           go_ret2
           exact ⟨rfl,Uh HF⟩
          | true =>
           have HN:=Hd ((Uh HNX) (.inr rfl))
           have HC2:=Hd ((Uh HCH).on hb2)
           go_wp2
           go_round
           case rel=>exact ⟨c+1,by go_num,by omega,by omega,Uh HN,Uh HC2⟩
           case measure=>simp [intOf] <;> omega
         ·by_cases e5:97≤c
          ·obtain rfl:=(Uh HBO) true (decide_eq_true (by omega))
           have HNO1:Hid (y=false→res=(rs.length,70)):=fun h=>(Uh HNO) rfl h
           go_wp2_with fail
           refine (Uh KP).mono ?_
           rintro e w2 ⟨rfl,hb2⟩
           cases y with
           | false =>
            obtain rfl:=(Uh HNO1) rfl
            have HF:=Hd ((Uh HCH).on hb2).2
            go_wp2
            go_ret2
            exact ⟨rfl,Uh HF⟩
           | true =>
            have HN:=Hd ((Uh HNX) (.inr rfl))
            have HC2:=Hd ((Uh HCH).on hb2)
            go_wp2
            go_round
            case rel=>exact ⟨c+1,by go_num,by omega,by omega,Uh HN,Uh HC2⟩
            case measure=>simp [intOf] <;> omega
          ·obtain rfl:=(Uh HBO) false (decide_eq_false (by omega))
           have HN:=Hd ((Uh HNX) (.inl rfl))
           have HC2:=Hd (Uh HCH)
           go_wp2
           go_round
           case rel=>exact ⟨c+1,by go_num,by omega,by omega,Uh HN,Uh HC2⟩
           case measure=>simp [intOf]; omega
        ·obtain rfl:=(Uh HBO) false (decide_eq_false (by omega))
         have HN:=Hd ((Uh HNX) (.inl rfl))
         have HC2:=Hd (Uh HCH)
         go_wp2
         go_round
         case rel=>exact ⟨c+1,by go_num,by omega,by omega,Uh HN,Uh HC2⟩
         case measure=>simp [intOf]; omega
     ·obtain rfl:=hres.trans (Cn.base_end (by omega))
      have HF:=Hd hch.2
      go_wp2
      go_ret2
      exact ⟨rfl,Uh HF⟩
 ·obtain rfl:=(Uh HERR) hq
  have hyb:(q2==0)=false:=beq_eq_false_iff_ne.2 hq
  have HF:=Hd hb1
  go_wp2
  go_ret2
  exact ⟨rfl,Uh HF⟩
namespace Cn
def tailT (rs:List Rec) (i:Nat):Nat × Int:=match twiceA rs i (rs.drop i) with
 | some i=>(i,62)
 | Option.none=>(0,0)
def tailQ (rs:List Rec) (k:Nat):Nat × Int:=match rightA k (rs.drop k) with
 | some x=>x
 | Option.none=>tailT rs 0
theorem q_hit {rs k} (hk:k<rs.length) (h:right (rs.getD k none)≠0):tailQ rs k=(k,right (rs.getD k none)):=by
 have e:rs.getD k none=rs[k]:=by grind
 rw [e] at h ⊢
 unfold tailQ
 rw [List.drop_eq_getElem_cons hk,rightA,if_neg h]
theorem q_next {rs k} (hk:k<rs.length) (h:right (rs.getD k none)=0):tailQ rs k=tailQ rs (k+1):=by
 have e:rs.getD k none=rs[k]:=by grind
 rw [e] at h
 unfold tailQ
 rw [List.drop_eq_getElem_cons hk,rightA,if_pos h]
theorem q_end rs:tailQ rs rs.length=tailT rs 0:=by
 unfold tailQ
 rw [List.drop_length,rightA]
theorem t_hit {rs i k} (hi:i<rs.length) (hk:k<i) (h:clash (rs.getD k none) (rs.getD i none)=true):tailT rs i=(i,62):=by
 have e:rs.getD i none=rs[i]:=by grind
 have e2:rs.getD k none=rs[k]:=by grind
 rw [e,e2] at h
 unfold tailT
 rw [List.drop_eq_getElem_cons hi,twiceA,if_pos]
 rw [List.any_eq_true]
 exact ⟨rs[k],List.mem_take_iff_getElem.2 ⟨k,by omega,rfl⟩,h⟩
theorem t_next {rs i} (hi:i<rs.length) (h:∀ k,k<i→clash (rs.getD k none) (rs.getD i none)=false):tailT rs i=tailT rs (i+1):=by
 have e:rs.getD i none=rs[i]:=by grind
 unfold tailT
 rw [List.drop_eq_getElem_cons hi,twiceA,if_neg]
 rw [List.any_eq_true]
 rintro ⟨x,hx,hc⟩
 obtain ⟨k,hk,rfl⟩:=List.mem_take_iff_getElem.1 hx
 have:=h k (by omega)
 rw [e,show rs.getD k none=rs[k] by simp [List.getD,show k<rs.length by omega]] at this
 rw [this] at hc
 cases hc
theorem t_end rs:tailT rs rs.length=(0,0):=by
 unfold tailT
 rw [List.drop_length,twiceA]
theorem check6_many {rs} (h:4096<rs.length):check6 rs=(0,3):=by unfold check6; rw [if_pos h]
theorem check6_few {rs} (h:¬ 4096<rs.length):check6 rs=tailQ rs 0:=by
 unfold check6 tailQ tailT
 rw [if_neg h]
 rfl
end Cn
def RightR:Prop:=∀ (r:Rec) (vt:Value) (w:World),RecFit r→Sk .i32 w vt r.to→Calls Tryz.prog 63 #[recV r vt] w (IntB w (Cn.right r))
def ClashR:Prop:=∀ (a b:Rec) (va vb:Value) (w:World),RecFit a→RecFit b→Sk .i32 w va a.to→Sk .i32 w vb b.to→Cn.right a=0→Cn.right b=0→Calls Tryz.prog 64 #[recV a va,recV b vb] w (BoolB w (Cn.clash a b))
set_option maxRecDepth 8000 in
set_option maxHeartbeats 4000000 in
theorem refCheck6_any (HR:RightR) (HC:ClashR):Check6R:=by
 intro v rs w hv
 have HW:Hid (ChIn w v rs w):=⟨hv,Below.refl _ _⟩
 have hlen:=hv.1
 by_cases hbig:4096<rs.length
 ·rw [Cn.check6_many hbig]
  obtain ⟨ao,cap,rfl,_,_⟩:=hv.shape
  go_enter Tryz.func44,Tryz.ntmps44
  go_wp2
  go_ret2
  exact ⟨rfl,Below.refl _ _⟩
 ·have HRES:=Hd (Cn.check6_few hbig)
  generalize Cn.check6 rs=res at *
  obtain ⟨ao,cap,rfl,_,_⟩:=hv.shape
  have HR:=Hd HR
  have HC:=Hd HC
  go_enter Tryz.func44,Tryz.ntmps44
  go_wp2
  go_loopw [4,5] (fun iv _ wr=>∃ k:Nat,iv=.int .i64 k∧k≤rs.length∧res=Cn.tailQ rs k∧(∀ j,j<k→Cn.right (rs.getD j Cn.none)=0)∧ChIn w (.slice ao rs.length cap) rs wr) (fun iv _ _=>rs.length - (intOf iv).toNat)
  case atStart=>exact ⟨0,rfl,by omega,Uh HRES,fun j hj=>absurd hj (Nat.not_lt_zero _),Uh HW⟩
  case round =>
   obtain ⟨k,rfl,hk,hres,hall,hch⟩:=hrel
   by_cases hlt:k<rs.length
   ·have HHIT:Hid (Cn.right (rs.getD k Cn.none)≠0→res=(k,Cn.right (rs.getD k Cn.none))):=fun h=>hres.trans (Cn.q_hit hlt h)
    have HNX:Hid (Cn.right (rs.getD k Cn.none)=0→res=Cn.tailQ rs (k+1)∧∀ j,j<k+1→Cn.right (rs.getD j Cn.none)=0):=fun h=>⟨hres.trans (Cn.q_next hlt h),fun j hj=>by
     rcases Nat.lt_or_ge j k with h' | h'
     ·exact hall j h'
     ·obtain rfl:j=k:=by omega
      exact h⟩
    have HCH:=Hd hch
    have hf:=hch.1.fit hlt
    obtain ⟨b,off,cap',he,hc1,hc2,hc⟩:=hch.1.place (by omega)
    obtain ⟨rfl,rfl⟩:ao=some ⟨b,off,none⟩∧cap=cap':=by simpa using he
    have hA:=hc k hlt
    obtain ⟨x0,x1,x2,x3,⟨va,x4,ska⟩,x5,x6,x7⟩:=hA
    have KC:=Hd ((Uh HR) _ va wr hf ska)
    unfold recV at KC
    obtain ⟨tq,tc,rfl,_,_⟩:=ska.shape
    generalize Cn.right (rs.getD k Cn.none)=y at *
    generalize rs.getD k Cn.none=r at *
    generalize r.kind=kd at *
    generalize r.n=n at *
    generalize r.lo=lo at *
    generalize r.hi=hi at *
    generalize r.name=nm at *
    generalize r.other=ot at *
    generalize r.wt=wt at *
    generalize r.to.length=tl at *
    go_wp2_with fail
    refine (Uh KC).mono ?_
    rintro e w2 ⟨rfl,hb2⟩
    by_cases hy:y=0
    ·have HN:=Hd ((Uh HNX) hy)
     obtain rfl:y=0:=hy
     have HC2:=Hd ((Uh HCH).on hb2)
     go_wp2
     go_round
     case rel=>exact ⟨k+1,by go_num,by omega,(Uh HN).1,(Uh HN).2,Uh HC2⟩
     case measure=>simp [intOf]; omega
    ·obtain rfl:=(Uh HHIT) hy
     have hyb:(y==0)=false:=beq_eq_false_iff_ne.2 hy
     have HC2:=Hd ((Uh HCH).on hb2).2
     go_wp2
     go_ret2
     exact ⟨rfl,Uh HC2⟩
   ·obtain rfl:k=rs.length:=by omega
    have HRES:=Hd (hres.trans (Cn.q_end rs))
    have HCH:=Hd hch
    have HALL:=Hd hall
    go_wp2
    go_loopw [6,7] (fun iv _ wi=>∃ i:Nat,iv=.int .i64 i∧i≤rs.length∧res=Cn.tailT rs i∧ChIn w (.slice ao rs.length cap) rs wi) (fun iv _ _=>rs.length - (intOf iv).toNat)
    case atStart=>exact ⟨0,rfl,by omega,Uh HRES,Uh HCH⟩
    case round =>
     obtain ⟨i,rfl,hi,hres,hch⟩:=hrel
     by_cases hlt2:i<rs.length
     ·have HHIT:Hid (∀ k,k<i→Cn.clash (rs.getD k Cn.none) (rs.getD i Cn.none)=true→res=(i,62)):=fun k a h=>hres.trans (Cn.t_hit hlt2 a h)
      have HNX:Hid ((∀ k,k<i→Cn.clash (rs.getD k Cn.none) (rs.getD i Cn.none)=false)→res=Cn.tailT rs (i+1)):=fun h=>hres.trans (Cn.t_next hlt2 h)
      have HCH:=Hd hch
      go_wp2
      go_loopw [7] (fun kv wj=>∃ k:Nat,kv=.int .i64 k∧k≤i∧(∀ j,j<k→Cn.clash (rs.getD j Cn.none) (rs.getD i Cn.none)=false)∧ChIn w (.slice ao rs.length cap) rs wj) (fun kv _=>i - (intOf kv).toNat)
      case atStart=>exact ⟨0,rfl,by omega,fun j hj=>absurd hj (Nat.not_lt_zero _),Uh HCH⟩
      case round =>
       obtain ⟨k,rfl,hk2,hno,hch⟩:=hrel
       clear HCH
       by_cases hlt3:k<i
       ·have HH:=Hd ((Uh HHIT) k hlt3)
        have HN:Hid (Cn.clash (rs.getD k Cn.none) (rs.getD i Cn.none)=false→∀ j,j<k+1→Cn.clash (rs.getD j Cn.none) (rs.getD i Cn.none)=false):=fun h j hj=>by
         rcases Nat.lt_or_ge j k with h' | h'
         ·exact hno j h'
         ·obtain rfl:j=k:=by omega
          exact h
        have HCH:=Hd hch
        have hfk:=hch.1.fit (i:=k) (by omega)
        have hfi:=hch.1.fit hlt2
        have hrk:=(Uh HALL) k (by omega)
        have hri:=(Uh HALL) i hlt2
        obtain ⟨b,off,cap',he,hc1,hc2,hc⟩:=hch.1.place (by omega)
        obtain ⟨rfl,rfl⟩:ao=some ⟨b,off,none⟩∧cap=cap':=by simpa using he
        have hA:=hc k (by omega)
        have hB:=hc i hlt2
        clear hc he hno hch HHIT HNX HALL
        obtain ⟨x0,x1,x2,x3,⟨va,x4,ska⟩,x5,x6,x7⟩:=hA
        obtain ⟨y0,y1,y2,y3,⟨vb,y4,skb⟩,y5,y6,y7⟩:=hB
        have KC:Hid (∀ n,Calls Tryz.prog 64 #[recV (rs.getD k Cn.none) va,recV (rs.getD i Cn.none) vb] (wr.drewN n) (BoolB (wr.drewN n) (Cn.clash (rs.getD k Cn.none) (rs.getD i Cn.none)))):=fun n=>(Uh HC) _ _ va vb _ hfk hfi (sk_drew ska n) (sk_drew skb n) hrk hri
        unfold recV at KC
        obtain ⟨tq,tc,rfl,_,_⟩:=ska.shape
        obtain ⟨uo,uc,rfl,_,_⟩:=skb.shape
        clear HC hfk hfi hrk hri ska skb
        generalize Cn.clash (rs.getD k Cn.none) (rs.getD i Cn.none)=y at HH KC HN
        generalize (rs.getD k Cn.none).kind=kind1 at *
        generalize (rs.getD k Cn.none).lo=lo1 at *
        generalize (rs.getD k Cn.none).hi=hi1 at *
        generalize (rs.getD k Cn.none).n=n1 at *
        generalize (rs.getD k Cn.none).name=name1 at *
        generalize (rs.getD k Cn.none).other=other1 at *
        generalize (rs.getD k Cn.none).wt=wt1 at *
        generalize (rs.getD k Cn.none).to.length=tl1 at *
        generalize (rs.getD i Cn.none).kind=kind2 at *
        generalize (rs.getD i Cn.none).lo=lo2 at *
        generalize (rs.getD i Cn.none).hi=hi2 at *
        generalize (rs.getD i Cn.none).n=n2 at *
        generalize (rs.getD i Cn.none).name=name2 at *
        generalize (rs.getD i Cn.none).other=other2 at *
        generalize (rs.getD i Cn.none).wt=wt2 at *
        generalize (rs.getD i Cn.none).to.length=tl2 at *
        go_wp2
        go_region_with (refine ((Uh KC) _).mono ?_; rintro e w1 ⟨rfl,hb1⟩)
        all_goals
         have HC2:=Hd ((Uh HCH).on (bthen (drewB ⟨_,rfl⟩) hb1))
         clear hb1 HCH KC x0 x1 x2 x3 x4 x5 x6 x7 y0 y1 y2 y3 y4 y5 y6 y7
         cases y with
         | true =>
          obtain rfl:=(Uh HH) rfl
          clear HH HN
          go_wp2
          go_ret2
          exact ⟨rfl,(Uh HC2).2⟩
         | false =>
          have HN2:=Hd ((Uh HN) rfl)
          clear HH HN
          go_wp2
          go_roundw
          case rel=>exact ⟨k+1,by go_num,by omega,Uh HN2,Uh HC2⟩
          case measure=>simp [intOf]; omega
       ·obtain rfl:k=i:=by omega
        have HN:=Hd ((Uh HNX) hno)
        have HCH:=Hd hch
        clear hno hch HNX HHIT
        go_wp2
        go_round
        case rel=>exact ⟨k+1,by go_num,by omega,Uh HN,Uh HCH⟩
        case measure=>simp [intOf]; omega
     ·obtain rfl:i=rs.length:=by omega
      obtain rfl:=hres.trans (Cn.t_end rs)
      have HF:=Hd hch.2
      clear hres hch HALL HC
      go_wp2
      go_ret2
      exact ⟨rfl,Uh HF⟩
end Go.Proofs.YtihhhjodonkkcaaGreatDoor
