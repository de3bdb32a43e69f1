/- Rv7 Rwp7 -/
import Derived.Test.YtkglkajjofidoaaGreatDoorV20
import Derived.BigQuiet
import Derived.Deep.QuietTactic
import Derived.Deep.DeepCutAuto
import Derived.Laws.BitsLemmas
set_option maxHeartbeats 4000000
set_option maxRecDepth 8000
namespace Go.Proofs.YtkglkajjofidoaaGreatDoor
open Go.Proofs.Tryz
open Go.RowKit
namespace Cn
theorem y6y {k:Int} (h:fam k=10):k=15:=by
  unfold fam at h;split at h
  · omega
  · split at h
    · omega
    · split at h
      · omega
      · split at h <;> omega
theorem y1s {b:Rec} {s hi c:Int} {k:Nat} (h:¬ c<=hi):clashA b s hi k c=false:=by
  cases k with
  | zero=>rfl
  | succ k=>rw [clashA,if_neg h]
theorem y1t {b:Rec} {s hi c:Int} {k:Nat} (h:c<=hi) (hs:speaks b c=true):clashA b s hi (k+1) c=true:=by
  rw [clashA,if_pos h,hs]; rfl
theorem x9b {b:Rec} {s hi c:Int} {k:Nat} (h:c<=hi) (hs:speaks b c=false):clashA b s hi (k+1) c=clashA b s hi k (c+s):=by
  rw [clashA,if_pos h,hs]; rfl
end Cn
theorem bytes_beq (a b:ByteArray):(a.toList==b.toList)=decide (a=b):=by
  have h:a.toList=b.toList↔a=b:=⟨fun h=>by
    rw [ByteArray.toList_eq,ByteArray.toList_eq] at h;obtain ⟨⟨x⟩⟩:=a;obtain ⟨⟨y⟩⟩:=b
    simpa using h,fun h=>by rw [h]⟩
  by_cases e:a=b
  · rw [d0t e,e]; exact beq_self_eq_true _
  · rw [d0f e]
    exact b0f fun x=>e (h.1 x)
structure BoxAt (w:World) (b:Nat) (kd lo hi n:Int) (vt:Value) (nm ot:ByteArray) (wt:Nat):Prop where
  kind:w.cell? ⟨b,0,none⟩=some (.int .i64 kd)
  lo:w.cell? ⟨b,1,none⟩=some (.int .i64 lo)
  hi:w.cell? ⟨b,2,none⟩=some (.int .i64 hi)
  n:w.cell? ⟨b,3,none⟩=some (.int .i64 n)
  tq:w.cell? ⟨b,4,none⟩=some vt
  name:w.cell? ⟨b,5,none⟩=some (.string nm)
  other:w.cell? ⟨b,6,none⟩=some (.string ot)
  wt:w.cell? ⟨b,7,none⟩=some (.float .f64 wt)
theorem BoxAt.keep {w w':World} {b:Nat} {kd lo hi n:Int} {vt:Value} {nm ot:ByteArray} {wt:Nat} (h:BoxAt w b kd lo hi n vt nm ot wt) (hb:Bw w w'):BoxAt w' b kd lo hi n vt nm ot wt :=
  ⟨by rw [hb.cell (x0a h.1)]; exact h.1,by rw [hb.cell (x0a h.2)]; exact h.2,by rw [hb.cell (x0a h.3)]; exact h.3,by rw [hb.cell (x0a h.4)]; exact h.4,by rw [hb.cell (x0a h.5)]; exact h.5,by rw [hb.cell (x0a h.6)]; exact h.6,by rw [hb.cell (x0a h.7)]; exact h.7,by rw [hb.cell (x0a h.8)]; exact h.8⟩
theorem x8Y (w:World) (kd lo hi n:Int) (vt:Value) (nm ot:ByteArray) (wt:Nat):BoxAt (w.alloc (.cells #[.int .i64 kd,.int .i64 lo,.int .i64 hi,.int .i64 n,vt,.string nm,.string ot,.float .f64 wt] 50)) w.heap.size kd lo hi n vt nm ot wt:=by
  refine ⟨?_,?_,?_,?_,?_,?_,?_,?_⟩ <;> simp [World.cell?,World.alloc,-World.alloc_eq]
def boxO (kd lo hi n:Int) (vt:Value) (nm ot:ByteArray) (wt:Nat):Obj:=.cells #[.int .i64 kd,.int .i64 lo,.int .i64 hi,.int .i64 n,vt,.string nm,.string ot,.float .f64 wt] 50
theorem y9f (w:World) (k1 l1 h1 n1:Int) (v1:Value) (a1 b1:ByteArray) (t1:Nat) (k2 l2 h2 n2:Int) (v2:Value) (a2 b2:ByteArray) (t2:Nat) :
    ∃ W,(w.alloc (boxO k1 l1 h1 n1 v1 a1 b1 t1)).alloc (boxO k2 l2 h2 n2 v2 a2 b2 t2)=W/\BoxAt W w.heap.size k1 l1 h1 n1 v1 a1 b1 t1/\BoxAt W (w.heap.size+1) k2 l2 h2 n2 v2 a2 b2 t2/\Bw w W:=by
  refine ⟨_,rfl,(x8Y w k1 l1 h1 n1 v1 a1 b1 t1).keep ((b0r).alloc (l0r _) _),?_,((b0r).alloc (l0r _) _).alloc (by simp) _⟩;have:=x8Y (w.alloc (boxO k1 l1 h1 n1 v1 a1 b1 t1)) k2 l2 h2 n2 v2 a2 b2 t2;simpa [boxO] using this
def ClIn (w:World) (b:Nat) (k2 l2 h2 n2:Int) (v2:Value) (a2 b2:ByteArray) (t2:Nat) (W:World):Prop:=BoxAt W b k2 l2 h2 n2 v2 a2 b2 t2/\Below w.heap.size w W
theorem ClIn.on {w:World} {b:Nat} {k2 l2 h2 n2:Int} {v2:Value} {a2 b2:ByteArray} {t2:Nat} {W W':World} (h:ClIn w b k2 l2 h2 n2 v2 a2 b2 t2 W) (hb:Bw W W'):ClIn w b k2 l2 h2 n2 v2 a2 b2 t2 W':=⟨h.1.keep hb,x0b h.2 hb⟩
theorem x8p:y7W:=by
  intro a b va vb w fa fb aB aC ra rb;have KF:∀ k w,Hid (I64 k)->Hid (Calls prog 62 #[.int .i64 k] w fun e w'=>e=.returned (.int .i64 (Cn.fam k))/\w'=w):=fun k w h=>x0l k w (V h);have KS:=O (fun w=>x5m a va w fa);have KP:=O (fun c w hc=>x3l b vb c w fb hc);obtain ⟨aj,aa⟩:∃ aj,Cn.clash a b=aj:=⟨_,rfl⟩;have ae:=aa;unfold Cn.clash at ae;rw [aa];clear aa;have h1:=fun h=>Cn.x0o (r:=a) ra h;have h2:=fun h=>Cn.x0o (r:=b) rb h;have h3:=Cn.right_step ra;obtain ⟨ao,ca,rfl,_,_⟩:=aB.shape;obtain ⟨bo,cb,rfl,_,_⟩:=aC.shape;have HA:Hid (∀ s hi k c,c<=hi->Cn.speaks b c=true->Cn.clashA b s hi (k+1) c=true):=fun s hi k c h hs=>Cn.y1t h hs;have HN:Hid (∀ s hi k c,c<=hi->Cn.speaks b c=false->Cn.clashA b s hi (k+1) c=Cn.clashA b s hi k (c+s)):=fun s hi k c h hs=>Cn.x9b h hs;have HF:Hid (∀ s hi k c,¬ c<=hi->Cn.clashA b s hi k c=false):=fun s hi k c h=>Cn.y1s h;have HZ:Hid (∀ s hi c,Cn.clashA b s hi 0 c=false):=fun s hi c=>rfl;have ah:b.kind=15->Cn.fam b.kind=10:=fun h=>(by rw [h]; rfl);have ad:Cn.fam a.kind=10->a.kind=15:=Cn.y6y;have ax:=fa.kind;have ay:=fb.kind;clear aB aC ra rb fa fb;generalize Cn.clashA b=cA at *;generalize Cn.speaks b=sp at *;generalize Cn.step a=st at *;unfold recV at *;generalize a.kind=kind1 at *;generalize a.lo=lo1 at *;generalize a.hi=hi1 at *;generalize a.n=n1 at *;generalize a.name=name1 at *;generalize a.other=other1 at *;generalize a.wt=wt1 at *;generalize b.kind=kind2 at *;generalize b.lo=lo2 at *;generalize b.hi=hi2 at *;generalize b.n=n2 at *;generalize b.name=name2 at *;generalize b.other=other2 at *;generalize b.wt=wt2 at *;generalize a.to.length=tl1 at *;generalize b.to.length=tl2 at *;have F1:=O ax;have F2:=O ay;clear ax ay;generalize Cn.fam=fam at *;obtain ⟨w0,am,ag,av,az⟩:=y9f w kind1 lo1 hi1 n1 (.slice ao tl1 ca) name1 other1 wt1 kind2 lo2 hi2 n2 (.slice bo tl2 cb) name2 other2 wt2;unfold boxO at am;have ar:=O ag;have au:=O av;have an:=O az;clear az;obtain ⟨x0,x1,x2,x3,x4,x5,x6,x7⟩:=ag;obtain ⟨y0,y1,y2,y3,y4,y5,y6,y7⟩:=av;by_cases hf:fam kind1=fam kind2;rotate_left
  · rw [if_pos hf] at ae
    subst ae;have q:(fam kind1 != fam kind2)=true:=(by simp [hf]);clear h1 h2 h3 ah ad HA HN HF HZ KS KP hf;go_enter func61,ntmps61;go_wp2_with fail;go_quiet (first | (go_at_call 62; refine Calls.quiet_of_same (V (KF _ _ ?_)); with_reducible (first | exact F1 | exact F2)));go_wp2;go_ret;exact ⟨rfl,x0b (V an) (x0k ⟨_,rfl⟩)⟩
  rw [if_neg (by simpa using hf)] at ae;have q:(fam kind1 != fam kind2)=false:=(by simp [hf]);by_cases h15:kind1=15
  · rw [if_pos h15] at ae
    have aq:(kind1==15)=true:=(by simp [h15]);clear h15 hf;have e1:=bytes_beq name1 name2;have e2:=bytes_beq other1 other2;have e3:=bytes_beq name1 other2;have e4:=bytes_beq other1 name2
    have ap:aj=((decide (name1=name2) && decide (other1=other2)) || (decide (name1=other2) && decide (other1=name2))):=by
      rw [<- ae];by_cases c1:name1=name2 <;> by_cases c2:other1=other2 <;> by_cases c3:name1=other2 <;> by_cases c4:other1=name2 <;> simp_all
    clear ae h1 h2 h3 ah ad HA HN HF HZ KS KP;generalize decide (name1=name2)=c1 at *;generalize decide (other1=other2)=c2 at *;generalize decide (name1=other2)=c3 at *;generalize decide (other1=name2)=c4 at *;subst ap;cases c1 <;> cases c2 <;> cases c3 <;> cases c4 <;>
    (go_enter func61,ntmps61
     go_wp2_with fail;go_quiet (first | (go_at_call 62; refine Calls.quiet_of_same (V (KF _ _ ?_)); with_reducible (first | exact F1 | exact F2)));go_wp2;go_ret
     exact ⟨rfl,x0b (V an) (x0k ⟨_,rfl⟩)⟩)
  rw [if_neg h15] at ae;have aq:(kind1==15)=false:=b0f h15;have h16:kind2≠15:=fun h=>h15 (ad (hf.trans (ah h)));obtain ⟨a0,a1,a2⟩:=h1 h15;obtain ⟨b0,b1,b2⟩:=h2 h16;obtain ⟨s0,s1⟩:=h3;clear h1 h2 ah ad h16 h15 hf;have aG:∃ mx,max lo1 lo2=mx/\0<=mx/\mx<=1114111/\lo1<=mx:=⟨_,rfl,by omega,by omega,by omega⟩;obtain ⟨mx,aE,m0,m1,m2⟩:=aG;have aF:∃ mn,min hi1 hi2=mn/\0<=mn/\mn<=1114111:=⟨_,rfl,by omega,by omega⟩;obtain ⟨mn,aD,n0,n9⟩:=aF;rw [aE,aD] at ae
  obtain ⟨c0,al,c1,c2,ae⟩:∃ c0:Int,(if lo1<mx then lo1+(mx - lo1+st - 1) / st * st else lo1)=c0/\0<=c0/\c0<=1114200/\cA st mn 64 c0=aj:=by
    refine ⟨_,rfl,?_,?_,ae⟩
    · split
      · have:=Int.ediv_nonneg (a:=mx - lo1+st - 1) (b:=st) (by omega) (by omega)
        have:=Int.mul_nonneg this (show 0<=st by omega);omega
      · omega
    · split
      · have:=Int.ediv_mul_le (mx - lo1+st - 1) (show st≠0 by omega)
        omega
      · omega
  have ai:=O ae;clear ae;have KS':Hid (∀ W,Bw w0 W->Calls prog 102 #[.agg #[.int .i64 kind1,.int .i64 lo1,.int .i64 hi1,.int .i64 n1,.slice ao tl1 ca,.string name1,.string other1,.float .f64 wt1]] W (fun e W'=>e=.returned (.int .i64 st)/\BoxAt W' w.heap.size kind1 lo1 hi1 n1 (.slice ao tl1 ca) name1 other1 wt1/\ClIn w (w.heap.size+1) kind2 lo2 hi2 n2 (.slice bo tl2 cb) name2 other2 wt2 W')):=fun W hb=>(V KS W).mono (fun e W' ⟨h1,h2⟩=>⟨h1,(V ar).keep (x0b hb h2),(V au).keep (x0b hb h2),x0b (V an) (x0b hb h2)⟩);clear KS ar au an;rcases Int.lt_or_le lo1 lo2 with g1 | g1
  · obtain rfl:lo2=mx:=by omega
    rw [if_pos g1] at al;obtain ⟨d,hd⟩:∃ d,(lo2 - lo1+st - 1).tdiv st=d:=⟨_,rfl⟩;have aA:(lo2 - lo1+st - 1) / st=d:=(by rw [<- hd,Int.tdiv_eq_ediv_of_nonneg (by omega)]);have e0:=Int.mul_nonneg (Int.ediv_nonneg (a:=lo2 - lo1+st - 1) (b:=st) (by omega) (by omega)) (show 0<=st by omega);have e1:=Int.ediv_mul_le (lo2 - lo1+st - 1) (show st≠0 by omega);have e8:=Int.ediv_nonneg (a:=lo2 - lo1+st - 1) (b:=st) (by omega) (by omega);have e9:=Int.ediv_le_self (a:=lo2 - lo1+st - 1) st (by omega);rw [aA] at al e0 e1 e8 e9;obtain rfl:=al;have e2:(st==0)=false:=b0f (by omega);clear aA;rcases Int.lt_or_le hi2 hi1 with g2 | g2
    · obtain rfl:hi2=mn:=by omega
      go_enter func61,ntmps61;go_wp2_with fail;go_quiet (first | (go_at_call 62; refine Calls.quiet_of_same (V (KF _ _ ?_)); with_reducible (first | exact F1 | exact F2)));go_wp2_with fail;go_quiet (fail);clear KF F1 F2;go_wp2_with fail;refine ((V KS') _ (x0k ⟨_,rfl⟩)).mono ?_;rintro e1 w1 ⟨rfl,ag,ac⟩;have ab:=O ac;clear KS' ac x0 x1 x2 x3 x4 x5 x6 x7 y0 y1 y2 y3 y4 y5 y6 y7 am;obtain ⟨x0,x1,x2,x3,x4,x5,x6,x7⟩:=ag;go_wp2_with fail;go_quiet (fail);have ab:=O ((V ab).on (x0k ⟨nq,rfl⟩));go_wp2;clear x0 x1 x2 x3 x4 x5 x6 x7;go_loopw [8,9] (fun cv kv wr=>∃ (k:Nat) (c:Int),cv=.int .i64 c/\kv=.int .i64 k/\k<=64/\0<=c/\c<=1114200/\cA st hi2 (64 - k) c=aj/\ClIn w (w.heap.size+1) kind2 lo2 hi2 n2 (.slice bo tl2 cb) name2 other2 wt2 wr) (fun _ kv _=>64 - (intOf kv).toNat)
      case atStart=>exact ⟨0,lo1+d * st,rfl,rfl,by omega,by omega,by omega,V ai,V ab⟩
      case round =>
        clear ai ab;obtain ⟨k,c,rfl,rfl,hk,k0,k1,aa,ac⟩:=hrel;have ab:=O ac;obtain ⟨y0,y1,y2,y3,y4,y5,y6,y7⟩:=ac.1;clear ac;by_cases hk64:k<64
        · by_cases hle:c<=hi2
          · obtain ⟨r,hr⟩:∃ r,64 - k=r+1:=⟨63 - k,by omega⟩
            rw [hr] at aa;have HH:=O (fun h=>(V HA st hi2 r c hle h).symm.trans aa);have HX:=O (fun h=>(V HN st hi2 r c hle h).symm.trans aa);have KC:=O (V KP c wr ⟨by omega,by omega⟩);clear aa KP HA HN HF HZ;generalize sp c=y at *;go_wp2_with fail;refine (V KC).mono ?_;rintro e w2 ⟨rfl,af⟩;have ab:=O ((V ab).on af);clear KC af y0 y1 y2 y3 y4 y5 y6 y7
            cases y with
            | true =>
              obtain rfl:=V HH rfl;clear HH HX;go_wp2;go_ret;exact ⟨rfl,(V ab).2⟩
            | false =>
              have ak:=O (V HX rfl);clear HH HX;go_wp2
              go_roundw
              case rel=>exact ⟨k+1,c+st,by go_num,by go_num,by omega,by omega,by omega,by rw [show 64 - (k+1)=r by omega]; exact V ak,V ab⟩
              case measure=>simp [intOf]; omega
          · obtain rfl:=(V HF st hi2 (64 - k) c (by omega)).symm.trans aa
            clear aa KP HA HN HF HZ y0 y1 y2 y3 y4 y5 y6 y7;go_wp2;go_ret;exact ⟨rfl,(V ab).2⟩
        · obtain rfl:k=64:=by omega
          obtain rfl:=(V HZ st hi2 c).symm.trans aa;clear aa KP HA HN HF HZ y0 y1 y2 y3 y4 y5 y6 y7;go_wp2;go_ret;exact ⟨rfl,(V ab).2⟩
    · obtain rfl:hi1=mn:=by omega
      go_enter func61,ntmps61;go_wp2_with fail;go_quiet (first | (go_at_call 62; refine Calls.quiet_of_same (V (KF _ _ ?_)); with_reducible (first | exact F1 | exact F2)));go_wp2_with fail;go_quiet (fail);clear KF F1 F2;go_wp2_with fail;refine ((V KS') _ (x0k ⟨_,rfl⟩)).mono ?_;rintro e1 w1 ⟨rfl,ag,ac⟩;have ab:=O ac;clear KS' ac x0 x1 x2 x3 x4 x5 x6 x7 y0 y1 y2 y3 y4 y5 y6 y7 am;obtain ⟨x0,x1,x2,x3,x4,x5,x6,x7⟩:=ag;go_wp2_with fail;go_quiet (fail);have ab:=O ((V ab).on (x0k ⟨nq,rfl⟩));go_wp2;clear x0 x1 x2 x3 x4 x5 x6 x7;go_loopw [8,9] (fun cv kv wr=>∃ (k:Nat) (c:Int),cv=.int .i64 c/\kv=.int .i64 k/\k<=64/\0<=c/\c<=1114200/\cA st hi1 (64 - k) c=aj/\ClIn w (w.heap.size+1) kind2 lo2 hi2 n2 (.slice bo tl2 cb) name2 other2 wt2 wr) (fun _ kv _=>64 - (intOf kv).toNat)
      case atStart=>exact ⟨0,lo1+d * st,rfl,rfl,by omega,by omega,by omega,V ai,V ab⟩
      case round =>
        clear ai ab;obtain ⟨k,c,rfl,rfl,hk,k0,k1,aa,ac⟩:=hrel;have ab:=O ac;obtain ⟨y0,y1,y2,y3,y4,y5,y6,y7⟩:=ac.1;clear ac;by_cases hk64:k<64
        · by_cases hle:c<=hi1
          · obtain ⟨r,hr⟩:∃ r,64 - k=r+1:=⟨63 - k,by omega⟩
            rw [hr] at aa;have HH:=O (fun h=>(V HA st hi1 r c hle h).symm.trans aa);have HX:=O (fun h=>(V HN st hi1 r c hle h).symm.trans aa);have KC:=O (V KP c wr ⟨by omega,by omega⟩);clear aa KP HA HN HF HZ;generalize sp c=y at *;go_wp2_with fail;refine (V KC).mono ?_;rintro e w2 ⟨rfl,af⟩;have ab:=O ((V ab).on af);clear KC af y0 y1 y2 y3 y4 y5 y6 y7
            cases y with
            | true =>
              obtain rfl:=V HH rfl;clear HH HX;go_wp2;go_ret;exact ⟨rfl,(V ab).2⟩
            | false =>
              have ak:=O (V HX rfl);clear HH HX;go_wp2
              go_roundw
              case rel=>exact ⟨k+1,c+st,by go_num,by go_num,by omega,by omega,by omega,by rw [show 64 - (k+1)=r by omega]; exact V ak,V ab⟩
              case measure=>simp [intOf]; omega
          · obtain rfl:=(V HF st hi1 (64 - k) c (by omega)).symm.trans aa
            clear aa KP HA HN HF HZ y0 y1 y2 y3 y4 y5 y6 y7;go_wp2;go_ret;exact ⟨rfl,(V ab).2⟩
        · obtain rfl:k=64:=by omega
          obtain rfl:=(V HZ st hi1 c).symm.trans aa;clear aa KP HA HN HF HZ y0 y1 y2 y3 y4 y5 y6 y7;go_wp2;go_ret;exact ⟨rfl,(V ab).2⟩
  · obtain rfl:lo1=mx:=by omega
    rw [if_neg (by omega)] at al;obtain rfl:=al;rcases Int.lt_or_le hi2 hi1 with g2 | g2
    · obtain rfl:hi2=mn:=by omega
      go_enter func61,ntmps61;go_wp2_with fail;go_quiet (first | (go_at_call 62; refine Calls.quiet_of_same (V (KF _ _ ?_)); with_reducible (first | exact F1 | exact F2)));go_wp2_with fail;go_quiet (fail);clear KF F1 F2;go_wp2_with fail;refine ((V KS') _ (x0k ⟨_,rfl⟩)).mono ?_;rintro e1 w1 ⟨rfl,ag,ac⟩;have ab:=O ac;clear KS' ac x0 x1 x2 x3 x4 x5 x6 x7 y0 y1 y2 y3 y4 y5 y6 y7 am;obtain ⟨x0,x1,x2,x3,x4,x5,x6,x7⟩:=ag;go_wp2;clear x0 x1 x2 x3 x4 x5 x6 x7;go_loopw [8,9] (fun cv kv wr=>∃ (k:Nat) (c:Int),cv=.int .i64 c/\kv=.int .i64 k/\k<=64/\0<=c/\c<=1114200/\cA st hi2 (64 - k) c=aj/\ClIn w (w.heap.size+1) kind2 lo2 hi2 n2 (.slice bo tl2 cb) name2 other2 wt2 wr) (fun _ kv _=>64 - (intOf kv).toNat)
      case atStart=>exact ⟨0,_,rfl,rfl,by omega,by omega,by omega,V ai,V ab⟩
      case round =>
        clear ai ab;obtain ⟨k,c,rfl,rfl,hk,k0,k1,aa,ac⟩:=hrel;have ab:=O ac;obtain ⟨y0,y1,y2,y3,y4,y5,y6,y7⟩:=ac.1;clear ac;by_cases hk64:k<64
        · by_cases hle:c<=hi2
          · obtain ⟨r,hr⟩:∃ r,64 - k=r+1:=⟨63 - k,by omega⟩
            rw [hr] at aa;have HH:=O (fun h=>(V HA st hi2 r c hle h).symm.trans aa);have HX:=O (fun h=>(V HN st hi2 r c hle h).symm.trans aa);have KC:=O (V KP c wr ⟨by omega,by omega⟩);clear aa KP HA HN HF HZ;generalize sp c=y at *;go_wp2_with fail;refine (V KC).mono ?_;rintro e w2 ⟨rfl,af⟩;have ab:=O ((V ab).on af);clear KC af y0 y1 y2 y3 y4 y5 y6 y7
            cases y with
            | true =>
              obtain rfl:=V HH rfl;clear HH HX;go_wp2;go_ret;exact ⟨rfl,(V ab).2⟩
            | false =>
              have ak:=O (V HX rfl);clear HH HX;go_wp2
              go_roundw
              case rel=>exact ⟨k+1,c+st,by go_num,by go_num,by omega,by omega,by omega,by rw [show 64 - (k+1)=r by omega]; exact V ak,V ab⟩
              case measure=>simp [intOf]; omega
          · obtain rfl:=(V HF st hi2 (64 - k) c (by omega)).symm.trans aa
            clear aa KP HA HN HF HZ y0 y1 y2 y3 y4 y5 y6 y7;go_wp2;go_ret;exact ⟨rfl,(V ab).2⟩
        · obtain rfl:k=64:=by omega
          obtain rfl:=(V HZ st hi2 c).symm.trans aa;clear aa KP HA HN HF HZ y0 y1 y2 y3 y4 y5 y6 y7;go_wp2;go_ret;exact ⟨rfl,(V ab).2⟩
    · obtain rfl:hi1=mn:=by omega
      go_enter func61,ntmps61;go_wp2_with fail;go_quiet (first | (go_at_call 62; refine Calls.quiet_of_same (V (KF _ _ ?_)); with_reducible (first | exact F1 | exact F2)));go_wp2_with fail;go_quiet (fail);clear KF F1 F2;go_wp2_with fail;refine ((V KS') _ (x0k ⟨_,rfl⟩)).mono ?_;rintro e1 w1 ⟨rfl,ag,ac⟩;have ab:=O ac;clear KS' ac x0 x1 x2 x3 x4 x5 x6 x7 y0 y1 y2 y3 y4 y5 y6 y7 am;obtain ⟨x0,x1,x2,x3,x4,x5,x6,x7⟩:=ag;go_wp2;clear x0 x1 x2 x3 x4 x5 x6 x7;go_loopw [8,9] (fun cv kv wr=>∃ (k:Nat) (c:Int),cv=.int .i64 c/\kv=.int .i64 k/\k<=64/\0<=c/\c<=1114200/\cA st hi1 (64 - k) c=aj/\ClIn w (w.heap.size+1) kind2 lo2 hi2 n2 (.slice bo tl2 cb) name2 other2 wt2 wr) (fun _ kv _=>64 - (intOf kv).toNat)
      case atStart=>exact ⟨0,_,rfl,rfl,by omega,by omega,by omega,V ai,V ab⟩
      case round =>
        clear ai ab;obtain ⟨k,c,rfl,rfl,hk,k0,k1,aa,ac⟩:=hrel;have ab:=O ac;obtain ⟨y0,y1,y2,y3,y4,y5,y6,y7⟩:=ac.1;clear ac;by_cases hk64:k<64
        · by_cases hle:c<=hi1
          · obtain ⟨r,hr⟩:∃ r,64 - k=r+1:=⟨63 - k,by omega⟩
            rw [hr] at aa;have HH:=O (fun h=>(V HA st hi1 r c hle h).symm.trans aa);have HX:=O (fun h=>(V HN st hi1 r c hle h).symm.trans aa);have KC:=O (V KP c wr ⟨by omega,by omega⟩);clear aa KP HA HN HF HZ;generalize sp c=y at *;go_wp2_with fail;refine (V KC).mono ?_;rintro e w2 ⟨rfl,af⟩;have ab:=O ((V ab).on af);clear KC af y0 y1 y2 y3 y4 y5 y6 y7
            cases y with
            | true =>
              obtain rfl:=V HH rfl;clear HH HX;go_wp2;go_ret;exact ⟨rfl,(V ab).2⟩
            | false =>
              have ak:=O (V HX rfl);clear HH HX;go_wp2
              go_roundw
              case rel=>exact ⟨k+1,c+st,by go_num,by go_num,by omega,by omega,by omega,by rw [show 64 - (k+1)=r by omega]; exact V ak,V ab⟩
              case measure=>simp [intOf]; omega
          · obtain rfl:=(V HF st hi1 (64 - k) c (by omega)).symm.trans aa
            clear aa KP HA HN HF HZ y0 y1 y2 y3 y4 y5 y6 y7;go_wp2;go_ret;exact ⟨rfl,(V ab).2⟩
        · obtain rfl:k=64:=by omega
          obtain rfl:=(V HZ st hi1 c).symm.trans aa;clear aa KP HA HN HF HZ y0 y1 y2 y3 y4 y5 y6 y7;go_wp2;go_ret;exact ⟨rfl,(V ab).2⟩
theorem x0I (w:World) (kd lo hi n:Int) (vt:Value) (nm ot:ByteArray) (wt:Nat):∃ W,w.alloc (.cells #[.int .i64 kd,.int .i64 lo,.int .i64 hi,.int .i64 n,vt,.string nm,.string ot,.float .f64 wt] 50)=W/\BoxAt W w.heap.size kd lo hi n vt nm ot wt/\Bw w W :=
 ⟨_,rfl,x8Y w kd lo hi n vt nm ot wt,(b0r).alloc (l0r _) _⟩
def ansG (x:Bool):Int:=if x=true then 0 else 61
theorem x0F (x:Int):Rune (wrap32 x):=by
 unfold wrap32 Rune;omega
theorem x0R {x:Int} (h0:0<=x) (h1:x<=1114111):wrap32 (bits BinOp.and IntKind.i64 x 2097151)=x:=by
 have aw:(2:Int) ^ 63=9223372036854775808:=(by decide);have h:=bits_mask .i64 63 (by decide) (fun n h0 h1=>by rw [aw] at h1; rw [IntKind.wrap_i64]; omega) 21 (by decide) x (by omega) (by rw [aw]; omega);have e:((2:Int) ^ 21 - 1)=2097151:=(by decide);have e2:((2:Int) ^ 21)=2097152:=(by decide);rw [e,e2] at h;rw [h];unfold wrap32;omega
