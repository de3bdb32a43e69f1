/- Rv7 Rwp7 -/
import Derived.Test.YtihhhjodonkkcaaGreatDoorX14
import Derived.BigQuiet
import Derived.Deep.QuietTactic
import Derived.Deep.DeepCutAuto
import Derived.Laws.BitsLemmas
namespace Go.Proofs.YtihhhjodonkkcaaGreatDoor
open Go.RowKit
namespace Cn
theorem fam_mixK {k} (h:fam k=10):k=15:=by
  unfold fam at h
  split at h
  · omega
  · omega
theorem clashA_far {b s hi c k} (h:¬ c≤hi):clashA b s hi k c=false:=by
  cases k with
  | zero=>rfl
  | succ k=>rw [clashA,if_neg h]
theorem clashA_hit {b s hi c k} (h:c≤hi) (hs:speaks b c=true):clashA b s hi (k+1) c=true:=by
  rw [clashA,if_pos h,hs]; rfl
theorem clashA_next {b s hi c k} (h:c≤hi) (hs:speaks b c=false):clashA b s hi (k+1) c=clashA b s hi k (c+s):=by
  rw [clashA,if_pos h,hs]; rfl
end Cn
theorem bytes_beq (a b:ByteArray):(a.toList==b.toList)=decide (a=b):=by
  have h:a.toList=b.toList↔a=b:=⟨fun h=>by
    rw [ByteArray.toList_eq,ByteArray.toList_eq] at h
    obtain ⟨⟨x⟩⟩:=a
    obtain ⟨⟨y⟩⟩:=b
    simpa using h,fun h=>by rw [h]⟩
  by_cases e:a=b
  · grind
  · grind
structure BoxAt (w:World) (b:Nat) (kd lo hi n:Int) (vt:Value) (nm ot:ByteArray) (wt:Nat):Prop where
  kind:w.cell? ⟨b,0,none⟩=some (.int .i64 kd)
  lo:w.cell? ⟨b,1,none⟩=some (.int .i64 lo)
  hi:w.cell? ⟨b,2,none⟩=some (.int .i64 hi)
  n:w.cell? ⟨b,3,none⟩=some (.int .i64 n)
  tq:w.cell? ⟨b,4,none⟩=some vt
  name:w.cell? ⟨b,5,none⟩=some (.string nm)
  other:w.cell? ⟨b,6,none⟩=some (.string ot)
  wt:w.cell? ⟨b,7,none⟩=some (.float .f64 wt)
theorem BoxAt.keep {w w' b kd lo hi n vt} {nm ot wt} (h:BoxAt w b kd lo hi n vt nm ot wt) (hb:Below w.heap.size w w'):BoxAt w' b kd lo hi n vt nm ot wt :=
  ⟨by rw [hb.cell (lt_of_cell? h.1)]; exact h.1,by rw [hb.cell (lt_of_cell? h.2)]; exact h.2,by rw [hb.cell (lt_of_cell? h.3)]; exact h.3,by rw [hb.cell (lt_of_cell? h.4)]; exact h.4,by rw [hb.cell (lt_of_cell? h.5)]; exact h.5,by rw [hb.cell (lt_of_cell? h.6)]; exact h.6,by rw [hb.cell (lt_of_cell? h.7)]; exact h.7,by rw [hb.cell (lt_of_cell? h.8)]; exact h.8⟩
theorem box_new (w:World) kd lo hi n vt nm ot wt:BoxAt (w.alloc (.cells #[.int .i64 kd,.int .i64 lo,.int .i64 hi,.int .i64 n,vt,.string nm,.string ot,.float .f64 wt] 59)) w.heap.size kd lo hi n vt nm ot wt:=by
  refine ⟨?_,?_,?_,?_,?_,?_,?_,?_⟩ <;> simp [World.cell?,World.alloc,-World.alloc_eq]
def boxO (kd lo hi n:Int) (vt:Value) (nm ot:ByteArray) (wt:Nat):Obj:=.cells #[.int .i64 kd,.int .i64 lo,.int .i64 hi,.int .i64 n,vt,.string nm,.string ot,.float .f64 wt] 59
theorem box_two w k1 l1 h1 n1 v1 a1 b1 t1 k2 l2 h2 n2 v2 a2 b2 t2 :
    ∃ W,(w.alloc (boxO k1 l1 h1 n1 v1 a1 b1 t1)).alloc (boxO k2 l2 h2 n2 v2 a2 b2 t2)=W∧BoxAt W w.heap.size k1 l1 h1 n1 v1 a1 b1 t1∧BoxAt W (w.heap.size+1) k2 l2 h2 n2 v2 a2 b2 t2∧Below w.heap.size w W:=by
  refine ⟨_,rfl,(box_new w k1 l1 h1 n1 v1 a1 b1 t1).keep ((Below.refl _ _).alloc (Nat.le_refl _) _),?_,((Below.refl _ _).alloc (Nat.le_refl _) _).alloc (by simp) _⟩
  have:=box_new (w.alloc (boxO k1 l1 h1 n1 v1 a1 b1 t1)) k2 l2 h2 n2 v2 a2 b2 t2
  simpa [boxO] using this
def ClIn (w:World) (b:Nat) (k2 l2 h2 n2:Int) (v2:Value) (a2 b2:ByteArray) (t2:Nat) (W:World):Prop:=BoxAt W b k2 l2 h2 n2 v2 a2 b2 t2∧Below w.heap.size w W
theorem ClIn.on {w b k2 l2 h2 n2 v2} {a2 b2 t2 W W'} (h:ClIn w b k2 l2 h2 n2 v2 a2 b2 t2 W) (hb:Below W.heap.size W W'):ClIn w b k2 l2 h2 n2 v2 a2 b2 t2 W':=⟨h.1.keep hb,bthen h.2 hb⟩
set_option maxRecDepth 8000 in
set_option maxHeartbeats 4000000 in
theorem refClash_any:ClashR:=by
  intro a b va vb w fa fb ska skb ra rb
  have KF:∀ k w,Hid (I64 k)→Hid (Calls Tryz.prog 65 #[.int .i64 k] w fun e w'=>e=.returned (.int .i64 (Cn.fam k))∧w'=w):=fun k w h=>refFamily_any k w (Uh h)
  have KS:=Hd (fun w=>refStep_any a va w fa)
  have KP:=Hd (fun c w hc=>refSpeaks_any b vb c w fb hc)
  obtain ⟨res,hres⟩:∃ res,Cn.clash a b=res:=⟨_,rfl⟩
  have hcl:=hres
  unfold Cn.clash at hcl
  rw [hres]
  clear hres
  have h1:=fun h=>Cn.right_span (r:=a) ra h
  have h2:=fun h=>Cn.right_span (r:=b) rb h
  have h3:=Cn.right_step ra
  obtain ⟨ao,ca,rfl,_,_⟩:=ska.shape
  obtain ⟨bo,cb,rfl,_,_⟩:=skb.shape
  have HA:Hid (∀ s hi k c,c≤hi→Cn.speaks b c=true→Cn.clashA b s hi (k+1) c=true):=fun s hi k c h hs=>Cn.clashA_hit h hs
  have HN:Hid (∀ s hi k c,c≤hi→Cn.speaks b c=false→Cn.clashA b s hi (k+1) c=Cn.clashA b s hi k (c+s)):=fun s hi k c h hs=>Cn.clashA_next h hs
  have HF:Hid (∀ s hi k c,¬ c≤hi→Cn.clashA b s hi k c=false):=fun s hi k c h=>Cn.clashA_far h
  have HZ:Hid (∀ s hi c,Cn.clashA b s hi 0 c=false):=fun s hi c=>rfl
  have hmix:b.kind=15→Cn.fam b.kind=10:=fun h=>by rw [h]; rfl
  have hmix1:Cn.fam a.kind=10→a.kind=15:=Cn.fam_mixK
  have fak:=fa.kind
  have fbk:=fb.kind
  clear ska skb ra rb fa fb
  generalize Cn.clashA b=cA at *
  generalize Cn.speaks b=sp at *
  generalize Cn.step a=st at *
  unfold recV at *
  generalize a.kind=kind1 at *
  generalize a.lo=lo1 at *
  generalize a.hi=hi1 at *
  generalize a.n=n1 at *
  generalize a.name=name1 at *
  generalize a.other=other1 at *
  generalize a.wt=wt1 at *
  generalize b.kind=kind2 at *
  generalize b.lo=lo2 at *
  generalize b.hi=hi2 at *
  generalize b.n=n2 at *
  generalize b.name=name2 at *
  generalize b.other=other2 at *
  generalize b.wt=wt2 at *
  generalize a.to.length=tl1 at *
  generalize b.to.length=tl2 at *
  have F1:=Hd fak
  have F2:=Hd fbk
  clear fak fbk
  generalize Cn.fam=fam at *
  obtain ⟨w0,hw0,bx1,bx2,hb0⟩:=box_two w kind1 lo1 hi1 n1 (.slice ao tl1 ca) name1 other1 wt1 kind2 lo2 hi2 n2 (.slice bo tl2 cb) name2 other2 wt2
  unfold boxO at hw0
  have HB1:=Hd bx1
  have HB2:=Hd bx2
  have HB0:=Hd hb0
  clear hb0
  obtain ⟨x0,x1,x2,x3,x4,x5,x6,x7⟩:=bx1
  obtain ⟨y0,y1,y2,y3,y4,y5,y6,y7⟩:=bx2
  by_cases hf:fam kind1=fam kind2
  rotate_left
  · rw [if_pos hf] at hcl
    subst hcl
    have q:(fam kind1 != fam kind2)=true:=by simp [hf]
    clear h1 h2 h3 hmix hmix1 HA HN HF HZ KS KP hf
    go_enter Tryz.func64,Tryz.ntmps64
    go_wp2_with fail
    go_quiet (first | (go_at_call 65; refine Calls.quiet_of_same (Uh (KF _ _ ?_)); with_reducible (first | exact F1 | exact F2)))
    go_wp2
    go_ret
    exact ⟨rfl,bthen (Uh HB0) (drewB ⟨_,rfl⟩)⟩
  rw [if_neg (by simpa using hf)] at hcl
  have q:(fam kind1 != fam kind2)=false:=by simp [hf]
  by_cases h15:kind1=15
  · rw [if_pos h15] at hcl
    have hq15:(kind1==15)=true:=by simp [h15]
    clear h15 hf
    have e1:=bytes_beq name1 name2
    have e2:=bytes_beq other1 other2
    have e3:=bytes_beq name1 other2
    have e4:=bytes_beq other1 name2
    have hcl2:res=((decide (name1=name2) && decide (other1=other2)) || (decide (name1=other2) && decide (other1=name2))):=by
      rw [← hcl]
      by_cases c1:name1=name2 <;> by_cases c2:other1=other2 <;> by_cases c3:name1=other2 <;> by_cases c4:other1=name2 <;> simp_all
    clear hcl h1 h2 h3 hmix hmix1 HA HN HF HZ KS KP
    generalize decide (name1=name2)=c1 at *
    generalize decide (other1=other2)=c2 at *
    generalize decide (name1=other2)=c3 at *
    generalize decide (other1=name2)=c4 at *
    subst hcl2
    cases c1 <;> cases c2 <;> cases c3 <;> cases c4 <;>
    (go_enter Tryz.func64,Tryz.ntmps64
     go_wp2_with fail
     go_quiet (first | (go_at_call 65; refine Calls.quiet_of_same (Uh (KF _ _ ?_)); with_reducible (first | exact F1 | exact F2)))
     go_wp2
     go_ret
     exact ⟨rfl,bthen (Uh HB0) (drewB ⟨_,rfl⟩)⟩)
  rw [if_neg h15] at hcl
  have hq15:(kind1==15)=false:=beq_eq_false_iff_ne.2 h15
  have h16:kind2≠15:=fun h=>h15 (hmix1 (hf.trans (hmix h)))
  obtain ⟨a0,a1,a2⟩:=h1 h15
  obtain ⟨b0,b1,b2⟩:=h2 h16
  obtain ⟨s0,s1⟩:=h3
  clear h1 h2 hmix hmix1 h16 h15 hf
  have hmx:∃ mx,max lo1 lo2=mx∧0≤mx∧mx≤1114111∧lo1≤mx:=⟨_,rfl,by omega,by omega,by omega⟩
  obtain ⟨mx,emx,m0,m1,m2⟩:=hmx
  have hmn:∃ mn,min hi1 hi2=mn∧0≤mn∧mn≤1114111:=⟨_,rfl,by omega,by omega⟩
  obtain ⟨mn,emn,n0,n9⟩:=hmn
  rw [emx,emn] at hcl
  obtain ⟨c0,hc0,c1,c2,hcl⟩:∃ c0:Int,(if lo1<mx then lo1+(mx - lo1+st - 1) / st * st else lo1)=c0∧0≤c0∧c0≤1114200∧cA st mn 64 c0=res:=by
    refine ⟨_,rfl,?_,?_,hcl⟩
    · split
      · have:=Int.ediv_nonneg (a:=mx - lo1+st - 1) (b:=st) (by omega) (by omega)
        have:=Int.mul_nonneg this (show 0≤st by omega)
        omega
      · omega
    · split
      · have:=Int.ediv_mul_le (mx - lo1+st - 1) (show st≠0 by omega)
        omega
      · omega
  have HCL:=Hd hcl
  clear hcl
  have KS':Hid (∀ W,Below w0.heap.size w0 W→Calls Tryz.prog 107 #[.agg #[.int .i64 kind1,.int .i64 lo1,.int .i64 hi1,.int .i64 n1,.slice ao tl1 ca,.string name1,.string other1,.float .f64 wt1]] W (fun e W'=>e=.returned (.int .i64 st)∧BoxAt W' w.heap.size kind1 lo1 hi1 n1 (.slice ao tl1 ca) name1 other1 wt1∧ClIn w (w.heap.size+1) kind2 lo2 hi2 n2 (.slice bo tl2 cb) name2 other2 wt2 W')):=fun W hb=>((Uh KS) W).mono (fun e W' ⟨h1,h2⟩=>⟨h1,(Uh HB1).keep (bthen hb h2),(Uh HB2).keep (bthen hb h2),bthen (Uh HB0) (bthen hb h2)⟩)
  clear KS HB1 HB2 HB0
  rcases Int.lt_or_le lo1 lo2 with g1 | g1
  obtain rfl:lo2=mx:=by omega
  rw [if_pos g1] at hc0
  obtain ⟨d,hd⟩:∃ d,(lo2 - lo1+st - 1).tdiv st=d:=⟨_,rfl⟩
  have hd2:(lo2 - lo1+st - 1) / st=d:=by rw [← hd,Int.tdiv_eq_ediv_of_nonneg (by omega)]
  have e0:=Int.mul_nonneg (Int.ediv_nonneg (a:=lo2 - lo1+st - 1) (b:=st) (by omega) (by omega)) (show 0≤st by omega)
  have e1:=Int.ediv_mul_le (lo2 - lo1+st - 1) (show st≠0 by omega)
  have e8:=Int.ediv_nonneg (a:=lo2 - lo1+st - 1) (b:=st) (by omega) (by omega)
  have e9:=Int.ediv_le_self (a:=lo2 - lo1+st - 1) st (by omega)
  rw [hd2] at hc0 e0 e1 e8 e9
  obtain rfl:=hc0
  have e2:(st==0)=false:=beq_eq_false_iff_ne.2 (by omega)
  clear hd2
  rotate_left
  obtain rfl:lo1=mx:=by omega
  rw [if_neg (by omega)] at hc0
  obtain rfl:=hc0
  all_goals
    rcases Int.lt_or_le hi2 hi1 with g2 | g2
    have em:=Hd (show hi2=mn by omega)
    rotate_left
    have em:=Hd (show hi1=mn by omega)
    all_goals
      go_enter Tryz.func64,Tryz.ntmps64
      go_wp2_with fail
      go_quiet (first | (go_at_call 65; refine Calls.quiet_of_same (Uh (KF _ _ ?_)); with_reducible (first | exact F1 | exact F2)))
      go_wp2_with fail
      go_quiet (fail)
      clear KF F1 F2
      go_wp2_with fail
      refine ((Uh KS') _ (drewB ⟨_,rfl⟩)).mono ?_
      rintro e1 w1 ⟨rfl,bx1,hin⟩
      have HIN:=Hd hin
      clear KS' hin x0 x1 x2 x3 x4 x5 x6 x7 y0 y1 y2 y3 y4 y5 y6 y7 hw0
      obtain ⟨x0,x1,x2,x3,x4,x5,x6,x7⟩:=bx1
      try
        go_wp2_with fail
        go_quiet (fail)
        have HIN:=Hd ((Uh HIN).on (drewB ⟨nq,rfl⟩))
      go_wp2
      rw [Uh em]
      clear x0 x1 x2 x3 x4 x5 x6 x7
      go_loopw [8,9] (fun cv kv wr=>∃ (k:Nat) (c:Int),cv=.int .i64 c∧kv=.int .i64 k∧k≤64∧0≤c∧c≤1114200∧cA st mn (64 - k) c=res∧ClIn w (w.heap.size+1) kind2 lo2 hi2 n2 (.slice bo tl2 cb) name2 other2 wt2 wr) (fun _ kv _=>64 - (intOf kv).toNat)
      case atStart=>exact ⟨0,_,rfl,rfl,by omega,by omega,by omega,Uh HCL,Uh HIN⟩
      case round =>
        clear HCL HIN
        obtain ⟨k,c,rfl,rfl,hk,k0,k1,hres,hin⟩:=hrel
        have HIN:=Hd hin
        obtain ⟨y0,y1,y2,y3,y4,y5,y6,y7⟩:=hin.1
        clear hin
        by_cases hk64:k<64
        · by_cases hle:c≤mn
          · obtain ⟨r,hr⟩:∃ r,64 - k=r+1:=⟨63 - k,by omega⟩
            rw [hr] at hres
            have HH:=Hd (fun h=>((Uh HA) st mn r c hle h).symm.trans hres)
            have HX:=Hd (fun h=>((Uh HN) st mn r c hle h).symm.trans hres)
            have KC:=Hd ((Uh KP) c wr ⟨by omega,by omega⟩)
            clear hres KP HA HN HF HZ
            generalize sp c=y at *
            go_wp2_with fail
            refine (Uh KC).mono ?_
            rintro e w2 ⟨rfl,hb2⟩
            have HIN:=Hd ((Uh HIN).on hb2)
            clear KC hb2 y0 y1 y2 y3 y4 y5 y6 y7
            cases y with
            | true =>
              obtain rfl:=(Uh HH) rfl
              clear HH HX
              go_wp2
              go_ret
              exact ⟨rfl,(Uh HIN).2⟩
            | false =>
              have HX2:=Hd ((Uh HX) rfl)
              clear HH HX
              go_wp2
              go_roundw
              case rel=>exact ⟨k+1,c+st,by go_num,by go_num,by omega,by omega,by omega,by rw [show 64 - (k+1)=r by omega]; exact Uh HX2,Uh HIN⟩
              case measure=>simp [intOf]; omega
          · obtain rfl:=((Uh HF) st mn (64 - k) c (by omega)).symm.trans hres
            clear hres KP HA HN HF HZ y0 y1 y2 y3 y4 y5 y6 y7
            go_wp2
            go_ret
            exact ⟨rfl,(Uh HIN).2⟩
        · obtain rfl:k=64:=by omega
          obtain rfl:=((Uh HZ) st mn c).symm.trans hres
          clear hres KP HA HN HF HZ y0 y1 y2 y3 y4 y5 y6 y7
          go_wp2
          go_ret
          exact ⟨rfl,(Uh HIN).2⟩
theorem box_one w kd lo hi n vt nm ot wt:∃ W,w.alloc (.cells #[.int .i64 kd,.int .i64 lo,.int .i64 hi,.int .i64 n,vt,.string nm,.string ot,.float .f64 wt] 59)=W∧BoxAt W w.heap.size kd lo hi n vt nm ot wt∧Below w.heap.size w W :=
 ⟨_,rfl,box_new w kd lo hi n vt nm ot wt,(Below.refl _ _).alloc (Nat.le_refl _) _⟩
def ansG (x:Bool):Int:=if x=true then 0 else 61
theorem wrap32_rune x:Rune (wrap32 x):=by
 unfold wrap32 Rune
 omega
theorem mask_small {x} (h0:0≤x) (h1:x≤1114111):wrap32 (bits BinOp.and IntKind.i64 x 2097151)=x:=by
 have e63:(2:Int) ^ 63=9223372036854775808:=by decide
 have h:=bits_mask .i64 63 (by decide) (fun n h0 h1=>by rw [e63] at h1; rw [IntKind.wrap_i64]; omega) 21 (by decide) x (by omega) (by rw [e63]; omega)
 have e:((2:Int) ^ 21 - 1)=2097151:=by decide
 have e2:((2:Int) ^ 21)=2097152:=by decide
 rw [e,e2] at h
 rw [h]
 unfold wrap32
 omega
theorem rw_lead {okb oneb lo hi} (hok:Hid (okb=decide (0≤lo∧lo≤hi∧hi≤(1114111:Int)))) (hone:Hid (okb=true→oneb=(decide (lo=hi) && Cn.scalar lo))):∃ G:Bool→Prop,Hid (0≤lo→lo≤hi→hi≤1114111→true=okb)∧Hid (¬ (0≤lo∧lo≤hi∧hi≤1114111)→false=okb)∧Hid (lo=hi→G (Cn.scalar (wrap32 (bits BinOp.and IntKind.i64 lo 2097151))))∧Hid (¬ lo=hi→G false)∧Hid (∀ ob,G ob→okb=true→ob=oneb) :=
 ⟨fun ob=>okb=true→ob=oneb,fun c1 c2 c3=>by rw [Uh hok,decide_eq_true ⟨c1,c2,c3⟩],fun c=>by rw [Uh hok,decide_eq_false c],fun hlh h=>by
  have h1:=of_decide_eq_true ((Uh hok).symm.trans h)
  rw [Uh hone h,mask_small h1.1 (by omega),decide_eq_true hlh,Bool.true_and],fun hlh h=>by rw [Uh hone h,decide_eq_false hlh,Bool.false_and],fun _ h=>h⟩
end Go.Proofs.YtihhhjodonkkcaaGreatDoor
