/- Rn15 -/
import Derived.Test.YtfemhegfjfhnbaaGreatDoorW47
namespace Go.Proofs.YtfemhegfjfhnbaaGreatDoor
open Go.RowKit Go.Shelf
open Ti
attribute [local go_sem] Oper.semAt_some
theorem Pt15.kept {B p:Nat} {fl:Int} {bd bk bf:Nat} {kv:Value} {xs:List Int} {W A:World} (h:Pt15 B p fl bd bk bf kv xs W) (hk:∀ j,B≤j→j<W.heap.size→A.heap[j]?=W.heap[j]?):Pt15 B p fl bd bk bf kv xs A :=
  ⟨by rw [World.cell?_of_block (hk _ h.bd0 (lt_of_cell? h.d))]; exact h.d,by rw [World.cell?_of_block (hk _ h.bk0 (lt_of_cell? h.k))]; exact h.k,by rw [World.cell?_of_block (hk _ h.bf0 (lt_of_cell? h.f))]; exact h.f,h.ok.keep (fun g hg=>hk g (h.ok.row.lt g hg).1 (h.ok.row.lt g hg).2),h.bd0,h.bk0,h.bf0⟩
theorem range15b {F:Fence} {n:Nat} {P:Program} {g:Operand} {ps:Array Tmp} {assign body:Code} {Q:Exit→Act→World→Prop} {a:Act} {w:World}
    (hro:F.round=none) (h1:1≤n) {gf:Nat} {lb:Array Value} (hg:a.eval g=.func (.func gf) #[] lb) (hFg:F.fn gf) (eg:∀ args w,(callFunc gf args).run P w=.ok (.enter gf args) w)
    {N:Nat} {enc:Nat→Value→Array Value} {Pr:Nat→Value→World→World→Prop} {Rd:World→Prop} (hit:It15 F (n - 1) P gf lb N enc Pr Rd) (hps:∀ k v,(enc k v).size=ps.size)
    (I:Nat→World→Prop) (Ix:Code→Nat→World→Prop) (J:World→Prop) (hR:∀ k A,I k A→Rd A) (hI:∀ k A B,I k A→Below A.heap.size A B→I k B)
    (hIp:∀ k A r o o',w.heap.size≤r→A.heap[r]?=some o→o.isCells=false→I k A→I k (A.putObj r o'))
    (hIx:∀ c k A r o o',w.heap.size≤r→A.heap[r]?=some o→o.isCells=false→Ix c k A→Ix c k (A.putObj r o'))
    (hPr:∀ k v A B r o',r<A.heap.size→Pr k v A B→Pr k v (A.putObj r o') (B.putObj r o'))
    (h0:I 0 w) (hJ1:∀ W,I N W→J W) (hJ2:∀ c k W,k<N→Ix c k W→J W∧∀ a',Q .normal a' W→c.wpIn F n P Q a' W) (a₁:Nat→Value→Act)
    (hassign:∀ (l k:Nat) (v:Value) (W:World) (K:Act→World→Prop),K (a₁ k v) W →
      assign.wpIn (F.inRound l) (n - 1 - 1) P (Exit.then K (fun _ _ _=>False)) { tmps:=(ps.zip (enc k v)).foldl (fun t (p,v)=>t.setIfInBounds p v) a.tmps,defers:=[] } W)
    (hbody:∀ (l k:Nat) (v:Value) (A B:World),k<N→l=w.heap.size+1→l<A.heap.size→I k A→Below A.heap.size A B→Pr k v A B →
      (∃ r,B.heap[l]?=some (.loop r))→B.heap[w.heap.size]?=some (.deferred (some [])) →
      body.wpIn (F.inRound l) (n - 1 - 1) P (Out15 w.heap.size (I (k+1)) (fun c=>Ix c k) B) (a₁ k v) B)
    (hrest:∀ W,J W→W.heap[w.heap.size]?=some (.deferred (some []))→Q .normal { a with defers:={ target:=.collected w.heap.size,args:=#[] } :: a.defers } W) :
    (Code.rangeFunc g ps assign body).wpIn F n P Q a w :=
  range15 hro h1 hg hFg eg hit hps I Ix hR hI hIp hIx hPr h0 a₁ hassign hbody (fun W hi hd=>hrest W (hJ1 W hi) hd) (fun c k W hk hx hd=>(hJ2 c k W hk hx).2 _ (hrest W (hJ2 c k W hk hx).1 hd))
theorem put_below15 {U A:World} (h:Below U.heap.size U A) {r:Nat} {o:Obj} (o':Obj) (hr:U.heap.size≤r) (ho:A.heap[r]?=some o):Below U.heap.size U (A.putObj r o') :=
  h.trans ((Below.refl _ A).grown (grownBy_putObj' A r o') (by have:=(Array.getElem?_eq_some_iff.1 ho).1; omega) (fun k e=>by cases e; omega))
theorem gb_cell15 {W0 W:World} {b n c:Nat} (h:W0.grownBy W (Value.slice (some ⟨b,0,none⟩) n c).ownBlock) (i:Nat) (v:Value):W0.grownBy (W.setCell ⟨b,i,none⟩ v) (Value.slice (some ⟨b,0,none⟩) n c).ownBlock :=
  ⟨h.os,h.tape,h.output,by have:=(KeepsWalks.setCell W ⟨b,i,none⟩ v).size; exact Nat.le_trans h.size this,fun k hk hn=>by
    rw [Below.heap_setCell _ _ _ k (fun e=>hn (by simp [Value.ownBlock,e]))]; exact h.block k hk hn⟩
set_option maxRecDepth 100000 in
set_option maxHeartbeats 8000000 in
theorem parts_law15 (v:Value) (rs0:List Rec) (xv:Value) (xs:List Int) (fl st:Int) (w:World) (hg:Glob w) (hv:Rcs w v rs0) (hx:Sk .i32 w xv xs):Calls Tryz.prog 4 #[v,xv,.int .i64 fl,.int .i64 st] w (Tells w true):=by
  obtain ⟨xo,xcap,hxe,hxc1,hxc2⟩:=hx.shape
  obtain ⟨ao,cap,hve,_,hcap⟩:=hv.shape
  obtain ⟨wa,hwa⟩:∃ wa,w.alloc (.cells #[xv] 23)=wa:=⟨_,rfl⟩
  obtain ⟨wb,hwb⟩:∃ wb,wa.alloc (.cells #[.int .i64 fl] 3)=wb:=⟨_,rfl⟩
  obtain ⟨wc,hwc⟩:∃ wc,wb.alloc (.cells #[.int .i64 st] 3)=wc:=⟨_,rfl⟩
  obtain ⟨w0,hw0⟩:∃ w0,wc.alloc (.cells #[.bool false] 4)=w0:=⟨_,rfl⟩
  have sa:wa.heap.size=w.heap.size+1:=by rw [← hwa]; exact alloc_size15 _ _
  have sb:wb.heap.size=w.heap.size+2:=by rw [← hwb,alloc_size15,sa]
  have sc:wc.heap.size=w.heap.size+3:=by rw [← hwc,alloc_size15,sb]
  have s0:w0.heap.size=w.heap.size+4:=by rw [← hw0,alloc_size15,sc]
  have b0:Below w.heap.size w w0:=by
    rw [← hw0,← hwc,← hwb,← hwa]
    exact ((((Below.refl _ _).alloc (Nat.le_refl _) _).alloc (by simp) _).alloc (by simp; omega) _).alloc (by simp; omega) _
  have bx:Boxed w0 w.heap.size 23 xv:=by rw [← hw0,← hwc,← hwb,← hwa]; exact (((Boxed.new w _ _).alloc _).alloc _).alloc _
  have bf:Boxed w0 (w.heap.size+1) 3 (.int .i64 fl):=by rw [← hw0,← hwc,← hwb,← sa]; exact ((Boxed.new wa _ _).alloc _).alloc _
  have bs:Boxed w0 (w.heap.size+2) 3 (.int .i64 st):=by rw [← hw0,← hwc,← sb]; exact (Boxed.new wb _ _).alloc _
  have br:Boxed w0 (w.heap.size+3) 4 (.bool false):=by rw [← hw0,← sc]; exact Boxed.new wc _ _
  have K1:=Hd (made_any v rs0 w0 (hg.on b0) (hv.below b0))
  have hfit:∀ r∈rs0.take 150,RecFit r:=fun r hr=>hv.2.1 r (List.mem_of_mem_take hr)
  have hrl:(rs0.take 150).length≤150:=by rw [List.length_take]; omega
  have HFIT:=Hd hfit
  have HX:=Hd (hx.below b0)
  have HXW:=Hd hx
  have HG:=Hd (hg.on b0)
  subst hxe hve
  clear hfit hg hv hx
  generalize rs0.take 150=rs at *
  generalize rs0.length=L at *
  refine (callsIn_wide (n:=4)).1 ?_
  refine callsIn_of_wp_marks Tryz.func4 rfl trivial ?_ rfl
  simp only [Tryz.ntmps4,List.size_toArray,List.length_cons,List.length_nil,Nat.reduceAdd,Nat.reduceSub,Array.replicate_succ,Array.replicate_zero,List.push_toArray,List.append_toArray,List.nil_append,List.cons_append]
  gi_wp2_with (refine ⟨trivial,?_⟩; gi_at_call 7; refine (callsIn_wide.2 (Uh K1)).mono ?_)
  rintro e1 w1 ⟨b1,h1⟩
  have hs1:=b1.size
  have HB1:=Hd (bthen b0 b1)
  have bx1:Boxed w1 w.heap.size 23 (.slice xo xs.length xcap):=(b1.block _ bx.lt).trans bx
  have bf1:Boxed w1 (w.heap.size+1) 3 (.int .i64 fl):=(b1.block _ bf.lt).trans bf
  have bs1:Boxed w1 (w.heap.size+2) 3 (.int .i64 st):=(b1.block _ bs.lt).trans bs
  have br1:Boxed w1 (w.heap.size+3) 4 (.bool false):=(b1.block _ br.lt).trans br
  have HX1:=Hd ((Uh HX).below b1)
  have HG1:=Hd ((Uh HG).on b1)
  clear K1 bx bf bs br HX HG
  rcases h1 with ⟨hne,rfl⟩ | ⟨h0,p,v2,ps2,rfl,hD,r2,p2⟩
  · have ha:Below w1.heap.size w1 (w1.alloc (.cells #[.slice none 0 0] 25)):=(Below.refl _ _).alloc (Nat.le_refl _) _
    have K2:=Hd (told_any15 _ ((Uh HG1).on ha))
    have HBA:=Hd (bthen (Uh HB1) ha)
    have hbra:=br1.alloc (.cells #[.slice none 0 0] 25)
    have HBR:=Hd hbra
    clear hne ha bx1 bf1 bs1 br1 hbra b1
    gi_wp2_with (refine ⟨trivial,?_⟩; gi_at_call 8; refine (callsIn_wide.2 (Uh K2)).mono ?_)
    rintro e2 w2 ⟨rfl,b2⟩
    have hbr2:Boxed w2 (w.heap.size+3) 4 (.bool false):=(b2.block _ (Uh HBR).lt).trans (Uh HBR)
    have hc:=hbr2.cell
    have hf:=hbr2.frozen
    have HB2:=Hd ((bthen (Uh HBA) b2).setCell (p:=⟨w.heap.size+3,0,none⟩) (by simp) (.bool true))
    have HC2:=Hd (hbr2.set (.bool true)).cell
    clear K2 b2 hbr2 HBR HBA
    gi_wp2
    have hb:=Uh HB2
    have hc2:=Uh HC2
    clear HB2 HC2 hc hf
    generalize w2.setCell ⟨w.heap.size+3,0,none⟩ (.bool true)=WF at *
    exact ⟨_,by simp [results,Tryz.results4,go_sem,hc2],rfl,hb⟩
  · have h6:=(Cn.check_iff.1 h0).1
    have R2:=rcs_new r2 p2 (by omega) (Uh HFIT)
    obtain ⟨a2,cp2,hv2,_,hcp2⟩:=R2.shape
    subst hv2
    obtain ⟨w2,hw2⟩:∃ w2,w1.alloc (.cells #[.slice a2 rs.length cp2] 25)=w2:=⟨_,rfl⟩
    have b2:Below w1.heap.size w1 w2:=by rw [← hw2]; exact (Below.refl _ _).alloc (Nat.le_refl _) _
    have s2:w2.heap.size=w1.heap.size+1:=by rw [← hw2]; exact alloc_size15 _ _
    have bt2:Boxed w2 w1.heap.size 25 (.slice a2 rs.length cp2):=by rw [← hw2]; exact Boxed.new w1 _ _
    have bx2:Boxed w2 w.heap.size 23 (.slice xo xs.length xcap):=(b2.block _ bx1.lt).trans bx1
    have H6:=Hd h6
    have HDK:Hid (∀ A,w2.heap.size≤A.heap.size→(∀ j,w0.heap.size≤j→j<w2.heap.size→A.heap[j]?=w2.heap[j]?)→DataAt A w0.heap.size p rs∧Rcs A (.slice a2 rs.length cp2) rs):=fun A hs hk =>
      ⟨(hD.below b2).keep hs hk,rcs_new ((r2.on7 b2).far7 hk) p2 (by omega) (Uh HFIT)⟩
    have HX2:=Hd ((Uh HX1).below b2)
    have HB2:=Hd (bthen (Uh HB1) b2)
    have bf2:Boxed w2 (w.heap.size+1) 3 (.int .i64 fl):=(b2.block _ bf1.lt).trans bf1
    have bs2:Boxed w2 (w.heap.size+2) 3 (.int .i64 st):=(b2.block _ bs1.lt).trans bs1
    have br2:Boxed w2 (w.heap.size+3) 4 (.bool false):=(b2.block _ br1.lt).trans br1
    have hXl:(xs.take 60).length≤60:=List.length_take_le _ _
    have hXx:(xs.take 60).length≤xs.length:=by rw [List.length_take]; omega
    have HXG:Hid (∀ k,k<(xs.take 60).length→(xs.take 60).getD k 0=xs.getD k 0):=fun k hk=>by
      rw [List.length_take] at hk
      simp [List.getD,show k<60 by omega]
    have K3:=Hd (few_any15 _ xs 60 w2 (Uh HX2) (by omega))
    clear hD r2 p2 R2 h6 h0 HX1 HG1 HB1 bx1 bf1 bs1 br1
    generalize xs.take 60=X at *
    have x2:=bx2.cell
    gi_wp2_with (refine ⟨trivial,?_⟩; gi_at_call 9; refine (callsIn_wide.2 (Uh K3)).mono ?_)
    rintro e3 w3 ⟨v3,rfl,ok3,b3⟩
    obtain ⟨a3,c3,hv3,hc31,hc32⟩:=ok3.sk.shape
    subst hv3
    obtain ⟨w4,hw4⟩:∃ w4,w3.alloc (.cells #[.slice a3 X.length c3] 23)=w4:=⟨_,rfl⟩
    have b4:Below w3.heap.size w3 w4:=by rw [← hw4]; exact (Below.refl _ _).alloc (Nat.le_refl _) _
    have s4:w4.heap.size=w3.heap.size+1:=by rw [← hw4]; exact alloc_size15 _ _
    have s3:=b3.size
    have b34:=bthen b3 b4
    have bi4:Boxed w4 w3.heap.size 23 (.slice a3 X.length c3):=by rw [← hw4]; exact Boxed.new w3 _ _
    have bt4:Boxed w4 w1.heap.size 25 (.slice a2 rs.length cp2):=(b34.block _ bt2.lt).trans bt2
    have bx4:Boxed w4 w.heap.size 23 (.slice xo xs.length xcap):=(b34.block _ bx2.lt).trans bx2
    have bf4:Boxed w4 (w.heap.size+1) 3 (.int .i64 fl):=(b34.block _ bf2.lt).trans bf2
    have bs4:Boxed w4 (w.heap.size+2) 3 (.int .i64 st):=(b34.block _ bs2.lt).trans bs2
    have br4:Boxed w4 (w.heap.size+3) 4 (.bool false):=(b34.block _ br2.lt).trans br2
    have HO4:=Hd (ok3.below b4)
    have HLO:Hid (∀ g,(Value.slice a3 X.length c3).ownBlock=some g→w2.heap.size≤g∧g<w3.heap.size):=fun g hg=>ok3.row.lt g hg
    have HB24:=Hd b34
    have K5:=Hd (parts_any15 p fl _ X w4 (ok3.below b4).sk (by omega))
    have y1:=bi4.cell
    have y2:=bf4.cell
    clear K3 ok3 b3 b4 b34 x2 bt2 bx2 bf2 bs2 br2
    gi_wp2_with (refine ⟨trivial,?_⟩; gi_at_call 17; refine (callsIn_wide.2 (Uh K5)).mono ?_)
    rintro e5 w5 ⟨bd,bk,bq,kv,rfl,pt,b5⟩
    have s5:=b5.size
    have bi5:Boxed w5 w3.heap.size 23 (.slice a3 X.length c3):=(b5.block _ bi4.lt).trans bi4
    have HO5:=Hd ((Uh HO4).below b5)
    have HBT:=Hd ((b5.block _ bt4.lt).trans bt4)
    have HBX:=Hd ((b5.block _ bx4.lt).trans bx4)
    have HBF:=Hd ((b5.block _ bf4.lt).trans bf4)
    have HBS:=Hd ((b5.block _ bs4.lt).trans bs4)
    have HBR:=Hd ((b5.block _ br4.lt).trans br4)
    have HBI:=Hd bi5
    have HPT:=Hd pt
    have HB25:=Hd (bthen (Uh HB24) b5)
    clear K5 y1 y2 pt b5 bi4 bt4 bx4 bf4 bs4 br4 HO4 HB24 bi5
    gi_wp2
    gi_loopw [14] (fun ii wr=>∃ (i:Nat) (l:List Int),ii=.int .i64 i∧i≤X.length∧l.length=X.length∧Ok .i32 21 wr w2.heap.size (.slice a3 X.length c3) l∧w5.grownBy wr (Value.slice a3 X.length c3).ownBlock) (fun ii _=>X.length - (intOf ii).toNat)
    case atStart=>exact ⟨0,X,rfl,Nat.zero_le _,rfl,Uh HO5,World.grownBy.refl w5 _⟩
    case round =>
      clear HO5
      obtain ⟨i,l,rfl,hi,hll,oa,hgr⟩:=hrel
      have hbi:Boxed wr w3.heap.size 23 (.slice a3 X.length c3):=(Uh HBI).kept hgr (fun e=>by have:=((Uh HLO) _ e.symm).2; omega)
      have hic:=hbi.cell
      by_cases hil:i<X.length
      · obtain ⟨gg,hgg⟩:=own_some15 oa (by omega)
        subst hgg
        obtain ⟨hcell,hfr⟩:=row_cell15 (k:=i) oa (by omega)
        have o2:=(oa.setAt9 i 65 (fun z hz=>by simp at hz; subst hz; exact i32_fit (by omega))).1
        have hg2:w5.grownBy (wr.setCell ⟨gg,i,none⟩ (.int .i32 65)) (Value.slice (some ⟨gg,0,none⟩) X.length c3).ownBlock:=gb_cell15 hgr i _
        have HO2:=Hd o2
        have HG2:=Hd hg2
        clear oa hgr o2 hg2 hbi
        generalize l.getD i 0=old at *
        gi_wp2
        go_roundw
        case rel=>exact ⟨i+1,l.set i 65,by go_num,by omega,by simp [hll],Uh HO2,Uh HG2⟩
        case measure=>simp [intOf]; omega
      · obtain ⟨s,hs63,hs1'⟩:=and_mask15 st 63 (by decide)
        have hs63':bits .and .i64 st 63=(s:Int):=hs63
        have hno:∀ b,b<w2.heap.size∨w3.heap.size≤b→some b≠(Value.slice a3 X.length c3).ownBlock:=fun b hb e=>by have:=(Uh HLO) _ e.symm; omega
        have bsr:Boxed wr (w.heap.size+2) 3 (.int .i64 st):=(Uh HBS:Boxed _ _ _ _).kept hgr (hno _ (by omega))
        have bc:=bsr.cell
        have bfz:=bsr.frozen
        obtain ⟨U,hU⟩:∃ U,wr.setCell ⟨w.heap.size+2,0,none⟩ (.int .i64 s)=U:=⟨_,rfl⟩
        have hUk:∀ j,j<w5.heap.size→some j≠(Value.slice a3 X.length c3).ownBlock→j≠w.heap.size+2→U.heap[j]?=w5.heap[j]?:=fun j h1 h2 h3=>by rw [← hU,Below.heap_setCell _ _ _ _ (by simpa using h3)]; exact hgr.block j h1 h2
        have hUs:w5.heap.size≤U.heap.size:=by rw [← hU]; exact Nat.le_trans hgr.size (KeepsWalks.setCell wr _ _).size
        have uS:Boxed U (w.heap.size+2) 3 (.int .i64 s):=by rw [← hU]; exact bsr.set _
        have uX:Boxed U w.heap.size 23 (.slice xo xs.length xcap):=(hUk _ (Uh HBX:Boxed _ _ _ _).lt (hno _ (by omega)) (by omega)).trans (Uh HBX)
        have uF:Boxed U (w.heap.size+1) 3 (.int .i64 fl):=(hUk _ (Uh HBF:Boxed _ _ _ _).lt (hno _ (by omega)) (by omega)).trans (Uh HBF)
        have uR:Boxed U (w.heap.size+3) 4 (.bool false):=(hUk _ (Uh HBR:Boxed _ _ _ _).lt (hno _ (by omega)) (by omega)).trans (Uh HBR)
        have uT:Boxed U w1.heap.size 25 (.slice a2 rs.length cp2):=(hUk _ (Uh HBT:Boxed _ _ _ _).lt (hno _ (by omega)) (by omega)).trans (Uh HBT)
        have uI:Boxed U w3.heap.size 23 (.slice a3 X.length c3):=(hUk _ (Uh HBI).lt (hno _ (by omega)) (by omega)).trans (Uh HBI)
        have uP:Pt15 w4.heap.size p fl bd bk bq kv X U:=(Uh HPT).kept (fun j h1 h2=>hUk j h2 (hno _ (by omega)) (by omega))
        have h25:=Uh HB25
        obtain ⟨uD,uC⟩:=(Uh HDK) U (by have:=h25.size; omega) (fun j h1 h2=>(hUk j (by omega) (hno _ (.inl h2)) (by omega)).trans (h25.block j h2))
        have uB:Below w.heap.size w U:=by
          have h2:=Uh HB2
          refine ⟨?_,?_,?_,by omega,fun j hj=>(hUk j (by omega) (hno _ (.inl (by omega))) (by omega)).trans ((h25.block j (by omega)).trans (h2.block j hj))⟩
          · rw [← hU]; exact hgr.os.trans (h25.os.trans h2.os)
          · rw [← hU]; exact hgr.tape.trans (h25.tape.trans h2.tape)
          · rw [← hU]; exact hgr.output.trans (h25.output.trans h2.output)
        have uK:Sk .i32 U (.slice xo xs.length xcap) xs:=(Uh HXW).below uB
        clear oa hgr hbi HBT HBX HBF HBS HBR HBI HPT HB25 HDK HLO HB2 h25 hno bsr hUk hs63
        gi_wp2
        obtain ⟨one,hone⟩:∃ one,Cn.one15 rs (tr15 fl)=one:=⟨_,rfl⟩
        have hOC:∀ A,Below U.heap.size U A→OneC15 A p fl one:=fun A hA=>by rw [← hone]; exact oneC15 fl A (uD.below hA) (Uh H6) (Uh HFIT)
        have hRC:∀ A,Below U.heap.size U A→RoneC15 A (.slice a2 rs.length cp2) fl one:=fun A hA=>by rw [← hone]; exact roneC15 a2 rs.length cp2 fl A (uC.below hA) (Uh H6)
        have hYL:∀ c,(one c).length≤24:=fun c=>by rw [← hone]; exact Cn.one_len15 (Uh H6) (tr15 fl) c
        have hUV:(U.alloc (.cells #[.int .i64 0] 3)).heap.size=U.heap.size+1:=alloc_size15 _ _
        obtain ⟨ct,hct⟩:∃ ct:Nat→Int,∀ k,X.getD k 0=ct k:=⟨_,fun _=>rfl⟩
        have hit:∀ n,1≤n→It15 Fence.wide n Tryz.prog 29 (Lb15 bd bk bq) X.length (fun k v=>#[.int .i32 (ct k),v]) (fun k v A B=>Ok .i32 21 B A.heap.size v (one (ct k))) (Rd15 p fl one bd bk bq kv X):=fun n hn=>by
          have h:=parts_it15 n hn p fl one bd bk bq kv X
          have e1:Enc15 X=(fun k v=>#[.int .i32 (ct k),v]):=by funext k v; unfold Enc15; rw [hct]
          have e2:Pr15 one X=(fun k v A B=>Ok .i32 21 B A.heap.size v (one (ct k))):=by funext k v A B; unfold Pr15; rw [hct]
          rw [e1,e2] at h
          exact h
        have hcx:∀ k,k<X.length→ct k=xs.getD k 0:=fun k hk=>by rw [← hct]; exact (Uh HXG) k hk
        clear hct HXG
        refine range15b (F:=Fence.wide) rfl (by omega) (gf:=29) (lb:=Lb15 bd bk bq) rfl trivial (enters_of Tryz.func29 (by kernel_rfl) rfl) (hit (4 - 1) (by omega)) (fun _ _=>rfl)
          (fun k A=>Boxed A U.heap.size 3 (.int .i64 (k:Int))∧k≤s∧Below U.heap.size U A)
          (fun c k A=>c=.exit 2∧Boxed A U.heap.size 3 (.int .i64 (k:Int))∧k=s∧Below U.heap.size U A)
          (fun A=>Boxed A U.heap.size 3 (.int .i64 ((min s X.length:Nat):Int))∧Below U.heap.size U A)
          (fun k A h=>(uP.kept (fun j _ hj=>h.2.2.block j hj)).rd (hOC A h.2.2)) (fun k A B h hb=>⟨(hb.block _ h.1.lt).trans h.1,h.2.1,bthen h.2.2 hb⟩)
          (fun k A r o o' hr ho hc h=>⟨boxP15 h.1 o' ho hc,h.2.1,put_below15 h.2.2 o' (by omega) ho⟩)
          (fun c k A r o o' hr ho hc h=>⟨h.1,boxP15 h.2.1 o' ho hc,h.2.2.1,put_below15 h.2.2.2 o' (by omega) ho⟩)
          (fun k v A B r o' hr h=>by have:=okF15 h o' hr; simpa using this)
          ⟨Boxed.new U _ _,Nat.zero_le _,(Below.refl _ _).alloc (Nat.le_refl _) _⟩
          (fun W h=>⟨by rw [Nat.min_eq_right h.2.1]; exact h.1,h.2.2⟩)
          (fun c k W hk h=>⟨⟨by rw [← h.2.2.1,Nat.min_eq_left (by omega)]; exact h.2.1,h.2.2.2⟩,fun a' hq=>by
            obtain ⟨rfl,_⟩:=h
            exact wpIn_exit hq⟩)
          ?a1 ?assign ?body ?rest
        case assign =>
          intro l k v W K hK
          gi_wp2
          exact hK
        case body =>
          rintro l k v A B hk rfl hl1 ⟨hbox,hks,hA⟩ hb hp ⟨rr,hloop⟩ hdef
          have hAB:=bthen hA hb
          have z1:Boxed B w.heap.size 23 (.slice xo xs.length xcap):=(hAB.block _ uX.lt).trans uX
          have z2:Boxed B (w.heap.size+1) 3 (.int .i64 fl):=(hAB.block _ uF.lt).trans uF
          have z3:Boxed B (w.heap.size+2) 3 (.int .i64 s):=(hAB.block _ uS.lt).trans uS
          have z5:Boxed B w1.heap.size 25 (.slice a2 rs.length cp2):=(hAB.block _ uT.lt).trans uT
          have z6:Boxed B w3.heap.size 23 (.slice a3 X.length c3):=(hAB.block _ uI.lt).trans uI
          have z7:Boxed B U.heap.size 3 (.int .i64 (k:Int)):=(hb.block _ hbox.lt).trans hbox
          have hsA:=hA.size
          have hsB:=hb.size
          obtain ⟨av,cv,hve,_,_⟩:=Ok.sk hp |>.shape
          have hp:Ok .i32 21 B A.heap.size v (one (ct k)):=hp
          subst hve
          have x7:=z3.cell
          have x15:=z7.cell
          by_cases hkb:k=s
          · subst hkb
            have HZ7:=Hd z7
            have HAB:=Hd hAB
            clear hbox hA hb hp hAB z1 z2 z3 z5 z6 z7 hloop hdef hOC hRC hYL uX uF uS uR uT uI uP uD uC uB uK
            gi_wp2
            exact ⟨⟨rfl,rfl⟩,rfl,Uh HZ7,Uh HAB⟩
          · have hkI:¬ ((k:Int)=(s:Int)):=by omega
            have hkb2:((k:Int)==(s:Int))=false:=by rw [beq_eq_false_iff_ne]; exact hkI
            have hxk:=uK.below hAB
            obtain ⟨xb,xof,xc',hxe,_,_,hxcl⟩:=hxk.place (by omega)
            simp only [Value.slice.injEq] at hxe
            obtain ⟨rfl,-,rfl⟩:=hxe
            have xk:=hxcl k (by omega)
            rw [← hcx k hk] at xk
            have hrn:Rune (ct k):=by
              rw [hcx k hk]
              have:=hxk.1 (xs.getD k 0) (by simp [List.getD,show k<xs.length by omega])
              exact ⟨this.1,this.2⟩
            have K:=Hd (hRC B hAB (ct k) hrn B (Below.refl _ _))
            have hol:=hYL (ct k)
            have x5:=z1.cell
            have x6:=z2.cell
            have x10:=z5.cell
            have x12:=z6.cell
            have HP:=Hd hp
            have HBX:=Hd hbox
            have HA:=Hd hA
            have HB:=Hd hb
            have HB0:=Hd hb
            clear hbox hA hb hp hAB z1 z2 z3 z5 z6 z7 hloop hdef hOC hRC hYL uX uF uS uR uT uI uP uD uC uB uK hrn hxk hxcl
            generalize one (ct k)=zv at *
            generalize ct k=c at *
            gi_wp2_with (refine ⟨trivial,?_⟩; gi_at_call 16; refine (CallsIn.inRound _ (callsIn_wide.2 (Uh K))).mono ?_)
            rintro e9 w9 ⟨v9,rfl,ok9,b9⟩
            have K10:=Hd (same3_eq _ _ zv w9 ((Uh HP).below b9).sk ok9.sk (by omega))
            have HO9:=Hd ((Uh HP).below b9)
            have HB9:=Hd (bthen (Uh HB) b9)
            have HBB:=Hd b9
            obtain ⟨a9,c9,hv9,_,_⟩:=ok9.sk.shape
            subst hv9
            clear K ok9 b9 HP HB x5 x6 x7 x10 x12 x15 xk
            gi_wp2_with (refine ⟨trivial,?_⟩; gi_at_call 12; refine (CallsIn.inRound _ (callsIn_wide.2 (Uh K10))).mono ?_)
            rintro e10 w10 ⟨rfl,m10,rfl⟩
            have b10:Below w9.heap.size w9 (w9.drewN m10):=drewB ⟨m10,rfl⟩
            have HO10:=Hd ((Uh HO9).below b10)
            have HB10:=Hd (bthen (Uh HB9) b10)
            have HBC:=Hd (bthen (Uh HBB) b10)
            clear K10 b10 HO9 HB9 HBB
            generalize w9.drewN m10=w10 at *
            gi_wp2
            gi_loopw [18] (fun jj wd=>∃ (j:Nat) (la:List Int),jj=.int .i64 j∧j≤zv.length∧la.length=zv.length∧Ok .i32 21 wd A.heap.size (.slice av zv.length cv) la∧Below A.heap.size A wd) (fun jj _=>zv.length - (intOf jj).toNat)
            case atStart=>exact ⟨0,zv,rfl,Nat.zero_le _,rfl,Uh HO10,Uh HB10⟩
            case round =>
              clear HO10 HB10
              obtain ⟨j,la,rfl,hj,hla,oa,hbel⟩:=hrel
              by_cases hjl:j<zv.length
              · obtain ⟨gg,hgg⟩:=own_some15 oa (by omega)
                subst hgg
                obtain ⟨hcell,hfr⟩:=row_cell15 (k:=j) oa (by omega)
                have hgb:A.heap.size≤gg:=(oa.row.lt gg rfl).1
                have o2:=(oa.setAt9 j (-9) (fun z hz=>by simp at hz; subst hz; exact i32_fit (by omega))).1
                have hb2:=hbel.setCell (p:=⟨gg,j,none⟩) hgb (.int .i32 (-9))
                have HO2:=Hd o2
                have HB2:=Hd hb2
                have hl2:(la.set j (-9)).length=zv.length:=by rw [List.length_set]; exact hla
                clear oa o2 hb2 hbel
                generalize la.getD j 0=old at *
                gi_wp2
                go_roundw
                case rel=>exact ⟨j+1,la.set j (-9),by go_num,by omega,hl2,Uh HO2,Uh HB2⟩
                case measure=>simp [intOf]; omega
              · have z7:Boxed wr U.heap.size 3 (.int .i64 (k:Int)):=(hbel.block _ (Uh HBX).lt).trans (Uh HBX)
                have x15:=z7.cell
                have f15:=z7.frozen
                have HZ7:=Hd (z7.set (.int .i64 ((k:Int)+1)))
                have HAB:=Hd (((Uh HA).trans (hbel.mono (Uh HA).size)).setCell (p:=⟨U.heap.size,0,none⟩) (Nat.le_refl _) (.int .i64 ((k:Int)+1)))
                have HTW:Hid (Two15 (U.heap.size+1) B (wr.setCell ⟨U.heap.size,0,none⟩ (.int .i64 ((k:Int)+1)))):=two_set15 ⟨(hbel.block _ (by omega)).trans ((Uh HB0).block _ (by omega)).symm,(hbel.block _ (by omega)).trans ((Uh HB0).block _ (by omega)).symm⟩ _ (by omega) (by omega)
                have hk1:k+1≤s:=by omega
                clear oa hbel z7 HBX HA HBC
                gi_wp2
                exact ⟨by rw [hUV]; exact Uh HTW,Uh HZ7,hk1,Uh HAB⟩
        case rest =>
          rintro W ⟨hbi,hUW⟩ hd1
          rw [hUV] at hd1
          obtain ⟨mi,hmi⟩:∃ mi,mi=min s X.length:=⟨_,rfl⟩
          rw [← hmi] at hbi
          have hmin:min (s:Int) (X.length:Int)=(mi:Int):=by omega
          have z3:Boxed W (w.heap.size+2) 3 (.int .i64 s):=(hUW.block _ uS.lt).trans uS
          have z6:Boxed W w3.heap.size 23 (.slice a3 X.length c3):=(hUW.block _ uI.lt).trans uI
          have x7:=z3.cell
          have x12:=z6.cell
          have x15:=hbi.cell
          have f15:=hbi.frozen
          have hne:((mi:Int) != (mi:Int))=false:=by simp
          obtain ⟨V2,hV2⟩:∃ V2,W.setCell ⟨U.heap.size,0,none⟩ (.int .i64 0)=V2:=⟨_,rfl⟩
          have hs2:W.heap.size≤V2.heap.size:=by rw [← hV2]; exact (KeepsWalks.setCell W _ _).size
          have hWd:U.heap.size+1<W.heap.size:=(Array.getElem?_eq_some_iff.1 hd1).1
          have hI0:Boxed V2 U.heap.size 3 (.int .i64 ((0:Nat):Int))∧Below U.heap.size U V2∧V2.heap[U.heap.size+1]?=some (.deferred (some [])):=by
            rw [← hV2]
            exact ⟨hbi.set _,hUW.setCell (p:=⟨U.heap.size,0,none⟩) (Nat.le_refl _) _,(Below.heap_setCell _ _ _ _ (by simp)).trans hd1⟩
          clear hbi hUW hd1 z3 z6 hmi
          gi_wp2
          refine range15 (F:=Fence.wide) rfl (by omega) (gf:=29) (lb:=Lb15 bd bk bq) rfl trivial (enters_of Tryz.func29 (by kernel_rfl) rfl) (hit (4 - 1) (by omega)) (fun _ _=>rfl)
            (fun k A=>Boxed A U.heap.size 3 (.int .i64 (k:Int))∧Below U.heap.size U A∧A.heap[U.heap.size+1]?=some (.deferred (some [])))
            (fun _ _ _=>False)
            (fun k A h=>(uP.kept (fun j _ hj=>h.2.1.block j hj)).rd (hOC A h.2.1)) (fun k A B h hb=>⟨(hb.block _ h.1.lt).trans h.1,bthen h.2.1 hb,(hb.block _ (Array.getElem?_eq_some_iff.1 h.2.2).1).trans h.2.2⟩)
            (fun k A r o o' hr ho hc h=>⟨boxP15 h.1 o' ho hc,put_below15 h.2.1 o' (by omega) ho,(World.putObj_heap_other (by omega)).trans h.2.2⟩)
            (fun c k A r o o' hr ho hc h=>h)
            (fun k v A B r o' hr h=>by have:=okF15 h o' hr; simpa using this)
            hI0 ?a2 ?assign2 ?body2 ?done2 ?stop2
          case assign2 =>
            intro l k v W K hK
            gi_wp2
            exact hK
          case stop2=>exact fun c k W hk h _=>h.elim
          case body2 =>
            rintro l k v A B hk rfl hl1 ⟨hbox,hA,hdd⟩ hb hp ⟨rr,hloop⟩ hdef
            have hAB:=bthen hA hb
            have z1:Boxed B w.heap.size 23 (.slice xo xs.length xcap):=(hAB.block _ uX.lt).trans uX
            have z2:Boxed B (w.heap.size+1) 3 (.int .i64 fl):=(hAB.block _ uF.lt).trans uF
            have z5:Boxed B w1.heap.size 25 (.slice a2 rs.length cp2):=(hAB.block _ uT.lt).trans uT
            have z6:Boxed B w3.heap.size 23 (.slice a3 X.length c3):=(hAB.block _ uI.lt).trans uI
            have z7:Boxed B U.heap.size 3 (.int .i64 (k:Int)):=(hb.block _ hbox.lt).trans hbox
            have hddB:=(hb.block _ (Array.getElem?_eq_some_iff.1 hdd).1).trans hdd
            have hsA:=hA.size
            have hsB:=hb.size
            obtain ⟨av,cv,hve,_,_⟩:=Ok.sk hp |>.shape
            have hp:Ok .i32 21 B A.heap.size v (one (ct k)):=hp
            subst hve
            have hxk:=uK.below hAB
            obtain ⟨xb,xof,xc',hxe,_,_,hxcl⟩:=hxk.place (by omega)
            simp only [Value.slice.injEq] at hxe
            obtain ⟨rfl,-,rfl⟩:=hxe
            have xk:=hxcl k (by omega)
            rw [← hcx k hk] at xk
            have hrn:Rune (ct k):=by
              rw [hcx k hk]
              have:=hxk.1 (xs.getD k 0) (by simp [List.getD,show k<xs.length by omega])
              exact ⟨this.1,this.2⟩
            have K:=Hd (hRC B hAB (ct k) hrn B (Below.refl _ _))
            have hol:=hYL (ct k)
            have y5:=z1.cell
            have y6:=z2.cell
            have y10:=z5.cell
            have y12:=z6.cell
            have y15:=z7.cell
            have HP:=Hd hp
            have HZ:=Hd z7
            have HAB:=Hd hAB
            have HDD:=Hd hddB
            clear hbox hA hb hp hAB z1 z2 z5 z6 z7 hloop hdef hOC hRC hYL uX uF uS uR uT uI uP uD uC uB uK hrn hxk hxcl hdd hddB x7 x12 x15 f15 hI0 hit hcx
            generalize one (ct k)=zv at *
            generalize ct k=c at *
            gi_wp2_with (refine ⟨trivial,?_⟩; gi_at_call 16; refine (CallsIn.inRound _ (callsIn_wide.2 (Uh K))).mono ?_)
            rintro e9 w9 ⟨v9,rfl,ok9,b9⟩
            have K10:=Hd (same3_eq _ _ zv w9 ((Uh HP).below b9).sk ok9.sk (by omega))
            have HB9:=Hd b9
            obtain ⟨a9,c9,hv9,_,_⟩:=ok9.sk.shape
            subst hv9
            clear K ok9 b9 HP y5 y6 y10 y12 y15 xk
            gi_wp2_with (refine ⟨trivial,?_⟩; gi_at_call 12; refine (CallsIn.inRound _ (callsIn_wide.2 (Uh K10))).mono ?_)
            rintro e10 w10 ⟨rfl,m10,rfl⟩
            have b10:=bthen (Uh HB9) (drewB ⟨m10,rfl⟩)
            clear K10 HB9
            generalize w9.drewN m10=w10 at *
            have z7:Boxed w10 U.heap.size 3 (.int .i64 (k:Int)):=(b10.block _ (Uh HZ).lt).trans (Uh HZ)
            have x15:=z7.cell
            have f15:=z7.frozen
            have HZ7:=Hd (z7.set (.int .i64 ((k:Int)+1)))
            have HA3:=Hd ((bthen (Uh HAB) b10).setCell (p:=⟨U.heap.size,0,none⟩) (Nat.le_refl _) (.int .i64 ((k:Int)+1)))
            have HTW:Hid (Two15 V2.heap.size B (w10.setCell ⟨U.heap.size,0,none⟩ (.int .i64 ((k:Int)+1)))):=two_set15 ⟨b10.block _ (by omega),b10.block _ (by omega)⟩ _ (by omega) (by omega)
            have HD3:Hid ((w10.setCell ⟨U.heap.size,0,none⟩ (.int .i64 ((k:Int)+1))).heap[U.heap.size+1]?=some (.deferred (some []))):=(Below.heap_setCell _ _ _ _ (by simp)).trans ((b10.block _ (by omega)).trans (Uh HDD))
            clear b10 z7 HZ HAB HDD
            gi_wp2
            exact ⟨Uh HTW,Uh HZ7,Uh HA3,Uh HD3⟩
          case done2 =>
            rintro W9 ⟨hb9,hU9,hd9⟩ hK9
            have z6:Boxed W9 w3.heap.size 23 (.slice a3 X.length c3):=(hU9.block _ uI.lt).trans uI
            have z8:Boxed W9 (w.heap.size+3) 4 (.bool false):=(hU9.block _ uR.lt).trans uR
            have y12:=z6.cell
            have y15:=hb9.cell
            have y8:=z8.cell
            have f8:=z8.frozen
            have heq:((X.length:Int)==(X.length:Int))=true:=by simp
            obtain ⟨WE,hWE⟩:∃ WE,W9.setCell ⟨w.heap.size+3,0,none⟩ (.bool true)=WE:=⟨_,rfl⟩
            have e1:Boxed WE (w.heap.size+3) 4 (.bool true):=by rw [← hWE]; exact z8.set _
            have e2:WE.heap[V2.heap.size]?=some (.deferred (some [])):=by rw [← hWE]; exact (Below.heap_setCell _ _ _ _ (by simp; omega)).trans hK9
            have e3:WE.heap[U.heap.size+1]?=some (.deferred (some [])):=by rw [← hWE]; exact (Below.heap_setCell _ _ _ _ (by simp; omega)).trans hd9
            have e4:Below w.heap.size w WE:=by rw [← hWE]; exact (uB.trans (hU9.mono uB.size)).setCell (p:=⟨w.heap.size+3,0,none⟩) (by simp) _
            have e5:=boxP15 e1 (.deferred none) e2 rfl
            have e6:(WE.putObj V2.heap.size (.deferred none)).heap[U.heap.size+1]?=some (.deferred (some [])):=(World.putObj_heap_other (by omega)).trans e3
            have e7:=(boxP15 e5 (.deferred none) e6 rfl).cell
            have e8:Below w.heap.size w (WE.putObj V2.heap.size (.deferred none)):=e4.trans ((Below.refl _ _).grown (grownBy_putObj' _ _ _) (by have:=(Array.getElem?_eq_some_iff.1 e2).1; omega) (fun k e=>by cases e; omega))
            have e9:Below w.heap.size w ((WE.putObj V2.heap.size (.deferred none)).putObj (U.heap.size+1) (.deferred none)):=e8.trans ((Below.refl _ _).grown (grownBy_putObj' _ _ _) (by have:=(Array.getElem?_eq_some_iff.1 e6).1; omega) (fun k e=>by cases e; omega))
            clear hb9 hU9 hd9 hK9 z6 z8 hOC hRC hYL uX uF uS uR uT uI uP uD uC uB uK x7 x12 x15 f15 hI0 hit hcx e1 e3 e4 e5 e8
            gi_wp2
            refine ⟨by simp,.inl ⟨_,_,rfl,run_takeDeferred e2,⟨by simp,.inl ⟨_,_,rfl,run_takeDeferred (by first | exact e6 | (rw [hUV]; exact e6)),?_⟩⟩⟩⟩
            first
              | (generalize (WE.putObj V2.heap.size (.deferred none)).putObj (U.heap.size+1) (.deferred none)=WF at *
                 exact ⟨_,by simp [results,Tryz.results4,go_sem,e7],rfl,e9⟩)
              | (rw [hUV]
                 generalize (WE.putObj V2.heap.size (.deferred none)).putObj (U.heap.size+1) (.deferred none)=WF at *
                 exact ⟨_,by simp [results,Tryz.results4,go_sem,e7],rfl,e9⟩)
end Go.Proofs.YtfemhegfjfhnbaaGreatDoor
