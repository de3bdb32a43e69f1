/- SortS22 Kd22 -/
import Derived.Shelf.SortM.Plain
import Derived.Test.YtihhhjodonkkcaaGreatDoorX43
import Derived.Sort.KeysCollected
import Derived.Sort.OwnSorted
import Derived.Maps.OwnSet
import Derived.Maps.RangeWalk
import Derived.Maps.AppendAt
namespace Go.Proofs
open Go.Shelf
def Tryz.lays38_ren:Go.Shelf.Ren:=⟨fun | 6=>38 | 8=>59 | 9=>58 | 19=>97 | 20=>98 | 21=>88 | 22=>89 | 23=>90 | 24=>91 | 25=>92 | 26=>93 | 27=>94 | 28=>95 | 29=>96 | 36=>130 | 31=>131 | 32=>132 | 37=>133 | 38=>134 | 39=>135 | 41=>161 | n=>n,fun | 27=>42 | 29=>9 | 3=>3 | 32=>107 | 26=>42 | 0=>0 | 44=>148 | 46=>133 | 4=>4 | 36=>140 | 35=>139 | 41=>145 | 5=>5 | 9=>9 | 53=>186 | 57=>190 | 63=>225 | 64=>52 | n=>n,fun | n=>n⟩
theorem Tryz.lays38:Go.Proofs.SlLaysM.n6 Tryz.prog Tryz.lays38_ren:={
 mixed:=by kernel_rfl
 f6:=⟨Tryz.f38.name,by decide,Tryz.func38.trans (congrArg some (by kernel_rfl))⟩
 f8:=Tryz.func59.trans (congrArg some (by kernel_rfl))
 f9:=⟨Tryz.f58.name,by decide,Tryz.func58.trans (congrArg some (by kernel_rfl))⟩
 f19:=Tryz.func97.trans (congrArg some (by kernel_rfl))
 f20:=Tryz.func98.trans (congrArg some (by kernel_rfl))
 f21:=⟨Tryz.f88.name,by decide,Tryz.func88.trans (congrArg some (by kernel_rfl))⟩
 f22:=⟨Tryz.f89.name,by decide,Tryz.func89.trans (congrArg some (by kernel_rfl))⟩
 f23:=⟨Tryz.f90.name,by decide,Tryz.func90.trans (congrArg some (by kernel_rfl))⟩
 f24:=⟨Tryz.f91.name,by decide,Tryz.func91.trans (congrArg some (by kernel_rfl))⟩
 f25:=⟨Tryz.f92.name,by decide,Tryz.func92.trans (congrArg some (by kernel_rfl))⟩
 f26:=⟨Tryz.f93.name,by decide,Tryz.func93.trans (congrArg some (by kernel_rfl))⟩
 f27:=⟨Tryz.f94.name,by decide,Tryz.func94.trans (congrArg some (by kernel_rfl))⟩
 f28:=⟨Tryz.f95.name,by decide,Tryz.func95.trans (congrArg some (by kernel_rfl))⟩
 f29:=⟨Tryz.f96.name,by decide,Tryz.func96.trans (congrArg some (by kernel_rfl))⟩
 f31:=Tryz.func131.trans (congrArg some (by kernel_rfl))
 f32:=Tryz.func132.trans (congrArg some (by kernel_rfl))
 f36:=⟨Tryz.f130.name,by decide,Tryz.func130.trans (congrArg some (by kernel_rfl))⟩
 f37:=⟨Tryz.f133.name,by decide,Tryz.func133.trans (congrArg some (by kernel_rfl))⟩
 f38:=⟨Tryz.f134.name,by decide,Tryz.func134.trans (congrArg some (by kernel_rfl))⟩
 f39:=⟨Tryz.f135.name,by decide,Tryz.func135.trans (congrArg some (by kernel_rfl))⟩
 f41:=⟨Tryz.f161.name,by decide,Tryz.func161.trans (congrArg some (by kernel_rfl))⟩
 t0:=Tryz.underlying0
 a0:=Tryz.isAgg0
 z0:=Tryz.sizeOf0
 v0:=Tryz.zeroValue0
 t3:=Tryz.underlying3
 a3:=Tryz.isAgg3
 z3:=Tryz.sizeOf3
 v3:=Tryz.zeroValue3
 t4:=Tryz.underlying4
 a4:=Tryz.isAgg4
 z4:=Tryz.sizeOf4
 v4:=Tryz.zeroValue4
 t5:=Tryz.underlying5
 a5:=Tryz.isAgg5
 z5:=Tryz.sizeOf5
 v5:=Tryz.zeroValue5
 t9:=Tryz.underlying9
 a9:=Tryz.isAgg9
 z9:=Tryz.sizeOf9
 v9:=Tryz.zeroValue9
 t26:=Tryz.underlying42
 a26:=Tryz.isAgg42
 z26:=Tryz.sizeOf42
 v26:=Tryz.zeroValue42
 t27:=Tryz.underlying42
 a27:=Tryz.isAgg42
 z27:=Tryz.sizeOf42
 v27:=Tryz.zeroValue42
 t29:=Tryz.underlying9
 a29:=Tryz.isAgg9
 z29:=Tryz.sizeOf9
 v29:=Tryz.zeroValue9
 t32:=Tryz.underlying107
 a32:=Tryz.isAgg107
 z32:=Tryz.sizeOf107
 v32:=Tryz.zeroValue107
 t35:=Tryz.underlying139
 a35:=Tryz.isAgg139
 z35:=Tryz.sizeOf139
 v35:=Tryz.zeroValue139
 t36:=Tryz.underlying140
 a36:=Tryz.isAgg140
 z36:=Tryz.sizeOf140
 v36:=Tryz.zeroValue140
 t41:=Tryz.underlying145
 a41:=Tryz.isAgg145
 z41:=Tryz.sizeOf145
 v41:=Tryz.zeroValue145
 t44:=Tryz.underlying148
 a44:=Tryz.isAgg148
 z44:=Tryz.sizeOf148
 v44:=Tryz.zeroValue148
 t46:=Tryz.underlying133
 a46:=Tryz.isAgg133
 z46:=Tryz.sizeOf133
 v46:=Tryz.zeroValue133
 t53:=Tryz.underlying186
 a53:=Tryz.isAgg186
 z53:=Tryz.sizeOf186
 v53:=Tryz.zeroValue186
 t57:=Tryz.underlying190
 a57:=Tryz.isAgg190
 z57:=Tryz.sizeOf190
 v57:=Tryz.zeroValue190
 t63:=Tryz.underlying225
 a63:=Tryz.isAgg225
 z63:=Tryz.sizeOf225
 v63:=Tryz.zeroValue225
 t64:=Tryz.underlying52
 a64:=Tryz.isAgg52
 z64:=Tryz.sizeOf52
 v64:=Tryz.zeroValue52 }
end Go.Proofs
namespace Go.Proofs.YtihhhjodonkkcaaGreatDoor
open Go.RowKit
open Ti
def ScrE22 (w:World) (L:List (List UInt8)) (e:Ending) (w':World):Prop:=∃ v R,Cn.Names L R∧e=.returned v∧Ow 9 w' w.heap.size v (R.map encStr)∧Below w.heap.size w w'
theorem ownsMap_below22 {P:Program} {k:TypeId} {R:Value→Option (DataW Unit × List MemPlace)} {w w':World} {b n:Nat} {D:DataW Unit} (h:w.ownsMap P k R b n D) {B:Nat} (hB:b<B) (hb:Below B w w'):w'.ownsMap P k R b n D:=by
 obtain ⟨es,clock,h1,F,h2,h3⟩:=h
 exact ⟨es,clock,by rw [hb.block b hB]; exact h1,F,h2,h3⟩
theorem keyS22 {s:ByteArray} (h:s.size≤1000):keyOf Tryz.prog 9 (.string s)=some (.string s.data.toList):=by
 simp [keyOf,mapKey,Tryz.underlying9]
 unfold maxLen
 omega
theorem lawS22:Go.Maps.Keyed Tryz.prog 9:=Go.Maps.string_keyed Tryz.underlying9
theorem infoS22:(Tryz.prog.info? 9).map (fun i=>(i.zero,i.size,i.bytes))=some (some (.string ⟨#[]⟩),1,16):=by kernel_rfl
def Holds22 (D:DataW Unit) (L:List (List UInt8)):Prop:=∀ x,Go.Maps.has D (.string x)=decide (x∈L)
theorem holds_put22 {D:DataW Unit} {L x u} (h:Holds22 D L) (hm:Go.Maps.IsMap D):Holds22 (D.put (.string x) u) (L++[x]):=fun y=>by
 by_cases e:y=x
 ·subst e
  rw [Go.Maps.has_put_same (k:=.string y) hm trivial]
  simp
 ·rw [Go.Maps.has_put_other (by intro h; injection h with h; exact e h),h y]
  simp [e]
theorem scripts_nil22 w ao (n cp:Nat):Calls Tryz.prog 17 #[.pointer none,.slice ao n cp] w fun e w'=>e=.returned (.slice none 0 0)∧w'=w:=by
 go_enter Tryz.func17,Tryz.ntmps17
 go_wp2
 go_ret
 exact ⟨rfl,rfl⟩
set_option maxRecDepth 100000 in
set_option maxHeartbeats 4000000 in
theorem scripts22 {B p rs} v xs w (hD:DataAt w B p rs) (h6:(Cn.check6 rs).2=0) (hx:Sk .i32 w v xs) (hxl:xs.length≤1000000):Calls Tryz.prog 17 #[.pointer (some ⟨p,0,none⟩),v] w (ScrE22 w (xs.map (Cn.snm rs))):=by
 have hmm:=@run_makeMap Tryz.prog
 obtain ⟨i0,hi,hz0,hz1,hz2⟩:=info_parts infoS22
 have HX:=Hd hx
 have HD:Hid (∀ c W,Rune c→Below w.heap.size w W→Calls Tryz.prog 37 #[.pointer (some ⟨p,0,none⟩),.int .i32 c] W (StrB W (Cn.rget rs 7 c).name)):=fun c W hc hW=>script_any9 c W (hD.below hW) h6 hc
 have HL:=fun c=>Hd (Cn.snm_len h6 c)
 obtain ⟨vo,vc,hve,hv1,hv2⟩:=hx.shape
 subst hve
 clear hD h6 hx
 go_enter Tryz.func17,Tryz.ntmps17
 go_wp2
 go_loopw [7,15] (fun _ ii wr=>∃ (k:Nat) (D:DataW Unit),ii=.int .i64 k∧k≤xs.length∧wr.ownsMap Tryz.prog 9 unitElem w.heap.size k D∧Hid (Holds22 D ((xs.take k).map (Cn.snm rs)))∧Below w.heap.size w wr∧w.heap.size+1≤wr.heap.size) (fun _ ii _=>xs.length - (intOf ii).toNat)
 case atStart=>exact ⟨0,.map [],rfl,by omega,World.ownsMap_made _ _ _ _,fun x=>rfl,(Below.refl _ _).alloc (Nat.le_refl _) _,by simp⟩
 case round =>
  obtain ⟨k,D,rfl,hkl,hown,HH,hb,hsz⟩:=hrel
  by_cases hlt:k<xs.length
  ·obtain ⟨bx,ox,cqx,hex,_,_,hclx⟩:=(Uh HX).place (by omega)
   simp only [Value.slice.injEq] at hex
   obtain ⟨rfl,h9,rfl⟩:=hex
   have hcell:wr.cell? ⟨bx,ox+k,none⟩=some (.int .i32 (xs.getD k 0)):=by
    have h3:=hclx k hlt
    rw [hb.cell (lt_of_cell? h3)]; exact h3
   have hrn:Rune (xs.getD k 0):=by
    have:=(Uh HX).1 (xs.getD k 0) (by simp [List.getD,hlt])
    exact ⟨this.1,this.2⟩
   have KF:=Hd ((Uh HD) (xs.getD k 0) wr hrn hb)
   have hnl:=Uh (HL (xs.getD k 0))
   have HNX:Hid ((xs.take (k+1)).map (Cn.snm rs)=(xs.take k).map (Cn.snm rs)++[(Cn.rget rs 7 (xs.getD k 0)).name.data.toList]):=by
    show _=_
    rw [List.take_add_one,List.map_append,List.getElem?_eq_getElem hlt]
    simp [List.getD,hlt,Cn.snm]
   have HB:=Hd hb
   have HOWN:=Hd hown
   have HSZ:=Hd hsz
   clear hclx hown hrn hsz
   generalize (Cn.rget rs 7 (xs.getD k 0)).name=s at *
   generalize xs.getD k 0=c at *
   have hkey:=keyS22 (s:=s) (by omega)
   go_wp2_with fail
   refine (Uh KF).mono ?_
   rintro e1 w1 ⟨rfl,b1⟩
   have HOWN1:=Hd (ownsMap_below22 (Uh HOWN) (Uh HSZ) b1)
   have HB1:=Hd (bthen (Uh HB) b1)
   have HS1:=Hd (Nat.le_trans (Uh HSZ) b1.size)
   clear b1 KF
   go_wp2_with (at_mapUpdate; refine wpList_mapUpdate_own _ rfl _ _ _ 63 rfl 9 64 lawS22 Tryz.underlying63 (unitElem (H:=Unit)) w.heap.size k _ rfl (Uh HOWN1) (by unfold maxLen; omega) _ _ _ rfl rfl hkey _ [] unitElem_mk ?_; intro w2 hown2 hgrow2)
   have HOWN2:=Hd hown2
   have HB2:Hid (Below w.heap.size w w2):=(Uh HB1).grown hgrow2 (Uh HB1).size (fun j hj=>by cases hj; exact Nat.le_refl _)
   have HS2:=Hd (Nat.le_trans (Uh HS1) hgrow2.size)
   have HH2:=Hd (holds_put22 (Uh HH) (Uh HOWN1).isMap (x:=s.data.toList) (u:=.agg []))
   clear hown2 hgrow2
   go_roundw
   case rel=>exact ⟨k+1,_,by go_num,by omega,Uh HOWN2,by rw [Uh HNX]; exact Uh HH2,Uh HB2,Uh HS2⟩
   case measure=>simp [intOf]; omega
  ·obtain rfl:k=xs.length:=by omega
   have hL:¬ ((xs.length:Int)<xs.length):=by omega
   have HOWN:=Hd hown
   have HB:=Hd hb
   have HSZ:=Hd hsz
   rw [List.take_length] at HH
   have hkey0:keyOf Tryz.prog 9 (.string ⟨#[]⟩)=some (.string []):=keyS22 (s:=⟨#[]⟩) (by decide)
   generalize hLL:xs.map (Cn.snm rs)=L at *
   generalize xs.length=n at *
   clear hLL hown hb hsz HX HD HL
   go_wp2_with (first
    | (at_delete; refine wpList_delete_own _ rfl _ _ 63 9 rfl 64 lawS22 Tryz.underlying63 _ w.heap.size _ D rfl (Uh HOWN) _ _ rfl hkey0 ?_; intro w2 hown2 hturn2)
    | (at_len; refine wpList_len_own _ rfl _ 63 rfl 9 64 Tryz.underlying63 _ w.heap.size _ _ rfl hown2 ?_)
    | (at_make; refine wpList_make_own _ rfl _ _ 42 rfl (w.heap.size+1) 9 i0 (.string ⟨#[]⟩) 1 Tryz.underlying42 hi hz0 hz1 _ _ _ (Maps.size (D.del (.string []))) rfl rfl rfl (by have:=hown2.size_le; rw [hz2]; omega) (by have:=hown2.size_le; unfold maxLen; omega) (by have:=hturn2.grown.size; have:=Uh HSZ; omega) ?_; intro w3 hrow3 hg3)
    | (at_range; refine wpList_range_own _ rfl _ 63 rfl 9 64 lawS22 Tryz.underlying63 _ w.heap.size _ _ rfl (hown2.kept hg3 (by simp)) ?_; intro w0 hrg0 hg0 hs0)
    | go_in)
   try go_frame
   have hDl:=hown2.size_le
   have HD2:Hid (∀ x,Maps.has (D.del (.string [])) (.string x)=true↔x∈L∧x≠[]):=fun x=>by
    by_cases e:x=[]
    ·subst e; rw [Maps.has_del_same]; simp
    ·rw [Maps.has_del_other (by intro h; injection h with h; exact e h),(Uh HH) x]; simp [e]
   generalize D.del (.string [])=D0 at *
   have hb2:Below w.heap.size w w2:=(Uh HB).grown hturn2.grown (Uh HB).size (fun j hj=>by cases hj; exact Nat.le_refl _)
   have hs2:w.heap.size+1≤w2.heap.size:=Nat.le_trans (Uh HSZ) hturn2.grown.size
   have hb3:Below w.heap.size w w3:=hb2.grown hg3 hb2.size (fun j hj=>by cases hj)
   have hs3:w.heap.size+1≤w3.heap.size:=Nat.le_trans hs2 hg3.size
   have HB0:Hid (Below w.heap.size w w0):=hb3.grown hg0 hb3.size (fun j hj=>by cases hj)
   have HS0:Hid (w.heap.size+1≤w0.heap.size):=Nat.le_trans hs3 hg0.size
   have HR0:Hid (w0.ownsRow (w.heap.size+1) 9 1 (.slice (some ⟨w2.heap.size,0,none⟩) 0 (Maps.size D0)) 0 []):=hrow3.kept hg0 (Or.inr (by simp [Value.ownBlock]))
   have HG0:=Hd hrg0
   have HW3:=Hd hs3
   clear HH HOWN HB HSZ hown2 hturn2 hb2 hs2 hb3 hg0 hs0 hrow3 hg3 hrg0
   generalize w3.heap.size=r at *
   clear hs3
   go_loopw [8,9] (fun v _ wr=>∃ (left:Lit→Bool) (cnt:Nat) (ss:List (List UInt8)),wr.ranges Tryz.prog 9 unitElem w.heap.size r n D0 left cnt∧ss.length+cnt≤Maps.size D0∧wr.ownsRow (w.heap.size+1) 9 1 v ss.length (ss.map encStr)∧v≠.slice none 0 0∧Hid (Collected D0 left ss)∧Hid (Below w.heap.size w wr)∧Hid (w.heap.size+1≤wr.heap.size)) (fun _ _ wr=>wr.rangeLeft w.heap.size r)
   case atStart=>exact ⟨_,_,[],Uh HG0,by simp,Uh HR0,by simp,Collected.start D0,HB0,HS0⟩
   case round =>
    clear HG0 HR0 HB0 HS0
    obtain ⟨left,cnt,ss,hrg,hcs,hrow,hnn,HC,HB,HS⟩:=hrel
    go_wp2_with (first
     | (at_next; refine wpList_next_ranges _ rfl _ rfl 9 lawS22 (unitElem (H:=Unit)) encStr (fun _:Unit=>Value.agg #[]) (fun key kl hk=>by obtain ⟨x,hx,_⟩:=Maps.keyOf_str Tryz.underlying9 hk; exact ⟨x,hx⟩) (fun v y hv=>⟨(),(unitElem_inv hv).1⟩) w.heap.size r n _ _ _ rfl hrg ?_ ?_)
     | go_in)
    ·intro hc0 hl0
     rcases hrow.2 with ⟨hnil,_⟩ | ⟨g,cap,cur,rfl,hbase,hb,h1,h2,h3,h4⟩
     ·exact absurd hnil hnn
     have hH:Sort.Holds encStr wr g 0 ss.toArray:=holds_of_block hb (by simpa using h4)
     have hgl:g<wr.heap.size:=(Array.getElem?_eq_some_iff.1 hb).1
     have hc:=Hd (AnyM.slices_Sort_string Tryz.lays38 g 0 cap ss wr hH hgl (by omega))
     have HN:Hid (Cn.Names L (ss.mergeSort fun x y=>decide (x≤y))):=Cn.names_sorted (Uh HC).1 fun x=>by
      rw [(Uh HC).2 x,← (Uh HD2) x]
      constructor
      ·exact fun h=>h.1
      ·exact fun h=>⟨h,hl0 _⟩
     clear hrg hnn HC hc0 hl0 hH
     go_wp2_with (go_at_call 38; refine (Uh hc).mono ?_; rintro e w' ⟨rfl,nn,os,rfl⟩)
     go_ret
     have hbs:=Nat.le_trans (Nat.le_succ w.heap.size) hbase
     exact ⟨_,_,Uh HN,rfl,Ow.lower ⟨by simp; omega,by simpa using ownsRow_sorted (by simp) hbase hb h1 h2 h3⟩ (Nat.le_succ _),(Uh HB).grown (grownBy_sorted _) (Uh HB).size (fun j hj=>by cases hj; exact hbs)⟩
    ·intro x kl yd yp w4 cnt2 hkey hlk hv hat hrg2 hlt hg2 hs2 hen
     obtain ⟨x',ex,rfl,_⟩:=Maps.keyOf_str Tryz.underlying9 hkey
     obtain rfl:x=x':=encStr_inj ex
     have hrow2:=hrow.kept hg2 (Or.inr (row_ne_iter hrow hrg).symm)
     have HB2:Hid (Below w.heap.size w w4):=(Uh HB).grown hg2 (Uh HB).size (fun j hj=>by cases hj; have:=Uh HW3; omega)
     have HS2:Hid (w.heap.size+1≤w4.heap.size):=Nat.le_trans (Uh HS) hg2.size
     clear hs2
     go_wp2_with (first
      | (at_builtin; refine wpList_append_own _ rfl (.tmp 35) (.tmp 37) 42 rfl (w.heap.size+1) 9 i0 (.string ⟨#[]⟩) 1 16 Tryz.underlying42 hi hz0 hz1 hz2 rfl (by decide) _ _ _ rfl (hrow2.alloc _) ⟨w4.heap.size,0,none⟩ 1 1 [encStr x] rfl rfl (cell_one_new _ _ _) (by simp [Value.oneCell',encStr]) (by unfold maxLen at *; omega) (by omega) (by have:=Uh HS2; simp; omega) ?_; intro v' w5 hown' hg5 hnil5; go_frame)
      | go_in)
     have hrg5:=(hrg2.alloc _).kept hg5 (row_ne_low hrow2 (Nat.lt_succ_self _)) (row_ne_iter hrow2 hrg2)
     have hba:Below w.heap.size w (w4.alloc (.cells #[encStr x] 9)):=(Uh HB2).alloc (Uh HB2).size _
     have HB5:Hid (Below w.heap.size w w5):=hba.grown hg5 hba.size (fun j hj=>Nat.le_trans (Nat.le_succ _) (hrow2.lt j hj).1)
     have HS5:Hid (w.heap.size+1≤w5.heap.size):=Nat.le_trans (Nat.le_trans (Uh HS2) (by simp)) hg5.size
     have hC2:=Hd ((Uh HC).step hlk hat)
     go_roundw
     case rel=>exact ⟨_,cnt2,ss++[x],hrg5,by simp; omega,by simpa using hown',fun hv'=>by have:=(hnil5.1 hv').2; omega,hC2,HB5,HS5⟩
     case measure=>rw [hrg5.left_eq,hrg.left_eq]; exact hlt
end Go.Proofs.YtihhhjodonkkcaaGreatDoor
