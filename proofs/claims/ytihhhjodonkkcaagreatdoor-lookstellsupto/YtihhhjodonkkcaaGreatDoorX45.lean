/- Kf22 -/
import Derived.Test.YtihhhjodonkkcaaGreatDoorX44
import Derived.Sort.Walk0
namespace Go.Proofs.YtihhhjodonkkcaaGreatDoor
open Go.RowKit
open Ti
theorem strs_one22 (ss:List (List UInt8)):∀ u∈ss.map encStr,u.oneCell'=true:=by
 intro u hu
 obtain ⟨z,_,rfl⟩:=List.mem_map.1 hu
 rfl
theorem app_str22 {w ops rest o} {a Q} (hgd:o.guard=none) (s x:Operand)
  (ho:o.op=.call { callee:=.builtin .append,args:=#[s,x],argTypes:=#[42,42] }) B v u (us ys:List (List UInt8)) (hs:a.eval s=v) (hx:a.eval x=u)
  (hv:Ow 9 w B v (us.map encStr)) (hu:Sv w u (ys.map encStr)) (hl:us.length+ys.length≤1000000000) (hB:B≤w.heap.size)
  (h:∀ v' w',Ow 9 w' B v' ((us++ys).map encStr)→w.grownBy w' v.ownBlock→wpList Tryz.prog ops Q rest (a.put o.dst v') w'):wpList Tryz.prog ops Q (o :: rest) a w:=by
 obtain ⟨i0,hi,hz0,hz1,hz2⟩:=info_parts infoS22
 obtain ⟨hl1,hrow⟩:=hv
 rw [List.length_map] at hrow hl1
 rcases hu.src with ⟨h0,rfl⟩ | ⟨ad,cap,hve,hcells⟩
 ·obtain rfl:ys=[]:=by simpa using h0
  refine wpList_append_own_none hgd s x 42 ho B 9 i0 1 Tryz.underlying42 hi v _ _ hs hrow hx ?_
  exact h v w (by rw [List.append_nil]; exact ⟨by simpa using hl1,by simpa using hrow⟩) (World.grownBy.refl w _)
 ·rw [List.length_map] at hve
  subst hve
  refine wpList_append_own w hgd s x 42 ho B 9 i0 (.string ⟨#[]⟩) 1 16 Tryz.underlying42 hi hz0 hz1 hz2 rfl (by decide) v _ _ hs hrow ad ys.length cap (ys.map encStr) hx (by simp) hcells (strs_one22 ys) (by unfold maxLen; omega) (by omega) hB ?_
  intro v' w' h1 h2 _
  exact h v' w' ⟨by simp; omega,by simpa using h1⟩ h2
theorem wp_sl22 {w ops rest o} {a Q} (hgd:o.guard=none) (t:TypeId) (s:Operand) (lo hi:Option Operand) (hop:o.op=.slice t s lo hi none) (x v:Value) (xl xh:Option Value) (hx:a.eval s=x) (hl:lo.map a.eval=xl) (hh:hi.map a.eval=xh) (hrun:(Instr.sliceAt t x xl xh none).run Tryz.prog w=.ok v w) (h:wpList Tryz.prog ops Q rest (a.put o.dst v) w):wpList Tryz.prog ops Q (o :: rest) a w:=by
 refine wpList_plain hgd fun K' hK'=>?_
 unfold Oper.wp
 simp [execOp,hop,hx,hl,hh,hrun,Result.andThen]
 exact hK' _ _ h
theorem elemS22:Tryz.prog.underlying 42=some (.slice (Tryz.prog.elem 42)):=by kernel_rfl
theorem size1_22 (w:World):(sizeOf (Tryz.prog.elem 42)).run Tryz.prog w=.ok 1 w:=by kernel_rfl
theorem sl_h22 (ao:Option Addr) (n cp j:Nat) (w:World) (h:j≤cp):(Instr.sliceAt 42 (.slice ao n cp) none (some (.int .i64 (j:Int))) none).run Tryz.prog w=.ok (sliced ao 0 j cp 1) w:=by
 rw [run_sliceAt_slice _ _ _ _ _ _ elemS22,run_slice_h _ _ _ _ _ elemS22 _ _ (by omega) (by omega),size1_22]
 simp [Result.andThen]
theorem sl_l22 (ao:Option Addr) (n cp j:Nat) (w:World) (h:j≤n):(Instr.sliceAt 42 (.slice ao n cp) (some (.int .i64 (j:Int))) none none).run Tryz.prog w=.ok (sliced ao j n cp 1) w:=by
 rw [run_sliceAt_slice _ _ _ _ _ _ elemS22,run_slice_l _ _ _ _ _ elemS22 _ _ (by omega) (by omega),size1_22]
 simp [Result.andThen]
theorem lss22 (a s:ByteArray):Op.bytesLess a.toList s.toList=decide (a.data.toList<s.data.toList):=by rw [bytesLess_eq,Lib.toList_data,Lib.toList_data]
theorem eqs22 (a s:ByteArray):(a.toList==s.toList)=decide (a.data.toList=s.data.toList):=by rw [Lib.toList_data,Lib.toList_data,Bool.eq_iff_iff]; simp
theorem str_cell22 {w:World} {b off:Nat} {R:List (List UInt8)} (h:∀ i,i<(R.map encStr).length→w.cell? ⟨b,off+i,none⟩=some ((R.map encStr).getD i undef)) {j:Nat} (hj:j<R.length):∃ A:ByteArray,A.data.toList=R.getD j []∧w.cell? ⟨b,off+j,none⟩=some (.string A):=by
 refine ⟨⟨(R.getD j []).toArray⟩,by simp,?_⟩
 rw [h j (by simpa using hj)]
 simp [List.getD,hj]
theorem lit_str22 (W:World) (s:ByteArray):Sv (W.alloc (.cells #[.string s] 9)) (.slice (some ⟨W.heap.size,0,none⟩) 1 1) ([s.data.toList].map encStr):=by
 have h:(W.alloc (.cells #[.string s] 9)).cell? ⟨W.heap.size,0,none⟩=some (.string s):=by simp_all
 refine ⟨by simp,.inr ⟨W.heap.size,0,1,rfl,by simp,by omega,fun i hi=>?_⟩⟩
 obtain rfl:i=0:=by simpa using hi
 rw [Nat.zero_add,h]
 simp [encStr]
set_option maxRecDepth 100000 in
set_option maxHeartbeats 4000000 in
theorem refScripts22 {rs:List Rec} (tv v:Value) (xs:List Int) (w:World) (ht:Rcs w tv rs) (hx:Sk .i32 w v xs) (hxl:xs.length≤1000000):Calls Tryz.prog 18 #[tv,v] w (ScrE22 w (xs.map (Cn.snm rs))):=by
 have HX:=Hd hx
 have HD:Hid (∀ c W,Rune c→Below w.heap.size w W→Calls Tryz.prog 39 #[tv,.int .i32 c] W (StrB W (Cn.rget rs 7 c).name)):=fun c W hc hW=>refScript9 tv rs c W (ht.below hW) hc
 obtain ⟨ta,tcp,hte,_,_⟩:=ht.shape
 subst hte
 obtain ⟨vo,vc,hve,hv1,hv2⟩:=hx.shape
 subst hve
 clear ht hx
 go_enter Tryz.func18,Tryz.ntmps18
 go_wp2
 go_loopw [5,6,7,8,9] (fun out ii _ _ _ wr=>∃ (k:Nat) (R:List (List UInt8)),ii=.int .i64 k∧k≤xs.length∧Hid (Cn.Names ((xs.take k).map (Cn.snm rs)) R)∧Ow 9 wr w.heap.size out (R.map encStr)∧Below w.heap.size w wr) (fun _ ii _ _ _ _=>xs.length - (intOf ii).toNat)
 case atStart=>exact ⟨0,[],rfl,by omega,Cn.names_nil,Ow.nil _ _ _,Below.refl _ _⟩
 case round =>
  obtain ⟨k,R,rfl,hkl,HN,hown,hb⟩:=hrel
  have hRl:=(Uh HN).len
  rw [List.length_map,List.length_take] at hRl
  by_cases hlt:k<xs.length
  ·obtain ⟨bx,ox,cqx,hex,_,_,hclx⟩:=(Uh HX).place (by omega)
   simp only [Value.slice.injEq] at hex
   obtain ⟨rfl,h9,rfl⟩:=hex
   have hcell:wr.cell? ⟨bx,ox+k,none⟩=some (.int .i32 (xs.getD k 0)):=by
    have h3:=hclx k hlt
    rw [hb.cell (lt_of_cell? h3)]; exact h3
   have hrn:Rune (xs.getD k 0):=by
    have:=(Uh HX).1 (xs.getD k 0) (by simp [List.getD,hlt])
    exact ⟨this.1,this.2⟩
   have KF:=Hd ((Uh HD) (xs.getD k 0) wr hrn hb)
   have HNX:Hid ((xs.take (k+1)).map (Cn.snm rs)=(xs.take k).map (Cn.snm rs)++[(Cn.rget rs 7 (xs.getD k 0)).name.data.toList]):=by
    show _=_
    rw [List.take_add_one,List.map_append,List.getElem?_eq_getElem hlt]
    simp [List.getD,hlt,Cn.snm]
   have HPUT:=Hd (Cn.names_put (Cn.rget rs 7 (xs.getD k 0)).name.data.toList (Uh HN))
   rw [← Uh HNX] at HPUT
   have HB:=Hd hb
   have HOWN:=Hd hown
   clear hclx hown hrn hb HNX HN
   generalize (Cn.rget rs 7 (xs.getD k 0)).name=s at *
   obtain ⟨L,hLQ⟩:∃ L,(xs.take (k+1)).map (Cn.snm rs)=L:=⟨_,rfl⟩
   rw [hLQ] at HPUT
   have HLQ:=Hd hLQ
   clear hLQ
   generalize xs.getD k 0=c at *
   obtain ⟨yo,yc,hye,hyc1,hyc2⟩:=(Uh HOWN).sv.shape
   rw [List.length_map] at hye hyc1
   subst hye
   go_wp2_with fail
   refine (Uh KF).mono ?_
   rintro e1 w1 ⟨rfl,b1⟩
   have HO1:=Hd ((Uh HOWN).below b1)
   have HB1:=Hd (bthen (Uh HB) b1)
   clear b1 KF HOWN HB hcell
   go_wp2
   go_loop [8] (fun kk=>∃ j:Nat,kk=.int .i64 j∧j≤R.length∧Hid (∀ i,i<j→R.getD i []<s.data.toList)) (fun kk=>R.length - (intOf kk).toNat)
   case atStart=>exact ⟨0,rfl,by omega,fun i h=>absurd h (by omega)⟩
   case round =>
    obtain ⟨j,rfl,hj,HLT⟩:=hrel
    by_cases hjl:j<R.length
    ·obtain ⟨bq,oy,cy,hey,_,_,hcy⟩:=(Uh HO1).sv.place (by rw [List.length_map]; omega)
     simp only [Value.slice.injEq] at hey
     obtain ⟨rfl,-,rfl⟩:=hey
     obtain ⟨A,hA,hcA⟩:=str_cell22 hcy hjl
     have HA:=Hd hA
     clear hcy hA
     have hji:(j:Int)<(R.length:Int):=by omega
     by_cases hls:A.data.toList<s.data.toList
     ·have hB:Op.bytesLess A.toList s.toList=true:=by rw [lss22]; exact decide_eq_true hls
      have HL2:Hid (∀ i,i<j+1→R.getD i []<s.data.toList):=fun i hi=>by
       rcases Nat.lt_or_ge i j with h | h
       ·exact (Uh HLT) i h
       ·rw [show i=j by omega,← Uh HA]; exact hls
      clear hls
      go_wp2
      go_round
      case rel=>exact ⟨j+1,by go_num,by omega,HL2⟩
      case measure=>simp [intOf]; omega
     ·have hB:Op.bytesLess A.toList s.toList=false:=by rw [lss22]; exact decide_eq_false hls
      have HSP:Hid (Cn.spot s.data.toList R=j):=Cn.spot_eq hj (Uh HLT) (fun _=>by rw [← Uh HA]; exact hls)
      unfold Cn.put22 at HPUT
      rw [Uh HSP] at HPUT
      by_cases he:s.data.toList=[]
      ·have hs0:s.toList=[]:=by rw [Lib.toList_data]; exact he
       have HPOS:s.data.toList=[]∨(j<R.length∧R.getD j []=s.data.toList):=.inl he
       rw [hs0] at hB
       clear he hls
       have HPR:Hid (Cn.Names L R):=by
        have:=Uh HPUT
        rw [if_pos HPOS] at this
        exact this
       clear HPUT
       go_wp2
       go_roundw
       case rel=>exact ⟨k+1,R,by go_num,by omega,by rw [Uh HLQ]; exact HPR,Uh HO1,Uh HB1⟩
       case measure=>simp [intOf]; omega
      ·have hs0:(s.toList==[])=false:=by rw [Lib.toList_data]; simpa using he
       by_cases hq:A.data.toList=s.data.toList
       ·have hE:(A.toList==s.toList)=true:=by rw [eqs22]; exact decide_eq_true hq
        have HPOS:s.data.toList=[]∨(j<R.length∧R.getD j []=s.data.toList):=.inr ⟨hjl,by rw [← Uh HA]; exact hq⟩
        clear he hq hls
        have HPR:Hid (Cn.Names L R):=by
         have:=Uh HPUT
         rw [if_pos HPOS] at this
         exact this
        clear HPUT
        go_wp2
        go_roundw
        case rel=>exact ⟨k+1,R,by go_num,by omega,by rw [Uh HLQ]; exact HPR,Uh HO1,Uh HB1⟩
        case measure=>simp [intOf]; omega
       ·have hE:(A.toList==s.toList)=false:=by rw [eqs22]; exact decide_eq_false hq
        have HNEG:¬ (s.data.toList=[]∨(j<R.length∧R.getD j []=s.data.toList)):=by
         rintro (h | ⟨_,h⟩)
         ·exact he h
         ·exact hq ((Uh HA).trans h)
        clear he hq hls
        have HPI:Hid (Cn.Names L (R.take j++[s.data.toList]++R.drop j)):=by
         have:=Uh HPUT
         rw [if_neg HNEG] at this
         have h2:R.take j++s.data.toList :: R.drop j=R.take j++[s.data.toList]++R.drop j:=by simp
         rw [← h2]; exact this
        have HT1:Hid (Sv w1 (sliced (some ⟨bq,oy,none⟩) 0 j yc 1) ((R.take j).map encStr)):=by
         have:=(Uh HO1).sv.cut (l:=0) (h:=j) (m:=yc) (by omega) (by omega) (by omega) (by omega)
         rw [List.drop_zero,Nat.sub_zero,← List.map_take] at this
         exact this
        have HT2:Hid (Sv w1 (sliced (some ⟨bq,oy,none⟩) j R.length yc 1) ((R.drop j).map encStr)):=by
         have:=(Uh HO1).sv.cut (l:=j) (h:=R.length) (m:=yc) (by omega) (by omega) (by omega) (by omega)
         rw [List.take_of_length_le (by simp),← List.map_drop] at this
         exact this
        have HRA:=Hd (fun W=>sl_h22 (some ⟨bq,oy,none⟩) R.length yc j W (by omega))
        have HRB:=Hd (fun W=>sl_l22 (some ⟨bq,oy,none⟩) R.length yc j W (by omega))
        obtain ⟨V1,hV1⟩:∃ V1,sliced (some ⟨bq,oy,none⟩) 0 j yc 1=V1:=⟨_,rfl⟩
        obtain ⟨V2,hV2⟩:∃ V2,sliced (some ⟨bq,oy,none⟩) j R.length yc 1=V2:=⟨_,rfl⟩
        rw [hV1] at HT1 HRA
        rw [hV2] at HT2 HRB
        have hlt1:(R.take j).length≤1000000:=by rw [List.length_take]; omega
        have hlt2:(R.drop j).length≤1000000:=by rw [List.length_drop]; omega
        clear hV1 hV2 HPUT
        go_wp2_with (first
         | (refine wp_sl22 rfl 42 (.tmp 53) none (some (.tmp 54)) rfl _ V1 none (some (.int .i64 (j:Int))) rfl rfl rfl ((Uh HRA) _) ?_)
         | (at_builtin; refine app_str22 rfl (.tmp 52) (.tmp 55) rfl w1.heap.size _ V1 [] (R.take j) rfl rfl (Ow.nil _ _ _) (Uh HT1) (by simp; omega) (Nat.le_refl _) ?_))
        intro v2 w2 ho2 hg2
        replace ho2:Ow 9 w2 w1.heap.size v2 ((R.take j).map encStr):=by simpa using ho2
        have hb2:Below w1.heap.size w1 w2:=(Below.refl _ _).grown hg2 (Nat.le_refl _) (fun g hg=>by cases hg)
        have HB2:=Hd hb2
        have HA2:=Hd (hb2.alloc hb2.size (.cells #[.string s] 9))
        have HO2:Hid (Ow 9 (w2.alloc (.cells #[.string s] 9)) w1.heap.size v2 ((R.take j).map encStr)):=⟨ho2.1,ho2.2.alloc _⟩
        have HL2:=Hd (lit_str22 w2 s)
        have HS2:=Hd hb2.size
        obtain ⟨zo,zc,hze,_,_⟩:=ho2.sv.shape
        rw [show ((R.take j).map encStr).length=j by simp; try omega] at hze
        subst hze
        clear ho2 hg2 hb2 HT1
        go_wp2_with (at_builtin; refine app_str22 rfl (.tmp 57) (.tmp 59) rfl w1.heap.size _ _ (R.take j) [s.data.toList] rfl rfl (Uh HO2) (Uh HL2) (by simp; omega) (by have:=Uh HS2; simp; omega) ?_)
        intro v3 w3 ho3 hg3
        replace ho3:Ow 9 w3 w1.heap.size v3 ((R.take j++[s.data.toList]).map encStr):=by simpa using ho3
        have hb3:Below w1.heap.size w1 w3:=(Uh HA2).grown hg3 (Uh HA2).size (fun g hg=>((Uh HO2).2.lt g hg).1)
        have HB3:=Hd hb3
        have HT3:=Hd ((Uh HT2).below hb3)
        have HO3:=Hd ho3
        obtain ⟨qo,qc,hqe,_,_⟩:=ho3.sv.shape
        rw [show ((R.take j++[s.data.toList]).map encStr).length=j+1 by simp; try omega] at hqe
        subst hqe
        clear ho3 hg3 hb3 HO2 HL2 HA2 HS2 HT2 HB2
        go_wp2_with (first
         | (refine wp_sl22 rfl 42 (.tmp 62) (some (.tmp 63)) none rfl _ V2 (some (.int .i64 (j:Int))) none rfl rfl rfl ((Uh HRB) _) ?_)
         | (at_builtin; refine app_str22 rfl (.tmp 61) (.tmp 64) rfl w1.heap.size _ V2 (R.take j++[s.data.toList]) (R.drop j) rfl rfl (Uh HO3) (Uh HT3) (by simp; omega) (Uh HB3).size ?_))
        intro v4 w4 ho4 hg4
        replace ho4:Ow 9 w4 w1.heap.size v4 ((R.take j++[s.data.toList]++R.drop j).map encStr):=by simpa using ho4
        have HB4:Hid (Below w1.heap.size w1 w4):=(Uh HB3).grown hg4 (Uh HB3).size (fun g hg=>((Uh HO3).2.lt g hg).1)
        have HO4:=Hd ho4
        obtain ⟨po,pc,hpe,_,_⟩:=ho4.sv.shape
        subst hpe
        clear ho4 hg4 HO3 HT3 HB3
        go_wp2
        go_roundw
        case rel=>exact ⟨k+1,_,by go_num,by omega,by rw [Uh HLQ]; exact HPI,(Uh HO4).lower (Uh HB1).size,bthen (Uh HB1) (Uh HB4)⟩
        case measure=>simp [intOf]; omega
    ·obtain rfl:j=R.length:=by omega
     have HSP:Hid (Cn.spot s.data.toList R=R.length):=Cn.spot_eq (Nat.le_refl _) (Uh HLT) (fun h=>absurd h (Nat.lt_irrefl _))
     unfold Cn.put22 at HPUT
     rw [Uh HSP] at HPUT
     by_cases he:s.data.toList=[]
     ·have hs0:s.toList=[]:=by rw [Lib.toList_data]; exact he
      have HPOS:s.data.toList=[]∨(R.length<R.length∧R.getD R.length []=s.data.toList):=.inl he
      clear he
      have HPR:Hid (Cn.Names L R):=by
       have:=Uh HPUT
       rw [if_pos HPOS] at this
       exact this
      clear HPUT
      go_wp2
      go_roundw
      case rel=>exact ⟨k+1,R,by go_num,by omega,by rw [Uh HLQ]; exact HPR,Uh HO1,Uh HB1⟩
      case measure=>simp [intOf]; omega
     ·have hs0:(s.toList==[])=false:=by rw [Lib.toList_data]; simpa using he
      have HNEG:¬ (s.data.toList=[]∨(R.length<R.length∧R.getD R.length []=s.data.toList)):=by
       rintro (h | ⟨h,_⟩)
       ·exact he h
       ·exact absurd h (Nat.lt_irrefl _)
      clear he
      have HPI:Hid (Cn.Names L (R.take R.length++[s.data.toList]++R.drop R.length)):=by
       have:=Uh HPUT
       rw [if_neg HNEG] at this
       have h2:R.take R.length++s.data.toList :: R.drop R.length=R.take R.length++[s.data.toList]++R.drop R.length:=by simp
       rw [← h2]; exact this
      have HT1:Hid (Sv w1 (sliced yo 0 R.length yc 1) ((R.take R.length).map encStr)):=by
       have:=(Uh HO1).sv.cut (l:=0) (h:=R.length) (m:=yc) (by omega) (by omega) (by omega) (by omega)
       rw [List.drop_zero,Nat.sub_zero,← List.map_take] at this
       exact this
      have HT2:Hid (Sv w1 (sliced yo R.length R.length yc 1) ((R.drop R.length).map encStr)):=by
       have:=(Uh HO1).sv.cut (l:=R.length) (h:=R.length) (m:=yc) (by omega) (by omega) (by omega) (by omega)
       rw [List.take_of_length_le (by simp),← List.map_drop] at this
       exact this
      have HRA:=Hd (fun W=>sl_h22 yo R.length yc R.length W (by omega))
      have HRB:=Hd (fun W=>sl_l22 yo R.length yc R.length W (by omega))
      obtain ⟨V1,hV1⟩:∃ V1,sliced yo 0 R.length yc 1=V1:=⟨_,rfl⟩
      obtain ⟨V2,hV2⟩:∃ V2,sliced yo R.length R.length yc 1=V2:=⟨_,rfl⟩
      rw [hV1] at HT1 HRA
      rw [hV2] at HT2 HRB
      have hlt1:(R.take R.length).length≤1000000:=by rw [List.length_take]; omega
      have hlt2:(R.drop R.length).length≤1000000:=by rw [List.length_drop]; omega
      clear hV1 hV2 HPUT
      go_wp2_with (first
       | (refine wp_sl22 rfl 42 (.tmp 53) none (some (.tmp 54)) rfl _ V1 none (some (.int .i64 (R.length:Int))) rfl rfl rfl ((Uh HRA) _) ?_)
       | (at_builtin; refine app_str22 rfl (.tmp 52) (.tmp 55) rfl w1.heap.size _ V1 [] (R.take R.length) rfl rfl (Ow.nil _ _ _) (Uh HT1) (by simp; omega) (Nat.le_refl _) ?_))
      intro v2 w2 ho2 hg2
      replace ho2:Ow 9 w2 w1.heap.size v2 ((R.take R.length).map encStr):=by simpa using ho2
      have hb2:Below w1.heap.size w1 w2:=(Below.refl _ _).grown hg2 (Nat.le_refl _) (fun g hg=>by cases hg)
      have HB2:=Hd hb2
      have HA2:=Hd (hb2.alloc hb2.size (.cells #[.string s] 9))
      have HO2:Hid (Ow 9 (w2.alloc (.cells #[.string s] 9)) w1.heap.size v2 ((R.take R.length).map encStr)):=⟨ho2.1,ho2.2.alloc _⟩
      have HL2:=Hd (lit_str22 w2 s)
      have HS2:=Hd hb2.size
      obtain ⟨zo,zc,hze,_,_⟩:=ho2.sv.shape
      rw [show ((R.take R.length).map encStr).length=R.length by simp; try omega] at hze
      subst hze
      clear ho2 hg2 hb2 HT1
      go_wp2_with (at_builtin; refine app_str22 rfl (.tmp 57) (.tmp 59) rfl w1.heap.size _ _ (R.take R.length) [s.data.toList] rfl rfl (Uh HO2) (Uh HL2) (by simp; omega) (by have:=Uh HS2; simp; omega) ?_)
      intro v3 w3 ho3 hg3
      replace ho3:Ow 9 w3 w1.heap.size v3 ((R.take R.length++[s.data.toList]).map encStr):=by simpa using ho3
      have hb3:Below w1.heap.size w1 w3:=(Uh HA2).grown hg3 (Uh HA2).size (fun g hg=>((Uh HO2).2.lt g hg).1)
      have HB3:=Hd hb3
      have HT3:=Hd ((Uh HT2).below hb3)
      have HO3:=Hd ho3
      obtain ⟨qo,qc,hqe,_,_⟩:=ho3.sv.shape
      rw [show ((R.take R.length++[s.data.toList]).map encStr).length=R.length+1 by simp; try omega] at hqe
      subst hqe
      clear ho3 hg3 hb3 HO2 HL2 HA2 HS2 HT2 HB2
      go_wp2_with (first
       | (refine wp_sl22 rfl 42 (.tmp 62) (some (.tmp 63)) none rfl _ V2 (some (.int .i64 (R.length:Int))) none rfl rfl rfl ((Uh HRB) _) ?_)
       | (at_builtin; refine app_str22 rfl (.tmp 61) (.tmp 64) rfl w1.heap.size _ V2 (R.take R.length++[s.data.toList]) (R.drop R.length) rfl rfl (Uh HO3) (Uh HT3) (by simp; omega) (Uh HB3).size ?_))
      intro v4 w4 ho4 hg4
      replace ho4:Ow 9 w4 w1.heap.size v4 ((R.take R.length++[s.data.toList]++R.drop R.length).map encStr):=by simpa using ho4
      have HB4:Hid (Below w1.heap.size w1 w4):=(Uh HB3).grown hg4 (Uh HB3).size (fun g hg=>((Uh HO3).2.lt g hg).1)
      have HO4:=Hd ho4
      obtain ⟨po,pc,hpe,_,_⟩:=ho4.sv.shape
      subst hpe
      clear ho4 hg4 HO3 HT3 HB3
      go_wp2
      go_roundw
      case rel=>exact ⟨k+1,_,by go_num,by omega,by rw [Uh HLQ]; exact HPI,(Uh HO4).lower (Uh HB1).size,bthen (Uh HB1) (Uh HB4)⟩
      case measure=>simp [intOf]; omega
  ·obtain rfl:k=xs.length:=by omega
   rw [List.take_length] at HN
   have HR:Hid (ScrE22 w (xs.map (Cn.snm rs)) (.returned u5) wr):=⟨_,R,Uh HN,rfl,hown,hb⟩
   obtain ⟨yo,yc,hye,hyc1,hyc2⟩:=hown.sv.shape
   subst hye
   clear hown hb
   go_wp2
   go_ret
   exact Uh HR
end Go.Proofs.YtihhhjodonkkcaaGreatDoor
