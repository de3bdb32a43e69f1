/- Ke22 Kg22 -/
import Derived.Test.YtihhhjodonkkcaaGreatDoorX45
namespace Go.Proofs.YtihhhjodonkkcaaGreatDoor
open Go.RowKit
open Ti
def SkR22 (w:World) (zs:List Int) (e:Ending) (w':World):Prop:=∃ v,e=.returned (.tuple #[v,.bool true])∧Ok .i32 21 w' w.heap.size v zs∧Below w.heap.size w w'
set_option maxRecDepth 8000 in
set_option maxHeartbeats 4000000 in
theorem refSkel22 {rs:List Rec} (tv v:Value) (xs:List Int) (w:World) (ht:Rcs w tv rs) (hk:(Cn.check rs).2=0) (hx:Sk .i32 w v xs) (h1:xs.length≤65536) (h2:(Cn.lks rs (Cn.nfd rs xs)).length≤65536):Calls Tryz.prog 11 #[tv,v] w (SkR22 w (Cn.skel rs xs)):=by
 have h6:=check6_of hk
 obtain ⟨i0,hi,hz0,hz1,hz2⟩:=info_parts infoR9
 have K1:=Hd (refNFD12 tv v xs w ht hk hx h1)
 have K2:Hid (∀ u zs W,Sk .i32 W u zs→zs.length≤65536→Below w.heap.size w W→Calls Tryz.prog 32 #[tv,u] W (RunesNew W (Cn.nfd rs zs))):=fun u zs W hu hl hW=>refNFD12 tv u zs W (ht.below hW) hk hu hl
 have HF:Hid (∀ c W,Rune c→Below w.heap.size w W→Calls Tryz.prog 33 #[tv,.int .i32 c] W (RunesNew W (Cn.looks rs c))):=fun c W hc hW=>refLooks9 tv rs c W (ht.below hW) h6 hc
 have h3:=Nat.le_trans (Cn.lks_pos h6 (Cn.nfd rs xs)) h2
 have HFL:=fun c=>Hd (Cn.looks_len22 h6 c)
 have HSN:=fun (zs:List Int) k (h:k<zs.length)=>Hd (Cn.lks_snoc rs zs h)
 have HPRE:Hid (∀ (zs:List Int) k,(Cn.lks rs (zs.take k)).length≤(Cn.lks rs zs).length):=fun zs k=>by
  conv=>rhs; rw [← List.take_append_drop k zs]
  unfold Cn.lks
  rw [List.map_append,List.flatten_append,List.length_append]
  omega
 unfold Cn.skel
 obtain ⟨ta,tcp,hte,_,_⟩:=ht.shape
 subst hte
 obtain ⟨vo,vc,hve,hv1,hv2⟩:=hx.shape
 subst hve
 clear ht hk hx h6
 generalize Cn.nfd rs xs=ys at *
 have g1:¬ (65536:Int)<(xs.length:Int):=by omega
 go_enter Tryz.func11,Tryz.ntmps11
 go_wp2_with fail
 refine (Uh K1).mono ?_
 rintro e1 w1 ⟨v1,rfl,ok1,b1⟩
 have HB1:=Hd b1
 have HO1:=Hd ok1
 obtain ⟨ao,ac,hae,ha1,ha2⟩:=ok1.sk.shape
 subst hae
 have g2:¬ (65536:Int)<(ys.length:Int):=by omega
 clear K1 ok1 b1
 go_wp2
 go_loopw [7,8] (fun yy ii wr=>∃ k:Nat,ii=.int .i64 k∧k≤ys.length∧Ok .i32 21 wr w1.heap.size yy (Cn.lks rs (ys.take k))∧Below w1.heap.size w1 wr) (fun _ ii _=>ys.length - (intOf ii).toNat)
 case atStart=>exact ⟨0,rfl,by omega,Ok.nil _ _ _ _,Below.refl _ _⟩
 case round =>
  obtain ⟨k,rfl,hkl,hok,hb⟩:=hrel
  have HBW:=Hd (bthen (Uh HB1) hb)
  by_cases hlt:k<ys.length
  ·obtain ⟨bx,ox,cqx,hex,_,_,hclx⟩:=(Uh HO1).sk.place (by omega)
   simp only [Value.slice.injEq] at hex
   obtain ⟨rfl,h9,rfl⟩:=hex
   have hcell:wr.cell? ⟨bx,ox+k,none⟩=some (.int .i32 (ys.getD k 0)):=by
    have h3:=hclx k hlt
    rw [hb.cell (lt_of_cell? h3)]; exact h3
   have hrn:Rune (ys.getD k 0):=by
    have:=(Uh HO1).1 (ys.getD k 0) (by simp [List.getD,hlt])
    exact ⟨this.1,this.2⟩
   have KF:=Hd ((Uh HF) (ys.getD k 0) wr hrn (Uh HBW))
   have HNX:=Hd (Uh (HSN ys k hlt))
   have hfl:=Uh (HFL (ys.getD k 0))
   have hbs:=(Uh HBW).size
   have HB:=Hd hb
   have HOK:=Hd hok
   have hzl:=(Uh HPRE) ys (k+1)
   rw [Uh HNX,List.length_append] at hzl
   obtain ⟨yo,yc,hye,_,_⟩:=hok.sk.shape
   subst hye
   generalize hzs:Cn.lks rs (ys.take k)=zs at *
   generalize hfs:Cn.looks rs (ys.getD k 0)=fs at *
   generalize ys.getD k 0=c at *
   obtain ⟨hf0,hf1⟩:=hfl
   clear hb hok hclx hrn
   go_wp2_with fail
   refine (Uh KF).mono ?_
   rintro e1 w2 ⟨v1,rfl,ok1,b1⟩
   have HOR:=Hd ((Uh HOK).below b1)
   have HSR:=Hd ok1.sk
   have HBR:=Hd (bthen (Uh HB) b1)
   have HBV:=Hd (bthen (Uh HBW) b1)
   have hw2:=(Uh HBR).size
   obtain ⟨fo,fc,hfe,_,_⟩:=ok1.sk.shape
   subst hfe
   clear ok1 b1 KF
   go_wp2_with (at_builtin; refine app_sk12 rfl (.tmp 24) (.tmp 30) rfl w1.heap.size _ _ zs fs rfl rfl (Uh HOR) (Uh HSR) (by omega) (by omega) ?_)
   intro v2 w3 hok2 hg2
   have HO2:=Hd hok2
   have HB2:Hid (Below w1.heap.size w1 w3):=(Uh HBR).grown hg2 (Uh HBR).size (fun j hj=>((Uh HOR).row.lt j hj).1)
   obtain ⟨zo,zc,hze,_,_⟩:=hok2.sk.shape
   subst hze
   obtain ⟨n,hn⟩:∃ n,(zs++fs).length=n:=⟨_,rfl⟩
   have HN:=Hd hn
   have hnl:n≤65536:=by rw [← hn,List.length_append]; omega
   rw [hn]
   clear hg2 hok2 hn HOR HSR
   have hgi:¬ (65536:Int)<(n:Int):=by omega
   have HO3:Hid (Ok .i32 21 w3 w1.heap.size (.slice zo n zc) (zs++fs)):=by have:=Uh HO2; rw [Uh HN] at this; exact this
   go_wp2
   go_roundw
   case rel=>exact ⟨k+1,by go_num,by omega,by rw [Uh HNX]; exact Uh HO3,Uh HB2⟩
   case measure=>simp [intOf]; omega
  ·obtain rfl:k=ys.length:=by omega
   rw [List.take_length] at hok
   have K3:=Hd ((Uh K2) u7 (Cn.lks rs ys) wr hok.sk h2 (Uh HBW))
   obtain ⟨yo,yc,hye,_,_⟩:=hok.sk.shape
   subst hye
   generalize Cn.lks rs ys=zs at *
   clear hok hb
   go_wp2_with fail
   refine (Uh K3).mono ?_
   rintro e3 w3 ⟨v3,rfl,ok3,b3⟩
   have HR:Hid (SkR22 w (Cn.nfd rs zs) (.returned (.tuple #[v3,.bool true])) w3):=⟨_,rfl,ok3.lower (Uh HBW).size,bthen (Uh HBW) b3⟩
   clear ok3 b3 K3
   go_wp2
   go_ret2
   exact Uh HR
def TrR22 (w:World) (b:Bool) (e:Ending) (w':World):Prop:=e=.returned (.tuple #[.bool b,.bool true])∧Below w.heap.size w w'
set_option maxRecDepth 8000 in
set_option maxHeartbeats 2000000 in
theorem refAlike22 {rs:List Rec} (tv v u:Value) (xs ys:List Int) (w:World) (ht:Rcs w tv rs) (hk:(Cn.check rs).2=0) (hx:Sk .i32 w v xs) (hy:Sk .i32 w u ys) (h1:xs.length≤65536) (h2:(Cn.lks rs (Cn.nfd rs xs)).length≤65536) (h3:ys.length≤65536) (h4:(Cn.lks rs (Cn.nfd rs ys)).length≤65536):Calls Tryz.prog 13 #[tv,v,u] w (TrR22 w (decide (Cn.skel rs xs=Cn.skel rs ys))):=by
 have K1:=Hd (refSkel22 tv v xs w ht hk hx h1 h2)
 have K2:Hid (∀ W,Below w.heap.size w W→Calls Tryz.prog 11 #[tv,u] W (SkR22 W (Cn.skel rs ys))):=fun W hW=>refSkel22 tv u ys W (ht.below hW) hk (hy.below hW) h3 h4
 obtain ⟨ta,tcp,hte,_,_⟩:=ht.shape
 subst hte
 obtain ⟨vo,vc,hve,_,_⟩:=hx.shape
 subst hve
 obtain ⟨uo,uc,hue,_,_⟩:=hy.shape
 subst hue
 generalize Cn.skel rs xs=A at *
 generalize Cn.skel rs ys=C at *
 clear ht hk hx hy h1 h2 h3 h4
 go_enter Tryz.func13,Tryz.ntmps13
 go_wp2_with fail
 refine (Uh K1).mono ?_
 rintro e1 w1 ⟨v1,rfl,ok1,b1⟩
 have K3:=Hd ((Uh K2) w1 b1)
 have HB1:=Hd b1
 have HO1:=Hd ok1
 obtain ⟨ao,ac,hae,_,_⟩:=ok1.sk.shape
 subst hae
 clear K1 K2 ok1 b1
 go_wp2_with fail
 refine (Uh K3).mono ?_
 rintro e2 w2 ⟨v2,rfl,ok2,b2⟩
 have K4:=Hd (same_q12 _ v2 A C w2 ((Uh HO1).below b2).sk ok2.sk)
 have HB2:=Hd (bthen (Uh HB1) b2)
 obtain ⟨co,cc,hce,_,_⟩:=ok2.sk.shape
 subst hce
 obtain ⟨b,hb⟩:∃ b,decide (A=C)=b:=⟨_,rfl⟩
 rw [hb] at K4
 have HBE:=Hd hb
 clear K3 ok2 b2 hb HO1
 go_wp2_with fail
 refine (Uh K4).mono ?_
 rintro e3 w3 ⟨rfl,b3⟩
 have HR:Hid (TrR22 w (decide (A=C)) (.returned (.tuple #[.bool b,.bool true])) w3):=⟨by rw [Uh HBE],bthen (Uh HB2) (drewB b3)⟩
 clear K4 b3
 go_wp2
 go_ret2
 exact Uh HR
set_option maxRecDepth 8000 in
set_option maxHeartbeats 2000000 in
theorem refFake22 {rs:List Rec} (tv v:Value) (xs:List Int) (w:World) (ht:Rcs w tv rs) (hk:(Cn.check rs).2=0) (hx:Sk .i32 w v xs) (h1:xs.length≤65536) (h2:(Cn.lks rs (Cn.nfd rs xs)).length≤65536):Calls Tryz.prog 16 #[tv,v] w (BoolB w (Cn.fake rs xs)):=by
 have K1:=Hd (refSkel22 tv v xs w ht hk hx h1 h2)
 have K2:Hid (∀ W,Below w.heap.size w W→Calls Tryz.prog 36 #[v] W (BoolB W (Cn.asc xs))):=fun W hW=>refAscii22 (hx.below hW)
 have K3:Hid (∀ u zs W,Sk .i32 W u zs→Calls Tryz.prog 36 #[u] W (BoolB W (Cn.asc zs))):=fun u zs W hu=>refAscii22 hu
 unfold Cn.fake
 obtain ⟨ta,tcp,hte,_,_⟩:=ht.shape
 subst hte
 obtain ⟨vo,vc,hve,_,_⟩:=hx.shape
 subst hve
 generalize Cn.skel rs xs=A at *
 generalize Cn.asc xs=a at *
 clear ht hk hx h1 h2
 go_enter Tryz.func16,Tryz.ntmps16
 go_wp2_with fail
 refine (Uh K1).mono ?_
 rintro e1 w1 ⟨v1,rfl,ok1,b1⟩
 have K5:=Hd ((Uh K3) v1 A w1 ok1.sk)
 have HB1:=Hd b1
 obtain ⟨co,cc,hce,_,_⟩:=ok1.sk.shape
 subst hce
 clear K1 K3 ok1 b1
 rcases Nat.eq_zero_or_pos A.length with h0 | h0
 ·have hA:A=[]:=List.eq_nil_of_length_eq_zero h0
  subst hA
  have HR:Hid (BoolB w (decide (0<([]:List Int).length) && Cn.asc [] && !a) (.returned (.bool false)) w1):=⟨by simp,Uh HB1⟩
  clear K5 K2 h0
  go_wp2
  go_ret
  exact Uh HR
 ·have HN0:=Hd h0
  have hi:(0:Int)<(A.length:Int):=by omega
  generalize A.length=n at *
  generalize Cn.asc A=c at *
  go_wp2_with fail
  refine (Uh K5).mono ?_
  rintro e2 w2 ⟨rfl,b2⟩
  have K6:=Hd ((Uh K2) w2 (bthen (Uh HB1) b2))
  have HB2:=Hd (bthen (Uh HB1) b2)
  clear K5 K2 b2
  cases c with
  | false =>
   have HR:Hid (BoolB w (decide (0<n) && false && !a) (.returned (.bool false)) w2):=⟨by simp,Uh HB2⟩
   clear K6
   go_wp2
   go_ret
   exact Uh HR
  | true =>
   go_wp2_with fail
   refine (Uh K6).mono ?_
   rintro e3 w3 ⟨rfl,b3⟩
   have HR:Hid (BoolB w (decide (0<n) && true && !a) (.returned (.bool !a)) w3):=⟨by rw [decide_eq_true (Uh HN0)]; simp,bthen (Uh HB2) b3⟩
   clear K6 b3
   go_wp2
   go_ret
   exact Uh HR
open Ti
set_option maxRecDepth 20000 in
set_option maxHeartbeats 1000000 in
theorem few22 (xv:Value) (xs:List Int) (m:Nat) (w:World) (hx:Sk .i32 w xv xs) (hm:m≤2000):Calls Tryz.prog 9 #[xv,.int .i64 m] w (RunesNew w (xs.take m)):=by
 have hxl:=hx.len
 obtain ⟨ax,cx,hxv,hcx1,hcx2⟩:=hx.shape
 subst hxv
 obtain ⟨n,hn⟩:∃ n,n=min xs.length m:=⟨_,rfl⟩
 have hmin:min (xs.length:Int) (m:Int)=(n:Int):=by omega
 have hn1:n≤xs.length:=by omega
 have hn2:n≤2000:=by omega
 have hT:=hx.head hn1 hcx1
 have htl:(xs.take n).length=n:=by rw [List.length_take]; omega
 have htt:xs.take m=xs.take n:=by rw [hn,List.take_eq_take_min,Nat.min_comm]
 rw [htt]
 clear htt hx hn
 generalize hys:xs.take n=ys at *
 clear hys
 have HT:=Hd hT
 clear hT
 rcases ax with _ | ax
 all_goals
  go_enter Tryz.func9,Tryz.ntmps9
  go_wp2_with (at_builtin; refine app_sk12 rfl (.tmp 6) (.tmp 12) rfl w.heap.size _ _ [] ys rfl rfl (Ok.nil _ _ _ _) (Uh HT) (by simp; omega) (Nat.le_refl _) ?_)
  intro v1 w1 h1 h2
  have HF:Hid (RunesNew w ys (.returned v1) w1):=⟨_,rfl,h1,(Below.refl w.heap.size w).grown h2 (Nat.le_refl _) (fun g hh=>by cases hh)⟩
  obtain ⟨a1,c1,hv1,_,_⟩:=h1.sk.shape
  subst hv1
  clear h1 h2 HT
  go_wp2
  go_ret
  exact Uh HF
theorem plain_nil22 w ao (n cp:Nat):Calls Tryz.prog 20 #[.pointer none,.slice ao n cp] w fun e w'=>e=.returned (.bool false)∧w'=w:=by
 go_enter Tryz.func20,Tryz.ntmps20
 go_wp2
 go_ret
 exact ⟨rfl,rfl⟩
set_option maxHeartbeats 1000000 in
theorem plain22 {B p rs} v xs w R (hD:DataAt w B p rs) (h6:(Cn.check6 rs).2=0) (hx:Sk .i32 w v xs) (hxl:xs.length≤1000000) (hR:Cn.Names (xs.map (Cn.snm rs)) R):Calls Tryz.prog 20 #[.pointer (some ⟨p,0,none⟩),v] w (BoolB w (decide (R.length≤1))):=by
 have K:=Hd (scripts22 v xs w hD h6 hx hxl)
 obtain ⟨vo,vc,hve,_,_⟩:=hx.shape
 subst hve
 have HR:=Hd hR
 clear hD h6 hx hR
 go_enter Tryz.func20,Tryz.ntmps20
 go_wp2_with fail
 refine (Uh K).mono ?_
 rintro e1 w1 ⟨v1,R1,hN,rfl,ho,b1⟩
 have hq:R1.length=R.length:=by rw [hN.uniq (Uh HR)]
 obtain ⟨zo,zc,hz,_,_⟩:=ho.sv.shape
 rw [List.length_map,hq] at hz
 subst hz
 have HB:=Hd b1
 clear K hN ho b1 hq HR
 by_cases hl:R.length≤1
 ·have HF:Hid (BoolB w (decide (R.length≤1)) (.returned (.bool true)) w1):=⟨by rw [decide_eq_true hl],Uh HB⟩
  have hi:(R.length:Int)≤1:=by omega
  go_wp2
  go_ret
  exact Uh HF
 ·have HF:Hid (BoolB w (decide (R.length≤1)) (.returned (.bool false)) w1):=⟨by rw [decide_eq_false hl],Uh HB⟩
  have hi:decide ((R.length:Int)≤1)=false:=decide_eq_false (by omega)
  go_wp2
  go_ret
  exact Uh HF
set_option maxRecDepth 20000 in
set_option maxHeartbeats 1000000 in
theorem same22 v u (R:List (List UInt8)) w (hv:Sv w v (R.map encStr)) (hu:Sv w u (R.map encStr)):Calls Tryz.prog 19 #[v,u] w (Draws w true):=by
 rcases Nat.eq_zero_or_pos R.length with h0 | h0
 ·obtain ⟨ao,cap,rfl,_,_⟩:=hv.shape
  obtain ⟨ao',cap',rfl,_,_⟩:=hu.shape
  rw [List.length_map,h0]
  go_enter Tryz.func19,Tryz.ntmps19
  go_wp2
  refine wp_loop_rounds 1 ?_
  rw [rounds_succ]
  go_wp2
  go_ret
  exact ⟨rfl,drew0 w⟩
 ·obtain ⟨b,off,cap,rfl,hc1,hc2,hc⟩:=hv.place (by rw [List.length_map]; exact h0)
  obtain ⟨b',off',cap',rfl,hc1',hc2',hc'⟩:=hu.place (by rw [List.length_map]; exact h0)
  rw [List.length_map] at hc1 hc1' ⊢
  have HC:∀ i,i<R.length→∃ A:ByteArray,∀ wr,Below w.heap.size w wr→wr.cell? ⟨b,off+i,none⟩=some (.string A)∧wr.cell? ⟨b',off'+i,none⟩=some (.string A):=by
   intro i hi
   obtain ⟨A,hA,h1⟩:=str_cell22 hc hi
   obtain ⟨A',hA',h2⟩:=str_cell22 hc' hi
   obtain rfl:A=A':=ByteArray.ext (Array.ext' (hA.trans hA'.symm))
   refine ⟨A,fun wr hb=>⟨?_,?_⟩⟩
   ·rw [hb.cell (lt_of_cell? h1)]; exact h1
   ·rw [hb.cell (lt_of_cell? h2)]; exact h2
  have hln:=hv.1
  rw [List.length_map] at hln
  have HCC:=Hd HC
  clear hc hc' HC hv hu
  go_enter Tryz.func19,Tryz.ntmps19
  go_wp2
  go_loopw [5] (fun i wr=>∃ k:Nat,i=.int .i64 k∧k≤R.length∧∃ m,wr=w.drewN m) (fun i _=>R.length - (intOf i).toNat)
  case atStart=>exact ⟨0,rfl,by omega,drew0 w⟩
  case round =>
   obtain ⟨k,rfl,hk,hbel⟩:=hrel
   by_cases hlt:k<R.length
   ·obtain ⟨A,hA⟩:=(Uh HCC) k hlt
    obtain ⟨c1,c2⟩:=hA _ (drewB hbel)
    clear hA
    go_wp2
    go_quiet (fail)
    go_wp2
    go_roundw
    case rel=>exact ⟨k+1,by go_num,by omega,drews hbel nq⟩
    case measure=>simp [intOf]; omega
   ·obtain rfl:k=R.length:=by omega
    go_wp2
    go_ret
    exact ⟨rfl,hbel⟩
set_option maxRecDepth 20000 in
set_option maxHeartbeats 1000000 in
theorem among22 v (R:List (List UInt8)) (s:ByteArray) w (hv:Sv w v (R.map encStr)):Calls Tryz.prog 25 #[v,.string s] w (BoolIs w (decide (s.data.toList∈R))):=by
 have HV:=Hd hv
 have hln:=hv.1
 rw [List.length_map] at hln
 have HYES:Hid (∀ k,k<R.length→R.getD k []=s.data.toList→decide (s.data.toList∈R)=true):=fun k hk h=>decide_eq_true (by rw [← h]; simp [List.getD,hk])
 have HNO:Hid ((∀ i,i<R.length→R.getD i []≠s.data.toList)→decide (s.data.toList∈R)=false):=fun h=>decide_eq_false fun hm=>by
  obtain ⟨i,hi,e⟩:=List.getElem_of_mem hm
  exact h i hi (by simpa [List.getD,hi] using e)
 obtain ⟨ao,cap,rfl,_,_⟩:=hv.shape
 rw [List.length_map] at *
 obtain ⟨q,hq⟩:∃ q,decide (s.data.toList∈R)=q:=⟨_,rfl⟩
 rw [hq] at HYES HNO ⊢
 clear hv hq
 go_enter Tryz.func25,Tryz.ntmps25
 go_wp2
 go_loop [5] (fun ii=>∃ k:Nat,ii=.int .i64 k∧k≤R.length∧Hid (∀ i,i<k→R.getD i []≠s.data.toList)) (fun ii=>R.length - (intOf ii).toNat)
 case atStart=>exact ⟨0,rfl,by omega,fun i h=>absurd h (by omega)⟩
 case round =>
  obtain ⟨k,rfl,hk,HN⟩:=hrel
  by_cases hlt:k<R.length
  ·obtain ⟨b,off,cp,he,_,_,hc⟩:=(Uh HV).place (by rw [List.length_map]; omega)
   simp only [Value.slice.injEq] at he
   obtain ⟨rfl,-,rfl⟩:=he
   obtain ⟨A,hA,hcA⟩:=str_cell22 hc hlt
   have hji:(k:Int)<(R.length:Int):=by omega
   clear hc
   by_cases hs:A.data.toList=s.data.toList
   ·have hE:(A.toList==s.toList)=true:=by rw [eqs22]; exact decide_eq_true hs
    have HQ:=Hd ((Uh HYES) k hlt (hA.symm.trans hs))
    have HR:Hid (BoolIs w q (.returned (.bool true)) w):=⟨by rw [Uh HQ],rfl⟩
    clear hA hs
    go_wp2
    go_ret
    exact Uh HR
   ·have hE:(A.toList==s.toList)=false:=by rw [eqs22]; exact decide_eq_false hs
    have HN2:Hid (∀ i,i<k+1→R.getD i []≠s.data.toList):=fun i hi=>by
     rcases Nat.lt_or_ge i k with h | h
     ·exact (Uh HN) i h
     ·rw [show i=k by omega,← hA]; exact hs
    clear hA hs
    go_wp2
    go_round
    case rel=>exact ⟨k+1,by go_num,by omega,HN2⟩
    case measure=>simp [intOf]; omega
  ·obtain rfl:k=R.length:=by omega
   have hji:¬ ((R.length:Int)<(R.length:Int)):=by omega
   have HQ:=Hd ((Uh HNO) (Uh HN))
   have HR:Hid (BoolIs w q (.returned (.bool false)) w):=⟨by rw [Uh HQ],rfl⟩
   go_wp2
   go_ret
   exact Uh HR
end Go.Proofs.YtihhhjodonkkcaaGreatDoor
