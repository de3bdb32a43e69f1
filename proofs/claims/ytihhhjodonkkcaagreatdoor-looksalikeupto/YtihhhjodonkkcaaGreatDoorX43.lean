/- Ka22 Kb22 Kc22 -/
import Derived.Test.YtihhhjodonkkcaaGreatDoorX41
import Derived.Test.YtihhhjodonkkcaaGreatDoorX42
namespace Go.Proofs.YtihhhjodonkkcaaGreatDoor
open Go.RowKit
namespace Cn
def lks (rs:List Rec) (xs:List Int):List Int:=(xs.map fun c=>looks rs c).flatten
def skel (rs:List Rec) (xs:List Int):List Int:=nfd rs (lks rs (nfd rs xs))
theorem lks_snoc rs (xs:List Int) {k} (hk:k<xs.length):lks rs (xs.take (k+1))=lks rs (xs.take k)++looks rs (xs.getD k 0):=by
 unfold lks
 rw [List.take_add_one,List.map_append,List.flatten_append,List.getElem?_eq_getElem hk]
 simp [List.getD,hk]
theorem looks_len22 {rs} (h6:(check6 rs).2=0) c:0<(looks rs c).length∧(looks rs c).length≤24:=by
 unfold looks
 split
 ·simp
 next h =>
  rcases rget_cases h6 (f:=8) (by decide) c with ⟨_,e⟩ | ⟨_,_,hf,_,hr⟩
  ·rw [e] at h; exact absurd rfl h
  ·have hk:(rget rs 8 c).kind=13:=by
    unfold fam at hf
    split at hf
    ·omega
    ·split at hf
     ·omega
     ·split at hf
      ·omega
      ·split at hf <;> omega
   have hl:=(list_parts (right_looks hr hk).2.2).1
   omega
theorem lks_len {rs} (h6:(check6 rs).2=0) xs:(lks rs xs).length≤24 * xs.length:=by
 unfold lks
 induction xs with
 | nil=>simp
 | cons c xs ih =>
  have:=(looks_len22 h6 c).2
  simp only [List.map_cons,List.flatten_cons,List.length_append,List.length_cons]
  omega
theorem lks_pos {rs} (h6:(check6 rs).2=0) xs:xs.length≤(lks rs xs).length:=by
 unfold lks
 induction xs with
 | nil=>simp
 | cons c xs ih =>
  have:=(looks_len22 h6 c).1
  simp only [List.map_cons,List.flatten_cons,List.length_append,List.length_cons]
  omega
def snm (rs:List Rec) (c:Int):List UInt8:=(rget rs 7 c).name.data.toList
def Names (L R:List (List UInt8)):Prop:=R.Pairwise (fun a b=>a<b)∧∀ x,x∈R↔x∈L∧x≠[]
theorem names_uniq:∀ {R R':List (List UInt8)},R.Pairwise (fun a b=>a<b)→R'.Pairwise (fun a b=>a<b)→(∀ x,x∈R↔x∈R')→R=R'
 | [],[],_,_,_=>rfl
 | [],b :: _,_,_,h=>absurd ((h b).2 (by simp)) (by simp)
 | a :: _,[],_,_,h=>absurd ((h a).1 (by simp)) (by simp)
 | a :: R,b :: R',h1,h2,h=>by
  obtain ⟨p1,p2⟩:=List.pairwise_cons.1 h1
  obtain ⟨q1,q2⟩:=List.pairwise_cons.1 h2
  have e:a=b:=by
   rcases List.mem_cons.1 ((h a).1 (by simp)) with e | m
   ·exact e
   ·rcases List.mem_cons.1 ((h b).2 (by simp)) with e | m'
    ·exact e.symm
    ·exact absurd (List.lt_trans (p1 _ m') (q1 _ m)) (List.lt_irrefl _)
  subst e
  refine congrArg _ (names_uniq p2 q2 fun x=>⟨fun hx=>?_,fun hx=>?_⟩)
  ·rcases List.mem_cons.1 ((h x).1 (List.mem_cons_of_mem _ hx)) with e | m
   ·subst e; exact absurd (p1 _ hx) (List.lt_irrefl _)
   ·exact m
  ·rcases List.mem_cons.1 ((h x).2 (List.mem_cons_of_mem _ hx)) with e | m
   ·subst e; exact absurd (q1 _ hx) (List.lt_irrefl _)
   ·exact m
theorem Names.uniq {L R R'} (h:Names L R) (k:Names L R'):R=R':=names_uniq h.1 k.1 fun x=>(h.2 x).trans (k.2 x).symm
theorem nodup_le:∀ {R L:List (List UInt8)},R.Pairwise (fun a b=>a≠b)→(∀ x∈R,x∈L)→R.length≤L.length
 | [],_,_,_=>Nat.zero_le _
 | a :: R,L,h,hs=>by
  obtain ⟨h1,h2⟩:=List.pairwise_cons.1 h
  have ha:=hs a (by simp)
  have:=nodup_le (L:=L.erase a) h2 fun x hx=>(List.mem_erase_of_ne (fun e=>h1 x hx e.symm)).2 (hs x (List.mem_cons_of_mem _ hx))
  rw [List.length_erase_of_mem ha] at this
  have hp:=List.length_pos_of_mem ha
  simp only [List.length_cons]
  omega
theorem Names.len {L R} (h:Names L R):R.length≤L.length :=
 nodup_le (h.1.imp fun {a b} (hab:a<b) (e:a=b)=>List.lt_irrefl b (e ▸ hab)) fun x hx=>((h.2 x).1 hx).1
theorem names_sorted {L ss:List (List UInt8)} (hn:ss.Nodup) (hm:∀ x,x∈ss↔x∈L∧x≠[]):Names L (ss.mergeSort fun x y=>decide (x≤y)):=by
 have tr:∀ a b c:List UInt8,decide (a≤b)=true→decide (b≤c)=true→decide (a≤c)=true:=fun a b c h1 h2=>by simp only [decide_eq_true_eq] at *; exact List.le_trans h1 h2
 have hto:∀ a b:List UInt8,(decide (a≤b) || decide (b≤a))=true:=fun a b=>by simp only [Bool.or_eq_true,decide_eq_true_eq]; exact List.le_total a b
 have hp:=List.pairwise_mergeSort tr hto ss
 have hperm:=List.mergeSort_perm ss fun x y=>decide (x≤y)
 have hnd:=hperm.nodup_iff.2 hn
 refine ⟨?_,fun x=>(hperm.mem_iff).trans (hm x)⟩
 generalize (ss.mergeSort fun x y=>decide (x≤y))=R at *
 refine (hp.and hnd).imp fun {a b} hab=>?_
 obtain ⟨h1,h2⟩:=hab
 by_cases h3:a<b
 ·exact h3
 ·exact absurd (List.le_antisymm (of_decide_eq_true h1) (List.not_lt.1 h3)) h2
def spot (s:List UInt8):List (List UInt8)→Nat
 | []=>0
 | a :: R=>if a<s then spot s R+1 else 0
theorem spot_le s:∀ R,spot s R≤R.length
 | []=>Nat.le_refl _
 | a :: R=>by
  unfold spot
  split
  ·simpa using spot_le s R
  ·exact Nat.zero_le _
theorem spot_below s:∀ R i,i<spot s R→R.getD i []<s
 | [],i,h=>absurd h (Nat.not_lt_zero _)
 | a :: R,i,h=>by
  unfold spot at h
  split at h
  next ha =>
   cases i with
   | zero=>simpa using ha
   | succ i=>simpa using spot_below s R i (by omega)
  ·exact absurd h (Nat.not_lt_zero _)
theorem spot_at s:∀ R,spot s R<R.length→¬ R.getD (spot s R) []<s
 | [],h=>absurd h (Nat.not_lt_zero _)
 | a :: R,h=>by
  unfold spot at h ⊢
  split at h
  next ha=>rw [if_pos ha]; simpa using spot_at s R (by simpa using h)
  next ha=>rw [if_neg ha]; simpa using ha
theorem spot_eq {s R k} (hk:k≤R.length) (h1:∀ i,i<k→R.getD i []<s) (h2:k<R.length→¬ R.getD k []<s):spot s R=k:=by
 rcases Nat.lt_trichotomy (spot s R) k with h | h | h
 ·exact absurd (h1 _ h) (spot_at s R (by omega))
 ·exact h
 ·exact absurd (spot_below s R k h) (h2 (by have:=spot_le s R; omega))
def put22 (s:List UInt8) (R:List (List UInt8)):List (List UInt8) :=
 if s=[]∨(spot s R<R.length∧R.getD (spot s R) []=s) then R else R.take (spot s R)++s :: R.drop (spot s R)
theorem mem_split {s:List UInt8} {R:List (List UInt8)} k x:x∈R.take k++s :: R.drop k↔x=s∨x∈R:=by
 have h:x∈R↔x∈R.take k∨x∈R.drop k:=by rw [← List.mem_append,List.take_append_drop]
 rw [h]; simp only [List.mem_append,List.mem_cons]
 constructor
 ·rintro (h | h | h)
  ·exact .inr (.inl h)
  ·exact .inl h
  ·exact .inr (.inr h)
 ·rintro (h | h | h)
  ·exact .inr (.inl h)
  ·exact .inl h
  ·exact .inr (.inr h)
theorem names_put {L R} (s:List UInt8) (h:Names L R):Names (L++[s]) (put22 s R):=by
 obtain ⟨hp,hm⟩:=h
 unfold put22
 split
 next hc =>
  refine ⟨hp,fun x=>(hm x).trans ⟨fun hx=>⟨List.mem_append_left _ hx.1,hx.2⟩,fun hx=>?_⟩⟩
  rcases List.mem_append.1 hx.1 with h1 | h1
  ·exact ⟨h1,hx.2⟩
  ·obtain rfl:x=s:=by simpa using h1
   rcases hc with hc | ⟨h2,h3⟩
   ·exact absurd hc hx.2
   ·exact (hm x).1 (by rw [← h3]; simp [List.getD,h2])
 next hc =>
  have hs:s≠[]:=fun e=>hc (.inl e)
  refine ⟨?_,fun x=>(mem_split _ x).trans ⟨fun hx=>?_,fun hx=>?_⟩⟩
  ·have h1:∀ a∈R.take (spot s R),a<s:=fun a ha=>by
    obtain ⟨i,hi,e⟩:=List.getElem_of_mem ha
    have hi':i<spot s R∧i<R.length:=by rw [List.length_take] at hi; omega
    rw [← e,List.getElem_take]
    have:=spot_below s R i hi'.1
    simpa [List.getD,hi'.2] using this
   have h2:∀ b∈R.drop (spot s R),s<b:=fun b hb=>by
    obtain ⟨i,hi,e⟩:=List.getElem_of_mem hb
    rw [List.length_drop] at hi
    have hlt:spot s R<R.length:=by omega
    have hge:=spot_at s R hlt
    have hne:R.getD (spot s R) []≠s:=fun e=>hc (.inr ⟨hlt,e⟩)
    have hsp:s<R.getD (spot s R) []:=by
     by_cases h3:s<R.getD (spot s R) []
     ·exact h3
     ·exact absurd (List.le_antisymm (List.not_lt.1 h3) (List.not_lt.1 hge)) hne
    rw [← e,List.getElem_drop]
    rcases Nat.eq_zero_or_pos i with h0 | h0
    ·subst h0; simpa [List.getD,hlt] using hsp
    ·refine List.lt_trans hsp ?_
     have:=List.pairwise_iff_getElem.1 hp (spot s R) (spot s R+i) hlt (by omega) (by omega)
     simpa [List.getD,hlt] using this
   refine List.pairwise_append.2 ⟨hp.sublist (List.take_sublist _ _),List.pairwise_cons.2 ⟨h2,hp.sublist (List.drop_sublist _ _)⟩,fun a ha b hb=>?_⟩
   rcases List.mem_cons.1 hb with e | hb
   ·subst e; exact h1 a ha
   ·exact List.lt_trans (h1 a ha) (h2 b hb)
  ·rcases hx with e | hx
   ·subst e; exact ⟨by simp,hs⟩
   ·exact ⟨List.mem_append_left _ ((hm x).1 hx).1,((hm x).1 hx).2⟩
  ·rcases List.mem_append.1 hx.1 with h1 | h1
   ·exact .inr ((hm x).2 ⟨h1,hx.2⟩)
   ·exact .inl (by simpa using h1)
theorem names_nil:Names [] []:=⟨List.Pairwise.nil,by simp⟩
theorem snm_len {rs} (h6:(check6 rs).2=0) c:(rget rs 7 c).name.size≤4:=by
 rcases rget_cases h6 (f:=7) (by decide) c with ⟨_,e⟩ | ⟨_,_,hf,_,hr⟩
 ·rw [e]; exact Nat.zero_le _
 ·have hk:(rget rs 7 c).kind=12:=by
   unfold fam at hf
   split at hf
   ·omega
   ·split at hf
    ·omega
    ·split at hf
     ·omega
     ·split at hf <;> omega
  have hf':=right_kind hr
  unfold right at hr
  rw [if_neg hf',if_neg (by omega)] at hr
  have hc:=if_zero hr
  rw [Bool.and_eq_true] at hc
  have h2:=hc.2
  rw [if_neg (by omega),if_neg (by omega),if_neg (by omega),if_neg (by omega),if_neg (by omega),if_neg (by omega),if_neg (by omega),if_neg (by omega),if_neg (by omega),if_neg (by omega),if_pos hk,Bool.and_eq_true] at h2
  have h3:=h2.2
  generalize (rget rs 7 c).name=s at h3
  have h5:=h3
  unfold nameL at h5
  split at h5
  ·next e =>
   have:=congrArg List.length e
   rw [List.length_map,Array.length_toList] at this
   exact Nat.le_of_eq this
  ·cases h5
end Cn
open Ti
def likE22 (rs:List Rec) (xs:List Int) (w:World) (e:Ending) (w':World):Prop:=(if 65536<(Cn.lks rs xs).length then SeqE w [] 2 else SeqE w (Cn.lks rs xs) 0) e w'
set_option maxRecDepth 8000 in
set_option maxHeartbeats 4000000 in
theorem liken22 {B p rs} v xs w (hD:DataAt w B p rs) (h6:(Cn.check6 rs).2=0) (hfit:∀ r∈rs,RecFit r) (hx:Sk .i32 w v xs):Calls Tryz.prog 31 #[.pointer (some ⟨p,0,none⟩),v] w (likE22 rs xs w):=by
 obtain ⟨i0,hi,hz0,hz1,hz2⟩:=info_parts infoR9
 have HX:=Hd hx
 obtain ⟨vo,vc,hve,hv1,hv2⟩:=hx.shape
 subst hve
 have HF:Hid (∀ c W,Rune c→Below w.heap.size w W→Calls Tryz.prog 51 #[.pointer (some ⟨p,0,none⟩),.int .i32 c] W (RunesNew W (Cn.looks rs c))):=fun c W hc hW=>looks_any9 c W (hD.below hW) h6 hfit hc
 have HSN:=fun k (h:k<xs.length)=>Hd (Cn.lks_snoc rs xs h)
 have HFL:=fun c=>Hd (Cn.looks_len22 h6 c)
 have HPRE:Hid (∀ k,(Cn.lks rs (xs.take k)).length≤(Cn.lks rs xs).length):=fun k=>by
  conv=>rhs; rw [← List.take_append_drop k xs]
  unfold Cn.lks
  rw [List.map_append,List.flatten_append,List.length_append]
  omega
 have HEND:Hid (Cn.lks rs (xs.take xs.length)=Cn.lks rs xs):=by rw [List.take_length]; rfl
 have HLONG:Hid (∀ k W,65536<(Cn.lks rs (xs.take k)).length→Below w.heap.size w W→likE22 rs xs w (.returned (.tuple #[.slice none 0 0,.int .i64 2])) W):=fun k W hl hb=>by
  unfold likE22; rw [if_pos (Nat.lt_of_lt_of_le hl ((Uh HPRE) k))]
  exact ⟨_,rfl,Ok.nil _ _ _ _,hb⟩
 have HFIN:Hid (∀ u W,(Cn.lks rs (xs.take xs.length)).length≤65536→Ok .i32 21 W w.heap.size u (Cn.lks rs (xs.take xs.length))→Below w.heap.size w W→likE22 rs xs w (.returned (.tuple #[u,.int .i64 0])) W):=fun u W hl ho hb=>by
  rw [Uh HEND] at hl ho
  unfold likE22; rw [if_neg (by omega)]
  exact ⟨_,rfl,ho,hb⟩
 clear hD h6 hfit hx HPRE HEND
 go_enter Tryz.func31,Tryz.ntmps31
 go_wp2
 go_loopw [6,8,11] (fun yy _ ii wr=>∃ k:Nat,ii=.int .i64 k∧k≤xs.length∧(Cn.lks rs (xs.take k)).length≤65536∧Ok .i32 21 wr w.heap.size yy (Cn.lks rs (xs.take k))∧Below w.heap.size w wr) (fun _ _ ii _=>xs.length - (intOf ii).toNat)
 case atStart=>exact ⟨0,rfl,by omega,by simp [Cn.lks],Ok.nil _ _ _ _,Below.refl _ _⟩
 case round =>
  obtain ⟨k,rfl,hkl,hzl,hok,hb⟩:=hrel
  by_cases hlt:k<xs.length
  ·obtain ⟨bx,ox,cqx,hex,_,_,hclx⟩:=(Uh HX).place (by omega)
   simp only [Value.slice.injEq] at hex
   obtain ⟨rfl,h9,rfl⟩:=hex
   have hcell:wr.cell? ⟨bx,ox+k,none⟩=some (.int .i32 (xs.getD k 0)):=by
    have h3:=hclx k hlt
    rw [hb.cell (lt_of_cell? h3)]; exact h3
   have hrn:Rune (xs.getD k 0):=by
    have:=(Uh HX).1 (xs.getD k 0) (by simp [List.getD,hlt])
    exact ⟨this.1,this.2⟩
   have KF:=Hd ((Uh HF) (xs.getD k 0) wr hrn hb)
   have HNX:=Hd (Uh (HSN k hlt))
   have hfl:=Uh (HFL (xs.getD k 0))
   have hbs:=hb.size
   have HB:=Hd hb
   have HOK:=Hd hok
   have HLG:=Hd ((Uh HLONG) (k+1))
   rw [Uh HNX] at HLG
   obtain ⟨yo,yc,hye,_,_⟩:=hok.sk.shape
   subst hye
   generalize hzs:Cn.lks rs (xs.take k)=zs at *
   generalize hfs:Cn.looks rs (xs.getD k 0)=fs at *
   generalize xs.getD k 0=c at *
   obtain ⟨hf0,hf1⟩:=hfl
   go_wp2_with fail
   refine (Uh KF).mono ?_
   rintro e1 w1 ⟨v1,rfl,ok1,b1⟩
   obtain ⟨fb,fo,fc,hfe,_,_,hfc⟩:=ok1.sk.place hf0
   subst hfe
   have hcells:∀ j u,(fs.map (Value.int .i32))[j]?=some u→w1.cell? ((⟨fb,fo,none⟩:Addr).add j)=some u:=by
    intro j u hu
    obtain ⟨hj,hu⟩:=List.getElem?_eq_some_iff.1 hu
    rw [List.length_map] at hj
    rw [addr_add,hfc j hj,← hu]
    simp [List.getD,hj]
   have hrow:w1.ownsRow w.heap.size 21 1 (.slice yo zs.length yc) zs.length (zs.map (Value.int .i32)):=by
    have:=((Uh HOK).below b1).row
    simpa using this
   have hs1:=b1.size
   have HROW:=Hd hrow
   have HCELLS:=Hd hcells
   have HFZ:=Hd (Uh HOK).1
   have HFF:=Hd ok1.1
   have HB1:=Hd (bthen (Uh HB) b1)
   go_wp2_with (at_builtin; refine wpList_append_own _ rfl (.tmp 15) (.tmp 18) 23 rfl w.heap.size 21 i0 (.int .i32 0) 1 4 Tryz.underlying23 hi hz0 hz1 hz2 rfl (by decide) _ _ _ rfl (Uh HROW) ⟨fb,fo,none⟩ fs.length fc (fs.map (Value.int .i32)) rfl (by simp) (Uh HCELLS) (fun u hu=>by obtain ⟨z,_,rfl⟩:=List.mem_map.1 hu; rfl) (by unfold maxLen; omega) (by omega) (by omega) ?_)
   intro v2 w2 hrow2 hg2 _
   have hok2:Ok .i32 21 w2 w.heap.size v2 (zs++fs):=by
    refine Ok.of (n:=zs.length+fs.length) (us:=zs.map (Value.int .i32)++fs.map (Value.int .i32)) (fun z hz=>?_) (by simp; omega) hrow2 (by simp) (by simp)
    rcases List.mem_append.1 hz with hz | hz
    ·exact (Uh HFZ) z hz
    ·exact (Uh HFF) z hz
   have hb2:Below w.heap.size w w2:=(Uh HB1).grown hg2 (by omega) (fun j hj=>((Uh HROW).lt j hj).1)
   have HO2:=Hd hok2
   have HB2:=Hd hb2
   obtain ⟨zo,zc,hze,_,_⟩:=hok2.sk.shape
   subst hze
   obtain ⟨n,hn⟩:∃ n,(zs++fs).length=n:=⟨_,rfl⟩
   have HN:=Hd hn
   rw [hn]
   clear hrow2 hg2 hok2 hn hcells hrow ok1 hfc HROW HCELLS
   by_cases hgt:65536<n
   ·have HR:=Hd ((Uh HLG) w2 (by rw [Uh HN]; exact hgt) hb2)
    have hgi:(65536:Int)<(n:Int):=by omega
    go_wp2
    go_ret2
    exact Uh HR
   ·have hgi:¬ (65536:Int)<(n:Int):=by omega
    have HO3:Hid (Ok .i32 21 w2 w.heap.size (.slice zo n zc) (zs++fs)):=by have:=Uh HO2; rw [Uh HN] at this; exact this
    go_wp2
    go_roundw
    case rel=>exact ⟨k+1,by go_num,by omega,by rw [Uh HNX,Uh HN]; omega,by rw [Uh HNX]; exact Uh HO3,Uh HB2⟩
    case measure=>simp [intOf]; omega
  ·obtain rfl:k=xs.length:=by omega
   have HFN:Hid (likE22 rs xs w (.returned (.tuple #[u6,.int .i64 0])) wr):=(Uh HFIN) u6 wr hzl hok hb
   obtain ⟨yo,yl,yc,hye⟩:∃ yo yl yc,u6=.slice yo yl yc:=by
    obtain ⟨yo,yc,e,_,_⟩:=hok.sk.shape
    exact ⟨yo,_,yc,e⟩
   subst hye
   go_wp2
   go_ret2
   exact Uh HFN
def skE22 (rs:List Rec) (xs:List Int) (w:World) (e:Ending) (w':World):Prop:=(if 65536<xs.length∨65536<(Cn.lks rs (Cn.nfd rs xs)).length then SeqE w [] 2 else SeqE w (Cn.skel rs xs) 0) e w'
set_option maxRecDepth 8000 in
set_option maxHeartbeats 4000000 in
theorem skel22 {B p rs} v xs w (hg:Glob w) (hD:DataAt w B p rs) (hk:(Cn.check rs).2=0) (hfit:∀ r∈rs,RecFit r) (hx:Sk .i32 w v xs):Calls Tryz.prog 10 #[.pointer (some ⟨p,0,none⟩),v] w (skE22 rs xs w):=by
 have h6:=check6_of hk
 have K1:=Hd (nfd_any12 v xs w hg hD hk hx)
 have K2:Hid (∀ u zs W,Sk .i32 W u zs→Below w.heap.size w W→Calls Tryz.prog 31 #[.pointer (some ⟨p,0,none⟩),u] W (likE22 rs zs W)):=fun u zs W hu hW=>liken22 u zs W (hD.below hW) h6 hfit hu
 have K3:Hid (∀ u zs W,Sk .i32 W u zs→Below w.heap.size w W→Calls Tryz.prog 21 #[.pointer (some ⟨p,0,none⟩),u] W (if 65536<zs.length then SeqE W [] 2 else SeqE W (Cn.nfd rs zs) 0)):=fun u zs W hu hW=>nfd_any12 u zs W (hg.on hW) (hD.below hW) hk hu
 have HL:Hid (∀ W,65536<xs.length∨65536<(Cn.lks rs (Cn.nfd rs xs)).length→Below w.heap.size w W→skE22 rs xs w (.returned (.tuple #[.slice none 0 0,.int .i64 2])) W):=fun W hl hb=>by
  unfold skE22; rw [if_pos hl]
  exact ⟨_,rfl,Ok.nil _ _ _ _,hb⟩
 have HF:Hid (∀ u W,¬ 65536<xs.length→¬ 65536<(Cn.lks rs (Cn.nfd rs xs)).length→Ok .i32 21 W w.heap.size u (Cn.nfd rs (Cn.lks rs (Cn.nfd rs xs)))→Below w.heap.size w W→skE22 rs xs w (.returned (.tuple #[u,.int .i64 0])) W):=fun u W hl hm ho hb=>by
  unfold skE22; rw [if_neg (by omega)]
  exact ⟨_,rfl,ho,hb⟩
 obtain ⟨vo,vc,hve,hv1,hv2⟩:=hx.shape
 subst hve
 clear hg hD hk hfit h6 hx
 by_cases hl:65536<xs.length
 ·rw [if_pos hl] at K1
  go_enter Tryz.func10,Tryz.ntmps10
  go_wp2_with fail
  refine (Uh K1).mono ?_
  rintro e1 w1 ⟨v1,rfl,ok1,b1⟩
  have HR:=Hd ((Uh HL) w1 (.inl hl) b1)
  clear ok1 b1
  go_wp2
  go_ret2
  exact Uh HR
 ·rw [if_neg hl] at K1
  have HNL:=Hd hl
  obtain ⟨ys,hys⟩:∃ ys,Cn.nfd rs xs=ys:=⟨_,rfl⟩
  rw [hys] at K1 HL HF
  clear hl hys
  go_enter Tryz.func10,Tryz.ntmps10
  go_wp2_with fail
  refine (Uh K1).mono ?_
  rintro e1 w1 ⟨v1,rfl,ok1,b1⟩
  have KA:=Hd ((Uh K2) v1 ys w1 ok1.sk b1)
  have HB1:=Hd b1
  obtain ⟨ao,ac,hae,_,_⟩:=ok1.sk.shape
  subst hae
  clear K1 K2 ok1 b1
  unfold likE22 at KA
  by_cases hm:65536<(Cn.lks rs ys).length
  ·rw [if_pos hm] at KA
   go_wp2_with fail
   refine (Uh KA).mono ?_
   rintro e2 w2 ⟨v2,rfl,ok2,b2⟩
   have HR:=Hd ((Uh HL) w2 (.inr hm) (bthen (Uh HB1) b2))
   clear ok2 b2 hm KA
   go_wp2
   go_ret2
   exact Uh HR
  ·rw [if_neg hm] at KA
   have HNM:=Hd hm
   obtain ⟨zs,hzs⟩:∃ zs,Cn.lks rs ys=zs:=⟨_,rfl⟩
   rw [hzs] at KA HL HF HNM
   clear hm hzs
   go_wp2_with fail
   refine (Uh KA).mono ?_
   rintro e2 w2 ⟨v2,rfl,ok2,b2⟩
   have b3:=bthen (Uh HB1) b2
   have KB:=Hd ((Uh K3) v2 zs w2 ok2.sk b3)
   rw [if_neg (Uh HNM)] at KB
   have HB2:=Hd b3
   obtain ⟨eo,ec,hee,_,_⟩:=ok2.sk.shape
   subst hee
   clear KA K3 ok2 b2 b3
   go_wp2_with fail
   refine (Uh KB).mono ?_
   rintro e3 w3 ⟨v3,rfl,ok3,b3⟩
   have HR:=Hd ((Uh HF) v3 w3 (Uh HNL) (Uh HNM) (ok3.lower (Uh HB2).size) (bthen (Uh HB2) b3))
   clear ok3 b3 KB
   go_wp2
   go_ret2
   exact Uh HR
theorem skel_ok22 {B p rs} v xs w (hg:Glob w) (hD:DataAt w B p rs) (hk:(Cn.check rs).2=0) (hfit:∀ r∈rs,RecFit r) (hx:Sk .i32 w v xs) (h1:xs.length≤65536) (h2:(Cn.lks rs (Cn.nfd rs xs)).length≤65536):Calls Tryz.prog 10 #[.pointer (some ⟨p,0,none⟩),v] w (SeqE w (Cn.skel rs xs) 0):=by
 refine (skel22 v xs w hg hD hk hfit hx).mono ?_
 intro e w' h
 unfold skE22 at h
 rw [if_neg (by omega)] at h
 exact h
theorem Cn.small22 {rs} (hk:(Cn.check rs).2=0) {xs:List Int} (h:xs.length≤85):(Cn.lks rs (Cn.nfd rs xs)).length≤65536:=by
 have h1:=Cn.lks_len (Cn.check_iff.1 hk).1 (Cn.nfd rs xs)
 have h2:=Cn.nfd_len hk xs
 omega
set_option maxHeartbeats 1000000 in
theorem nfd_nil22 w ao (n cp:Nat):Calls Tryz.prog 21 #[.pointer none,.slice ao n cp] w (SeqE w [] 1):=by
 have K1:Hid (∀ W v,Calls Tryz.prog 40 #[.pointer none,v] W fun e w'=>e=.returned (.int .i64 1)∧w'=W):=fun W v=>refused_nil v W
 obtain ⟨W0,hW0⟩:∃ W0,w.alloc (.cells #[.slice ao n cp] 23)=W0:=⟨_,rfl⟩
 have hb0:Below w.heap.size w W0:=by rw [← hW0]; exact (Below.refl _ _).alloc (Nat.le_refl _) _
 have HF:Hid (SeqE w [] 1 (.returned (.tuple #[.slice none 0 0,.int .i64 1])) W0):=⟨_,rfl,Ok.nil _ _ _ _,hb0⟩
 go_enter Tryz.func21,Tryz.ntmps21
 go_wp2_with fail
 refine ((Uh K1) _ _).mono ?_
 rintro e1 w1 ⟨rfl,rfl⟩
 go_wp2
 go_ret2
 exact Uh HF
set_option maxHeartbeats 1000000 in
theorem skel_nil22 w ao (n cp:Nat):Calls Tryz.prog 10 #[.pointer none,.slice ao n cp] w (SeqE w [] 1):=by
 have K:=Hd (nfd_nil22 w ao n cp)
 go_enter Tryz.func10,Tryz.ntmps10
 go_wp2_with fail
 refine (Uh K).mono ?_
 rintro e1 w1 ⟨v1,rfl,ok1,b1⟩
 have HR:Hid (SeqE w [] 1 (.returned (.tuple #[.slice none 0 0,.int .i64 1])) w1):=⟨_,rfl,Ok.nil _ _ _ _,b1⟩
 clear ok1 b1
 go_wp2
 go_ret2
 exact Uh HR
open Ti
theorem any_no22 {K:List Int} {f:Int→Bool} (h:∀ i,i<K.length→f (K.getD i 0)=false):K.any f=false:=by
 rw [List.any_eq_false]
 intro x hx
 obtain ⟨i,hi,rfl⟩:=List.getElem_of_mem hx
 have:=h i hi
 simp only [List.getD,List.getElem?_eq_getElem hi,Option.getD_some] at this
 rw [this]; exact Bool.false_ne_true
theorem any_yes22 {K:List Int} {f:Int→Bool} {i} (hi:i<K.length) (h:f (K.getD i 0)=true):K.any f=true:=by grind
def IdxB22 (w:World) (b:Bool) (e:Ending) (w':World):Prop:=∃ n:Int,e=.returned (.int .i64 n)∧decide (0≤n)=b∧Below w.heap.size w w'
set_option maxRecDepth 8000 in
set_option maxHeartbeats 1000000 in
theorem idx22 (g:Nat) F C (eg:∀ args w,(callFunc g args).run Tryz.prog w=.ok (.enter g args) w) (p:Int→Bool) xv X w (hx:Sk .i32 w xv X) (hp:∀ k,k<X.length→∀ W,Below w.heap.size w W→Calls Tryz.prog g (F++#[.int .i32 (X.getD k 0)]++C) W (BoolB W (p (X.getD k 0)))) :
  Calls Tryz.prog 87 #[xv,.func (.func g) F C] w (IdxB22 w (X.any p)):=by
 have hlen:=hx.len
 have KP:=Hd hp
 have HC:Hid (∀ (k:Nat),k<X.length→∃ b off cap,xv=.slice (some ⟨b,off,none⟩) X.length cap∧∀ W,Below w.heap.size w W→W.cell? ⟨b,off+k,none⟩=some (.int .i32 (X.getD k 0))):=fun k hk=>by
  obtain ⟨b,off,cap,he,_,_,hc⟩:=hx.place (by omega)
  exact ⟨b,off,cap,he,fun W hW=>by rw [hW.cell (lt_of_cell? (hc k hk))]; exact hc k hk⟩
 have HNO:Hid ((∀ q,q<X.length→p (X.getD q 0)=false)→X.any p=false):=fun h=>any_no22 h
 have HYES:Hid (∀ q,q<X.length→p (X.getD q 0)=true→X.any p=true):=fun q hq h=>any_yes22 hq h
 obtain ⟨ao,cap,rfl,_,_⟩:=hx.shape
 go_enter Tryz.func87,Tryz.ntmps87
 go_wp2
 go_loopw [5,8] (fun _ iv wr=>∃ k:Nat,iv=.int .i64 k∧k≤X.length∧(∀ q,q<k→p (X.getD q 0)=false)∧Below w.heap.size w wr) (fun _ iv _=>X.length - (intOf iv).toNat)
 case atStart=>exact ⟨0,rfl,by omega,fun q h=>absurd h (by omega),Below.refl _ _⟩
 case round =>
  obtain ⟨k,rfl,hk,hq,hbr⟩:=hrel
  by_cases hlt:k<X.length
  ·have hL:(k:Int)<X.length:=by omega
   obtain ⟨b1,off,cp,he,hcx⟩:=(Uh HC) k hlt
   simp only [Value.slice.injEq] at he
   obtain ⟨rfl,-,rfl⟩:=he
   have x4:=hcx wr hbr
   have K:=Hd ((Uh KP) k hlt wr hbr)
   have HY:=Hd ((Uh HYES) k hlt)
   have HQ:Hid (p (X.getD k 0)=false→∀ q,q<k+1→p (X.getD q 0)=false):=fun h q hq'=>by
    rcases Nat.lt_or_ge q k with h1 | h1
    ·exact hq q h1
    ·rw [show q=k by omega]; exact h
   have HBR:=Hd hbr
   generalize p (X.getD k 0)=z at *
   generalize X.getD k 0=c at *
   cases z with
   | true =>
    have HT:=Hd ((Uh HY) rfl)
    go_wp2_with (go_at_fn g; refine (Uh K).mono ?_; rintro e w1 ⟨rfl,b1⟩)
    have HB1:=Hd (bthen (Uh HBR) b1)
    go_ret
    exact ⟨_,rfl,by rw [Uh HT]; exact decide_eq_true (by omega),Uh HB1⟩
   | false =>
    have HQ2:=Hd ((Uh HQ) rfl)
    go_wp2_with (go_at_fn g; refine (Uh K).mono ?_; rintro e w1 ⟨rfl,b1⟩)
    have HB1:=Hd (bthen (Uh HBR) b1)
    go_roundw
    case rel=>exact ⟨k+1,by go_num,by omega,Uh HQ2,Uh HB1⟩
    case measure=>simp [intOf]; omega
  ·have HT:=Hd ((Uh HNO) fun q h=>hq q (by omega))
   have hL:¬ ((k:Int)<X.length):=by omega
   have HBR:=Hd hbr
   go_wp2
   go_ret
   exact ⟨_,rfl,by rw [Uh HT]; rfl,Uh HBR⟩
theorem con22 (g:Nat) F C (eg:∀ args w,(callFunc g args).run Tryz.prog w=.ok (.enter g args) w) (p:Int→Bool) xv X w (hx:Sk .i32 w xv X) (hp:∀ k,k<X.length→∀ W,Below w.heap.size w W→Calls Tryz.prog g (F++#[.int .i32 (X.getD k 0)]++C) W (BoolB W (p (X.getD k 0)))) :
  Calls Tryz.prog 55 #[xv,.func (.func g) F C] w (BoolB w (X.any p)):=by
 have K:=Hd (idx22 g F C eg p xv X w hx hp)
 obtain ⟨ao,cap,rfl,_,_⟩:=hx.shape
 generalize X.any p=hb at *
 go_enter Tryz.func55,Tryz.ntmps55
 go_wp2_with fail
 refine (Uh K).mono ?_
 rintro e w1 ⟨n,rfl,hn,b1⟩
 subst hn
 go_wp2
 go_ret
 exact ⟨rfl,b1⟩
namespace Cn
def far (c:Int):Bool:=decide (c<0∨127<c)
def asc (xs:List Int):Bool:=!xs.any far
end Cn
theorem far22 c w:Calls Tryz.prog 56 #[.int .i32 c] w (BoolB w (Cn.far c)):=by
 unfold Cn.far
 by_cases h1:c<0
 ·rw [decide_eq_true (.inl h1)]
  go_enter Tryz.func56,Tryz.ntmps56
  go_wp2
  go_ret
  exact ⟨rfl,Below.refl _ _⟩
 ·by_cases h2:127<c
  ·rw [decide_eq_true (.inr h2)]
   go_enter Tryz.func56,Tryz.ntmps56
   go_wp2
   go_ret
   exact ⟨rfl,Below.refl _ _⟩
  ·rw [decide_eq_false (by omega)]
   go_enter Tryz.func56,Tryz.ntmps56
   go_wp2
   go_ret
   exact ⟨rfl,Below.refl _ _⟩
theorem enters_far22:∀ args w,(callFunc 56 args).run Tryz.prog w=.ok (.enter 56 args) w:=by simp_all
theorem ascii22 {w:World} {xv:Value} {X:List Int} (hx:Sk .i32 w xv X):Calls Tryz.prog 35 #[xv] w (BoolB w (Cn.asc X)):=by
 have K:=Hd (con22 56 #[] #[] enters_far22 Cn.far xv X w hx fun k _ W _=>far22 (X.getD k 0) W)
 unfold Cn.asc
 obtain ⟨ao,cap,rfl,_,_⟩:=hx.shape
 clear hx
 generalize (X.any Cn.far)=a at *
 go_enter Tryz.func35,Tryz.ntmps35
 go_wp2_with fail
 refine (Uh K).mono ?_
 rintro e w1 ⟨rfl,b1⟩
 clear K
 go_wp2
 go_ret
 exact ⟨rfl,b1⟩
set_option maxRecDepth 8000 in
set_option maxHeartbeats 1000000 in
theorem refAscii22 {w:World} {xv:Value} {X:List Int} (hx:Sk .i32 w xv X):Calls Tryz.prog 36 #[xv] w (BoolB w (Cn.asc X)):=by
 have hlen:=hx.len
 have HC:Hid (∀ (k:Nat),k<X.length→∃ b off cap,xv=.slice (some ⟨b,off,none⟩) X.length cap∧∀ W,Below w.heap.size w W→W.cell? ⟨b,off+k,none⟩=some (.int .i32 (X.getD k 0))):=fun k hk=>by
  obtain ⟨b,off,cap,he,_,_,hc⟩:=hx.place (by omega)
  exact ⟨b,off,cap,he,fun W hW=>by rw [hW.cell (lt_of_cell? (hc k hk))]; exact hc k hk⟩
 have HNO:Hid ((∀ q,q<X.length→Cn.far (X.getD q 0)=false)→Cn.asc X=true):=fun h=>by unfold Cn.asc; rw [any_no22 h]; rfl
 have HYES:Hid (∀ q,q<X.length→Cn.far (X.getD q 0)=true→Cn.asc X=false):=fun q hq h=>by unfold Cn.asc; rw [any_yes22 hq h]; rfl
 obtain ⟨ao,cap,rfl,_,_⟩:=hx.shape
 clear hx
 generalize Cn.asc X=r at *
 go_enter Tryz.func36,Tryz.ntmps36
 go_wp2
 go_loopw [3] (fun iv wr=>∃ k:Nat,iv=.int .i64 k∧k≤X.length∧(∀ q,q<k→Cn.far (X.getD q 0)=false)∧Below w.heap.size w wr) (fun iv _=>X.length - (intOf iv).toNat)
 case atStart=>exact ⟨0,rfl,by omega,fun q h=>absurd h (by omega),Below.refl _ _⟩
 case round =>
  obtain ⟨k,rfl,hk,hq,hbr⟩:=hrel
  by_cases hlt:k<X.length
  ·have hL:(k:Int)<X.length:=by omega
   obtain ⟨b1,off,cp,he,hcx⟩:=(Uh HC) k hlt
   simp only [Value.slice.injEq] at he
   obtain ⟨rfl,-,rfl⟩:=he
   have x4:=hcx wr hbr
   have HY:=Hd ((Uh HYES) k hlt)
   have HQ:Hid (Cn.far (X.getD k 0)=false→∀ q,q<k+1→Cn.far (X.getD q 0)=false):=fun h q hq'=>by
    rcases Nat.lt_or_ge q k with h1 | h1
    ·exact hq q h1
    ·rw [show q=k by omega]; exact h
   have HBR:=Hd hbr
   clear hcx hq
   generalize X.getD k 0=c at *
   unfold Cn.far at HY HQ
   by_cases h1:c<0
   ·have HT:=Hd ((Uh HY) (decide_eq_true (.inl h1)))
    have HR:Hid (BoolB w r (.returned (.bool false)) wr):=⟨by rw [Uh HT],Uh HBR⟩
    clear HQ HNO HYES HY HC HT
    go_wp2
    go_ret
    exact Uh HR
   ·by_cases h2:127<c
    ·have HT:=Hd ((Uh HY) (decide_eq_true (.inr h2)))
     have HR:Hid (BoolB w r (.returned (.bool false)) wr):=⟨by rw [Uh HT],Uh HBR⟩
     clear HQ HNO HYES HY HC HT
     go_wp2
     go_ret
     exact Uh HR
    ·have HQ2:=Hd ((Uh HQ) (decide_eq_false (by omega)))
     clear HQ HY
     go_wp2
     go_roundw
     case rel=>exact ⟨k+1,by go_num,by omega,Uh HQ2,Uh HBR⟩
     case measure=>simp [intOf]; omega
  ·have HT:=Hd ((Uh HNO) fun q h=>hq q (by omega))
   have hL:¬ ((k:Int)<X.length):=by omega
   have HBR:=Hd hbr
   have HR:Hid (BoolB w r (.returned (.bool true)) wr):=⟨by rw [Uh HT],Uh HBR⟩
   clear HNO HYES HC hq HT
   go_wp2
   go_ret
   exact Uh HR
def TrB22 (w:World) (b:Bool) (e:Ending) (w':World):Prop:=e=.returned (.tuple #[.bool b,.int .i64 0])∧Below w.heap.size w w'
set_option maxRecDepth 8000 in
set_option maxHeartbeats 2000000 in
theorem alike22 {B p rs} v u xs ys w (hg:Glob w) (hD:DataAt w B p rs) (hk:(Cn.check rs).2=0) (hfit:∀ r∈rs,RecFit r) (hx:Sk .i32 w v xs) (hy:Sk .i32 w u ys) (h1:xs.length≤65536) (h2:(Cn.lks rs (Cn.nfd rs xs)).length≤65536) (h3:ys.length≤65536) (h4:(Cn.lks rs (Cn.nfd rs ys)).length≤65536):Calls Tryz.prog 12 #[.pointer (some ⟨p,0,none⟩),v,u] w (TrB22 w (decide (Cn.skel rs xs=Cn.skel rs ys))):=by
 have K1:=Hd (skel_ok22 v xs w hg hD hk hfit hx h1 h2)
 have K2:Hid (∀ W,Below w.heap.size w W→Calls Tryz.prog 10 #[.pointer (some ⟨p,0,none⟩),u] W (SeqE W (Cn.skel rs ys) 0)):=fun W hW=>skel_ok22 u ys W (hg.on hW) (hD.below hW) hk hfit (hy.below hW) h3 h4
 obtain ⟨vo,vc,hve,_,_⟩:=hx.shape
 subst hve
 obtain ⟨uo,uc,hue,_,_⟩:=hy.shape
 subst hue
 generalize Cn.skel rs xs=A at *
 generalize Cn.skel rs ys=C at *
 clear hg hD hk hfit hx hy h1 h2 h3 h4
 go_enter Tryz.func12,Tryz.ntmps12
 go_wp2_with fail
 refine (Uh K1).mono ?_
 rintro e1 w1 ⟨v1,rfl,ok1,b1⟩
 have K3:=Hd ((Uh K2) w1 b1)
 have HB1:=Hd b1
 have HO1:=Hd ok1
 obtain ⟨ao,ac,hae,_,_⟩:=ok1.sk.shape
 subst hae
 clear K1 K2 ok1 b1
 go_wp2_with fail
 refine (Uh K3).mono ?_
 rintro e2 w2 ⟨v2,rfl,ok2,b2⟩
 have K4:=Hd (equalR12 _ v2 A C w2 ((Uh HO1).below b2).sk ok2.sk)
 have HB2:=Hd (bthen (Uh HB1) b2)
 obtain ⟨co,cc,hce,_,_⟩:=ok2.sk.shape
 subst hce
 obtain ⟨b,hb⟩:∃ b,decide (A=C)=b:=⟨_,rfl⟩
 rw [hb] at K4
 have HBE:=Hd hb
 clear K3 ok2 b2 hb HO1
 go_wp2_with fail
 refine (Uh K4).mono ?_
 rintro e3 w3 ⟨rfl,b3⟩
 have HR:Hid (TrB22 w (decide (A=C)) (.returned (.tuple #[.bool b,.int .i64 0])) w3):=⟨by rw [Uh HBE],bthen (Uh HB2) (drewB b3)⟩
 clear K4 b3
 go_wp2
 go_ret2
 exact Uh HR
namespace Cn
def fake (rs:List Rec) (xs:List Int):Bool:=decide (0<(skel rs xs).length) && asc (skel rs xs) && !asc xs
end Cn
set_option maxRecDepth 8000 in
set_option maxHeartbeats 2000000 in
theorem fake22 {B p rs} v xs w (hg:Glob w) (hD:DataAt w B p rs) (hk:(Cn.check rs).2=0) (hfit:∀ r∈rs,RecFit r) (hx:Sk .i32 w v xs) (h1:xs.length≤65536) (h2:(Cn.lks rs (Cn.nfd rs xs)).length≤65536):Calls Tryz.prog 15 #[.pointer (some ⟨p,0,none⟩),v] w (BoolB w (Cn.fake rs xs)):=by
 have K1:=Hd (ascii22 hx)
 have K2:Hid (∀ W,Below w.heap.size w W→Calls Tryz.prog 10 #[.pointer (some ⟨p,0,none⟩),v] W (SeqE W (Cn.skel rs xs) 0)):=fun W hW=>skel_ok22 v xs W (hg.on hW) (hD.below hW) hk hfit (hx.below hW) h1 h2
 have K3:Hid (∀ u zs W,Sk .i32 W u zs→Calls Tryz.prog 35 #[u] W (BoolB W (Cn.asc zs))):=fun u zs W hu=>ascii22 hu
 unfold Cn.fake
 obtain ⟨vo,vc,hve,_,_⟩:=hx.shape
 subst hve
 generalize Cn.skel rs xs=A at *
 generalize Cn.asc xs=a at *
 clear hg hD hk hfit hx h1 h2
 cases a with
 | true =>
  go_enter Tryz.func15,Tryz.ntmps15
  go_wp2_with fail
  refine (Uh K1).mono ?_
  rintro e1 w1 ⟨rfl,b1⟩
  have HR:Hid (BoolB w (decide (0<A.length) && Cn.asc A && !true) (.returned (.bool false)) w1):=⟨by simp,b1⟩
  clear K1 K2 K3 b1
  go_wp2
  go_ret
  exact Uh HR
 | false =>
  go_enter Tryz.func15,Tryz.ntmps15
  go_wp2_with fail
  refine (Uh K1).mono ?_
  rintro e1 w1 ⟨rfl,b1⟩
  have K4:=Hd ((Uh K2) w1 b1)
  have HB1:=Hd b1
  clear K1 K2 b1
  go_wp2_with fail
  refine (Uh K4).mono ?_
  rintro e2 w2 ⟨v2,rfl,ok2,b2⟩
  have K5:=Hd ((Uh K3) v2 A w2 ok2.sk)
  have HB2:=Hd (bthen (Uh HB1) b2)
  obtain ⟨co,cc,hce,_,_⟩:=ok2.sk.shape
  subst hce
  have hAl:A.length=0→Hid (BoolB w (decide (0<A.length) && Cn.asc A && !false) (.returned (.bool false)) w2):=fun h=>⟨by rw [h]; rfl,Uh HB2⟩
  clear K3 K4 ok2 b2
  rcases Nat.eq_zero_or_pos A.length with h0 | h0
  ·have HR:=hAl h0
   have hA:A=[]:=List.eq_nil_of_length_eq_zero h0
   subst hA
   clear hAl h0 K5
   go_wp2
   go_ret
   exact Uh HR
  ·have HN0:=Hd h0
   have hi:(0:Int)<(A.length:Int):=by omega
   generalize A.length=n at *
   generalize Cn.asc A=c at *
   clear hAl
   go_wp2_with fail
   refine (Uh K5).mono ?_
   rintro e3 w3 ⟨rfl,b3⟩
   have HR:Hid (BoolB w (decide (0<n) && c && !false) (.returned (.bool c)) w3):=⟨by rw [decide_eq_true (Uh HN0)]; simp,bthen (Uh HB2) b3⟩
   clear K5 b3
   go_wp2
   go_ret
   exact Uh HR
end Go.Proofs.YtihhhjodonkkcaaGreatDoor
