/- TbD7 CcA7 CcB7 CcC7 CcD7 CcE7 CcF7 Cp7 -/
import Derived.Test.YtihhhjodonkkcaaGreatDoorX2
import Derived.Shelf.Abstract
import Derived.Lib.Walk
import Derived.Maps.AppendAt
import Derived.Deep.RegionHeld3
namespace Go.Proofs.YtihhhjodonkkcaaGreatDoor
open Go.RowKit
def fbR (p:Rec→Bool):Nat→List Rec→Int
 | _,[]=>-1
 | i,r :: l=>if p r then (i:Int) else fbR p (i+1) l
theorem fbR_hit {p:Rec→Bool} {rs:List Rec} {k x} (hk:k<rs.length) (h:x=fbR p k (rs.drop k)) (hp:p (rs.getD k Cn.none)=true):x=(k:Int):=by
 rw [h,List.drop_eq_getElem_cons hk,fbR,if_pos]
 simpa [List.getD,hk] using hp
theorem fbR_next {p:Rec→Bool} {rs:List Rec} {k x} (hk:k<rs.length) (h:x=fbR p k (rs.drop k)) (hp:p (rs.getD k Cn.none)=false):x=fbR p (k+1) (rs.drop (k+1)):=by
 rw [h,List.drop_eq_getElem_cons hk,fbR,if_neg]
 have:p rs[k]=false:=by simpa [List.getD,hk] using hp
 simp [this]
theorem fbR_end {p:Rec→Bool} {rs:List Rec} {x} (h:x=fbR p rs.length (rs.drop rs.length)):x=-1:=by
 rw [h,List.drop_length,fbR]
theorem enters_find1:∀ args w,(callFunc 152 args).run Tryz.prog w=.ok (.enter 152 args) w:=by simp_all
def AsksR (g:Nat) (cap:Array Value) (p:Rec→Bool) (w:World) (rs:List Rec):Prop:=∀ (k:Nat) (vt:Value) (W:World),k<rs.length→Below w.heap.size w W→Sk .i32 W vt (rs.getD k Cn.none).to→Calls Tryz.prog g (#[recV (rs.getD k Cn.none) vt]++cap) W (BoolB W (p (rs.getD k Cn.none)))
def RIn (w:World) (v:Value) (rs:List Rec) (W:World):Prop:=Rcs W v rs∧Below w.heap.size w W
theorem RIn.on {w W W' v rs} (h:RIn w v rs W) (hb:Below W.heap.size W W'):RIn w v rs W':=⟨h.1.below hb,h.2.trans (hb.mono h.2.size)⟩
set_option maxRecDepth 8000 in
set_option maxHeartbeats 4000000 in
theorem indexFunc2_any B C (p:Rec→Bool) v rs w (hv:Rcs w v rs) (hp:AsksR 152 #[.pointer (some ⟨B,0,none⟩),.pointer (some ⟨C,0,none⟩)] p w rs) :
  Calls Tryz.prog 140 #[v,.func (.func 152) #[] #[.pointer (some ⟨B,0,none⟩),.pointer (some ⟨C,0,none⟩)]] w (IntB w (fbR p 0 rs)):=by
 have eg:=enters_find1
 have HI0:Hid (RIn w v rs w):=⟨hv,Below.refl _ _⟩
 have HP:=Hd hp
 have HR0:Hid (fbR p 0 rs=fbR p 0 (rs.drop 0)):=by rw [List.drop_zero]; rfl
 have hlen:=hv.1
 obtain ⟨ao,cap,rfl,h1,h2⟩:=hv.shape
 generalize hq:fbR p 0 rs=x at *
 go_enter Tryz.func140,Tryz.ntmps140
 go_wp2
 go_loopw [5,8] (fun _ i wr=>∃ k:Nat,i=.int .i64 k∧k≤rs.length∧x=fbR p k (rs.drop k)∧RIn w (.slice ao rs.length cap) rs wr) (fun _ i _=>rs.length - (intOf i).toNat)
 case atStart=>exact ⟨0,rfl,by omega,Uh HR0,Uh HI0⟩
 case round =>
  obtain ⟨k,rfl,hk,hr,hin⟩:=hrel
  by_cases hlt:k<rs.length
  ·obtain ⟨b,off,cap',he,hc1,hc2,hc⟩:=hin.1.place (by omega)
   obtain ⟨rfl,rfl⟩:ao=some ⟨b,off,none⟩∧cap=cap':=by simpa using he
   obtain ⟨x0,x1,x2,x3,⟨vt,x4,sk⟩,x5,x6,x7⟩:=hc k hlt
   have HV:=Hd ((Uh HP) k vt wr hlt hin.2 sk)
   have HH:Hid (p (rs.getD k Cn.none)=true→x=(k:Int)):=fun h=>fbR_hit hlt hr h
   have HN:Hid (p (rs.getD k Cn.none)=false→x=fbR p (k+1) (rs.drop (k+1))):=fun h=>fbR_next hlt hr h
   have HIN:=Hd hin
   obtain ⟨tq,tc,rfl,_,_⟩:=sk.shape
   clear hr hin hc he sk HP
   unfold recV at HV
   generalize p (rs.getD k Cn.none)=y at HV HH HN
   generalize (rs.getD k Cn.none).kind=kd at *
   generalize (rs.getD k Cn.none).lo=lo at *
   generalize (rs.getD k Cn.none).hi=hi at *
   generalize (rs.getD k Cn.none).n=n at *
   generalize (rs.getD k Cn.none).name=nm at *
   generalize (rs.getD k Cn.none).other=ot at *
   generalize (rs.getD k Cn.none).wt=wt at *
   generalize (rs.getD k Cn.none).to.length=tl at *
   cases y with
   | true =>
    obtain rfl:=(Uh HH) rfl
    go_wp2_with (go_at_fn 152; refine (Uh HV).mono ?_; rintro e w1 ⟨rfl,hb1⟩)
    have HF:=Hd ((Uh HIN).on hb1).2
    go_ret
    exact ⟨rfl,Uh HF⟩
   | false =>
    have HN2:=Hd ((Uh HN) rfl)
    go_wp2_with (go_at_fn 152; refine (Uh HV).mono ?_; rintro e w1 ⟨rfl,hb1⟩)
    have HF:=Hd ((Uh HIN).on hb1)
    go_round
    case rel=>exact ⟨k+1,by go_num,by omega,Uh HN2,Uh HF⟩
    case measure=>simp [intOf]; omega
  ·obtain rfl:k=rs.length:=by omega
   obtain rfl:=fbR_end hr
   have HF:=Hd hin.2
   go_wp2
   go_ret
   exact ⟨rfl,Uh HF⟩
theorem fbR_find (f c:Int):∀ (l:List Rec) (i:Nat),fbR (fun r=>decide (Cn.fam r.kind=f) && Cn.speaks r c) i l=Cn.findA f c i l
 | [],i=>rfl
 | r :: l,i=>by
  rw [fbR,Cn.findA,fbR_find f c l]
  by_cases h:Cn.fam r.kind=f∧Cn.speaks r c=true
  ·rw [if_pos h,if_pos (by simp [h.1,h.2])]
  ·rw [if_neg h,if_neg (by simpa using h)]
theorem findA_out {f c:Int} (hf:f<0∨10<f):∀ (l:List Rec) (i:Nat),Cn.findA f c i l=-1
 | [],i=>rfl
 | r :: l,i=>by
  have:=Cn.fam_small r.kind
  rw [Cn.findA,if_neg (fun a=>by omega),findA_out hf l]
theorem find_out {l f c} (hf:f≤0∨10≤f):Cn.find l f c=-1:=by
 unfold Cn.find
 split
 ·rfl
 ·exact findA_out (by omega) l 0
def FindT:Prop:=∀ (v:Value) (rs:List Rec) (f c:Int) (w:World),Glob w→Rcs w v rs→I64 f→(-2147483648≤c∧c≤2147483647)→Calls Tryz.prog 121 #[v,.int .i64 f,.int .i32 c] w (IntB w (Cn.find rs f c))
set_option maxRecDepth 8000 in
set_option maxHeartbeats 4000000 in
theorem find_any:FindT:=by
 intro v rs f c w hg hv hf hc
 obtain ⟨f0,f1⟩:=hf
 by_cases hlo:f≤0
 ·rw [find_out (.inl hlo)]
  go_enter Tryz.func121,Tryz.ntmps121
  go_wp2
  go_ret
  exact ⟨rfl,((Below.refl _ _).alloc (Nat.le_refl _) _).alloc (by simp) _⟩
 ·by_cases hhi:10≤f
  ·rw [find_out (.inr hhi)]
   go_enter Tryz.func121,Tryz.ntmps121
   go_wp2
   go_ret
   exact ⟨rfl,((Below.refl _ _).alloc (Nat.le_refl _) _).alloc (by simp) _⟩
  ·have hb0:Below w.heap.size w ((w.alloc (.cells #[.int .i64 f] 3)).alloc (.cells #[.int .i32 c] 21)):=((Below.refl _ _).alloc (Nat.le_refl _) _).alloc (by simp) _
   have hcB:((w.alloc (.cells #[.int .i64 f] 3)).alloc (.cells #[.int .i32 c] 21)).cell? ⟨w.heap.size,0,none⟩=some (.int .i64 f):=by simp_all
   have hcC:((w.alloc (.cells #[.int .i64 f] 3)).alloc (.cells #[.int .i32 c] 21)).cell? ⟨w.heap.size+1,0,none⟩=some (.int .i32 c):=by simp_all
   have hv1:=hv.below hb0
   have hg1:=hg.on hb0
   have e:Cn.find rs f c=fbR (fun r=>decide (Cn.fam r.kind=f) && Cn.speaks r c) 0 rs:=by
    unfold Cn.find
    rw [if_neg (by omega),fbR_find]
   rw [e]
   have K:Hid (Calls Tryz.prog 140 #[v,.func (.func 152) #[] #[.pointer (some ⟨w.heap.size,0,none⟩),.pointer (some ⟨w.heap.size+1,0,none⟩)]] ((w.alloc (.cells #[.int .i64 f] 3)).alloc (.cells #[.int .i32 c] 21)) (IntB ((w.alloc (.cells #[.int .i64 f] 3)).alloc (.cells #[.int .i32 c] 21)) (fbR (fun r=>decide (Cn.fam r.kind=f) && Cn.speaks r c) 0 rs))) :=
    indexFunc2_any _ _ _ v rs _ hv1 (fun k vt W hk hW _=>find1_any _ vt f c _ _ W (hv.fit hk) (hg1.on hW) (by rw [hW.cell (lt_of_cell? hcB)]; exact hcB) (by rw [hW.cell (lt_of_cell? hcC)]; exact hcC) (by omega) hc)
   obtain ⟨ao,cap,rfl,h1,h2⟩:=hv.shape
   generalize fbR (fun r=>decide (Cn.fam r.kind=f) && Cn.speaks r c) 0 rs=x at *
   go_enter Tryz.func121,Tryz.ntmps121
   go_wp2_with fail
   refine (Uh K).mono ?_
   rintro e w1 ⟨rfl,hb1⟩
   have HF:IntB w x (.returned (.int .i64 x)) w1:=⟨rfl,bthen hb0 hb1⟩
   go_wp2
   go_ret
   exact HF
theorem within_any c a b w:Calls Tryz.prog 147 #[.int .i32 c,.int .i32 a,.int .i32 b] w fun e w'=>e=.returned (.bool (decide (a≤c∧c≤b)))∧w'=w:=by
 by_cases h1:a≤c
 ·by_cases h2:c≤b
  ·rw [decide_eq_true ⟨h1,h2⟩]
   go_enter Tryz.func147,Tryz.ntmps147
   go_wp2
   go_ret
   exact ⟨rfl,rfl⟩
  ·rw [decide_eq_false (fun h=>h2 h.2)]
   go_enter Tryz.func147,Tryz.ntmps147
   go_wp2
   go_ret
   exact ⟨rfl,rfl⟩
 ·rw [decide_eq_false (fun h=>h1 h.1)]
  go_enter Tryz.func147,Tryz.ntmps147
  go_wp2
  go_ret
  exact ⟨rfl,rfl⟩
theorem isSyl_any c w:Calls Tryz.prog 145 #[.int .i32 c] w fun e w'=>e=.returned (.bool (Cn.syl c))∧w'=w:=by
 have K:=Hd (within_any c 44032 55203 w)
 have e1:decide (44032≤c∧c≤55203)=Cn.syl c:=rfl
 rw [e1] at K
 go_enter Tryz.func145,Tryz.ntmps145
 go_wp2_with fail
 refine (Uh K).mono ?_
 rintro e w1 ⟨rfl,hw1⟩
 subst w1
 go_wp2
 go_ret
 exact ⟨rfl,rfl⟩
theorem tail_any c w (h:44032≤c∧c≤55203):Calls Tryz.prog 146 #[.int .i32 c] w fun e w'=>e=.returned (.int .i32 ((c - 44032) % 28))∧w'=w:=by
 obtain ⟨h1,h2⟩:=h
 have e1:(c - 44032).tmod 28=(c - 44032) % 28:=Int.tmod_eq_emod_of_nonneg (by omega)
 go_enter Tryz.func146,Tryz.ntmps146
 go_wp2
 go_ret
 exact ⟨rfl,rfl⟩
def sylA (c:Int):Int:=if (c - 44032) % 28=0 then 4352+(c - 44032) / 588 else c - (c - 44032) % 28
def sylB (c:Int):Int:=if (c - 44032) % 28=0 then 4449+(c - 44032) / 28 % 21 else 4519+(c - 44032) % 28
theorem syl_opn {rs c} (hs:Cn.syl c=true):Cn.opn rs c=[sylA c,sylB c]:=by
 unfold Cn.opn sylA sylB
 rw [if_pos hs]
 split <;> rfl
theorem syl_fit {c} (h:44032≤c∧c≤55203):(0≤sylA c∧sylA c≤100000)∧0≤sylB c∧sylB c≤100000:=by
 unfold sylA sylB
 split <;> omega
theorem openSyl_any c w (h:44032≤c∧c≤55203):Calls Tryz.prog 163 #[.int .i32 c] w fun e w'=>e=.returned (.tuple #[.int .i32 (sylA c),.int .i32 (sylB c)])∧w'=w:=by
 have K:=Hd (tail_any c w h)
 obtain ⟨h1,h2⟩:=h
 by_cases h28:(c - 44032) % 28=0
 ·have eA:sylA c=4352+(c - 44032) / 28 / 21:=by unfold sylA; rw [if_pos h28]; omega
  have eB:sylB c=4449+(c - 44032) / 28 % 21:=by unfold sylB; rw [if_pos h28]
  rw [eA,eB]
  rw [h28] at K
  have e3:(c - 44032).tdiv 28=(c - 44032) / 28:=Int.tdiv_eq_ediv_of_nonneg (by omega)
  have e4:((c - 44032) / 28).tmod 21=(c - 44032) / 28 % 21:=Int.tmod_eq_emod_of_nonneg (by omega)
  have e5:((c - 44032) / 28).tdiv 21=(c - 44032) / 28 / 21:=Int.tdiv_eq_ediv_of_nonneg (by omega)
  go_enter Tryz.func163,Tryz.ntmps163
  go_wp2_with fail
  refine (Uh K).mono ?_
  rintro e w1 ⟨rfl,hw1⟩
  subst w1
  go_wp2
  go_ret2
  exact ⟨rfl,rfl⟩
 ·have eA:sylA c=c - (c - 44032) % 28:=by unfold sylA; rw [if_neg h28]
  have eB:sylB c=4519+(c - 44032) % 28:=by unfold sylB; rw [if_neg h28]
  rw [eA,eB]
  have g1:0<(c - 44032) % 28:=by omega
  have g2:(c - 44032) % 28<28:=by omega
  go_enter Tryz.func163,Tryz.ntmps163
  go_wp2_with fail
  refine (Uh K).mono ?_
  rintro e w1 ⟨rfl,hw1⟩
  subst w1
  go_wp2
  go_ret2
  exact ⟨rfl,rfl⟩
theorem fam7:Cn.fam 7=3:=by decide
theorem fam6:Cn.fam 6=2:=by decide
theorem findOpen_any v rs c w (hg:Glob w) (hv:Rcs w v rs) (hc:Rune c):Calls Tryz.prog 164 #[v,.int .i32 c] w (IntB w (Cn.find rs 3 c)):=by
 have K0:=Hd (family_any 7 w hg (by unfold I64; omega))
 rw [fam7] at K0
 have K:=Hd (fun W (hb:Below w.heap.size w W)=>find_any v rs 3 c W (hg.on hb) (hv.below hb) (by unfold I64; omega) hc)
 generalize Cn.find rs 3 c=r at *
 obtain ⟨ao,cap,rfl,_,_⟩:=hv.shape
 go_enter Tryz.func164,Tryz.ntmps164
 go_wp2_with fail
 refine (Uh K0).mono ?_
 rintro e w1 ⟨rfl,hb1⟩
 have K2:=Hd ((Uh K) w1 hb1)
 go_wp2_with fail
 refine (Uh K2).mono ?_
 rintro e w2 ⟨rfl,hb2⟩
 have HF:IntB w r (.returned (.int .i64 r)) w2:=⟨rfl,bthen hb1 hb2⟩
 go_wp2
 go_ret
 exact HF
theorem classC:ClassC:=by
 intro v rs c w hg hv hc
 have K0:=Hd (family_any 6 w hg (by unfold I64; omega))
 rw [fam6] at K0
 have K:=Hd (fun W (hb:Below w.heap.size w W)=>find_any v rs 2 c W (hg.on hb) (hv.below hb) (by unfold I64; omega) hc)
 obtain ⟨c0,c1⟩:=hc
 rcases hit_at hv 2 c with ⟨h1,h2⟩ | ⟨k,b,off,cap,h1,hkl,h2,rfl,hl,hm,hr,hf⟩
 ·have hcl:Cn.cls rs c=0:=by unfold Cn.cls; rw [h2]
  rw [hcl]
  rw [h1] at K
  obtain ⟨ao,cap,rfl,_,_⟩:=hv.shape
  go_enter Tryz.func180,Tryz.ntmps180
  go_wp2_with fail
  refine (Uh K0).mono ?_
  rintro e w1 ⟨rfl,hb1⟩
  have K2:=Hd ((Uh K) w1 hb1)
  go_wp2_with fail
  refine (Uh K2).mono ?_
  rintro e w2 ⟨rfl,hb2⟩
  have HF:IntB w 0 (.returned (.int .i64 0)) w2:=⟨rfl,bthen hb1 hb2⟩
  go_wp2
  go_ret
  exact HF
 ·have hcl:Cn.cls rs c=(rs.getD k Cn.none).n:=by unfold Cn.cls; rw [h2]
  rw [hcl]
  rw [h1] at K
  have HR:=Hd hr
  have hlen:=hv.1
  generalize rs.getD k Cn.none=r at *
  go_enter Tryz.func180,Tryz.ntmps180
  go_wp2_with fail
  refine (Uh K0).mono ?_
  rintro e w1 ⟨rfl,hb1⟩
  have K2:=Hd ((Uh K) w1 hb1)
  go_wp2_with fail
  refine (Uh K2).mono ?_
  rintro e w2 ⟨rfl,hb2⟩
  have x3:=((Uh HR).below (bthen hb1 hb2)).n
  have HF:IntB w r.n (.returned (.int .i64 r.n)) w2:=⟨rfl,bthen hb1 hb2⟩
  go_wp2
  go_ret
  exact HF
def OpB (w0 w:World) (zs:List Int) (e:Ending) (w':World):Prop:=∃ v,e=.returned v∧(Sk .i32 w0 v zs∨Ok .i32 21 w' w.heap.size v zs)∧Below w.heap.size w w'
set_option maxHeartbeats 1000000 in
theorem opened_any v rs c w0 w (hg:Glob w) (hv:Rcs w0 v rs) (hw:Below w0.heap.size w0 w) (hc:Rune c):Calls Tryz.prog 137 #[v,.int .i32 c] w (OpB w0 w (Cn.opn rs c)):=by
 have K0:=Hd (isSyl_any c w)
 by_cases hs:Cn.syl c=true
 ·have hs2:44032≤c∧c≤55203:=by unfold Cn.syl at hs; simpa using hs
  rw [hs] at K0
  rw [syl_opn hs]
  obtain ⟨⟨fa0,fa1⟩,fb0,fb1⟩:=syl_fit hs2
  have K1:=Hd (openSyl_any c w hs2)
  obtain ⟨ao,cap,rfl,_,_⟩:=hv.shape
  have HF:OpB w0 w [sylA c,sylB c] (.returned (.slice (some ⟨w.heap.size,0,none⟩) 2 2)) (w.alloc (.cells #[.int .i32 (sylA c),.int .i32 (sylB c)] 21)) :=
   ⟨_,rfl,.inr (ok_two w _ _ (by omega) (by omega)),(Below.refl _ _).alloc (Nat.le_refl _) _⟩
  go_enter Tryz.func137,Tryz.ntmps137
  go_wp2_with fail
  refine (Uh K0).mono ?_
  rintro e w1 ⟨rfl,hw1⟩
  subst w1
  go_wp2_with fail
  refine (Uh K1).mono ?_
  rintro e w1 ⟨rfl,hw1⟩
  subst w1
  go_wp2
  go_ret
  exact HF
 ·have hs2:Cn.syl c=false:=by simpa using hs
  rw [hs2] at K0
  have K:=Hd (findOpen_any v rs c w hg (hv.below hw) hc)
  rcases hit_at hv 3 c with ⟨h1,h2⟩ | ⟨k,b,off,cap,h1,hkl,h2,rfl,hl,hm,hr,hf⟩
  ·have ho:Cn.opn rs c=[]:=by unfold Cn.opn; rw [if_neg hs,h2]
   rw [ho]
   rw [h1] at K
   obtain ⟨ao,cap,rfl,_,_⟩:=hv.shape
   go_enter Tryz.func137,Tryz.ntmps137
   go_wp2_with fail
   refine (Uh K0).mono ?_
   rintro e w1 ⟨rfl,hw1⟩
   subst w1
   go_wp2_with fail
   refine (Uh K).mono ?_
   rintro e w1 ⟨rfl,hb⟩
   have HF:OpB w0 w [] (.returned (.slice none 0 0)) w1:=⟨_,rfl,.inr (Ok.nil _ _ _ _),hb⟩
   go_wp2
   go_ret
   exact HF
  ·have ho:Cn.opn rs c=(rs.getD k Cn.none).to:=by unfold Cn.opn; rw [if_neg hs,h2]
   rw [ho]
   rw [h1] at K
   have hlen:=hv.1
   obtain ⟨vt,x4,hsk⟩:=hr.to
   have x4w:w.cell? ⟨b,off+k * 8+4,none⟩=some vt:=by rw [hw.cell (lt_of_cell? x4)]; exact x4
   have HX:Hid (∀ W,Below w.heap.size w W→W.cell? ⟨b,off+k * 8+4,none⟩=some vt):=fun W hb=>by rw [hb.cell (lt_of_cell? x4w)]; exact x4w
   have HS:=Hd hsk
   generalize (rs.getD k Cn.none).to=zs at *
   go_enter Tryz.func137,Tryz.ntmps137
   go_wp2_with fail
   refine (Uh K0).mono ?_
   rintro e w1 ⟨rfl,hw1⟩
   subst w1
   go_wp2_with fail
   refine (Uh K).mono ?_
   rintro e w1 ⟨rfl,hb⟩
   have x4:=(Uh HX) w1 hb
   have HF:OpB w0 w zs (.returned vt) w1:=⟨_,rfl,.inl (Uh HS),hb⟩
   go_wp2
   go_ret
   exact HF
theorem row_empty (w:World):(w.alloc (.cells #[] 21)).ownsRow w.heap.size 21 1 (.slice (some ⟨w.heap.size,0,none⟩) 0 0) 0 []:=by
 refine ⟨rfl,.inr ⟨w.heap.size,0,#[],rfl,Nat.le_refl _,?_,Nat.le_refl _,by unfold maxLen; omega,rfl,rfl⟩⟩
 show (w.heap.push _)[w.heap.size]?=_
 simp
theorem nil_no ad n cap w:(binOp BinOp.eql 23 (.slice (some ad) n cap) (.slice none 0 0)).run Tryz.prog w=.ok (.bool false) w:=by kernel_rfl
theorem nil_yes w:(binOp BinOp.eql 23 (.slice none 0 0) (.slice none 0 0)).run Tryz.prog w=.ok (.bool true) w:=by kernel_rfl
set_option maxRecDepth 8000 in
set_option maxHeartbeats 1000000 in
theorem clone_any v zs w (hv:Sk .i32 w v zs) (hl:zs.length≤1000000000):Calls Tryz.prog 83 #[v] w (RunesNew w zs):=by
 obtain ⟨i0,hi,hz0,hz1,hz2⟩:=info_parts Tryz.info21
 have hfit:=hv.1
 have hml:(zs.map (Value.int .i32)).length=zs.length:=List.length_map _
 rcases hv.2.src with ⟨hnil,rfl⟩ | ⟨ad,tcap,rfl,hsrc⟩
 ·obtain rfl:zs=[]:=by simpa using hnil
  have HF:RunesNew w [] (.returned (.slice none 0 0)) w:=⟨_,rfl,Ok.nil _ _ _ _,Below.refl _ _⟩
  have hq:=nil_yes
  go_enter Tryz.func83,Tryz.ntmps83
  go_wp2
  go_ret
  exact HF
 ·have HE:=Hd (row_empty w)
  rw [hml]
  have hsrc2:∀ j u,(zs.map (Value.int .i32))[j]?=some u→(w.alloc (.cells #[] 21)).cell? (ad.add j)=some u:=by
   intro j u hj
   have h:=hsrc j u hj
   have hlt:(ad.add j).block<w.heap.size:=World.block_lt_of_cell? w _ h
   exact (Below.cell ((Below.refl w.heap.size w).alloc (Nat.le_refl _) _) hlt).trans h
  have HB:Below w.heap.size w (w.alloc (.cells #[] 21)):=(Below.refl _ _).alloc (Nat.le_refl _) _
  have hq:=nil_no
  go_enter Tryz.func83,Tryz.ntmps83
  go_wp2_with (at_builtin; refine wpList_append_own _ rfl (.tmp 5) (.tmp 6) 23 rfl w.heap.size 21 i0 (.int .i32 0) 1 4 Tryz.underlying23 hi hz0 hz1 hz2 rfl (by decide) _ _ _ rfl (Uh HE) ad zs.length tcap (zs.map (Value.int .i32)) rfl (by simp) hsrc2 (fun u hu=>by obtain ⟨z,_,rfl⟩:=List.mem_map.1 hu; rfl) (by unfold maxLen; omega) (by omega) (by simp) ?_)
  intro v9 w9 hrow9 hg9 _
  have hb9:Below w.heap.size w w9:=HB.grown hg9 HB.size (fun k hk=>by simp [Value.ownBlock] at hk; omega)
  have HF:RunesNew w zs (.returned v9) w9:=⟨v9,rfl,Ok.of hfit (by omega) hrow9 (by simp) (by simp),hb9⟩
  go_wp2
  go_ret
  exact HF
theorem copn_len {w v rs} (hv:Rcs w v rs) c:(Cn.opn rs c).length≤1000000000:=by
 unfold Cn.opn
 split
 ·split <;> simp
 ·rcases hit_at hv 3 c with ⟨_,h2⟩ | ⟨k,b,off,cap,h1,hkl,h2,_,_,_,_,hf⟩
  ·rw [h2]; simp
  ·rw [h2]; exact hf.len
theorem openC:OpenC:=by
 intro v rs c w hg hv hc
 have K:=Hd (opened_any v rs c w w hg hv (Below.refl _ _) hc)
 have hl:=copn_len hv c
 obtain ⟨ao,cap,rfl,_,_⟩:=hv.shape
 generalize Cn.opn rs c=zs at *
 go_enter Tryz.func101,Tryz.ntmps101
 go_wp2_with fail
 refine (Uh K).mono ?_
 rintro e w1 ⟨v1,rfl,hk,hb1⟩
 have hs:Sk .i32 w1 v1 zs:=by
  rcases hk with h | h
  ·exact h.below hb1
  ·exact h.sk
 have K2:=Hd (clone_any v1 zs w1 hs hl)
 go_wp2_with fail
 refine (Uh K2).mono ?_
 rintro e w2 ⟨v2,rfl,hk2,hb2⟩
 have HF:RunesNew w zs (.returned v2) w2:=⟨v2,rfl,hk2.lower hb1.size,bthen hb1 hb2⟩
 go_wp2
 go_ret
 exact HF
set_option maxHeartbeats 2000000 in
theorem primC:PrimC:=by
 intro v rs c w hg hv hc
 have K0:=Hd (isSyl_any c w)
 by_cases hs:Cn.syl c=true
 ·have hs2:44032≤c∧c≤55203:=by unfold Cn.syl at hs; simpa using hs
  rw [hs] at K0
  have hp:Cn.prim rs c=some (sylA c,sylB c):=by unfold Cn.prim; rw [if_pos hs,syl_opn hs]; rfl
  rw [hp]
  have K1:=Hd (openSyl_any c w hs2)
  obtain ⟨ao,cap,rfl,_,_⟩:=hv.shape
  have HF:PairB w (some (sylA c,sylB c)) (.returned (.tuple #[.int .i32 (sylA c),.int .i32 (sylB c),.bool true])) w:=⟨rfl,Below.refl _ _⟩
  go_enter Tryz.func181,Tryz.ntmps181
  go_wp2_with fail
  refine (Uh K0).mono ?_
  rintro e w1 ⟨rfl,hw1⟩
  subst w1
  go_wp2_with fail
  refine (Uh K1).mono ?_
  rintro e w1 ⟨rfl,hw1⟩
  subst w1
  go_wp2
  go_ret3
  exact HF
 ·have hs2:Cn.syl c=false:=by simpa using hs
  rw [hs2] at K0
  have K:=Hd (findOpen_any v rs c w hg hv hc)
  rcases hit_at hv 3 c with ⟨h1,h2⟩ | ⟨k,b,off,cap,h1,hkl,h2,rfl,hl,hm,hr,hf⟩
  ·have ho:Cn.prim rs c=none:=by unfold Cn.prim; rw [if_neg hs,h2]
   rw [ho]
   rw [h1] at K
   obtain ⟨ao,cap,rfl,_,_⟩:=hv.shape
   go_enter Tryz.func181,Tryz.ntmps181
   go_wp2_with fail
   refine (Uh K0).mono ?_
   rintro e w1 ⟨rfl,hw1⟩
   subst w1
   go_wp2_with fail
   refine (Uh K).mono ?_
   rintro e w1 ⟨rfl,hb⟩
   have HN:PairB w none (.returned (.tuple #[.int .i32 0,.int .i32 0,.bool false])) w1:=⟨rfl,hb⟩
   go_wp2
   go_ret3
   exact HN
  ·have HP1:Hid ((rs.getD k Cn.none).kind=7→(rs.getD k Cn.none).to.length=2→Cn.prim rs c=some ((rs.getD k Cn.none).to.getD 0 0,(rs.getD k Cn.none).to.getD 1 0)):=fun a b=>by
    unfold Cn.prim; rw [if_neg hs,h2]; simp only; rw [if_pos ⟨a,b⟩]
   have HP2:Hid (¬ ((rs.getD k Cn.none).kind=7∧(rs.getD k Cn.none).to.length=2)→Cn.prim rs c=none):=fun a=>by
    unfold Cn.prim; rw [if_neg hs,h2]; simp only; rw [if_neg a]
   rw [h1] at K
   have HR:=Hd hr
   have hlen:=hv.1
   generalize rs.getD k Cn.none=r at *
   generalize Cn.prim rs c=pr at *
   go_enter Tryz.func181,Tryz.ntmps181
   go_wp2_with fail
   refine (Uh K0).mono ?_
   rintro e w1 ⟨rfl,hw1⟩
   subst w1
   go_wp2_with fail
   refine (Uh K).mono ?_
   rintro e w1 ⟨rfl,hb⟩
   have hrec:=(Uh HR).below hb
   obtain ⟨vt,x4,hsk⟩:=hrec.to
   have x0:=hrec.kind
   generalize r.to=zs at *
   generalize r.kind=kd at *
   obtain ⟨tao,tcap,rfl,ht1,ht2⟩:=hsk.shape
   have HN:PairB w none (.returned (.tuple #[.int .i32 0,.int .i32 0,.bool false])) w1:=⟨rfl,hb⟩
   by_cases h7:kd=7
   ·subst h7
    by_cases hz2:zs.length=2
    ·obtain rfl:=(Uh HP1) rfl hz2
     obtain ⟨tb,toff,tcap',he,_,_,htc⟩:=hsk.place (by omega)
     obtain ⟨rfl,rfl⟩:tao=some ⟨tb,toff,none⟩∧tcap=tcap':=by simpa using he
     have y0:=htc 0 (by omega)
     have y1:=htc 1 (by omega)
     rw [Nat.add_zero] at y0
     rw [hz2] at x4 ht1
     generalize zs.getD 0 0=p at *
     generalize zs.getD 1 0=q at *
     have HF:∀ n,PairB w (some (p,q)) (.returned (.tuple #[.int .i32 p,.int .i32 q,.bool true])) (w1.drewN n):=fun n=>⟨rfl,bthen hb (drewB ⟨n,rfl⟩)⟩
     clear hb htc he hsk HN hz2
     go_wp2
     go_big_quiet (fail)
     go_wp2
     go_ret3
     exact HF _
    ·obtain rfl:=(Uh HP2) (fun h=>hz2 h.2)
     have q2:((zs.length:Int) != 2)=true:=by simp; omega
     go_wp2
     go_ret3
     exact HN
   ·obtain rfl:=(Uh HP2) (fun h=>h7 h.1)
    have q7:(kd != 7)=true:=by simp [h7]
    go_wp2
    go_ret3
    exact HN
set_option maxHeartbeats 1000000 in
theorem index_any v zs c w (hv:Sk .i32 w v zs) (hl:zs.length≤1000000000):Calls Tryz.prog 210 #[v,.int .i32 c] w (fun e w'=>∃ n:Int,e=.returned (.int .i64 n)∧(0≤n↔c∈zs)∧w'=w):=by
 rcases Nat.eq_zero_or_pos zs.length with h0 | h0
 ·obtain ⟨ao,cap,rfl,_,_⟩:=hv.shape
  obtain rfl:zs=[]:=List.eq_nil_of_length_eq_zero h0
  go_enter Tryz.func210,Tryz.ntmps210
  go_wp2
  refine wp_loop_rounds 1 ?_
  rw [rounds_succ]
  go_wp2
  go_ret
  exact ⟨-1,rfl,by simp,rfl⟩
 ·obtain ⟨b,off,cap,rfl,hc1,hc2,hc⟩:=hv.place h0
  have HC:=Hd hc
  clear hv hc
  go_enter Tryz.func210,Tryz.ntmps210
  go_wp2
  go_loopw [5,8] (fun _ i wr=>∃ k:Nat,i=.int .i64 k∧k≤zs.length∧wr=w∧Hid (∀ j,j<k→zs.getD j 0≠c)) (fun _ i _=>zs.length - (intOf i).toNat)
  case atStart=>exact ⟨0,rfl,by omega,rfl,fun j hj=>by omega⟩
  case round =>
   obtain ⟨k,rfl,hk,rfl,hno⟩:=hrel
   by_cases hlt:k<zs.length
   ·have a0:=(Uh HC) k hlt
    by_cases he:zs.getD k 0=c
    ·have HM:Hid (c∈zs):=by
      show c∈zs
      rw [← he]; simp [List.getD,hlt]
     rw [he] at a0
     have hcc:(c==c)=true:=by simp
     go_wp2
     go_ret
     exact ⟨k,rfl,⟨fun _=>Uh HM,fun _=>by omega⟩,rfl⟩
    ·have hcc:(c==zs.getD k 0)=false:=by
      rw [beq_eq_false_iff_ne]; exact fun e=>he e.symm
     have HN:Hid (∀ j,j<k+1→zs.getD j 0≠c):=fun j hj=>by
      rcases Nat.lt_or_ge j k with h | h
      ·exact (Uh hno) j h
      ·grind
     generalize zs.getD k 0=t at a0 hcc
     go_wp2
     go_roundw
     case rel=>exact ⟨k+1,by go_num,by omega,by first | rfl | trivial,HN⟩
     case measure=>simp [intOf]; omega
   ·have HM:Hid (¬ c∈zs):=fun hm=>by
     obtain ⟨j,hj,e⟩:=List.getElem_of_mem hm
     exact (Uh hno) j (by omega) (by simp [List.getD,hj,e])
    go_wp2
    go_ret
    exact ⟨-1,rfl,⟨fun h=>by omega,fun h=>absurd h (Uh HM)⟩,rfl⟩
theorem contains_any v zs c w (hv:Sk .i32 w v zs) (hl:zs.length≤1000000000):Calls Tryz.prog 194 #[v,.int .i32 c] w (fun e w'=>e=.returned (.bool (decide (c∈zs)))∧w'=w):=by
 have K:=Hd (index_any v zs c w hv hl)
 obtain ⟨ao,cap,rfl,_,_⟩:=hv.shape
 have HT:Hid (c∈zs→decide (c∈zs)=true):=fun h=>decide_eq_true h
 have HN:Hid (¬ c∈zs→decide (c∈zs)=false):=fun h=>decide_eq_false h
 generalize decide (c∈zs)=b at *
 go_enter Tryz.func194,Tryz.ntmps194
 go_wp2_with fail
 refine (Uh K).mono ?_
 rintro e w1 ⟨n,rfl,hn,hw1⟩
 subst w1
 by_cases h:0≤n
 ·obtain rfl:=(Uh HT) (hn.1 h)
  clear hn HT HN
  go_wp2
  go_ret
  exact ⟨rfl,rfl⟩
 ·obtain rfl:=(Uh HN) (fun hm=>h (hn.2 hm))
  have hd:decide (0≤n)=false:=decide_eq_false h
  clear hn HT HN
  go_wp2
  go_ret
  exact ⟨rfl,rfl⟩
structure Wk (b0:Nat) (W:World) (p:Nat) (fv:Value) (way ends:List Int) (wv ev:Value):Prop where
 blk:W.heap[p]?=some (.cells #[fv,wv,ev] 240 (0,0))
 own:b0≤p
 w:Ok .i32 21 W b0 wv way
 e:Ok .i32 21 W b0 ev ends
 ap:∀ g,wv.ownBlock=some g→ev.ownBlock≠some g
structure Frm (W W':World) (p:Nat) (wv ev:Value):Prop where
 os:W'.os=W.os
 tape:W'.tape=W.tape
 output:W'.output=W.output
 size:W.heap.size≤W'.heap.size
 keep:∀ g,g<W.heap.size→g≠p→wv.ownBlock≠some g→ev.ownBlock≠some g→W'.heap[g]?=W.heap[g]?
def NewOr (W:World) (v v':Value):Prop:=∀ g,v'.ownBlock=some g→v.ownBlock=some g∨W.heap.size≤g
theorem NewOr.refl W v:NewOr W v v:=fun _ h=>.inl h
theorem NewOr.trans {W W1 a b c} (h:NewOr W a b) (k:NewOr W1 b c) (hs:W.heap.size≤W1.heap.size):NewOr W a c:=fun g hg=>by
 rcases k g hg with h1 | h1
 ·exact h g h1
 ·exact .inr (by omega)
theorem NewOr.trans_left {W W1 a b} (h:NewOr W1 a b) (hs:W.heap.size≤W1.heap.size):NewOr W a b:=(NewOr.refl W a).trans h hs
theorem ok_tag {w B v zs} (h:Ok .i32 21 w B v zs) {g} (hg:v.ownBlock=some g):∃ cur,w.heap[g]?=some (.cells cur 21 (0,0)):=by
 rcases h.2.2.2 with ⟨rfl,_⟩ | ⟨k,cap,cur,rfl,_,hh,_⟩
 ·cases hg
 ·simp [Value.ownBlock] at hg
  subst hg
  exact ⟨cur,hh⟩
theorem Wk.pw {b0 W p fv} {way ends wv ev} (h:Wk b0 W p fv way ends wv ev):wv.ownBlock≠some p∧ev.ownBlock≠some p:=by
 refine ⟨fun e=>?_,fun e=>?_⟩
 ·obtain ⟨cur,hc⟩:=ok_tag h.w e
  rw [h.blk] at hc; simp at hc
 ·obtain ⟨cur,hc⟩:=ok_tag h.e e
  rw [h.blk] at hc; simp at hc
theorem Wk.lt {b0 W p fv} {way ends wv ev} (h:Wk b0 W p fv way ends wv ev):p<W.heap.size:=by
 have:=h.blk
 rcases Nat.lt_or_ge p W.heap.size with h1 | h1
 ·exact h1
 ·grind
theorem Wk.below {b0 W W' p fv} {way ends wv ev} (h:Wk b0 W p fv way ends wv ev) (hb:Below W.heap.size W W'):Wk b0 W' p fv way ends wv ev :=
 ⟨by rw [hb.block p h.lt]; exact h.blk,h.own,h.w.below hb,h.e.below hb,h.ap⟩
theorem Frm.below {b0 W W' p fv} {way ends wv ev} (h:Wk b0 W p fv way ends wv ev) (hf:Frm W W' p wv ev) (hs:b0≤W.heap.size):Below b0 W W' :=
 ⟨hf.os,hf.tape,hf.output,hf.size,fun k hk=>hf.keep k (by omega) (by have:=h.own; omega) (fun e=>by have:=(h.w.2.2.lt k e).1; omega) (fun e=>by have:=(h.e.2.2.lt k e).1; omega)⟩
theorem Frm.of_below {W W' p wv ev} (hb:Below W.heap.size W W'):Frm W W' p wv ev:=⟨hb.os,hb.tape,hb.output,hb.size,fun g hg _ _ _=>hb.block g hg⟩
theorem Frm.trans {W W1 W2 p wv ev wv1 ev1} (h:Frm W W1 p wv ev) (k:Frm W1 W2 p wv1 ev1) (hw:NewOr W wv wv1) (he:NewOr W ev ev1):Frm W W2 p wv ev:=by
 refine ⟨k.os.trans h.os,k.tape.trans h.tape,k.output.trans h.output,Nat.le_trans h.size k.size,fun g hg h1 h2 h3=>?_⟩
 rw [k.keep g (by have:=h.size; omega) h1 (fun e=>?_) (fun e=>?_),h.keep g hg h1 h2 h3]
 ·rcases hw g e with h4 | h4
  ·exact h2 h4
  ·omega
 ·rcases he g e with h4 | h4
  ·exact h3 h4
  ·omega
theorem Wk.taken {b0 W w1 p fv} {way ends wv ev v' o c} (h:Wk b0 W p fv way ends wv ev) (hl:ends.length≤40) (hc:Rune c)
  (hown:w1.ownsRow b0 21 1 v' (ends.length+1) (ends.map (Value.int .i32)++[.int .i32 c])) (hg:(W.alloc o).grownBy w1 ev.ownBlock) (hat:v'.ownBlock=ev.ownBlock∨v'.ownBlock=some (W.heap.size+1)) :
  w1.heap[p]?=some (.cells #[fv,wv,ev] 240 (0,0))∧Wk b0 (w1.setCell ⟨p,2,none⟩ v') p fv way (ends++[c]) wv v'∧Frm W (w1.setCell ⟨p,2,none⟩ v') p wv ev∧NewOr W ev v':=by
 have hp:=h.lt
 obtain ⟨hpw,hpe⟩:=h.pw
 have kA:∀ g,g<W.heap.size→(W.alloc o).heap[g]?=W.heap[g]?:=fun g hg=>((Below.refl W.heap.size W).alloc (Nat.le_refl _) _).block g hg
 have k1:∀ g,g<W.heap.size→ev.ownBlock≠some g→w1.heap[g]?=W.heap[g]?:=fun g h1 h2=>by
  rw [hg.block g (by simp; omega) (fun e=>h2 e.symm),kA g h1]
 have hsz:W.heap.size+1≤w1.heap.size:=by simpa using hg.size
 have hb:w1.heap[p]?=some (.cells #[fv,wv,ev] 240 (0,0)):=by rw [k1 p hp hpe]; exact h.blk
 have hnew:NewOr W ev v':=fun g hg'=>by
  rcases hat with e | e
  ·exact .inl (e ▸ hg')
  ·grind
 have hok:Ok .i32 21 w1 b0 v' (ends++[c]):=by
  refine Ok.of (h.e.1.snoc (i32_fit hc)) (by simp; omega) hown (by simp) (by simp)
 have hne:∀ g,v'.ownBlock=some g→g≠p:=fun g h1 h2=>by
  subst h2
  rcases hnew g h1 with h3 | h3
  ·exact hpe h3
  ·omega
 refine ⟨hb,⟨?_,h.own,?_,?_,?_⟩,?_,hnew⟩
 ·rw [set_block hb]
  rfl
 ·refine h.w.keep fun g h1=>?_
  have hlt:=(h.w.2.2.lt g h1).2
  rw [set_other _ (fun e=>by subst e; exact hpw h1),k1 g hlt (h.ap g h1)]
 ·refine hok.keep fun g h1=>?_
  rw [set_other _ (hne g h1)]
 ·intro g h1 h2
  rcases hnew g h2 with h3 | h3
  ·exact h.ap g h1 h3
  ·have:=(h.w.2.2.lt g h1).2
   omega
 ·refine ⟨?_,?_,?_,by rw [set_size]; omega,fun g h1 h2 _ h4=>by rw [set_other _ h2,k1 g h1 h4]⟩
  ·have:=(below_set (Below.refl 0 w1) (g:=p) (j:=2) (Nat.zero_le _) v').os
   rw [this,hg.os]; rfl
  ·have:=(below_set (Below.refl 0 w1) (g:=p) (j:=2) (Nat.zero_le _) v').tape
   rw [this,hg.tape]; rfl
  ·have:=(below_set (Below.refl 0 w1) (g:=p) (j:=2) (Nat.zero_le _) v').output
   rw [this,hg.output]; rfl
def Gave (n:Int) (e:Ending):Prop:=e=.panicked [{ v:=.iface 30 (.int .i64 n),recovered:=false }]
def TakeB (b0:Nat) (W:World) (p:Nat) (fv:Value) (way ends:List Int) (wv ev:Value) (c:Int) (e:Ending) (W':World):Prop :=
 (32≤ends.length∧Gave 2 e∧W'=W)∨(ends.length<32∧e=.returned (.tuple #[])∧∃ ev',Wk b0 W' p fv way (ends++[c]) wv ev'∧Frm W W' p wv ev∧NewOr W ev ev')
set_option maxRecDepth 8000 in
set_option maxHeartbeats 2000000 in
theorem take_any b0 W p fv way ends wv ev c (h:Wk b0 W p fv way ends wv ev) (hb0:b0≤W.heap.size) (hl:ends.length≤32) (hc:Rune c) :
  Calls Tryz.prog 193 #[.pointer (some ⟨p,0,none⟩),.int .i32 c] W (TakeB b0 W p fv way ends wv ev c):=by
 obtain ⟨i0,hi,hz0,hz1,hz2⟩:=info_parts Tryz.info21
 have x2:W.cell? ⟨p,2,none⟩=some ev:=cell_of (j:=2) h.blk (by show 2<3; omega)
 obtain ⟨ao,cap,rfl,_,_⟩:=h.e.sk.shape
 by_cases h32:ends.length=32
 ·have HF:TakeB b0 W p fv way ends wv (.slice ao ends.length cap) c (.panicked [{ v:=.iface 30 (.int .i64 2),recovered:=false }]) W:=.inl ⟨by omega,rfl,rfl⟩
  rw [h32] at x2 HF
  have hq:((32:Nat):Int)=32:=rfl
  go_enter Tryz.func193,Tryz.ntmps193
  go_wp2
  exact ⟨rfl,HF⟩
 ·have hq:((ends.length:Int)==32)=false:=by rw [beq_eq_false_iff_ne]; omega
  have hrow:∀ o,(W.alloc o).ownsRow b0 21 1 (.slice ao ends.length cap) ends.length (ends.map (Value.int .i32)):=fun o=>h.e.row.alloc o
  have HROW:=Hd hrow
  have HT:=Hd (fun o v' w1 a b c'=>h.taken (o:=o) (v':=v') (w1:=w1) (by omega) hc a b c')
  have hlt2:ends.length<32:=by omega
  go_enter Tryz.func193,Tryz.ntmps193
  go_wp2_with (at_builtin; refine wpList_append_own_at _ rfl (.tmp 15) (.tmp 17) 23 rfl b0 21 i0 (.int .i32 0) 1 4 Tryz.underlying23 hi hz0 hz1 hz2 rfl (by decide) _ _ _ rfl ((Uh HROW) _) ⟨W.heap.size,0,none⟩ 1 1 [.int .i32 c] rfl rfl (cell_one_new _ _ _) (int_one _ _) (by unfold maxLen; omega) (by omega) (by simp; omega) ?_)
  intro v' w1 hrow1 hg1 _ hat1
  obtain ⟨hb1,hw1,hf1,hn1⟩:=(Uh HT) _ v' w1 hrow1 hg1 hat1
  obtain ⟨ao',cap',rfl,_,_⟩:=hw1.e.sk.shape
  have y2:w1.cell? ⟨p,2,none⟩=some (.slice ao ends.length cap):=cell_of (j:=2) hb1 (by show 2<3; omega)
  have yf:=frozen_of (j:=2) hb1
  have HF:TakeB b0 W p fv way ends wv (.slice ao ends.length cap) c (.returned (.tuple #[])) (w1.setCell ⟨p,2,none⟩ (.slice ao' (ends++[c]).length cap')):=.inr ⟨hlt2,rfl,_,hw1,hf1,hn1⟩
  generalize (ends++[c]).length=m at *
  go_wp2
  go_end0
  exact HF
def Opens (g:Nat) (fa cb:Array Value) (rs:List Rec) (w0:World):Prop:=∀ (c:Int) (W:World),Below w0.heap.size w0 W→Rune c→Calls Tryz.prog g (fa++#[.int .i32 c]++cb) W (OpB w0 W (Cn.opn rs c))
def DownB (b0:Nat) (W:World) (p:Nat) (fv:Value) (way:List Int) (wv ev:Value) (r:List Int × Int) (e:Ending) (W':World):Prop :=
 Frm W W' p wv ev∧((r.2≠0∧Gave r.2 e)∨(r.2=0∧e=.returned (.tuple #[])∧∃ wv' ev',Wk b0 W' p fv way r.1 wv' ev'∧NewOr W wv wv'∧NewOr W ev ev'))
theorem Wk.down {b0 W w1 p fv} {way ends wv ev v' o c} (h:Wk b0 W p fv way ends wv ev) (hl:way.length≤40) (hc:Rune c)
  (hown:w1.ownsRow b0 21 1 v' (way.length+1) (way.map (Value.int .i32)++[.int .i32 c])) (hg:(W.alloc o).grownBy w1 wv.ownBlock) (hat:v'.ownBlock=wv.ownBlock∨v'.ownBlock=some (W.heap.size+1)) :
  w1.heap[p]?=some (.cells #[fv,wv,ev] 240 (0,0))∧Wk b0 (w1.setCell ⟨p,1,none⟩ v') p fv (way++[c]) ends v' ev∧Frm W (w1.setCell ⟨p,1,none⟩ v') p wv ev∧NewOr W wv v':=by
 have hp:=h.lt
 obtain ⟨hpw,hpe⟩:=h.pw
 have kA:∀ g,g<W.heap.size→(W.alloc o).heap[g]?=W.heap[g]?:=fun g hg=>((Below.refl W.heap.size W).alloc (Nat.le_refl _) _).block g hg
 have k1:∀ g,g<W.heap.size→wv.ownBlock≠some g→w1.heap[g]?=W.heap[g]?:=fun g h1 h2=>by
  rw [hg.block g (by simp; omega) (fun e=>h2 e.symm),kA g h1]
 have hsz:W.heap.size+1≤w1.heap.size:=by simpa using hg.size
 have hb:w1.heap[p]?=some (.cells #[fv,wv,ev] 240 (0,0)):=by rw [k1 p hp hpw]; exact h.blk
 have hnew:NewOr W wv v':=fun g hg'=>by
  rcases hat with e | e
  ·exact .inl (e ▸ hg')
  ·grind
 have hok:Ok .i32 21 w1 b0 v' (way++[c]):=by
  refine Ok.of (h.w.1.snoc (i32_fit hc)) (by simp; omega) hown (by simp) (by simp)
 have hne:∀ g,v'.ownBlock=some g→g≠p:=fun g h1 h2=>by
  subst h2
  rcases hnew g h1 with h3 | h3
  ·exact hpw h3
  ·omega
 refine ⟨hb,⟨?_,h.own,?_,?_,?_⟩,?_,hnew⟩
 ·rw [set_block hb]
  rfl
 ·refine hok.keep fun g h1=>?_
  rw [set_other _ (hne g h1)]
 ·refine h.e.keep fun g h1=>?_
  have hlt:=(h.e.2.2.lt g h1).2
  rw [set_other _ (fun e=>by subst e; exact hpe h1),k1 g hlt (fun e=>h.ap g e h1)]
 ·intro g h1 h2
  rcases hnew g h1 with h3 | h3
  ·exact h.ap g h3 h2
  ·have:=(h.e.2.2.lt g h2).2
   omega
 ·refine ⟨?_,?_,?_,by rw [set_size]; omega,fun g h1 h2 h3 _=>by rw [set_other _ h2,k1 g h1 h3]⟩
  ·have:=(below_set (Below.refl 0 w1) (g:=p) (j:=1) (Nat.zero_le _) v').os
   rw [this,hg.os]; rfl
  ·have:=(below_set (Below.refl 0 w1) (g:=p) (j:=1) (Nat.zero_le _) v').tape
   rw [this,hg.tape]; rfl
  ·have:=(below_set (Below.refl 0 w1) (g:=p) (j:=1) (Nat.zero_le _) v').output
   rw [this,hg.output]; rfl
theorem Wk.up {b0 W p fv} {way ends ev ao len cap} {c} (h:Wk b0 W p fv (way++[c]) ends (.slice ao len cap) ev) :
  Wk b0 (W.setCell ⟨p,1,none⟩ (.slice ao way.length cap)) p fv way ends (.slice ao way.length cap) ev∧Frm W (W.setCell ⟨p,1,none⟩ (.slice ao way.length cap)) p (.slice ao len cap) ev∧NewOr W (.slice ao len cap) (.slice ao way.length cap):=by
 obtain ⟨hpw,hpe⟩:=h.pw
 have hob:∀ g,(Value.slice ao way.length cap).ownBlock=some g→(Value.slice ao len cap).ownBlock=some g:=fun g hg=>by
  cases ao with
  | none=>simp [Value.ownBlock] at hg
  | some a=>simpa [Value.ownBlock] using hg
 have hlen:len=way.length+1:=by
  obtain ⟨_,_,e,_,_⟩:=h.w.sk.shape
  simp at e
  omega
 have hok:Ok .i32 21 W b0 (.slice ao way.length cap) way:=by
  refine ⟨fun z hz=>h.w.1 z (by simp [hz]),by have:=h.w.2.1; simp at this ⊢; omega,?_⟩
  have h2:=h.w.2.2
  refine ⟨by simp,?_⟩
  rcases h2.2 with ⟨e,_⟩ | ⟨g,cap',cur,e,hg,hh,hn,hcap,hsz,htake⟩
  ·simp at e; omega
  ·simp only [Value.slice.injEq] at e
   obtain ⟨rfl,e2,rfl⟩:=e
   simp only [List.length_map] at *
   refine .inr ⟨g,cap,cur,rfl,hg,hh,by simp at hn; omega,hcap,hsz,?_⟩
   have:=congrArg (List.take (way.length * 1)) htake
   rw [List.take_take,List.map_append,List.take_append_of_le_length (by simp)] at this
   rw [List.take_of_length_le (l:=way.map (Value.int .i32)) (by simp)] at this
   simpa [Nat.min_eq_left (show way.length≤way.length+1 by omega)] using this
 refine ⟨⟨?_,h.own,?_,?_,?_⟩,?_,fun g hg=>.inl (hob g hg)⟩
 ·rw [set_block h.blk]
  rfl
 ·refine hok.keep fun g h1=>?_
  rw [set_other _ (fun e=>by subst e; exact hpw (hob _ h1))]
 ·refine h.e.keep fun g h1=>?_
  rw [set_other _ (fun e=>by subst e; exact hpe h1)]
 ·exact fun g h1=>h.ap g (hob g h1)
 ·refine ⟨?_,?_,?_,by rw [set_size]; omega,fun g h1 h2 _ _=>by rw [set_other _ h2]⟩
  ·exact (below_set (Below.refl 0 W) (g:=p) (j:=1) (Nat.zero_le _) _).os
  ·simp_all
  ·exact (below_set (Below.refl 0 W) (g:=p) (j:=1) (Nat.zero_le _) _).output
theorem Sk.frm {W W' p wv ev v zs} (h:Sk .i32 W v zs) (hf:Frm W W' p wv ev) (hn:∀ b off len cap,v=.slice (some ⟨b,off,none⟩) len cap→0<len→b≠p∧wv.ownBlock≠some b∧ev.ownBlock≠some b):Sk .i32 W' v zs:=by
 obtain ⟨h1,h2,h3⟩:=h
 refine ⟨h1,h2,?_⟩
 rcases h3 with h3 | ⟨b,off,cap,hv,hl,hm,hc⟩
 ·exact .inl h3
 ·refine .inr ⟨b,off,cap,hv,hl,hm,fun i hi=>?_⟩
  obtain ⟨a1,a2,a3⟩:=hn b off _ cap hv (by omega)
  have hlt:=lt_of_cell? (hc i hi)
  rw [World.cell?_of_block (hf.keep b hlt a1 a2 a3)]
  exact hc i hi
def DownC (g:Nat) (fa cb:Array Value) (rs:List Rec) (w0:World) (f:Nat):Prop:=∀ (way:List Int) (c:Int) (out:List Int) (W:World) (p:Nat) (wv ev:Value),way.length+f=16→out.length≤32→Rune c→Below w0.heap.size w0 W →
 Wk w0.heap.size W p (.func (.func g) fa cb) way out wv ev→Calls Tryz.prog 178 #[.pointer (some ⟨p,0,none⟩),.int .i32 c] W (DownB w0.heap.size W p (.func (.func g) fa cb) way wv ev (Cn.walk rs f way c out))
theorem OpB.apart {w0 W W1 p fv way ends} {wv ev vt zs} (h:Wk w0.heap.size W p fv way ends wv ev) (hk:Sk .i32 w0 vt zs∨Ok .i32 21 W1 W.heap.size vt zs) :
  ∀ b off len cap,vt=.slice (some ⟨b,off,none⟩) len cap→0<len→b≠p∧wv.ownBlock≠some b∧ev.ownBlock≠some b:=by
 intro b off len cap e hl
 have hp:=h.lt
 have ho:=h.own
 have hw:∀ g,wv.ownBlock=some g→w0.heap.size≤g∧g<W.heap.size:=fun g hg=>h.w.2.2.lt g hg
 have he:∀ g,ev.ownBlock=some g→w0.heap.size≤g∧g<W.heap.size:=fun g hg=>h.e.2.2.lt g hg
 have hb:b<w0.heap.size∨W.heap.size≤b:=by
  rcases hk with hk | hk
  ·left
   subst e
   have hz:0<zs.length:=by
    obtain ⟨_,_,e,_,_⟩:=hk.shape
    simp at e; omega
   obtain ⟨b',off',cap',e,_,_,hc⟩:=hk.place hz
   simp at e
   have:=lt_of_cell? (hc 0 hz)
   omega
  ·right
   exact (hk.2.2.lt b (by subst e; rfl)).1
 refine ⟨by omega,fun e=>?_,fun e=>?_⟩
 ·have:=hw b e; omega
 ·have:=he b e; omega
set_option maxRecDepth 8000 in
set_option maxHeartbeats 4000000 in
theorem down_leaf g fa cb rs w0 (hO:Opens g fa cb rs w0) (eg:∀ args w,(callFunc g args).run Tryz.prog w=.ok (.enter g args) w) way c out W p wv ev (hol:out.length≤32) (hop:Cn.opn rs c=[]) (hc:Rune c) (hW:Below w0.heap.size w0 W) (h:Wk w0.heap.size W p (.func (.func g) fa cb) way out wv ev) :
  Calls Tryz.prog 178 #[.pointer (some ⟨p,0,none⟩),.int .i32 c] W (DownB w0.heap.size W p (.func (.func g) fa cb) way wv ev (if 32≤out.length then ([],2) else (out++[c],0))):=by
 have K:=Hd (hO c W hW hc)
 have x0:W.cell? ⟨p,0,none⟩=some (.func (.func g) fa cb):=cell_of (j:=0) h.blk (by show 0<3; omega)
 rw [hop] at K
 have HT:Hid (∀ W1,Below W.heap.size W W1→Calls Tryz.prog 193 #[.pointer (some ⟨p,0,none⟩),.int .i32 c] W1 (TakeB w0.heap.size W1 p (.func (.func g) fa cb) way out wv ev c)):=fun W1 hb=>take_any _ W1 p _ way out wv ev c (h.below hb) (by have:=hW.size; have:=hb.size; omega) hol hc
 have HR1:Hid (32≤out.length→(if 32≤out.length then (([]:List Int),(2:Int)) else (out++[c],0))=([],2)):=fun h=>if_pos h
 have HR2:Hid (out.length<32→(if 32≤out.length then (([]:List Int),(2:Int)) else (out++[c],0))=(out++[c],0)):=fun h=>if_neg (by omega)
 generalize (if 32≤out.length then (([]:List Int),(2:Int)) else (out++[c],0))=r at *
 go_enter Tryz.func178,Tryz.ntmps178
 go_wp2_with fail
 refine (Uh K).mono ?_
 rintro e1 W1 ⟨vt,rfl,hk,hb1⟩
 have hs:Sk .i32 W1 vt []:=by
  rcases hk with h | h
  ·exact (h.below hW).below hb1
  ·exact h.sk
 obtain ⟨ao,cap,rfl,_,_⟩:=hs.shape
 have KT:=Hd ((Uh HT) W1 hb1)
 have F0:Hid (Frm W W1 p wv ev):=Frm.of_below hb1
 go_wp2_with fail
 refine (Uh KT).mono ?_
 rintro e2 W2 (⟨h32,rfl,rfl⟩ | ⟨h32,rfl,ev',hw2,hf2,hn2⟩)
 ·obtain rfl:=(Uh HR1) h32
  have HF:DownB w0.heap.size W p (.func (.func g) fa cb) way wv ev ([],2) (.panicked [{ v:=.iface 30 (.int .i64 2),recovered:=false }]) W2:=⟨Uh F0,.inl ⟨by decide,rfl⟩⟩
  go_wp2
  exact ⟨rfl,HF⟩
 ·obtain rfl:=(Uh HR2) h32
  have HF:DownB w0.heap.size W p (.func (.func g) fa cb) way wv ev (out++[c],0) (.returned (.tuple #[])) W2 :=
   ⟨(Uh F0).trans hf2 (NewOr.refl _ _) (NewOr.refl _ _),.inr ⟨rfl,rfl,wv,ev',hw2,NewOr.refl _ _,hn2.trans_left (Uh F0).size⟩⟩
  go_wp2
  refine bodyPost_ret (results_none rfl _ _ _) rfl ?_
  exact HF
set_option maxRecDepth 8000 in
set_option maxHeartbeats 4000000 in
theorem down_loop g fa cb rs w0 (hO:Opens g fa cb rs w0) (eg:∀ args w,(callFunc g args).run Tryz.prog w=.ok (.enter g args) w) (hlen:∀ c,(Cn.opn rs c).length≤1000000000) way c out W p wv ev (hwy:way.length≤16) (hop:Cn.opn rs c≠[]) (hin:c∈way) (hc:Rune c) (hW:Below w0.heap.size w0 W) (h:Wk w0.heap.size W p (.func (.func g) fa cb) way out wv ev) :
  Calls Tryz.prog 178 #[.pointer (some ⟨p,0,none⟩),.int .i32 c] W (DownB w0.heap.size W p (.func (.func g) fa cb) way wv ev ([],72)):=by
 have K:=Hd (hO c W hW hc)
 have x0:W.cell? ⟨p,0,none⟩=some (.func (.func g) fa cb):=cell_of (j:=0) h.blk (by show 0<3; omega)
 have hl:=hlen c
 have hne:0<(Cn.opn rs c).length:=List.length_pos_iff.2 hop
 have HA:=Hd (fun W1 vt hk=>OpB.apart (W1:=W1) (vt:=vt) (zs:=Cn.opn rs c) h hk)
 have HWK:=Hd (fun W1 (hb:Below W.heap.size W W1)=>h.below hb)
 have hwl:=h.w.sk.shape
 generalize Cn.opn rs c=zs at *
 have hq0:((zs.length:Int)==0)=false:=by grind
 go_enter Tryz.func178,Tryz.ntmps178
 go_wp2_with fail
 refine (Uh K).mono ?_
 rintro e1 W1 ⟨vt,rfl,hk,hb1⟩
 have hs:Sk .i32 W1 vt zs:=by
  rcases hk with h | h
  ·exact (h.below hW).below hb1
  ·exact h.sk
 have hap:=(Uh HA) W1 vt hk
 have h1:=(Uh HWK) W1 hb1
 have F0:Hid (Frm W W1 p wv ev):=Frm.of_below hb1
 have hW1:Below w0.heap.size w0 W1:=hW.trans (hb1.mono hW.size)
 obtain ⟨tao,tcap,rfl,_,_⟩:=hs.shape
 obtain ⟨wao,wcap,rfl,_,_⟩:=hwl
 have x1:W1.cell? ⟨p,1,none⟩=some (.slice wao way.length wcap):=cell_of (j:=1) h1.blk (by show 1<3; omega)
 have KC:=Hd (contains_any _ way c W1 h1.w.sk (by omega))
 rw [decide_eq_true hin] at KC
 have HF:DownB w0.heap.size W p (.func (.func g) fa cb) way (.slice wao way.length wcap) ev ([],72) (.panicked [{ v:=.iface 30 (.int .i64 72),recovered:=false }]) W1:=⟨Uh F0,.inl ⟨by decide,rfl⟩⟩
 go_wp2_with fail
 refine (Uh KC).mono ?_
 rintro e2 W2 ⟨rfl,hw2⟩
 subst hw2
 go_wp2
 exact ⟨rfl,HF⟩
set_option maxRecDepth 8000 in
set_option maxHeartbeats 4000000 in
theorem down_deep g fa cb rs w0 (hO:Opens g fa cb rs w0) (eg:∀ args w,(callFunc g args).run Tryz.prog w=.ok (.enter g args) w) (hlen:∀ c,(Cn.opn rs c).length≤1000000000) way c out W p wv ev (hwy:way.length=16) (hop:Cn.opn rs c≠[]) (hin:¬ c∈way) (hc:Rune c) (hW:Below w0.heap.size w0 W) (h:Wk w0.heap.size W p (.func (.func g) fa cb) way out wv ev) :
  Calls Tryz.prog 178 #[.pointer (some ⟨p,0,none⟩),.int .i32 c] W (DownB w0.heap.size W p (.func (.func g) fa cb) way wv ev ([],73)):=by
 have K:=Hd (hO c W hW hc)
 have x0:W.cell? ⟨p,0,none⟩=some (.func (.func g) fa cb):=cell_of (j:=0) h.blk (by show 0<3; omega)
 have hl:=hlen c
 have hne:0<(Cn.opn rs c).length:=List.length_pos_iff.2 hop
 have HA:=Hd (fun W1 vt hk=>OpB.apart (W1:=W1) (vt:=vt) (zs:=Cn.opn rs c) h hk)
 have HWK:=Hd (fun W1 (hb:Below W.heap.size W W1)=>h.below hb)
 have hwl:=h.w.sk.shape
 generalize Cn.opn rs c=zs at *
 have hq0:((zs.length:Int)==0)=false:=by grind
 go_enter Tryz.func178,Tryz.ntmps178
 go_wp2_with fail
 refine (Uh K).mono ?_
 rintro e1 W1 ⟨vt,rfl,hk,hb1⟩
 have hs:Sk .i32 W1 vt zs:=by
  rcases hk with h | h
  ·exact (h.below hW).below hb1
  ·exact h.sk
 have hap:=(Uh HA) W1 vt hk
 have h1:=(Uh HWK) W1 hb1
 have F0:Hid (Frm W W1 p wv ev):=Frm.of_below hb1
 have hW1:Below w0.heap.size w0 W1:=hW.trans (hb1.mono hW.size)
 obtain ⟨tao,tcap,rfl,_,_⟩:=hs.shape
 obtain ⟨wao,wcap,rfl,_,_⟩:=hwl
 have x1:W1.cell? ⟨p,1,none⟩=some (.slice wao way.length wcap):=cell_of (j:=1) h1.blk (by show 1<3; omega)
 have KC:=Hd (contains_any _ way c W1 h1.w.sk (by omega))
 rw [decide_eq_false hin] at KC
 have HF:DownB w0.heap.size W p (.func (.func g) fa cb) way (.slice wao way.length wcap) ev ([],73) (.panicked [{ v:=.iface 30 (.int .i64 73),recovered:=false }]) W1:=⟨Uh F0,.inl ⟨by decide,rfl⟩⟩
 rw [hwy] at KC x1 HF
 go_wp2_with fail
 refine (Uh KC).mono ?_
 rintro e2 W2 ⟨rfl,hw2⟩
 subst hw2
 go_wp2
 exact ⟨rfl,HF⟩
theorem Sk.cellAt {K w b off len cap zs} (h:Sk K w (.slice (some ⟨b,off,none⟩) len cap) zs) {i} (hi:i<zs.length):w.cell? ⟨b,off+i,none⟩=some (.int K (zs.getD i 0)):=by
 obtain ⟨b',off',cap',e,_,_,hc⟩:=h.place (by omega)
 simp only [Value.slice.injEq,Option.some.injEq,Addr.mk.injEq,and_true] at e
 obtain ⟨⟨rfl,rfl⟩,_,_⟩:=e
 exact hc i hi
set_option maxRecDepth 8000 in
set_option maxHeartbeats 4000000 in
theorem down_go g fa cb rs w0 (hO:Opens g fa cb rs w0) (eg:∀ args w,(callFunc g args).run Tryz.prog w=.ok (.enter g args) w) (hlen:∀ c,(Cn.opn rs c).length≤1000000000) way c out W p wv ev f (ih:DownC g fa cb rs w0 f) (hwy:way.length+f+1=16) (hol:out.length≤32) (hop:Cn.opn rs c≠[]) (hin:¬ c∈way) (hc:Rune c) (hW:Below w0.heap.size w0 W) (h:Wk w0.heap.size W p (.func (.func g) fa cb) way out wv ev) :
  Calls Tryz.prog 178 #[.pointer (some ⟨p,0,none⟩),.int .i32 c] W (DownB w0.heap.size W p (.func (.func g) fa cb) way wv ev ((Cn.opn rs c).foldl (Cn.stepW rs f (way++[c])) (out,0))):=by
 have K:=Hd (hO c W hW hc)
 have x0:W.cell? ⟨p,0,none⟩=some (.func (.func g) fa cb):=cell_of (j:=0) h.blk (by show 0<3; omega)
 obtain ⟨i0,hi,hz0,hz1,hz2⟩:=info_parts Tryz.info21
 have HLEN:Hid (∀ x o,o.length≤32→(Cn.walk rs f (way++[c]) x o).1.length≤32):=fun x o ho=>Cn.walk_len rs f (way++[c]) x o ho
 have HSTEP:Hid (∀ (xs:List Int) (o:List Int) (k:Nat),k<xs.length→(xs.drop k).foldl (Cn.stepW rs f (way++[c])) (o,0)=(xs.drop (k+1)).foldl (Cn.stepW rs f (way++[c])) (Cn.walk rs f (way++[c]) (xs.getD k 0) o)):=fun xs o k hk=>Cn.fold_step hk
 have HSTUCK:Hid (∀ (xs:List Int) (s:List Int × Int),s.2≠0→xs.foldl (Cn.stepW rs f (way++[c])) s=s):=Cn.fold_stuck rs f (way++[c])
 have IH:=Hd ih
 have hl:=hlen c
 have hne:0<(Cn.opn rs c).length:=List.length_pos_iff.2 hop
 have HA:=Hd (fun W1 vt hk=>OpB.apart (W1:=W1) (vt:=vt) (zs:=Cn.opn rs c) h hk)
 have HWK:=Hd (fun W1 (hb:Below W.heap.size W W1)=>h.below hb)
 have hwl:=h.w.sk.shape
 generalize Cn.opn rs c=zs at *
 have hq0:((zs.length:Int)==0)=false:=by rw [beq_eq_false_iff_ne]; omega
 obtain ⟨r,hr⟩:∃ r,zs.foldl (Cn.stepW rs f (way++[c])) (out,0)=r:=⟨_,rfl⟩
 rw [hr]
 have HR:=Hd hr
 go_enter Tryz.func178,Tryz.ntmps178
 go_wp2_with fail
 refine (Uh K).mono ?_
 rintro e1 W1 ⟨vt,rfl,hk,hb1⟩
 have hs:Sk .i32 W1 vt zs:=by
  rcases hk with h | h
  ·exact (h.below hW).below hb1
  ·exact h.sk
 have hap:=(Uh HA) W1 vt hk
 have h1:=(Uh HWK) W1 hb1
 have F0:Hid (Frm W W1 p wv ev):=Frm.of_below hb1
 have hW1:Below w0.heap.size w0 W1:=hW.trans (hb1.mono hW.size)
 obtain ⟨tb,toff,tcap,rfl,_,_,_⟩:=hs.place hne
 obtain ⟨wao,wcap,rfl,_,_⟩:=hwl
 have x1:W1.cell? ⟨p,1,none⟩=some (.slice wao way.length wcap):=cell_of (j:=1) h1.blk (by show 1<3; omega)
 have KC:=Hd (contains_any _ way c W1 h1.w.sk (by omega))
 rw [decide_eq_false hin] at KC
 have hq16:((way.length:Int)==16)=false:=by rw [beq_eq_false_iff_ne]; omega
 have hrow:∀ o,(W1.alloc o).ownsRow w0.heap.size 21 1 (.slice wao way.length wcap) way.length (way.map (Value.int .i32)):=fun o=>h1.w.row.alloc o
 have HROW:=Hd hrow
 have HD:=Hd (fun o v' w1 a b c'=>h1.down (o:=o) (v':=v') (w1:=w1) (c:=c) (by omega) hc a b c')
 have HS:=Hd (fun W' p' wv' ev' (hf:Frm W1 W' p' wv' ev') hn=>hs.frm (p:=p') (wv:=wv') (ev:=ev') hf hn)
 have HAP:=Hd hap
 have hs1:=hW1.size
 have HW1:=Hd hW1
 have hfit:=hs.1
 have H1:=Hd h1
 have HRN:=Hd (fun k hk=>rune_of hs (i:=k) hk)
 go_wp2_with fail
 refine (Uh KC).mono ?_
 rintro e2 W2 ⟨rfl,hw2⟩
 subst W2
 go_wp2_with (at_builtin; refine wpList_append_own_at _ rfl (.tmp 40) (.tmp 42) 23 rfl w0.heap.size 21 i0 (.int .i32 0) 1 4 Tryz.underlying23 hi hz0 hz1 hz2 rfl (by decide) _ _ _ rfl ((Uh HROW) _) ⟨W1.heap.size,0,none⟩ 1 1 [.int .i32 c] rfl rfl (cell_one_new _ _ _) (int_one _ _) (by unfold maxLen; omega) (by omega) (by simp; omega) ?_)
 intro v' w1 hrow1 hg1 _ hat1
 obtain ⟨hb1,hw1,hf1,hn1⟩:=(Uh HD) _ v' w1 hrow1 hg1 hat1
 have hm:(way++[c]).length=way.length+1:=by simp
 obtain ⟨ao',cap',hv',_,_⟩:=hw1.w.sk.shape
 rw [hm] at hv'
 subst hv'
 have y1:w1.cell? ⟨p,1,none⟩=some (.slice wao way.length wcap):=cell_of (j:=1) hb1 (by show 1<3; omega)
 have yf:=frozen_of (j:=1) hb1
 have HWK:=Hd hw1
 have HF1:=Hd hf1
 have HN1:=Hd hn1
 go_wp2
 go_loopw [6,48] (fun _ i wr=>∃ (k:Nat) (o:List Int) (wv' ev':Value),i=.int .i64 k∧k≤zs.length∧o.length≤32∧Hid ((zs.drop k).foldl (Cn.stepW rs f (way++[c])) (o,0)=r)∧Hid (Wk w0.heap.size wr p (.func (.func g) fa cb) (way++[c]) o wv' ev')∧Hid (Frm W1 wr p (.slice wao way.length wcap) ev)∧Hid (NewOr W1 (.slice wao way.length wcap) wv')∧Hid (NewOr W1 ev ev')) (fun _ i _=>zs.length - (intOf i).toNat)
 case atStart=>exact ⟨0,out,_,ev,rfl,by omega,hol,HR,HWK,HF1,HN1,NewOr.refl _ _⟩
 case round =>
  obtain ⟨k,o,wv',ev',rfl,hk,ho,HR,HWK,HF1,HN1,HN2⟩:=hrel
  by_cases hlt:k<zs.length
  ·have a0:=((Uh HS) wr p (.slice wao way.length wcap) ev (Uh HF1) (Uh HAP)).cellAt hlt
   have hst:=(Uh HSTEP) zs o k hlt
   have hstuck:=(Uh HSTUCK)
   have hwk:=(Uh HWK)
   have hbW:Below w0.heap.size w0 wr:=(Uh HW1).trans ((Uh HF1).below (Uh H1) hs1)
   have KD:=Hd ((Uh IH) (way++[c]) (zs.getD k 0) o wr p wv' ev' (by simp; omega) ho ((Uh HRN) k hlt) hbW hwk)
   have hlen2:=(Uh HLEN) (zs.getD k 0) o ho
   have hfold:Hid ((zs.drop (k+1)).foldl (Cn.stepW rs f (way++[c])) (Cn.walk rs f (way++[c]) (zs.getD k 0) o)=r):=hst ▸ (Uh HR)
   have hszw:=(Uh HF1).size
   generalize Cn.walk rs f (way++[c]) (zs.getD k 0) o=q at *
   generalize zs.getD k 0=x at *
   go_wp2_with fail
   refine (Uh KD).mono ?_
   rintro e3 w3 ⟨hf3,⟨hq,hgv⟩ | ⟨hq,rfl,wv3,ev3,hw3,hn3,hm3⟩⟩
   ·have hr:q=r:=((Uh HSTUCK) _ q hq).symm.trans (Uh hfold)
    subst hr
    unfold Gave at hgv
    subst hgv
    have HF:DownB w0.heap.size W p (.func (.func g) fa cb) way (.slice wao way.length wcap) ev q (.panicked [{ v:=.iface 30 (.int .i64 q.2),recovered:=false }]) w3 :=
     ⟨(Uh F0).trans ((Uh HF1).trans hf3 (Uh HN1) (Uh HN2)) (NewOr.refl _ _) (NewOr.refl _ _),.inl ⟨hq,rfl⟩⟩
    go_wp2
    exact ⟨rfl,HF⟩
   ·obtain ⟨q1,q2⟩:=q
    simp only at hq hlen2 hw3
    subst hq
    have HWK3:=Hd hw3
    have HFR3:Hid (Frm W1 w3 p (.slice wao way.length wcap) ev):=(Uh HF1).trans hf3 (Uh HN1) (Uh HN2)
    have HNN1:Hid (NewOr W1 (.slice wao way.length wcap) wv3):=(Uh HN1).trans hn3 hszw
    have HNN2:Hid (NewOr W1 ev ev3):=(Uh HN2).trans hm3 hszw
    go_wp2
    go_roundw
    case rel=>exact ⟨k+1,q1,wv3,ev3,by go_num,by omega,hlen2,hfold,HWK3,HFR3,HNN1,HNN2⟩
    case measure=>simp [intOf]; omega
  ·obtain rfl:k=zs.length:=by omega
   have hr:r=(o,0):=by
    have:=Uh HR
    rw [List.drop_length] at this
    exact this.symm
   subst hr
   have hwk:=Uh HWK
   obtain ⟨ao5,cap5,rfl,_,_⟩:=hwk.w.sk.shape
   have HEND:Hid (∀ n,DownB w0.heap.size W p (.func (.func g) fa cb) way (.slice wao way.length wcap) ev (o,0) (.returned (.tuple #[])) ((wr.drewN n).setCell ⟨p,1,none⟩ (.slice ao5 way.length cap5))):=fun n=>by
    have hb:=drewB (w:=wr) ⟨n,rfl⟩
    obtain ⟨u1,u2,u3⟩:=(hwk.below hb).up
    have g1:Frm W1 (wr.drewN n) p (.slice wao way.length wcap) ev:=(Uh HF1).trans (Frm.of_below hb) (Uh HN1) (Uh HN2)
    have s1:=(Uh HF1).size
    have s2:=hb.size
    have s0:=(Uh F0).size
    refine ⟨(Uh F0).trans (g1.trans u2 (Uh HN1) (Uh HN2)) (NewOr.refl _ _) (NewOr.refl _ _),.inr ⟨rfl,rfl,_,ev',u1,?_,?_⟩⟩
    ·exact ((Uh HN1).trans u3 (by omega)).trans_left s0
    ·exact (Uh HN2).trans_left s0
   have y1:wr.cell? ⟨p,1,none⟩=some (.slice ao5 (way++[c]).length cap5):=cell_of (j:=1) hwk.blk (by show 1<3; omega)
   have yf:=frozen_of (j:=1) hwk.blk
   have hcap5:way.length+1≤cap5:=by
    obtain ⟨_,_,e,h5,_⟩:=hwk.w.sk.shape
    simp at e h5
    omega
   rw [show (way++[c]).length=way.length+1 by simp] at y1
   go_wp2
   go_region
   go_wp2
   go_end0
   exact (Uh HEND) _
theorem down_any g fa cb rs w0 (hO:Opens g fa cb rs w0) (eg:∀ args w,(callFunc g args).run Tryz.prog w=.ok (.enter g args) w) (hlen:∀ c,(Cn.opn rs c).length≤1000000000):∀ f,DownC g fa cb rs w0 f:=by
 intro f
 induction f with
 | zero =>
  intro way c out W p wv ev hf hol hc hW h
  by_cases hop:Cn.opn rs c=[]
  ·rw [Cn.walk_leaf hop]
   exact down_leaf g fa cb rs w0 hO eg way c out W p wv ev hol hop hc hW h
  ·by_cases hin:c∈way
   ·rw [Cn.walk_loop hop _ hin]
    exact down_loop g fa cb rs w0 hO eg hlen way c out W p wv ev (by omega) hop hin hc hW h
   ·rw [Cn.walk_deep hop hin]
    exact down_deep g fa cb rs w0 hO eg hlen way c out W p wv ev (by omega) hop hin hc hW h
 | succ f ih =>
  intro way c out W p wv ev hf hol hc hW h
  by_cases hop:Cn.opn rs c=[]
  ·rw [Cn.walk_leaf hop]
   exact down_leaf g fa cb rs w0 hO eg way c out W p wv ev hol hop hc hW h
  ·by_cases hin:c∈way
   ·rw [Cn.walk_loop hop _ hin]
    exact down_loop g fa cb rs w0 hO eg hlen way c out W p wv ev (by omega) hop hin hc hW h
   ·rw [Cn.walk_go hop f hin]
    exact down_go g fa cb rs w0 hO eg hlen way c out W p wv ev f ih (by omega) hol hop hin hc hW h
end Go.Proofs.YtihhhjodonkkcaaGreatDoor
namespace Go.Proofs.YtihhhjodonkkcaaGreatDoor.Cn
theorem if_zero {p:Prop} [Decidable p] (h:(if p then (0:Int) else 61)=0):p:=by grind
theorem right_kind {r} (h:right r=0):fam r.kind≠0:=fun e=>by
 unfold right at h
 rw [if_pos e] at h
 exact absurd h (by decide)
theorem right_span {r} (h:right r=0) (hk:r.kind≠15):0≤r.lo∧r.lo≤r.hi∧r.hi≤1114111:=by
 have hf:=right_kind h
 unfold right at h
 rw [if_neg hf,if_neg hk] at h
 have hc:=if_zero h
 rw [Bool.and_eq_true] at hc
 exact of_decide_eq_true hc.1
theorem right_step {r} (h:right r=0):1≤step r∧step r≤64:=by
 unfold step
 by_cases h4:r.kind=4
 ·rw [if_pos h4]
  have hf:=right_kind h
  unfold right at h
  rw [if_neg hf,if_neg (by omega)] at h
  have hc:=if_zero h
  rw [Bool.and_eq_true,if_neg (by omega),if_neg (by omega),if_pos h4] at hc
  have h2:=hc.2
  simp only [Bool.and_eq_true] at h2
  have:=of_decide_eq_true h2.1.1.2
  omega
 ·rw [if_neg h4]
  omega
theorem list_parts {x a b} (h:list x a b=true):(a≤x.length∧x.length≤b)∧∀ c∈x,scalar c=true:=by
 unfold list at h
 rw [Bool.and_eq_true] at h
 exact ⟨of_decide_eq_true h.1,List.all_eq_true.1 h.2⟩
theorem right_decomp {r} (h:right r=0) (h7:r.kind=7):r.lo=r.hi∧scalar r.lo=true∧list r.to 2 2=true:=by
 have hf:=right_kind h
 unfold right at h
 rw [if_neg hf,if_neg (by omega)] at h
 have hc:=if_zero h
 rw [Bool.and_eq_true,if_neg (by omega),if_neg (by omega),if_neg (by omega),if_neg (by omega),if_neg (by omega),if_neg (by omega),if_pos h7] at hc
 have h2:=hc.2
 simp only [Bool.and_eq_true] at h2
 exact ⟨of_decide_eq_true h2.1.1.1,h2.1.1.2,h2.2⟩
theorem right_opens {r} (h:right r=0) (h8:r.kind=8):r.lo=r.hi∧scalar r.lo=true∧list r.to 1 2=true:=by
 have hf:=right_kind h
 unfold right at h
 rw [if_neg hf,if_neg (by omega)] at h
 have hc:=if_zero h
 rw [Bool.and_eq_true,if_neg (by omega),if_neg (by omega),if_neg (by omega),if_neg (by omega),if_neg (by omega),if_neg (by omega),if_neg (by omega),if_pos h8] at hc
 have h2:=hc.2
 simp only [Bool.and_eq_true] at h2
 exact ⟨of_decide_eq_true h2.1.1.1,h2.1.1.2,h2.2⟩
theorem rightA_all:∀ (l:List Rec) (i:Nat),rightA i l=Option.none→∀ r∈l,right r=0
 | [],_,_=>fun r hr=>by cases hr
 | x :: l,i,h=>fun r hr=>by
  rw [rightA] at h
  split at h
  ·next hx =>
   rcases List.mem_cons.1 hr with rfl | hr
   ·exact hx
   ·exact rightA_all l (i+1) h r hr
  ·cases h
theorem rightA_err:∀ (l:List Rec) (i:Nat) (x:Nat × Int),rightA i l=some x→x.2≠0
 | [],_,_,h=>by rw [rightA] at h; cases h
 | y :: l,i,x,h=>by
  rw [rightA] at h
  split at h
  ·exact rightA_err l (i+1) x h
  ·next hx=>cases h; exact hx
theorem check6_all {l} (h:(check6 l).2=0):l.length≤4096∧∀ r∈l,right r=0:=by
 unfold check6 at h
 split at h
 ·exact absurd h (by decide)
 ·next hl =>
  refine ⟨by omega,?_⟩
  split at h
  ·next x hx=>exact absurd h (rightA_err _ _ _ hx)
  ·next hx=>exact rightA_all _ _ hx
end Go.Proofs.YtihhhjodonkkcaaGreatDoor.Cn
