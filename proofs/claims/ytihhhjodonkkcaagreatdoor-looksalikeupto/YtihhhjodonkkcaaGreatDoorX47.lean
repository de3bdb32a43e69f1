/- Kh22 -/
import Derived.Test.YtihhhjodonkkcaaGreatDoorX46
namespace Go.Proofs.YtihhhjodonkkcaaGreatDoor
open Go.RowKit
open Ti
namespace Cn
def nmA:ByteArray:=⟨#[67,121,114,108]⟩
def nmB:ByteArray:=⟨#[76,97,116,110]⟩
def more22:List Rec:=[⟨13,1072,1072,0,[97],⟨#[]⟩,⟨#[]⟩,0⟩,⟨12,1072,1103,0,[],nmA,⟨#[]⟩,0⟩,⟨12,97,122,0,[],nmB,⟨#[]⟩,0⟩]
def cyrl:List Rec:=little++more22
theorem cy_check:check cyrl=(0,0):=by decide +kernel
theorem cy_len:cyrl.take 150=cyrl:=rfl
theorem cy_sk1:skel cyrl [1072,224]=[97,97,768]:=by decide +kernel
theorem cy_al:decide (skel cyrl [1072]=skel cyrl [97])=true:=by decide +kernel
theorem cy_fk:fake cyrl [1072]=true:=by decide +kernel
theorem cy_n1:([97,1072,49].map (snm cyrl))=[nmB.data.toList,nmA.data.toList,[]]:=by decide +kernel
theorem cy_n2:([97,1072].map (snm cyrl))=[nmB.data.toList,nmA.data.toList]:=by decide +kernel
theorem cy_n3:([97,49].map (snm cyrl))=[nmB.data.toList,[]]:=by decide +kernel
theorem cy_r1:Names ([97,1072,49].map (snm cyrl)) [nmA.data.toList,nmB.data.toList]:=by
 rw [cy_n1]
 have h:=names_put [] (names_put nmA.data.toList (names_put nmB.data.toList names_nil))
 rw [show put22 [] (put22 nmA.data.toList (put22 nmB.data.toList []))=[nmA.data.toList,nmB.data.toList] by decide +kernel] at h
 exact h
theorem cy_r2:Names ([97,1072].map (snm cyrl)) [nmA.data.toList,nmB.data.toList]:=by
 rw [cy_n2]
 have h:=names_put nmA.data.toList (names_put nmB.data.toList names_nil)
 rw [show put22 nmA.data.toList (put22 nmB.data.toList [])=[nmA.data.toList,nmB.data.toList] by decide +kernel] at h
 exact h
theorem cy_r3:Names ([97,49].map (snm cyrl)) [nmB.data.toList]:=by
 rw [cy_n3]
 have h:=names_put [] (names_put nmB.data.toList names_nil)
 rw [show put22 [] (put22 nmB.data.toList [])=[nmB.data.toList] by decide +kernel] at h
 exact h
end Cn
theorem cy_fit:∀ r∈Cn.cyrl,RecFit r:=by
 intro r hr
 rcases List.mem_append.1 hr with h | h
 ·exact lt_fit r h
 ·simp only [Cn.more22,List.mem_cons,List.mem_nil_iff,or_false] at h
  rcases h with rfl | rfl | rfl <;> exact ⟨by unfold I64; decide,by unfold I64; decide,by unfold I64; decide,by unfold I64; decide,by decide,by decide⟩
def lps22 (n:Nat):List (Rec × Value):=[(⟨13,1072,1072,0,[97],⟨#[]⟩,⟨#[]⟩,0⟩,.slice (some ⟨n,0,none⟩) 1 1),(⟨12,1072,1103,0,[],Cn.nmA,⟨#[]⟩,0⟩,.slice none 0 0),(⟨12,97,122,0,[],Cn.nmB,⟨#[]⟩,0⟩,.slice none 0 0)]
set_option maxRecDepth 20000 in
set_option maxHeartbeats 4000000 in
theorem cyrl_any w:Calls Tryz.prog 30 #[] w (RecsNew w Cn.cyrl):=by
 obtain ⟨i1,hj,hy0,hy1,hy2⟩:=info_parts Tryz.info59
 have K1:=Hd (little_any w)
 go_enter Tryz.func30,Tryz.ntmps30
 go_wp2_with fail
 refine (Uh K1).mono ?_
 rintro e1 w10 ⟨v10,ps,rfl,hps,hR10,hb10⟩
 have hpl:ps.length=10:=by have:=congrArg List.length hps; rw [List.length_map] at this; exact this
 have hs10:=hb10.size
 have hv10:∃ g cap,v10=.slice (some ⟨g,0,none⟩) 10 cap:=by
  rcases hR10.1.2 with ⟨_,h0⟩ | ⟨g,cap,cur,e,_⟩
  ·omega
  ·exact ⟨g,cap,by rw [e,hpl]⟩
 obtain ⟨g10,cp10,rfl⟩:=hv10
 obtain ⟨m,hm⟩:∃ m,w10.heap.size=m:=⟨_,rfl⟩
 obtain ⟨WD,hWD⟩:∃ WD,w10.alloc (.cells #[.int .i32 97] 21)=WD:=⟨_,rfl⟩
 have hbD:Below w.heap.size w WD:=by rw [← hWD]; exact hb10.alloc (by omega) _
 have hsD:WD.heap.size=m+1:=by rw [← hWD]; simp; omega
 have hlD:Ok .i32 21 WD w.heap.size (.slice (some ⟨m,0,none⟩) 1 1) [97]:=by
  have:=(ok_one9 w10 w.heap.size hs10 97 (by omega))
  rw [hWD,hm] at this; exact this
 obtain ⟨WE,hWE⟩:∃ WE,WD.alloc (.cells (rcells (lps22 m)).toArray 59)=WE:=⟨_,rfl⟩
 have hbE:Below w.heap.size w WE:=by rw [← hWE]; exact hbD.alloc (by omega) _
 have hsE:WE.heap.size=m+2:=by rw [← hWE]; simp; omega
 have hlies:=lit_lies WD (lps22 m)
 rw [hWE,hsD] at hlies
 have hRE:Rown WE w.heap.size (.slice (some ⟨g10,0,none⟩) 10 cp10) ps:=by rw [← hWE,← hWD]; exact (hR10.alloc9 _).alloc9 _
 have hqC:∀ q∈lps22 m,Ok .i32 21 WE w.heap.size q.2 q.1.to:=fun q hq=>by
  simp only [lps22,List.mem_cons,List.mem_nil_iff,or_false] at hq
  rcases hq with rfl | rfl | rfl
  ·rw [← hWE]; exact hlD.below ((Below.refl _ _).alloc (Nat.le_refl _) _)
  ·exact Ok.nil _ _ _ _
  ·exact Ok.nil _ _ _ _
 have honeC:=one_all (lps22 m) (fun p hp=>by
  simp only [lps22,List.mem_cons,List.mem_nil_iff,or_false] at hp
  rcases hp with rfl | rfl | rfl <;> rfl)
 have HRE:Hid (WE.ownsRow w.heap.size 59 8 (.slice (some ⟨g10,0,none⟩) 10 cp10) 10 (rcells ps)):=by have:=hRE.1; rw [hpl] at this; exact this
 have HRR:=Hd hRE
 have HPL:=Hd hpl
 have HPS:=Hd hps
 have HQC:=Hd hqC
 have HLIES:=Hd hlies
 have HONEC:=Hd honeC
 have HBE:=Hd hbE
 have hmw:w.heap.size≤m:=by omega
 replace hWE:WD.alloc (.cells #[.int .i64 13,.int .i64 1072,.int .i64 1072,.int .i64 0,.slice (some ⟨m,0,none⟩) 1 1,.string ⟨#[]⟩,.string ⟨#[]⟩,.float .f64 0,.int .i64 12,.int .i64 1072,.int .i64 1103,.int .i64 0,.slice none 0 0,.string ⟨#[67,121,114,108]⟩,.string ⟨#[]⟩,.float .f64 0,.int .i64 12,.int .i64 97,.int .i64 122,.int .i64 0,.slice none 0 0,.string ⟨#[76,97,116,110]⟩,.string ⟨#[]⟩,.float .f64 0] 59)=WE:=hWE
 clear K1 hR10 hb10 hbD hlD hRE hqC hlies honeC hbE hpl hps
 go_wp2_with (at_builtin; refine wpList_append_own _ rfl (.tmp 1) (.tmp 6) 22 rfl w.heap.size 59 i1 (.agg #[.int .i64 0,.int .i64 0,.int .i64 0,.int .i64 0,.slice none 0 0,.string ⟨#[]⟩,.string ⟨#[]⟩,.float .f64 0]) 8 96 Tryz.underlying22 hj hy0 hy1 hy2 rfl (by decide) _ _ _ rfl (Uh HRE) ⟨m+1,0,none⟩ 3 3 (rcells (lps22 m)) rfl (by rw [rcells_length]; rfl) (Uh HLIES) (Uh HONEC) (by unfold maxLen; omega) (by omega) (by omega) ?_)
 intro v20 w20 hrow20 hg20 _
 have hR20:Rown w20 w.heap.size v20 (ps++lps22 m):=rows_more (Uh HRR) (Uh HQC) (by rw [Uh HPL]; exact hrow20) hg20
 have hb20:Below w.heap.size w w20:=(Uh HBE).grown hg20 (by omega) (fun k hk=>((Uh HRR).1.lt k hk).1)
 have HF:Hid (RecsNew w Cn.cyrl (.returned v20) w20):=⟨v20,_,rfl,by rw [List.map_append,Uh HPS]; rfl,hR20,hb20⟩
 clear hR20 hb20 hrow20 hg20
 go_wp2
 go_ret
 exact Uh HF
theorem txt_cell22 {W:World} {v:Value} {R:List (List UInt8)} {n:Nat} (h:Sv W v (R.map encStr)) (hn:R.length=n) (h0:0<n):∃ b off cap,v=.slice (some ⟨b,off,none⟩) n cap∧n≤cap∧cap≤9223372036854775807∧∀ i,i<n→W.cell? ⟨b,off+i,none⟩=some (encStr (R.getD i [])):=by
 subst hn
 obtain ⟨b,off,cap,rfl,h1,h2,hc⟩:=h.place (by rw [List.length_map]; omega)
 rw [List.length_map] at h1 hc ⊢
 refine ⟨b,off,cap,rfl,h1,h2,fun i hi=>?_⟩
 rw [hc i hi]
 simp [List.getD,hi]
theorem lit22 (W:World) zs n (hn:zs.length=n) (h0:0<n) (hs:n≤100) C (hC:C=(zs.map (Value.int .i32)).toArray) (hz:∀ z∈zs,-2147483648≤z∧z≤2147483647):∃ W',W.alloc (.cells C 21)=W'∧Sk .i32 W' (.slice (some ⟨W.heap.size,0,none⟩) n n) zs∧Below W.heap.size W W' :=
 ⟨_,rfl,lit12 W zs n hn h0 hs C hC hz,(Below.refl _ _).alloc (Nat.le_refl _) _⟩
set_option maxRecDepth 8000 in
set_option maxHeartbeats 8000000 in
theorem told22 (w:World) (hg:Glob w):Calls Tryz.prog 8 #[] w (Tells w true):=by
 have K1:=Hd (cyrl_any w)
 have HG:=Hd hg
 clear hg
 go_enter Tryz.func8,Tryz.ntmps8
 go_wp2_with fail
 refine (Uh K1).mono ?_
 rintro e1 w1 ⟨v1,ps1,rfl,p1,r1,b1⟩
 have R1:=rcs_new r1 p1 (by decide) cy_fit
 have K2:=Hd (made_any _ _ w1 ((Uh HG).on b1) R1)
 rw [Cn.cy_len] at K2
 obtain ⟨a1,cp1,hv1,_,hcp1⟩:=R1.shape
 subst hv1
 have HB1:=Hd b1
 clear K1 R1 r1 b1 p1
 go_wp2_with fail
 refine (Uh K2).mono ?_
 rintro e2 w2 ⟨b2,h2⟩
 have HB2:=Hd (bthen (Uh HB1) b2)
 clear K2 b2 HB1
 rcases h2 with ⟨hne,_⟩ | ⟨hck,p,v2,ps2,rfl,hD,r2,p2⟩
 ·exact absurd (by rw [Cn.cy_check]) hne
 ·have h6:=check6_of hck
  have R2:=rcs_new r2 p2 (by decide) cy_fit
  obtain ⟨a2,cp2,hv2,_,hcp2⟩:=R2.shape
  subst hv2
  have HK:Hid (∀ W,Below w2.heap.size w2 W→(∀ v xs,Sk .i32 W v xs→xs.length≤85→Calls Tryz.prog 10 #[.pointer (some ⟨p,0,none⟩),v] W (SeqE W (Cn.skel Cn.cyrl xs) 0))):=fun W hW v xs hx hl=>skel_ok22 v xs W (((Uh HG).on (Uh HB2)).on hW) (hD.below hW) hck cy_fit hx (by omega) (Cn.small22 hck hl)
  have HA:Hid (∀ W,Below w2.heap.size w2 W→(∀ v u xs ys,Sk .i32 W v xs→Sk .i32 W u ys→xs.length≤85→ys.length≤85→Calls Tryz.prog 12 #[.pointer (some ⟨p,0,none⟩),v,u] W (TrB22 W (decide (Cn.skel Cn.cyrl xs=Cn.skel Cn.cyrl ys))))):=fun W hW v u xs ys hx hy hl hm=>alike22 v u xs ys W (((Uh HG).on (Uh HB2)).on hW) (hD.below hW) hck cy_fit hx hy (by omega) (Cn.small22 hck hl) (by omega) (Cn.small22 hck hm)
  have HS:Hid (∀ W,Below w2.heap.size w2 W→(∀ v xs,Sk .i32 W v xs→xs.length≤85→Calls Tryz.prog 17 #[.pointer (some ⟨p,0,none⟩),v] W (ScrE22 W (xs.map (Cn.snm Cn.cyrl))))):=fun W hW v xs hx hl=>scripts22 v xs W (hD.below hW) h6 hx (by omega)
  have HFK:Hid (∀ W,Below w2.heap.size w2 W→(∀ v xs,Sk .i32 W v xs→xs.length≤85→Calls Tryz.prog 15 #[.pointer (some ⟨p,0,none⟩),v] W (BoolB W (Cn.fake Cn.cyrl xs)))):=fun W hW v xs hx hl=>fake22 v xs W (((Uh HG).on (Uh HB2)).on hW) (hD.below hW) hck cy_fit hx (by omega) (Cn.small22 hck hl)
  have HP:Hid (∀ W,Below w2.heap.size w2 W→(∀ v xs R,Sk .i32 W v xs→xs.length≤85→Cn.Names (xs.map (Cn.snm Cn.cyrl)) R→Calls Tryz.prog 20 #[.pointer (some ⟨p,0,none⟩),v] W (BoolB W (decide (R.length≤1))))):=fun W hW v xs R hx hl hR=>plain22 v xs W R (hD.below hW) h6 hx (by omega) hR
  clear hD R2 r2 p2 HG h6 hck
  -- Skeleton
  obtain ⟨W3,hW3,hs3,hb3⟩:=lit22 w2 [1072,224] 2 rfl (by omega) (by omega) _ rfl (by simp)
  have K3:=Hd ((Uh HK) W3 hb3 _ _ hs3 (by decide))
  rw [Cn.cy_sk1] at K3
  have HB3:=Hd hb3
  clear hs3 hb3 HK
  simp only [List.map_cons,List.map_nil] at hW3
  go_wp2_with fail
  refine (Uh K3).mono ?_
  rintro e4 w4 ⟨v4,rfl,ok4,b4⟩
  have HB4:=Hd (bthen (Uh HB3) b4)
  have HO4:=Hd ok4.sk
  obtain ⟨a4,cp4,hv4,_,hcp4⟩:=ok4.sk.shape
  subst hv4
  clear K3 ok4 b4 HB3 hW3
  -- Alike
  obtain ⟨W5,hW5,hs5,hb5⟩:=lit22 w4 [1072] 1 rfl (by omega) (by omega) _ rfl (by simp)
  obtain ⟨W6,hW6,hs6,hb6⟩:=lit22 W5 [97] 1 rfl (by omega) (by omega) _ rfl (by simp)
  have hb46:=bthen hb5 hb6
  have K5:=Hd ((Uh HA) W6 (bthen (Uh HB4) hb46) _ _ _ _ (hs5.below hb6) hs6 (by decide) (by decide))
  rw [Cn.cy_al] at K5
  have HB6:=Hd (bthen (Uh HB4) hb46)
  have HO6:=Hd ((Uh HO4).below hb46)
  simp only [List.map_cons,List.map_nil] at hW5 hW6
  clear hs5 hb5 hs6 hb6 hb46 HA HB4 HO4
  go_wp2_with fail
  refine (Uh K5).mono ?_
  rintro e7 w7 ⟨rfl,b7⟩
  have HB7:=Hd (bthen (Uh HB6) b7)
  have HO7:=Hd ((Uh HO6).below b7)
  clear K5 b7 HB6 HO6 hW5 hW6
  -- Scripts
  obtain ⟨W8,hW8,hs8,hb8⟩:=lit22 w7 [97,1072,49] 3 rfl (by omega) (by omega) _ rfl (by simp)
  have K8:=Hd ((Uh HS) W8 (bthen (Uh HB7) hb8) _ _ hs8 (by decide))
  have HB8:=Hd (bthen (Uh HB7) hb8)
  have HO8:=Hd ((Uh HO7).below hb8)
  simp only [List.map_cons,List.map_nil] at hW8
  clear hs8 hb8 HS HB7 HO7
  go_wp2_with fail
  refine (Uh K8).mono ?_
  rintro e9 w9 ⟨v9,R9,hN9,rfl,ho9,b9⟩
  obtain rfl:=hN9.uniq Cn.cy_r1
  obtain ⟨b9b,b9o,b9c,hv9,hc91,hc92,hc9⟩:=txt_cell22 (n:=2) ho9.sv rfl (by omega)
  subst hv9
  have hcz:w9.cell? ⟨b9b,b9o,none⟩=some (.string ⟨#[67,121,114,108]⟩):=hc9 0 (by omega)
  have HB9:=Hd (bthen (Uh HB8) b9)
  have HO9:=Hd ((Uh HO8).below b9)
  have HCZ:=Hd hcz
  clear K8 hN9 ho9 b9 HB8 HO8 hW8 hc9 hcz
  -- Same
  obtain ⟨W10,hW10,hs10,hb10⟩:=lit22 w9 [97,97,768] 3 rfl (by omega) (by omega) _ rfl (by simp)
  have K10:=Hd (same3_eq _ _ [97,97,768] W10 ((Uh HO9).below hb10) hs10 (by decide))
  have HB10:=Hd (bthen (Uh HB9) hb10)
  have HC10:Hid (W10.cell? ⟨b9b,b9o,none⟩=some (.string ⟨#[67,121,114,108]⟩)):=by show _=_; rw [hb10.cell (lt_of_cell? (Uh HCZ))]; exact Uh HCZ
  simp only [List.map_cons,List.map_nil] at hW10
  clear hs10 hb10 HB9 HO9 HCZ
  go_wp2_with fail
  refine (Uh K10).mono ?_
  rintro e11 w11 ⟨rfl,m11,rfl⟩
  have hb11:Below W10.heap.size W10 (W10.drewN m11):=drewB ⟨m11,rfl⟩
  have HB11:=Hd (bthen (Uh HB10) hb11)
  have hc11:(W10.drewN m11).cell? ⟨b9b,b9o,none⟩=some (.string ⟨#[67,121,114,108]⟩):=by rw [hb11.cell (lt_of_cell? (Uh HC10))]; exact Uh HC10
  clear K10 HB10 HC10 hb11 hW10
  generalize W10.drewN m11=w11 at *
  -- Fake
  obtain ⟨W12,hW12,hs12,hb12⟩:=lit22 w11 [1072] 1 rfl (by omega) (by omega) _ rfl (by simp)
  have K12:=Hd ((Uh HFK) W12 (bthen (Uh HB11) hb12) _ _ hs12 (by decide))
  rw [Cn.cy_fk] at K12
  have HB12:=Hd (bthen (Uh HB11) hb12)
  simp only [List.map_cons,List.map_nil] at hW12
  clear hs12 hb12 HFK HB11
  go_wp2_with fail
  refine (Uh K12).mono ?_
  rintro e13 w13 ⟨rfl,b13⟩
  have HB13:=Hd (bthen (Uh HB12) b13)
  clear K12 b13 HB12 hW12 hc11
  -- Plain
  obtain ⟨W14,hW14,hs14,hb14⟩:=lit22 w13 [97,1072] 2 rfl (by omega) (by omega) _ rfl (by simp)
  have K14:=Hd ((Uh HP) W14 (bthen (Uh HB13) hb14) _ _ _ hs14 (by decide) Cn.cy_r2)
  rw [show decide ([Cn.nmA.data.toList,Cn.nmB.data.toList].length≤1)=false by rfl] at K14
  have HB14:=Hd (bthen (Uh HB13) hb14)
  simp only [List.map_cons,List.map_nil] at hW14
  clear hs14 hb14 HB13
  go_wp2_with fail
  refine (Uh K14).mono ?_
  rintro e15 w15 ⟨rfl,b15⟩
  have HB15:=Hd (bthen (Uh HB14) b15)
  clear K14 b15 HB14 hW14
  obtain ⟨W16,hW16,hs16,hb16⟩:=lit22 w15 [97,49] 2 rfl (by omega) (by omega) _ rfl (by simp)
  have K16:=Hd ((Uh HP) W16 (bthen (Uh HB15) hb16) _ _ _ hs16 (by decide) Cn.cy_r3)
  rw [show decide ([Cn.nmB.data.toList].length≤1)=true by rfl] at K16
  have HB16:=Hd (bthen (Uh HB15) hb16)
  simp only [List.map_cons,List.map_nil] at hW16
  clear hs16 hb16 HB15 HP
  go_wp2_with fail
  refine (Uh K16).mono ?_
  rintro e17 w17 ⟨rfl,b17⟩
  have HF:Hid (Tells w true (.returned (.bool true)) w17):=⟨rfl,bthen (Uh HB2) (bthen (Uh HB16) b17)⟩
  clear K16 b17 HB16 hW16
  go_wp2
  go_ret
  exact Uh HF
end Go.Proofs.YtihhhjodonkkcaaGreatDoor
