/- Ul9 Us9 Ut9 Uv9 Uw9 Uy9 -/
import Derived.Test.YtkglkajjofidoaaGreatDoorU25
import Derived.Test.YtkglkajjofidoaaGreatDoorU28
set_option maxHeartbeats 8000000
set_option maxRecDepth 8000
namespace Go.Proofs.YtkglkajjofidoaaGreatDoor
open Go.RowKit
open Ti
theorem x5B (v:Value) (rs:List Rec) (kind:Int) (w:World) (hg:Glob w) (hv:Rcs w v rs) (hk:I64 kind) (cn:∀ r∈Cn.famOf (Cn.fam kind) rs,Cn.right r=0∧r.kind≠15) (hl:(Cn.famOf (Cn.fam kind) rs).length≤4096) (hval:∀ m:List Tri.Rg,m.Perm (Cn.rangesA (fun i _=>(i:Int)) 1 (Cn.famOf (Cn.fam kind) rs))→(m.Pairwise fun x y=>Tri.lo x≤Tri.lo y)→Tri.Val 0 m):Calls Tryz.prog 76 #[v,.int .i64 kind] w (SpkB w (Cn.famOf (Cn.fam kind) rs)):=by
 obtain ⟨i0,cL,cV,cW,cX⟩:=info_parts Tryz.info208;obtain ⟨i1,cM,cR,bX,bY⟩:=info_parts Tryz.info50;obtain ⟨W1,W2,hW1,cK,bx,bT,cP,bb⟩:=y9f w;have K1:=Hd (x3G v rs kind W2 (hg.on bx) (hv.below bx) hk);unfold FamB at K1
 have bh:W2.heap[w.heap.size+1]?=some (.cells #[.int .i64 0,.int .i64 0,.int .i64 0,.int .i64 0,.slice none 0 0,.string ⟨#[]⟩,.string ⟨#[]⟩,.float .f64 0] 50 (0,0)):=by
  rw [← cK,← bT];show (W1.heap.push _)[W1.heap.size]?=_;simp
 obtain ⟨ao,cap,aY,_,_⟩:=hv.shape;generalize Cn.famOf (Cn.fam kind) rs=fs at *;have bv:=Hd cn;have aQ:=Hd hval;have ca:=Hd bb;have bZ:=Hd bh;have aN:=Hd bx;have ce:=Hd cP;clear hv hg cn hval bb bh bx;subst aY;go_enter Tryz.func76,Tryz.ntmps76;go_wp2_with fail;refine (Uh K1).mono ?_;rintro e1 w1 ⟨v1,qs,rfl,bS,hR,am⟩;have cN:qs.length=fs.length:=(by rw [← bS,List.length_map]);have bG:Rcs w1 v1 fs:=(by rw [← bS]; exact hR.rsx.rcs am (by omega));have aP:=Hd ((Uh ca) w1 am)
 have aK:w1.heap[w.heap.size+1]?=some (.cells #[.int .i64 0,.int .i64 0,.int .i64 0,.int .i64 0,.slice none 0 0,.string ⟨#[]⟩,.string ⟨#[]⟩,.float .f64 0] 50 (0,0)):=by
  rw [am.block _ (by have:=Uh ce; omega)]; exact Uh bZ
 have bw:Hid (∀ k,(Cn.rangesA (fun i _=>(i:Int)) 1 (fs.take k)).length≤4563402752):=fun k=>by
  have h1:=Cn.x2E (g:=fun i _=>(i:Int)) (fs.take k) 1 (fun r hr=>(Uh bv) r (List.mem_of_mem_take hr));have h2:(fs.take k).length≤fs.length:=List.length_take_le' _ _;omega
 have aO:Hid (∀ k,k<fs.length→∃ b off cap va,v1=.slice (some ⟨b,off,none⟩) fs.length cap∧RecFit (fs.getD k Cn.none)∧∀ W:World,(∀ g,g<w1.heap.size→g≠w.heap.size+1→W.heap[g]?=w1.heap[g]?)→(W.cell? ⟨b,off+k * 8,none⟩=some (.int .i64 (fs.getD k Cn.none).kind)∧W.cell? ⟨b,off+k * 8+1,none⟩=some (.int .i64 (fs.getD k Cn.none).lo)∧W.cell? ⟨b,off+k * 8+2,none⟩=some (.int .i64 (fs.getD k Cn.none).hi)∧W.cell? ⟨b,off+k * 8+3,none⟩=some (.int .i64 (fs.getD k Cn.none).n)∧W.cell? ⟨b,off+k * 8+4,none⟩=some va∧W.cell? ⟨b,off+k * 8+5,none⟩=some (.string (fs.getD k Cn.none).name)∧W.cell? ⟨b,off+k * 8+6,none⟩=some (.string (fs.getD k Cn.none).other)∧W.cell? ⟨b,off+k * 8+7,none⟩=some (.float .f64 (fs.getD k Cn.none).wt))∧Sk .i32 W va (fs.getD k Cn.none).to):=fun k hk=>by
  obtain ⟨b,off,cap,he,_,_,hc⟩:=bG.place (by omega);have hbb:W2.heap.size≤b:=(hR.1.lt b (by rw [he]; rfl)).1;have aI:b≠w.heap.size+1:=(by have:=Uh ce; omega);obtain ⟨y0,y1,y2,y3,⟨va,y4,bl⟩,y5,y6,y7⟩:=hc k hk;refine ⟨b,off,cap,va,he,bG.fit hk,fun W hW=>?_⟩;have e:∀ j,W.cell? ⟨b,j,none⟩=w1.cell? ⟨b,j,none⟩:=fun j=>World.cell?_of_block (hW b (x0a y0) aI);exact ⟨⟨by rw [e]; exact y0,by rw [e]; exact y1,by rw [e]; exact y2,by rw [e]; exact y3,by rw [e]; exact y4,by rw [e]; exact y5,by rw [e]; exact y6,by rw [e]; exact y7⟩,z1h aK hW bl⟩
 have bH:Hid (∀ k,k<fs.length→Cn.rangesA (fun i _=>(i:Int)) 1 (fs.take (k+1))=Cn.rangesA (fun i _=>(i:Int)) 1 (fs.take k)++Cn.spoken (fs.getD k Cn.none) ((1+k:Nat):Int)∧fs.take (k+1)=fs.take k++[fs.getD k Cn.none]):=fun k hk=>by
  have e:fs.take (k+1)=fs.take k++[fs.getD k Cn.none]:=by
   rw [List.take_add_one];simp [List.getD,hk]
  rw [e,Cn.x2i,List.length_take,Nat.min_eq_left (by omega)];exact ⟨rfl,rfl⟩
 obtain ⟨ao1,cap1,bV,_,_⟩:=bG.shape;subst bV;clear K1 bS hR bG cN am ca bZ aK;go_wp2;go_loopw [5,6,8,15] (fun lv rv _ iv wr=>∃ (k:Nat) (ps:List (Rec × Value)),iv=.int .i64 k∧k≤fs.length∧ps.map (·.1)=Cn.none :: fs.take k∧ps.length=k+1∧(∃ lo cap,lv=.slice lo (k+1) cap∧cap≤9223372036854775807)∧Spst w w1 wr rv lv (Cn.rangesA (fun i _=>(i:Int)) 1 (fs.take k)) ps) (fun _ _ _ iv _=>fs.length - (intOf iv).toNat)
 case atStart=>exact ⟨0,[(Cn.none,.slice none 0 0)],rfl,by omega,rfl,rfl,⟨_,_,by first | rfl | (rw [bT]; rfl),by omega⟩,by first | exact Uh aP | (rw [bT]; exact Uh aP)⟩
 case round =>
  obtain ⟨k,ps,rfl,hk,bR,bF,⟨aE,ag,rfl,hc5⟩,hS⟩:=hrel;clear aP;by_cases hlt:k<fs.length
  ·obtain ⟨b,off,cap',va,he,aU,bJ⟩:=(Uh aO) k hlt
   obtain ⟨q1,q2,q3⟩:=Value.slice.inj he;clear q2 q3 he;subst q1;obtain ⟨hr1,hr2⟩:=(Uh bv) (fs.getD k Cn.none) (by simp [List.getD,hlt]);obtain ⟨cg,cJ⟩:=(Uh bH) k hlt;have cr:=(Uh bw) k;obtain ⟨⟨x0,x1,x2,x3,x4,x5,x6,x7⟩,bl⟩:=bJ wr hS.old;obtain ⟨aV,ak,rfl,_,_⟩:=bl.shape;clear aO bH aQ bw bv;generalize fs.getD k Cn.none=r at *;have hv0:Fi (((1+k:Nat):Int)):=⟨by omega,by omega⟩;have cp:=x8e r ((1+k:Nat):Int) hr1 hr2;have cQ:=Cn.x3z hr1 hr2 ((1+k:Nat):Int);have bP:(((1+k:Nat):Int))=(k:Int)+1:=(by omega);have be:=hS.bel;obtain ⟨V1,bM⟩:∃ V1,wr.alloc (.cells #[.int .i64 r.kind,.int .i64 r.lo,.int .i64 r.hi,.int .i64 r.n,.slice aV r.to.length ak,.string r.name,.string r.other,.float .f64 r.wt] 50)=V1:=⟨_,rfl⟩;have bN:Below wr.heap.size wr V1:=by rw [← bM]; exact (Below.refl _ _).alloc (Nat.le_refl _) _
   have aS:V1.heap[wr.heap.size]?=some (.cells #[.int .i64 r.kind,.int .i64 r.lo,.int .i64 r.hi,.int .i64 r.n,.slice aV r.to.length ak,.string r.name,.string r.other,.float .f64 r.wt] 50 (0,0)):=by
    rw [← bM];show (wr.heap.push _)[wr.heap.size]?=_;simp
   have hvs:V1.heap.size=wr.heap.size+1:=(by rw [← bM]; exact World.size_alloc _ _);have ci:=hS.below bN;have KS:=Hd (x5i r (.slice aV r.to.length ak) _ V1 aU (bl.below bN) hr1 hr2 hv0);unfold recV at KS;rw [bP] at KS cg cp cQ;have KC:Hid (∀ W,(∀ g,g<w1.heap.size→g≠w.heap.size+1→W.heap[g]?=w1.heap[g]?)→Calls Tryz.prog 122 #[.slice aV r.to.length ak] W (x0j W r.to)):=fun W h=>x4u _ r.to W (bJ W h).2 aU.len;unfold x0j at KC;have b7:Hid (∀ g,(Value.slice aE (k+1) ag).ownBlock=some g→g<wr.heap.size):=fun g hg'=>(hS.rcs.1.lt g hg').2;have cb:Hid (∀ p∈ps,∀ g,p.2.ownBlock=some g→g<wr.heap.size):=fun p hp g hg'=>((hS.rcs.2 p hp).2.2.lt g hg').2;have cc:Hid (∀ g,u6.ownBlock=some g→g<wr.heap.size):=fun g hg'=>(hS.rng.2.2.lt g hg').2;obtain ⟨z0,z1,z2,z3,z4,z5,z6,z7⟩:=x3k aS;have hfl:∀ W a m,(store a (.float .f64 r.wt) m).run Tryz.prog W=stored Tryz.prog W a (.float .f64 r.wt) m:=fun W a m=>run_store Tryz.prog W a _ m rfl;have cd:=Hd ci;have aZ:=Hd aS;have hszr:=hS.sz;have hs1r:=hS.s1;clear hS ci bl bN hr1 hr2 aU bJ aS hv0 bP;generalize hys:Cn.spoken r ((k:Int)+1)=ys at *;clear hys;generalize Cn.rangesA (fun i _=>(i:Int)) 1 (fs.take k)=xs at *;obtain ⟨kd,lo,hi,nn,tt,nm,ot,wt⟩:=r;simp only at *;go_wp2_with fail;refine (Uh KS).mono ?_;rintro e3 w3 ⟨v3,rfl,bK,aB⟩;obtain ⟨g3,bI,rfl,bj⟩:=y3S bK cp;have bz:=(Uh cd).below aB;have hsz3:=bz.sz;have hb3s:=aB.size;have HM:=Hd bz.rng.2.2;have ba:=Hd bj;have a9:=Hd (Ti.x3r ys);have aF:Hid (∀ v4 w4,w4.ownsRow w1.heap.size 208 3 v4 (xs.length+ys.length) (Ti.rcells xs++Ti.rcells ys)→w3.grownBy w4 u6.ownBlock→Spst w w1 w4 v4 (.slice aE (k+1) ag) (xs++ys) ps):=fun v4 w4 h1 h2=>bz.ranges bK.1 (by omega) h1 h2;have a6:Hid (w3.heap[wr.heap.size]?=some (.cells #[.int .i64 kd,.int .i64 lo,.int .i64 hi,.int .i64 nn,.slice aV tt.length ak,.string nm,.string ot,.float .f64 wt] 50 (0,0))):=(aB.block _ (by omega)).trans (Uh aZ);clear KS bK aB bj bz cd aZ x0 x1 x2 x3 x4 x5 x6 x7 z0 z1 z2 z3 z4 z5 z6 z7;go_wp2_with (at_builtin; refine wpList_append_own _ rfl (.tmp 19) (.tmp 23) 157 rfl w1.heap.size 208 i0 (.agg #[.int .i64 0,.int .i64 0,.int .i64 0]) 3 24 Tryz.underlying157 cL cV cW cX rfl (by decide) _ _ _ rfl (Uh HM) ⟨g3,0,none⟩ ys.length bI (Ti.rcells ys) rfl (by rw [Ti.x1q]) (Uh ba) (Uh a9) (by unfold maxLen; omega) (by omega) (by omega) ?_);intro v4 w4 hr4 bE _;have bL:=(Uh aF) v4 w4 hr4 bE
   have aT:w4.heap[wr.heap.size]?=some (.cells #[.int .i64 kd,.int .i64 lo,.int .i64 hi,.int .i64 nn,.slice aV tt.length ak,.string nm,.string ot,.float .f64 wt] 50 (0,0)):=by
    rw [bE.block _ (by omega) (fun e=>by have:=(Uh cc) _ e.symm; omega)]; exact Uh a6
   have hsz4:=bE.size;have z4:=(x3k aT).2.2.2.2.1;have K5:=Hd ((Uh KC) w4 bL.old);have cf:=Hd bL;have a7:=Hd aT;clear aF HM ba a9 a6 hr4 bE bL aT KC cc;go_wp2_with fail;refine (Uh K5).mono ?_;rintro e5 w5 ⟨v5,rfl,aD,ar⟩;obtain ⟨t5,c5,hv5,_,_⟩:=aD.sk.shape;subst hv5;have hsz5:=ar.size;have bA:=(Uh cf).below ar;have au:w5.heap[wr.heap.size]?=some (.cells #[.int .i64 kd,.int .i64 lo,.int .i64 hi,.int .i64 nn,.slice aV tt.length ak,.string nm,.string ot,.float .f64 wt] 50 (0,0)):=(ar.block _ (by omega)).trans (Uh a7);have y4:=(x3k au).2.2.2.2.1;have f4:=x0e (j:=4) au;obtain ⟨w6,bk⟩:∃ w6,w5.setCell ⟨wr.heap.size,4,none⟩ (.slice t5 tt.length c5)=w6:=⟨_,rfl⟩
   have bf:w6.heap[wr.heap.size]?=some (.cells #[.int .i64 kd,.int .i64 lo,.int .i64 hi,.int .i64 nn,.slice t5 tt.length c5,.string nm,.string ot,.float .f64 wt] 50 (0,0)):=by
    rw [← bk,x0f au]; rfl
   have bU:w6.heap.size=w5.heap.size:=by rw [← bk]; exact x0K _ _ _ _
   have bB:Spst w w1 w6 v4 (.slice aE (k+1) ag) (xs++ys) ps:=by
    refine bA.keep (B:=wr.heap.size) (by omega) (by rw [← bk]; exact x0c bA.bel be.size _) (by omega) (fun g _ hne=>by rw [← bk]; exact x0g _ hne) (y4z bA.rng.2.2 au (by decide)) (fun e=>by have:=(Uh b7) _ e; omega) (fun p hp e=>by have:=(Uh cb) p hp _ e; omega)
   have cq:Ok .i32 21 w6 w.heap.size (.slice t5 tt.length c5) tt:=by
    refine (aD.lower (by have:=be.size; omega)).keep fun g hg'=>?_;rw [← bk];exact x0g _ (fun e=>by have:=(aD.2.2.lt g hg').1; omega)
   obtain ⟨s0,s1,s2,s3,s4,s5,s6,s7⟩:=x3k bf;have b8:Hid (∀ o,(w6.alloc o).ownsRow w.heap.size 50 8 (.slice aE (k+1) ag) (k+1) (rcells ps)):=fun o=>(by have:=bB.rcs.1.alloc o; rw [bF] at this; exact this);have a8:Hid (∀ j u,(x0s (⟨kd,lo,hi,nn,tt,nm,ot,wt⟩,.slice t5 tt.length c5))[j]?=some u→(w6.alloc (.cells #[.int .i64 kd,.int .i64 lo,.int .i64 hi,.int .i64 nn,.slice t5 tt.length c5,.string nm,.string ot,.float .f64 wt] 50)).cell? ((⟨w6.heap.size,0,none⟩:Addr).add j)=some u):=x4h w6 w6.heap.size rfl ⟨kd,lo,hi,nn,tt,nm,ot,wt⟩ _;have aG:=Hd (x4W ⟨kd,lo,hi,nn,tt,nm,ot,wt⟩ (vt:=.slice t5 tt.length c5) rfl)
   have aq:Hid (∀ o gg aj w8,w8.ownsRow w.heap.size 50 8 (.slice (some ⟨gg,0,none⟩) (k+1+1) aj) (k+1+1) (rcells ps++x0s (⟨kd,lo,hi,nn,tt,nm,ot,wt⟩,.slice t5 tt.length c5))→(w6.alloc o).grownBy w8 (Value.slice aE (k+1) ag).ownBlock→((Value.slice aE (k+1) ag).ownBlock=some gg∨gg=w6.heap.size+1)→Spst w w1 w8 v4 (.slice (some ⟨gg,0,none⟩) (k+1+1) aj) (xs++ys) (ps++[(⟨kd,lo,hi,nn,tt,nm,ot,wt⟩,.slice t5 tt.length c5)])):=fun o gg aj w8 h1 h2 h3=>by
    have h:=bB.more (r:=⟨kd,lo,hi,nn,tt,nm,ot,wt⟩) cq (gg:=gg) (cap:=aj) (by rw [bF]; exact h1) h2 h3;rw [bF] at h;exact h
   have hsw6:=bB.bel.size;clear K5 aD ar bA au bf bB cq cf a7 b7 cb bU;go_wp2_with (at_builtin; refine wpList_append_lies _ rfl (.tmp 29) (.tmp 31) 22 rfl w.heap.size 50 i1 (.agg #[.int .i64 0,.int .i64 0,.int .i64 0,.int .i64 0,.slice none 0 0,.string ⟨#[]⟩,.string ⟨#[]⟩,.float .f64 0]) 8 96 Tryz.underlying22 cM cR bX bY rfl (by decide) _ _ _ rfl ((Uh b8) _) ⟨w6.heap.size,0,none⟩ 1 1 (x0s (⟨kd,lo,hi,nn,tt,nm,ot,wt⟩,.slice t5 tt.length c5)) rfl rfl (Uh a8) (Uh aG) (by omega) (by unfold maxLen; omega) (by omega) (by simp; omega) (w6.heap.size+1) (by simp) ?_);intro gg aj w8 hr8 ck bc hlt8;have cj:=(Uh aq) _ gg aj w8 hr8 ck bc
   have bg:aj≤9223372036854775807:=by
    rcases hr8.2 with ⟨h0,_⟩ | ⟨_,_,_,h0,_,_,_,h1,_⟩
    ·cases h0
    ·obtain ⟨_,_,e3⟩:=Value.slice.inj h0
     rw [e3];unfold maxLen at h1;omega
   have cI:=Hd cj;clear b8 a8 aG aq hr8 ck bc cj s0 s1 s2 s3 s4 s5 s6 s7 y4 f4 z4;go_wp2
   go_roundw
   case rel=>exact ⟨k+1,ps++[(⟨kd,lo,hi,nn,tt,nm,ot,wt⟩,.slice t5 tt.length c5)],by go_num,by omega,by rw [List.map_append,bR,cJ]; rfl,by rw [List.length_append,bF]; rfl,⟨_,_,rfl,bg⟩,by rw [cg]; exact Uh cI⟩
   case measure=>simp [intOf]; omega
  ·obtain rfl:k=fs.length:=by omega
   rw [List.take_of_length_le (Nat.le_refl _)] at hS bR;have cr:=(Uh bw) fs.length;rw [List.take_of_length_le (Nat.le_refl _)] at cr;have KB:=Hd (y0r _ wr u6 _ hS.rng (by omega) (Uh aQ));unfold y1M at KB;have HS:=Hd hS;obtain ⟨ro,rcap,cO,_,_⟩:=hS.rng.sr.shape;subst cO;clear hS aO bH bv bw aQ;go_wp2_with fail;refine (Uh KB).mono ?_;rintro e9 w9 ⟨a,m,rfl,p1,p2,hT,cm⟩;obtain ⟨F1,F2,F3,F4,F5⟩:=(Uh HS).fin cm hT;have y0:=cell_of (j:=0) F1 (by show 0<2; omega);have y1:=cell_of (j:=1) F1 (by show 1<2; omega);have f0:=fun j=>x0e (j:=j) F1;have b0:=Hd F2;have HF:SpkB w fs (.returned (.agg #[.pointer (some a),.slice aE (fs.length+1) ag])) _:=⟨a,m,_,ps,rfl,p1,p2,F3,F4,bR,F5⟩;have b6:=Hd HF;clear KB hT cm F1 F2 F3 F4 F5 HF HS p1 p2;go_wp2;have bi:=Uh b0;have bO:=Uh b6;clear b0 b6 y0 y1 f0;generalize (w9.setCell ⟨w.heap.size,0,none⟩ (.pointer (some a))).setCell ⟨w.heap.size,1,none⟩ (.slice aE (fs.length+1) ag)=cs at *;have z0:=cell_of (j:=0) bi (by show 0<2; omega);have z1:=cell_of (j:=1) bi (by show 1<2; omega);refine bodyPost_ret (v:=.agg #[.pointer (some a),.slice aE (fs.length+1) ag]) (by simp [results,Tryz.results76,go_sem,z0,z1]) rfl bO
open Ti
def TrP (W:World) (B:Nat) (v:Value) (xs:List Tri.Rg):Prop:=∃ a m,v=.pointer (some a)∧m.Perm xs∧(m.Pairwise fun x y=>Tri.lo x≤Tri.lo y)∧T4 W B v m 0
def SpP (W:World) (B:Nat) (v vl:Value) (fs:List Rec):Prop:=TrP W B v (Cn.rangesA (fun i _=>(i:Int)) 1 fs)∧∃ ps,Rown W B vl ps∧ps.map (·.1)=Cn.none :: fs
def CoP (W:World) (B:Nat) (c1 c2:Value) (rs:List Rec):Prop:=∃ r1 r2,c1=.map (some r1)∧c2=.map (some r2)∧B≤r1∧B≤r2∧GAt KP W r1 (x2s rs)∧GAt KR W r2 (secC rs)
def MiP (W:World) (B:Nat) (x:Value):Prop:=∃ r,x=.map (some r)∧B≤r∧MxAt W r
theorem x4G {W:World} {g:Nat} {o:Obj} (h:W.heap[g]?=some o):g<W.heap.size:=by
 rcases Nat.lt_or_ge g W.heap.size with h1 | h1
 ·exact h1
 ·rw [Array.getElem?_eq_none h1] at h; cases h
section
variable {W W':World} {B B':Nat} {v vl c1 c2 x:Value} {xs:List Tri.Rg} {fs rs:List Rec}
theorem TrP.below (h:TrP W B v xs) (hb:Below W.heap.size W W'):TrP W' B v xs:=by
 obtain ⟨a,m,e,p,s,t⟩:=h;exact ⟨a,m,e,p,s,t.below hb⟩
theorem TrP.lower (h:TrP W B v xs) (hb:B'≤B):TrP W B' v xs:=by
 obtain ⟨a,m,e,p,s,t⟩:=h;exact ⟨a,m,e,p,s,T4.lower t hb⟩
theorem y4o {w:World} {B B' e sz n:Nat} {v:Value} {us:List Value} (h:w.ownsRow B e sz v n us) (hb:B'≤B):w.ownsRow B' e sz v n us:=by
 refine ⟨h.1,?_⟩;rcases h.2 with h4 | ⟨g,cap,cur,hv,hg,r⟩
 ·exact .inl h4
 ·exact .inr ⟨g,cap,cur,hv,by omega,r⟩
theorem SpP.below (h:SpP W B v vl fs) (hb:Below W.heap.size W W'):SpP W' B v vl fs:=by
 obtain ⟨t,ps,hr,e⟩:=h;exact ⟨t.below hb,ps,⟨x0r hr.1 fun g hg=>hb.block g (hr.1.lt g hg).2,fun p hp=>(hr.2 p hp).below hb⟩,e⟩
theorem SpP.lower (h:SpP W B v vl fs) (hb:B'≤B):SpP W B' v vl fs:=by
 obtain ⟨t,ps,hr,e⟩:=h;exact ⟨t.lower hb,ps,⟨y4o hr.1 hb,fun p hp=>(hr.2 p hp).lower hb⟩,e⟩
theorem GAt.below {K:Value→Prop} {r:Nat} {c:Value→Option Value} (h:GAt K W r c) (hb:Below W.heap.size W W'):GAt K W' r c:=by
 obtain ⟨es,cl,h1,h2⟩:=h;exact ⟨es,cl,by rw [hb.block r (x4G h1)]; exact h1,h2⟩
theorem CoP.below (h:CoP W B c1 c2 rs) (hb:Below W.heap.size W W'):CoP W' B c1 c2 rs:=by
 obtain ⟨r1,r2,e1,e2,b1,b2,g1,g2⟩:=h;exact ⟨r1,r2,e1,e2,b1,b2,g1.below hb,g2.below hb⟩
theorem CoP.lower (h:CoP W B c1 c2 rs) (hb:B'≤B):CoP W B' c1 c2 rs:=by
 obtain ⟨r1,r2,e1,e2,b1,b2,g1,g2⟩:=h;exact ⟨r1,r2,e1,e2,by omega,by omega,g1,g2⟩
theorem MiP.below (h:MiP W B x) (hb:Below W.heap.size W W'):MiP W' B x:=by
 obtain ⟨r,e,b,c,g⟩:=h;exact ⟨r,e,b,c,g.below hb⟩
theorem MiP.lower (h:MiP W B x) (hb:B'≤B):MiP W B' x:=by
 obtain ⟨r,e,b,c⟩:=h;exact ⟨r,e,by omega,c⟩
end
structure DataV (W:World) (B:Nat) (rs:List Rec) (t1 t2 t3 t4 t5 a1 l1 a2 l2 a3 l3 a4 l4 a5 l5 c1 c2 x1:Value):Prop where
 p1:TrP W B t1 (Cn.rangesA (fun _ r=>Cn.value r) 1 (Cn.famOf 1 rs))
 p2:TrP W B t2 (Cn.rangesA (fun _ r=>Cn.value r) 1 (Cn.famOf 2 rs))
 p3:TrP W B t3 (Cn.rangesA (fun _ r=>Cn.value r) 1 (Cn.famOf 4 rs))
 p4:TrP W B t4 (Cn.rangesA (fun _ r=>Cn.value r) 1 (Cn.famOf 5 rs))
 p5:TrP W B t5 (Cn.rangesA (fun _ r=>Cn.value r) 1 (Cn.famOf 6 rs))
 q1:SpP W B a1 l1 (Cn.famOf 1 rs)
 q2:SpP W B a2 l2 (Cn.famOf 3 rs)
 q3:SpP W B a3 l3 (Cn.famOf 7 rs)
 q4:SpP W B a4 l4 (Cn.famOf 8 rs)
 q5:SpP W B a5 l5 (Cn.famOf 9 rs)
 co:CoP W B c1 c2 rs
 mi:MiP W B x1
theorem DataV.below {W W':World} {B:Nat} {rs:List Rec} {t1 t2 t3 t4 t5 a1 l1 a2 l2 a3 l3 a4 l4 a5 l5 c1 c2 x1:Value} (h:DataV W B rs t1 t2 t3 t4 t5 a1 l1 a2 l2 a3 l3 a4 l4 a5 l5 c1 c2 x1) (hb:Below W.heap.size W W'):DataV W' B rs t1 t2 t3 t4 t5 a1 l1 a2 l2 a3 l3 a4 l4 a5 l5 c1 c2 x1:=⟨h.p1.below hb,h.p2.below hb,h.p3.below hb,h.p4.below hb,h.p5.below hb,h.q1.below hb,h.q2.below hb,h.q3.below hb,h.q4.below hb,h.q5.below hb,h.co.below hb,h.mi.below hb⟩
def x0o (W:World) (B p:Nat) (rs:List Rec):Prop:=∃ t1 t2 t3 t4 t5 a1 l1 a2 l2 a3 l3 a4 l4 a5 l5 c1 c2 x1:Value,W.heap[p]?=some (.cells #[t1,t2,t3,t4,t5,a1,l1,a2,l2,a3,l3,a4,l4,a5,l5,c1,c2,x1] 87 (0,0))∧B≤p∧DataV W B rs t1 t2 t3 t4 t5 a1 l1 a2 l2 a3 l3 a4 l4 a5 l5 c1 c2 x1
theorem x0o.below {W W':World} {B p:Nat} {rs:List Rec} (h:x0o W B p rs) (hb:Below W.heap.size W W'):x0o W' B p rs:=by
 obtain ⟨t1,t2,t3,t4,t5,a1,l1,a2,l2,a3,l3,a4,l4,a5,l5,c1,c2,x1,h1,h2,h3⟩:=h;exact ⟨t1,t2,t3,t4,t5,a1,l1,a2,l2,a3,l3,a4,l4,a5,l5,c1,c2,x1,by rw [hb.block p (x4G h1)]; exact h1,h2,h3.below hb⟩
def CmdB (w:World) (rs:List Rec) (e:Ending) (w':World):Prop:=∃ p,e=.returned (.pointer (some ⟨p,0,none⟩))∧x0o w' w.heap.size p rs∧Below w.heap.size w w'
theorem x7f (v:Value) (rs:List Rec) (w:World) (hg:Glob w) (hv:Rcs w v rs) (hc:(Cn.check6 rs).2=0) (bW:∀ r∈rs,r.kind≠15→0≤Cn.value r∧Cn.value r≤65535) (h7:∀ r∈rs,r.kind=7→r.to.length=2∧0≤r.lo∧r.lo≤1114111) (h15:∀ r∈rs,r.kind=15→Sh r.name∧Sh r.other):Calls Tryz.prog 40 #[v] w (CmdB w rs):=by
 obtain ⟨hl,hall,_⟩:=Cn.x0m.1 hc;have av:∀ f:Int,f≠10→∀ r∈Cn.famOf f rs,r.kind≠15:=fun f hf r hr e=>hf (by rw [← (Cn.x0q.1 hr).2,e]; decide);have bQ:∀ f,(Cn.famOf f rs).length≤4096:=fun f=>Nat.le_trans (List.length_filter_le _ _) hl
 have KV:∀ (kind f:Int),Cn.fam kind=f→f≠10→f≠0→I64 kind→Hid (∀ W,Below w.heap.size w W→Calls Tryz.prog 75 #[v,.int .i64 kind] W (x4n W (Cn.rangesA (fun _ r=>Cn.value r) 1 (Cn.famOf f rs)))):=fun kind f e1 e2 e3 e4 W hW=>by
  subst e1;refine x8k v rs kind W (hg.on hW) (hv.below hW) e4 (fun r hr=>?_) (bQ _) (fun m hp hs=>(Cn.x9k (Cn.x8D hc ⟨e2,e3⟩) (fun k hk=>?_) hp hs).1)
  ·have:=bW r (Cn.x0q.1 hr).1 (av _ e2 r hr)
   exact ⟨hall r (Cn.x0q.1 hr).1,av _ e2 r hr,by omega,by omega⟩
  ·exact bW _ (Cn.x0q.1 (List.getElem_mem hk)).1 (av _ e2 _ (List.getElem_mem hk))
 have aX:∀ (kind f:Int),Cn.fam kind=f→f≠10→f≠0→I64 kind→Hid (∀ W,Below w.heap.size w W→Calls Tryz.prog 76 #[v,.int .i64 kind] W (SpkB W (Cn.famOf f rs))):=fun kind f e1 e2 e3 e4 W hW=>by
  subst e1;refine x5B v rs kind W (hg.on hW) (hv.below hW) e4 (fun r hr=>⟨hall r (Cn.x0q.1 hr).1,av _ e2 r hr⟩) (bQ _) (fun m hp hs=>(Cn.x5R hc ⟨e2,e3⟩ hp hs).1)
 have KC:Hid (∀ W,Below w.heap.size w W→Calls Tryz.prog 77 #[v] W (CmpB W rs)):=fun W hW=>x2Q v rs W (hv.below hW) h7 hl;have KM:Hid (∀ W,Below w.heap.size w W→Calls Tryz.prog 78 #[v] W (MxtB W)):=fun W hW=>x5z v rs W (hv.below hW) h15;have V1:=KV 1 1 (by decide) (by decide) (by decide) ⟨by omega,by omega⟩;have V2:=KV 6 2 (by decide) (by decide) (by decide) ⟨by omega,by omega⟩;have V3:=KV 9 4 (by decide) (by decide) (by decide) ⟨by omega,by omega⟩;have V4:=KV 10 5 (by decide) (by decide) (by decide) ⟨by omega,by omega⟩;have V5:=KV 11 6 (by decide) (by decide) (by decide) ⟨by omega,by omega⟩;have P1:=aX 3 1 (by decide) (by decide) (by decide) ⟨by omega,by omega⟩;have P2:=aX 7 3 (by decide) (by decide) (by decide) ⟨by omega,by omega⟩;have P3:=aX 12 7 (by decide) (by decide) (by decide) ⟨by omega,by omega⟩;have P4:=aX 13 8 (by decide) (by decide) (by decide) ⟨by omega,by omega⟩;have P5:=aX 14 9 (by decide) (by decide) (by decide) ⟨by omega,by omega⟩;obtain ⟨ao,cap,aY,_,_⟩:=hv.shape;clear KV aX hv hg bW h7 h15 hall av bQ hc;subst aY;have bm:=Hd (Below.refl w.heap.size w);go_enter Tryz.func40,Tryz.ntmps40;go_wp2_with fail;refine ((Uh V1) _ (Uh bm)).mono ?_;rintro e1 w1 ⟨b1,m1,rfl,u1,u2,u3,am⟩;have aw:=Hd (x0b (Uh bm) am);have ac:Hid (TrP w1 w.heap.size (.pointer (some b1)) (Cn.rangesA (fun _ r=>Cn.value r) 1 (Cn.famOf 1 rs))):=TrP.lower ⟨_,_,rfl,u1,u2,u3⟩ (Uh bm).size;clear V1 u1 u2 u3 am bm;go_wp2_with fail;refine ((Uh V2) _ (Uh aw)).mono ?_;rintro e2 w2 ⟨b2,m2,rfl,u1,u2,u3,aI⟩;have aN:=Hd (x0b (Uh aw) aI);have ae:Hid (TrP w2 w.heap.size (.pointer (some b2)) (Cn.rangesA (fun _ r=>Cn.value r) 1 (Cn.famOf 2 rs))):=TrP.lower ⟨_,_,rfl,u1,u2,u3⟩ (Uh aw).size;replace ac:=Hd ((Uh ac).below aI);clear V2 u1 u2 u3 aI aw;go_wp2_with fail;refine ((Uh V3) _ (Uh aN)).mono ?_;rintro e3 w3 ⟨b3,m3,rfl,u1,u2,u3,aB⟩;have bn:=Hd (x0b (Uh aN) aB);have af:Hid (TrP w3 w.heap.size (.pointer (some b3)) (Cn.rangesA (fun _ r=>Cn.value r) 1 (Cn.famOf 4 rs))):=TrP.lower ⟨_,_,rfl,u1,u2,u3⟩ (Uh aN).size;replace ac:=Hd ((Uh ac).below aB);replace ae:=Hd ((Uh ae).below aB);clear V3 u1 u2 u3 aB aN;go_wp2_with fail;refine ((Uh V4) _ (Uh bn)).mono ?_;rintro e4 w4 ⟨b4,m4,rfl,u1,u2,u3,bd⟩;have bo:=Hd (x0b (Uh bn) bd);have ah:Hid (TrP w4 w.heap.size (.pointer (some b4)) (Cn.rangesA (fun _ r=>Cn.value r) 1 (Cn.famOf 5 rs))):=TrP.lower ⟨_,_,rfl,u1,u2,u3⟩ (Uh bn).size;replace ac:=Hd ((Uh ac).below bd);replace ae:=Hd ((Uh ae).below bd);replace af:=Hd ((Uh af).below bd);clear V4 u1 u2 u3 bd bn;go_wp2_with fail;refine ((Uh V5) _ (Uh bo)).mono ?_;rintro e5 w5 ⟨b5,m5,rfl,u1,u2,u3,ar⟩;have bp:=Hd (x0b (Uh bo) ar);have ai:Hid (TrP w5 w.heap.size (.pointer (some b5)) (Cn.rangesA (fun _ r=>Cn.value r) 1 (Cn.famOf 6 rs))):=TrP.lower ⟨_,_,rfl,u1,u2,u3⟩ (Uh bo).size;replace ac:=Hd ((Uh ac).below ar);replace ae:=Hd ((Uh ae).below ar);replace af:=Hd ((Uh af).below ar);replace ah:=Hd ((Uh ah).below ar);clear V5 u1 u2 u3 ar bo;go_wp2_with fail;refine ((Uh P1) _ (Uh bp)).mono ?_;rintro e6 w6 ⟨g1,n1,y1,ps1,rfl,u1,u2,u3,u4,u5,aR⟩;have bq:=Hd (x0b (Uh bp) aR);have al:Hid (SpP w6 w.heap.size (.pointer (some g1)) y1 (Cn.famOf 1 rs)):=SpP.lower ⟨⟨_,_,rfl,u1,u2,u3⟩,_,u4,u5⟩ (Uh bp).size
 obtain ⟨cD,cy,ct,bX⟩:∃ o l c,y1=.slice o l c:=by
  rcases u4.1.2 with ⟨e,_⟩ | ⟨_,_,_,e,_⟩
  ·exact ⟨_,_,_,e⟩
  ·exact ⟨_,_,_,e⟩
 subst bX;replace ac:=Hd ((Uh ac).below aR);replace ae:=Hd ((Uh ae).below aR);replace af:=Hd ((Uh af).below aR);replace ah:=Hd ((Uh ah).below aR);replace ai:=Hd ((Uh ai).below aR);clear P1 u1 u2 u3 u4 u5 aR bp;go_wp2_with fail;refine ((Uh P2) _ (Uh bq)).mono ?_;rintro e7 w7 ⟨g2,n2,y2,ps2,rfl,u1,u2,u3,u4,u5,aJ⟩;have br:=Hd (x0b (Uh bq) aJ);have ap:Hid (SpP w7 w.heap.size (.pointer (some g2)) y2 (Cn.famOf 3 rs)):=SpP.lower ⟨⟨_,_,rfl,u1,u2,u3⟩,_,u4,u5⟩ (Uh bq).size
 obtain ⟨cE,cz,cu,bY⟩:∃ o l c,y2=.slice o l c:=by
  rcases u4.1.2 with ⟨e,_⟩ | ⟨_,_,_,e,_⟩
  ·exact ⟨_,_,_,e⟩
  ·exact ⟨_,_,_,e⟩
 subst bY;replace ac:=Hd ((Uh ac).below aJ);replace ae:=Hd ((Uh ae).below aJ);replace af:=Hd ((Uh af).below aJ);replace ah:=Hd ((Uh ah).below aJ);replace ai:=Hd ((Uh ai).below aJ);replace al:=Hd ((Uh al).below aJ);clear P2 u1 u2 u3 u4 u5 aJ bq;go_wp2_with fail;refine ((Uh P3) _ (Uh br)).mono ?_;rintro e8 w8 ⟨g3,n3,y3,ps3,rfl,u1,u2,u3,u4,u5,aC⟩;have bs:=Hd (x0b (Uh br) aC);have ax:Hid (SpP w8 w.heap.size (.pointer (some g3)) y3 (Cn.famOf 7 rs)):=SpP.lower ⟨⟨_,_,rfl,u1,u2,u3⟩,_,u4,u5⟩ (Uh br).size
 obtain ⟨cF,cA,cv,cS⟩:∃ o l c,y3=.slice o l c:=by
  rcases u4.1.2 with ⟨e,_⟩ | ⟨_,_,_,e,_⟩
  ·exact ⟨_,_,_,e⟩
  ·exact ⟨_,_,_,e⟩
 subst cS;replace ac:=Hd ((Uh ac).below aC);replace ae:=Hd ((Uh ae).below aC);replace af:=Hd ((Uh af).below aC);replace ah:=Hd ((Uh ah).below aC);replace ai:=Hd ((Uh ai).below aC);replace al:=Hd ((Uh al).below aC);replace ap:=Hd ((Uh ap).below aC);clear P3 u1 u2 u3 u4 u5 aC br;go_wp2_with fail;refine ((Uh P4) _ (Uh bs)).mono ?_;rintro e9 w9 ⟨g4,n4,y4,ps4,rfl,u1,u2,u3,u4,u5,ay⟩;have bt:=Hd (x0b (Uh bs) ay);have aH:Hid (SpP w9 w.heap.size (.pointer (some g4)) y4 (Cn.famOf 8 rs)):=SpP.lower ⟨⟨_,_,rfl,u1,u2,u3⟩,_,u4,u5⟩ (Uh bs).size
 obtain ⟨cG,cB,cw,cT⟩:∃ o l c,y4=.slice o l c:=by
  rcases u4.1.2 with ⟨e,_⟩ | ⟨_,_,_,e,_⟩
  ·exact ⟨_,_,_,e⟩
  ·exact ⟨_,_,_,e⟩
 subst cT;replace ac:=Hd ((Uh ac).below ay);replace ae:=Hd ((Uh ae).below ay);replace af:=Hd ((Uh af).below ay);replace ah:=Hd ((Uh ah).below ay);replace ai:=Hd ((Uh ai).below ay);replace al:=Hd ((Uh al).below ay);replace ap:=Hd ((Uh ap).below ay);replace ax:=Hd ((Uh ax).below ay);clear P4 u1 u2 u3 u4 u5 ay bs;go_wp2_with fail;refine ((Uh P5) _ (Uh bt)).mono ?_;rintro e10 cs ⟨g5,n5,y5,ps5,rfl,u1,u2,u3,u4,u5,ad⟩;have az:=Hd (x0b (Uh bt) ad);have aW:Hid (SpP cs w.heap.size (.pointer (some g5)) y5 (Cn.famOf 9 rs)):=SpP.lower ⟨⟨_,_,rfl,u1,u2,u3⟩,_,u4,u5⟩ (Uh bt).size
 obtain ⟨cH,cC,cx,cU⟩:∃ o l c,y5=.slice o l c:=by
  rcases u4.1.2 with ⟨e,_⟩ | ⟨_,_,_,e,_⟩
  ·exact ⟨_,_,_,e⟩
  ·exact ⟨_,_,_,e⟩
 subst cU;replace ac:=Hd ((Uh ac).below ad);replace ae:=Hd ((Uh ae).below ad);replace af:=Hd ((Uh af).below ad);replace ah:=Hd ((Uh ah).below ad);replace ai:=Hd ((Uh ai).below ad);replace al:=Hd ((Uh al).below ad);replace ap:=Hd ((Uh ap).below ad);replace ax:=Hd ((Uh ax).below ad);replace aH:=Hd ((Uh aH).below ad);clear P5 u1 u2 u3 u4 u5 ad bt;go_wp2_with fail;refine ((Uh KC) _ (Uh az)).mono ?_;rintro e11 cY ⟨r1,r2,rfl,u1,u2,u3,u4,ab⟩;have aA:=Hd (x0b (Uh az) ab);have bu:Hid (CoP cY w.heap.size (.map (some r1)) (.map (some r2)) rs):=CoP.lower ⟨_,_,rfl,rfl,u1,u2,u3,u4⟩ (Uh az).size;replace ac:=Hd ((Uh ac).below ab);replace ae:=Hd ((Uh ae).below ab);replace af:=Hd ((Uh af).below ab);replace ah:=Hd ((Uh ah).below ab);replace ai:=Hd ((Uh ai).below ab);replace al:=Hd ((Uh al).below ab);replace ap:=Hd ((Uh ap).below ab);replace ax:=Hd ((Uh ax).below ab);replace aH:=Hd ((Uh aH).below ab);replace aW:=Hd ((Uh aW).below ab);clear KC u1 u2 u3 u4 ab az;go_wp2_with fail;refine ((Uh KM) _ (Uh aA)).mono ?_;rintro e12 aL ⟨r3,rfl,u1,u2,aa⟩;have aM:=Hd (x0b (Uh aA) aa);have b9:Hid (MiP aL w.heap.size (.map (some r3))):=MiP.lower ⟨_,rfl,u1,u2⟩ (Uh aA).size;replace ac:=Hd ((Uh ac).below aa);replace ae:=Hd ((Uh ae).below aa);replace af:=Hd ((Uh af).below aa);replace ah:=Hd ((Uh ah).below aa);replace ai:=Hd ((Uh ai).below aa);replace al:=Hd ((Uh al).below aa);replace ap:=Hd ((Uh ap).below aa);replace ax:=Hd ((Uh ax).below aa);replace aH:=Hd ((Uh aH).below aa);replace aW:=Hd ((Uh aW).below aa);replace bu:=Hd ((Uh bu).below aa);clear KM u1 u2 aa aA
 have HF:Hid (CmdB w rs (.returned (.pointer (some ⟨aL.heap.size,0,none⟩))) (aL.alloc (.cells #[.pointer (some b1),.pointer (some b2),.pointer (some b3),.pointer (some b4),.pointer (some b5),.pointer (some g1),.slice cD cy ct,.pointer (some g2),.slice cE cz cu,.pointer (some g3),.slice cF cA cv,.pointer (some g4),.slice cG cB cw,.pointer (some g5),.slice cH cC cx,.map (some r1),.map (some r2),.map (some r3)] 87))):=by
  have an:Below aL.heap.size aL (aL.alloc (.cells #[.pointer (some b1),.pointer (some b2),.pointer (some b3),.pointer (some b4),.pointer (some b5),.pointer (some g1),.slice cD cy ct,.pointer (some g2),.slice cE cz cu,.pointer (some g3),.slice cF cA cv,.pointer (some g4),.slice cG cB cw,.pointer (some g5),.slice cH cC cx,.map (some r1),.map (some r2),.map (some r3)] 87)):=(Below.refl _ _).alloc (Nat.le_refl _) _;refine ⟨_,rfl,⟨_,_,_,_,_,_,_,_,_,_,_,_,_,_,_,_,_,_,?_,(Uh aM).size,(Uh ac).below an,(Uh ae).below an,(Uh af).below an,(Uh ah).below an,(Uh ai).below an,(Uh al).below an,(Uh ap).below an,(Uh ax).below an,(Uh aH).below an,(Uh aW).below an,(Uh bu).below an,(Uh b9).below an⟩,x0b (Uh aM) an⟩;show (aL.heap.push _)[aL.heap.size]?=_;simp
 clear ac ae af ah ai al ap ax aH aW bu b9 aM;go_wp2;go_ret;exact Uh HF
def CpB (w:World) (rs:List Rec) (e:Ending) (w':World):Prop:=Below w.heap.size w w'∧((¬ (Cn.check rs).2=0∧e=.returned (.tuple #[.pointer none,.int .i64 ((Cn.check rs).1:Int),.int .i64 (Cn.check rs).2]))∨((Cn.check rs).2=0∧∃ p,e=.returned (.tuple #[.pointer (some ⟨p,0,none⟩),.int .i64 0,.int .i64 0])∧x0o w' w.heap.size p rs))
theorem x7e (v:Value) (rs:List Rec) (w:World) (hv:Rcs w v rs) (KC:Calls Tryz.prog 39 #[v] w (x2M w (Cn.check rs))) (KD:(Cn.check rs).2=0→∀ W,Below w.heap.size w W→Calls Tryz.prog 40 #[v] W (CmdB W rs)):Calls Tryz.prog 20 #[v] w (CpB w rs):=by
 have K1:=Hd KC;unfold x2M at K1;have KD:=Hd KD;obtain ⟨ao,cap,aY,_,_⟩:=hv.shape;clear hv KC;unfold CpB;by_cases h:(Cn.check rs).2=0
 ·have ch:=Hd ((Uh KD) h)
  have HX:=Hd h;generalize hck:Cn.check rs=q at *;obtain ⟨q1,q2⟩:=q;simp only at h;subst h;subst aY;clear KD hck;go_enter Tryz.func20,Tryz.ntmps20;go_wp2_with fail;refine (Uh K1).mono ?_;rintro e1 w1 ⟨rfl,am⟩;have K2:=Hd ((Uh ch) w1 am);have aw:=Hd am;clear K1 ch am;go_wp2_with fail;refine (Uh K2).mono ?_;rintro e2 w2 ⟨p,rfl,hD,aI⟩;have aN:=Hd (x0b (Uh aw) aI)
  have HD:Hid (x0o w2 w.heap.size p rs):=by
   obtain ⟨t1,t2,t3,t4,t5,a1,l1,a2,l2,a3,l3,a4,l4,a5,l5,c1,c2,x1,h1,h2,h3⟩:=hD;have hs:=(Uh aw).size;exact ⟨t1,t2,t3,t4,t5,a1,l1,a2,l2,a3,l3,a4,l4,a5,l5,c1,c2,x1,h1,by omega,h3.p1.lower hs,h3.p2.lower hs,h3.p3.lower hs,h3.p4.lower hs,h3.p5.lower hs,h3.q1.lower hs,h3.q2.lower hs,h3.q3.lower hs,h3.q4.lower hs,h3.q5.lower hs,h3.co.lower hs,h3.mi.lower hs⟩
  clear K2 hD aI aw;go_wp2;go_ret3;exact ⟨Uh aN,.inr ⟨Uh HX,p,rfl,Uh HD⟩⟩
 ·have HX:=Hd h
  generalize hck:Cn.check rs=q at *;obtain ⟨q1,q2⟩:=q;simp only at h;have hq:(q2 != 0)=true:=bne_iff_ne.2 h;subst aY;clear KD hck h;go_enter Tryz.func20,Tryz.ntmps20;go_wp2_with fail;refine (Uh K1).mono ?_;rintro e1 w1 ⟨rfl,am⟩;have aw:=Hd am;clear K1 am;go_wp2;go_ret3;exact ⟨Uh aw,.inl ⟨Uh HX,rfl⟩⟩
open Ti
namespace Cn
theorem x3D {r:Rec} {a b c d:Bool} (h:bare r false a b c d=true):r.n=0:=by
 unfold bare at h;simp only [Bool.and_eq_true,Bool.false_or,decide_eq_true_eq] at h;exact h.1.1.1.1
theorem x7X {r:Rec} (h:right r=0) (hk:r.kind≠15) (h1:r.kind≠4):0≤r.n∧r.n≤254:=by
 have hf:=x0D h
 have bP:1≤r.kind∧r.kind≤15:=by
  unfold fam at hf;split at hf
  ·exact absurd rfl hf
  ·omega
 unfold right at h;rw [if_neg hf,if_neg hk] at h;have hc:=x1M h;rw [Bool.and_eq_true] at hc;have h2:=hc.2;clear hc h;by_cases k1:r.kind=1∨r.kind=2∨r.kind=11
 ·rw [if_pos k1] at h2
  have:=x3D h2; omega
 rw [if_neg k1] at h2;by_cases k3:r.kind=3
 ·rw [if_pos k3] at h2
  simp only [Bool.and_eq_true] at h2;have:=x3D h2.1; omega
 rw [if_neg k3,if_neg h1] at h2;by_cases k5:r.kind=5
 ·rw [if_pos k5] at h2
  simp only [Bool.and_eq_true] at h2;have:=x3D h2.1.2; omega
 rw [if_neg k5] at h2;by_cases k13:r.kind=13
 ·rw [if_pos k13] at h2
  simp only [Bool.and_eq_true] at h2;have:=x3D h2.1.2; omega
 rw [if_neg k13] at h2;by_cases k6:r.kind=6
 ·rw [if_pos k6] at h2
  simp only [Bool.and_eq_true] at h2;have:=of_decide_eq_true h2.2; omega
 rw [if_neg k6] at h2;by_cases k7:r.kind=7
 ·rw [if_pos k7] at h2
  simp only [Bool.and_eq_true] at h2;have:=x3D h2.1.2; omega
 rw [if_neg k7] at h2;by_cases k8:r.kind=8
 ·rw [if_pos k8] at h2
  simp only [Bool.and_eq_true] at h2;have:=x3D h2.1.2; omega
 rw [if_neg k8] at h2;by_cases k9:r.kind=9
 ·rw [if_pos k9] at h2
  simp only [Bool.and_eq_true] at h2;have:=of_decide_eq_true h2.2; omega
 rw [if_neg k9] at h2;by_cases k10:r.kind=10
 ·rw [if_pos k10] at h2
  simp only [Bool.and_eq_true] at h2;have:=of_decide_eq_true h2.2; omega
 rw [if_neg k10] at h2;by_cases k12:r.kind=12
 ·rw [if_pos k12] at h2
  simp only [Bool.and_eq_true] at h2;have:=x3D h2.1; omega
 rw [if_neg k12] at h2;simp only [Bool.and_eq_true] at h2;have:=x3D h2.1; omega
theorem x5a {r:Rec} (h:right r=0) (hk:r.kind≠15):0≤value r∧value r≤65535:=by
 unfold value;split
 ·omega
 ·split
  ·omega
  ·split
   ·omega
   ·rename_i h34
    split
    ·omega
    ·split
     ·omega
     ·have:=x7X h hk (fun e=>h34 (.inr e)); omega
theorem x5N {b:ByteArray} (h:nameL b=true):b.size=4:=by
 unfold nameL at h;split at h
 ·rename_i a b c d he
  have:=congrArg List.length he;simpa using this
 ·cases h
theorem y4l {r:Rec} (h:right r=0) (h15:r.kind=15):r.name.size=4∧r.other.size=4:=by
 have hf:=x0D h;unfold right at h;rw [if_neg hf,if_pos h15] at h;obtain ⟨_,_,_,h1,h2,_⟩:=x1M h;exact ⟨x5N h1,x5N h2⟩
theorem x3M {c:Int} (h:scalar c=true):0≤c∧c≤1114111:=by
 unfold scalar at h;have:=of_decide_eq_true h;omega
end Cn
theorem x8y (v:Value) (rs:List Rec) (w:World) (hg:Glob w) (hv:Rcs w v rs):Calls Tryz.prog 20 #[v] w (CpB w rs):=by
 refine x7e v rs w hv (y9F v rs w hg hv) fun h0 W hW=>?_;have h6:=(Cn.x0S.1 h0).1;obtain ⟨_,hall,_⟩:=Cn.x0m.1 h6;refine x7f v rs W (hg.on hW) (hv.below hW) h6 (fun r hr hk=>Cn.x5a (hall r hr) hk) (fun r hr h7=>?_) (fun r hr h15=>?_)
 ·obtain ⟨_,h2,h3⟩:=Cn.x0z (hall r hr) h7
  have h4:=(Cn.x0X h3).1;have h5:=Cn.x3M h2;exact ⟨by omega,h5.1,h5.2⟩
 ·obtain ⟨h1,h2⟩:=Cn.y4l (hall r hr) h15
  exact ⟨by unfold Sh; omega,by unfold Sh; omega⟩
section
variable {W W':World} {B p:Nat} {v vl c1 c2 x:Value} {xs:List Tri.Rg} {fs rs:List Rec}
theorem TrP.keep (h:TrP W B v xs) (hs:W.heap.size≤W'.heap.size) (hk:∀ k,B≤k→k<W.heap.size→W'.heap[k]?=W.heap[k]?):TrP W' B v xs:=by
 obtain ⟨a,m,e,p,s,t⟩:=h;exact ⟨a,m,e,p,s,T4.keep t hs hk⟩
theorem SpP.keep (h:SpP W B v vl fs) (hs:W.heap.size≤W'.heap.size) (hk:∀ k,B≤k→k<W.heap.size→W'.heap[k]?=W.heap[k]?):SpP W' B v vl fs:=by
 obtain ⟨t,ps,hr,e⟩:=h;exact ⟨t.keep hs hk,ps,⟨x4j hr.1 hk,fun p hp=>⟨(hr.2 p hp).1,(hr.2 p hp).2.1,x4j (hr.2 p hp).2.2 hk⟩⟩,e⟩
theorem GAt.keep {K:Value→Prop} {r:Nat} {c:Value→Option Value} (h:GAt K W r c) (hr:B≤r) (hk:∀ k,B≤k→k<W.heap.size→W'.heap[k]?=W.heap[k]?):GAt K W' r c:=by
 obtain ⟨es,cl,h1,h2⟩:=h;exact ⟨es,cl,by rw [hk r hr (x4G h1)]; exact h1,h2⟩
theorem x0o.keep (h:x0o W B p rs) (hs:W.heap.size≤W'.heap.size) (hk:∀ k,B≤k→k<W.heap.size→W'.heap[k]?=W.heap[k]?):x0o W' B p rs:=by
 obtain ⟨t1,t2,t3,t4,t5,a1,l1,a2,l2,a3,l3,a4,l4,a5,l5,c1,c2,x1,h1,h2,h3⟩:=h;refine ⟨t1,t2,t3,t4,t5,a1,l1,a2,l2,a3,l3,a4,l4,a5,l5,c1,c2,x1,by rw [hk p h2 (x4G h1)]; exact h1,h2,⟨h3.p1.keep hs hk,h3.p2.keep hs hk,h3.p3.keep hs hk,h3.p4.keep hs hk,h3.p5.keep hs hk,h3.q1.keep hs hk,h3.q2.keep hs hk,h3.q3.keep hs hk,h3.q4.keep hs hk,h3.q5.keep hs hk,?_,?_⟩⟩
 ·obtain ⟨r1,r2,e1,e2,b1,b2,g1,g2⟩:=h3.co
  exact ⟨r1,r2,e1,e2,b1,b2,g1.keep b1 hk,g2.keep b2 hk⟩
 ·obtain ⟨r,e,b,c,g⟩:=h3.mi
  exact ⟨r,e,b,c,g.keep b hk⟩
theorem x0o.lower {B':Nat} (h:x0o W B p rs) (hs:B'≤B):x0o W B' p rs:=by
 obtain ⟨t1,t2,t3,t4,t5,a1,l1,a2,l2,a3,l3,a4,l4,a5,l5,c1,c2,x1,h1,h2,h3⟩:=h;exact ⟨t1,t2,t3,t4,t5,a1,l1,a2,l2,a3,l3,a4,l4,a5,l5,c1,c2,x1,h1,by omega,h3.p1.lower hs,h3.p2.lower hs,h3.p3.lower hs,h3.p4.lower hs,h3.p5.lower hs,h3.q1.lower hs,h3.q2.lower hs,h3.q3.lower hs,h3.q4.lower hs,h3.q5.lower hs,h3.co.lower hs,h3.mi.lower hs⟩
end
open Ti
namespace Cn
def vget (rs:List Rec) (f c:Int):Int:=match hit rs f c with | some r=>value r | Option.none=>0
def rget (rs:List Rec) (f c:Int):Rec:=match hit rs f c with | some r=>r | Option.none=>none
end Cn
def y1L (w:World) (b:Bool) (e:Ending) (w':World):Prop:=e=.returned (.bool b)∧∃ m,w'=w.drewN m
theorem tget {W:World} {B:Nat} {t:Value} {rs:List Rec} {f:Int} (hT:TrP W B t (Cn.rangesA (fun _ r=>Cn.value r) 1 (Cn.famOf f rs))) (h6:(Cn.check6 rs).2=0) (hf:f≠10∧f≠0) (c:Int) (hc:Fi c):Calls Tryz.prog 35 #[t,.int .i64 c] W (x0Z W (Cn.vget rs f c)):=by
 obtain ⟨a,m,e,hp,hs,t4⟩:=hT;have hall:=(Cn.x0m.1 h6).2.1;have hv:=Cn.y1H h6 hf (fun r hr hfr=>Cn.x5a (hall r hr) (fun e=>hf.1 (by rw [← hfr,e]; decide))) hp hs;have:=get4 t m 0 c W ⟨B,t4⟩ hc;rw [hv.2 c] at this;exact this
theorem x5e {B p:Nat} {rs:List Rec} (c:Int) (w:World) (hD:x0o w B p rs) (h6:(Cn.check6 rs).2=0) (hc:Rune c):Calls Tryz.prog 16 #[.pointer (some ⟨p,0,none⟩),.int .i32 c] w (x0Z w (Cn.vget rs 1 c)):=by
 obtain ⟨t1,t2,t3,t4,t5,a1,l1,a2,l2,a3,l3,a4,l4,a5,l5,c1,c2,x1,h1,h2,h3⟩:=hD;obtain ⟨bC,bD⟩:=hc;have K:=Hd (tget h3.p1 h6 (by decide) c ⟨by omega,by omega⟩);have x:w.cell? ⟨p,0,none⟩=some t1:=cell_of (j:=0) h1 (by show 0<18; omega);obtain ⟨a,m,e,-⟩:=h3.p1;subst e;clear h1 h2 h3 h6;generalize Cn.vget rs 1 c=vv at *;go_enter Tryz.func16,Tryz.ntmps16;go_wp2_with (go_at_call 35; refine (Uh K).mono ?_; rintro e wq ⟨rfl,mm,rfl⟩; clear K);go_ret;exact ⟨rfl,mm,rfl⟩
theorem x5G {B p:Nat} {rs:List Rec} (c:Int) (w:World) (hD:x0o w B p rs) (h6:(Cn.check6 rs).2=0) (hc:Rune c):Calls Tryz.prog 134 #[.pointer (some ⟨p,0,none⟩),.int .i32 c] w (x0Z w (Cn.vget rs 2 c)):=by
 obtain ⟨t1,t2,t3,t4,t5,a1,l1,a2,l2,a3,l3,a4,l4,a5,l5,c1,c2,x1,h1,h2,h3⟩:=hD;obtain ⟨bC,bD⟩:=hc;have K:=Hd (tget h3.p2 h6 (by decide) c ⟨by omega,by omega⟩);have x:w.cell? ⟨p,1,none⟩=some t2:=cell_of (j:=1) h1 (by show 1<18; omega);obtain ⟨a,m,e,-⟩:=h3.p2;subst e;clear h1 h2 h3 h6;generalize Cn.vget rs 2 c=vv at *;go_enter Tryz.func134,Tryz.ntmps134;go_wp2_with (go_at_call 35; refine (Uh K).mono ?_; rintro e wq ⟨rfl,mm,rfl⟩; clear K);go_ret;exact ⟨rfl,mm,rfl⟩
theorem y2d {B p:Nat} {rs:List Rec} (c:Int) (w:World) (hD:x0o w B p rs) (h6:(Cn.check6 rs).2=0) (hc:Rune c):Calls Tryz.prog 199 #[.pointer (some ⟨p,0,none⟩),.int .i32 c] w (x0Z w (Cn.vget rs 4 c)):=by
 obtain ⟨t1,t2,t3,t4,t5,a1,l1,a2,l2,a3,l3,a4,l4,a5,l5,c1,c2,x1,h1,h2,h3⟩:=hD;obtain ⟨bC,bD⟩:=hc;have K:=Hd (tget h3.p3 h6 (by decide) c ⟨by omega,by omega⟩);have x:w.cell? ⟨p,2,none⟩=some t3:=cell_of (j:=2) h1 (by show 2<18; omega);obtain ⟨a,m,e,-⟩:=h3.p3;subst e;clear h1 h2 h3 h6;generalize Cn.vget rs 4 c=vv at *;go_enter Tryz.func199,Tryz.ntmps199;go_wp2_with (go_at_call 35; refine (Uh K).mono ?_; rintro e wq ⟨rfl,mm,rfl⟩; clear K);go_ret;exact ⟨rfl,mm,rfl⟩
theorem y3p {B p:Nat} {rs:List Rec} (c:Int) (w:World) (hD:x0o w B p rs) (h6:(Cn.check6 rs).2=0) (hc:Rune c):Calls Tryz.prog 237 #[.pointer (some ⟨p,0,none⟩),.int .i32 c] w (x0Z w (Cn.vget rs 5 c)):=by
 obtain ⟨t1,t2,t3,t4,t5,a1,l1,a2,l2,a3,l3,a4,l4,a5,l5,c1,c2,x1,h1,h2,h3⟩:=hD;obtain ⟨bC,bD⟩:=hc;have K:=Hd (tget h3.p4 h6 (by decide) c ⟨by omega,by omega⟩);have x:w.cell? ⟨p,3,none⟩=some t4:=cell_of (j:=3) h1 (by show 3<18; omega);obtain ⟨a,m,e,-⟩:=h3.p4;subst e;clear h1 h2 h3 h6;generalize Cn.vget rs 5 c=vv at *;go_enter Tryz.func237,Tryz.ntmps237;go_wp2_with (go_at_call 35; refine (Uh K).mono ?_; rintro e wq ⟨rfl,mm,rfl⟩; clear K);go_ret;exact ⟨rfl,mm,rfl⟩
theorem x7E {B p:Nat} {rs:List Rec} (c:Int) (w:World) (hD:x0o w B p rs) (h6:(Cn.check6 rs).2=0) (hc:Rune c):Calls Tryz.prog 17 #[.pointer (some ⟨p,0,none⟩),.int .i32 c] w (y1L w (Cn.vget rs 6 c != 0)):=by
 obtain ⟨t1,t2,t3,t4,t5,a1,l1,a2,l2,a3,l3,a4,l4,a5,l5,c1,c2,x1,h1,h2,h3⟩:=hD;obtain ⟨bC,bD⟩:=hc;have K:=Hd (tget h3.p5 h6 (by decide) c ⟨by omega,by omega⟩);have x:w.cell? ⟨p,4,none⟩=some t5:=cell_of (j:=4) h1 (by show 4<18; omega);obtain ⟨a,m,e,-⟩:=h3.p5;subst e;clear h1 h2 h3 h6;generalize Cn.vget rs 6 c=vv at *;go_enter Tryz.func17,Tryz.ntmps17;go_wp2_with (go_at_call 35; refine (Uh K).mono ?_; rintro e wq ⟨rfl,mm,rfl⟩; clear K);go_ret;exact ⟨rfl,mm,rfl⟩
namespace Cn
theorem y3u {k f:Int} (h:fam k=f):(f=1→1≤k∧k≤5)∧(f=2→k=6)∧(3<f→k=f+5):=by
 subst h;unfold fam;split
 ·omega
 ·split
  ·omega
  ·split
   ·omega
   ·split <;> omega
variable {rs:List Rec}
theorem y4O {r:Rec} (h:6≤r.kind) (h2:r.kind≠11):value r=r.n:=by
 unfold value;rw [if_neg (by omega),if_neg (by omega),if_neg (by omega),if_neg (by omega),if_neg h2]
theorem y6J (h6:(check6 rs).2=0) (c:Int):cls rs c=vget rs 2 c:=by
 unfold cls vget
 cases he:hit rs 2 c with
 | none=>rfl
 | some r =>
  have hk:=(y3u ((x1K h6 (by decide) r).1 he).2.1).2.1 rfl;exact (y4O (by omega) (by omega)).symm
end Cn
end Go.Proofs.YtkglkajjofidoaaGreatDoor
