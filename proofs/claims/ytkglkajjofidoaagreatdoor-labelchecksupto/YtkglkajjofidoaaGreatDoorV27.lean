/- Ul9 Us9 Ut9 Uv9 Uw9 Uy9 -/
import Derived.Test.YtkglkajjofidoaaGreatDoorV25
import Derived.Test.YtkglkajjofidoaaGreatDoorV28
set_option maxHeartbeats 8000000
set_option maxRecDepth 8000
namespace Go.Proofs.YtkglkajjofidoaaGreatDoor
open Go.Proofs.Tryz
open Go.RowKit
open Ti
theorem x5P (v:Value) (rs:List Rec) (kind:Int) (w:World) (hg:Glob w) (hv:Rcs w v rs) (hk:I64 kind) (ct:∀ r∈Cn.famOf (Cn.fam kind) rs,Cn.right r=0/\r.kind≠15) (hl:(Cn.famOf (Cn.fam kind) rs).length<=4096) (hval:∀ m:List Tri.Rg,m.Perm (Cn.rangesA (fun i _=>(i:Int)) 1 (Cn.famOf (Cn.fam kind) rs))->(m.Pairwise fun x y=>Tri.lo x<=Tri.lo y)->Tri.Val 0 m):Calls prog 76 #[v,.int .i64 kind] w (SpkB w (Cn.famOf (Cn.fam kind) rs)):=by
 obtain ⟨i0,cQ,c3,c4,c6⟩:=info_parts Tryz.info208;obtain ⟨i1,cR,cW,b0,b6⟩:=info_parts Tryz.info50;obtain ⟨W1,W2,hW1,cP,bz,bW,cU,bb⟩:=z0u w;have K1:=O (x3Q v rs kind W2 (hg.on bz) (hv.below bz) hk);unfold FamB at K1
 have bh:W2.heap[w.heap.size+1]?=some (.cells #[.int .i64 0,.int .i64 0,.int .i64 0,.int .i64 0,.slice none 0 0,.string ⟨#[]⟩,.string ⟨#[]⟩,.float .f64 0] 50 (0,0)):=by
  rw [<- cP,<- bW];show (W1.heap.push _)[W1.heap.size]?=_;simp
 obtain ⟨ao,cap,aY,_,_⟩:=hv.shape;generalize Cn.famOf (Cn.fam kind) rs=fs at *;have bw:=O ct;have aQ:=O hval;have cd:=O bb;have b7:=O bh;have aN:=O bz;have ch:=O cU;clear hv hg ct hval bb bh bz;subst aY;go_enter func76,ntmps76;go_wp2_with fail;refine (V K1).mono ?_;rintro e1 w1 ⟨v1,qs,rfl,bV,hR,am⟩;have cS:qs.length=fs.length:=(by rw [<- bV,List.length_map]);have bH:Rcs w1 v1 fs:=(by rw [<- bV]; exact hR.rsx.rcs am (by omega));have aP:=O (V cd w1 am)
 have aK:w1.heap[w.heap.size+1]?=some (.cells #[.int .i64 0,.int .i64 0,.int .i64 0,.int .i64 0,.slice none 0 0,.string ⟨#[]⟩,.string ⟨#[]⟩,.float .f64 0] 50 (0,0)):=by
  rw [am.block _ (by have:=V ch; omega)]; exact V b7
 have bx:Hid (∀ k,(Cn.rangesA (fun i _=>(i:Int)) 1 (fs.take k)).length<=4563402752):=fun k=>by
  have h1:=Cn.x2P (g:=fun i _=>(i:Int)) (fs.take k) 1 (fun r hr=>V bw r (List.mem_of_mem_take hr));have h2:(fs.take k).length<=fs.length:=List.length_take_le' _ _;omega
 have aO:Hid (∀ k,k<fs.length->∃ b off cap va,v1=.slice (some ⟨b,off,none⟩) fs.length cap/\RecFit (fs.getD k Cn.none)/\∀ W:World,(∀ g,g<w1.heap.size->g≠w.heap.size+1->W.heap[g]?=w1.heap[g]?)->(W.cell? ⟨b,off+k * 8,none⟩=some (.int .i64 (fs.getD k Cn.none).kind)/\W.cell? ⟨b,off+k * 8+1,none⟩=some (.int .i64 (fs.getD k Cn.none).lo)/\W.cell? ⟨b,off+k * 8+2,none⟩=some (.int .i64 (fs.getD k Cn.none).hi)/\W.cell? ⟨b,off+k * 8+3,none⟩=some (.int .i64 (fs.getD k Cn.none).n)/\W.cell? ⟨b,off+k * 8+4,none⟩=some va/\W.cell? ⟨b,off+k * 8+5,none⟩=some (.string (fs.getD k Cn.none).name)/\W.cell? ⟨b,off+k * 8+6,none⟩=some (.string (fs.getD k Cn.none).other)/\W.cell? ⟨b,off+k * 8+7,none⟩=some (.float .f64 (fs.getD k Cn.none).wt))/\Sk .i32 W va (fs.getD k Cn.none).to):=fun k hk=>by
  obtain ⟨b,off,cap,he,_,_,hc⟩:=bH.place (by omega);have hbb:W2.heap.size<=b:=(hR.1.lt b (by rw [he]; rfl)).1;have aI:b≠w.heap.size+1:=(by have:=V ch; omega);obtain ⟨y0,y1,y2,y3,⟨va,y4,bm⟩,y5,y6,y7⟩:=hc k hk;refine ⟨b,off,cap,va,he,bH.fit hk,fun W hW=>?_⟩;have e:∀ j,W.cell? ⟨b,j,none⟩=w1.cell? ⟨b,j,none⟩:=fun j=>World.cell?_of_block (hW b (x0a y0) aI);exact ⟨⟨by rw [e]; exact y0,by rw [e]; exact y1,by rw [e]; exact y2,by rw [e]; exact y3,by rw [e]; exact y4,by rw [e]; exact y5,by rw [e]; exact y6,by rw [e]; exact y7⟩,z2s aK hW bm⟩
 have bI:Hid (∀ k,k<fs.length->Cn.rangesA (fun i _=>(i:Int)) 1 (fs.take (k+1))=Cn.rangesA (fun i _=>(i:Int)) 1 (fs.take k)++Cn.spoken (fs.getD k Cn.none) ((1+k:Nat):Int)/\fs.take (k+1)=fs.take k++[fs.getD k Cn.none]):=fun k hk=>by
  have e:fs.take (k+1)=fs.take k++[fs.getD k Cn.none]:=by
   rw [List.take_add_one];simp [List.getD,hk]
  rw [e,Cn.x2s,List.length_take,Nat.min_eq_left (by omega)];exact ⟨rfl,rfl⟩
 obtain ⟨ao1,cap1,bY,_,_⟩:=bH.shape;subst bY;clear K1 bV hR bH cS am cd b7 aK;go_wp2;go_loopw [5,6,8,15] (fun lv rv _ iv wr=>∃ (k:Nat) (ps:List (Rec × Value)),iv=.int .i64 k/\k<=fs.length/\ps.map (·.1)=Cn.none :: fs.take k/\ps.length=k+1/\(∃ lo cap,lv=.slice lo (k+1) cap/\cap<=9223372036854775807)/\Spst w w1 wr rv lv (Cn.rangesA (fun i _=>(i:Int)) 1 (fs.take k)) ps) (fun _ _ _ iv _=>fs.length - (intOf iv).toNat)
 case atStart=>exact ⟨0,[(Cn.none,.slice none 0 0)],rfl,by omega,rfl,rfl,⟨_,_,by first | rfl | (rw [bW]; rfl),by omega⟩,by first | exact V aP | (rw [bW]; exact V aP)⟩
 case round =>
  obtain ⟨k,ps,rfl,hk,bU,bG,⟨aE,ag,rfl,hc5⟩,hS⟩:=hrel;clear aP;by_cases hlt:k<fs.length
  ·obtain ⟨b,off,bJ,va,he,aU,bL⟩:=V aO k hlt;obtain ⟨q1,q2,q3⟩:=Value.slice.inj he;clear q2 q3 he;subst q1;obtain ⟨hr1,hr2⟩:=V bw (fs.getD k Cn.none) (by simp [List.getD,hlt]);obtain ⟨cj,cO⟩:=V bI k hlt;have cw:=V bx k;obtain ⟨⟨x0,x1,x2,x3,x4,x5,x6,x7⟩,bm⟩:=bL wr hS.old;obtain ⟨aV,ak,rfl,_,_⟩:=bm.shape;clear aO bI aQ bx bw;generalize fs.getD k Cn.none=r at *;have hv0:Fi (((1+k:Nat):Int)):=⟨by omega,by omega⟩;have cu:=x8F r ((1+k:Nat):Int) hr1 hr2;have cV:=Cn.x3J hr1 hr2 ((1+k:Nat):Int);have bR:(((1+k:Nat):Int))=(k:Int)+1:=(by omega);have be:=hS.bel;obtain ⟨V1,bO⟩:∃ V1,wr.alloc (.cells #[.int .i64 r.kind,.int .i64 r.lo,.int .i64 r.hi,.int .i64 r.n,.slice aV r.to.length ak,.string r.name,.string r.other,.float .f64 r.wt] 50)=V1:=⟨_,rfl⟩;have bP:Bw wr V1:=by rw [<- bO]; exact (b0r).alloc (l0r _) _
   have aS:V1.heap[wr.heap.size]?=some (.cells #[.int .i64 r.kind,.int .i64 r.lo,.int .i64 r.hi,.int .i64 r.n,.slice aV r.to.length ak,.string r.name,.string r.other,.float .f64 r.wt] 50 (0,0)):=by
    rw [<- bO];show (wr.heap.push _)[wr.heap.size]?=_;simp
   have hvs:V1.heap.size=wr.heap.size+1:=(by rw [<- bO]; exact World.size_alloc _ _);have cm:=hS.below bP;have KS:=O (x5v r (.slice aV r.to.length ak) _ V1 aU (bm.below bP) hr1 hr2 hv0);unfold recV at KS;rw [bR] at KS cj cu cV;have KC:Hid (∀ W,(∀ g,g<w1.heap.size->g≠w.heap.size+1->W.heap[g]?=w1.heap[g]?)->Calls prog 122 #[.slice aV r.to.length ak] W (x0i W r.to)):=fun W h=>x4I _ r.to W (bL W h).2 aU.len;unfold x0i at KC;have ca:Hid (∀ g,(Value.slice aE (k+1) ag).ownBlock=some g->g<wr.heap.size):=fun g hg'=>(hS.rcs.1.lt g hg').2;have ce:Hid (∀ p∈ps,∀ g,p.2.ownBlock=some g->g<wr.heap.size):=fun p hp g hg'=>((hS.rcs.2 p hp).2.2.lt g hg').2;have cf:Hid (∀ g,u6.ownBlock=some g->g<wr.heap.size):=fun g hg'=>(hS.rng.2.2.lt g hg').2;obtain ⟨z0,z1,z2,z3,z4,z5,z6,z7⟩:=x3v aS;have hfl:∀ W a m,(store a (.float .f64 r.wt) m).run prog W=stored prog W a (.float .f64 r.wt) m:=fun W a m=>run_store prog W a _ m rfl;have cg:=O cm;have aZ:=O aS;have hszr:=hS.sz;have hs1r:=hS.s1;clear hS cm bm bP hr1 hr2 aU bL aS hv0 bR;generalize hys:Cn.spoken r ((k:Int)+1)=ys at *;clear hys;generalize Cn.rangesA (fun i _=>(i:Int)) 1 (fs.take k)=xs at *;obtain ⟨kd,lo,hi,nn,tt,nm,ot,wt⟩:=r;simp only at *;go_wp2_with fail;refine (V KS).mono ?_;rintro e3 w3 ⟨v3,rfl,bM,aB⟩;obtain ⟨g3,bK,rfl,bk⟩:=y4M bM cu;have bA:=(V cg).below aB;have hsz3:=bA.sz;have hb3s:=aB.size;have HM:=O bA.rng.2.2;have ba:=O bk;have a9:=O (Ti.x3C ys);have aF:Hid (∀ v4 w4,w4.ownsRow w1.heap.size 208 3 v4 (xs.length+ys.length) (Ti.rcells xs++Ti.rcells ys)->w3.grownBy w4 u6.ownBlock->Spst w w1 w4 v4 (.slice aE (k+1) ag) (xs++ys) ps):=fun v4 w4 h1 h2=>bA.ranges bM.1 (by omega) h1 h2;have a6:Hid (w3.heap[wr.heap.size]?=some (.cells #[.int .i64 kd,.int .i64 lo,.int .i64 hi,.int .i64 nn,.slice aV tt.length ak,.string nm,.string ot,.float .f64 wt] 50 (0,0))):=(aB.block _ (by omega)).trans (V aZ);clear KS bM aB bk bA cg aZ x0 x1 x2 x3 x4 x5 x6 x7 z0 z1 z2 z3 z4 z5 z6 z7;go_wp2_with (at_builtin; refine wpList_append_own _ rfl (.tmp 19) (.tmp 23) 157 rfl w1.heap.size 208 i0 (.agg #[.int .i64 0,.int .i64 0,.int .i64 0]) 3 24 underlying157 cQ c3 c4 c6 rfl (by decide) _ _ _ rfl (V HM) ⟨g3,0,none⟩ ys.length bK (Ti.rcells ys) rfl (by rw [Ti.x1x]) (V ba) (V a9) (by unfold maxLen; omega) (by omega) (by omega) ?_);intro v4 w4 hr4 bF _;have bN:=V aF v4 w4 hr4 bF
   have aT:w4.heap[wr.heap.size]?=some (.cells #[.int .i64 kd,.int .i64 lo,.int .i64 hi,.int .i64 nn,.slice aV tt.length ak,.string nm,.string ot,.float .f64 wt] 50 (0,0)):=by
    rw [bF.block _ (by omega) (fun e=>by have:=V cf _ e.symm; omega)]; exact V a6
   have hsz4:=bF.size;have z4:=(x3v aT).2.2.2.2.1;have K5:=O (V KC w4 bN.old);have ci:=O bN;have a7:=O aT;clear aF HM ba a9 a6 hr4 bF bN aT KC cf;go_wp2_with fail;refine (V K5).mono ?_;rintro e5 w5 ⟨v5,rfl,aD,ar⟩;obtain ⟨t5,c5,hv5,_,_⟩:=aD.sk.shape;subst hv5;have hsz5:=ar.size;have bB:=(V ci).below ar;have au:w5.heap[wr.heap.size]?=some (.cells #[.int .i64 kd,.int .i64 lo,.int .i64 hi,.int .i64 nn,.slice aV tt.length ak,.string nm,.string ot,.float .f64 wt] 50 (0,0)):=(ar.block _ (by omega)).trans (V a7);have y4:=(x3v au).2.2.2.2.1;have f4:=x0e (j:=4) au;obtain ⟨w6,bl⟩:∃ w6,w5.setCell ⟨wr.heap.size,4,none⟩ (.slice t5 tt.length c5)=w6:=⟨_,rfl⟩
   have bf:w6.heap[wr.heap.size]?=some (.cells #[.int .i64 kd,.int .i64 lo,.int .i64 hi,.int .i64 nn,.slice t5 tt.length c5,.string nm,.string ot,.float .f64 wt] 50 (0,0)):=by
    rw [<- bl,x0f au]; rfl
   have bX:w6.heap.size=w5.heap.size:=by rw [<- bl]; exact x0N _ _ _ _
   have bC:Spst w w1 w6 v4 (.slice aE (k+1) ag) (xs++ys) ps:=by
    refine bB.keep (B:=wr.heap.size) (by omega) (by rw [<- bl]; exact x0c bB.bel be.size _) (by omega) (fun g _ hne=>by rw [<- bl]; exact x0g _ hne) (y5u bB.rng.2.2 au (by decide)) (fun e=>by have:=V ca _ e; omega) (fun p hp e=>by have:=V ce p hp _ e; omega)
   have cv:Ok .i32 21 w6 w.heap.size (.slice t5 tt.length c5) tt:=by
    refine (aD.lower (by have:=be.size; omega)).keep fun g hg'=>?_;rw [<- bl];exact x0g _ (fun e=>by have:=(aD.2.2.lt g hg').1; omega)
   obtain ⟨s0,s1,s2,s3,s4,s5,s6,s7⟩:=x3v bf;have cb:Hid (∀ o,(w6.alloc o).ownsRow w.heap.size 50 8 (.slice aE (k+1) ag) (k+1) (rcells ps)):=fun o=>(by have:=bC.rcs.1.alloc o; rw [bG] at this; exact this);have a8:Hid (∀ j u,(x0u (⟨kd,lo,hi,nn,tt,nm,ot,wt⟩,.slice t5 tt.length c5))[j]?=some u->(w6.alloc (.cells #[.int .i64 kd,.int .i64 lo,.int .i64 hi,.int .i64 nn,.slice t5 tt.length c5,.string nm,.string ot,.float .f64 wt] 50)).cell? ((⟨w6.heap.size,0,none⟩:Addr).add j)=some u):=x4t w6 w6.heap.size rfl ⟨kd,lo,hi,nn,tt,nm,ot,wt⟩ _;have aG:=O (x5k ⟨kd,lo,hi,nn,tt,nm,ot,wt⟩ (vt:=.slice t5 tt.length c5) rfl)
   have aq:Hid (∀ o gg aj w8,w8.ownsRow w.heap.size 50 8 (.slice (some ⟨gg,0,none⟩) (k+1+1) aj) (k+1+1) (rcells ps++x0u (⟨kd,lo,hi,nn,tt,nm,ot,wt⟩,.slice t5 tt.length c5))->(w6.alloc o).grownBy w8 (Value.slice aE (k+1) ag).ownBlock->((Value.slice aE (k+1) ag).ownBlock=some gg\/gg=w6.heap.size+1)->Spst w w1 w8 v4 (.slice (some ⟨gg,0,none⟩) (k+1+1) aj) (xs++ys) (ps++[(⟨kd,lo,hi,nn,tt,nm,ot,wt⟩,.slice t5 tt.length c5)])):=fun o gg aj w8 h1 h2 h3=>by
    have h:=bC.more (r:=⟨kd,lo,hi,nn,tt,nm,ot,wt⟩) cv (gg:=gg) (cap:=aj) (by rw [bG]; exact h1) h2 h3;rw [bG] at h;exact h
   have hsw6:=bC.bel.size;clear K5 aD ar bB au bf bC cv ci a7 ca ce bX;go_wp2_with (at_builtin; refine wpList_append_lies _ rfl (.tmp 29) (.tmp 31) 22 rfl w.heap.size 50 i1 (.agg #[.int .i64 0,.int .i64 0,.int .i64 0,.int .i64 0,.slice none 0 0,.string ⟨#[]⟩,.string ⟨#[]⟩,.float .f64 0]) 8 96 underlying22 cR cW b0 b6 rfl (by decide) _ _ _ rfl (V cb _) ⟨w6.heap.size,0,none⟩ 1 1 (x0u (⟨kd,lo,hi,nn,tt,nm,ot,wt⟩,.slice t5 tt.length c5)) rfl rfl (V a8) (V aG) (by omega) (by unfold maxLen; omega) (by omega) (by simp; omega) (w6.heap.size+1) (by simp) ?_);intro gg aj w8 hr8 cq bc hlt8;have cn:=V aq _ gg aj w8 hr8 cq bc
   have bg:aj<=9223372036854775807:=by
    rcases hr8.2 with ⟨h0,_⟩ | ⟨_,_,_,h0,_,_,_,h1,_⟩
    ·cases h0
    ·obtain ⟨_,_,e3⟩:=Value.slice.inj h0;rw [e3];unfold maxLen at h1;omega
   have cN:=O cn;clear cb a8 aG aq hr8 cq bc cn s0 s1 s2 s3 s4 s5 s6 s7 y4 f4 z4;go_wp2
   go_roundw
   case rel=>exact ⟨k+1,ps++[(⟨kd,lo,hi,nn,tt,nm,ot,wt⟩,.slice t5 tt.length c5)],by go_num,by omega,by rw [List.map_append,bU,cO]; rfl,by rw [List.length_append,bG]; rfl,⟨_,_,rfl,bg⟩,by rw [cj]; exact V cN⟩
   case measure=>simp [intOf]; omega
  ·obtain rfl:k=fs.length:=(by omega);rw [List.take_of_length_le (l0r _)] at hS bU;have cw:=V bx fs.length;rw [List.take_of_length_le (l0r _)] at cw;have KB:=O (y1l _ wr u6 _ hS.rng (by omega) (V aQ));unfold y2K at KB;have HS:=O hS;obtain ⟨ro,rcap,cT,_,_⟩:=hS.rng.sr.shape;subst cT;clear hS aO bI bw bx aQ;go_wp2_with fail;refine (V KB).mono ?_;rintro e9 w9 ⟨a,m,rfl,p1,p2,hT,cr⟩;obtain ⟨F1,F2,F3,F4,F5⟩:=(V HS).fin cr hT;have y0:=cell_of (j:=0) F1 (by show 0<2; omega);have y1:=cell_of (j:=1) F1 (by show 1<2; omega);have f0:=fun j=>x0e (j:=j) F1;have b8:=O F2;have HF:SpkB w fs (.returned (.agg #[.pointer (some a),.slice aE (fs.length+1) ag])) _:=⟨a,m,_,ps,rfl,p1,p2,F3,F4,bU,F5⟩;have b9:=O HF;clear KB hT cr F1 F2 F3 F4 F5 HF HS p1 p2;go_wp2;have bj:=V b8;have bQ:=V b9;clear b8 b9 y0 y1 f0;generalize (w9.setCell ⟨w.heap.size,0,none⟩ (.pointer (some a))).setCell ⟨w.heap.size,1,none⟩ (.slice aE (fs.length+1) ag)=cx at *;have z0:=cell_of (j:=0) bj (by show 0<2; omega);have z1:=cell_of (j:=1) bj (by show 1<2; omega);refine bodyPost_ret (v:=.agg #[.pointer (some a),.slice aE (fs.length+1) ag]) (by simp [results,Tryz.results76,go_sem,z0,z1]) rfl bQ
open Ti
def TrP (W:World) (B:Nat) (v:Value) (xs:List Tri.Rg):Prop:=∃ a m,v=.pointer (some a)/\m.Perm xs/\(m.Pairwise fun x y=>Tri.lo x<=Tri.lo y)/\T4 W B v m 0
def SpP (W:World) (B:Nat) (v vl:Value) (fs:List Rec):Prop:=TrP W B v (Cn.rangesA (fun i _=>(i:Int)) 1 fs)/\∃ ps,Rown W B vl ps/\ps.map (·.1)=Cn.none :: fs
def CoP (W:World) (B:Nat) (c1 c2:Value) (rs:List Rec):Prop:=∃ r1 r2,c1=.map (some r1)/\c2=.map (some r2)/\B<=r1/\B<=r2/\GAt KP W r1 (x2E rs)/\GAt KR W r2 (secC rs)
def MiP (W:World) (B:Nat) (x:Value):Prop:=∃ r,x=.map (some r)/\B<=r/\MxAt W r
theorem x4S {W:World} {g:Nat} {o:Obj} (h:W.heap[g]?=some o):g<W.heap.size:=by
 rcases Nat.lt_or_ge g W.heap.size with h1 | h1
 ·exact h1
 ·rw [Array.getElem?_eq_none h1] at h; cases h
section
variable {W W':World} {B B':Nat} {v vl c1 c2 x:Value} {xs:List Tri.Rg} {fs rs:List Rec}
theorem TrP.below (h:TrP W B v xs) (hb:Bw W W'):TrP W' B v xs:=by
 obtain ⟨a,m,e,p,s,t⟩:=h;exact ⟨a,m,e,p,s,t.below hb⟩
theorem TrP.lower (h:TrP W B v xs) (hb:B'<=B):TrP W B' v xs:=by
 obtain ⟨a,m,e,p,s,t⟩:=h;exact ⟨a,m,e,p,s,T4.lower t hb⟩
theorem y5i {w:World} {B B' e sz n:Nat} {v:Value} {us:List Value} (h:w.ownsRow B e sz v n us) (hb:B'<=B):w.ownsRow B' e sz v n us:=by
 refine ⟨h.1,?_⟩;rcases h.2 with h4 | ⟨g,cap,cur,hv,hg,r⟩
 ·exact .inl h4
 ·exact .inr ⟨g,cap,cur,hv,by omega,r⟩
theorem SpP.below (h:SpP W B v vl fs) (hb:Bw W W'):SpP W' B v vl fs:=by
 obtain ⟨t,ps,hr,e⟩:=h;exact ⟨t.below hb,ps,⟨x0t hr.1 fun g hg=>hb.block g (hr.1.lt g hg).2,fun p hp=>(hr.2 p hp).below hb⟩,e⟩
theorem SpP.lower (h:SpP W B v vl fs) (hb:B'<=B):SpP W B' v vl fs:=by
 obtain ⟨t,ps,hr,e⟩:=h;exact ⟨t.lower hb,ps,⟨y5i hr.1 hb,fun p hp=>(hr.2 p hp).lower hb⟩,e⟩
theorem GAt.below {K:Value->Prop} {r:Nat} {c:Value->Option Value} (h:GAt K W r c) (hb:Bw W W'):GAt K W' r c:=by
 obtain ⟨es,cl,h1,h2⟩:=h;exact ⟨es,cl,by rw [hb.block r (x4S h1)]; exact h1,h2⟩
theorem CoP.below (h:CoP W B c1 c2 rs) (hb:Bw W W'):CoP W' B c1 c2 rs:=by
 obtain ⟨r1,r2,e1,e2,b1,b2,g1,g2⟩:=h;exact ⟨r1,r2,e1,e2,b1,b2,g1.below hb,g2.below hb⟩
theorem CoP.lower (h:CoP W B c1 c2 rs) (hb:B'<=B):CoP W B' c1 c2 rs:=by
 obtain ⟨r1,r2,e1,e2,b1,b2,g1,g2⟩:=h;exact ⟨r1,r2,e1,e2,by omega,by omega,g1,g2⟩
theorem MiP.below (h:MiP W B x) (hb:Bw W W'):MiP W' B x:=by
 obtain ⟨r,e,b,c,g⟩:=h;exact ⟨r,e,b,c,g.below hb⟩
theorem MiP.lower (h:MiP W B x) (hb:B'<=B):MiP W B' x:=by
 obtain ⟨r,e,b,c⟩:=h;exact ⟨r,e,by omega,c⟩
end
structure DataV (W:World) (B:Nat) (rs:List Rec) (t1 t2 t3 t4 t5 a1 l1 a2 l2 a3 l3 a4 l4 a5 l5 c1 c2 x1:Value):Prop where
 p1:TrP W B t1 (Cn.rangesA (fun _ r=>Cn.value r) 1 (Cn.famOf 1 rs))
 p2:TrP W B t2 (Cn.rangesA (fun _ r=>Cn.value r) 1 (Cn.famOf 2 rs))
 p3:TrP W B t3 (Cn.rangesA (fun _ r=>Cn.value r) 1 (Cn.famOf 4 rs))
 p4:TrP W B t4 (Cn.rangesA (fun _ r=>Cn.value r) 1 (Cn.famOf 5 rs))
 p5:TrP W B t5 (Cn.rangesA (fun _ r=>Cn.value r) 1 (Cn.famOf 6 rs))
 q1:SpP W B a1 l1 (Cn.famOf 1 rs)
 q2:SpP W B a2 l2 (Cn.famOf 3 rs)
 q3:SpP W B a3 l3 (Cn.famOf 7 rs)
 q4:SpP W B a4 l4 (Cn.famOf 8 rs)
 q5:SpP W B a5 l5 (Cn.famOf 9 rs)
 co:CoP W B c1 c2 rs
 mi:MiP W B x1
theorem DataV.below {W W':World} {B:Nat} {rs:List Rec} {t1 t2 t3 t4 t5 a1 l1 a2 l2 a3 l3 a4 l4 a5 l5 c1 c2 x1:Value} (h:DataV W B rs t1 t2 t3 t4 t5 a1 l1 a2 l2 a3 l3 a4 l4 a5 l5 c1 c2 x1) (hb:Bw W W'):DataV W' B rs t1 t2 t3 t4 t5 a1 l1 a2 l2 a3 l3 a4 l4 a5 l5 c1 c2 x1:=⟨h.p1.below hb,h.p2.below hb,h.p3.below hb,h.p4.below hb,h.p5.below hb,h.q1.below hb,h.q2.below hb,h.q3.below hb,h.q4.below hb,h.q5.below hb,h.co.below hb,h.mi.below hb⟩
def x0p (W:World) (B p:Nat) (rs:List Rec):Prop:=∃ t1 t2 t3 t4 t5 a1 l1 a2 l2 a3 l3 a4 l4 a5 l5 c1 c2 x1:Value,W.heap[p]?=some (.cells #[t1,t2,t3,t4,t5,a1,l1,a2,l2,a3,l3,a4,l4,a5,l5,c1,c2,x1] 87 (0,0))/\B<=p/\DataV W B rs t1 t2 t3 t4 t5 a1 l1 a2 l2 a3 l3 a4 l4 a5 l5 c1 c2 x1
theorem x0p.below {W W':World} {B p:Nat} {rs:List Rec} (h:x0p W B p rs) (hb:Bw W W'):x0p W' B p rs:=by
 obtain ⟨t1,t2,t3,t4,t5,a1,l1,a2,l2,a3,l3,a4,l4,a5,l5,c1,c2,x1,h1,h2,h3⟩:=h;exact ⟨t1,t2,t3,t4,t5,a1,l1,a2,l2,a3,l3,a4,l4,a5,l5,c1,c2,x1,by rw [hb.block p (x4S h1)]; exact h1,h2,h3.below hb⟩
def CmdB (w:World) (rs:List Rec) (e:Ending) (w':World):Prop:=∃ p,e=.returned (.pointer (some ⟨p,0,none⟩))/\x0p w' w.heap.size p rs/\Below w.heap.size w w'
theorem x7A (v:Value) (rs:List Rec) (w:World) (hg:Glob w) (hv:Rcs w v rs) (hc:(Cn.check6 rs).2=0) (bZ:∀ r∈rs,r.kind≠15->0<=Cn.value r/\Cn.value r<=65535) (h7:∀ r∈rs,r.kind=7->r.to.length=2/\0<=r.lo/\r.lo<=1114111) (h15:∀ r∈rs,r.kind=15->Sh r.name/\Sh r.other):Calls prog 40 #[v] w (CmdB w rs):=by
 obtain ⟨hl,hall,_⟩:=Cn.x0n.1 hc;have av:∀ f:Int,f≠10->∀ r∈Cn.famOf f rs,r.kind≠15:=fun f hf r hr e=>hf (by rw [<- (Cn.x0r.1 hr).2,e]; decide);have bT:∀ f,(Cn.famOf f rs).length<=4096:=fun f=>Nat.le_trans (List.length_filter_le _ _) hl
 have KV:∀ (kind f:Int),Cn.fam kind=f->f≠10->f≠0->I64 kind->Hid (∀ W,Bw w W->Calls prog 75 #[v,.int .i64 kind] W (x4A W (Cn.rangesA (fun _ r=>Cn.value r) 1 (Cn.famOf f rs)))):=fun kind f e1 e2 e3 e4 W hW=>by
  subst e1;refine x8M v rs kind W (hg.on hW) (hv.below hW) e4 (fun r hr=>?_) (bT _) (fun m hp hs=>(Cn.x9S (Cn.x9j hc ⟨e2,e3⟩) (fun k hk=>?_) hp hs).1)
  ·have:=bZ r (Cn.x0r.1 hr).1 (av _ e2 r hr);exact ⟨hall r (Cn.x0r.1 hr).1,av _ e2 r hr,by omega,by omega⟩
  ·exact bZ _ (Cn.x0r.1 (List.getElem_mem hk)).1 (av _ e2 _ (List.getElem_mem hk))
 have aX:∀ (kind f:Int),Cn.fam kind=f->f≠10->f≠0->I64 kind->Hid (∀ W,Bw w W->Calls prog 76 #[v,.int .i64 kind] W (SpkB W (Cn.famOf f rs))):=fun kind f e1 e2 e3 e4 W hW=>by
  subst e1;refine x5P v rs kind W (hg.on hW) (hv.below hW) e4 (fun r hr=>⟨hall r (Cn.x0r.1 hr).1,av _ e2 r hr⟩) (bT _) (fun m hp hs=>(Cn.x6i hc ⟨e2,e3⟩ hp hs).1)
 have KC:Hid (∀ W,Bw w W->Calls prog 77 #[v] W (CmpB W rs)):=fun W hW=>x3c v rs W (hv.below hW) h7 hl;have KM:Hid (∀ W,Bw w W->Calls prog 78 #[v] W (MxtB W)):=fun W hW=>x5M v rs W (hv.below hW) h15;have V1:=KV 1 1 (by decide) (by decide) (by decide) ⟨by omega,by omega⟩;have V2:=KV 6 2 (by decide) (by decide) (by decide) ⟨by omega,by omega⟩;have V3:=KV 9 4 (by decide) (by decide) (by decide) ⟨by omega,by omega⟩;have V4:=KV 10 5 (by decide) (by decide) (by decide) ⟨by omega,by omega⟩;have V5:=KV 11 6 (by decide) (by decide) (by decide) ⟨by omega,by omega⟩;have P1:=aX 3 1 (by decide) (by decide) (by decide) ⟨by omega,by omega⟩;have P2:=aX 7 3 (by decide) (by decide) (by decide) ⟨by omega,by omega⟩;have P3:=aX 12 7 (by decide) (by decide) (by decide) ⟨by omega,by omega⟩;have P4:=aX 13 8 (by decide) (by decide) (by decide) ⟨by omega,by omega⟩;have P5:=aX 14 9 (by decide) (by decide) (by decide) ⟨by omega,by omega⟩;obtain ⟨ao,cap,aY,_,_⟩:=hv.shape;clear KV aX hv hg bZ h7 h15 hall av bT hc;subst aY;have bn:=O (Below.refl w.heap.size w);go_enter func40,ntmps40;go_wp2_with fail;refine (V V1 _ (V bn)).mono ?_;rintro e1 w1 ⟨b1,m1,rfl,u1,u2,u3,am⟩;have aw:=O (x0b (V bn) am);have ac:Hid (TrP w1 w.heap.size (.pointer (some b1)) (Cn.rangesA (fun _ r=>Cn.value r) 1 (Cn.famOf 1 rs))):=TrP.lower ⟨_,_,rfl,u1,u2,u3⟩ (V bn).size;clear V1 u1 u2 u3 am bn;go_wp2_with fail;refine (V V2 _ (V aw)).mono ?_;rintro e2 w2 ⟨b2,m2,rfl,u1,u2,u3,aI⟩;have aN:=O (x0b (V aw) aI);have ae:Hid (TrP w2 w.heap.size (.pointer (some b2)) (Cn.rangesA (fun _ r=>Cn.value r) 1 (Cn.famOf 2 rs))):=TrP.lower ⟨_,_,rfl,u1,u2,u3⟩ (V aw).size;replace ac:=O ((V ac).below aI);clear V2 u1 u2 u3 aI aw;go_wp2_with fail;refine (V V3 _ (V aN)).mono ?_;rintro e3 w3 ⟨b3,m3,rfl,u1,u2,u3,aB⟩;have bo:=O (x0b (V aN) aB);have af:Hid (TrP w3 w.heap.size (.pointer (some b3)) (Cn.rangesA (fun _ r=>Cn.value r) 1 (Cn.famOf 4 rs))):=TrP.lower ⟨_,_,rfl,u1,u2,u3⟩ (V aN).size;replace ac:=O ((V ac).below aB);replace ae:=O ((V ae).below aB);clear V3 u1 u2 u3 aB aN;go_wp2_with fail;refine (V V4 _ (V bo)).mono ?_;rintro e4 w4 ⟨b4,m4,rfl,u1,u2,u3,bd⟩;have bp:=O (x0b (V bo) bd);have ah:Hid (TrP w4 w.heap.size (.pointer (some b4)) (Cn.rangesA (fun _ r=>Cn.value r) 1 (Cn.famOf 5 rs))):=TrP.lower ⟨_,_,rfl,u1,u2,u3⟩ (V bo).size;replace ac:=O ((V ac).below bd);replace ae:=O ((V ae).below bd);replace af:=O ((V af).below bd);clear V4 u1 u2 u3 bd bo;go_wp2_with fail;refine (V V5 _ (V bp)).mono ?_;rintro e5 w5 ⟨b5,m5,rfl,u1,u2,u3,ar⟩;have bq:=O (x0b (V bp) ar);have ai:Hid (TrP w5 w.heap.size (.pointer (some b5)) (Cn.rangesA (fun _ r=>Cn.value r) 1 (Cn.famOf 6 rs))):=TrP.lower ⟨_,_,rfl,u1,u2,u3⟩ (V bp).size;replace ac:=O ((V ac).below ar);replace ae:=O ((V ae).below ar);replace af:=O ((V af).below ar);replace ah:=O ((V ah).below ar);clear V5 u1 u2 u3 ar bp;go_wp2_with fail;refine (V P1 _ (V bq)).mono ?_;rintro e6 w6 ⟨g1,n1,y1,ps1,rfl,u1,u2,u3,u4,u5,aR⟩;have br:=O (x0b (V bq) aR);have al:Hid (SpP w6 w.heap.size (.pointer (some g1)) y1 (Cn.famOf 1 rs)):=SpP.lower ⟨⟨_,_,rfl,u1,u2,u3⟩,_,u4,u5⟩ (V bq).size
 obtain ⟨cI,cD,cy,b0⟩:∃ o l c,y1=.slice o l c:=by
  rcases u4.1.2 with ⟨e,_⟩ | ⟨_,_,_,e,_⟩
  ·exact ⟨_,_,_,e⟩
  ·exact ⟨_,_,_,e⟩
 subst b0;replace ac:=O ((V ac).below aR);replace ae:=O ((V ae).below aR);replace af:=O ((V af).below aR);replace ah:=O ((V ah).below aR);replace ai:=O ((V ai).below aR);clear P1 u1 u2 u3 u4 u5 aR bq;go_wp2_with fail;refine (V P2 _ (V br)).mono ?_;rintro e7 w7 ⟨g2,n2,y2,ps2,rfl,u1,u2,u3,u4,u5,aJ⟩;have bs:=O (x0b (V br) aJ);have ap:Hid (SpP w7 w.heap.size (.pointer (some g2)) y2 (Cn.famOf 3 rs)):=SpP.lower ⟨⟨_,_,rfl,u1,u2,u3⟩,_,u4,u5⟩ (V br).size
 obtain ⟨cJ,cE,cz,b6⟩:∃ o l c,y2=.slice o l c:=by
  rcases u4.1.2 with ⟨e,_⟩ | ⟨_,_,_,e,_⟩
  ·exact ⟨_,_,_,e⟩
  ·exact ⟨_,_,_,e⟩
 subst b6;replace ac:=O ((V ac).below aJ);replace ae:=O ((V ae).below aJ);replace af:=O ((V af).below aJ);replace ah:=O ((V ah).below aJ);replace ai:=O ((V ai).below aJ);replace al:=O ((V al).below aJ);clear P2 u1 u2 u3 u4 u5 aJ br;go_wp2_with fail;refine (V P3 _ (V bs)).mono ?_;rintro e8 w8 ⟨g3,n3,y3,ps3,rfl,u1,u2,u3,u4,u5,aC⟩;have bt:=O (x0b (V bs) aC);have ax:Hid (SpP w8 w.heap.size (.pointer (some g3)) y3 (Cn.famOf 7 rs)):=SpP.lower ⟨⟨_,_,rfl,u1,u2,u3⟩,_,u4,u5⟩ (V bs).size
 obtain ⟨cK,cF,cA,cX⟩:∃ o l c,y3=.slice o l c:=by
  rcases u4.1.2 with ⟨e,_⟩ | ⟨_,_,_,e,_⟩
  ·exact ⟨_,_,_,e⟩
  ·exact ⟨_,_,_,e⟩
 subst cX;replace ac:=O ((V ac).below aC);replace ae:=O ((V ae).below aC);replace af:=O ((V af).below aC);replace ah:=O ((V ah).below aC);replace ai:=O ((V ai).below aC);replace al:=O ((V al).below aC);replace ap:=O ((V ap).below aC);clear P3 u1 u2 u3 u4 u5 aC bs;go_wp2_with fail;refine (V P4 _ (V bt)).mono ?_;rintro e9 w9 ⟨g4,n4,y4,ps4,rfl,u1,u2,u3,u4,u5,ay⟩;have bu:=O (x0b (V bt) ay);have aH:Hid (SpP w9 w.heap.size (.pointer (some g4)) y4 (Cn.famOf 8 rs)):=SpP.lower ⟨⟨_,_,rfl,u1,u2,u3⟩,_,u4,u5⟩ (V bt).size
 obtain ⟨cL,cG,cB,cY⟩:∃ o l c,y4=.slice o l c:=by
  rcases u4.1.2 with ⟨e,_⟩ | ⟨_,_,_,e,_⟩
  ·exact ⟨_,_,_,e⟩
  ·exact ⟨_,_,_,e⟩
 subst cY;replace ac:=O ((V ac).below ay);replace ae:=O ((V ae).below ay);replace af:=O ((V af).below ay);replace ah:=O ((V ah).below ay);replace ai:=O ((V ai).below ay);replace al:=O ((V al).below ay);replace ap:=O ((V ap).below ay);replace ax:=O ((V ax).below ay);clear P4 u1 u2 u3 u4 u5 ay bt;go_wp2_with fail;refine (V P5 _ (V bu)).mono ?_;rintro e10 cx ⟨g5,n5,y5,ps5,rfl,u1,u2,u3,u4,u5,ad⟩;have az:=O (x0b (V bu) ad);have aW:Hid (SpP cx w.heap.size (.pointer (some g5)) y5 (Cn.famOf 9 rs)):=SpP.lower ⟨⟨_,_,rfl,u1,u2,u3⟩,_,u4,u5⟩ (V bu).size
 obtain ⟨cM,cH,cC,cZ⟩:∃ o l c,y5=.slice o l c:=by
  rcases u4.1.2 with ⟨e,_⟩ | ⟨_,_,_,e,_⟩
  ·exact ⟨_,_,_,e⟩
  ·exact ⟨_,_,_,e⟩
 subst cZ;replace ac:=O ((V ac).below ad);replace ae:=O ((V ae).below ad);replace af:=O ((V af).below ad);replace ah:=O ((V ah).below ad);replace ai:=O ((V ai).below ad);replace al:=O ((V al).below ad);replace ap:=O ((V ap).below ad);replace ax:=O ((V ax).below ad);replace aH:=O ((V aH).below ad);clear P5 u1 u2 u3 u4 u5 ad bu;go_wp2_with fail;refine (V KC _ (V az)).mono ?_;rintro e11 c7 ⟨r1,r2,rfl,u1,u2,u3,u4,ab⟩;have aA:=O (x0b (V az) ab);have bv:Hid (CoP c7 w.heap.size (.map (some r1)) (.map (some r2)) rs):=CoP.lower ⟨_,_,rfl,rfl,u1,u2,u3,u4⟩ (V az).size;replace ac:=O ((V ac).below ab);replace ae:=O ((V ae).below ab);replace af:=O ((V af).below ab);replace ah:=O ((V ah).below ab);replace ai:=O ((V ai).below ab);replace al:=O ((V al).below ab);replace ap:=O ((V ap).below ab);replace ax:=O ((V ax).below ab);replace aH:=O ((V aH).below ab);replace aW:=O ((V aW).below ab);clear KC u1 u2 u3 u4 ab az;go_wp2_with fail;refine (V KM _ (V aA)).mono ?_;rintro e12 aL ⟨r3,rfl,u1,u2,aa⟩;have aM:=O (x0b (V aA) aa);have cc:Hid (MiP aL w.heap.size (.map (some r3))):=MiP.lower ⟨_,rfl,u1,u2⟩ (V aA).size;replace ac:=O ((V ac).below aa);replace ae:=O ((V ae).below aa);replace af:=O ((V af).below aa);replace ah:=O ((V ah).below aa);replace ai:=O ((V ai).below aa);replace al:=O ((V al).below aa);replace ap:=O ((V ap).below aa);replace ax:=O ((V ax).below aa);replace aH:=O ((V aH).below aa);replace aW:=O ((V aW).below aa);replace bv:=O ((V bv).below aa);clear KM u1 u2 aa aA
 have HF:Hid (CmdB w rs (.returned (.pointer (some ⟨aL.heap.size,0,none⟩))) (aL.alloc (.cells #[.pointer (some b1),.pointer (some b2),.pointer (some b3),.pointer (some b4),.pointer (some b5),.pointer (some g1),.slice cI cD cy,.pointer (some g2),.slice cJ cE cz,.pointer (some g3),.slice cK cF cA,.pointer (some g4),.slice cL cG cB,.pointer (some g5),.slice cM cH cC,.map (some r1),.map (some r2),.map (some r3)] 87))):=by
  have an:Bw aL (aL.alloc (.cells #[.pointer (some b1),.pointer (some b2),.pointer (some b3),.pointer (some b4),.pointer (some b5),.pointer (some g1),.slice cI cD cy,.pointer (some g2),.slice cJ cE cz,.pointer (some g3),.slice cK cF cA,.pointer (some g4),.slice cL cG cB,.pointer (some g5),.slice cM cH cC,.map (some r1),.map (some r2),.map (some r3)] 87)):=(b0r).alloc (l0r _) _;refine ⟨_,rfl,⟨_,_,_,_,_,_,_,_,_,_,_,_,_,_,_,_,_,_,?_,(V aM).size,(V ac).below an,(V ae).below an,(V af).below an,(V ah).below an,(V ai).below an,(V al).below an,(V ap).below an,(V ax).below an,(V aH).below an,(V aW).below an,(V bv).below an,(V cc).below an⟩,x0b (V aM) an⟩;show (aL.heap.push _)[aL.heap.size]?=_;simp
 clear ac ae af ah ai al ap ax aH aW bv cc aM;go_wp2;go_ret;exact V HF
def CpB (w:World) (rs:List Rec) (e:Ending) (w':World):Prop:=Below w.heap.size w w'/\((¬ (Cn.check rs).2=0/\e=.returned (.tuple #[.pointer none,.int .i64 ((Cn.check rs).1:Int),.int .i64 (Cn.check rs).2]))\/((Cn.check rs).2=0/\∃ p,e=.returned (.tuple #[.pointer (some ⟨p,0,none⟩),.int .i64 0,.int .i64 0])/\x0p w' w.heap.size p rs))
theorem x7z (v:Value) (rs:List Rec) (w:World) (hv:Rcs w v rs) (KC:Calls prog 39 #[v] w (x2Z w (Cn.check rs))) (KD:(Cn.check rs).2=0->∀ W,Bw w W->Calls prog 40 #[v] W (CmdB W rs)):Calls prog 20 #[v] w (CpB w rs):=by
 have K1:=O KC;unfold x2Z at K1;have KD:=O KD;obtain ⟨ao,cap,aY,_,_⟩:=hv.shape;clear hv KC;unfold CpB;by_cases h:(Cn.check rs).2=0
 ·have ck:=O (V KD h);have HX:=O h;generalize hck:Cn.check rs=q at *;obtain ⟨q1,q2⟩:=q;simp only at h;subst h;subst aY;clear KD hck;go_enter func20,ntmps20;go_wp2_with fail;refine (V K1).mono ?_;rintro e1 w1 ⟨rfl,am⟩;have K2:=O (V ck w1 am);have aw:=O am;clear K1 ck am;go_wp2_with fail;refine (V K2).mono ?_;rintro e2 w2 ⟨p,rfl,hD,aI⟩;have aN:=O (x0b (V aw) aI)
  have HD:Hid (x0p w2 w.heap.size p rs):=by
   obtain ⟨t1,t2,t3,t4,t5,a1,l1,a2,l2,a3,l3,a4,l4,a5,l5,c1,c2,x1,h1,h2,h3⟩:=hD;have hs:=(V aw).size;exact ⟨t1,t2,t3,t4,t5,a1,l1,a2,l2,a3,l3,a4,l4,a5,l5,c1,c2,x1,h1,by omega,h3.p1.lower hs,h3.p2.lower hs,h3.p3.lower hs,h3.p4.lower hs,h3.p5.lower hs,h3.q1.lower hs,h3.q2.lower hs,h3.q3.lower hs,h3.q4.lower hs,h3.q5.lower hs,h3.co.lower hs,h3.mi.lower hs⟩
  clear K2 hD aI aw;go_wp2;go_ret3;exact ⟨V aN,.inr ⟨V HX,p,rfl,V HD⟩⟩
 ·have HX:=O h;generalize hck:Cn.check rs=q at *;obtain ⟨q1,q2⟩:=q;simp only at h;have hq:(q2 != 0)=true:=bne_iff_ne.2 h;subst aY;clear KD hck h;go_enter func20,ntmps20;go_wp2_with fail;refine (V K1).mono ?_;rintro e1 w1 ⟨rfl,am⟩;have aw:=O am;clear K1 am;go_wp2;go_ret3;exact ⟨V aw,.inl ⟨V HX,rfl⟩⟩
open Ti
namespace Cn
theorem x3N {r:Rec} {a b c d:Bool} (h:bare r false a b c d=true):r.n=0:=by
 unfold bare at h;simp only [Bool.and_eq_true,Bool.false_or,decide_eq_true_eq] at h;exact h.1.1.1.1
theorem x8z {r:Rec} (h:right r=0) (hk:r.kind≠15) (h1:r.kind≠4):0<=r.n/\r.n<=254:=by
 have hf:=x0H h
 have bR:1<=r.kind/\r.kind<=15:=by
  unfold fam at hf;split at hf
  ·exact absurd rfl hf
  ·omega
 unfold right at h;rw [if_neg hf,if_neg hk] at h;have hc:=x1Y h;rw [Bool.and_eq_true] at hc;have h2:=hc.2;clear hc h;by_cases k1:r.kind=1\/r.kind=2\/r.kind=11
 ·rw [if_pos k1] at h2;have:=x3N h2; omega
 rw [if_neg k1] at h2;by_cases k3:r.kind=3
 ·rw [if_pos k3] at h2;simp only [Bool.and_eq_true] at h2;have:=x3N h2.1; omega
 rw [if_neg k3,if_neg h1] at h2;by_cases k5:r.kind=5
 ·rw [if_pos k5] at h2;simp only [Bool.and_eq_true] at h2;have:=x3N h2.1.2; omega
 rw [if_neg k5] at h2;by_cases k13:r.kind=13
 ·rw [if_pos k13] at h2;simp only [Bool.and_eq_true] at h2;have:=x3N h2.1.2; omega
 rw [if_neg k13] at h2;by_cases k6:r.kind=6
 ·rw [if_pos k6] at h2;simp only [Bool.and_eq_true] at h2;have:=o0d h2.2; omega
 rw [if_neg k6] at h2;by_cases k7:r.kind=7
 ·rw [if_pos k7] at h2;simp only [Bool.and_eq_true] at h2;have:=x3N h2.1.2; omega
 rw [if_neg k7] at h2;by_cases k8:r.kind=8
 ·rw [if_pos k8] at h2;simp only [Bool.and_eq_true] at h2;have:=x3N h2.1.2; omega
 rw [if_neg k8] at h2;by_cases k9:r.kind=9
 ·rw [if_pos k9] at h2;simp only [Bool.and_eq_true] at h2;have:=o0d h2.2; omega
 rw [if_neg k9] at h2;by_cases k10:r.kind=10
 ·rw [if_pos k10] at h2;simp only [Bool.and_eq_true] at h2;have:=o0d h2.2; omega
 rw [if_neg k10] at h2;by_cases k12:r.kind=12
 ·rw [if_pos k12] at h2;simp only [Bool.and_eq_true] at h2;have:=x3N h2.1; omega
 rw [if_neg k12] at h2;simp only [Bool.and_eq_true] at h2;have:=x3N h2.1; omega
theorem x2V {r:Rec} (h:right r=0) (hk:r.kind≠15):0<=value r/\value r<=65535:=by
 unfold value;split
 ·omega
 ·split
  ·omega
  ·split
   ·omega
   ·rename_i h34
    split
    ·omega
    ·split
     ·omega
     ·have:=x8z h hk (fun e=>h34 (.inr e)); omega
theorem x6e {b:ByteArray} (h:nameL b=true):b.size=4:=by
 unfold nameL at h;split at h
 ·rename_i a b c d he
  have:=congrArg List.length he;simpa using this
 ·cases h
theorem y5f {r:Rec} (h:right r=0) (h15:r.kind=15):r.name.size=4/\r.other.size=4:=by
 have hf:=x0H h;unfold right at h;rw [if_neg hf,if_pos h15] at h;obtain ⟨_,_,_,h1,h2,_⟩:=x1Y h;exact ⟨x6e h1,x6e h2⟩
theorem x3X {c:Int} (h:scalar c=true):0<=c/\c<=1114111:=by
 unfold scalar at h;have:=o0d h;omega
end Cn
theorem x9d (v:Value) (rs:List Rec) (w:World) (hg:Glob w) (hv:Rcs w v rs):Calls prog 20 #[v] w (CpB w rs):=by
 refine x7z v rs w hv (z1a v rs w hg hv) fun h0 W hW=>?_;have h6:=(Cn.x0D.1 h0).1;obtain ⟨_,hall,_⟩:=Cn.x0n.1 h6;refine x7A v rs W (hg.on hW) (hv.below hW) h6 (fun r hr hk=>Cn.x2V (hall r hr) hk) (fun r hr h7=>?_) (fun r hr h15=>?_)
 ·obtain ⟨_,h2,h3⟩:=Cn.x0B (hall r hr) h7;have h4:=(Cn.x1c h3).1;have h5:=Cn.x3X h2;exact ⟨by omega,h5.1,h5.2⟩
 ·obtain ⟨h1,h2⟩:=Cn.y5f (hall r hr) h15;exact ⟨by unfold Sh; omega,by unfold Sh; omega⟩
section
variable {W W':World} {B p:Nat} {v vl c1 c2 x:Value} {xs:List Tri.Rg} {fs rs:List Rec}
theorem TrP.keep (h:TrP W B v xs) (hs:W.heap.size<=W'.heap.size) (hk:∀ k,B<=k->k<W.heap.size->W'.heap[k]?=W.heap[k]?):TrP W' B v xs:=by
 obtain ⟨a,m,e,p,s,t⟩:=h;exact ⟨a,m,e,p,s,T4.keep t hs hk⟩
theorem SpP.keep (h:SpP W B v vl fs) (hs:W.heap.size<=W'.heap.size) (hk:∀ k,B<=k->k<W.heap.size->W'.heap[k]?=W.heap[k]?):SpP W' B v vl fs:=by
 obtain ⟨t,ps,hr,e⟩:=h;exact ⟨t.keep hs hk,ps,⟨x4v hr.1 hk,fun p hp=>⟨(hr.2 p hp).1,(hr.2 p hp).2.1,x4v (hr.2 p hp).2.2 hk⟩⟩,e⟩
theorem GAt.keep {K:Value->Prop} {r:Nat} {c:Value->Option Value} (h:GAt K W r c) (hr:B<=r) (hk:∀ k,B<=k->k<W.heap.size->W'.heap[k]?=W.heap[k]?):GAt K W' r c:=by
 obtain ⟨es,cl,h1,h2⟩:=h;exact ⟨es,cl,by rw [hk r hr (x4S h1)]; exact h1,h2⟩
theorem x0p.keep (h:x0p W B p rs) (hs:W.heap.size<=W'.heap.size) (hk:∀ k,B<=k->k<W.heap.size->W'.heap[k]?=W.heap[k]?):x0p W' B p rs:=by
 obtain ⟨t1,t2,t3,t4,t5,a1,l1,a2,l2,a3,l3,a4,l4,a5,l5,c1,c2,x1,h1,h2,h3⟩:=h;refine ⟨t1,t2,t3,t4,t5,a1,l1,a2,l2,a3,l3,a4,l4,a5,l5,c1,c2,x1,by rw [hk p h2 (x4S h1)]; exact h1,h2,⟨h3.p1.keep hs hk,h3.p2.keep hs hk,h3.p3.keep hs hk,h3.p4.keep hs hk,h3.p5.keep hs hk,h3.q1.keep hs hk,h3.q2.keep hs hk,h3.q3.keep hs hk,h3.q4.keep hs hk,h3.q5.keep hs hk,?_,?_⟩⟩
 ·obtain ⟨r1,r2,e1,e2,b1,b2,g1,g2⟩:=h3.co;exact ⟨r1,r2,e1,e2,b1,b2,g1.keep b1 hk,g2.keep b2 hk⟩
 ·obtain ⟨r,e,b,c,g⟩:=h3.mi;exact ⟨r,e,b,c,g.keep b hk⟩
theorem x0p.lower {B':Nat} (h:x0p W B p rs) (hs:B'<=B):x0p W B' p rs:=by
 obtain ⟨t1,t2,t3,t4,t5,a1,l1,a2,l2,a3,l3,a4,l4,a5,l5,c1,c2,x1,h1,h2,h3⟩:=h;exact ⟨t1,t2,t3,t4,t5,a1,l1,a2,l2,a3,l3,a4,l4,a5,l5,c1,c2,x1,h1,by omega,h3.p1.lower hs,h3.p2.lower hs,h3.p3.lower hs,h3.p4.lower hs,h3.p5.lower hs,h3.q1.lower hs,h3.q2.lower hs,h3.q3.lower hs,h3.q4.lower hs,h3.q5.lower hs,h3.co.lower hs,h3.mi.lower hs⟩
end
open Ti
namespace Cn
def vget (rs:List Rec) (f c:Int):Int:=match hit rs f c with | some r=>value r | Option.none=>0
def rget (rs:List Rec) (f c:Int):Rec:=match hit rs f c with | some r=>r | Option.none=>none
end Cn
def y2J (w:World) (b:Bool) (e:Ending) (w':World):Prop:=e=.returned (.bool b)/\∃ m,w'=w.drewN m
theorem tget {W:World} {B:Nat} {t:Value} {rs:List Rec} {f:Int} (hT:TrP W B t (Cn.rangesA (fun _ r=>Cn.value r) 1 (Cn.famOf f rs))) (h6:(Cn.check6 rs).2=0) (hf:f≠10/\f≠0) (c:Int) (hc:Fi c):Calls prog 35 #[t,.int .i64 c] W (x1e W (Cn.vget rs f c)):=by
 obtain ⟨a,m,e,hp,hs,t4⟩:=hT;have hall:=(Cn.x0n.1 h6).2.1;have hv:=Cn.y2E h6 hf (fun r hr hfr=>Cn.x2V (hall r hr) (fun e=>hf.1 (by rw [<- hfr,e]; decide))) hp hs;have:=get4 t m 0 c W ⟨B,t4⟩ hc;rw [hv.2 c] at this;exact this
theorem x9Q {B p:Nat} {rs:List Rec} (c:Int) (w:World) (hD:x0p w B p rs) (h6:(Cn.check6 rs).2=0) (hc:Rune c):Calls prog 16 #[.pointer (some ⟨p,0,none⟩),.int .i32 c] w (x1e w (Cn.vget rs 1 c)):=by
 obtain ⟨t1,t2,t3,t4,t5,a1,l1,a2,l2,a3,l3,a4,l4,a5,l5,c1,c2,x1,h1,h2,h3⟩:=hD;obtain ⟨bD,bE⟩:=hc;have K:=O (tget h3.p1 h6 (by decide) c ⟨by omega,by omega⟩);have x:w.cell? ⟨p,0,none⟩=some t1:=cell_of (j:=0) h1 (by show 0<18; omega);obtain ⟨a,m,e,-⟩:=h3.p1;subst e;clear h1 h2 h3 h6;generalize Cn.vget rs 1 c=vv at *;go_enter func16,ntmps16;go_wp2_with (go_at_call 35; refine (V K).mono ?_; rintro e wq ⟨rfl,mm,rfl⟩; clear K);go_ret;exact ⟨rfl,mm,rfl⟩
theorem x5W {B p:Nat} {rs:List Rec} (c:Int) (w:World) (hD:x0p w B p rs) (h6:(Cn.check6 rs).2=0) (hc:Rune c):Calls prog 134 #[.pointer (some ⟨p,0,none⟩),.int .i32 c] w (x1e w (Cn.vget rs 2 c)):=by
 obtain ⟨t1,t2,t3,t4,t5,a1,l1,a2,l2,a3,l3,a4,l4,a5,l5,c1,c2,x1,h1,h2,h3⟩:=hD;obtain ⟨bD,bE⟩:=hc;have K:=O (tget h3.p2 h6 (by decide) c ⟨by omega,by omega⟩);have x:w.cell? ⟨p,1,none⟩=some t2:=cell_of (j:=1) h1 (by show 1<18; omega);obtain ⟨a,m,e,-⟩:=h3.p2;subst e;clear h1 h2 h3 h6;generalize Cn.vget rs 2 c=vv at *;go_enter func134,ntmps134;go_wp2_with (go_at_call 35; refine (V K).mono ?_; rintro e wq ⟨rfl,mm,rfl⟩; clear K);go_ret;exact ⟨rfl,mm,rfl⟩
theorem y3a {B p:Nat} {rs:List Rec} (c:Int) (w:World) (hD:x0p w B p rs) (h6:(Cn.check6 rs).2=0) (hc:Rune c):Calls prog 199 #[.pointer (some ⟨p,0,none⟩),.int .i32 c] w (x1e w (Cn.vget rs 4 c)):=by
 obtain ⟨t1,t2,t3,t4,t5,a1,l1,a2,l2,a3,l3,a4,l4,a5,l5,c1,c2,x1,h1,h2,h3⟩:=hD;obtain ⟨bD,bE⟩:=hc;have K:=O (tget h3.p3 h6 (by decide) c ⟨by omega,by omega⟩);have x:w.cell? ⟨p,2,none⟩=some t3:=cell_of (j:=2) h1 (by show 2<18; omega);obtain ⟨a,m,e,-⟩:=h3.p3;subst e;clear h1 h2 h3 h6;generalize Cn.vget rs 4 c=vv at *;go_enter func199,ntmps199;go_wp2_with (go_at_call 35; refine (V K).mono ?_; rintro e wq ⟨rfl,mm,rfl⟩; clear K);go_ret;exact ⟨rfl,mm,rfl⟩
theorem y4k {B p:Nat} {rs:List Rec} (c:Int) (w:World) (hD:x0p w B p rs) (h6:(Cn.check6 rs).2=0) (hc:Rune c):Calls prog 237 #[.pointer (some ⟨p,0,none⟩),.int .i32 c] w (x1e w (Cn.vget rs 5 c)):=by
 obtain ⟨t1,t2,t3,t4,t5,a1,l1,a2,l2,a3,l3,a4,l4,a5,l5,c1,c2,x1,h1,h2,h3⟩:=hD;obtain ⟨bD,bE⟩:=hc;have K:=O (tget h3.p4 h6 (by decide) c ⟨by omega,by omega⟩);have x:w.cell? ⟨p,3,none⟩=some t4:=cell_of (j:=3) h1 (by show 3<18; omega);obtain ⟨a,m,e,-⟩:=h3.p4;subst e;clear h1 h2 h3 h6;generalize Cn.vget rs 5 c=vv at *;go_enter func237,ntmps237;go_wp2_with (go_at_call 35; refine (V K).mono ?_; rintro e wq ⟨rfl,mm,rfl⟩; clear K);go_ret;exact ⟨rfl,mm,rfl⟩
theorem y4u {B p:Nat} {rs:List Rec} (c:Int) (w:World) (hD:x0p w B p rs) (h6:(Cn.check6 rs).2=0) (hc:Rune c):Calls prog 17 #[.pointer (some ⟨p,0,none⟩),.int .i32 c] w (y2J w (Cn.vget rs 6 c != 0)):=by
 obtain ⟨t1,t2,t3,t4,t5,a1,l1,a2,l2,a3,l3,a4,l4,a5,l5,c1,c2,x1,h1,h2,h3⟩:=hD;obtain ⟨bD,bE⟩:=hc;have K:=O (tget h3.p5 h6 (by decide) c ⟨by omega,by omega⟩);have x:w.cell? ⟨p,4,none⟩=some t5:=cell_of (j:=4) h1 (by show 4<18; omega);obtain ⟨a,m,e,-⟩:=h3.p5;subst e;clear h1 h2 h3 h6;generalize Cn.vget rs 6 c=vv at *;go_enter func17,ntmps17;go_wp2_with (go_at_call 35; refine (V K).mono ?_; rintro e wq ⟨rfl,mm,rfl⟩; clear K);go_ret;exact ⟨rfl,mm,rfl⟩
namespace Cn
def stat (rs:List Rec) (c:Int):Int:=match hit rs 1 c with | some r=>(if r.kind=1 then 1 else if r.kind=2 then 2 else if r.kind=5 then 4 else 3) | Option.none=>0
def nget (rs:List Rec) (f c:Int):Int:=match hit rs f c with | some r=>r.n | Option.none=>0
theorem x4V {k f:Int} (h:fam k=f):(f=1->1<=k/\k<=5)/\(f=2->k=6)/\(3<f->k=f+5):=by
 subst h;unfold fam;split
 ·omega
 ·split
  ·omega
  ·split
   ·omega
   ·split <;> omega
variable {rs:List Rec}
theorem x9T (h6:(check6 rs).2=0) (c:Int):stat rs c=vget rs 1 c:=by
 unfold stat vget
 cases he:hit rs 1 c with
 | none=>rfl
 | some r =>
  have hk:=(x4V ((x1b h6 (by decide) r).1 he).2.1).1 rfl;show (if _ then _ else _)=value r;unfold value;by_cases k1:r.kind=1
  ·rw [if_pos k1,if_pos k1]
  ·by_cases k2:r.kind=2
   ·rw [if_neg k1,if_pos k2,if_neg k1,if_pos k2]
   ·by_cases k5:r.kind=5
    ·rw [if_neg k1,if_neg k2,if_pos k5,if_neg k1,if_neg k2,if_neg (by omega),if_pos k5]
    ·rw [if_neg k1,if_neg k2,if_neg k5,if_neg k1,if_neg k2,if_pos (by omega)]
theorem x8L {r:Rec} (h:6<=r.kind) (h2:r.kind≠11):value r=r.n:=by
 unfold value;rw [if_neg (by omega),if_neg (by omega),if_neg (by omega),if_neg (by omega),if_neg h2]
theorem y1a (h6:(check6 rs).2=0) (c:Int):cls rs c=vget rs 2 c:=by
 unfold cls vget
 cases he:hit rs 2 c with
 | none=>rfl
 | some r =>
  have hk:=(x4V ((x1b h6 (by decide) r).1 he).2.1).2.1 rfl;exact (x8L (by omega) (by omega)).symm
theorem y1b (h6:(check6 rs).2=0) (f c:Int) (hf:f=4\/f=5):nget rs f c=vget rs f c:=by
 unfold nget vget
 cases he:hit rs f c with
 | none=>rfl
 | some r =>
  have hk:=(x4V ((x1b h6 (by omega) r).1 he).2.1).2.2 (by omega);exact (x8L (by omega) (by omega)).symm
theorem y5K (h6:(check6 rs).2=0) (c:Int):(vget rs 6 c != 0)=(hit rs 6 c).isSome:=by
 unfold vget
 cases he:hit rs 6 c with
 | none=>rfl
 | some r =>
  have hk:=(x4V ((x1b h6 (by decide) r).1 he).2.1).2.2 (by omega);show (value r != 0)=true
  have:value r=1:=by
   unfold value;rw [if_neg (by omega),if_neg (by omega),if_neg (by omega),if_neg (by omega),if_pos (by omega)]
  rw [this]; rfl
end Cn
theorem y2l (v:Value) (rs:List Rec) (c:Int) (w:World) (hv:Rcs w v rs) (hc:Rune c):Calls prog 27 #[v,.int .i32 c] w (IntB w (Cn.stat rs c)):=by
 have K:=O (x0O v rs 1 c w hv (by unfold I64; omega) hc);obtain ⟨c0,c1⟩:=hc;unfold Cn.stat;rcases hit_at hv 1 c with ⟨h1,h2⟩ | ⟨k,b,off,cap,h1,hkl,h2,rfl,hl,hm,hr,hf⟩
 ·rw [h2];rw [h1] at K;obtain ⟨ao,cap,rfl,_,_⟩:=hv.shape;clear hv h1 h2;go_enter func27,ntmps27;go_wp2_with fail;refine (V K).mono ?_;rintro e w1 ⟨rfl,hb⟩;have HF:IntB w 0 (.returned (.int .i64 0)) w1:=⟨rfl,hb⟩;clear K hb;go_wp2;go_ret;exact HF
 ·rw [h2];rw [h1] at K;have HR:=O hr;have bS:=hv.1;obtain ⟨k1,k2⟩:=hf.kind;clear hv h1 h2 hr hf;show Calls _ _ _ _ (IntB w (if (rs.getD k Cn.none).kind=1 then 1 else if (rs.getD k Cn.none).kind=2 then 2 else if (rs.getD k Cn.none).kind=5 then 4 else 3));generalize rs.getD k Cn.none=r at *
  have KK:∀ kd z:Int,r.kind=kd->((kd=1/\z=1)\/(kd=2/\z=2)\/(kd=5/\z=4)\/(kd≠1/\kd≠2/\kd≠5/\z=3))->Calls prog 27 #[.slice (some ⟨b,off,none⟩) rs.length cap,.int .i32 c] w (IntB w z):=by
   intro kd z bi hz;rw [bi] at k1 k2;rcases hz with ⟨rfl,rfl⟩ | ⟨rfl,rfl⟩ | ⟨rfl,rfl⟩ | ⟨n1,n2,n5,rfl⟩
   case inr.inr.inr =>
    have b1:(kd==1)=false:=(by rw [beq_eq_false_iff_ne]; exact n1);have b2:(kd==2)=false:=(by rw [beq_eq_false_iff_ne]; exact n2);have b5:(kd==5)=false:=(by rw [beq_eq_false_iff_ne]; exact n5);go_enter func27,ntmps27;go_wp2_with fail;refine (V K).mono ?_;rintro e w1 ⟨rfl,hb⟩;have x0:=((V HR).below hb).kind;rw [bi] at x0;have HF:=O hb;clear K hb HR bi;go_wp2;go_ret;exact ⟨rfl,V HF⟩
   all_goals
    go_enter func27,ntmps27;go_wp2_with fail;refine (V K).mono ?_;rintro e w1 ⟨rfl,hb⟩;have x0:=((V HR).below hb).kind;rw [bi] at x0;have HF:=O hb;clear K hb HR bi;go_wp2;go_ret;exact ⟨rfl,V HF⟩
  refine KK r.kind _ rfl ?_;split
  ·exact .inl ⟨by assumption,rfl⟩
  ·split
   ·exact .inr (.inl ⟨by assumption,rfl⟩)
   ·split
    ·exact .inr (.inr (.inl ⟨by assumption,rfl⟩))
    ·exact .inr (.inr (.inr ⟨by assumption,by assumption,by assumption,rfl⟩))
theorem x6m (v:Value) (rs:List Rec) (f c:Int) (w:World) (hv:Rcs w v rs) (hc:Rune c) (cp:I64 f):Calls prog 93 #[v,.int .i64 f,.int .i32 c] w (IntB w (Cn.nget rs f c)):=by
 have K:=O (x0O v rs f c w hv cp hc);obtain ⟨c0,c1⟩:=hc;obtain ⟨f0,f1⟩:=cp;unfold Cn.nget;rcases hit_at hv f c with ⟨h1,h2⟩ | ⟨k,b,off,cap,h1,hkl,h2,rfl,hl,hm,hr,hf⟩
 ·rw [h2];rw [h1] at K;obtain ⟨ao,cap,rfl,_,_⟩:=hv.shape;clear hv h1 h2;go_enter func93,ntmps93;go_wp2_with fail;refine (V K).mono ?_;rintro e w1 ⟨rfl,hb⟩;have HF:IntB w 0 (.returned (.int .i64 0)) w1:=⟨rfl,hb⟩;clear K hb;go_wp2;go_ret;exact HF
 ·rw [h2];rw [h1] at K;have HR:=O hr;have bS:=hv.1;clear hv h1 h2 hr hf;show Calls _ _ _ _ (IntB w (rs.getD k Cn.none).n);generalize rs.getD k Cn.none=r at *;go_enter func93,ntmps93;go_wp2_with fail;refine (V K).mono ?_;rintro e w1 ⟨rfl,hb⟩;have x3:=((V HR).below hb).n;have HF:IntB w r.n (.returned (.int .i64 r.n)) w1:=⟨rfl,hb⟩;clear K hb HR;go_wp2;go_ret;exact HF
theorem x5l (v:Value) (rs:List Rec) (c:Int) (w:World) (hv:Rcs w v rs) (hc:Rune c):Calls prog 91 #[v,.int .i32 c] w (IntB w (Cn.cls rs c)):=by
 have K:=O (x1F v rs c w hv hc);obtain ⟨c0,c1⟩:=hc;obtain ⟨ao,cap,rfl,_,_⟩:=hv.shape;clear hv;generalize Cn.cls rs c=z at *;go_enter func91,ntmps91;go_wp2_with fail;refine (V K).mono ?_;rintro e w1 ⟨rfl,hb⟩;have HF:=O hb;clear K hb;go_wp2;go_ret;exact ⟨rfl,V HF⟩
theorem y7q (v:Value) (rs:List Rec) (c:Int) (w:World) (hv:Rcs w v rs) (hc:Rune c):Calls prog 55 #[v,.int .i32 c] w (IntB w (Cn.nget rs 4 c)):=by
 have K:=O (x6m v rs 4 c w hv hc (by unfold I64; omega));obtain ⟨c0,c1⟩:=hc;obtain ⟨ao,cap,rfl,_,_⟩:=hv.shape;clear hv;generalize Cn.nget rs 4 c=z at *;go_enter func55,ntmps55;go_wp2_with fail;refine (V K).mono ?_;rintro e w1 ⟨rfl,hb⟩;have HF:=O hb;clear K hb;go_wp2;go_ret;exact ⟨rfl,V HF⟩
theorem y7s (v:Value) (rs:List Rec) (c:Int) (w:World) (hv:Rcs w v rs) (hc:Rune c):Calls prog 92 #[v,.int .i32 c] w (IntB w (Cn.nget rs 5 c)):=by
 have K:=O (x6m v rs 5 c w hv hc (by unfold I64; omega));obtain ⟨c0,c1⟩:=hc;obtain ⟨ao,cap,rfl,_,_⟩:=hv.shape;clear hv;generalize Cn.nget rs 5 c=z at *;go_enter func92,ntmps92;go_wp2_with fail;refine (V K).mono ?_;rintro e w1 ⟨rfl,hb⟩;have HF:=O hb;clear K hb;go_wp2;go_ret;exact ⟨rfl,V HF⟩
theorem y7u (v:Value) (rs:List Rec) (c:Int) (w:World) (hv:Rcs w v rs) (hc:Rune c):Calls prog 26 #[v,.int .i32 c] w (x0d w (Cn.hit rs 6 c).isSome):=by
 have K:=O (x0O v rs 6 c w hv (by unfold I64; omega) hc);obtain ⟨c0,c1⟩:=hc;have hh:=hit_at hv 6 c;obtain ⟨ao,cap,rfl,_,_⟩:=hv.shape;clear hv;rcases hh with ⟨h1,h2⟩ | ⟨k,b,off,bJ,h1,hkl,h2,-⟩
 ·rw [h2];rw [h1] at K;clear h1 h2;go_enter func26,ntmps26;go_wp2_with fail;refine (V K).mono ?_;rintro e w1 ⟨rfl,hb⟩;have HF:=O hb;clear K hb;go_wp2;go_ret;exact ⟨rfl,V HF⟩
 ·rw [h2];rw [h1] at K;clear h1 h2;have cs:(0:Int)<=(k:Int):=(by omega);have hd:decide ((0:Int)<=(k:Int))=true:=d0t cs;go_enter func26,ntmps26;go_wp2_with fail;refine (V K).mono ?_;rintro e w1 ⟨rfl,hb⟩;have HF:=O hb;clear K hb;go_wp2;go_ret;exact ⟨by first | rfl | (simp [cs]),V HF⟩
