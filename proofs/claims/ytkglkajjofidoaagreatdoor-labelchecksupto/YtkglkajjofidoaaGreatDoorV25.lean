/- Ui9 Uj9 Uq9 Up9 Ur9 -/
import Derived.Test.YtkglkajjofidoaaGreatDoorV16
import Derived.Deep.RegionHeld
import Derived.Deep.AppendLies
import Derived.Test.YtkglkajjofidoaaGreatDoorV26
set_option maxHeartbeats 8000000
set_option maxRecDepth 8000
namespace Go.Proofs.YtkglkajjofidoaaGreatDoor
open Go.Proofs.Tryz
open Go.RowKit
open Ti
namespace Cn
theorem x2s {g:Nat->Rec->Int}:∀ (l:List Rec) (i:Nat) (r:Rec),rangesA g i (l++[r])=rangesA g i l++spoken r (g (i+l.length) r)
 | [],i,r=>by simp [rangesA]
 | x :: l,i,r=>by
  rw [List.cons_append,rangesA,x2s l (i+1) r,rangesA,List.append_assoc,List.length_cons,show i+1+l.length=i+(l.length+1) by omega]
theorem x3J {r:Rec} (h:right r=0) (hk:r.kind≠15) (v:Int):(spoken r v).length<=1114112:=by
 obtain ⟨s1,s2,s3⟩:=x0o h hk;unfold spoken;split
 ·simp
 ·rw [x4n]
  rename_i hc
  have be:=right_step h;have h4:r.kind=4:=Decidable.byContradiction fun e=>hc (.inl e);unfold step at be;rw [if_pos h4] at be;have:(r.hi - r.lo) / r.n<=r.hi - r.lo:=Int.ediv_le_self _ (by omega);omega
theorem x2P {g:Nat->Rec->Int}:∀ (l:List Rec) (i:Nat),(∀ r∈l,right r=0/\r.kind≠15)->(rangesA g i l).length<=1114112 * l.length
 | [],_,_=>by simp [rangesA]
 | r :: l,i,h=>by
  rw [rangesA,List.length_append,List.length_cons];have h1:=x3J (h r (by simp)).1 (h r (by simp)).2 (g i r);have h2:=x2P (g:=g) l (i+1) (fun x hx=>h x (List.mem_cons_of_mem _ hx));omega
end Cn
theorem x8F (r:Rec) (v:Int) (h:Cn.right r=0) (hk:r.kind≠15):0<(Cn.spoken r v).length:=by
 unfold Cn.spoken;split
 ·simp
 ·rw [Cn.x4n]
  rename_i hc
  obtain ⟨s1,s2,s3⟩:=Cn.x0o h hk;have be:=Cn.right_step h;have h4:r.kind=4:=Decidable.byContradiction fun e=>hc (.inl e);unfold Cn.step at be;rw [if_pos h4] at be;have:=Int.ediv_nonneg (a:=r.hi - r.lo) (b:=r.n) (by omega) (by omega);omega
theorem y7h {W0 w2 w4:World} {bv v4:Value} {xs ys:List Tri.Rg} (hB:Bw W0 w2) (hm:Or4 w2 W0.heap.size bv xs) (hy:FitR ys) (hl:xs.length+ys.length<=5000000000) (hr:w4.ownsRow W0.heap.size 208 3 v4 (xs.length+ys.length) (Ti.rcells xs++Ti.rcells ys)) (hg:w2.grownBy w4 bv.ownBlock):Or4 w4 W0.heap.size v4 (xs++ys)/\Bw W0 w4 :=
 ⟨⟨fun r h=>by
  rcases List.mem_append.1 h with h | h
  ·exact hm.1 r h
  ·exact hy r h,by rw [List.length_append]; omega,by rw [List.length_append,Ti.x1Q]; exact hr⟩,hB.grown hg hB.size (fun g hg'=>(hm.2.2.lt g hg').1)⟩
theorem y4M {w:World} {B:Nat} {v:Value} {ys:List Tri.Rg} (h:Or4 w B v ys) (hn:0<ys.length):∃ g cap,v=.slice (some ⟨g,0,none⟩) ys.length cap/\∀ j u,(Ti.rcells ys)[j]?=some u->w.cell? ((⟨g,0,none⟩:Addr).add j)=some u:=by
 rcases h.2.2.2 with ⟨_,h0⟩ | ⟨g,cap,cur,rfl,_⟩
 ·omega
 ·exact ⟨g,cap,rfl,fun j u hj=>h.2.2.cells (g:=g) rfl j u hj⟩
theorem y9e {w w':World} {b:Nat} {kd lo hi n:Int} {vt:Value} {nm ot:ByteArray} {wt:Nat} (h:BoxAt w b kd lo hi n vt nm ot wt) (hb:w'.heap[b]?=w.heap[b]?):BoxAt w' b kd lo hi n vt nm ot wt:=by
 have e:∀ j,w'.cell? ⟨b,j,none⟩=w.cell? ⟨b,j,none⟩:=fun j=>World.cell?_of_block hb;exact ⟨by rw [e]; exact h.1,by rw [e]; exact h.2,by rw [e]; exact h.3,by rw [e]; exact h.4,by rw [e]; exact h.5,by rw [e]; exact h.6,by rw [e]; exact h.7,by rw [e]; exact h.8⟩
theorem x8M (v:Value) (rs:List Rec) (kind:Int) (w:World) (hg:Glob w) (hv:Rcs w v rs) (hk:I64 kind) (ax:∀ r∈Cn.famOf (Cn.fam kind) rs,Cn.right r=0/\r.kind≠15/\Fi (Cn.value r)) (hl:(Cn.famOf (Cn.fam kind) rs).length<=4096) (hval:∀ m:List Tri.Rg,m.Perm (Cn.rangesA (fun _ r=>Cn.value r) 1 (Cn.famOf (Cn.fam kind) rs))->(m.Pairwise fun x y=>Tri.lo x<=Tri.lo y)->Tri.Val 0 m):Calls prog 75 #[v,.int .i64 kind] w (x4A w (Cn.rangesA (fun _ r=>Cn.value r) 1 (Cn.famOf (Cn.fam kind) rs))):=by
 obtain ⟨i0,cf,cm,cn,co⟩:=info_parts Tryz.info208;have K1:=O (x3Q v rs kind w hg hv hk);unfold FamB at K1;obtain ⟨ao,cap,ar,_,_⟩:=hv.shape;generalize Cn.famOf (Cn.fam kind) rs=fs at *;have ae:=O ax;have aF:=O hval;clear hv hg ax hval;subst ar;go_enter func75,ntmps75;go_wp2_with fail;refine (V K1).mono ?_;rintro e1 w1 ⟨v1,ps,rfl,bH,hR,bk⟩;have ch:ps.length=fs.length:=(by rw [<- bH,List.length_map]);have bl:Rcs w1 v1 fs:=by rw [<- bH]; exact hR.rsx.rcs bk (by omega)
 have bh:Hid (∀ k,(Cn.rangesA (fun _ r=>Cn.value r) 1 (fs.take k)).length<=4563402752):=fun k=>by
  have h1:=Cn.x2P (g:=fun _ r=>Cn.value r) (fs.take k) 1 (fun r hr=>⟨(V ae r (List.mem_of_mem_take hr)).1,(V ae r (List.mem_of_mem_take hr)).2.1⟩);have h2:(fs.take k).length<=fs.length:=List.length_take_le' _ _;omega
 have ac:Hid (∀ k,k<fs.length->∃ b off cap,v1=.slice (some ⟨b,off,none⟩) fs.length cap/\RecAt w1 b (off+k * 8) (fs.getD k Cn.none)/\RecFit (fs.getD k Cn.none)):=fun k hk=>by
  obtain ⟨b,off,cap,he,_,_,hc⟩:=bl.place (by omega);exact ⟨b,off,cap,he,hc k hk,bl.fit hk⟩
 have aE:Hid (∀ k,k<fs.length->Cn.rangesA (fun _ r=>Cn.value r) 1 (fs.take (k+1))=Cn.rangesA (fun _ r=>Cn.value r) 1 (fs.take k)++Cn.spoken (fs.getD k Cn.none) (Cn.value (fs.getD k Cn.none))):=fun k hk=>by
  have e:fs.take (k+1)=fs.take k++[fs.getD k Cn.none]:=by
   rw [List.take_add_one];simp [List.getD,hk]
  rw [e,Cn.x2s]
 have aD:Hid (∀ e w',x4A w1 (Cn.rangesA (fun _ r=>Cn.value r) 1 fs) e w'->x4A w (Cn.rangesA (fun _ r=>Cn.value r) 1 fs) e w'):=fun e w' h=>by
  obtain ⟨a,m,h1,h2,h3,h4,h5⟩:=h;exact ⟨a,m,h1,h2,h3,h4.lower bk.size,x0b bk h5⟩
 obtain ⟨ao1,cap1,bK,_,_⟩:=bl.shape;subst bK;clear K1 bH hR bl ch bk;go_wp2;go_loopw [5,7,12] (fun rv _ iv wr=>∃ k:Nat,iv=.int .i64 k/\k<=fs.length/\Or4 wr w1.heap.size rv (Cn.rangesA (fun _ r=>Cn.value r) 1 (fs.take k))/\Bw w1 wr) (fun _ _ iv _=>fs.length - (intOf iv).toNat)
 case atStart=>exact ⟨0,rfl,by omega,Or4.nil _ _,b0r⟩
 case round =>
  obtain ⟨k,rfl,hk,aJ,aj⟩:=hrel;by_cases hlt:k<fs.length
  ·obtain ⟨b,off,aX,he,hA,af⟩:=V ac k hlt;obtain ⟨e1,e2,e3⟩:=Value.slice.inj he;clear e2 e3 he;subst e1;obtain ⟨hr1,hr2,hr3⟩:=V ae (fs.getD k Cn.none) (by simp [List.getD,hlt]);have bR:=O (V aE k hlt);have hxl:=V bh k;obtain ⟨y0,y1,y2,y3,⟨va,y4,al⟩,y5,y6,y7⟩:=hA;obtain ⟨ah,ab,rfl,_,_⟩:=al.shape;have hold:∀ j u,w1.cell? ⟨b,off+k * 8+j,none⟩=some u->wr.cell? ⟨b,off+k * 8+j,none⟩=some u:=fun j u h=>(by rw [aj.cell (x0a h)]; exact h);have x0:wr.cell? ⟨b,off+k * 8,none⟩=_:=hold 0 _ y0;have x1:=hold 1 _ y1;have x2:=hold 2 _ y2;have x3:=hold 3 _ y3;have x4:=hold 4 _ y4;have x5:=hold 5 _ y5;have x6:=hold 6 _ y6;have x7:=hold 7 _ y7;clear hold y0 y1 y2 y3 y4 y5 y6 y7 ac aE aF aD;generalize fs.getD k Cn.none=r at *;have bA:∀ W a m,(store a (.float .f64 r.wt) m).run prog W=stored prog W a (.float .f64 r.wt) m:=fun W a m=>run_store prog W a _ m rfl;obtain ⟨W1,bj,b0,am⟩:=x0I wr r.kind r.lo r.hi r.n (.slice ah r.to.length ab) r.name r.other r.wt;have au:=O (x0b aj am);have aM:Hid (∀ W,Bw W1 W->BoxAt W wr.heap.size r.kind r.lo r.hi r.n (.slice ah r.to.length ab) r.name r.other r.wt):=fun W h=>b0.keep h;have bS:Hid (∀ W,Bw W1 W->Or4 W w1.heap.size u5 (Cn.rangesA (fun _ r=>Cn.value r) 1 (fs.take k))/\Bw w1 W):=fun W h=>⟨(aJ.below am).below h,x0b (V au) h⟩;have KV:Hid (∀ W,Bw W1 W->Calls prog 120 #[recV r (.slice ah r.to.length ab)] W (IntB W (Cn.value r))):=fun W h=>y2D r _ W af (al.below (x0b (V au) h));have KS:Hid (∀ W,Bw W1 W->Calls prog 119 #[recV r (.slice ah r.to.length ab),.int .i64 (Cn.value r)] W (y2R W (Cn.spoken r (Cn.value r)))):=fun W h=>x5v r _ _ W af (al.below (x0b (V au) h)) hr1 hr2 hr3;have bm:=x8F r (Cn.value r) hr1 hr2;have hsl:=Cn.x3J hr1 hr2 (Cn.value r);unfold recV at KV KS;obtain ⟨z0,z1,z2,z3,z4,z5,z6,z7⟩:=b0;have bQ:Hid (u5.ownBlock≠some wr.heap.size):=fun e=>(by have:=(aJ.2.2.lt _ e).2; omega);have bT:Hid (wr.heap.size<W1.heap.size):=x0a z0;clear aJ aj am af al hr1 hr2 hr3 ae bh;generalize Cn.spoken r (Cn.value r)=ys at *;generalize Cn.value r=vv at *;generalize Cn.rangesA (fun _ r=>Cn.value r) 1 (fs.take k)=xs at *;generalize r.kind=kd at *;generalize r.lo=lo at *;generalize r.hi=hi at *;generalize r.n=n at *;generalize r.name=nm at *;generalize r.other=ot at *;generalize r.wt=wt at *;generalize r.to.length=tl at *;go_wp2;clear au x0 x1 x2 x3 x4 x5 x6 x7 z0 z1 z2 z3 z4 z5 z6 z7 bA;refine wp_region_held_drew (S:=fun w'=>BoxAt w' wr.heap.size kd lo hi n (.slice ah tl ab) nm ot wt) (by kernel_rfl) (V aM _ (x0k ⟨1,rfl⟩)) (fun hHeld=>?_);refine tk9 0 u5 ?_;refine tk9 1 (.agg #[.int .i64 kd,.int .i64 lo,.int .i64 hi,.int .i64 n,.slice ah tl ab,.string nm,.string ot,.float .f64 wt]) ?_ (hy:=by (intro w aa; obtain ⟨s0,s1,s2,s3,s4,s5,s6,s7⟩:=aa; go_simp));refine tk9 2 (.agg #[.int .i64 kd,.int .i64 lo,.int .i64 hi,.int .i64 n,.slice ah tl ab,.string nm,.string ot,.float .f64 wt]) ?_ (hy:=by (intro w aa; obtain ⟨s0,s1,s2,s3,s4,s5,s6,s7⟩:=aa; go_simp));refine rd9 3 fun K hK=>?_;go_simp;refine (V KV _ (x0k ⟨1,rfl⟩)).mono ?_;rintro e2 w2 ⟨rfl,an⟩;have av:=O (x0b (x0k ⟨1,rfl⟩) an:Bw W1 w2);clear an;refine hK.out _ _ ?_ (fun hHeld=>?_)
   ·exact V aM _ (V av)
   clear hK K
   try simp only [Act.put,sa9,sb9,sc9]
   refine rd9 4 fun K hK=>?_;go_simp;refine (V KS _ (V av)).mono ?_;rintro e3 w3 ⟨v3,rfl,bu,aL⟩;have bs:=x0b (V av) aL;obtain ⟨g3,bo,rfl,bd⟩:=y4M bu bm;have bt:=V bS _ bs;have hsz3:=bt.2.size;have HM:=O bt;have bO:=O bu.1;have aS:=O bd;have aQ:=O (Ti.x3C ys);have aw:=O bs;clear bu aL bs bt bd;refine hK.out _ _ ?_ (fun hHeld=>?_)
   ·exact V aM _ (V aw)
   clear hK K
   try simp only [Act.put,sa9,sb9,sc9]
   refine rd9 5 fun K hK=>?_;refine step_append_lies _ (by rfl) (.tmp 16) (.tmp 20) 157 (by rfl) w1.heap.size 208 i0 (.agg #[.int .i64 0,.int .i64 0,.int .i64 0]) 3 24 underlying157 cf cm cn co rfl (by omega) u5 xs.length (Ti.rcells xs) (by rfl) (V HM).1.2.2 ⟨g3,0,none⟩ ys.length bo (Ti.rcells ys) (by rfl) (by rw [Ti.x1x]) (V aS) (V aQ) (by omega) (by unfold maxLen; omega) (by omega) (by omega) w3.heap.size rfl ?_;intro gg bp w8 ay ad bz bD;have a5:=y9e (V aM _ (V aw)) (ad.block wr.heap.size (Nat.lt_of_lt_of_le (V bT) (V aw).size) (fun e=>V bQ e.symm));have R:=y7h (V HM).2 (V HM).1 (V bO) (by omega) ay ad;rw [<- V bR] at R;have HR:=O R;clear R ay ad bz;refine hK.out _ _ ?_ (fun hHeld=>?_)
   ·exact a5
   clear hK K a5
   try simp only [Act.put,sa9,sb9,sc9]
   refine tk9 6 (.slice (some ⟨gg,0,none⟩) (xs.length+ys.length) bp) ?_;refine wpAnyH_done (by kernel_rfl) ?_ _;clear hHeld HM bO aS aQ bS aM KV KS bR av aw bQ bT bD;go_wp2
   go_roundw
   case rel=>exact ⟨k+1,by go_num,by omega,(V HR).1,(V HR).2⟩
   case measure=>simp [intOf]; omega
  ·obtain rfl:k=fs.length:=(by omega);rw [List.take_of_length_le (l0r _)] at aJ;have KB:=O (y3f w1 wr _ _ aj aJ (by have:=V bh fs.length; rw [List.take_of_length_le (l0r _)] at this; omega) (V aF));obtain ⟨ro,rcap,ci,_,_⟩:=aJ.sr.shape;subst ci;clear aJ aj ac aE ae bh aF;go_wp2_with fail;refine (V KB).mono ?_;intro e w9 bZ;have h9:=V aD e w9 bZ;obtain ⟨a,m,rfl,q2,q3,q4,q5⟩:=h9;have HF:x4A w (Cn.rangesA (fun _ r=>Cn.value r) 1 fs) (.returned (.pointer (some a))) w9:=⟨a,m,rfl,q2,q3,q4,q5⟩;clear KB bZ aD q2 q3 q4 q5;go_wp2;go_ret;exact HF
open Ti
def SpkB (w:World) (fs:List Rec) (e:Ending) (w':World):Prop:=∃ a m vl ps,e=.returned (.agg #[.pointer (some a),vl])/\m.Perm (Cn.rangesA (fun i _=>(i:Int)) 1 fs)/\(m.Pairwise fun x y=>Tri.lo x<=Tri.lo y)/\T4 w' w.heap.size (.pointer (some a)) m 0/\Rown w' w.heap.size vl ps/\ps.map (·.1)=Cn.none :: fs/\Below w.heap.size w w'
structure Spst (w w1 wr:World) (rv lv:Value) (xs:List Tri.Rg) (ps:List (Rec × Value)):Prop where
 bel:Below w.heap.size w wr
 sz:w1.heap.size<=wr.heap.size
 s1:w.heap.size+2<=w1.heap.size
 old:∀ g,g<w1.heap.size->g≠w.heap.size+1->wr.heap[g]?=w1.heap[g]?
 res:w1.heap[w.heap.size]?=some (.cells #[.pointer none,.slice none 0 0] 72 (0,0))
 rng:Or4 wr w1.heap.size rv xs
 rcs:Rown wr w.heap.size lv ps
 lvb:∀ g,lv.ownBlock=some g->g=w.heap.size+1\/w1.heap.size<=g
section
variable {w w1 wr w':World} {rv lv v' vt:Value} {xs ys:List Tri.Rg} {ps:List (Rec × Value)} {r:Rec} {o:Obj}
theorem Spst.below (h:Spst w w1 wr rv lv xs ps) (hb:Bw wr w'):Spst w w1 w' rv lv xs ps :=
 ⟨x0b h.bel hb,Nat.le_trans h.sz hb.size,h.s1,fun g h1 h2=>by rw [hb.block g (by have:=h.sz; omega)]; exact h.old g h1 h2,h.res,h.rng.below hb,⟨x0t h.rcs.1 fun g hg=>hb.block g (h.rcs.1.lt g hg).2,fun p hp=>(h.rcs.2 p hp).below hb⟩,h.lvb⟩
theorem Spst.keep (h:Spst w w1 wr rv lv xs ps) {B:Nat} (hs:wr.heap.size<=w'.heap.size) (hb:Bw w w') (hB:w1.heap.size<=B) (hk:∀ g,g<wr.heap.size->g≠B->w'.heap[g]?=wr.heap[g]?) (hr:rv.ownBlock≠some B) (hl:lv.ownBlock≠some B) (hp:∀ p∈ps,p.2.ownBlock≠some B):Spst w w1 w' rv lv xs ps :=
 ⟨hb,Nat.le_trans h.sz hs,h.s1,fun g h1 h2=>by rw [hk g (by have:=h.sz; omega) (by omega)]; exact h.old g h1 h2,h.res,⟨h.rng.1,h.rng.2.1,x0t h.rng.2.2 fun g hg=>hk g (h.rng.2.2.lt g hg).2 (fun e=>hr (by rw [hg,e]))⟩,
  ⟨x0t h.rcs.1 fun g hg=>hk g (h.rcs.1.lt g hg).2 (fun e=>hl (by rw [hg,e])),fun p hp'=>(h.rcs.2 p hp').keep fun g hg=>hk g ((h.rcs.2 p hp').2.2.lt g hg).2 (fun e=>hp p hp' (by rw [hg,e]))⟩,h.lvb⟩
theorem Spst.ranges (h:Spst w w1 wr rv lv xs ps) (hy:FitR ys) (hl:xs.length+ys.length<=5000000000) (hr:w'.ownsRow w1.heap.size 208 3 v' (xs.length+ys.length) (Ti.rcells xs++Ti.rcells ys)) (hg:wr.grownBy w' rv.ownBlock):Spst w w1 w' v' lv (xs++ys) ps:=by
 have k:∀ g,g<wr.heap.size->rv.ownBlock≠some g->w'.heap[g]?=wr.heap[g]?:=fun g h1 h2=>hg.block g h1 (fun e=>h2 e.symm);have ba:∀ g,rv.ownBlock=some g->w1.heap.size<=g:=fun g hg'=>(h.rng.2.2.lt g hg').1;refine ⟨h.bel.grown hg h.bel.size (fun g hg'=>Nat.le_trans (by have:=h.s1; omega) (ba g hg')),Nat.le_trans h.sz hg.size,h.s1,fun g h1 h2=>?_,h.res,⟨fun x hx=>?_,by rw [List.length_append]; omega,by rw [List.length_append,Ti.x1Q]; exact hr⟩,⟨x0t h.rcs.1 fun g hg'=>k g (h.rcs.1.lt g hg').2 (x0E h.rcs.1 h.rng.2.2 (by decide) hg'),fun p hp=>?_⟩,h.lvb⟩
 ·rw [k g (by have:=h.sz; omega) (fun e=>by have:=ba g e; omega)]; exact h.old g h1 h2
 ·rcases List.mem_append.1 hx with hx | hx
  ·exact h.rng.1 x hx
  ·exact hy x hx
 ·have aI:=h.rcs.2 p hp;exact aI.keep fun g hg'=>k g (aI.2.2.lt g hg').2 (x0E aI.2.2 h.rng.2.2 (by decide) hg')
theorem Spst.more (h:Spst w w1 wr rv lv xs ps) (ht:Ok .i32 21 wr w.heap.size vt r.to) {gg cap:Nat} (hr:w'.ownsRow w.heap.size 50 8 (.slice (some ⟨gg,0,none⟩) (ps.length+1) cap) (ps.length+1) (rcells ps++x0u (r,vt))) (hg:(wr.alloc o).grownBy w' lv.ownBlock) (cc:lv.ownBlock=some gg\/gg=wr.heap.size+1):Spst w w1 w' rv (.slice (some ⟨gg,0,none⟩) (ps.length+1) cap) xs (ps++[(r,vt)]):=by
 have hs:=h.bel.size;have cj:=h.sz;have bb:=h.s1
 have k:∀ g,g<wr.heap.size->lv.ownBlock≠some g->w'.heap[g]?=wr.heap[g]?:=fun g h1 h2=>by
  rw [hg.block g (by rw [World.size_alloc]; omega) (fun e=>h2 e.symm)];exact ((Below.refl wr.heap.size wr).alloc (l0r _) o).block g h1
 refine ⟨(h.bel.alloc hs o).grown hg (by rw [World.size_alloc]; omega) (fun g hg'=>(h.rcs.1.lt g hg').1),Nat.le_trans cj (by have:=hg.size; rw [World.size_alloc] at this; omega),bb,fun g h1 h2=>?_,h.res,⟨h.rng.1,h.rng.2.1,x0t h.rng.2.2 fun g hg'=>k g (h.rng.2.2.lt g hg').2 (x0E h.rng.2.2 h.rcs.1 (by decide) hg')⟩,⟨?_,fun p hp=>?_⟩,fun g hg'=>?_⟩
 ·rw [k g (by omega) (fun e=>by rcases h.lvb g e with h3 | h3 <;> omega)]; exact h.old g h1 h2
 ·rw [x2Q] at hr;simpa using hr
 ·rcases List.mem_append.1 hp with hp | hp
  ·have aI:=h.rcs.2 p hp;exact aI.keep fun g hg'=>k g (aI.2.2.lt g hg').2 (x0E aI.2.2 h.rcs.1 (by decide) hg')
  ·simp only [List.mem_singleton] at hp;subst hp;exact ht.keep fun g hg'=>k g (ht.2.2.lt g hg').2 (x0E ht.2.2 h.rcs.1 (by decide) hg')
 ·simp only [Value.ownBlock,Option.some.injEq] at hg';subst hg';rcases cc with h3 | h3
  ·exact h.lvb _ h3
  ·exact .inr (by omega)
end
theorem z0u (w:World):∃ W1 W2,w.alloc (.cells #[.pointer none,.slice none 0 0] 72)=W1/\W1.alloc (.cells #[.int .i64 0,.int .i64 0,.int .i64 0,.int .i64 0,.slice none 0 0,.string ⟨#[]⟩,.string ⟨#[]⟩,.float .f64 0] 50)=W2/\Bw w W2/\W1.heap.size=w.heap.size+1/\W2.heap.size=w.heap.size+2/\∀ w1,Bw W2 w1->Spst w w1 w1 (.slice none 0 0) (.slice (some ⟨w.heap.size+1,0,none⟩) 1 1) [] [(Cn.none,.slice none 0 0)]:=by
 refine ⟨_,_,rfl,rfl,((b0r).alloc (l0r _) _).alloc (by simp) _,World.size_alloc _ _,by rw [World.size_alloc,World.size_alloc],fun w1 hb=>?_⟩;have hs:=hb.size;rw [World.size_alloc,World.size_alloc] at hs;have cd:Bw w ((w.alloc (.cells #[.pointer none,.slice none 0 0] 72)).alloc (.cells #[.int .i64 0,.int .i64 0,.int .i64 0,.int .i64 0,.slice none 0 0,.string ⟨#[]⟩,.string ⟨#[]⟩,.float .f64 0] 50)):=((b0r).alloc (l0r _) _).alloc (by simp) _;refine ⟨x0b cd hb,l0r _,by omega,fun g _ _=>rfl,?_,Or4.nil _ _,⟨⟨rfl,.inr ⟨w.heap.size+1,1,#[.int .i64 0,.int .i64 0,.int .i64 0,.int .i64 0,.slice none 0 0,.string ⟨#[]⟩,.string ⟨#[]⟩,.float .f64 0],rfl,by omega,?_,l0r _,by unfold maxLen; omega,rfl,rfl⟩⟩,fun p hp=>?_⟩,fun g hg=>?_⟩
 ·rw [hb.block _ (by rw [World.size_alloc,World.size_alloc]; omega)];show ((w.heap.push _).push _)[w.heap.size]?=_;rw [Array.getElem?_push,Array.getElem?_push]; simp
 ·rw [hb.block _ (by rw [World.size_alloc,World.size_alloc]; omega)];show ((w.heap.push _).push _)[w.heap.size+1]?=_;rw [Array.getElem?_push,if_pos (by simp)]
 ·simp only [List.mem_singleton] at hp;subst hp;exact Ok.nil _ _ _ _
 ·simp only [Value.ownBlock,Option.some.injEq] at hg;exact .inl hg.symm
theorem z1S (k:Nat) (z:Int) (h:[Value.int .i64 0,.int .i64 0,.int .i64 0,.int .i64 0,.slice none 0 0,.string ⟨#[]⟩,.string ⟨#[]⟩,.float .f64 0][k]?=some (.int .i32 z)):False:=by
 match k,h with
 | 0,h=>simp at h
 | 1,h=>simp at h
 | 2,h=>simp at h
 | 3,h=>simp at h
 | 4,h=>simp at h
 | 5,h=>simp at h
 | 6,h=>simp at h
 | 7,h=>simp at h
 | k+8,h=>simp at h
theorem z2s {w1 W:World} {B:Nat} (hB:w1.heap[B]?=some (.cells #[.int .i64 0,.int .i64 0,.int .i64 0,.int .i64 0,.slice none 0 0,.string ⟨#[]⟩,.string ⟨#[]⟩,.float .f64 0] 50 (0,0))) (hk:∀ g,g<w1.heap.size->g≠B->W.heap[g]?=w1.heap[g]?) {va:Value} {zs:List Int} (h:Sk .i32 w1 va zs):Sk .i32 W va zs:=by
 obtain ⟨h1,h2,h3⟩:=h;refine ⟨h1,h2,?_⟩;rcases h3 with h3 | ⟨b,off,cap,e,c1,c2,c3⟩
 ·exact .inl h3
 ·refine .inr ⟨b,off,cap,e,c1,c2,fun i hi=>?_⟩;have hc:=c3 i hi
  have ag:b≠B:=fun e=>by
   subst e;rw [x6S .i32 zs i (by simpa using hi)] at hc;simp only [World.cell?,hB] at hc;exact z1S _ _ (by simpa using hc)
  rw [World.cell?_of_block (hk b (x0a hc) ag)];exact hc
theorem y7i {w:World} {B e sz n:Nat} {v:Value} {us:List Value} (h:w.ownsRow B e sz v n us) {g:Nat} (hg:v.ownBlock=some g):∃ cur,w.heap[g]?=some (.cells cur e (0,0)):=by
 rcases h.2 with ⟨rfl,_⟩ | ⟨g',cap,cur,rfl,_,hh,_⟩
 ·cases hg
 ·simp only [Value.ownBlock,Option.some.injEq] at hg;subst hg;exact ⟨cur,hh⟩
theorem y5u {w:World} {B e e' sz n g:Nat} {v:Value} {us:List Value} {cur:Array Value} (h:w.ownsRow B e sz v n us) (hh:w.heap[g]?=some (.cells cur e' (0,0))) (ag:e≠e'):v.ownBlock≠some g:=fun hg=>by
 obtain ⟨c,hc⟩:=y7i h hg;rw [hh] at hc;simp only [Option.some.injEq,Obj.cells.injEq] at hc;exact ag hc.2.1.symm
theorem x3v {w:World} {g:Nat} {c0 c1 c2 c3 c4 c5 c6 c7:Value} (h:w.heap[g]?=some (.cells #[c0,c1,c2,c3,c4,c5,c6,c7] 50 (0,0))):w.cell? ⟨g,0,none⟩=some c0/\w.cell? ⟨g,1,none⟩=some c1/\w.cell? ⟨g,2,none⟩=some c2/\w.cell? ⟨g,3,none⟩=some c3/\w.cell? ⟨g,4,none⟩=some c4/\w.cell? ⟨g,5,none⟩=some c5/\w.cell? ⟨g,6,none⟩=some c6/\w.cell? ⟨g,7,none⟩=some c7 :=
 ⟨cell_of (j:=0) h (by show 0<8; omega),cell_of (j:=1) h (by show 1<8; omega),cell_of (j:=2) h (by show 2<8; omega),cell_of (j:=3) h (by show 3<8; omega),cell_of (j:=4) h (by show 4<8; omega),cell_of (j:=5) h (by show 5<8; omega),cell_of (j:=6) h (by show 6<8; omega),cell_of (j:=7) h (by show 7<8; omega)⟩
def y2K (w:World) (v:Value) (xs:List Tri.Rg) (e:Ending) (w':World):Prop:=∃ a m,e=.returned (.pointer (some a))/\m.Perm xs/\(m.Pairwise fun x y=>Tri.lo x<=Tri.lo y)/\T4 w' w.heap.size (.pointer (some a)) m 0/\w.grownBy w' v.ownBlock
theorem y1J {a b c:World} {row:Option Nat} (h:a.grownBy b row) (k:Bw b c):a.grownBy c row:=by
 refine ⟨k.os.trans h.os,k.tape.trans h.tape,k.output.trans h.output,Nat.le_trans h.size k.size,fun g h1 h2=>?_⟩;rw [k.block g (Nat.lt_of_lt_of_le h1 h.size)];exact h.block g h1 h2
theorem y1l (B:Nat) (w:World) (v:Value) (xs:List Tri.Rg) (h:Or4 w B v xs) (hl:xs.length<=5000000000) (hv:∀ m:List Tri.Rg,m.Perm xs->(m.Pairwise fun x y=>Tri.lo x<=Tri.lo y)->Tri.Val 0 m):Calls prog 121 #[v] w (y2K w v xs):=by
 have K1:=O (x8D w B v xs h hl);have HV:=O hv;obtain ⟨ao,cap,rfl,_,_⟩:=h.sr.shape;clear h hv;go_enter func121,ntmps121;go_wp2_with fail;refine (V K1).mono ?_;rintro e1 w1 ⟨rfl,ys,hp,bJ,b5,hg⟩;have hval:=V HV ys hp bJ;have K2:=O (y8b _ ys 0 w1 b5 ⟨by omega,by omega⟩);have b1:(Tri.check 0 ys).2=0:=Tri.x3b.2 ⟨hval,by omega,by omega⟩;have bN:=O b1;have HP:=O hp;have bU:=O bJ;have HG:=O hg;clear K1 HV hp bJ b5 hg hval b1;go_wp2_with fail;refine (V K2).mono ?_;rintro e2 w2 ⟨an,⟨_,a,rfl,hT⟩ | ⟨cg,_⟩⟩
 ·have HF:y2K w (.slice ao xs.length cap) xs (.returned (.pointer (some a))) w2:=⟨a,ys,rfl,V HP,V bU,hT.lower (V HG).size,y1J (V HG) an⟩;clear K2 hT an HG HP bU bN;go_wp2;go_ret;exact HF
 ·exact absurd (V bN) cg
theorem Spst.fin {w w1 wr w9:World} {rv lv:Value} {xs:List Tri.Rg} {ps:List (Rec × Value)} (h:Spst w w1 wr rv lv xs ps) (hg:wr.grownBy w9 rv.ownBlock) {a:Addr} {m:List Tri.Rg} (hT:T4 w9 wr.heap.size (.pointer (some a)) m 0) :
  w9.heap[w.heap.size]?=some (.cells #[.pointer none,.slice none 0 0] 72 (0,0)) /\
  ((w9.setCell ⟨w.heap.size,0,none⟩ (.pointer (some a))).setCell ⟨w.heap.size,1,none⟩ lv).heap[w.heap.size]?=some (.cells #[.pointer (some a),lv] 72 (0,0)) /\
  T4 ((w9.setCell ⟨w.heap.size,0,none⟩ (.pointer (some a))).setCell ⟨w.heap.size,1,none⟩ lv) w.heap.size (.pointer (some a)) m 0/\Rown ((w9.setCell ⟨w.heap.size,0,none⟩ (.pointer (some a))).setCell ⟨w.heap.size,1,none⟩ lv) w.heap.size lv ps /\
  Bw w ((w9.setCell ⟨w.heap.size,0,none⟩ (.pointer (some a))).setCell ⟨w.heap.size,1,none⟩ lv):=by
 have s1:=h.s1;have sz:=h.sz;have k:∀ g,g<wr.heap.size->rv.ownBlock≠some g->w9.heap[g]?=wr.heap[g]?:=fun g h1 h2=>hg.block g h1 (fun e=>h2 e.symm);have ba:∀ g,rv.ownBlock=some g->w1.heap.size<=g:=fun g hg'=>(h.rng.2.2.lt g hg').1
 have aq:w9.heap[w.heap.size]?=some (.cells #[.pointer none,.slice none 0 0] 72 (0,0)):=by
  rw [k _ (by omega) (fun e=>by have:=ba _ e; omega),h.old _ (by omega) (by omega)];exact h.res
 have bi:Rown w9 w.heap.size lv ps:=⟨x0t h.rcs.1 fun g hg'=>k g (h.rcs.1.lt g hg').2 (x0E h.rcs.1 h.rng.2.2 (by decide) hg'),fun p hp=>(h.rcs.2 p hp).keep fun g hg'=>k g ((h.rcs.2 p hp).2.2.lt g hg').2 (x0E (h.rcs.2 p hp).2.2 h.rng.2.2 (by decide) hg')⟩;have f2:∀ g,g≠w.heap.size->((w9.setCell ⟨w.heap.size,0,none⟩ (.pointer (some a))).setCell ⟨w.heap.size,1,none⟩ lv).heap[g]?=w9.heap[g]?:=fun g ag=>(by rw [x0g _ ag,x0g _ ag]);have ce:Bw w w9:=h.bel.grown hg h.bel.size (fun g hg'=>by have:=ba g hg'; omega);refine ⟨aq,?_,?_,⟨x0t bi.1 fun g hg'=>f2 g (fun e=>y5u bi.1 aq (by decide) (by rw [hg',e])),fun p hp=>(bi.2 p hp).keep fun g hg'=>f2 g (fun e=>y5u (bi.2 p hp).2.2 aq (by decide) (by rw [hg',e]))⟩,x0c (x0c ce (l0r _) _) (l0r _) _⟩
 ·rw [x0f (x0f aq _)]; rfl
 ·exact T4.lower (hT.keep (by rw [x0N,x0N]; exact l0r _) fun g h1 _=>f2 g (by omega)) (by omega)
open Go.RowKit Go.MapKept Go.WideMaps
open Go.ChangeMaps (setBlock)
theorem x2W {w:World} {b:Nat} {o:Obj} (h:b<w.heap.size):(setBlock w b o).heap[b]?=some o:=by
 show (w.heap.setIfInBounds b o)[b]?=_;simp [h]
theorem x0q {w:World} {b g:Nat} {o:Obj} (h:g≠b):(setBlock w b o).heap[g]?=w.heap[g]?:=by
 show (w.heap.setIfInBounds b o)[g]?=_;simp [Ne.symm h]
theorem x1t (w:World) (b:Nat) (o:Obj):(setBlock w b o).heap.size=w.heap.size:=by
 show (w.heap.setIfInBounds b o).size=_;simp
theorem x2L {B:Nat} {a w:World} (h:Below B a w) {b:Nat} (hb:B<=b) (o:Obj):Below B a (setBlock w b o):=by
 refine ⟨h.os,h.tape,h.output,?_,fun g hg=>?_⟩
 ·rw [x1t]; exact h.size
 ·rw [x0q (by omega)]; exact h.block g hg
structure Cst (w wr:World) (lp ls:List Rec):Prop where
 bel:Below w.heap.size w wr
 sz:w.heap.size+4<=wr.heap.size
 res:wr.heap[w.heap.size]?=some (.cells #[.map none,.map none] 82 (0,0))
 hx:wr.heap[w.heap.size+3]?=some (.cells #[.map (some (w.heap.size+1)),.map (some (w.heap.size+2))] 82 (0,0))
 mp:GAt KP wr (w.heap.size+1) (x2E lp)
 ms:GAt KR wr (w.heap.size+2) (secC ls)
section
variable {w wr w':World} {lp ls b7 b8:List Rec}
theorem Cst.below (h:Cst w wr lp ls) (hb:Bw wr w'):Cst w w' lp ls:=by
 have sz:=h.sz;obtain ⟨e1,c1,m1,m2⟩:=h.mp;obtain ⟨e2,c2,s1,s2⟩:=h.ms;exact ⟨x0b h.bel hb,Nat.le_trans sz hb.size,by rw [hb.block _ (by omega)]; exact h.res,by rw [hb.block _ (by omega)]; exact h.hx,⟨e1,c1,by rw [hb.block _ (by omega)]; exact m1,m2⟩,⟨e2,c2,by rw [hb.block _ (by omega)]; exact s1,s2⟩⟩
theorem Cst.pair (h:Cst w wr lp ls) {es:Array MapEntry} {cl:Nat} (hg:GObj KP es cl (x2E b7)):Cst w (setBlock wr (w.heap.size+1) (.map es cl)) b7 ls:=by
 have sz:=h.sz;obtain ⟨e2,c2,s1,s2⟩:=h.ms;exact ⟨x2L h.bel (by omega) _,by rw [x1t]; exact sz,by rw [x0q (by omega)]; exact h.res,by rw [x0q (by omega)]; exact h.hx,⟨es,cl,x2W (by omega),hg⟩,⟨e2,c2,by rw [x0q (by omega)]; exact s1,s2⟩⟩
theorem Cst.second (h:Cst w wr lp ls) {es:Array MapEntry} {cl:Nat} (hg:GObj KR es cl (secC b8)):Cst w (setBlock wr (w.heap.size+2) (.map es cl)) lp b8:=by
 have sz:=h.sz;obtain ⟨e2,c2,s1,s2⟩:=h.mp;exact ⟨x2L h.bel (by omega) _,by rw [x1t]; exact sz,by rw [x0q (by omega)]; exact h.res,by rw [x0q (by omega)]; exact h.hx,⟨e2,c2,by rw [x0q (by omega)]; exact s1,s2⟩,⟨es,cl,x2W (by omega),hg⟩⟩
def CmpB (w:World) (rs:List Rec) (e:Ending) (w':World):Prop:=∃ r1 r2,e=.returned (.agg #[.map (some r1),.map (some r2)])/\w.heap.size<=r1/\w.heap.size<=r2/\GAt KP w' r1 (x2E rs)/\GAt KR w' r2 (secC rs)/\Below w.heap.size w w'
theorem Cst.fin (h:Cst w wr lp lp):((wr.setCell ⟨w.heap.size,0,none⟩ (.map (some (w.heap.size+1)))).setCell ⟨w.heap.size,1,none⟩ (.map (some (w.heap.size+2)))).heap[w.heap.size]?=some (.cells #[.map (some (w.heap.size+1)),.map (some (w.heap.size+2))] 82 (0,0)) /\
  CmpB w lp (.returned (.agg #[.map (some (w.heap.size+1)),.map (some (w.heap.size+2))])) ((wr.setCell ⟨w.heap.size,0,none⟩ (.map (some (w.heap.size+1)))).setCell ⟨w.heap.size,1,none⟩ (.map (some (w.heap.size+2)))):=by
 have sz:=h.sz;have f2:∀ g,g≠w.heap.size->((wr.setCell ⟨w.heap.size,0,none⟩ (.map (some (w.heap.size+1)))).setCell ⟨w.heap.size,1,none⟩ (.map (some (w.heap.size+2)))).heap[g]?=wr.heap[g]?:=fun g ag=>(by rw [x0g _ ag,x0g _ ag]);obtain ⟨e1,c1,m1,m2⟩:=h.mp;obtain ⟨e2,c2,s1,s2⟩:=h.ms;refine ⟨by rw [x0f (x0f h.res _)]; rfl,_,_,rfl,by omega,by omega,⟨e1,c1,by rw [f2 _ (by omega)]; exact m1,m2⟩,⟨e2,c2,by rw [f2 _ (by omega)]; exact s1,s2⟩,x0c (x0c h.bel (l0r _) _) (l0r _) _⟩
end
theorem y9m (w:World):∃ W1 W2 W3 W4,w.alloc (.cells #[.map none,.map none] 82)=W1/\W1.alloc (.map #[] 0)=W2/\W2.alloc (.map #[] 0)=W3/\W3.alloc (.cells #[.map (some (w.heap.size+1)),.map (some (w.heap.size+2))] 82)=W4/\W1.heap.size=w.heap.size+1/\W2.heap.size=w.heap.size+2/\W3.heap.size=w.heap.size+3/\Cst w W4 [] []:=by
 refine ⟨_,_,_,_,rfl,rfl,rfl,rfl,by simp,by simp,by simp,?_⟩;have hb:Bw w ((((w.alloc (.cells #[.map none,.map none] 82)).alloc (.map #[] 0)).alloc (.map #[] 0)).alloc (.cells #[.map (some (w.heap.size+1)),.map (some (w.heap.size+2))] 82)):=((((b0r).alloc (l0r _) _).alloc (by simp) _).alloc (by simp; omega) _).alloc (by simp; omega) _;refine ⟨hb,by simp,?_,?_,⟨#[],0,?_,y3V _ _ y4P⟩,⟨#[],0,?_,y3V _ _ y7E⟩⟩
 ·show ((((w.heap.push _).push _).push _).push _)[w.heap.size]?=_;rw [Array.getElem?_push,Array.getElem?_push,Array.getElem?_push,Array.getElem?_push];simp only [Array.size_push];rw [if_neg (by omega),if_neg (by omega),if_neg (by omega),if_pos trivial]
 ·show ((((w.heap.push _).push _).push _).push _)[w.heap.size+3]?=_;rw [Array.getElem?_push,Array.getElem?_push,Array.getElem?_push,Array.getElem?_push];simp only [Array.size_push];rw [if_pos trivial]
 ·show ((((w.heap.push _).push _).push _).push _)[w.heap.size+1]?=_;rw [Array.getElem?_push,Array.getElem?_push,Array.getElem?_push,Array.getElem?_push];simp only [Array.size_push];rw [if_neg (by omega),if_neg (by omega),if_pos trivial]
 ·show ((((w.heap.push _).push _).push _).push _)[w.heap.size+2]?=_;rw [Array.getElem?_push,Array.getElem?_push,Array.getElem?_push,Array.getElem?_push];simp only [Array.size_push];rw [if_neg (by omega),if_pos trivial]
open Go.RowKit Go.MapKept Go.WideMaps
open Go.ChangeMaps (setBlock)
structure Cbx (W:World) (g x m1 m2 b off:Nat) (lo p q:Int) (vt:Value):Prop where
 lo:W.cell? ⟨g,1,none⟩=some (.int .i64 lo)
 lst:W.cell? ⟨g,4,none⟩=some vt
 x0:W.cell? ⟨x,0,none⟩=some (.map (some m1))
 x1:W.cell? ⟨x,1,none⟩=some (.map (some m2))
 a:W.cell? ⟨b,off,none⟩=some (.int .i32 p)
 b:W.cell? ⟨b,off+1,none⟩=some (.int .i32 q)
theorem Cbx.block {W:World} {g x m1 m2 b off r:Nat} {lo p q:Int} {vt:Value} (h:Cbx W g x m1 m2 b off lo p q vt) {es:Array MapEntry} {cl:Nat} (o:Obj) (hr:W.heap[r]?=some (.map es cl)):Cbx (setBlock W r o) g x m1 m2 b off lo p q vt:=by
 have k:∀ g' j v,W.cell? ⟨g',j,none⟩=some v->(setBlock W r o).cell? ⟨g',j,none⟩=some v:=fun g' j v hc=>by
  have ag:g'≠r:=fun e=>by
   subst e;simp only [World.cell?,hr] at hc;cases hc
  rw [World.cell?_of_block (x0q ag)];exact hc
 exact ⟨k _ _ _ h.lo,k _ _ _ h.lst,k _ _ _ h.x0,k _ _ _ h.x1,k _ _ _ h.a,k _ _ _ h.b⟩
theorem Cbx.drew {W:World} {g x m1 m2 b off:Nat} {lo p q:Int} {vt:Value} (h:Cbx W g x m1 m2 b off lo p q vt):Cbx W.drew g x m1 m2 b off lo p q vt:=⟨h.lo,h.lst,h.x0,h.x1,h.a,h.b⟩
theorem x8I (t:TypeId) (W:World):(Instr.makeMap t none).run prog W=.ok (.map (some W.heap.size)) (W.alloc (.map #[] 0)):=by
 simp [Instr.makeMap,Result.andThen]
theorem y7T (w:World):(zeroValue 21).run prog w=.ok (.int .i32 0) w:=by
 obtain ⟨i,h1,h2,_,_⟩:=info_parts Tryz.info21;simp [zeroValue,typeInfo,run_program,Result.andThen,h1,h2]
theorem Tryz.info93:(prog.info? 3).map (fun i=>(i.zero,i.size,i.bytes))=some (some (.int .i64 0),1,8):=by kernel_rfl
theorem y7U (w:World):(zeroValue 3).run prog w=.ok (.int .i64 0) w:=by
 obtain ⟨i,h1,h2,_,_⟩:=info_parts Tryz.info93;simp [zeroValue,typeInfo,run_program,Result.andThen,h1,h2]
theorem y7D (l:List Rec) (b:Int):(secC l (.int .i32 b)).getD (.int .i64 0)=.int .i64 (Cn.secOf l b:Nat):=by
 show (if Cn.secOf l b=0 then none else some (Value.int .i64 (Cn.secOf l b:Nat))).getD _=_;by_cases h:Cn.secOf l b=0
 ·rw [if_pos h,h]; rfl
 ·rw [if_neg h]; rfl
theorem x3c (v:Value) (rs:List Rec) (w:World) (hv:Rcs w v rs) (ax:∀ r∈rs,r.kind=7->r.to.length=2/\0<=r.lo/\r.lo<=1114111) (hl:rs.length<=4096):Calls prog 77 #[v] w (CmpB w rs):=by
 obtain ⟨W1,W2,W3,W4,bj,bw,bx,cb,bb,bI,hs3,aY⟩:=y9m w;have bC:=hv.1;obtain ⟨ao,cap,ar,_,_⟩:=hv.shape
 have ac:Hid (∀ k W,k<rs.length->Bw w W->∃ b off,v=.slice (some ⟨b,off,none⟩) rs.length cap/\RecAt W b (off+k * 8) (rs.getD k Cn.none)/\RecFit (rs.getD k Cn.none)):=fun k W hk hW=>by
  obtain ⟨b,off,aX,he,_,_,hc⟩:=(hv.below hW).place (by omega);rw [ar] at he;obtain ⟨e1,e2,e3⟩:=Value.slice.inj he;refine ⟨b,off,?_,hc k hk,(hv.below hW).fit hk⟩;rw [ar,e1]
 have aE:Hid (∀ k,k<rs.length->rs.take (k+1)=rs.take k++[rs.getD k Cn.none]/\rs.getD k Cn.none∈rs):=fun k hk=>by
  refine ⟨?_,?_⟩
  ·rw [List.take_add_one];simp [List.getD,hk]
  ·simp [List.getD,hk]
 have ae:=O ax;have aN:=O aY;clear hv ax aY;subst ar;have bE:=x8I;go_enter func77,ntmps77;go_wp2;clear bE;go_loopw [5,11] (fun _ iv wr=>∃ k:Nat,iv=.int .i64 k/\k<=rs.length/\Cst w wr (rs.take k) (rs.take k)) (fun _ iv _=>rs.length - (intOf iv).toNat)
 case atStart=>exact ⟨0,rfl,by omega,V aN⟩
 case round =>
  obtain ⟨k,rfl,hk,hC⟩:=hrel;clear aN bj bw bx cb bb bI;by_cases hlt:k<rs.length
  ·obtain ⟨b,off,he,hA,af⟩:=V ac k wr hlt hC.bel;obtain ⟨q1,_,_⟩:=Value.slice.inj he;clear he;subst q1;obtain ⟨bV,a9⟩:=V aE k hlt;have aH:=V ae _ a9;obtain ⟨x0,x1,x2,x3,⟨va,x4,al⟩,x5,x6,x7⟩:=hA;obtain ⟨ah,ab,rfl,_,_⟩:=al.shape;clear ac aE ae a9;generalize rs.getD k Cn.none=r at *;obtain ⟨V1,aZ⟩:∃ V1,wr.alloc (.cells #[.int .i64 r.kind,.int .i64 r.lo,.int .i64 r.hi,.int .i64 r.n,.slice ah r.to.length ab,.string r.name,.string r.other,.float .f64 r.wt] 50)=V1:=⟨_,rfl⟩;have am:Bw wr V1:=by rw [<- aZ]; exact (b0r).alloc (l0r _) _
   have ak:V1.heap[wr.heap.size]?=some (.cells #[.int .i64 r.kind,.int .i64 r.lo,.int .i64 r.hi,.int .i64 r.n,.slice ah r.to.length ab,.string r.name,.string r.other,.float .f64 r.wt] 50 (0,0)):=by
    rw [<- aZ];show (wr.heap.push _)[wr.heap.size]?=_;simp
   have aK:=hC.below am;have bA:∀ W a m,(store a (.float .f64 r.wt) m).run prog W=stored prog W a (.float .f64 r.wt) m:=fun W a m=>run_store prog W a _ m rfl;obtain ⟨z0,z1,z2,z3,z4,z5,z6,z7⟩:=x3v ak;have ai:=O aK;have aR:=O (al.below am);have hfi:=af.lo;clear hC aK al am ak af;by_cases h7:r.kind=7
   ·obtain ⟨t2,l0,l1⟩:=aH h7;have b3:Rune (r.to.getD 0 0):=x0x (V aR) (by omega);have b4:Rune (r.to.getD 1 0):=x0x (V aR) (by omega)
    have aT:Hid (x2E (rs.take k++[r]) (pk2 (r.to.getD 0 0) (r.to.getD 1 0))=some (.int .i32 r.lo)):=by
     show x2E (rs.take k++[r]) (pk2 (r.to.getD 0 0) (r.to.getD 1 0))=_;have hp:Cn.isP (r.to.getD 0 0) (r.to.getD 1 0) r=true:=d0t ⟨h7,rfl,rfl⟩;rw [y0P,Cn.x5j,if_pos hp];rfl
    have aU:Hid (∀ x,x≠pk2 (r.to.getD 0 0) (r.to.getD 1 0)->x2E (rs.take k++[r]) x=x2E (rs.take k) x):=fun x hx=>x5i fun a b e q=>hx (by rw [e,<- q.2.1,<- q.2.2])
    have aV:Hid (secC (rs.take k++[r]) (.int .i32 (r.to.getD 1 0))=some (.int .i64 ((Cn.secOf (rs.take k) (r.to.getD 1 0):Nat)+1))):=by
     show (if Cn.secOf (rs.take k++[r]) (r.to.getD 1 0)=0 then none else some (Value.int .i64 (Cn.secOf (rs.take k++[r]) (r.to.getD 1 0):Nat)))=_
     have hs:Cn.secOf (rs.take k++[r]) (r.to.getD 1 0)=Cn.secOf (rs.take k) (r.to.getD 1 0)+1:=by
      rw [Cn.x6q,if_pos (And.intro h7 rfl)]
     rw [hs,if_neg (by omega)];rfl
    have aW:Hid (∀ x,x≠Value.int .i32 (r.to.getD 1 0)->secC (rs.take k++[r]) x=secC (rs.take k) x):=fun x hx=>x6p fun b e q=>hx (by rw [e,<- q.2]);have bc:=Cn.y7F (rs.take k) (r.to.getD 1 0);have hsl2:Cn.secOf (rs.take k) (r.to.getD 1 0)<=4096:=(by rw [List.length_take] at bc; omega);obtain ⟨pb,po,pc,b2,_,_,bG⟩:=(V aR).place (by omega);have ya:=bG 0 (by omega);have yb:=bG 1 (by omega);rw [Nat.add_zero] at ya;obtain ⟨e1,_,e3⟩:=Value.slice.inj b2;subst e1;subst e3;have hX:=(V ai).hx;have az:Hid (Cbx V1 wr.heap.size (w.heap.size+3) (w.heap.size+1) (w.heap.size+2) pb po r.lo (r.to.getD 0 0) (r.to.getD 1 0) (.slice (some ⟨pb,po,none⟩) r.to.length ab)):=⟨z1,z4,cell_of (j:=0) hX (by show 0<2; omega),cell_of (j:=1) hX (by show 1<2; omega),ya,yb⟩;obtain ⟨es,cl,hu,a6⟩:=x6F (w:=V1.drew) (M:=79) klP underlying79 (r:=w.heap.size+1) (V ai).mp ⟨_,_,rfl,b3,b4⟩ (V aT) (V aU);have aC:Hid (Cst w (setBlock V1.drew (w.heap.size+1) (.map es cl)) (rs.take k++[r]) (rs.take k)):=((V ai).below (x0k ⟨1,rfl⟩)).pair a6
    have aA:Hid (Cbx (setBlock V1.drew (w.heap.size+1) (.map es cl)) wr.heap.size (w.heap.size+3) (w.heap.size+1) (w.heap.size+2) pb po r.lo (r.to.getD 0 0) (r.to.getD 1 0) (.slice (some ⟨pb,po,none⟩) r.to.length ab)):=by
     obtain ⟨bY,bX,a8,_⟩:=(V ai).mp;exact (V az).drew.block _ a8
    have hw32:IntKind.i32.wrap r.lo=r.lo:=(by rw [IntKind.wrap_i32]; omega);have hwa:((Cn.secOf (rs.take k) (r.to.getD 1 0):Nat):Int)+1<=5000:=(by omega);unfold pk2 at hu;clear a6 aT aU bG b2 ya yb hX aR aH bc b3 b4;rw [t2] at *;generalize r.to.getD 0 0=pa at *;generalize r.to.getD 1 0=pb2 at *;generalize bm:Cn.secOf (rs.take k) pb2=sn at *;have ca:=O bm;clear bm;generalize hkd:r.kind=kd at *;have bB:(kd==7)=true:=(by rw [beq_iff_eq]; exact h7);clear hkd h7;go_wp2;clear x0 x1 x2 x3 x4 x5 x6 x7 z0 z1 z2 z3 z4 z5 z6 z7;refine wp_region_held_drew (S:=fun w'=>Cbx w' wr.heap.size (w.heap.size+3) (w.heap.size+1) (w.heap.size+2) pb po r.lo pa pb2 (.slice (some ⟨pb,po,none⟩) 2 ab)) (by kernel_rfl) (V az).drew (fun hHeld=>?_);refine tk9 0 (.pointer (some ⟨w.heap.size+3,0,none⟩)) ?_ (hy:=by (intro w aa; obtain ⟨s0,s1,s2,s3,s4,s5⟩:=aa; go_simp));refine tk9 1 (.map (some (w.heap.size+1))) ?_ (hy:=by (intro w aa; obtain ⟨s0,s1,s2,s3,s4,s5⟩:=aa; go_simp));refine tk9 2 (.pointer (some ⟨wr.heap.size,4,none⟩)) ?_ (hy:=by (intro w aa; obtain ⟨s0,s1,s2,s3,s4,s5⟩:=aa; go_simp));refine tk9 3 (.slice (some ⟨pb,po,none⟩) 2 ab) ?_ (hy:=by (intro w aa; obtain ⟨s0,s1,s2,s3,s4,s5⟩:=aa; go_simp));refine tk9 4 (.pointer (some ⟨pb,po,none⟩)) ?_ (hy:=by (intro w aa; obtain ⟨s0,s1,s2,s3,s4,s5⟩:=aa; go_simp));refine tk9 5 (.int .i32 pa) ?_ (hy:=by (intro w aa; obtain ⟨s0,s1,s2,s3,s4,s5⟩:=aa; go_simp));refine tk9 6 (.pointer (some ⟨wr.heap.size,4,none⟩)) ?_ (hy:=by (intro w aa; obtain ⟨s0,s1,s2,s3,s4,s5⟩:=aa; go_simp));refine tk9 7 (.slice (some ⟨pb,po,none⟩) 2 ab) ?_ (hy:=by (intro w aa; obtain ⟨s0,s1,s2,s3,s4,s5⟩:=aa; go_simp));refine tk9 8 (.pointer (some ⟨pb,po+1,none⟩)) ?_ (hy:=by (intro w aa; obtain ⟨s0,s1,s2,s3,s4,s5⟩:=aa; go_simp));refine tk9 9 (.int .i32 pb2) ?_ (hy:=by (intro w aa; obtain ⟨s0,s1,s2,s3,s4,s5⟩:=aa; go_simp));refine tk9 10 (.agg #[.int .i32 pa,.int .i32 pb2]) ?_ (hy:=by (intro w aa; obtain ⟨s0,s1,s2,s3,s4,s5⟩:=aa; go_simp));refine tk9 11 (.pointer (some ⟨wr.heap.size,1,none⟩)) ?_ (hy:=by (intro w aa; obtain ⟨s0,s1,s2,s3,s4,s5⟩:=aa; go_simp));refine tk9 12 (.int .i64 r.lo) ?_ (hy:=by (intro w aa; obtain ⟨s0,s1,s2,s3,s4,s5⟩:=aa; go_simp));refine tk9 13 (.int .i32 r.lo) ?_ (hy:=by (intro w aa; obtain ⟨s0,s1,s2,s3,s4,s5⟩:=aa; go_simp));refine rd9 14 fun K hK=>?_;go_simp;refine hK.out _ _ ?_ (fun hHeld=>?_)
    ·exact V aA
    clear hK K;refine wpAnyH_done (by kernel_rfl) ?_ _;clear hHeld hu az ai;generalize setBlock V1.drew (w.heap.size+1) (.map es cl)=W5 at *;have bP:=(y8j (w:=W5.drew) (M:=80) (z:=.int .i64 0) klR underlying80 y7U (r:=w.heap.size+2) (V aC).ms ⟨pb2,rfl⟩).2;rw [y7D,V ca] at bP;obtain ⟨br,bq,ck,a7⟩:=x6F (w:=W5.drew) (M:=80) klR underlying80 (r:=w.heap.size+2) (V aC).ms ⟨pb2,rfl⟩ (V aV) (V aW);have b9:Hid (Cst w (setBlock W5.drew (w.heap.size+2) (.map br bq)) (rs.take k++[r]) (rs.take k++[r])):=((V aC).below (x0k ⟨1,rfl⟩)).second a7
    have bL:Hid (Cbx (setBlock W5.drew (w.heap.size+2) (.map br bq)) wr.heap.size (w.heap.size+3) (w.heap.size+1) (w.heap.size+2) pb po r.lo pa pb2 (.slice (some ⟨pb,po,none⟩) 2 ab)):=by
     obtain ⟨bY,bX,a8,_⟩:=(V aC).ms;exact (V aA).drew.block _ a8
    have aB:Hid (Cbx W5.drew wr.heap.size (w.heap.size+3) (w.heap.size+1) (w.heap.size+2) pb po r.lo pa pb2 (.slice (some ⟨pb,po,none⟩) 2 ab)):=(V aA).drew;have hwr2:IntKind.i64.wrap ((sn:Int)+1)=(sn:Int)+1:=(by rw [IntKind.wrap_i64]; omega);clear a7 aV aW aC aA;go_wp2;refine wp_region_held_drew (S:=fun w'=>Cbx w' wr.heap.size (w.heap.size+3) (w.heap.size+1) (w.heap.size+2) pb po r.lo pa pb2 (.slice (some ⟨pb,po,none⟩) 2 ab)) (by kernel_rfl) (V aB) (fun hHeld=>?_);refine tk9 0 (.pointer (some ⟨w.heap.size+3,1,none⟩)) ?_ (hy:=by (intro w aa; obtain ⟨s0,s1,s2,s3,s4,s5⟩:=aa; go_simp));refine tk9 1 (.map (some (w.heap.size+2))) ?_ (hy:=by (intro w aa; obtain ⟨s0,s1,s2,s3,s4,s5⟩:=aa; go_simp));refine tk9 2 (.pointer (some ⟨wr.heap.size,4,none⟩)) ?_ (hy:=by (intro w aa; obtain ⟨s0,s1,s2,s3,s4,s5⟩:=aa; go_simp));refine tk9 3 (.slice (some ⟨pb,po,none⟩) 2 ab) ?_ (hy:=by (intro w aa; obtain ⟨s0,s1,s2,s3,s4,s5⟩:=aa; go_simp));refine tk9 4 (.pointer (some ⟨pb,po+1,none⟩)) ?_ (hy:=by (intro w aa; obtain ⟨s0,s1,s2,s3,s4,s5⟩:=aa; go_simp));refine tk9 5 (.int .i32 pb2) ?_ (hy:=by (intro w aa; obtain ⟨s0,s1,s2,s3,s4,s5⟩:=aa; go_simp));refine rd9 6 fun K hK=>?_;go_simp;refine hK.out _ _ ?_ (fun hHeld=>?_)
    ·exact V aB
    clear hK K
    try simp only [Act.put,sa9,sb9,sc9]
    refine tk9 7 (.int .i64 ((sn:Int)+1)) ?_;refine rd9 8 fun K hK=>?_;go_simp;refine hK.out _ _ ?_ (fun hHeld=>?_)
    ·exact V bL
    clear hK K;refine wpAnyH_done (by kernel_rfl) ?_ _;clear hHeld ck bP aB bL;generalize setBlock W5.drew (w.heap.size+2) (.map br bq)=W7 at *;go_wp2
    go_roundw
    case rel=>exact ⟨k+1,by go_num,by omega,by rw [bV]; exact V b9⟩
    case measure=>simp [intOf]; omega
   ·have bB:(r.kind==7)=false:=b0f h7
    have bf:Hid (Cst w V1 (rs.take k++[r]) (rs.take k++[r])):=by
     have hp:x2E (rs.take k++[r])=x2E (rs.take k):=funext fun v=>x5i fun a b _ q=>h7 q.1;have hs:secC (rs.take k++[r])=secC (rs.take k):=funext fun v=>x6p fun b _ q=>h7 q.1;have h:=V ai;exact ⟨h.bel,h.sz,h.res,h.hx,by rw [hp]; exact h.mp,by rw [hs]; exact h.ms⟩
    clear ai aR aH h7;generalize r.kind=kd at *;go_wp2
    go_roundw
    case rel=>exact ⟨k+1,by go_num,by omega,by rw [bV]; exact V bf⟩
    case measure=>simp [intOf]; omega
  ·obtain rfl:k=rs.length:=(by omega);rw [List.take_of_length_le (l0r _)] at hC;have hX:=hC.hx;have y0:=cell_of (j:=0) hX (by show 0<2; omega);have y1:=cell_of (j:=1) hX (by show 1<2; omega);have F1:=hC.res;have z0:=cell_of (j:=0) F1 (by show 0<2; omega);have z1:=cell_of (j:=1) F1 (by show 1<2; omega);have f0:=fun j=>x0e (j:=j) F1;obtain ⟨F2,F3⟩:=hC.fin;have aO:=O F2;have aP:=O F3;clear ac aE ae hC hX F1 F2 F3;go_wp2;have ap:=V aO;have aG:=V aP;clear aO aP y0 y1 f0 z0 z1;generalize (wr.setCell ⟨w.heap.size,0,none⟩ (.map (some (w.heap.size+1)))).setCell ⟨w.heap.size,1,none⟩ (.map (some (w.heap.size+2)))=w10 at *;have z0:=cell_of (j:=0) ap (by show 0<2; omega);have z1:=cell_of (j:=1) ap (by show 1<2; omega);refine bodyPost_ret (v:=.agg #[.map (some (w.heap.size+1)),.map (some (w.heap.size+2))]) (by simp [results,Tryz.results77,go_sem,z0,z1]) rfl aG
open Go.RowKit Go.MapKept Go.WideMaps
open Go.ChangeMaps (setBlock)
open Go.Lib (minS maxS run_min_strs run_max_strs)
def MxAt (w:World) (r:Nat):Prop:=∃ c,GAt KN w r c
theorem y4z {w:World} {r:Nat} {a b:ByteArray} (h:MxAt w r) (ha:Sh a) (hb:Sh b) (v:Value):∃ es cl,(Instr.mapUpdate 83 (.map (some r)) (pk a b) v).run prog w=.ok () (setBlock w r (.map es cl))/\∃ c,GObj KN es cl c:=by
 obtain ⟨c,h⟩:=h;have dec:∀ x:Value,Decidable (x=pk a b):=fun x=>Classical.propDecidable _;obtain ⟨es,cl,h1,h2⟩:=x6F (M:=83) (c':=fun x=>@ite _ (x=pk a b) (dec x) (some v) (c x)) klN underlying83 h ⟨a,b,rfl,ha,hb⟩ (if_pos rfl) (fun x hx=>if_neg hx);exact ⟨es,cl,h1,_,h2⟩
theorem x4L (a b:ByteArray) (w:World):Calls prog 124 #[.string a,.string b] w fun e w'=>e=.returned (pk (minS a b) (maxS a b))/\Bw w w':=by
 have h1:=@run_min_strs prog;have h2:=@run_max_strs prog;unfold pk;go_enter func124,ntmps124;go_wp2;go_returns;exact ⟨rfl,(b0r).alloc (l0r _) _⟩
structure Mst (w wr:World):Prop where
 bel:Below w.heap.size w wr
 sz:w.heap.size+3<=wr.heap.size
 res:wr.heap[w.heap.size]?=some (.cells #[.map none] 85 (0,0))
 hx:wr.heap[w.heap.size+2]?=some (.cells #[.map (some (w.heap.size+1))] 85 (0,0))
 mp:MxAt wr (w.heap.size+1)
theorem Mst.below {w wr w':World} (h:Mst w wr) (hb:Bw wr w'):Mst w w':=by
 have sz:=h.sz;obtain ⟨c,e1,c1,m1,m2⟩:=h.mp;exact ⟨x0b h.bel hb,Nat.le_trans sz hb.size,by rw [hb.block _ (by omega)]; exact h.res,by rw [hb.block _ (by omega)]; exact h.hx,c,e1,c1,by rw [hb.block _ (by omega)]; exact m1,m2⟩
theorem Mst.more {w wr:World} (h:Mst w wr) {es:Array MapEntry} {cl:Nat} (hg:∃ c,GObj KN es cl c):Mst w (setBlock wr (w.heap.size+1) (.map es cl)):=by
 have sz:=h.sz;obtain ⟨c,hg⟩:=hg;exact ⟨x2L h.bel (by omega) _,by rw [x1t]; exact sz,by rw [x0q (by omega)]; exact h.res,by rw [x0q (by omega)]; exact h.hx,c,es,cl,x2W (by omega),hg⟩
def MxtB (w:World) (e:Ending) (w':World):Prop:=∃ r,e=.returned (.agg #[.map (some r)])/\w.heap.size<=r/\MxAt w' r/\Below w.heap.size w w'
theorem Mst.fin {w wr:World} (h:Mst w wr):(wr.setCell ⟨w.heap.size,0,none⟩ (.map (some (w.heap.size+1)))).heap[w.heap.size]?=some (.cells #[.map (some (w.heap.size+1))] 85 (0,0))/\MxtB w (.returned (.agg #[.map (some (w.heap.size+1))])) (wr.setCell ⟨w.heap.size,0,none⟩ (.map (some (w.heap.size+1)))):=by
 obtain ⟨c,e1,c1,m1,m2⟩:=h.mp;exact ⟨by rw [x0f h.res]; rfl,_,rfl,by omega,⟨c,e1,c1,by rw [x0g _ (by omega)]; exact m1,m2⟩,x0c h.bel (l0r _) _⟩
theorem y9W (w:World):∃ W1 W2 W3,w.alloc (.cells #[.map none] 85)=W1/\W1.alloc (.map #[] 0)=W2/\W2.alloc (.cells #[.map (some (w.heap.size+1))] 85)=W3/\W1.heap.size=w.heap.size+1/\W2.heap.size=w.heap.size+2/\Mst w W3:=by
 refine ⟨_,_,_,rfl,rfl,rfl,by simp,by simp,?_⟩;have hb:Bw w (((w.alloc (.cells #[.map none] 85)).alloc (.map #[] 0)).alloc (.cells #[.map (some (w.heap.size+1))] 85)):=(((b0r).alloc (l0r _) _).alloc (by simp) _).alloc (by simp; omega) _;refine ⟨hb,by simp,?_,?_,fun _=>none,#[],0,?_,y3V _ _ fun _=>rfl⟩
 ·show (((w.heap.push _).push _).push _)[w.heap.size]?=_;rw [Array.getElem?_push,Array.getElem?_push,Array.getElem?_push];simp only [Array.size_push];rw [if_neg (by omega),if_neg (by omega),if_pos trivial]
 ·show (((w.heap.push _).push _).push _)[w.heap.size+2]?=_;rw [Array.getElem?_push,Array.getElem?_push,Array.getElem?_push];simp only [Array.size_push];rw [if_pos trivial]
 ·show (((w.heap.push _).push _).push _)[w.heap.size+1]?=_;rw [Array.getElem?_push,Array.getElem?_push,Array.getElem?_push];simp only [Array.size_push];rw [if_neg (by omega),if_pos trivial]
structure Mbx (W:World) (g x m1:Nat) (nm ot:ByteArray) (wt:Nat):Prop where
 name:W.cell? ⟨g,5,none⟩=some (.string nm)
 other:W.cell? ⟨g,6,none⟩=some (.string ot)
 wt:W.cell? ⟨g,7,none⟩=some (.float .f64 wt)
 x0:W.cell? ⟨x,0,none⟩=some (.map (some m1))
theorem Mbx.below {W W':World} {g x m1 wt:Nat} {nm ot:ByteArray} (h:Mbx W g x m1 nm ot wt) (hb:Bw W W'):Mbx W' g x m1 nm ot wt :=
 ⟨by rw [hb.cell (x0a h.1)]; exact h.1,by rw [hb.cell (x0a h.2)]; exact h.2,by rw [hb.cell (x0a h.3)]; exact h.3,by rw [hb.cell (x0a h.4)]; exact h.4⟩
theorem Mbx.block {W:World} {g x m1 r wt:Nat} {nm ot:ByteArray} (h:Mbx W g x m1 nm ot wt) {es:Array MapEntry} {cl:Nat} (o:Obj) (hr:W.heap[r]?=some (.map es cl)):Mbx (setBlock W r o) g x m1 nm ot wt:=by
 have k:∀ g' j v,W.cell? ⟨g',j,none⟩=some v->(setBlock W r o).cell? ⟨g',j,none⟩=some v:=fun g' j v hc=>by
  have ag:g'≠r:=fun e=>by
   subst e;simp only [World.cell?,hr] at hc;cases hc
  rw [World.cell?_of_block (x0q ag)];exact hc
 exact ⟨k _ _ _ h.name,k _ _ _ h.other,k _ _ _ h.wt,k _ _ _ h.x0⟩
theorem x5M (v:Value) (rs:List Rec) (w:World) (hv:Rcs w v rs) (ax:∀ r∈rs,r.kind=15->Sh r.name/\Sh r.other):Calls prog 78 #[v] w (MxtB w):=by
 obtain ⟨W1,W2,W3,bj,bw,bx,bb,bI,aY⟩:=y9W w;have bC:=hv.1;obtain ⟨ao,cap,ar,_,_⟩:=hv.shape
 have ac:Hid (∀ k W,k<rs.length->Bw w W->∃ b off,v=.slice (some ⟨b,off,none⟩) rs.length cap/\RecAt W b (off+k * 8) (rs.getD k Cn.none)):=fun k W hk hW=>by
  obtain ⟨b,off,aX,he,_,_,hc⟩:=(hv.below hW).place (by omega);rw [ar] at he;obtain ⟨e1,e2,e3⟩:=Value.slice.inj he;refine ⟨b,off,?_,hc k hk⟩;rw [ar,e1]
 have ae:Hid (∀ k,k<rs.length->(rs.getD k Cn.none).kind=15->Sh (rs.getD k Cn.none).name/\Sh (rs.getD k Cn.none).other):=fun k hk h=>ax _ (by simp [List.getD,hk]) h;have aN:=O aY;have bE:=x8I;clear hv ax aY;subst ar;go_enter func78,ntmps78;go_wp2;clear bE;go_loopw [5,10] (fun _ iv wr=>∃ k:Nat,iv=.int .i64 k/\k<=rs.length/\Mst w wr) (fun _ iv _=>rs.length - (intOf iv).toNat)
 case atStart=>exact ⟨0,rfl,by omega,V aN⟩
 case round =>
  obtain ⟨k,rfl,hk,hC⟩:=hrel;clear aN bj bw bx bb bI;by_cases hlt:k<rs.length
  ·obtain ⟨b,off,he,hA⟩:=V ac k wr hlt hC.bel;obtain ⟨q1,_,_⟩:=Value.slice.inj he;clear he;subst q1;have aH:=V ae k hlt;obtain ⟨x0,x1,x2,x3,⟨va,x4,al⟩,x5,x6,x7⟩:=hA;obtain ⟨ah,ab,rfl,_,_⟩:=al.shape;clear ac ae al;generalize rs.getD k Cn.none=r at *;obtain ⟨V1,aZ⟩:∃ V1,wr.alloc (.cells #[.int .i64 r.kind,.int .i64 r.lo,.int .i64 r.hi,.int .i64 r.n,.slice ah r.to.length ab,.string r.name,.string r.other,.float .f64 r.wt] 50)=V1:=⟨_,rfl⟩;have am:Bw wr V1:=by rw [<- aZ]; exact (b0r).alloc (l0r _) _
   have ak:V1.heap[wr.heap.size]?=some (.cells #[.int .i64 r.kind,.int .i64 r.lo,.int .i64 r.hi,.int .i64 r.n,.slice ah r.to.length ab,.string r.name,.string r.other,.float .f64 r.wt] 50 (0,0)):=by
    rw [<- aZ];show (wr.heap.push _)[wr.heap.size]?=_;simp
   have aK:=hC.below am;have bA:∀ W a m,(store a (.float .f64 r.wt) m).run prog W=stored prog W a (.float .f64 r.wt) m:=fun W a m=>run_store prog W a _ m rfl;obtain ⟨z0,z1,z2,z3,z4,z5,z6,z7⟩:=x3v ak;have ai:=O aK;have az:Hid (Mbx V1 wr.heap.size (w.heap.size+2) (w.heap.size+1) r.name r.other r.wt):=⟨z5,z6,z7,cell_of (j:=0) aK.hx (by show 0<1; omega)⟩;clear hC aK am ak;by_cases h7:r.kind=15
   ·obtain ⟨sa,sb⟩:=aH h7;have bF:=y8C sa sb;have KE:Hid (∀ W,Calls prog 124 #[.string r.name,.string r.other] W fun e w'=>e=.returned (pk (minS r.name r.other) (maxS r.name r.other))/\Bw W w'):=fun W=>x4L _ _ W;have bW:Hid (∀ W,Calls prog 123 #[.float .f64 r.wt] W fun e w'=>∃ u n,e=.returned (.float .f64 u)/\w'=W.drewN n):=fun W=>x9w r.wt W;have bn:Hid (∀ W u,MxAt W (w.heap.size+1)->∃ es cl,(Instr.mapUpdate 83 (.map (some (w.heap.size+1))) (pk (minS r.name r.other) (maxS r.name r.other)) (.float .f64 u)).run prog W=.ok () (setBlock W (w.heap.size+1) (.map es cl))/\∃ c,GObj KN es cl c):=fun W u h=>y4z h bF.1 bF.2 _;unfold pk at KE bn;have au:Hid (Mbx V1.drew wr.heap.size (w.heap.size+2) (w.heap.size+1) r.name r.other r.wt):=(V az).below (x0k ⟨1,rfl⟩);have bf:Hid (Mst w V1.drew):=(V ai).below (x0k ⟨1,rfl⟩);generalize minS r.name r.other=k1 at *;generalize maxS r.name r.other=k2 at *;generalize hkd:r.kind=kd at *;have bB:(kd==15)=true:=(by rw [beq_iff_eq]; exact h7);clear hkd h7 aH sa sb bF az ai;go_wp2;clear x0 x1 x2 x3 x4 x5 x6 x7 z0 z1 z2 z3 z4 z5 z6 z7;refine wp_region_held_drew (S:=fun w'=>Mbx w' wr.heap.size (w.heap.size+2) (w.heap.size+1) r.name r.other r.wt) (by kernel_rfl) (V au) (fun hHeld=>?_);refine tk9 0 (.pointer (some ⟨w.heap.size+2,0,none⟩)) ?_ (hy:=by (intro w aa; obtain ⟨s0,s1,s2,s3⟩:=aa; go_simp));refine tk9 1 (.map (some (w.heap.size+1))) ?_ (hy:=by (intro w aa; obtain ⟨s0,s1,s2,s3⟩:=aa; go_simp));refine tk9 2 (.pointer (some ⟨wr.heap.size,5,none⟩)) ?_ (hy:=by (intro w aa; obtain ⟨s0,s1,s2,s3⟩:=aa; go_simp));refine tk9 3 (.string r.name) ?_ (hy:=by (intro w aa; obtain ⟨s0,s1,s2,s3⟩:=aa; go_simp));refine tk9 4 (.pointer (some ⟨wr.heap.size,6,none⟩)) ?_ (hy:=by (intro w aa; obtain ⟨s0,s1,s2,s3⟩:=aa; go_simp));refine tk9 5 (.string r.other) ?_ (hy:=by (intro w aa; obtain ⟨s0,s1,s2,s3⟩:=aa; go_simp));refine tk9 7 (.pointer (some ⟨wr.heap.size,7,none⟩)) ?_ (hy:=by (intro w aa; obtain ⟨s0,s1,s2,s3⟩:=aa; go_simp));refine tk9 8 (.float .f64 r.wt) ?_ (hy:=by (intro w aa; obtain ⟨s0,s1,s2,s3⟩:=aa; go_simp));refine rd9 6 fun K hK=>?_;go_simp;refine (V KE _).mono ?_;rintro e2 w2 ⟨rfl,an⟩;have av:Hid (Mbx w2 wr.heap.size (w.heap.size+2) (w.heap.size+1) r.name r.other r.wt):=(V au).below an;have bM:Hid (Mst w w2):=(V bf).below an;clear an;refine hK.out _ _ ?_ (fun hHeld=>?_)
    ·exact V av
    clear hK K
    try simp only [Act.put,sa9,sb9,sc9]
    refine rd9 9 fun K hK=>?_;go_simp;refine (V bW _).mono ?_;rintro e3 w3 ⟨u3,n3,rfl,b6⟩;have aL:Bw w2 w3:=(by rw [b6]; exact x0k ⟨n3,rfl⟩);clear b6;have aw:Hid (Mbx w3 wr.heap.size (w.heap.size+2) (w.heap.size+1) r.name r.other r.wt):=(V av).below aL;have bg:Hid (Mst w w3):=(V bM).below aL;obtain ⟨es,cl,hu,a6⟩:=V bn w3 u3 (V bg).mp;have aC:=O ((V bg).more a6)
    have aA:Hid (Mbx (setBlock w3 (w.heap.size+1) (.map es cl)) wr.heap.size (w.heap.size+2) (w.heap.size+1) r.name r.other r.wt):=by
     obtain ⟨_,bY,bX,a8,_⟩:=(V bg).mp;exact (V aw).block _ a8
    clear aL a6;refine hK.out _ _ ?_ (fun hHeld=>?_)
    ·exact V aw
    clear hK K
    try simp only [Act.put,sa9,sb9,sc9]
    refine rd9 10 fun K hK=>?_;go_simp;refine hK.out _ _ ?_ (fun hHeld=>?_)
    ·exact V aA
    clear hK K;refine wpAnyH_done (by kernel_rfl) ?_ _;clear hHeld hu au av aw aA bf bM bg KE bW bn;generalize setBlock w3 (w.heap.size+1) (.map es cl)=W5 at *;go_wp2
    go_roundw
    case rel=>exact ⟨k+1,by go_num,by omega,V aC⟩
    case measure=>simp [intOf]; omega
   ·have bB:(r.kind==15)=false:=b0f h7;clear az aH h7;generalize r.kind=kd at *;go_wp2
    go_roundw
    case rel=>exact ⟨k+1,by go_num,by omega,V ai⟩
    case measure=>simp [intOf]; omega
  ·obtain rfl:k=rs.length:=(by omega);have hX:=hC.hx;have y0:=cell_of (j:=0) hX (by show 0<1; omega);have F1:=hC.res;have z0:=cell_of (j:=0) F1 (by show 0<1; omega);have f0:=fun j=>x0e (j:=j) F1;obtain ⟨F2,F3⟩:=hC.fin;have aO:=O F2;have aP:=O F3;clear ac ae hC hX F1 F2 F3;go_wp2;have ap:=V aO;have aG:=V aP;clear aO aP y0 f0 z0;generalize wr.setCell ⟨w.heap.size,0,none⟩ (.map (some (w.heap.size+1)))=w10 at *;have z0:=cell_of (j:=0) ap (by show 0<1; omega);refine bodyPost_ret (v:=.agg #[.map (some (w.heap.size+1))]) (by simp [results,Tryz.results78,go_sem,z0]) rfl aG
