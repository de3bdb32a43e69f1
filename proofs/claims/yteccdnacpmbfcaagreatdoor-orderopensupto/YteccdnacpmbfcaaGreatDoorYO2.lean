/- Ok12 Ol12 -/
import Derived.Test.YteccdnacpmbfcaaGreatDoorYO1
namespace Go.Proofs.YteccdnacpmbfcaaGreatDoor
open Go.RowKit
open Ti
namespace Od
theorem run_clear9 {P:Program} {w:World} (t e:TypeId) (ty:TypeId) (b o n cap:Nat) (z:Value) (hu:P.underlying t=some (.slice e)) (hz:∀ w,(zeroValue e).run P w=.ok z w) (hn:0<n) (us:List Value) (hus:(Builtin.zeroCells z.cells n).toList=us) (hth:w.there b o us.length) (h1:∀ v∈us,v.oneCell'=true):(Builtin.clear_ #[t] ty #[.slice (some ⟨b,o,none⟩) n cap]).run P w=.ok (.tuple #[]) (w.setCells b o us):=by
 have hs:(storeCells ⟨b,o,none⟩ us 0).run P w=.ok () (w.setCells b o us):=by
  have:=run_storeCells_cells (P:=P) b o us 0 w (fun j hj=>by simpa using (hth j hj).1) (fun j hj=>by simpa using (hth j hj).2) h1
  simpa using this
 obtain ⟨m,rfl⟩:∃ m,n=m+1:=⟨n - 1,by omega⟩
 unfold Builtin.clear_
 simp [Sem.run_bind,run_underlying hu,hz,hus,hs]
def RowAt (w:World) (k:Int→Int) (g:Nat) (ms:List Int):Prop:=∃ mv,Blk w g 116 (mv :: ia (cnts k ms))∧w.ownsRow (g+1) 119 2 mv ms.length (mc k ms)
theorem RowAt.shape {w:World} {k:Int→Int} {g:Nat} {ms:List Int} (h:RowAt w k g ms):∃ ao cap,Blk w g 116 (.slice ao ms.length cap :: ia (cnts k ms))∧w.ownsRow (g+1) 119 2 (.slice ao ms.length cap) ms.length (mc k ms)∧ms.length≤cap∧cap≤9223372036854775807:=by
 obtain ⟨mv,h1,h2⟩:=h
 rcases h2.2 with ⟨rfl,h0⟩ | ⟨mb,cap,cur,rfl,_,_,hc,hm,_⟩
 ·rw [h0] at h2
  exact ⟨none,0,by rw [h0]; exact h1,by rw [h0]; exact h2,by omega,by omega⟩
 ·exact ⟨_,cap,h1,h2,hc,by unfold maxLen at hm; omega⟩
theorem lay_none12 (k:Int→Int) (g:Nat) (v:Value) (w:World) (h:RowAt w k g []):Calls Tryz.prog 67 #[.pointer (some ⟨g,0,none⟩),v] w fun e w'=>e=.returned (.tuple #[])∧w'=w:=by
 obtain ⟨ao,cap,h1,_,_,hc⟩:=h.shape
 have hc0:w.cell? ⟨g,0,none⟩=some (.slice ao 0 cap):=h1.cell rfl
 clear h h1
 go_enter Tryz.func67,Tryz.ntmps67
 go_wp2
 exact bodyPost_ret (v:=.tuple #[]) (results_none rfl _ _ _) rfl ⟨rfl,rfl⟩
theorem zeroI64 (w:World):(zeroValue 3).run Tryz.prog w=.ok (.int .i64 0) w:=(zero_of_info (n:=1) (by kernel_rfl)).1 w
theorem zeroMark (w:World):(zeroValue 119).run Tryz.prog w=.ok (.agg #[.int .i32 0,.int .i64 0]) w:=(zero_of_info (n:=2) (by kernel_rfl)).1 w
theorem zc_ints:(Builtin.zeroCells (Value.int .i64 0).cells 255).toList=ia z255:=by kernel_rfl
theorem zc_marks (n:Nat):(Builtin.zeroCells (Value.agg #[.int .i32 0,.int .i64 0]).cells n).toList.length=n * 2∧∀ v∈(Builtin.zeroCells (Value.agg #[.int .i32 0,.int .i64 0]).cells n).toList,v.oneCell'=true:=by
 unfold Builtin.zeroCells
 refine ⟨by simp [Value.cells],fun v hv=>?_⟩
 simp only [Value.cells,Array.toList_map,List.mem_map] at hv
 obtain ⟨i,_,rfl⟩:=hv
 have:i % #[Value.int .i32 0,.int .i64 0].size=0∨i % #[Value.int .i32 0,.int .i64 0].size=1:=by
  show i % 2=0∨i % 2=1
  omega
 rcases this with h | h <;> rw [h] <;> rfl
theorem cnts_nil (k:Int→Int):cnts k []=z255:=by
 refine List.eq_replicate_iff.2 ⟨cnts_len k [],fun b hb=>?_⟩
 obtain ⟨i,_,rfl⟩:=List.mem_map.1 hb
 rfl
set_option maxRecDepth 8000 in
set_option maxHeartbeats 4000000 in
theorem lay_some12 (k:Int→Int) (g yb o ycap:Nat) (ms ys:List Int) (A C:List Value) (w:World) (h:RowAt w k g ms) (hy:Blk w yb 21 (A++ir ys++C)) (hA:A.length=o) (hyl:ys.length=ms.length) (hyc:o+ms.length≤ycap∧ycap≤9223372036854775807) (hk:Od.Mk k ms) (hn:ms.length≤3000000) (ho:o≤3000000) (hne:0<ms.length) (hgy:yb<g):Calls Tryz.prog 67 #[.pointer (some ⟨g,0,none⟩),.slice (some ⟨yb,0,none⟩) (o+ms.length) ycap] w fun e w'=>e=.returned (.tuple #[])∧Blk w' yb 21 (A++ir (Od.bkt k ms)++C)∧RowAt w' k g []∧Below yb w w':=by
 obtain ⟨mv,h1,h2⟩:=h
 obtain ⟨hml,h2⟩:=h2
 rcases h2 with ⟨_,h0⟩ | ⟨mb,mcap,cur,rfl,hmb,hcur,hmc,hmm,hcs,hct⟩
 ·omega
 have hm:Blk w mb 119 (mc k ms++cur.toList.drop (ms.length * 2)):=by
  rw [← hct,List.take_append_drop]
  unfold Blk; rw [hcur]
 have hmx:mcap≤9223372036854775807:=by unfold maxLen at hmm; omega
 obtain ⟨hy1,hy2⟩:=hyc
 have K1:=Hd (deal_any12 k g mb mcap yb o (ycap - o) ms ys _ A C w h1 hm ⟨hmc,hmx⟩ hy hA hyl ⟨by omega,by omega⟩ hk hn (by omega) (by omega))
 have hc0:w.cell? ⟨g,0,none⟩=some (.slice (some ⟨mb,0,none⟩) ms.length mcap):=h1.cell rfl
 have HK:Hid (∀ W:World,Blk W yb 21 (A++ir (Od.bkt k ms)++C)→w.grownBy W (some yb)→∃ W2 W3 W4,W.setCells g 1 (ia z255)=W2∧W2.setCells mb 0 (Builtin.zeroCells (Value.agg #[.int .i32 0,.int .i64 0]).cells ms.length).toList=W3∧W3.setCell ⟨g,0,none⟩ (.slice (some ⟨mb,0,none⟩) 0 mcap)=W4∧W.there g 1 (ia z255).length∧W2.there mb 0 (Builtin.zeroCells (Value.agg #[.int .i32 0,.int .i64 0]).cells ms.length).toList.length∧W.cell? ⟨g,0,none⟩=some (.slice (some ⟨mb,0,none⟩) ms.length mcap)∧W2.cell? ⟨g,0,none⟩=some (.slice (some ⟨mb,0,none⟩) ms.length mcap)∧W3.cell? ⟨g,0,none⟩=some (.slice (some ⟨mb,0,none⟩) ms.length mcap)∧W3.frozen? ⟨g,0,none⟩=false∧Blk W4 yb 21 (A++ir (Od.bkt k ms)++C)∧RowAt W4 k g []∧Below yb w W4):=fun W hW hg=>by
  have r0:=h1.kept hg (fun e=>Nat.ne_of_gt hgy (by simpa using e))
  have m0:=hm.kept hg (fun e=>absurd (show mb=yb by simpa using e) (by omega))
  have hl1:1+(ia z255).length≤(Value.slice (some ⟨mb,0,none⟩) ms.length mcap :: ia (cnts k ms)).length:=by simp [ia_len,z255,cnts_len]
  have r1:=r0.setCells (ia z255) 1 hl1
  have e1:(Value.slice (some ⟨mb,0,none⟩) ms.length mcap :: ia (cnts k ms)).take 1++ia z255++(Value.slice (some ⟨mb,0,none⟩) ms.length mcap :: ia (cnts k ms)).drop (1+(ia z255).length)=.slice (some ⟨mb,0,none⟩) ms.length mcap :: ia z255:=by
   rw [List.drop_of_length_le (by simp [ia_len,z255,cnts_len])]
   simp
  rw [e1] at r1
  have m1:=blk_far (g2:=g) (by omega) (ia z255) 1 W m0
  obtain ⟨zl,_⟩:=zc_marks ms.length
  have hcl:cur.toList.length=mcap * 2:=(Array.length_toList (xs:=cur)).trans hcs
  have hlm:(mc k ms++cur.toList.drop (ms.length * 2)).length=mcap * 2:=by rw [List.length_append,mc_len,List.length_drop,hcl]; omega
  have m2:=m1.setCells (Builtin.zeroCells (Value.agg #[.int .i32 0,.int .i64 0]).cells ms.length).toList 0 (by rw [zl,hlm]; omega)
  have r2:=blk_far (g2:=mb) (by omega) (Builtin.zeroCells (Value.agg #[.int .i32 0,.int .i64 0]).cells ms.length).toList 0 _ r1
  have r3:=r2.set 0 (.slice (some ⟨mb,0,none⟩) 0 mcap)
  have m3:=m2.other (a:=⟨g,0,none⟩) (by show mb≠g; omega) (.slice (some ⟨mb,0,none⟩) 0 mcap)
  have y1:=blk_far (g2:=g) (by omega) (ia z255) 1 W hW
  have y2:=blk_far (g2:=mb) (by omega) (Builtin.zeroCells (Value.agg #[.int .i32 0,.int .i64 0]).cells ms.length).toList 0 _ y1
  have y3:=y2.other (a:=⟨g,0,none⟩) (by show yb≠g; omega) (.slice (some ⟨mb,0,none⟩) 0 mcap)
  have b1:Below yb w W:=(Below.refl _ _).grown hg (by have:=hy.lt; omega) (fun j hj=>by simp at hj; omega)
  have b2:=below_setCells4 (B:=yb) (g:=g) (by omega) (ia z255) 1 W b1
  have b3:=below_setCells4 (B:=yb) (g:=mb) (by omega) (Builtin.zeroCells (Value.agg #[.int .i32 0,.int .i64 0]).cells ms.length).toList 0 _ b2
  refine ⟨_,_,_,rfl,rfl,rfl,r0.there hl1,m1.there (by rw [zl,hlm]; omega),r0.cell rfl,r1.cell rfl,r2.cell rfl,r2.frozen 0,y3,⟨.slice (some ⟨mb,0,none⟩) 0 mcap,?_,⟨by simp [mc],Or.inr ⟨mb,mcap,_,rfl,hmb,m3,Nat.zero_le _,hmm,?_,by simp [mc]⟩⟩⟩,b3.setCell (p:=⟨g,0,none⟩) (by show yb≤g; omega) _⟩
  ·rw [cnts_nil]; exact r3
  ·simp only [List.size_toArray,List.length_append,List.length_take,List.length_drop,zl,hlm]
   omega
 have HZ:=Hd (zc_marks ms.length)
 have hc1:ms.length≤mcap:=hmc
 generalize hgz:(Builtin.zeroCells (Value.agg #[.int .i32 0,.int .i64 0]).cells ms.length).toList=zz at *
 have HGZ:=Hd hgz
 clear h1 hm hy hk hcur hct hcs hml hmc hgz
 have hne2:¬ ((ms.length:Int)=0):=by omega
 go_enter Tryz.func67,Tryz.ntmps67
 go_wp2_with fail
 refine (Uh K1).mono ?_
 rintro e w1 ⟨rfl,y1,g1⟩
 obtain ⟨W2,W3,W4,hW2,hW3,hW4,t2,t3,c1,c2,c3,f3,hF1,hF2,hF3⟩:=(Uh HK) w1 y1 g1
 have HF1:=Hd hF1
 have HF2:=Hd hF2
 have HF3:=Hd hF3
 clear K1 HK y1 g1 hc0 hF1 hF2 hF3
 have q1:(Builtin.clear_ #[143] 0 #[.slice (some ⟨g,1,none⟩) 255 255]).run Tryz.prog w1=.ok (.tuple #[]) W2:=by
  rw [← hW2]
  exact run_clear9 143 3 0 g 1 255 255 _ Tryz.underlying143 zeroI64 (by decide) (ia z255) zc_ints t2 (fun v hv=>by obtain ⟨z,_,rfl⟩:=List.mem_map.1 hv; rfl)
 have q2:(Builtin.clear_ #[113] 0 #[.slice (some ⟨mb,0,none⟩) ms.length mcap]).run Tryz.prog W2=.ok (.tuple #[]) W3:=by
  rw [← hW3]
  exact run_clear9 113 119 0 mb 0 ms.length mcap _ Tryz.underlying113 zeroMark hne zz (Uh HGZ) t3 (Uh HZ).2
 clear hW2 hW3 t2 t3 HGZ HZ
 go_wp2
 go_end0
 exact ⟨rfl,Uh HF1,Uh HF2,Uh HF3⟩
end Od
open Ti
namespace Od
theorem infoM:∃ i z,Tryz.prog.info? 119=some i∧i.zero=some z∧i.size=2∧i.bytes=16∧z.cells.size=2:=by
 have h:(Tryz.prog.info? 119).map (fun i=>(i.size,i.bytes,i.zero.map (·.cells.size)))=some (2,16,some 2):=by kernel_rfl
 obtain ⟨i,hi,h1⟩:=Option.map_eq_some_iff.1 h
 simp only [Prod.mk.injEq] at h1
 obtain ⟨h1,h2,h3⟩:=h1
 obtain ⟨z,hz,hzs⟩:=Option.map_eq_some_iff.1 h3
 exact ⟨i,z,hi,hz,h1,h2,hzs⟩
theorem run_buildM (w:World) (x y:Value):(Instr.buildSlice 113 1 #[(0,.agg #[x,y])]).run Tryz.prog w=.ok (.slice (some ⟨w.heap.size,0,none⟩) 1 1) (w.alloc (.cells #[x,y] 119)):=by
 obtain ⟨i,z,hi,hz,h1,_,h3⟩:=infoM
 refine run_buildSlice w 113 119 1 _ _ i z Tryz.underlying113 hi hz (by rw [h1]; decide) (by rw [h1]; decide) ?_
 rw [h1]
 have:=Great.fill_whole (s:=2) (by decide) [Value.agg #[x,y]] ((Array.range (1 * 2)).map (z.cells[· % z.cells.size]!)) (fun v hv=>by simp at hv; subst hv; simp [Value.cells]) (by simp)
 simpa [Value.cells] using this
theorem cnts_snoc (k:Int→Int) (ms:List Int) (m:Int) {c:Nat} (hc:k m=c) (h5:c<255):(cnts k ms).set c ((cnts k ms).getD c 0+1)=cnts k (ms++[m]):=by
 refine list_ext_getD (n:=255) (by rw [List.length_set,cnts_len]) (cnts_len _ _) (fun j hj=>?_)
 rw [set_at _ c j _ (by rw [cnts_len]; exact h5),cnts_at _ _ hj,cnts_at _ _ hj,cnts_at _ _ h5,Od.ft_append,List.length_append]
 by_cases h:j=c
 ·rw [if_pos h,h]
  simp [Od.ft,hc]
 ·rw [if_neg h]
  have:Od.ft k j [m]=[]:=by
   unfold Od.ft
   rw [List.filter_cons_of_neg (by simp; omega)]; rfl
  rw [this]; simp
theorem mc_snoc (k:Int→Int) (ms:List Int) (m:Int):mc k (ms++[m])=mc k ms++[.int .i32 m,.int .i64 (k m)]:=by simp [mc,List.flatMap_append]
theorem owns_set {w:World} {b e sz n g o:Nat} {v:Value} {xs:List Value} (h:w.ownsRow b e sz v n xs) (hne:v.ownBlock≠some g) (u:Value):(w.setCell ⟨g,o,none⟩ u).ownsRow b e sz v n xs:=by
 refine ⟨h.1,?_⟩
 rcases h.2 with h2 | ⟨j,cap,cur,e1,e2,e3,e4⟩
 ·exact Or.inl h2
 ·refine Or.inr ⟨j,cap,cur,e1,e2,?_,e4⟩
  rw [heap_setCell_other w ⟨g,o,none⟩ j u (fun e=>hne (by rw [e1]; exact congrArg some e))]; exact e3
theorem load_slice9 (W:World) (g:Nat) (u:Value) (h:W.cell? ⟨g,0,none⟩=some u):(Instr.loadAt 113 (.pointer (some ⟨g,0,none⟩))).run Tryz.prog W=.ok u W:=by
 simp [Instr.loadAt,go_sem,Tryz.isAgg113,Tryz.sizeOf113,h,Addr.add]
set_option maxRecDepth 8000 in
set_option maxHeartbeats 4000000 in
theorem gather_any12 (k:Int→Int) (g:Nat) (ms:List Int) (m:Int) (cn:Nat) (w:World) (h:RowAt w k g ms) (hc:k m=(cn:Int)) (h1:1≤cn) (h2:cn≤254) (hn:ms.length≤3000000):Calls Tryz.prog 66 #[.pointer (some ⟨g,0,none⟩),.agg #[.int .i32 m,.int .i64 (cn:Int)]] w fun e w'=>e=.returned (.tuple #[])∧RowAt w' k g (ms++[m])∧Below g w w':=by
 obtain ⟨i0,z0,hi0,hz0,hz1,hz2,hz3⟩:=infoM
 obtain ⟨ao,mcap,hb,hrow,hm1,hm2⟩:=h.shape
 have hcn5:cn<255:=by omega
 obtain ⟨gx,hgx⟩:∃ gx,w.heap.size=gx:=⟨_,rfl⟩
 obtain ⟨W1,hW1⟩:∃ W1,w.alloc (.cells #[.int .i32 m,.int .i64 (cn:Int)] 119)=W1:=⟨_,rfl⟩
 have hgl:=hb.lt
 have xd0:W1.drew.cell? ⟨gx,0,none⟩=some (.int .i32 m):=by rw [← hW1,← hgx]; simp
 have xd1:W1.drew.cell? ⟨gx,1,none⟩=some (.int .i64 (cn:Int)):=by rw [← hW1,← hgx]; simp
 have hb1:Blk W1.drew g 116 (.slice ao ms.length mcap :: ia (cnts k ms)):=by rw [← hW1]; exact hb.alloc _
 have hrow1:W1.drew.ownsRow (g+1) 119 2 (.slice ao ms.length mcap) ms.length (mc k ms):=by rw [← hW1]; exact (hrow.alloc _).drew
 have hbw1:Below g w W1.drew:=by rw [← hW1]; exact ((Below.refl _ _).alloc (by omega) _).drew
 have hs1:W1.drew.heap.size=gx+1:=by rw [← hW1,← hgx]; simp
 obtain ⟨W2,hW2⟩:∃ W2,W1.drew.alloc (.cells #[.int .i32 m,.int .i64 (cn:Int)] 119)=W2:=⟨_,rfl⟩
 obtain ⟨gy,hgy⟩:∃ gy,W1.drew.heap.size=gy:=⟨_,rfl⟩
 have hs2:W2.heap.size=gy+1:=by rw [← hW2]; simp [hgy]
 have hbl:(Instr.buildSlice 113 1 #[(0,.agg #[.int .i32 m,.int .i64 (cn:Int)])]).run Tryz.prog W1.drew=.ok (.slice (some ⟨gy,0,none⟩) 1 1) W2:=by rw [← hW2,← hgy]; exact run_buildM _ _ _
 have xb0:W2.cell? ⟨gx,0,none⟩=some (.int .i32 m):=by rw [← hW2,World.cell?_alloc_lt _ _ _ (by show gx<_; omega)]; exact xd0
 have xb1:W2.cell? ⟨gx,1,none⟩=some (.int .i64 (cn:Int)):=by rw [← hW2,World.cell?_alloc_lt _ _ _ (by show gx<_; omega)]; exact xd1
 have hb2:Blk W2 g 116 (.slice ao ms.length mcap :: ia (cnts k ms)):=by rw [← hW2]; exact hb1.alloc _
 have hrow2:W2.ownsRow (g+1) 119 2 (.slice ao ms.length mcap) ms.length (mc k ms):=by rw [← hW2]; exact hrow1.alloc _
 have hbw2:Below g w W2:=by rw [← hW2]; exact hbw1.alloc (by omega) _
 have hbs:g+1≤W2.heap.size:=by omega
 have ld1:(Instr.loadAt 113 (.pointer (some ⟨g,0,none⟩))).run Tryz.prog W1.drew=.ok (.slice ao ms.length mcap) W1.drew:=load_slice9 _ _ _ (hb1.cell rfl)
 have ld2:(Instr.loadAt 113 (.pointer (some ⟨g,0,none⟩))).run Tryz.prog W2=.ok (.slice ao ms.length mcap) W2:=load_slice9 _ _ _ (hb2.cell rfl)
 have hone:∀ u∈[Value.int .i32 m,.int .i64 (cn:Int)],u.oneCell'=true:=fun u hu=>by
  rcases List.mem_cons.1 hu with rfl | hu
  ·rfl
  ·obtain rfl:=List.mem_singleton.1 hu; rfl
 have HROW:=Hd hrow2
 have HNEW:Hid (∀ (j:Nat) (u:Value),[Value.int .i32 m,.int .i64 (cn:Int)][j]?=some u→W2.cell? ((⟨gy,0,none⟩:Addr).add j)=some u):=fun j u hu=>by
  rw [Addr.add_mid,Nat.zero_add,← hW2,← hgy]
  exact (Blk.new W1.drew 119 [Value.int .i32 m,.int .i64 (cn:Int)] _ rfl).cell hu
 have HS9:Hid (∀ (W:World) gg cap,W.cell? ⟨gx,0,none⟩=some (.int .i32 m)→W.cell? ⟨gx,1,none⟩=some (.int .i64 (cn:Int))→(W.setCell ⟨g,0,none⟩ (.slice (some ⟨gg,0,none⟩) (ms.length+1) cap)).cell? ⟨gx,0,none⟩=some (.int .i32 m)∧(W.setCell ⟨g,0,none⟩ (.slice (some ⟨gg,0,none⟩) (ms.length+1) cap)).cell? ⟨gx,1,none⟩=some (.int .i64 (cn:Int))):=fun W gg cap a b=>by
  have hne:∀ i,(⟨g,0,none⟩:Addr)≠⟨gx,i,none⟩:=fun i e=>by have:g=gx:=congrArg Addr.block e; omega
  rw [World.cell?_setCell_other _ _ _ _ (hne 0),World.cell?_setCell_other _ _ _ _ (hne 1)]
  exact ⟨a,b⟩
 obtain ⟨q,hq⟩:∃ q,(cnts k ms).getD cn 0=q:=⟨_,rfl⟩
 have HS10:Hid (∀ (W:World) (v:Value),W.cell? ⟨gx,1,none⟩=some (.int .i64 (cn:Int))→(W.setCell ⟨g,1+cn,none⟩ v).cell? ⟨gx,1,none⟩=some (.int .i64 (cn:Int))):=fun W v a=>by
  rw [World.cell?_setCell_other _ _ _ _ (fun e=>by have:g=gx:=congrArg Addr.block e; omega)]
  exact a
 have HMORE:Hid (∀ gg cap (w8:World),w8.ownsRow (g+1) 119 2 (.slice (some ⟨gg,0,none⟩) (ms.length+1) cap) (ms.length+1) (mc k ms++[.int .i32 m,.int .i64 (cn:Int)])→W2.grownBy w8 (Value.slice ao ms.length mcap).ownBlock→((Value.slice ao ms.length mcap).ownBlock=some gg∨gg=W2.heap.size)→w8.cell? ⟨gx,0,none⟩=some (.int .i32 m)∧w8.cell? ⟨gx,1,none⟩=some (.int .i64 (cn:Int))∧w8.cell? ⟨g,0,none⟩=some (.slice ao ms.length mcap)∧w8.frozen? ⟨g,0,none⟩=false∧∃ W9,(w8.setCell ⟨g,0,none⟩ (.slice (some ⟨gg,0,none⟩) (ms.length+1) cap)).drew=W9∧W9.cell? ⟨gx,1,none⟩=some (.int .i64 (cn:Int))∧W9.cell? ⟨g,1+cn,none⟩=some (.int .i64 q)∧W9.frozen? ⟨g,1+cn,none⟩=false∧RowAt (W9.setCell ⟨g,1+cn,none⟩ (.int .i64 (q+1))) k g (ms++[m])∧Below g w (W9.setCell ⟨g,1+cn,none⟩ (.int .i64 (q+1)))):=fun gg cap w8 hr8 hg hat=>by
  have hob:∀ j,(Value.slice ao ms.length mcap).ownBlock=some j→g+1≤j∧j<gx:=fun j hj=>by
   have:=hrow.lt j hj
   omega
  have hng:some g≠(Value.slice ao ms.length mcap).ownBlock:=fun e=>by have:=hob g e.symm; omega
  have hnx:some gx≠(Value.slice ao ms.length mcap).ownBlock:=fun e=>by have:=hob gx e.symm; omega
  have hb8:=hb2.kept hg hng
  have u0:=hg.cell xb0 hnx
  have u1:=hg.cell xb1 hnx
  have hgg:g+1≤gg:=by
   rcases hat with e | e
   ·exact (hob gg e).1
   ·omega
  have hb9:=hb8.set 0 (.slice (some ⟨gg,0,none⟩) (ms.length+1) cap)
  have hb9':Blk (w8.setCell ⟨g,0,none⟩ (.slice (some ⟨gg,0,none⟩) (ms.length+1) cap)).drew g 116 (.slice (some ⟨gg,0,none⟩) (ms.length+1) cap :: ia (cnts k ms)):=hb9
  have hbe8:Below g w w8:=hbw2.grown hg (by omega) (fun j hj=>by have:=hob j hj; omega)
  have hbe9:Below g w (w8.setCell ⟨g,0,none⟩ (.slice (some ⟨gg,0,none⟩) (ms.length+1) cap)).drew:=(hbe8.setCell (p:=⟨g,0,none⟩) (Nat.le_refl _) _).drew
  have hr9:(w8.setCell ⟨g,0,none⟩ (.slice (some ⟨gg,0,none⟩) (ms.length+1) cap)).drew.ownsRow (g+1) 119 2 (.slice (some ⟨gg,0,none⟩) (ms.length+1) cap) (ms.length+1) (mc k ms++[.int .i32 m,.int .i64 (cn:Int)]):=owns_set hr8 (fun e=>absurd (show gg=g by simpa [Value.ownBlock] using e) (by omega)) _
  have hqc:(Value.slice (some ⟨gg,0,none⟩) (ms.length+1) cap :: ia (cnts k ms))[1+cn]?=some (.int .i64 q):=by
   rw [Nat.add_comm 1 cn,List.getElem?_cons_succ,ia_at (by rw [cnts_len]; exact hcn5),hq]
  refine ⟨u0,u1,hb8.cell rfl,hb8.frozen 0,_,rfl,?_,hb9'.cell hqc,hb9'.frozen _,⟨.slice (some ⟨gg,0,none⟩) (ms.length+1) cap,?_,?_⟩,hbe9.setCell (p:=⟨g,1+cn,none⟩) (Nat.le_refl _) _⟩
  ·exact ((Uh HS9) w8 gg cap u0 u1).2
  ·have:=hb9'.set (1+cn) (.int .i64 (q+1))
   rw [Nat.add_comm 1 cn,List.set_cons_succ,ia_set,← hq,cnts_snoc k ms m hc hcn5,hq] at this
   rw [Nat.add_comm 1 cn]
   exact this
  ·rw [List.length_append,mc_snoc,hc]
   exact owns_set hr9 (fun e=>absurd (show gg=g by simpa [Value.ownBlock] using e) (by omega)) _
 have hci1:(cn:Int)<255:=by omega
 have hq0:0≤q∧q≤3000000:=by rw [← hq]; exact cnts_fit k ms hn _ (by have:=cnts_len k ms; simp [List.getD,show cn<(cnts k ms).length by omega])
 obtain ⟨hq1,hq2⟩:=hq0
 have hwq:IntKind.i64.wrap (q+1)=q+1:=by rw [IntKind.wrap_i64]; omega
 clear h hb hrow hb1 hrow1 hbw1 hs1 hW2 hs2 hb2 hrow2 hbw2 hgy hc hq hcn5
 go_enter Tryz.func66,Tryz.ntmps66
 go_upto_region 1 with fail
 refine wp_region_held_drew (S:=fun w'=>w'.cell? ⟨gx,0,none⟩=some (.int .i32 m)∧w'.cell? ⟨gx,1,none⟩=some (.int .i64 (cn:Int))) (by kernel_rfl) (⟨xd0,xd1⟩) (fun hHeld=>?_)
 generalize W1.drew=Wd at *
 refine tk9 0 ⟨some 4,_,_,_,_,_⟩ (.pointer (some ⟨g,0,none⟩)) rfl ?_ hHeld ?_
 ·intro w hSw
  go_simp
 try simp only [Act.put,sa9,sb9,sc9]
 refine tk9 1 ⟨some 5,_,_,_,_,_⟩ (.pointer (some ⟨g,0,none⟩)) rfl ?_ hHeld ?_
 ·intro w hSw
  go_simp
 try simp only [Act.put,sa9,sb9,sc9]
 refine tk9 2 ⟨some 6,_,_,_,_,_⟩ (.pointer (some ⟨g,0,none⟩)) rfl ?_ hHeld ?_
 ·intro w hSw
  go_simp
 try simp only [Act.put,sa9,sb9,sc9]
 refine tk9 3 ⟨some 7,_,_,_,_,_⟩ (.pointer (some ⟨g,0,none⟩)) rfl ?_ hHeld ?_
 ·intro w hSw
  go_simp
 try simp only [Act.put,sa9,sb9,sc9]
 refine tk9 5 ⟨some 9,_,_,_,_,_⟩ (.agg #[.int .i32 m,.int .i64 (cn:Int)]) rfl ?_ hHeld ?_
 ·intro w hSw
  obtain ⟨s0,s1⟩:=hSw; go_simp
 try simp only [Act.put,sa9,sb9,sc9]
 refine wpAnyH_ready (rs:=[4,6]) (by kernel_rfl) (by simp) ?_
 refine AllReadyH.cons (o:=⟨some 8,_,_,_,_,_⟩) rfl (fun K hK=>?pa) (AllReadyH.cons (o:=⟨some 10,_,_,_,_,_⟩) rfl (fun K hK=>?pb) AllReadyH.nil)
 case' pa =>
  refine step_load (by rfl) 113 (.tmp 7) (by rfl) _ _ (by rfl) ld1 ?_
  refine hK.out _ _ (⟨xd0,xd1⟩) (fun hHeld=>?_)
  clear hK K
  try simp only [Act.put,sa9,sb9,sc9]
  refine wpAnyH_ready (rs:=[6]) (by kernel_rfl) (by simp) ?_
  refine AllReadyH.cons (o:=⟨some 10,_,_,_,_,_⟩) rfl (fun K hK=>?_) AllReadyH.nil
  refine step_build (by rfl) 113 (.tmp 9) (by rfl) _ _ (by rfl) hbl ?_
  refine hK.out _ _ (⟨xb0,xb1⟩) (fun hHeld=>?_)
  clear hK K
  try simp only [Act.put,sa9,sb9,sc9]
 case' pb =>
  refine step_build (by rfl) 113 (.tmp 9) (by rfl) _ _ (by rfl) hbl ?_
  refine hK.out _ _ (⟨xb0,xb1⟩) (fun hHeld=>?_)
  clear hK K
  try simp only [Act.put,sa9,sb9,sc9]
  refine wpAnyH_ready (rs:=[4]) (by kernel_rfl) (by simp) ?_
  refine AllReadyH.cons (o:=⟨some 8,_,_,_,_,_⟩) rfl (fun K hK=>?_) AllReadyH.nil
  refine step_load (by rfl) 113 (.tmp 7) (by rfl) _ _ (by rfl) ld2 ?_
  refine hK.out _ _ (⟨xb0,xb1⟩) (fun hHeld=>?_)
  clear hK K
  try simp only [Act.put,sa9,sb9,sc9]
 all_goals
  refine wpAnyH_ready (rs:=[7]) (by kernel_rfl) (by simp) ?_
  refine AllReadyH.cons (o:=⟨some 11,_,_,_,_,_⟩) rfl (fun K hK=>?_) AllReadyH.nil
  refine step_append_lies _ (by rfl) (.tmp 8) (.tmp 10) 113 (by rfl) (g+1) 119 i0 z0 2 16 Tryz.underlying113 hi0 hz0 hz1 hz2 hz3 (by omega) (.slice ao ms.length mcap) ms.length (mc k ms) (by rfl) (Uh HROW) ⟨gy,0,none⟩ 1 1 [.int .i32 m,.int .i64 (cn:Int)] (by rfl) (by rfl) (Uh HNEW) hone (by omega) (by unfold maxLen; omega) (by omega) hbs W2.heap.size rfl ?_
  intro gg cap w8 hrow8 hgrow hat hlt8
  obtain ⟨s0,s1,hc8,hf8,W9,hW9,y1,y2,fy,hF1,hF2⟩:=(Uh HMORE) gg cap w8 hrow8 hgrow hat
  refine hK.out _ _ ?_ (fun hHeld=>?_)
  ·exact ⟨s0,s1⟩
  clear hK K
  try simp only [Act.put,sa9,sb9,sc9]
  refine tk9 8 ⟨some 12,_,_,_,_,_⟩ (.pointer (some ⟨g,0,none⟩)) rfl ?_ hHeld ?_
  ·intro w hSw
   go_simp
  try simp only [Act.put,sa9,sb9,sc9]
  refine tk9 9 ⟨some 13,_,_,_,_,_⟩ (.pointer (some ⟨g,0,none⟩)) rfl ?_ hHeld ?_
  ·intro w hSw
   go_simp
  try simp only [Act.put,sa9,sb9,sc9]
  refine wpAnyH_ready (rs:=[10]) (by kernel_rfl) (by simp) ?_
  refine AllReadyH.cons (o:=⟨none,_,_,_,_,_⟩) rfl (fun K hK=>?_) AllReadyH.nil
  go_simp
  refine hK.out _ _ ?_ (fun hHeld=>?_)
  ·exact (Uh HS9) _ _ _ s0 s1
  clear hK K
  refine wpAnyH_done (by kernel_rfl) ?_ _
  have HF1:=Hd hF1
  have HF2:=Hd hF2
  clear hHeld hrow8 hgrow hat hlt8 s0 s1 hc8 hf8 HMORE HROW HNEW hbl ld1 ld2 hone hbs hF1 hF2 HS9 xd0 xd1
  go_upto_region 2 with fail
  refine wp_region_held_drew (S:=fun w'=>w'.cell? ⟨gx,1,none⟩=some (.int .i64 (cn:Int))) (by kernel_rfl) (by rw [hW9]; exact y1) (fun hHeld=>?_)
  rw [hW9] at hHeld ⊢
  clear hW9
  refine tk9 0 ⟨some 14,_,_,_,_,_⟩ (.pointer (some ⟨g,0,none⟩)) rfl ?_ hHeld ?_
  ·intro w hSw
   go_simp
  try simp only [Act.put,sa9,sb9,sc9]
  refine tk9 1 ⟨some 15,_,_,_,_,_⟩ (.pointer (some ⟨gx,1,none⟩)) rfl ?_ hHeld ?_
  ·intro w hSw
   go_simp
  try simp only [Act.put,sa9,sb9,sc9]
  refine tk9 2 ⟨some 16,_,_,_,_,_⟩ (.int .i64 (cn:Int)) rfl ?_ hHeld ?_
  ·intro w hSw
   go_simp
  try simp only [Act.put,sa9,sb9,sc9]
  refine tk9 3 ⟨some 17,_,_,_,_,_⟩ (.pointer (some ⟨g,0,none⟩)) rfl ?_ hHeld ?_
  ·intro w hSw
   go_simp
  try simp only [Act.put,sa9,sb9,sc9]
  refine tk9 4 ⟨some 18,_,_,_,_,_⟩ (.pointer (some ⟨g,1,none⟩)) rfl ?_ hHeld ?_
  ·intro w hSw
   go_simp
  try simp only [Act.put,sa9,sb9,sc9]
  refine tk9 5 ⟨some 19,_,_,_,_,_⟩ (.pointer (some ⟨g,1+cn,none⟩)) rfl ?_ hHeld ?_
  ·intro w hSw
   go_simp
  try simp only [Act.put,sa9,sb9,sc9]
  refine tk9 8 ⟨some 22,_,_,_,_,_⟩ (.pointer (some ⟨g,0,none⟩)) rfl ?_ hHeld ?_
  ·intro w hSw
   go_simp
  try simp only [Act.put,sa9,sb9,sc9]
  refine tk9 9 ⟨some 23,_,_,_,_,_⟩ (.pointer (some ⟨g,1,none⟩)) rfl ?_ hHeld ?_
  ·intro w hSw
   go_simp
  try simp only [Act.put,sa9,sb9,sc9]
  refine wpAnyH_ready (rs:=[6]) (by kernel_rfl) (by simp) ?_
  refine AllReadyH.cons (o:=⟨some 20,_,_,_,_,_⟩) rfl (fun K hK=>?_) AllReadyH.nil
  go_simp
  refine hK.out _ _ ?_ (fun hHeld=>?_)
  ·exact y1
  clear hK K
  try simp only [Act.put,sa9,sb9,sc9]
  refine tk9 7 ⟨some 21,_,_,_,_,_⟩ (.int .i64 (q+1)) rfl ?_ hHeld ?_
  ·intro w hSw
   go_simp
  try simp only [Act.put,sa9,sb9,sc9]
  refine tk9 10 ⟨some 24,_,_,_,_,_⟩ (.pointer (some ⟨g,1+cn,none⟩)) rfl ?_ hHeld ?_
  ·intro w hSw
   go_simp
  try simp only [Act.put,sa9,sb9,sc9]
  refine wpAnyH_ready (rs:=[11]) (by kernel_rfl) (by simp) ?_
  refine AllReadyH.cons (o:=⟨none,_,_,_,_,_⟩) rfl (fun K hK=>?_) AllReadyH.nil
  go_simp
  refine hK.out _ _ ?_ (fun hHeld=>?_)
  ·exact (Uh HS10) _ _ y1
  clear hK K
  refine wpAnyH_done (by kernel_rfl) ?_ _
  clear hHeld
  go_wp2
  go_end0
  exact ⟨rfl,Uh HF1,Uh HF2⟩
end Od
end Go.Proofs.YteccdnacpmbfcaaGreatDoor
