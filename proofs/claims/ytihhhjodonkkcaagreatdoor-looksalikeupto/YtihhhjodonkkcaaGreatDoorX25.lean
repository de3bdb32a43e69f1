/- Ux9 Uk9 Vc9 Ve9 -/
import Derived.Deep.RegionHeld
import Derived.Test.YtihhhjodonkkcaaGreatDoorX26
namespace Go.Proofs.YtihhhjodonkkcaaGreatDoor
open Go.RowKit
open Ti
theorem alloc_size9 (w:World) (o:Obj):(w.alloc o).heap.size=w.heap.size+1:=Array.size_push ..
structure RecC (w:World) (g off:Nat) (r:Rec) (ao:Option Addr) (ln cp:Nat):Prop where
 x0:w.cell? ⟨g,off,none⟩=some (.int .i64 r.kind)
 x1:w.cell? ⟨g,off+1,none⟩=some (.int .i64 r.lo)
 x2:w.cell? ⟨g,off+2,none⟩=some (.int .i64 r.hi)
 x3:w.cell? ⟨g,off+3,none⟩=some (.int .i64 r.n)
 x4:w.cell? ⟨g,off+4,none⟩=some (.slice ao ln cp)
 x5:w.cell? ⟨g,off+5,none⟩=some (.string r.name)
 x6:w.cell? ⟨g,off+6,none⟩=some (.string r.other)
 x7:w.cell? ⟨g,off+7,none⟩=some (.float .f64 r.wt)
theorem RecC.keep {w w':World} {g off:Nat} {r:Rec} {ao:Option Addr} {ln cp:Nat} (h:RecC w g off r ao ln cp) (hk:w'.heap[g]?=w.heap[g]?):RecC w' g off r ao ln cp:=by
 have hc:∀ j,w'.cell? ⟨g,j,none⟩=w.cell? ⟨g,j,none⟩:=fun j=>by simp only [World.cell?,hk]
 exact ⟨by rw [hc]; exact h.x0,by rw [hc]; exact h.x1,by rw [hc]; exact h.x2,by rw [hc]; exact h.x3,by rw [hc]; exact h.x4,by rw [hc]; exact h.x5,by rw [hc]; exact h.x6,by rw [hc]; exact h.x7⟩
def OfP (w:World) (B:Nat) (r:Rec) (e:Ending) (w':World):Prop:=∃ vt,e=.returned (recV r vt)∧Ok .i32 21 w B vt r.to∧Below w.heap.size w w'
set_option maxRecDepth 8000 in
set_option maxHeartbeats 4000000 in
theorem of_any {t l:Value} {rs:List Rec} {f:Int} {B:Nat} (c:Int) (w:World) (hS:SpP w B t l (Cn.famOf f rs)) (h6:(Cn.check6 rs).2=0) (hf:f≠10∧f≠0) (hc:Rune c):Calls Tryz.prog 57 #[.agg #[t,l],.int .i32 c] w (OfP w B (Cn.rget rs f c)):=by
 obtain ⟨hc1,hc2⟩:=hc
 obtain ⟨⟨a,m,e,hp,hs,t4⟩,ps,hR,hps⟩:=hS
 subst e
 have hv:=(Cn.places_get h6 hf hp hs).2 c
 obtain ⟨k,hk⟩:∃ k:Nat,Tri.get 0 m c=(k:Int):=⟨(Tri.get 0 m c).toNat,by omega⟩
 have hlen:ps.length=(Cn.famOf f rs).length+1:=by have:=congrArg List.length hps; simpa using this
 have hkl:k<ps.length:=by omega
 have hl4:(Cn.famOf f rs).length≤4096:=Nat.le_trans (List.length_filter_le _ _) (Cn.check6_iff.1 h6).1
 have hk1:ps[k].1=Cn.rget rs f c:=by
  have h2:=hv.2.2
  rw [hk,Int.toNat_natCast,← hps] at h2
  have h3:(ps.map (·.1)).getD k Cn.none=ps[k].1:=by simp [List.getD,hkl]
  rw [← h3]; exact h2
 obtain ⟨g,cap,hle⟩:∃ g cap,l=.slice (some ⟨g,0,none⟩) ps.length cap:=by
  rcases hR.1.2 with ⟨_,h0⟩ | ⟨g,cap,cur,e,_⟩
  ·omega
  ·exact ⟨g,cap,e⟩
 subst hle
 obtain ⟨r,ao,ln,cp,hq,x0,x1,x2,x3,x4,x5,x6,x7,_⟩:=hR.cells8 hkl
 have hRC:RecC w g (k * 8) r ao ln cp:=⟨x0,x1,x2,x3,x4,x5,x6,x7⟩
 have hrr:r=Cn.rget rs f c:=by rw [← hk1,hq]
 rw [← hrr]
 have hok:Ok .i32 21 w B (.slice ao ln cp) r.to:=by have:=hR.2 ps[k] (List.getElem_mem hkl); rw [hq] at this; exact this
 have HOK:=Hd hok
 have hgl:g<w.heap.size:=lt_of_cell? x0
 have KG:Hid (∀ W,Below w.heap.size w W→Calls Tryz.prog 42 #[.pointer (some a),.int .i64 c] W (IntDraws W (k:Int))):=fun W hW=>by
  have:=get4 _ m 0 c W ⟨B,t4.below hW⟩ ⟨by omega,by omega⟩
  rw [hk] at this; exact this
 have hpl:ps.length≤5000:=by omega
 clear hv hk hlen hk1 hps hR hq x0 x1 x2 x3 x4 x5 x6 x7 hok hp hs t4 h6 hrr hl4
 generalize ps.length=pl at *
 obtain ⟨W0,hW0⟩:∃ W0,(w.alloc (.cells #[.pointer (some a),.slice (some ⟨g,0,none⟩) pl cap] 77)).alloc (.cells #[.int .i64 0,.int .i64 0,.int .i64 0,.int .i64 0,.slice none 0 0,.string ⟨#[]⟩,.string ⟨#[]⟩,.float .f64 0] 59)=W0:=⟨_,rfl⟩
 have hs1:=alloc_size9 w (.cells #[.pointer (some a),.slice (some ⟨g,0,none⟩) pl cap] 77)
 have hb1:=(Below.refl w.heap.size w).alloc (Nat.le_refl _) (.cells #[.pointer (some a),.slice (some ⟨g,0,none⟩) pl cap] 77)
 have hn1:=heap_alloc_new w (.cells #[.pointer (some a),.slice (some ⟨g,0,none⟩) pl cap] 77)
 have hb0:Below w.heap.size w W0:=by
  rw [← hW0]; exact hb1.alloc (by omega) _
 have hz0:W0.heap[w.heap.size+1]?=some (.cells #[.int .i64 0,.int .i64 0,.int .i64 0,.int .i64 0,.slice none 0 0,.string ⟨#[]⟩,.string ⟨#[]⟩,.float .f64 0] 59 (0,0)):=by
  rw [← hW0,← hs1]; exact heap_alloc_new _ _
 have hy0:W0.heap[w.heap.size]?=some (.cells #[.pointer (some a),.slice (some ⟨g,0,none⟩) pl cap] 77 (0,0)):=by
  rw [← hW0,heap_alloc_old _ _ (by omega)]; exact hn1
 have hs0:W0.heap.size=w.heap.size+2:=by rw [← hW0,alloc_size9]; omega
 have HS:Hid (∀ W,Below W0.heap.size W0 W→(W.cell? ⟨w.heap.size,0,none⟩=some (.pointer (some a))∧W.cell? ⟨w.heap.size,1,none⟩=some (.slice (some ⟨g,0,none⟩) pl cap))∧RecC W g (k * 8) r ao ln cp):=fun W hW=>by
  have e1:=hW.block w.heap.size (by omega)
  rw [hy0] at e1
  exact ⟨⟨cell_of (j:=0) e1 (by show 0<2; omega),cell_of (j:=1) e1 (by show 1<2; omega)⟩,hRC.keep (by rw [hW.block g (by omega),hb0.block g hgl])⟩
 have HZ:Hid (∀ W,Below W0.heap.size W0 W→W.heap[w.heap.size+1]?=some (.cells #[.int .i64 0,.int .i64 0,.int .i64 0,.int .i64 0,.slice none 0 0,.string ⟨#[]⟩,.string ⟨#[]⟩,.float .f64 0] 59 (0,0))):=fun W hW=>by
  rw [hW.block _ (by omega)]; exact hz0
 have HB0:=Hd hb0
 have HGL:=Hd hgl
 clear hb1 hn1 hz0 hy0 hRC hb0
 go_enter Tryz.func57,Tryz.ntmps57
 go_wp2
 refine wp_region_held_drew (S:=fun w'=>((w'.cell? ⟨w.heap.size,0,none⟩=some (.pointer (some a))∧w'.cell? ⟨w.heap.size,1,none⟩=some (.slice (some ⟨g,0,none⟩) pl cap))∧RecC w' g (k * 8) r ao ln cp)) (by kernel_rfl) ((Uh HS) _ (drewB ⟨1,rfl⟩)) (fun hHeld=>?_)
 refine tk9 0 (.pointer (some ⟨w.heap.size,1,none⟩)) ?_ (hy:=by (intro w hSw; obtain ⟨⟨s0,s1⟩,⟨x0,x1,x2,x3,x4,x5,x6,x7⟩⟩:=hSw; go_simp))
 refine tk9 1 (.slice (some ⟨g,0,none⟩) pl cap) ?_ (hy:=by (intro w hSw; obtain ⟨⟨s0,s1⟩,⟨x0,x1,x2,x3,x4,x5,x6,x7⟩⟩:=hSw; go_simp))
 refine tk9 2 (.pointer (some ⟨w.heap.size,0,none⟩)) ?_ (hy:=by (intro w hSw; obtain ⟨⟨s0,s1⟩,⟨x0,x1,x2,x3,x4,x5,x6,x7⟩⟩:=hSw; go_simp))
 refine tk9 3 (.pointer (some a)) ?_ (hy:=by (intro w hSw; obtain ⟨⟨s0,s1⟩,⟨x0,x1,x2,x3,x4,x5,x6,x7⟩⟩:=hSw; go_simp))
 refine tk9 4 (.int .i32 c) ?_ (hy:=by (intro w hSw; obtain ⟨⟨s0,s1⟩,⟨x0,x1,x2,x3,x4,x5,x6,x7⟩⟩:=hSw; go_simp))
 refine tk9 5 (.int .i64 c) ?_ (hy:=by (intro w hSw; obtain ⟨⟨s0,s1⟩,⟨x0,x1,x2,x3,x4,x5,x6,x7⟩⟩:=hSw; go_simp; rw [IntKind.wrap_i64]; omega))
 refine rd9 6 fun K hK=>?_
 go_simp
 refine ((Uh KG) _ (bthen (Uh HB0) (drewB ⟨1,rfl⟩))).mono ?_
 rintro e2 w2 ⟨rfl,mm,rfl⟩
 have HB2:=Hd (bthen (drewB ⟨1,rfl⟩) (drewB ⟨mm,rfl⟩):Below W0.heap.size W0 _)
 refine hK.out _ _ ?_ (fun hHeld=>?_)
 ·exact (Uh HS) _ (Uh HB2)
 clear hK K
 try simp only [Act.put,sa9,sb9,sc9]
 refine tk9 7 (.pointer (some ⟨g,k * 8,none⟩)) ?_ (hy:=by (intro w hSw; obtain ⟨⟨s0,s1⟩,⟨x0,x1,x2,x3,x4,x5,x6,x7⟩⟩:=hSw; go_simp))
 refine tk9 8 (recV r (.slice ao ln cp)) ?_ (hy:=by (intro w hSw; obtain ⟨⟨s0,s1⟩,⟨x0,x1,x2,x3,x4,x5,x6,x7⟩⟩:=hSw; first | exact loadR x0 x1 x2 x3 x4 x5 x6 x7 | (unfold recV; go_simp)))
 refine rd9 9 fun K hK=>?_
 generalize ((W0.drewN 1).drewN mm)=V2 at *
 have hz9:=(Uh HZ) _ (Uh HB2)
 have h2S:=(Uh HS) _ (Uh HB2)
 have s9:=storeR (off:=0) hz9 (by show 0+8≤8; omega) r ao ln cp
 have hV:=putR_at (off:=0) hz9 (r,.slice ao ln cp)
 have hfar:∀ b,b≠w.heap.size+1→(putR V2 (w.heap.size+1) 0 (r,.slice ao ln cp)).heap[b]?=V2.heap[b]?:=fun b hb=>putR_far _ hb
 have hbl:Below w.heap.size w (putR V2 (w.heap.size+1) 0 (r,.slice ao ln cp)):=putR_below (bthen (Uh HB0) (Uh HB2)) (by omega) _
 generalize putR V2 (w.heap.size+1) 0 (r,.slice ao ln cp)=V3 at *
 refine step_store7 rfl 59 (.tmp 4) (.tmp 13) rfl (.pointer (some ⟨w.heap.size+1,0,none⟩)) (recV r (.slice ao ln cp)) rfl rfl s9 ?_
 refine hK.out _ _ ?_ (fun hHeld=>?_)
 ·obtain ⟨⟨q0,q1⟩,q2⟩:=h2S
  have hc:∀ j,V3.cell? ⟨w.heap.size,j,none⟩=V2.cell? ⟨w.heap.size,j,none⟩:=fun j=>by simp only [World.cell?,hfar w.heap.size (by omega)]
  exact ⟨⟨by rw [hc]; exact q0,by rw [hc]; exact q1⟩,q2.keep (hfar g (by have:=Uh HGL; omega))⟩
 clear hK K
 try simp only [Act.put]
 refine wpAnyH_done (by kernel_rfl) ?_ _
 have z:RecC V3 (w.heap.size+1) 0 r ao ln cp:=by
  have hcc:∀ j,j<8→V3.cell? ⟨w.heap.size+1,j,none⟩=(rcell (r,.slice ao ln cp))[j]?:=fun j hj=>by
   have e:=set8_at #[.int .i64 0,.int .i64 0,.int .i64 0,.int .i64 0,.slice none 0 0,.string ⟨#[]⟩,.string ⟨#[]⟩,.float .f64 0] 0 (r,.slice ao ln cp) (by show 0+8≤8; omega) j
   rw [if_pos (by omega),Nat.sub_zero] at e
   rw [← e]
   simp [World.cell?,hV]
  exact ⟨hcc 0 (by omega),hcc 1 (by omega),hcc 2 (by omega),hcc 3 (by omega),hcc 4 (by omega),hcc 5 (by omega),hcc 6 (by omega),hcc 7 (by omega)⟩
 obtain ⟨z0,z1,z2,z3,z4,z5,z6,z7⟩:=z
 have hfin:OfP w B r (.returned (recV r (.slice ao ln cp))) V3:=⟨_,rfl,Uh HOK,hbl⟩
 clear hV hfar hbl hz9 s9 h2S hHeld HZ HS
 go_wp2
 refine bodyPost_ret (v:=recV r (.slice ao ln cp)) (by simp [results,Tryz.results57,go_sem,z0,z1,z2,z3,z4,z5,z6,z7,recV]) rfl hfin
namespace Cn
def within (c a b:Int):Bool:=decide (a≤c∧c≤b)
end Cn
open Ti
namespace Cn
theorem rget_cases {rs} (h6:(check6 rs).2=0) {f} (hf:f≠10∧f≠0) c:(hit rs f c=Option.none∧rget rs f c=none)∨(hit rs f c=some (rget rs f c)∧rget rs f c∈rs∧fam (rget rs f c).kind=f∧speaks (rget rs f c) c=true∧right (rget rs f c)=0):=by
 unfold rget
 cases he:hit rs f c with
 | none=>exact .inl ⟨rfl,rfl⟩
 | some r =>
  obtain ⟨g1,g2,g3⟩:=(hit_iff h6 hf r).1 he
  exact .inr ⟨rfl,g1,g2,g3,(check6_iff.1 h6).2.1 r g1⟩
end Cn
theorem store32 {W a u} (h:W.cell? a=some u) (hf:W.frozen? a=false) y:(Instr.storeAt 21 (.pointer (some a)) (.int .i32 y)).run Tryz.prog W=.ok () (W.setCell a (.int .i32 y)):=by
 simp [Instr.storeAt,go_sem,h,hf]
theorem Ok.setAt9 {K e w B g n cap} {zs} (h:Ok K e w B (.slice (some ⟨g,0,none⟩) n cap) zs) k z (hz:Fit K [z]) :
  Ok K e (w.setCell ⟨g,k,none⟩ (.int K z)) B (.slice (some ⟨g,0,none⟩) n cap) (zs.set k z)∧w.frozen? ⟨g,k,none⟩=false:=by
 have hrow:=h.row
 rcases hrow.2 with ⟨h0,_⟩ | ⟨g',cap',cur,hv,hb,hh,hn,hcap,hsz,htake⟩
 ·cases h0
 ·simp only [Value.slice.injEq,Option.some.injEq,Addr.mk.injEq] at hv
  obtain ⟨⟨rfl,_⟩,hnn,rfl⟩:=hv
  refine ⟨Ok.of (n:=zs.length) (us:=(zs.set k z).map (Value.int K)) ?_ (by simpa using h.sk.len) ⟨by simp,.inr ⟨g,cap,cur.setIfInBounds k (.int K z),by rw [hnn],hb,set_block hh _,hn,hcap,by simpa using hsz,?_⟩⟩ (by simp) rfl,?_⟩
  ·intro y hy
   rcases List.mem_or_eq_of_mem_set hy with hy | hy
   ·exact h.1 y hy
   ·subst hy; exact hz _ (by simp)
  ·rw [Nat.mul_one] at htake ⊢
   rw [Array.toList_setIfInBounds,List.take_set,htake,← List.map_set]
  ·simp [World.frozen?,hh]
open Ti
namespace Cn
end Cn
theorem lt_fit:∀ r∈Cn.little,RecFit r:=by
 intro p hp
 simp only [Cn.little,List.mem_cons,List.mem_nil_iff,or_false] at hp
 rcases hp with rfl | rfl | rfl | rfl | rfl | rfl | rfl | rfl | rfl | rfl <;> exact ⟨by unfold I64; decide,by unfold I64; decide,by unfold I64; decide,by unfold I64; decide,by decide,by decide⟩
theorem field_nm k lo hi n ao ln cp a b y w:(Instr.field 59 (.agg #[.int .i64 k,.int .i64 lo,.int .i64 hi,.int .i64 n,.slice ao ln cp,.string a,.string b,.float .f64 y]) 5).run Tryz.prog w=.ok (.string a) w:=by
 kernel_rfl
end Go.Proofs.YtihhhjodonkkcaaGreatDoor
