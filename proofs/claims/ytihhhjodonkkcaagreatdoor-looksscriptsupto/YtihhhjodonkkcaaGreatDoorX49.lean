/- Bulk RecOpen -/
import Derived.Test.YtihhhjodonkkcaaGreatDoorRows
import Derived.Test.YtihhhjodonkkcaaGreatDoorX0
import Derived.Deep.Matrix
import Derived.OpenShut
namespace Go.Proofs.YtihhhjodonkkcaaGreatDoor
theorem bulk_pos {H:Type} (d:DataW H):1≤Rows.uptoBulk d:=by
 cases d with
 | lit l=>cases l <;> simp [Rows.uptoBulk]
 | nil=>simp [Rows.uptoBulk]
 | ptr d=>simp [Rows.uptoBulk]
 | slice a b=>simp [Rows.uptoBulk]
 | agg a=>simp [Rows.uptoBulk]
 | iface t d=>simp [Rows.uptoBulk]
 | map e=>simp [Rows.uptoBulk]
 | held h=>simp [Rows.uptoBulk]
theorem bulk_len {H:Type} (l:List (DataW H)):l.length≤Rows.uptoBulkAll l:=by
 induction l with
 | nil=>simp [Rows.uptoBulkAll]
 | cons x r ih =>
  have:=bulk_pos x
  simp only [Rows.uptoBulkAll,List.length_cons]
  omega
theorem bulk_slice {H:Type} (a b:List (DataW H)):a.length≤Rows.uptoBulk (.slice a b):=by
 have:=bulk_len a
 simp only [Rows.uptoBulk]
 omega
theorem bulk_string {H:Type} (l:List UInt8):l.length≤Rows.uptoBulk (DataW.lit (H:=H) (.string l)):=by
 simp [Rows.uptoBulk]
theorem bulk_le {H:Type} {l:List (DataW H)} (hk:Rows.uptoSmall H l=true):Rows.uptoBulkAll l≤1048576:=of_decide_eq_true hk
open Go.RowKit Go.ChangeShapes Go.WideShapes Go.Deep
theorem bulkAll_lits {H:Type} (k:IntKind) (zs:List Int):Rows.uptoBulkAll (lits (H:=H) k zs)=zs.length:=by
 induction zs with
 | nil=>rfl
 | cons z zs ih =>
  have e:lits (H:=H) k (z :: zs)=.lit (.int k z) :: lits k zs:=rfl
  rw [e,Rows.uptoBulkAll,ih]
  simp [Rows.uptoBulk]; omega
theorem bulk_mem {H:Type} {d:DataW H}:∀ {l:List (DataW H)},d∈l→Rows.uptoBulk d≤Rows.uptoBulkAll l
 | [],h=>by cases h
 | x :: l,h=>by
  rw [Rows.uptoBulkAll]
  rcases List.mem_cons.1 h with rfl | h
  ·omega
  ·have:=bulk_mem h
   omega
section
variable {H:Type} {enc:TypeId × Value→H} {P:Program} {W:World} {base:Nat} {held:Bool}
theorem trod_float {k:FloatKind} {t:TypeId} {spare:Nat→Bool} {fuel:Nat} {cs:List Value} {x:DataW H × List MemPlace} (ht:P.underlying t=some (.float k)) (h:DataW.trod enc P W base spare held fuel t cs=some x):∃ b,cs=[.float k b]∧(Lit.float k b).wf=true:=by
 cases fuel with
 | zero=>simp [DataW.trod] at h
 | succ n =>
  unfold DataW.trod at h
  rw [ht] at h
  split at h <;> simp_all
theorem openInts {t q:TypeId} {k:IntKind} {fuel:Nat} {cs:List Value} {x:DataW H × List MemPlace} (ht:P.underlying t=some (.slice q)) (hq:P.underlying q=some (.int k)) (cq:P.cellsOf q=1)
  (hf:DataW.trod enc P W base (fun _=>true) held fuel t cs=some x) (hb:Rows.uptoBulk x.1≤1048576):∃ v zs,cs=[v]∧Sk k W v zs∧zs.length≤1048576:=by
 rcases open_ints ht hq cq hf with ⟨hcs,_⟩ | ⟨x',l,c,zs,hcs,_,hl,hm,hz,hx,hcell,hwz⟩
 ·exact ⟨_,[],hcs,Sk.nil _ _,by simp⟩
 ·simp only [if_true] at hz
  have hx1:x.1=_:=congrArg Prod.fst hx
  have hw:l≤Rows.uptoBulk x.1:=by
   rw [hx1,Rows.uptoBulk,bulkAll_lits,bulkAll_lits,List.length_take,List.length_drop]
   omega
  refine ⟨_,zs.take l,hcs,sk_of_row (.inr ⟨_,rfl,hl,hm,hz,hcell,hwz⟩) (by omega),?_⟩
  rw [List.length_take]; omega
end
section
variable {H:Type} {enc:TypeId × Value→H} {W:World} {base:Nat} {held:Bool}
theorem wf_i64 {n:Int} (h:(Lit.int .i64 n).wf=true):I64 n:=by
 have:IntKind.i64.min≤n∧n≤IntKind.i64.max:=by simpa [Lit.wf] using h
 simpa [I64,IntKind.min,IntKind.max,IntKind.signed,IntKind.bits] using this
theorem wf_f64 {b:Nat} (h:(Lit.float .f64 b).wf=true):b<18446744073709551616:=by
 simpa [Lit.wf] using h
set_option maxRecDepth 20000 in
set_option maxHeartbeats 2000000 in
theorem rec_of {n:Nat} {cs:List Value} {x:DataW H × List MemPlace} (h:DataW.trod enc Tryz.prog W base (fun _=>true) held n 59 cs=some x) (hb:Rows.uptoBulk x.1≤1048576):∃ p:Rec × Value,cs=rcell p∧RecFit p.1∧Sk .i32 W p.2 p.1.to:=by
 obtain ⟨xs,k,hk,hxy,hcl,hxl,hf⟩:=DataW.trod_struct Tryz.underlying59 h
 have c8:Tryz.prog.cellsOf 59=8:=by kernel_rfl
 have c1:Tryz.prog.cellsOf 3=1:=by kernel_rfl
 have c2:Tryz.prog.cellsOf 23=1:=by kernel_rfl
 have c3:Tryz.prog.cellsOf 9=1:=by kernel_rfl
 have c4:Tryz.prog.cellsOf 57=1:=by kernel_rfl
 have c5:Tryz.prog.cellsOf 21=1:=by kernel_rfl
 rw [c8] at hcl
 match xs,hxl,cs,hcl with
 | [y0,y1,y2,y3,y4,y5,y6,y7],_,[v0,v1,v2,v3,v4,v5,v6,v7],_ =>
  have g0:=hf 0 _ rfl
  have g1:=hf 1 _ rfl
  have g2:=hf 2 _ rfl
  have g3:=hf 3 _ rfl
  have g4:=hf 4 _ rfl
  have g5:=hf 5 _ rfl
  have g6:=hf 6 _ rfl
  have g7:=hf 7 _ rfl
  simp [c1,c2,c3,c4] at g0 g1 g2 g3 g4 g5 g6 g7
  obtain ⟨n0,e0,_,w0⟩:=DataW.trod_int Tryz.underlying3 g0
  obtain ⟨n1,e1,_,w1⟩:=DataW.trod_int Tryz.underlying3 g1
  obtain ⟨n2,e2,_,w2⟩:=DataW.trod_int Tryz.underlying3 g2
  obtain ⟨n3,e3,_,w3⟩:=DataW.trod_int Tryz.underlying3 g3
  have hb4:Rows.uptoBulk y4.1≤1048576:=by
   rw [hxy] at hb
   have:=bulk_mem (d:=y4.1) (l:=[y0,y1,y2,y3,y4,y5,y6,y7].map (·.1)) (by simp)
   simp only [Rows.uptoBulk] at hb
   omega
  obtain ⟨v,zs,e4,s4,l4⟩:=openInts Tryz.underlying23 Tryz.underlying21 c5 g4 hb4
  obtain ⟨s5,e5,_⟩:=DataW.trod_string Tryz.underlying9 g5
  obtain ⟨s6,e6,_⟩:=DataW.trod_string Tryz.underlying9 g6
  obtain ⟨b7,e7,w7⟩:=trod_float Tryz.underlying57 g7
  simp only [List.cons.injEq,and_true] at e0 e1 e2 e3 e4 e5 e6 e7
  exact ⟨(⟨n0,n1,n2,n3,zs,s5,s6,b7⟩,v),by rw [e0,e1,e2,e3,e4,e5,e6,e7]; rfl,⟨wf_i64 w0,wf_i64 w1,wf_i64 w2,wf_i64 w3,by show zs.length≤_; omega,wf_f64 w7⟩,s4⟩
theorem recs_open {a:Option Addr} {len cap:Nat} {d:DataW H} {p:List MemPlace} (h:DataW.Trod enc Tryz.prog W base (fun _=>true) held 22 (.slice a len cap) d p) (hb:Rows.uptoBulk d≤1048576):∃ rs,Rcs W (.slice a len cap) rs:=by
 obtain ⟨fuel,hf⟩:=h
 have c8:Tryz.prog.cellsOf 59=8:=by kernel_rfl
 rcases open_slice Tryz.underlying22 hf with ⟨hcs,_⟩ | ⟨x,l,c,m,n,D,Pl,hcs,_,hl,hm,hmm,hx,hel⟩
 ·simp [Value.cells] at hcs
  obtain ⟨rfl,rfl,rfl⟩:=hcs
  exact ⟨[],by simp,fun r hr=>(by cases hr),.inl ⟨rfl,none,0,rfl,by omega⟩⟩
 ·simp [Value.cells] at hcs
  obtain ⟨rfl,rfl,rfl⟩:=hcs
  simp only [if_true] at hmm
  subst hmm
  simp only [Prod.mk.injEq] at hx
  have hlen:len≤1048576:=by
   have:=bulk_slice ((List.range len).map D) ((List.range (m - len)).map fun j=>D (len+j))
   rw [← hx.1] at this
   simp only [List.length_map,List.length_range] at this
   omega
  have hbi:∀ i,i<len→Rows.uptoBulk (D i)≤1048576:=fun i hi=>by
   have h1:=bulk_mem (d:=D i) (l:=(List.range len).map D) (List.mem_map.2 ⟨i,List.mem_range.2 hi,rfl⟩)
   rw [hx.1] at hb
   simp only [Rows.uptoBulk] at hb
   omega
  rw [c8] at hel
  have inh:Inhabited (Rec × Value):=⟨(Cn.none,undef)⟩
  obtain ⟨R,hR⟩:=choose_lt (α:=Rec × Value) (p:=fun i r=>W.cells? base (x.add (i * 8)) 8=some (rcell r)∧RecFit r.1∧Sk .i32 W r.2 r.1.to) (n:=len) (fun i hi=>by
   obtain ⟨cs',h1,h2⟩:=hel i (by omega)
   obtain ⟨r,rfl,f⟩:=rec_of h2 (hbi i hi)
   exact ⟨r,h1,f⟩)
  have hrl:((List.range len).map fun i=>(R i).1).length=len:=by simp
  refine ⟨(List.range len).map fun i=>(R i).1,by rw [hrl]; omega,fun r hr=>?_,?_⟩
  ·obtain ⟨i,hi,rfl⟩:=List.mem_map.1 hr
   exact (hR i (List.mem_range.1 hi)).2.1
  ·unfold maxLen at hm
   rcases Nat.eq_zero_or_pos len with h0 | h0
   ·subst h0
    exact .inl ⟨rfl,some x,m,rfl,by omega⟩
   ·have hcell:∀ i,i<len→∀ j,j<8→W.cell? (x.add (i * 8+j))=(rcell (R i))[j]?:=by
     intro i hi j hj
     obtain ⟨_,hln,hcc⟩:=World.cells?_some (hR i hi).1
     have:=hcc j (by omega)
     rw [add_add] at this
     exact this
    have hx0:=hcell 0 h0 0 (by omega)
    have hx1:x.add (0 * 8+0)=x:=by simp [Addr.add]
    rw [hx1] at hx0
    have hp:=plain_of_cell (v:=.int .i64 (R 0).1.kind) hx0
    generalize x.block=b at *
    generalize x.off=o at *
    subst hp
    refine .inr ⟨b,o,m,by rw [hrl],by rw [hrl]; omega,by omega,fun i hi=>?_⟩
    rw [hrl] at hi
    have hd:((List.range len).map fun i=>(R i).1).getD i Cn.none=(R i).1:=by simp [List.getD,hi]
    rw [hd]
    have hk:∀ j,j<8→W.cell? ⟨b,o+i * 8+j,none⟩=(rcell (R i))[j]?:=fun j hj=>by
     have:=hcell i hi j hj
     rw [addr_add] at this
     rw [show o+i * 8+j=o+(i * 8+j) by omega]
     exact this
    exact ⟨hk 0 (by omega),hk 1 (by omega),hk 2 (by omega),hk 3 (by omega),⟨_,hk 4 (by omega),(hR i hi).2.2⟩,hk 5 (by omega),hk 6 (by omega),hk 7 (by omega)⟩
theorem runes_open {t:TypeId} {a:Option Addr} {len cap:Nat} {d:DataW H} {p:List MemPlace} (ht:Tryz.prog.underlying t=some (.slice 21)) (h:DataW.Trod enc Tryz.prog W base (fun _=>true) held t (.slice a len cap) d p) (hb:Rows.uptoBulk d≤1048576):∃ zs,Sk .i32 W (.slice a len cap) zs∧zs.length≤1048576:=by
 obtain ⟨fuel,hf⟩:=h
 obtain ⟨v,zs,e,s,l⟩:=openInts ht Tryz.underlying21 (by kernel_rfl) hf hb
 simp [Value.cells] at e
 subst e
 exact ⟨zs,s,l⟩
end
end Go.Proofs.YtihhhjodonkkcaaGreatDoor
