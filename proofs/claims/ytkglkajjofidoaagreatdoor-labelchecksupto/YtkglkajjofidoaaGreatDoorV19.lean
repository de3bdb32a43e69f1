/- Rn7 Ro7 Rp7 Rq7 Rr7 -/
import Derived.Test.YtkglkajjofidoaaGreatDoorV2
import Derived.Deep.AppendLies
import Derived.Laws.AppendOwnNone
set_option maxHeartbeats 8000000
set_option maxRecDepth 8000
namespace Go.Proofs.YtkglkajjofidoaaGreatDoor
open Go.Proofs.Tryz
open Go.RowKit
theorem x1I {w w1:World} (h:Bw w w1) (r:Option Nat):w.grownBy w1 r:=⟨h.os,h.tape,h.output,h.size,fun k hk _=>h.block k hk⟩
theorem x1w {w w1 w2:World} {r r':Option Nat} (h:w.grownBy w1 r) (k:w1.grownBy w2 r') (hr:r'=r\/∃ g,r'=some g/\w.heap.size<=g):w.grownBy w2 r:=by
 refine ⟨k.os.trans h.os,k.tape.trans h.tape,k.output.trans h.output,Nat.le_trans h.size k.size,fun x hx aZ=>?_⟩;rw [k.block x (Nat.lt_of_lt_of_le hx h.size) ?_,h.block x hx aZ];rcases hr with rfl | ⟨g,rfl,hg⟩
 ·exact aZ
 ·intro e;have:x=g:=Option.some.inj e;omega
theorem cell_one_new (w:World) (e:TypeId) (v:Value):∀ j u,[v][j]?=some u->(w.alloc (.cells #[v] e)).cell? ((⟨w.heap.size,0,none⟩:Addr).add j)=some u:=by
 intro j u hj
 match j,hj with
 | 0,hj=>simp at hj; subst hj; simp [World.cell?,World.alloc,Addr.add,-World.alloc_eq]
 | j+1,hj=>simp at hj
theorem x3L {w:World} {bU:Array Oper} {rest:List Oper} {o:Oper} {a:Act} {Q:Exit->Act->World->Prop} (bP:o.guard=none) (s x:Operand)
  (ho:o.op=.call { callee:=.builtin .append,args:=#[s,x],argTypes:=#[23,23] }) (v:Value) (zs:List Int) (hs:a.eval s=.slice none 0 0) (hx:a.eval x=v) (hv:Sk .i32 w v zs) (hl:zs.length<=1000)
  (h:∀ v' w',Ok .i32 21 w' w.heap.size v' zs->Bw w w'->wpList prog bU Q rest (a.put o.dst v') w'):wpList prog bU Q (o :: rest) a w:=by
 obtain ⟨i0,hi,bg,bh,bi⟩:=info_parts Tryz.info21;rcases hv.2.src with ⟨hn,rfl⟩ | ⟨ad,cap,rfl,hsrc⟩
 ·obtain rfl:zs=[]:=(by simpa using hn);exact wpList_append_own_none bP s x 23 ho w.heap.size 21 i0 1 underlying23 hi _ _ _ hs (World.ownsRow_nil _ _ _ _) hx (h _ _ (Ok.nil _ _ _ _) (b0r))
 ·refine wpList_append_own _ bP s x 23 ho w.heap.size 21 i0 (.int .i32 0) 1 4 underlying23 hi bg bh bi rfl (by decide) _ _ _ hs (World.ownsRow_nil _ _ _ _) ad _ cap (zs.map (Value.int .i32)) hx (by simp) hsrc (x4q .i32 zs) (by simp [maxLen]; omega) (by simp; omega) (l0r _) ?_;intro v' w' bH hg _;exact h v' w' (Ok.of hv.1 (by omega) bH (by simp) (by simp)) (x6v (e:=21) (l0r _) (World.ownsRow_nil _ _ _ _) (b0r) hg)
def x5A (w:World) (B:Nat) (vo:Value) (r:List Int × Int) (e:Ending) (w':World):Prop :=
 ∃ v,e=.returned (.tuple #[v,.int .i64 r.2])/\w.grownBy w' vo.ownBlock/\((r.2=0/\Ok .i32 21 w' B v r.1/\(v.ownBlock=vo.ownBlock\/∃ g,v.ownBlock=some g/\w.heap.size<=g))\/(r.2≠0/\v=.slice none 0 0))
def WIn (w:World) (B:Nat) (ab vx vd:Value) (xs ag:List Int) (rs:List Rec) (f:Nat) (aK:List Int × Int) (k:Nat) (vo:Value) (wr:World):Prop :=
 ∃ am,Ok .i32 21 wr B vo am/\am.length<=32/\(xs.drop k).foldl (Cn.stepW rs f ag) (am,0)=aK/\Ok .i32 21 wr w.heap.size vx xs/\Ok .i32 21 wr w.heap.size vd ag /\
  (∀ g,vo.ownBlock=some g->vx.ownBlock≠some g/\vd.ownBlock≠some g)/\w.grownBy wr ab.ownBlock/\(vo.ownBlock=ab.ownBlock\/∃ g,vo.ownBlock=some g/\w.heap.size<=g)
theorem WIn.next {w wr w':World} {B:Nat} {ab vx vd vo v':Value} {xs ag:List Int} {rs:List Rec} {f:Nat} {aK:List Int × Int} {k:Nat} {am:List Int} (hk:k<xs.length)
  (h2:am.length<=32) (h3:(xs.drop k).foldl (Cn.stepW rs f ag) (am,0)=aK) (hx:Ok .i32 21 wr w.heap.size vx xs) (hd:Ok .i32 21 wr w.heap.size vd ag)
  (aZ:∀ g,vo.ownBlock=some g->vx.ownBlock≠some g/\vd.ownBlock≠some g) (hg:w.grownBy wr ab.ownBlock) (hv:vo.ownBlock=ab.ownBlock\/∃ g,vo.ownBlock=some g/\w.heap.size<=g)
  (bN:wr.grownBy w' vo.ownBlock) (hr0:(Cn.walk rs f ag (xs.getD k 0) am).2=0) (bG:Ok .i32 21 w' B v' (Cn.walk rs f ag (xs.getD k 0) am).1) (hv2:v'.ownBlock=vo.ownBlock\/∃ g,v'.ownBlock=some g/\wr.heap.size<=g) :
  WIn w B ab vx vd xs ag rs f aK (k+1) v' w':=by
 have bd:∀ g,g<wr.heap.size->vo.ownBlock≠some g->w'.heap[g]?=wr.heap[g]?:=fun g a b=>bN.block g a (fun e=>b e.symm);refine ⟨(Cn.walk rs f ag (xs.getD k 0) am).1,bG,Cn.x7r _ _ _ _ _ h2,?_,hx.keep (fun g h=>bd g (hx.2.2.lt g h).2 (fun e=>(aZ g e).1 h)),hd.keep (fun g h=>bd g (hd.2.2.lt g h).2 (fun e=>(aZ g e).2 h)),fun g h=>?_,x1w hg bN ?_,?_⟩
 ·rw [<- h3,Cn.x4P hk];congr 1;exact Prod.ext rfl hr0.symm
 ·rcases hv2 with e | ⟨g',e,hg'⟩
  ·exact aZ g (e ▸ h)
  ·rw [e] at h;obtain rfl:=Option.some.inj h;exact ⟨fun e'=>by have:=(hx.2.2.lt g' e').2; omega,fun e'=>by have:=(hd.2.2.lt g' e').2; omega⟩
 ·exact hv
 ·rcases hv2 with e | ⟨g',e,hg'⟩
  ·rcases hv with hv | ⟨g,hv,hvg⟩
   ·exact .inl (e.trans hv)
   ·exact .inr ⟨g,e.trans hv,hvg⟩
  ·exact .inr ⟨g',e,Nat.le_trans hg.size hg'⟩
theorem WIn.start {w wr:World} {B:Nat} {ab vx vd:Value} {xs ag ae:List Int} {rs:List Rec} {f:Nat} (ho:Ok .i32 21 w B ab ae) (hl:ae.length<=32) (hx:Ok .i32 21 wr w.heap.size vx xs) (hd:Ok .i32 21 wr w.heap.size vd ag) (hb:Bw w wr) :
  WIn w B ab vx vd xs ag rs f (xs.foldl (Cn.stepW rs f ag) (ae,0)) 0 ab wr:=by
 refine ⟨ae,ho.below hb,hl,by rw [List.drop_zero],hx,hd,fun g h=>?_,x1I hb _,.inl rfl⟩;have aN:=(ho.2.2.lt g h).2;exact ⟨fun e=>by have:=(hx.2.2.lt g e).1; omega,fun e=>by have:=(hd.2.2.lt g e).1; omega⟩
theorem x9J (w0:World) (vl:Value) (rs:List Rec) (hR:∀ W,Bw w0 W->Rcs W vl rs):∀ (f:Nat) (ac:List Int) (c:Int) (ae:List Int) (w:World) (ba ab:Value),f+ac.length=16->Rune c->Bw w0 w->Sk .i32 w ba ac->Ok .i32 21 w w0.heap.size ab ae->ae.length<=32 ->
  Calls prog 103 #[vl,.int .i32 c,ba,ab] w (x5A w w0.heap.size ab (Cn.walk rs f ac c ae)):=by
 intro f
 induction f with
 | zero =>
  intro ac c ae w ba ab bW hc ah aC ap a8;obtain ⟨i0,hi,bg,bh,bi⟩:=info_parts Tryz.info21;have hB:=ah.size;have K1:=O (x2d vl rs c w (hR w ah) hc);have b0:=(hR w ah).1;obtain ⟨lo,bJ,rfl,_,_⟩:=(hR w ah).shape;obtain ⟨c0,c1⟩:=hc;obtain ⟨wo,bn,rfl,b2,b3⟩:=aC.shape;by_cases hop:Cn.opn rs c=[]
  ·have bm:=Cn.x0L hop 0 ac ae;rw [hop] at K1;have aI:Hid (32<=ae.length->Cn.walk rs 0 ac c ae=([],2)):=fun h=>(by rw [bm,if_pos h]);have aH:Hid (¬ 32<=ae.length->Cn.walk rs 0 ac c ae=(ae++[c],0)):=fun h=>(by rw [bm,if_neg h]);generalize Cn.walk rs 0 ac c ae=aK at *;clear bm;go_enter func103,ntmps103;go_wp2_with fail;refine (V K1).mono ?_;rintro e w1 ⟨vx,rfl,aQ,an⟩;obtain ⟨xo,aS,rfl,_,_⟩:=aQ.sk.shape;have av:=ap.below an;have ar:=av.row;have aD:([]:List Int).length=0:=rfl;rw [aD];have bf:=an.size;clear K1 aQ aC aD;by_cases h32:32<=ae.length
   ·obtain rfl:=V aI h32;clear aI aH;go_wp2_with (at_builtin; refine wpList_append_lies _ rfl (.tmp 21) (.tmp 23) 23 rfl w0.heap.size 21 i0 (.int .i32 0) 1 4 underlying23 hi bg bh bi rfl (by decide) _ _ _ rfl (ar.alloc _) ⟨w1.heap.size,0,none⟩ 1 1 [.int .i32 c] rfl rfl (cell_one_new _ _ _) (x2O .i32 _) (by omega) (by unfold maxLen; omega) (by omega) (by simp; omega) (w1.heap.size+1) (by simp) ?_)
    all_goals try (go_ret2; exact ⟨_,rfl,x1I an _,.inr ⟨by decide,rfl⟩⟩)
    intro g ai w9 ak aU aP _;have aV:w.grownBy w9 ab.ownBlock:=x1w (x1I (an.alloc bf _) _) aU (.inl rfl);have aB:Ok .i32 21 w9 w0.heap.size (.slice (some ⟨g,0,none⟩) (ae.length+1) ai) (ae++[c]):=Ok.of (fun z hz=>by rcases List.mem_append.1 hz with hz | hz; exact ap.1 z hz; (simp at hz; subst hz; simp [IntKind.min,IntKind.max,IntKind.signed,IntKind.bits]; omega)) (by simp; omega) ak (by simp) (by simp)
    have aA:(Value.slice (some ⟨g,0,none⟩) (ae.length+1) ai).ownBlock=ab.ownBlock\/∃ g',(Value.slice (some ⟨g,0,none⟩) (ae.length+1) ai).ownBlock=some g'/\w.heap.size<=g':=by
     rcases aP with h | h
     ·exact .inl h.symm
     ·exact .inr ⟨g,rfl,by omega⟩
    have HF:x5A w w0.heap.size ab ([],2) (.returned (.tuple #[.slice none 0 0,.int .i64 2])) w9:=⟨_,rfl,aV,.inr ⟨by decide,rfl⟩⟩;clear ak aU aP aB aA aV ar av ap an ah;go_wp2;go_ret2;exact HF
   ·obtain rfl:=V aH h32;clear aI aH;go_wp2_with (at_builtin; refine wpList_append_lies _ rfl (.tmp 21) (.tmp 23) 23 rfl w0.heap.size 21 i0 (.int .i32 0) 1 4 underlying23 hi bg bh bi rfl (by decide) _ _ _ rfl (ar.alloc _) ⟨w1.heap.size,0,none⟩ 1 1 [.int .i32 c] rfl rfl (cell_one_new _ _ _) (x2O .i32 _) (by omega) (by unfold maxLen; omega) (by omega) (by simp; omega) (w1.heap.size+1) (by simp) ?_);intro g ai w9 ak aU aP _;have aV:w.grownBy w9 ab.ownBlock:=x1w (x1I (an.alloc bf _) _) aU (.inl rfl);have aB:Ok .i32 21 w9 w0.heap.size (.slice (some ⟨g,0,none⟩) (ae.length+1) ai) (ae++[c]):=Ok.of (fun z hz=>by rcases List.mem_append.1 hz with hz | hz; exact ap.1 z hz; (simp at hz; subst hz; simp [IntKind.min,IntKind.max,IntKind.signed,IntKind.bits]; omega)) (by simp; omega) ak (by simp) (by simp)
    have aA:(Value.slice (some ⟨g,0,none⟩) (ae.length+1) ai).ownBlock=ab.ownBlock\/∃ g',(Value.slice (some ⟨g,0,none⟩) (ae.length+1) ai).ownBlock=some g'/\w.heap.size<=g':=by
     rcases aP with h | h
     ·exact .inl h.symm
     ·exact .inr ⟨g,rfl,by omega⟩
    have HF:x5A w w0.heap.size ab (ae++[c],0) (.returned (.tuple #[.slice (some ⟨g,0,none⟩) (ae.length+1) ai,.int .i64 0])) w9:=⟨_,rfl,aV,.inl ⟨rfl,aB,aA⟩⟩;clear ak aU aP aB aA aV ar av ap an ah;go_wp2;go_ret2;exact HF
  ·have bS:0<(Cn.opn rs c).length:=List.length_pos_iff.2 hop;have aq:Hid (c∈ac->Cn.walk rs 0 ac c ae=([],72)):=fun h=>Cn.x1T hop 0 h ae;have aL:Hid (¬ c∈ac->Cn.walk rs 0 ac c ae=([],73)):=fun h=>Cn.x5w hop h ae;generalize Cn.walk rs 0 ac c ae=aK at *;clear hop;generalize Cn.opn rs c=xs at *;go_enter func103,ntmps103;go_wp2_with fail;refine (V K1).mono ?_;rintro e w1 ⟨vx,rfl,aQ,an⟩;obtain ⟨xo,aS,rfl,hx1,hx2⟩:=aQ.sk.shape;have bf:=an.size;have qx:((xs.length:Int)==0)=false:=b0f (by omega);have aw:=aC.below an
   have a5:Hid (∀ j,j<ac.length->∃ b off,wo=some ⟨b,off,none⟩/\w1.cell? ⟨b,off+j,none⟩=some (.int .i32 (ac.getD j 0))):=by
    intro j hj;obtain ⟨b,off,az,he,_,_,aM⟩:=aw.place (by omega);obtain ⟨rfl,rfl⟩:wo=some ⟨b,off,none⟩/\bn=az:=(by simpa using he);exact ⟨b,off,rfl,aM j hj⟩
   have a6:=O aQ;have bb:=O aw;have aG:=O an;have ax:=O ap;clear K1 aQ aC aw an ap;go_wp2;go_loop [11] (fun iv=>∃ k:Nat,iv=.int .i64 k/\k<=ac.length/\∀ j,j<k->ac.getD j 0≠c) (fun iv=>ac.length - (intOf iv).toNat)
   case atStart=>exact ⟨0,rfl,by omega,fun j hj=>absurd hj (Nat.not_lt_zero _)⟩
   case round =>
    obtain ⟨k,rfl,hk,aJ⟩:=hrel;have ay:=O aJ;clear aJ;by_cases aN:k<ac.length
    ·obtain ⟨b,off,rfl,aj⟩:=V a5 k aN;by_cases heq:ac.getD k 0=c
     ·have aW:c∈ac:=(by rw [<- heq]; simp [List.getD,aN]);obtain rfl:=V aq aW;rw [heq] at aj;have qc:(c==c)=true:=beq_self_eq_true _;have HF:x5A w w0.heap.size ab ([],72) (.returned (.tuple #[.slice none 0 0,.int .i64 72])) w1:=⟨_,rfl,x1I (V aG) _,.inr ⟨by decide,rfl⟩⟩;clear a5 aq ay heq aW a6 bb aG ax;clear aL;go_wp2;go_ret2;exact HF
     ·have qc:(ac.getD k 0==c)=false:=b0f heq
      have bs:Hid (∀ j,j<k+1->ac.getD j 0≠c):=fun j hj=>by
       rcases Nat.lt_or_ge j k with h | h
       ·exact V ay j h
       ·obtain rfl:j=k:=(by omega);exact heq
      clear a5 aq ay heq a6 bb aG ax;clear aL;generalize ac.getD k 0=z at *;go_wp2;go_round
      case rel=>exact ⟨k+1,by go_num,by omega,V bs⟩
      case measure=>simp [intOf]; omega
    ·obtain rfl:k=ac.length:=by omega
     have bv:¬ c∈ac:=fun h=>by
      obtain ⟨j,hj,he⟩:=List.getElem_of_mem h;exact V ay j hj (by simp [List.getD,hj,he])
     obtain rfl:=V aL bv;have h16:ac.length=16:=(by omega);have b4:((ac.length:Int)==16)=true:=(by rw [h16]; rfl);have HF:x5A w w0.heap.size ab ([],73) (.returned (.tuple #[.slice none 0 0,.int .i64 73])) w1:=⟨_,rfl,x1I (V aG) _,.inr ⟨by decide,rfl⟩⟩;clear a5 aq ay aL bv a6 bb aG ax h16;go_wp2;go_ret2;exact HF
 | succ f ih =>
  intro ac c ae w ba ab bW hc ah aC ap a8;obtain ⟨i0,hi,bg,bh,bi⟩:=info_parts Tryz.info21;have hB:=ah.size;have K1:=O (x2d vl rs c w (hR w ah) hc);have b0:=(hR w ah).1;obtain ⟨lo,bJ,rfl,_,_⟩:=(hR w ah).shape;have IH:=O ih;obtain ⟨c0,c1⟩:=hc;obtain ⟨wo,bn,rfl,b2,b3⟩:=aC.shape;by_cases hop:Cn.opn rs c=[]
  ·have bm:=Cn.x0L hop (f+1) ac ae;rw [hop] at K1;have aI:Hid (32<=ae.length->Cn.walk rs (f+1) ac c ae=([],2)):=fun h=>(by rw [bm,if_pos h]);have aH:Hid (¬ 32<=ae.length->Cn.walk rs (f+1) ac c ae=(ae++[c],0)):=fun h=>(by rw [bm,if_neg h]);generalize Cn.walk rs (f+1) ac c ae=aK at *;clear bm;clear IH ih;go_enter func103,ntmps103;go_wp2_with fail;refine (V K1).mono ?_;rintro e w1 ⟨vx,rfl,aQ,an⟩;obtain ⟨xo,aS,rfl,_,_⟩:=aQ.sk.shape;have av:=ap.below an;have ar:=av.row;have aD:([]:List Int).length=0:=rfl;rw [aD];have bf:=an.size;clear K1 aQ aC aD;by_cases h32:32<=ae.length
   ·obtain rfl:=V aI h32;clear aI aH;go_wp2_with (at_builtin; refine wpList_append_lies _ rfl (.tmp 21) (.tmp 23) 23 rfl w0.heap.size 21 i0 (.int .i32 0) 1 4 underlying23 hi bg bh bi rfl (by decide) _ _ _ rfl (ar.alloc _) ⟨w1.heap.size,0,none⟩ 1 1 [.int .i32 c] rfl rfl (cell_one_new _ _ _) (x2O .i32 _) (by omega) (by unfold maxLen; omega) (by omega) (by simp; omega) (w1.heap.size+1) (by simp) ?_)
    all_goals try (go_ret2; exact ⟨_,rfl,x1I an _,.inr ⟨by decide,rfl⟩⟩)
    intro g ai w9 ak aU aP _;have aV:w.grownBy w9 ab.ownBlock:=x1w (x1I (an.alloc bf _) _) aU (.inl rfl);have aB:Ok .i32 21 w9 w0.heap.size (.slice (some ⟨g,0,none⟩) (ae.length+1) ai) (ae++[c]):=Ok.of (fun z hz=>by rcases List.mem_append.1 hz with hz | hz; exact ap.1 z hz; (simp at hz; subst hz; simp [IntKind.min,IntKind.max,IntKind.signed,IntKind.bits]; omega)) (by simp; omega) ak (by simp) (by simp)
    have aA:(Value.slice (some ⟨g,0,none⟩) (ae.length+1) ai).ownBlock=ab.ownBlock\/∃ g',(Value.slice (some ⟨g,0,none⟩) (ae.length+1) ai).ownBlock=some g'/\w.heap.size<=g':=by
     rcases aP with h | h
     ·exact .inl h.symm
     ·exact .inr ⟨g,rfl,by omega⟩
    have HF:x5A w w0.heap.size ab ([],2) (.returned (.tuple #[.slice none 0 0,.int .i64 2])) w9:=⟨_,rfl,aV,.inr ⟨by decide,rfl⟩⟩;clear ak aU aP aB aA aV ar av ap an ah;go_wp2;go_ret2;exact HF
   ·obtain rfl:=V aH h32;clear aI aH;go_wp2_with (at_builtin; refine wpList_append_lies _ rfl (.tmp 21) (.tmp 23) 23 rfl w0.heap.size 21 i0 (.int .i32 0) 1 4 underlying23 hi bg bh bi rfl (by decide) _ _ _ rfl (ar.alloc _) ⟨w1.heap.size,0,none⟩ 1 1 [.int .i32 c] rfl rfl (cell_one_new _ _ _) (x2O .i32 _) (by omega) (by unfold maxLen; omega) (by omega) (by simp; omega) (w1.heap.size+1) (by simp) ?_);intro g ai w9 ak aU aP _;have aV:w.grownBy w9 ab.ownBlock:=x1w (x1I (an.alloc bf _) _) aU (.inl rfl);have aB:Ok .i32 21 w9 w0.heap.size (.slice (some ⟨g,0,none⟩) (ae.length+1) ai) (ae++[c]):=Ok.of (fun z hz=>by rcases List.mem_append.1 hz with hz | hz; exact ap.1 z hz; (simp at hz; subst hz; simp [IntKind.min,IntKind.max,IntKind.signed,IntKind.bits]; omega)) (by simp; omega) ak (by simp) (by simp)
    have aA:(Value.slice (some ⟨g,0,none⟩) (ae.length+1) ai).ownBlock=ab.ownBlock\/∃ g',(Value.slice (some ⟨g,0,none⟩) (ae.length+1) ai).ownBlock=some g'/\w.heap.size<=g':=by
     rcases aP with h | h
     ·exact .inl h.symm
     ·exact .inr ⟨g,rfl,by omega⟩
    have HF:x5A w w0.heap.size ab (ae++[c],0) (.returned (.tuple #[.slice (some ⟨g,0,none⟩) (ae.length+1) ai,.int .i64 0])) w9:=⟨_,rfl,aV,.inl ⟨rfl,aB,aA⟩⟩;clear ak aU aP aB aA aV ar av ap an ah;go_wp2;go_ret2;exact HF
  ·have bS:0<(Cn.opn rs c).length:=List.length_pos_iff.2 hop;have aq:Hid (c∈ac->Cn.walk rs (f+1) ac c ae=([],72)):=fun h=>Cn.x1T hop (f+1) h ae;have bz:Hid (¬ c∈ac->Cn.walk rs (f+1) ac c ae=(Cn.opn rs c).foldl (Cn.stepW rs f (ac++[c])) (ae,0)):=fun h=>Cn.x5x hop f h ae;generalize Cn.walk rs (f+1) ac c ae=aK at *;clear hop;clear ih;generalize Cn.opn rs c=xs at *;go_enter func103,ntmps103;go_wp2_with fail;refine (V K1).mono ?_;rintro e w1 ⟨vx,rfl,aQ,an⟩;obtain ⟨xo,aS,rfl,hx1,hx2⟩:=aQ.sk.shape;have bf:=an.size;have qx:((xs.length:Int)==0)=false:=b0f (by omega);have aw:=aC.below an
   have a5:Hid (∀ j,j<ac.length->∃ b off,wo=some ⟨b,off,none⟩/\w1.cell? ⟨b,off+j,none⟩=some (.int .i32 (ac.getD j 0))):=by
    intro j hj;obtain ⟨b,off,az,he,_,_,aM⟩:=aw.place (by omega);obtain ⟨rfl,rfl⟩:wo=some ⟨b,off,none⟩/\bn=az:=(by simpa using he);exact ⟨b,off,rfl,aM j hj⟩
   have a6:=O aQ;have bb:=O aw;have aG:=O an;have ax:=O ap;clear K1 aQ aC aw an ap;go_wp2;go_loop [11] (fun iv=>∃ k:Nat,iv=.int .i64 k/\k<=ac.length/\∀ j,j<k->ac.getD j 0≠c) (fun iv=>ac.length - (intOf iv).toNat)
   case atStart=>exact ⟨0,rfl,by omega,fun j hj=>absurd hj (Nat.not_lt_zero _)⟩
   case round =>
    obtain ⟨k,rfl,hk,aJ⟩:=hrel;have ay:=O aJ;clear aJ;by_cases aN:k<ac.length
    ·obtain ⟨b,off,rfl,aj⟩:=V a5 k aN;by_cases heq:ac.getD k 0=c
     ·have aW:c∈ac:=(by rw [<- heq]; simp [List.getD,aN]);obtain rfl:=V aq aW;rw [heq] at aj;have qc:(c==c)=true:=beq_self_eq_true _;have HF:x5A w w0.heap.size ab ([],72) (.returned (.tuple #[.slice none 0 0,.int .i64 72])) w1:=⟨_,rfl,x1I (V aG) _,.inr ⟨by decide,rfl⟩⟩;clear a5 aq ay heq aW a6 bb aG ax;clear bz IH;go_wp2;go_ret2;exact HF
     ·have qc:(ac.getD k 0==c)=false:=b0f heq
      have bs:Hid (∀ j,j<k+1->ac.getD j 0≠c):=fun j hj=>by
       rcases Nat.lt_or_ge j k with h | h
       ·exact V ay j h
       ·obtain rfl:j=k:=(by omega);exact heq
      clear a5 aq ay heq a6 bb aG ax;clear bz IH;generalize ac.getD k 0=z at *;go_wp2;go_round
      case rel=>exact ⟨k+1,by go_num,by omega,V bs⟩
      case measure=>simp [intOf]; omega
    ·obtain rfl:k=ac.length:=by omega
     have bv:¬ c∈ac:=fun h=>by
      obtain ⟨j,hj,he⟩:=List.getElem_of_mem h;exact V ay j hj (by simp [List.getD,hj,he])
     obtain rfl:=V bz bv;have b4:((ac.length:Int)==16)=false:=b0f (by omega);clear aq bz ay bv a5;have bM:=(V bb);have bV:ac.length<=1000:=(by omega);have h15:ac.length<=15:=(by omega);go_wp2_with (at_builtin; refine x3L rfl (.tmp 44) (.tmp 45) rfl _ ac rfl rfl bM bV ?_);intro vd2 w2 aE a7;have aY:=aE.row;have b1:=a7.size;clear bM bb;go_wp2_with (at_builtin; refine wpList_append_lies _ rfl (.tmp 47) (.tmp 49) 23 rfl w1.heap.size 21 i0 (.int .i32 0) 1 4 underlying23 hi bg bh bi rfl (by decide) _ _ _ rfl (aY.alloc _) ⟨w2.heap.size,0,none⟩ 1 1 [.int .i32 c] rfl rfl (cell_one_new _ _ _) (x2O .i32 _) (by omega) (by unfold maxLen; omega) (by omega) (by simp; omega) (w2.heap.size+1) (by simp) ?_);intro g bl w3 be bO aP bF;have bu:Fit .i32 (ac++[c]):=Fit.snoc aE.1 (x1X ⟨c0,c1⟩);have bT:Ok .i32 21 w3 w1.heap.size (.slice (some ⟨g,0,none⟩) (ac.length+1) bl) (ac++[c]):=Ok.of bu (by simp; omega) be (by simp) (by simp);have bC:Bw w1 w3:=x7u b1 aY a7 bO;have HW:=O (WIn.start (rs:=rs) (f:=f) (V ax) a8 ((V a6).below bC) (bT.lower bf) (x0b (V aG) bC));have bE:f+(ac++[c]).length=16:=(by simp; omega);have bI:Hid (∀ k,k<xs.length->Rune (xs.getD k 0)):=fun k hk=>x0x (V a6).sk hk;have bD:Hid (∀ wr,w.grownBy wr ab.ownBlock->Bw w0 wr):=fun wr hg=>ah.grown hg hB (fun k hk=>((V ax).2.2.lt k hk).1);clear aE a7 aY be bO aP bF bu bT bC a6 aG ah;have bq:Hid (ac.length+1=(ac++[c]).length):=(by show ac.length+1=_; simp);generalize xs.foldl (Cn.stepW rs f (ac++[c])) (ae,0)=aK at *;generalize ac++[c]=ag at *;go_wp2;go_loopw [3,13,14] (fun vo iv _ wr=>∃ k:Nat,iv=.int .i64 k/\k<=xs.length/\WIn w w0.heap.size ab (.slice xo xs.length aS) (.slice (some ⟨g,0,none⟩) (ac.length+1) bl) xs ag rs f aK k vo wr) (fun _ iv _ _=>xs.length - (intOf iv).toNat)
     case atStart=>exact ⟨0,rfl,by omega,V HW⟩
     case round =>
      obtain ⟨k2,rfl,hk2,am,bB,bA,au,a9,aE,aZ,bo,bw⟩:=hrel;clear HW;by_cases hlt2:k2<xs.length
      ·obtain ⟨b,off,az,he,_,_,aM⟩:=a9.sk.place (by omega);obtain ⟨rfl,rfl⟩:xo=some ⟨b,off,none⟩/\aS=az:=(by simpa using he);have aj:=aM k2 hlt2;have KC:=O (V IH ag (xs.getD k2 0) am wr _ _ bE (V bI k2 hlt2) (V bD wr bo) aE.sk bB bA);have aT:Hid (∀ w' v',wr.grownBy w' u3.ownBlock->(Cn.walk rs f ag (xs.getD k2 0) am).2=0->Ok .i32 21 w' w0.heap.size v' (Cn.walk rs f ag (xs.getD k2 0) am).1->(v'.ownBlock=u3.ownBlock\/∃ g,v'.ownBlock=some g/\wr.heap.size<=g)->WIn w w0.heap.size ab (.slice (some ⟨b,off,none⟩) xs.length aS) (.slice (some ⟨g,0,none⟩) (ac.length+1) bl) xs ag rs f aK (k2+1) v' w'):=fun w' v' a b c d=>WIn.next hlt2 bA au a9 aE aZ bo bw a b c d
       have bk:Hid (∀ w',wr.grownBy w' u3.ownBlock->(Cn.walk rs f ag (xs.getD k2 0) am).2≠0->x5A w w0.heap.size ab aK (.returned (.tuple #[.slice none 0 0,.int .i64 (Cn.walk rs f ag (xs.getD k2 0) am).2])) w'):=fun w' hg hn=>by
        rw [Cn.x4P hlt2,Cn.x1v _ _ _ _ _ hn] at au;rw [<- au];exact ⟨_,rfl,x1w bo hg bw,.inr ⟨hn,rfl⟩⟩
       clear au a9 aE aZ bo bw bB bA aM he IH bI bD bq ax bE;generalize Cn.walk rs f ag (xs.getD k2 0) am=q at *;generalize xs.getD k2 0=z at *;obtain ⟨q1,q2⟩:=q;go_wp2_with fail;refine (V KC).mono ?_;rintro e w5 ⟨v5,rfl,bc,h5⟩;clear KC;rcases h5 with ⟨he0,hok5,hob5⟩ | ⟨hne5,rfl⟩
       ·have HN:=O (V aT w5 v5 bc he0 hok5 hob5);clear aT bk bc hok5 hob5;obtain rfl:q2=0:=he0;go_wp2;go_round
        case rel=>exact ⟨k2+1,by go_num,by omega,V HN⟩
        case measure=>simp [intOf]; omega
       ·have HF:=O (V bk w5 bc hne5);have hq:(q2==0)=false:=b0f hne5;clear aT bk bc hne5;go_wp2;go_ret2;exact V HF
      ·obtain rfl:k2=xs.length:=(by omega);rw [List.drop_length,List.foldl_nil] at au;have HF:Hid (x5A w w0.heap.size ab aK (.returned (.tuple #[u3,.int .i64 0])) wr):=(by rw [<- au]; exact ⟨_,rfl,bo,.inl ⟨rfl,bB,bw⟩⟩);clear au a9 aE aZ bo bw bB bA IH bI bD bq ax bE;go_wp2;go_ret2;exact V HF
theorem x2T:z0R:=by
 intro v rs c w hv hc;have KC:=O (x9J w v rs (fun W h=>hv.below h) 16 [] c [] w (.slice none 0 0) (.slice none 0 0) rfl hc (b0r) (Sk.nil _ _) (Ok.nil _ _ _ _) (by simp));have HE:=O (Cn.y1c rs 16 [] c []);have HB:Hid (∀ w',w.grownBy w' (Value.slice none 0 0).ownBlock->Bw w w'):=fun w' h=>(b0r).grown h (l0r _) (fun k e=>by cases e);rw [show Cn.full rs c=Cn.walk rs 16 [] c [] from rfl];generalize Cn.walk rs 16 [] c []=q at *;obtain ⟨q1,q2⟩:=q;obtain ⟨vo,vcap,rfl,_,_⟩:=hv.shape;clear hv;go_enter func68,ntmps68;go_wp2_with fail;refine (V KC).mono ?_;rintro e w5 ⟨v5,rfl,bc,h5⟩
 have HF:Hid (x5y w (q1,q2) (.returned (.tuple #[v5,.int .i64 q2])) w5):=by
  rcases h5 with ⟨_,bG,_⟩ | ⟨hn,rfl⟩
  ·exact ⟨_,rfl,bG,V HB w5 bc⟩
  ·obtain rfl:q1=[]:=V HE hn;exact ⟨_,rfl,Ok.nil _ _ _ _,V HB w5 bc⟩
 clear KC HE HB bc h5;go_wp2;go_ret2;exact V HF
theorem x8s (c:Int) (w:World) (h:Rune c):Calls prog 64 #[.int .i32 c] w fun e w'=>e=.returned (.bool (Cn.jl c))/\w'=w:=by
 obtain ⟨h1,h2⟩:=h;unfold Cn.jl;by_cases a1:4352<=c
 ·by_cases a2:c<=4370
  ·rw [d0t ⟨a1,a2⟩];go_enter func64,ntmps64;go_wp2;go_ret;exact ⟨rfl,rfl⟩
  ·rw [d0f (fun h=>a2 h.2)];go_enter func64,ntmps64;go_wp2;go_ret;exact ⟨rfl,rfl⟩
 ·rw [d0f (fun h=>a1 h.1)];go_enter func64,ntmps64;go_wp2;go_ret;exact ⟨rfl,rfl⟩
theorem x8u (c:Int) (w:World) (h:Rune c):Calls prog 65 #[.int .i32 c] w fun e w'=>e=.returned (.bool (Cn.jv c))/\w'=w:=by
 obtain ⟨h1,h2⟩:=h;unfold Cn.jv;by_cases a1:4449<=c
 ·by_cases a2:c<=4469
  ·rw [d0t ⟨a1,a2⟩];go_enter func65,ntmps65;go_wp2;go_ret;exact ⟨rfl,rfl⟩
  ·rw [d0f (fun h=>a2 h.2)];go_enter func65,ntmps65;go_wp2;go_ret;exact ⟨rfl,rfl⟩
 ·rw [d0f (fun h=>a1 h.1)];go_enter func65,ntmps65;go_wp2;go_ret;exact ⟨rfl,rfl⟩
theorem x8t (c:Int) (w:World) (h:Rune c):Calls prog 67 #[.int .i32 c] w fun e w'=>e=.returned (.bool (Cn.jt c))/\w'=w:=by
 obtain ⟨h1,h2⟩:=h;unfold Cn.jt;by_cases a1:4520<=c
 ·by_cases a2:c<=4546
  ·rw [d0t ⟨a1,a2⟩];go_enter func67,ntmps67;go_wp2;go_ret;exact ⟨rfl,rfl⟩
  ·rw [d0f (fun h=>a2 h.2)];go_enter func67,ntmps67;go_wp2;go_ret;exact ⟨rfl,rfl⟩
 ·rw [d0f (fun h=>a1 h.1)];go_enter func67,ntmps67;go_wp2;go_ret;exact ⟨rfl,rfl⟩
theorem x3k (r:Rec) (vt:Value) (lo hi:Int) (w:World) (hf:RecFit r) (bZ:I64 lo) (bX:I64 hi):Calls prog 63 #[recV r vt,.int .i64 lo,.int .i64 hi] w (x0d w (Cn.covers r lo hi)):=by
 have hb:∀ o,Bw w (w.alloc o):=fun o=>(b0r).alloc (l0r _) o;have HB:=O hb;clear hb;obtain ⟨l0,l1⟩:=bZ;obtain ⟨g0,g1⟩:=bX;obtain ⟨e0,e1⟩:=hf.lo;obtain ⟨f0,f1⟩:=hf.hi;clear hf;unfold Cn.covers recV;by_cases a1:r.lo<=hi
 ·by_cases a2:lo<=r.hi
  ·rw [d0t ⟨a1,a2⟩];go_enter func63,ntmps63;go_wp2;go_ret;exact ⟨rfl,V HB _⟩
  ·rw [d0f (fun h=>a2 h.2)];go_enter func63,ntmps63;go_wp2;go_ret;exact ⟨rfl,V HB _⟩
 ·rw [d0f (fun h=>a1 h.1)];go_enter func63,ntmps63;go_wp2;go_ret;exact ⟨rfl,V HB _⟩
theorem x8w (v:Value) (rs:List Rec) (c:Int) (w:World) (hv:Rcs w v rs) (hc:Rune c):Calls prog 38 #[v,.int .i32 c] w (x0d w (Cn.plain rs c)):=by
 have K:=O (x0O v rs 1 c w hv (by unfold I64; omega) hc);obtain ⟨c0,c1⟩:=hc;rcases hit_at hv 1 c with ⟨h1,h2⟩ | ⟨k,b,off,cap,h1,hkl,h2,rfl,hl,hm,hr,hf⟩
 ·have bt:Cn.plain rs c=false:=(by unfold Cn.plain; rw [h2]);rw [bt];rw [h1] at K;obtain ⟨ao,cap,rfl,_,_⟩:=hv.shape;clear hv h1 h2 bt;go_enter func38,ntmps38;go_wp2_with fail;refine (V K).mono ?_;rintro e w1 ⟨rfl,hb⟩;have HF:x0d w false (.returned (.bool false)) w1:=⟨rfl,hb⟩;clear K hb;go_wp2;go_ret;exact HF
 ·have bt:Cn.plain rs c=decide ((rs.getD k Cn.none).kind=1):=(by unfold Cn.plain; rw [h2]);rw [bt];rw [h1] at K;have HR:=O hr;have a8:=hv.1;clear hv h1 h2 bt hr hf;generalize rs.getD k Cn.none=r at *;by_cases hk1:r.kind=1
  ·rw [d0t hk1];go_enter func38,ntmps38;go_wp2_with fail;refine (V K).mono ?_;rintro e w1 ⟨rfl,hb⟩;have x0:=((V HR).below hb).kind;rw [hk1] at x0;have HF:x0d w true (.returned (.bool true)) w1:=⟨rfl,hb⟩;clear K hb HR hk1;go_wp2;go_ret;exact HF
  ·rw [d0f hk1];go_enter func38,ntmps38;go_wp2_with fail;refine (V K).mono ?_;rintro e w1 ⟨rfl,hb⟩;have x0:=((V HR).below hb).kind;have q1:(r.kind==1)=false:=b0f hk1;have HF:x0d w false (.returned (.bool false)) w1:=⟨rfl,hb⟩;clear K hb HR hk1;generalize r.kind=kd at *;go_wp2;go_ret;exact HF
def dips (l:List Rec) (x:List Int) (j:Nat):Prop:=Cn.cls l (x.getD j 0)≠0/\Cn.cls l (x.getD j 0)<Cn.cls l (x.getD (j - 1) 0)
theorem x4M (l:List Rec):∀ x:List Int,Cn.fallsA l x=true↔∃ j,1<=j/\j<x.length/\dips l x j
 | []=>by simp [Cn.fallsA]
 | [a]=>by
  simp only [Cn.fallsA];constructor
  ·intro h; cases h
  ·rintro ⟨j,h1,h2,_⟩;simp at h2;omega
 | a :: b :: r=>by
  rw [Cn.fallsA,Bool.or_eq_true,x4M l (b :: r),decide_eq_true_iff];constructor
  ·rintro (h | ⟨j,h1,h2,h3⟩)
   ·exact ⟨1,by omega,by simp,by simpa [dips] using h⟩
   ·refine ⟨j+1,by omega,by simp at h2 ⊢; omega,?_⟩;obtain ⟨j,rfl⟩:∃ i,j=i+1:=⟨j - 1,by omega⟩;simpa [dips] using h3
  ·rintro ⟨j,h1,h2,h3⟩;obtain ⟨j,rfl⟩:∃ i,j=i+1:=⟨j - 1,by omega⟩
   cases j with
   | zero=>exact .inl (by simpa [dips] using h3)
   | succ j=>exact .inr ⟨j+1,by omega,by simp at h2 ⊢; omega,by simpa [dips] using h3⟩
theorem x6B {l:List Rec} {x:List Int} {j:Nat} (h1:1<=j) (h2:j<x.length) (h:dips l x j):Cn.fallsA l x=true:=(x4M l x).2 ⟨j,h1,h2,h⟩
theorem y3C {l:List Rec} {x:List Int} (h:∀ j,1<=j->j<x.length->¬ dips l x j):Cn.fallsA l x=false:=by
 rcases hb:Cn.fallsA l x with _ | _
 ·rfl
 ·obtain ⟨j,a,b,c⟩:=(x4M l x).1 hb;exact absurd c (h j a b)
theorem y9j {w:World} {v:Value} {rs:List Rec} (hv:Rcs w v rs) (c:Int):I64 (Cn.cls rs c):=by
 rcases hit_at hv 2 c with ⟨_,h2⟩ | ⟨k,_,_,_,_,_,h2,_,_,_,_,hf⟩
 ·unfold Cn.cls; rw [h2]; exact ⟨by decide,by decide⟩
 ·unfold Cn.cls; rw [h2]; exact hf.n
def FaIn (w:World) (v u:Value) (rs:List Rec) (xs:List Int) (k:Nat) (wr:World):Prop:=Rcs wr v rs/\Sk .i32 wr u xs/\Below w.heap.size w wr/\∀ j,1<=j->j<k->j<xs.length->¬ dips rs xs j
theorem x3V (v u:Value) (rs:List Rec) (xs:List Int) (w:World) (hv:Rcs w v rs) (hu:Sk .i32 w u xs) (bS:xs.length<=1000000000):Calls prog 69 #[v,u] w (x0d w (Cn.fallsA rs xs)):=by
 have bj:Hid (∀ j,1<=j->j<xs.length->dips rs xs j->Cn.fallsA rs xs=true):=fun j a b c=>x6B a b c;have ay:Hid ((∀ j,1<=j->j<xs.length->¬ dips rs xs j)->Cn.fallsA rs xs=false):=y3C;generalize Cn.fallsA rs xs=aK at *;have HW:Hid (FaIn w v u rs xs 1 w):=⟨hv,hu,b0r,fun j a b _=>by omega⟩;have a8:=hv.1;have bx:Hid (∀ c,I64 (Cn.cls rs c)):=fun c=>y9j hv c;obtain ⟨ao,cap,rfl,_,_⟩:=hv.shape;obtain ⟨uo,aF,rfl,bQ,bR⟩:=hu.shape;clear hv hu;go_enter func69,ntmps69;go_wp2;go_loopw [5,6] (fun iv _ wr=>∃ k:Nat,iv=.int .i64 k/\1<=k/\k<=xs.length+1/\FaIn w (.slice ao rs.length cap) (.slice uo xs.length aF) rs xs k wr) (fun iv _ _=>xs.length+1 - (intOf iv).toNat)
 case atStart=>exact ⟨1,rfl,by omega,by omega,V HW⟩
 case round =>
  obtain ⟨k,rfl,bY,hk1,aX,bp,ah,aJ⟩:=hrel;clear HW;by_cases aN:k<xs.length
  ·obtain ⟨b,off,az,he,_,_,aM⟩:=bp.place (by omega);obtain ⟨rfl,rfl⟩:uo=some ⟨b,off,none⟩/\aF=az:=(by simpa using he);have aj:=aM k aN;have K1:=O (x1F _ rs (xs.getD k 0) wr aX (x0x bp aN));have K2:Hid (∀ w1,Bw wr w1->Calls prog 104 #[.slice ao rs.length cap,.int .i32 (xs.getD (k - 1) 0)] w1 (IntB w1 (Cn.cls rs (xs.getD (k - 1) 0)))):=fun w1 h=>x1F _ rs _ w1 (aX.below h) (x0x bp (by omega));have bK:Hid (∀ w1,Bw wr w1->w1.cell? ⟨b,off+(k - 1),none⟩=some (.int .i32 (xs.getD (k - 1) 0))):=fun w1 h=>(by rw [Below.cell h (x0a (aM (k - 1) (by omega)))]; exact aM (k - 1) (by omega));have aO:Hid (dips rs xs k↔Cn.cls rs (xs.getD k 0)≠0/\Cn.cls rs (xs.getD k 0)<Cn.cls rs (xs.getD (k - 1) 0)):=Iff.rfl
   have bL:Hid (¬ dips rs xs k->∀ w1,Bw wr w1->FaIn w (.slice ao rs.length cap) (.slice (some ⟨b,off,none⟩) xs.length aF) rs xs (k+1) w1):=fun hd w1 h=>⟨aX.below h,bp.below h,x0b ah h,fun j a c d=>by
    rcases Nat.lt_or_ge j k with h | h
    ·exact aJ j a h d
    ·obtain rfl:j=k:=by omega
     exact hd⟩
   have HB:=O ah;clear aM aX bp ah aJ he ay;have HT:=O (V bj k bY aN);clear bj;have i1:=V bx (xs.getD k 0);have i0:=V bx (xs.getD (k - 1) 0);clear bx;generalize Cn.cls rs (xs.getD k 0)=d1 at *;generalize Cn.cls rs (xs.getD (k - 1) 0)=d0 at *;generalize xs.getD k 0=z1 at *;generalize xs.getD (k - 1) 0=z0 at *;obtain ⟨i10,i11⟩:=i1;obtain ⟨i00,i01⟩:=i0;go_wp2_with fail;refine (V K1).mono ?_;rintro e w1 ⟨rfl,an⟩;clear K1 aj;have aj:=V bK w1 an;have K3:=O (V K2 w1 an);have br:Hid (∀ w2,Bw w1 w2->¬ dips rs xs k->FaIn w (.slice ao rs.length cap) (.slice (some ⟨b,off,none⟩) xs.length aF) rs xs (k+1) w2):=fun w2 h hd=>V bL hd w2 (x0b an h);have aG:=O (x0b (V HB) an);clear bK K2 bL an HB;by_cases hz:d1=0
   ·have HX:Hid (FaIn w (.slice ao rs.length cap) (.slice (some ⟨b,off,none⟩) xs.length aF) rs xs (k+1) w1):=V br w1 (b0r) (fun h=>((V aO).1 h).1 hz);subst hz;clear br aO K3 HT aG;go_wp2;go_round
    case rel=>exact ⟨k+1,by go_num,by omega,by omega,V HX⟩
    case measure=>simp [intOf]; omega
   ·have qz:(d1==0)=false:=b0f hz;by_cases hd:d1<d0
    ·obtain rfl:=V HT ((V aO).2 ⟨hz,hd⟩);clear br aO HT;go_wp2_with fail;refine (V K3).mono ?_;rintro e w2 ⟨rfl,a7⟩;have HF:=O (x0b (V aG) a7);clear K3 a7 aG aj;go_wp2;go_ret;exact ⟨rfl,V HF⟩
    ·have HX:=O (fun w2 h=>V br w2 h (fun h=>hd ((V aO).1 h).2));clear br aO HT aG;go_wp2_with fail;refine (V K3).mono ?_;rintro e w2 ⟨rfl,a7⟩;have HY:=O (V HX w2 a7);clear K3 a7 aj HX;go_wp2;go_round
     case rel=>exact ⟨k+1,by go_num,by omega,by omega,V HY⟩
     case measure=>simp [intOf]; omega
  ·obtain rfl:=V ay (fun j a b=>aJ j a (by omega) b);have HF:=O ah;clear ay bj aJ ah bp aX bx;go_wp2;go_ret;exact ⟨rfl,V HF⟩
theorem x0v (c:Int) (w:World) (h:Rune c):Calls prog 100 #[.int .i32 c] w fun e w'=>e=.returned (.bool (Cn.scalar c))/\w'=w:=by
 obtain ⟨h1,h2⟩:=h;by_cases a1:0<=c
 ·by_cases a2:c<=55295
  ·have hs:Cn.scalar c=true:=(by unfold Cn.scalar; simp; omega);rw [hs];clear hs;go_enter func100,ntmps100;go_wp2;go_ret;exact ⟨rfl,rfl⟩
  ·by_cases a3:57344<=c
   ·by_cases a4:c<=1114111
    ·have hs:Cn.scalar c=true:=(by unfold Cn.scalar; simp; omega);rw [hs];clear hs;go_enter func100,ntmps100;go_wp2;go_ret;exact ⟨rfl,rfl⟩
    ·have hs:Cn.scalar c=false:=(by unfold Cn.scalar; simp; omega);rw [hs];clear hs;go_enter func100,ntmps100;go_wp2;go_ret;exact ⟨rfl,rfl⟩
   ·have hs:Cn.scalar c=false:=(by unfold Cn.scalar; simp; omega);rw [hs];clear hs;go_enter func100,ntmps100;go_wp2;go_ret;exact ⟨rfl,rfl⟩
 ·have a3:¬ 57344<=c:=(by omega);have hs:Cn.scalar c=false:=(by unfold Cn.scalar; simp; omega);rw [hs];clear hs;go_enter func100,ntmps100;go_wp2;go_ret;exact ⟨rfl,rfl⟩
theorem y2T {x:List Int} {f:Int->Bool} {k:Nat} (hk:k<x.length) (h:f (x.getD k 0)=false):x.all f=false:=by
 rw [List.all_eq_false];exact ⟨x.getD k 0,by simp [List.getD,hk],by rw [h]; simp⟩
theorem y5W {x:List Int} {f:Int->Bool} (h:∀ j,j<x.length->f (x.getD j 0)=true):x.all f=true:=by
 rw [List.all_eq_true];intro y hy;obtain ⟨j,hj,rfl⟩:=List.getElem_of_mem hy;have:=h j hj;simpa [List.getD,hj] using this
theorem x8y (u:Value) (xs:List Int) (w:World) (hu:Sk .i32 w u xs) (hl:xs.length<=1000000000):Calls prog 138 #[u] w fun e w'=>e=.returned (.bool (xs.all Cn.scalar))/\w'=w:=by
 have bj:Hid (∀ k,k<xs.length->Cn.scalar (xs.getD k 0)=false->xs.all Cn.scalar=false):=fun k=>y2T;have ay:Hid ((∀ j,j<xs.length->Cn.scalar (xs.getD j 0)=true)->xs.all Cn.scalar=true):=y5W;generalize xs.all Cn.scalar=aK at *;have HS:=O hu;obtain ⟨uo,aF,rfl,bQ,bR⟩:=hu.shape;clear hu;go_enter func138,ntmps138;go_wp2;go_loop [3] (fun iv=>∃ k:Nat,iv=.int .i64 k/\k<=xs.length/\∀ j,j<k->Cn.scalar (xs.getD j 0)=true) (fun iv=>xs.length - (intOf iv).toNat)
 case atStart=>exact ⟨0,rfl,by omega,fun j hj=>absurd hj (Nat.not_lt_zero _)⟩
 case round =>
  obtain ⟨k,rfl,hk,aJ⟩:=hrel;by_cases aN:k<xs.length
  ·obtain ⟨b,off,az,he,_,_,aM⟩:=(V HS).place (by omega);obtain ⟨rfl,rfl⟩:uo=some ⟨b,off,none⟩/\aF=az:=(by simpa using he);have aj:=aM k aN;have K:=O (x0v (xs.getD k 0) w (x0x (V HS) aN));have HT:=O (V bj k aN)
   have HN:Hid (Cn.scalar (xs.getD k 0)=true->∀ j,j<k+1->Cn.scalar (xs.getD j 0)=true):=fun h j hj=>by
    rcases Nat.lt_or_ge j k with h' | h'
    ·exact aJ j h'
    ·obtain rfl:j=k:=(by omega);exact h
   clear aM he HS bj ay aJ;generalize hy:Cn.scalar (xs.getD k 0)=y at HT HN K;clear hy;generalize xs.getD k 0=z at *;go_wp2_with fail;refine (V K).mono ?_;rintro e w1 ⟨rfl,rfl⟩;clear K aj
   cases y with
   | false =>
    obtain rfl:=V HT rfl;clear HT HN;go_wp2;go_ret;exact ⟨rfl,rfl⟩
   | true =>
    have bs:=O (V HN rfl);clear HT HN;go_wp2;go_round
    case rel=>exact ⟨k+1,by go_num,by omega,V bs⟩
    case measure=>simp [intOf]; omega
  ·obtain rfl:k=xs.length:=(by omega);obtain rfl:=V ay aJ;clear ay bj aJ HS;go_wp2;go_ret;exact ⟨rfl,rfl⟩
theorem x9G (u:Value) (xs:List Int) (a b:Nat) (w:World) (hu:Sk .i32 w u xs) (hl:xs.length<=1000000000):Calls prog 101 #[u,.int .i64 a,.int .i64 b] w fun e w'=>e=.returned (.bool (Cn.list xs a b))/\w'=w:=by
 have K:=O (x8y u xs w hu hl);obtain ⟨uo,aF,rfl,bQ,bR⟩:=hu.shape;clear hu;unfold Cn.list;generalize xs.all Cn.scalar=y at *;by_cases h1:a<=xs.length
 ·by_cases h2:xs.length<=b
  ·rw [d0t ⟨h1,h2⟩,Bool.true_and];go_enter func101,ntmps101;go_wp2_with fail;refine (V K).mono ?_;rintro e w1 ⟨rfl,rfl⟩;clear K;go_wp2;go_ret;exact ⟨rfl,rfl⟩
  ·rw [d0f (fun h=>h2 h.2),Bool.false_and];clear K;go_enter func101,ntmps101;go_wp2;go_ret;exact ⟨rfl,rfl⟩
 ·rw [d0f (fun h=>h1 h.1),Bool.false_and];clear K;go_enter func101,ntmps101;go_wp2;go_ret;exact ⟨rfl,rfl⟩
theorem x7h (u:Nat) (w:World) (hu:u<18446744073709551616):Calls prog 99 #[.float .f64 u] w fun e w'=>e=.returned (.bool (Cn.weight u))/\w'=w:=by
 have K:=O (x2x u w);unfold Cn.weight;by_cases h1:u<=9218868437227405312
 ·rw [d0t h1];have h2:(u:Int)<=9218868437227405312:=(by omega);go_enter func99,ntmps99;go_wp2_with fail;refine (V K).mono ?_;rintro e w1 ⟨rfl,rfl⟩;clear K;go_wp2;go_ret;exact ⟨rfl,rfl⟩
 ·rw [d0f h1];have h2:¬ (u:Int)<=9218868437227405312:=(by omega);go_enter func99,ntmps99;go_wp2_with fail;refine (V K).mono ?_;rintro e w1 ⟨rfl,rfl⟩;clear K;go_wp2;go_ret;refine ⟨?_,rfl⟩;show Ending.returned (.bool (decide ((u:Int)<=9218868437227405312)))=_;rw [d0f (by omega)]
theorem x0M {b:ByteArray} (h:b.size=0):b=⟨#[]⟩:=by
 obtain ⟨⟨l⟩⟩:=b;have:l=[]:=(by simpa [ByteArray.size] using h);subst this; rfl
theorem x1n {b:ByteArray} (h:¬ b.size=0):¬ b.toList=[]:=fun e=>h (by
 have:b.data.toList.length=0:=(by rw [<- ByteArray.toList_eq,e]; rfl);show b.data.size=0;rw [<- Array.length_toList]
 exact this)
def x0h (n0:Int) (m:Nat) (nm ot:ByteArray) (wt:Nat) (nf aR af aa wf:Bool):Bool :=
 (nf || decide (n0=0)) && (aR || decide (m=0)) && (af || decide (nm.size=0)) && (aa || decide (ot.size=0)) && (wf || decide (wt=0))
theorem y2X (kd lo hi n0:Int) (ao:Option Addr) (m cap:Nat) (nm ot:ByteArray) (wt:Nat) (aR af aa wf:Bool) (w:World):Calls prog 97 #[.agg #[.int .i64 kd,.int .i64 lo,.int .i64 hi,.int .i64 n0,.slice ao m cap,.string nm,.string ot,.float .f64 wt],.bool true,.bool aR,.bool af,.bool aa,.bool wf] w (x0d w (x0h n0 m nm ot wt true aR af aa wf)):=by
 have hb:∀ o,Bw w (w.alloc o):=fun o=>(b0r).alloc (l0r _) o;have HB:=O hb;clear hb;have al:=O (fun w=>x2x wt w)
 cases aR with
 | true =>
  cases af with
  | true =>
   cases aa with
   | true =>
    cases wf with
    | true =>
     rw [show x0h n0 m nm ot wt true true true true true=true from by simp [x0h, *] <;> rfl];go_enter func97,ntmps97;go_wp2;go_ret;exact ⟨rfl,V HB _⟩
    | false =>
     by_cases c4:wt=0
     ·subst c4;rw [show x0h n0 m nm ot 0 true true true true false=true from by simp [x0h, *] <;> rfl];go_enter func97,ntmps97;go_wp2_with fail;refine (V al _).mono ?_;rintro e w1 ⟨rfl,rfl⟩;go_wp2;go_ret;exact ⟨rfl,V HB _⟩
     ·have q4:((wt:Int)==0)=false:=b0f (by omega);rw [show x0h n0 m nm ot wt true true true true false=false from by simp [x0h, *] <;> rfl];go_enter func97,ntmps97;go_wp2_with fail;refine (V al _).mono ?_;rintro e w1 ⟨rfl,rfl⟩;go_wp2;go_ret;exact ⟨rfl,V HB _⟩
   | false =>
    by_cases c3:ot.size=0
    ·obtain rfl:=x0M c3;clear c3
     cases wf with
     | true =>
      rw [show x0h n0 m nm ⟨#[]⟩ wt true true true false true=true from by simp [x0h, *] <;> rfl];go_enter func97,ntmps97;go_wp2;go_ret;exact ⟨rfl,V HB _⟩
     | false =>
      by_cases c4:wt=0
      ·subst c4;rw [show x0h n0 m nm ⟨#[]⟩ 0 true true true false false=true from by simp [x0h, *] <;> rfl];go_enter func97,ntmps97;go_wp2_with fail;refine (V al _).mono ?_;rintro e w1 ⟨rfl,rfl⟩;go_wp2;go_ret;exact ⟨rfl,V HB _⟩
      ·have q4:((wt:Int)==0)=false:=b0f (by omega);rw [show x0h n0 m nm ⟨#[]⟩ wt true true true false false=false from by simp [x0h, *] <;> rfl];go_enter func97,ntmps97;go_wp2_with fail;refine (V al _).mono ?_;rintro e w1 ⟨rfl,rfl⟩;go_wp2;go_ret;exact ⟨rfl,V HB _⟩
    ·have q3:=x1n c3;rw [show x0h n0 m nm ot wt true true true false wf=false from by simp [x0h, *] <;> rfl];go_enter func97,ntmps97;go_wp2;go_ret;exact ⟨rfl,V HB _⟩
  | false =>
   by_cases c2:nm.size=0
   ·obtain rfl:=x0M c2;clear c2
    cases aa with
    | true =>
     cases wf with
     | true =>
      rw [show x0h n0 m ⟨#[]⟩ ot wt true true false true true=true from by simp [x0h, *] <;> rfl];go_enter func97,ntmps97;go_wp2;go_ret;exact ⟨rfl,V HB _⟩
     | false =>
      by_cases c4:wt=0
      ·subst c4;rw [show x0h n0 m ⟨#[]⟩ ot 0 true true false true false=true from by simp [x0h, *] <;> rfl];go_enter func97,ntmps97;go_wp2_with fail;refine (V al _).mono ?_;rintro e w1 ⟨rfl,rfl⟩;go_wp2;go_ret;exact ⟨rfl,V HB _⟩
      ·have q4:((wt:Int)==0)=false:=b0f (by omega);rw [show x0h n0 m ⟨#[]⟩ ot wt true true false true false=false from by simp [x0h, *] <;> rfl];go_enter func97,ntmps97;go_wp2_with fail;refine (V al _).mono ?_;rintro e w1 ⟨rfl,rfl⟩;go_wp2;go_ret;exact ⟨rfl,V HB _⟩
    | false =>
     by_cases c3:ot.size=0
     ·obtain rfl:=x0M c3;clear c3
      cases wf with
      | true =>
       rw [show x0h n0 m ⟨#[]⟩ ⟨#[]⟩ wt true true false false true=true from by simp [x0h, *] <;> rfl];go_enter func97,ntmps97;go_wp2;go_ret;exact ⟨rfl,V HB _⟩
      | false =>
       by_cases c4:wt=0
       ·subst c4;rw [show x0h n0 m ⟨#[]⟩ ⟨#[]⟩ 0 true true false false false=true from by simp [x0h, *] <;> rfl];go_enter func97,ntmps97;go_wp2_with fail;refine (V al _).mono ?_;rintro e w1 ⟨rfl,rfl⟩;go_wp2;go_ret;exact ⟨rfl,V HB _⟩
       ·have q4:((wt:Int)==0)=false:=b0f (by omega);rw [show x0h n0 m ⟨#[]⟩ ⟨#[]⟩ wt true true false false false=false from by simp [x0h, *] <;> rfl];go_enter func97,ntmps97;go_wp2_with fail;refine (V al _).mono ?_;rintro e w1 ⟨rfl,rfl⟩;go_wp2;go_ret;exact ⟨rfl,V HB _⟩
     ·have q3:=x1n c3;rw [show x0h n0 m ⟨#[]⟩ ot wt true true false false wf=false from by simp [x0h, *] <;> rfl];go_enter func97,ntmps97;go_wp2;go_ret;exact ⟨rfl,V HB _⟩
   ·have q2:=x1n c2;rw [show x0h n0 m nm ot wt true true false aa wf=false from by simp [x0h, *] <;> rfl];go_enter func97,ntmps97;go_wp2;go_ret;exact ⟨rfl,V HB _⟩
 | false =>
  by_cases c1:m=0
  ·subst c1
   cases af with
   | true =>
    cases aa with
    | true =>
     cases wf with
     | true =>
      rw [show x0h n0 0 nm ot wt true false true true true=true from by simp [x0h, *] <;> rfl];go_enter func97,ntmps97;go_wp2;go_ret;exact ⟨rfl,V HB _⟩
     | false =>
      by_cases c4:wt=0
      ·subst c4;rw [show x0h n0 0 nm ot 0 true false true true false=true from by simp [x0h, *] <;> rfl];go_enter func97,ntmps97;go_wp2_with fail;refine (V al _).mono ?_;rintro e w1 ⟨rfl,rfl⟩;go_wp2;go_ret;exact ⟨rfl,V HB _⟩
      ·have q4:((wt:Int)==0)=false:=b0f (by omega);rw [show x0h n0 0 nm ot wt true false true true false=false from by simp [x0h, *] <;> rfl];go_enter func97,ntmps97;go_wp2_with fail;refine (V al _).mono ?_;rintro e w1 ⟨rfl,rfl⟩;go_wp2;go_ret;exact ⟨rfl,V HB _⟩
    | false =>
     by_cases c3:ot.size=0
     ·obtain rfl:=x0M c3;clear c3
      cases wf with
      | true =>
       rw [show x0h n0 0 nm ⟨#[]⟩ wt true false true false true=true from by simp [x0h, *] <;> rfl];go_enter func97,ntmps97;go_wp2;go_ret;exact ⟨rfl,V HB _⟩
      | false =>
       by_cases c4:wt=0
       ·subst c4;rw [show x0h n0 0 nm ⟨#[]⟩ 0 true false true false false=true from by simp [x0h, *] <;> rfl];go_enter func97,ntmps97;go_wp2_with fail;refine (V al _).mono ?_;rintro e w1 ⟨rfl,rfl⟩;go_wp2;go_ret;exact ⟨rfl,V HB _⟩
       ·have q4:((wt:Int)==0)=false:=b0f (by omega);rw [show x0h n0 0 nm ⟨#[]⟩ wt true false true false false=false from by simp [x0h, *] <;> rfl];go_enter func97,ntmps97;go_wp2_with fail;refine (V al _).mono ?_;rintro e w1 ⟨rfl,rfl⟩;go_wp2;go_ret;exact ⟨rfl,V HB _⟩
     ·have q3:=x1n c3;rw [show x0h n0 0 nm ot wt true false true false wf=false from by simp [x0h, *] <;> rfl];go_enter func97,ntmps97;go_wp2;go_ret;exact ⟨rfl,V HB _⟩
   | false =>
    by_cases c2:nm.size=0
    ·obtain rfl:=x0M c2;clear c2
     cases aa with
     | true =>
      cases wf with
      | true =>
       rw [show x0h n0 0 ⟨#[]⟩ ot wt true false false true true=true from by simp [x0h, *] <;> rfl];go_enter func97,ntmps97;go_wp2;go_ret;exact ⟨rfl,V HB _⟩
      | false =>
       by_cases c4:wt=0
       ·subst c4;rw [show x0h n0 0 ⟨#[]⟩ ot 0 true false false true false=true from by simp [x0h, *] <;> rfl];go_enter func97,ntmps97;go_wp2_with fail;refine (V al _).mono ?_;rintro e w1 ⟨rfl,rfl⟩;go_wp2;go_ret;exact ⟨rfl,V HB _⟩
       ·have q4:((wt:Int)==0)=false:=b0f (by omega);rw [show x0h n0 0 ⟨#[]⟩ ot wt true false false true false=false from by simp [x0h, *] <;> rfl];go_enter func97,ntmps97;go_wp2_with fail;refine (V al _).mono ?_;rintro e w1 ⟨rfl,rfl⟩;go_wp2;go_ret;exact ⟨rfl,V HB _⟩
     | false =>
      by_cases c3:ot.size=0
      ·obtain rfl:=x0M c3;clear c3
       cases wf with
       | true =>
        rw [show x0h n0 0 ⟨#[]⟩ ⟨#[]⟩ wt true false false false true=true from by simp [x0h, *] <;> rfl];go_enter func97,ntmps97;go_wp2;go_ret;exact ⟨rfl,V HB _⟩
       | false =>
        by_cases c4:wt=0
        ·subst c4;rw [show x0h n0 0 ⟨#[]⟩ ⟨#[]⟩ 0 true false false false false=true from by simp [x0h, *] <;> rfl];go_enter func97,ntmps97;go_wp2_with fail;refine (V al _).mono ?_;rintro e w1 ⟨rfl,rfl⟩;go_wp2;go_ret;exact ⟨rfl,V HB _⟩
        ·have q4:((wt:Int)==0)=false:=b0f (by omega);rw [show x0h n0 0 ⟨#[]⟩ ⟨#[]⟩ wt true false false false false=false from by simp [x0h, *] <;> rfl];go_enter func97,ntmps97;go_wp2_with fail;refine (V al _).mono ?_;rintro e w1 ⟨rfl,rfl⟩;go_wp2;go_ret;exact ⟨rfl,V HB _⟩
      ·have q3:=x1n c3;rw [show x0h n0 0 ⟨#[]⟩ ot wt true false false false wf=false from by simp [x0h, *] <;> rfl];go_enter func97,ntmps97;go_wp2;go_ret;exact ⟨rfl,V HB _⟩
    ·have q2:=x1n c2;rw [show x0h n0 0 nm ot wt true false false aa wf=false from by simp [x0h, *] <;> rfl];go_enter func97,ntmps97;go_wp2;go_ret;exact ⟨rfl,V HB _⟩
  ·have q1:((m:Int)==0)=false:=b0f (by omega);rw [show x0h n0 m nm ot wt true false af aa wf=false from by simp [x0h, *] <;> rfl];go_enter func97,ntmps97;go_wp2;go_ret;exact ⟨rfl,V HB _⟩
theorem y1f (kd lo hi n0:Int) (ao:Option Addr) (m cap:Nat) (nm ot:ByteArray) (wt:Nat) (aR af aa wf:Bool) (w:World):Calls prog 97 #[.agg #[.int .i64 kd,.int .i64 lo,.int .i64 hi,.int .i64 n0,.slice ao m cap,.string nm,.string ot,.float .f64 wt],.bool false,.bool aR,.bool af,.bool aa,.bool wf] w (x0d w (x0h n0 m nm ot wt false aR af aa wf)):=by
 have hb:∀ o,Bw w (w.alloc o):=fun o=>(b0r).alloc (l0r _) o;have HB:=O hb;clear hb;have al:=O (fun w=>x2x wt w);by_cases c0:n0=0
 ·subst c0
  cases aR with
  | true =>
   cases af with
   | true =>
    cases aa with
    | true =>
     cases wf with
     | true =>
      rw [show x0h 0 m nm ot wt false true true true true=true from by simp [x0h, *] <;> rfl];go_enter func97,ntmps97;go_wp2;go_ret;exact ⟨rfl,V HB _⟩
     | false =>
      by_cases c4:wt=0
      ·subst c4;rw [show x0h 0 m nm ot 0 false true true true false=true from by simp [x0h, *] <;> rfl];go_enter func97,ntmps97;go_wp2_with fail;refine (V al _).mono ?_;rintro e w1 ⟨rfl,rfl⟩;go_wp2;go_ret;exact ⟨rfl,V HB _⟩
      ·have q4:((wt:Int)==0)=false:=b0f (by omega);rw [show x0h 0 m nm ot wt false true true true false=false from by simp [x0h, *] <;> rfl];go_enter func97,ntmps97;go_wp2_with fail;refine (V al _).mono ?_;rintro e w1 ⟨rfl,rfl⟩;go_wp2;go_ret;exact ⟨rfl,V HB _⟩
    | false =>
     by_cases c3:ot.size=0
     ·obtain rfl:=x0M c3;clear c3
      cases wf with
      | true =>
       rw [show x0h 0 m nm ⟨#[]⟩ wt false true true false true=true from by simp [x0h, *] <;> rfl];go_enter func97,ntmps97;go_wp2;go_ret;exact ⟨rfl,V HB _⟩
      | false =>
       by_cases c4:wt=0
       ·subst c4;rw [show x0h 0 m nm ⟨#[]⟩ 0 false true true false false=true from by simp [x0h, *] <;> rfl];go_enter func97,ntmps97;go_wp2_with fail;refine (V al _).mono ?_;rintro e w1 ⟨rfl,rfl⟩;go_wp2;go_ret;exact ⟨rfl,V HB _⟩
       ·have q4:((wt:Int)==0)=false:=b0f (by omega);rw [show x0h 0 m nm ⟨#[]⟩ wt false true true false false=false from by simp [x0h, *] <;> rfl];go_enter func97,ntmps97;go_wp2_with fail;refine (V al _).mono ?_;rintro e w1 ⟨rfl,rfl⟩;go_wp2;go_ret;exact ⟨rfl,V HB _⟩
     ·have q3:=x1n c3;rw [show x0h 0 m nm ot wt false true true false wf=false from by simp [x0h, *] <;> rfl];go_enter func97,ntmps97;go_wp2;go_ret;exact ⟨rfl,V HB _⟩
   | false =>
    by_cases c2:nm.size=0
    ·obtain rfl:=x0M c2;clear c2
     cases aa with
     | true =>
      cases wf with
      | true =>
       rw [show x0h 0 m ⟨#[]⟩ ot wt false true false true true=true from by simp [x0h, *] <;> rfl];go_enter func97,ntmps97;go_wp2;go_ret;exact ⟨rfl,V HB _⟩
      | false =>
       by_cases c4:wt=0
       ·subst c4;rw [show x0h 0 m ⟨#[]⟩ ot 0 false true false true false=true from by simp [x0h, *] <;> rfl];go_enter func97,ntmps97;go_wp2_with fail;refine (V al _).mono ?_;rintro e w1 ⟨rfl,rfl⟩;go_wp2;go_ret;exact ⟨rfl,V HB _⟩
       ·have q4:((wt:Int)==0)=false:=b0f (by omega);rw [show x0h 0 m ⟨#[]⟩ ot wt false true false true false=false from by simp [x0h, *] <;> rfl];go_enter func97,ntmps97;go_wp2_with fail;refine (V al _).mono ?_;rintro e w1 ⟨rfl,rfl⟩;go_wp2;go_ret;exact ⟨rfl,V HB _⟩
     | false =>
      by_cases c3:ot.size=0
      ·obtain rfl:=x0M c3;clear c3
       cases wf with
       | true =>
        rw [show x0h 0 m ⟨#[]⟩ ⟨#[]⟩ wt false true false false true=true from by simp [x0h, *] <;> rfl];go_enter func97,ntmps97;go_wp2;go_ret;exact ⟨rfl,V HB _⟩
       | false =>
        by_cases c4:wt=0
        ·subst c4;rw [show x0h 0 m ⟨#[]⟩ ⟨#[]⟩ 0 false true false false false=true from by simp [x0h, *] <;> rfl];go_enter func97,ntmps97;go_wp2_with fail;refine (V al _).mono ?_;rintro e w1 ⟨rfl,rfl⟩;go_wp2;go_ret;exact ⟨rfl,V HB _⟩
        ·have q4:((wt:Int)==0)=false:=b0f (by omega);rw [show x0h 0 m ⟨#[]⟩ ⟨#[]⟩ wt false true false false false=false from by simp [x0h, *] <;> rfl];go_enter func97,ntmps97;go_wp2_with fail;refine (V al _).mono ?_;rintro e w1 ⟨rfl,rfl⟩;go_wp2;go_ret;exact ⟨rfl,V HB _⟩
      ·have q3:=x1n c3;rw [show x0h 0 m ⟨#[]⟩ ot wt false true false false wf=false from by simp [x0h, *] <;> rfl];go_enter func97,ntmps97;go_wp2;go_ret;exact ⟨rfl,V HB _⟩
    ·have q2:=x1n c2;rw [show x0h 0 m nm ot wt false true false aa wf=false from by simp [x0h, *] <;> rfl];go_enter func97,ntmps97;go_wp2;go_ret;exact ⟨rfl,V HB _⟩
  | false =>
   by_cases c1:m=0
   ·subst c1
    cases af with
    | true =>
     cases aa with
     | true =>
      cases wf with
      | true =>
       rw [show x0h 0 0 nm ot wt false false true true true=true from by simp [x0h, *] <;> rfl];go_enter func97,ntmps97;go_wp2;go_ret;exact ⟨rfl,V HB _⟩
      | false =>
       by_cases c4:wt=0
       ·subst c4;rw [show x0h 0 0 nm ot 0 false false true true false=true from by simp [x0h, *] <;> rfl];go_enter func97,ntmps97;go_wp2_with fail;refine (V al _).mono ?_;rintro e w1 ⟨rfl,rfl⟩;go_wp2;go_ret;exact ⟨rfl,V HB _⟩
       ·have q4:((wt:Int)==0)=false:=b0f (by omega);rw [show x0h 0 0 nm ot wt false false true true false=false from by simp [x0h, *] <;> rfl];go_enter func97,ntmps97;go_wp2_with fail;refine (V al _).mono ?_;rintro e w1 ⟨rfl,rfl⟩;go_wp2;go_ret;exact ⟨rfl,V HB _⟩
     | false =>
      by_cases c3:ot.size=0
      ·obtain rfl:=x0M c3;clear c3
       cases wf with
       | true =>
        rw [show x0h 0 0 nm ⟨#[]⟩ wt false false true false true=true from by simp [x0h, *] <;> rfl];go_enter func97,ntmps97;go_wp2;go_ret;exact ⟨rfl,V HB _⟩
       | false =>
        by_cases c4:wt=0
        ·subst c4;rw [show x0h 0 0 nm ⟨#[]⟩ 0 false false true false false=true from by simp [x0h, *] <;> rfl];go_enter func97,ntmps97;go_wp2_with fail;refine (V al _).mono ?_;rintro e w1 ⟨rfl,rfl⟩;go_wp2;go_ret;exact ⟨rfl,V HB _⟩
        ·have q4:((wt:Int)==0)=false:=b0f (by omega);rw [show x0h 0 0 nm ⟨#[]⟩ wt false false true false false=false from by simp [x0h, *] <;> rfl];go_enter func97,ntmps97;go_wp2_with fail;refine (V al _).mono ?_;rintro e w1 ⟨rfl,rfl⟩;go_wp2;go_ret;exact ⟨rfl,V HB _⟩
      ·have q3:=x1n c3;rw [show x0h 0 0 nm ot wt false false true false wf=false from by simp [x0h, *] <;> rfl];go_enter func97,ntmps97;go_wp2;go_ret;exact ⟨rfl,V HB _⟩
    | false =>
     by_cases c2:nm.size=0
     ·obtain rfl:=x0M c2;clear c2
      cases aa with
      | true =>
       cases wf with
       | true =>
        rw [show x0h 0 0 ⟨#[]⟩ ot wt false false false true true=true from by simp [x0h, *] <;> rfl];go_enter func97,ntmps97;go_wp2;go_ret;exact ⟨rfl,V HB _⟩
       | false =>
        by_cases c4:wt=0
        ·subst c4;rw [show x0h 0 0 ⟨#[]⟩ ot 0 false false false true false=true from by simp [x0h, *] <;> rfl];go_enter func97,ntmps97;go_wp2_with fail;refine (V al _).mono ?_;rintro e w1 ⟨rfl,rfl⟩;go_wp2;go_ret;exact ⟨rfl,V HB _⟩
        ·have q4:((wt:Int)==0)=false:=b0f (by omega);rw [show x0h 0 0 ⟨#[]⟩ ot wt false false false true false=false from by simp [x0h, *] <;> rfl];go_enter func97,ntmps97;go_wp2_with fail;refine (V al _).mono ?_;rintro e w1 ⟨rfl,rfl⟩;go_wp2;go_ret;exact ⟨rfl,V HB _⟩
      | false =>
       by_cases c3:ot.size=0
       ·obtain rfl:=x0M c3;clear c3
        cases wf with
        | true =>
         rw [show x0h 0 0 ⟨#[]⟩ ⟨#[]⟩ wt false false false false true=true from by simp [x0h, *] <;> rfl];go_enter func97,ntmps97;go_wp2;go_ret;exact ⟨rfl,V HB _⟩
        | false =>
         by_cases c4:wt=0
         ·subst c4;rw [show x0h 0 0 ⟨#[]⟩ ⟨#[]⟩ 0 false false false false false=true from by simp [x0h, *] <;> rfl];go_enter func97,ntmps97;go_wp2_with fail;refine (V al _).mono ?_;rintro e w1 ⟨rfl,rfl⟩;go_wp2;go_ret;exact ⟨rfl,V HB _⟩
         ·have q4:((wt:Int)==0)=false:=b0f (by omega);rw [show x0h 0 0 ⟨#[]⟩ ⟨#[]⟩ wt false false false false false=false from by simp [x0h, *] <;> rfl];go_enter func97,ntmps97;go_wp2_with fail;refine (V al _).mono ?_;rintro e w1 ⟨rfl,rfl⟩;go_wp2;go_ret;exact ⟨rfl,V HB _⟩
       ·have q3:=x1n c3;rw [show x0h 0 0 ⟨#[]⟩ ot wt false false false false wf=false from by simp [x0h, *] <;> rfl];go_enter func97,ntmps97;go_wp2;go_ret;exact ⟨rfl,V HB _⟩
     ·have q2:=x1n c2;rw [show x0h 0 0 nm ot wt false false false aa wf=false from by simp [x0h, *] <;> rfl];go_enter func97,ntmps97;go_wp2;go_ret;exact ⟨rfl,V HB _⟩
   ·have q1:((m:Int)==0)=false:=b0f (by omega);rw [show x0h 0 m nm ot wt false false af aa wf=false from by simp [x0h, *] <;> rfl];go_enter func97,ntmps97;go_wp2;go_ret;exact ⟨rfl,V HB _⟩
 ·have q0:(n0==0)=false:=b0f c0;rw [show x0h n0 m nm ot wt false aR af aa wf=false from by simp [x0h, *] <;> rfl];go_enter func97,ntmps97;go_wp2;go_ret;exact ⟨rfl,V HB _⟩
theorem x9D (r:Rec) (vt:Value) (nf aR af aa wf:Bool) (w:World) (hv:Sk .i32 w vt r.to):Calls prog 97 #[recV r vt,.bool nf,.bool aR,.bool af,.bool aa,.bool wf] w (x0d w (Cn.bare r nf aR af aa wf)):=by
 obtain ⟨ao,cap,rfl,_,_⟩:=hv.shape
 cases nf with
 | true=>exact y2X _ _ _ _ _ _ _ _ _ _ _ _ _ _ _
 | false=>exact y1f _ _ _ _ _ _ _ _ _ _ _ _ _ _ _
