/- Uo9 CcP7 Uh9 CcS7 CcU7 -/
import Derived.Test.YtkglkajjofidoaaGreatDoorV24
set_option maxHeartbeats 16000000
set_option maxRecDepth 20000
namespace Go.Proofs.YtkglkajjofidoaaGreatDoor
open Go.Proofs.Tryz
open Go.RowKit Go.MapKept Go.WideMaps
open Go.ChangeMaps (setBlock)
def KP (v:Value):Prop:=∃ a b,v=pk2 a b/\Rune a/\Rune b
theorem ulawP:KeyLaw prog 163:=deep_law_laid x4r (m:=3) (by decide) (o0d (by kernel_rfl)) (by kernel_rfl) (by kernel_rfl)
theorem y3m:prog.cellsOf 163=2:=by kernel_rfl
theorem y4n:prog.keyType 163=true:=by kernel_rfl
theorem y1O {a b:Int} (ha:Rune a) (hb:Rune b) (D:Nat):prog.keyLits (D+2) 163 [.int .i32 a,.int .i32 b]=some [.int .i32 a,.int .i32 b]:=by
 rw [Program.keyLits.eq_def];simp only [underlying163,y3m];rw [if_pos ⟨rfl,by simp⟩];simp [List.mapM_cons,x2A ha D,x2A hb D,y3k]
theorem z2C {v:Value} (h:KP v):∃ l,keyOf prog 163 v=some l:=by
 obtain ⟨a,b,rfl,ha,hb⟩:=h
 have hf:(pk2 a b).formed prog 163=true:=by
  simp [pk2,Value.formed,underlying163,y3m]
 obtain ⟨n,hn⟩:∃ n,prog.types.size+1=n+2:=⟨prog.types.size - 1,by have:0<prog.types.size:=o0d (by kernel_rfl); omega⟩;refine ⟨.string (keyBytes [.int .i32 a,.int .i32 b]),?_⟩;unfold keyOf;simp only [underlying163,y4n,hf,Bool.and_self,if_true,hn];show (prog.keyLits (n+2) 163 [.int .i32 a,.int .i32 b]).map _=_;rw [y1O ha hb n];rfl
theorem klP:KL 163 KP:=KL.of ulawP fun _ h=>z2C h
def KR (v:Value):Prop:=∃ a,v=.int .i32 a
theorem klR:KL 21 KR:=by
 have hk:∀ v,KR v->IsKey (.int .i32) v:=fun v h=>(by obtain ⟨a,rfl⟩:=h; exact rfl);refine ⟨fun w em v h=>run_checkKey underlying21 (hk v h) em 9999,fun w x h es hes=>?_,fun w v h=>?_⟩
 ·rcases findNow_spec (hk x h) es 0 (fun e he=>hk _ (hes e he)) with ⟨h1,h2⟩ | ⟨j,e,h1,h2,h3⟩
  ·exact .inl ⟨run_findKey underlying21 h1,h2⟩
  ·rw [Nat.zero_add] at h1;exact .inr ⟨j,e,run_findKey underlying21 h1,h2,h3⟩
 ·exact run_keyThatStays (hk v h)
def KN (v:Value):Prop:=∃ a b,v=pk a b/\Sh a/\Sh b
theorem ulawN:KeyLaw prog 166:=deep_law_laid x4r (m:=3) (by decide) (o0d (by kernel_rfl)) (by kernel_rfl) (by kernel_rfl)
theorem y3i:prog.cellsOf 166=2:=by kernel_rfl
theorem y4l:prog.keyType 166=true:=by kernel_rfl
theorem y1M {a b:ByteArray} (ha:Sh a) (hb:Sh b) (D:Nat):prog.keyLits (D+2) 166 [.string a,.string b]=some [.string a.data.toList,.string b.data.toList]:=by
 rw [Program.keyLits.eq_def];simp only [underlying166,y3i];rw [if_pos ⟨rfl,by simp⟩];simp [List.mapM_cons,x2a ha D,x2a hb D,y3l]
theorem z1R {v:Value} (h:KN v):∃ l,keyOf prog 166 v=some l:=by
 obtain ⟨a,b,rfl,ha,hb⟩:=h
 have hf:(pk a b).formed prog 166=true:=by
  simp [pk,Value.formed,underlying166,y3i]
 obtain ⟨n,hn⟩:∃ n,prog.types.size+1=n+2:=⟨prog.types.size - 1,by have:0<prog.types.size:=o0d (by kernel_rfl); omega⟩;refine ⟨.string (keyBytes [.string a.data.toList,.string b.data.toList]),?_⟩;unfold keyOf;simp only [underlying166,y4l,hf,Bool.and_self,if_true,hn];show (prog.keyLits (n+2) 166 [.string a,.string b]).map _=_;rw [y1M ha hb n];rfl
theorem klN:KL 166 KN:=KL.of ulawN fun _ h=>z1R h
namespace Cn
def x0S (l:List Rec) (a b:Int):Option Int:=(l.reverse.find? (isP a b)).map (·.lo)
def secOf (l:List Rec) (b:Int):Nat:=l.countP fun r=>decide (r.kind=7/\r.to.getD 1 0=b)
theorem x5j (l:List Rec) (r:Rec) (a b:Int):x0S (l++[r]) a b=if isP a b r=true then some r.lo else x0S l a b:=by
 unfold x0S;rw [List.reverse_append,List.reverse_cons,List.reverse_nil,List.nil_append,List.singleton_append,List.find?_cons];by_cases h:isP a b r=true
 ·rw [h,if_pos rfl]; rfl
 ·rw [if_neg h];simp only [Bool.not_eq_true] at h;rw [h]
theorem x6q (l:List Rec) (r:Rec) (b:Int):secOf (l++[r]) b=secOf l b+if r.kind=7/\r.to.getD 1 0=b then 1 else 0:=by
 unfold secOf;rw [List.countP_append,List.countP_singleton];by_cases h:r.kind=7/\r.to.getD 1 0=b
 ·rw [if_pos h,if_pos (d0t h)]
 ·rw [if_neg h,if_neg (by simpa using h)]
theorem y7F (l:List Rec) (b:Int):secOf l b<=l.length:=List.countP_le_length
end Cn
def x2E (l:List Rec) (v:Value):Option Value :=
 match v with
 | .agg ⟨[.int .i32 a,.int .i32 b]⟩=>(Cn.x0S l a b).map (Value.int .i32)
 | _=>none
def secC (l:List Rec) (v:Value):Option Value :=
 match v with
 | .int .i32 b=>if Cn.secOf l b=0 then none else some (.int .i64 (Cn.secOf l b:Nat))
 | _=>none
theorem y0P (l:List Rec) (a b:Int):x2E l (pk2 a b)=(Cn.x0S l a b).map (Value.int .i32):=rfl
theorem x5i {l:List Rec} {r:Rec} {v:Value} (h:∀ a b,v=pk2 a b->¬ (r.kind=7/\r.to.getD 0 0=a/\r.to.getD 1 0=b)):x2E (l++[r]) v=x2E l v:=by
 unfold x2E;split
 ·rename_i a b
  rw [Cn.x5j,if_neg];intro hp;exact h a b rfl (o0d hp)
 ·rfl
theorem x6p {l:List Rec} {r:Rec} {v:Value} (h:∀ b,v=.int .i32 b->¬ (r.kind=7/\r.to.getD 1 0=b)):secC (l++[r]) v=secC l v:=by
 unfold secC;split
 ·rename_i b
  rw [Cn.x6q,if_neg (h b rfl),Nat.add_zero]
 ·rfl
theorem y4P (v:Value):x2E [] v=none:=by
 unfold x2E;split <;> rfl
theorem y7E (v:Value):secC [] v=none:=by
 unfold secC;split <;> rfl
open Go.RowKit
open Go.ChangeMaps (setBlock)
theorem Rsh.shape {w0 W:World} {v:Value} {xs:List Sp} (h:Rsh w0 W v xs):∃ ao cap,v=.slice ao xs.length cap/\xs.length<=cap/\cap<=9223372036854775807:=by
 rcases h.1.2 with ⟨rfl,h0⟩ | ⟨g,cap,cur,rfl,_,_,hn,hcap,_⟩
 ·exact ⟨none,0,by rw [h0],by omega,by omega⟩
 ·exact ⟨_,cap,rfl,hn,by unfold maxLen at hcap; omega⟩
theorem x4O (p:Rec->Bool) (l:List Rec) (r:Rec):(l++[r]).filter p=l.filter p++(if p r then [r] else []):=by
 rw [List.filter_append];cases h:p r <;> simp [h]
def is6 (r:Rec):Bool:=decide (r.kind=6)
def is78 (r:Rec):Bool:=decide (r.kind=7\/r.kind=8)
def Made (w0 wr:World) (l:List Rec) (k:Nat):Prop:=∃ (cv ov:Value) (ah ae:List Sp),NI w0 wr (Cn.firstP (l.take k)) cv ov ah ae/\ah.map (·.1)=(l.take k).filter is6/\ae.map (·.1)=(l.take k).filter is78
theorem Made.next {w0 wr:World} {l:List Rec} {k:Nat} {r:Rec} {cv ov:Value} {ah ae cxs' oxs':List Sp} {c:Int->Int->Option Int} (a9:l.take (k+1)=l.take k++[r])
  (h:NI w0 wr c cv ov cxs' oxs') (hc:c=Cn.firstP (l.take k++[r])) (e1:ah.map (·.1)=(l.take k).filter is6) (e2:ae.map (·.1)=(l.take k).filter is78)
  (h1:cxs'.map (·.1)=ah.map (·.1)++(if is6 r then [r] else [])) (h2:oxs'.map (·.1)=ae.map (·.1)++(if is78 r then [r] else [])):Made w0 wr l (k+1):=by
 subst hc;exact ⟨cv,ov,cxs',oxs',by rw [a9]; exact h,by rw [a9,x4O,h1,e1],by rw [a9,x4O,h2,e2]⟩
theorem y0H {l:List Rec} {k:Nat} {ah ae:List Sp} (e1:ah.map (·.1)=(l.take k).filter is6) (e2:ae.map (·.1)=(l.take k).filter is78) (hl:l.length<=4096):ah.length<=4096/\ae.length<=4096:=by
 have h1:=congrArg List.length e1;have h2:=congrArg List.length e2;rw [List.length_map] at h1 h2;have g1:=List.length_filter_le is6 (l.take k);have g2:=List.length_filter_le is78 (l.take k);have g3:(l.take k).length<=l.length:=(by simp; omega);omega
theorem x2r (W:World) (r:Rec) (ab:Option Addr) (aa:Nat) (n:Nat) (hn:W.heap.size=n):∀ j u,(encR (r,ab,r.to.length,aa))[j]?=some u->(W.alloc (.cells #[.int .i64 r.kind,.int .i64 r.lo,.int .i64 r.hi,.int .i64 r.n,.slice ab r.to.length aa,.string r.name,.string r.other,.float .f64 r.wt] 50)).cell? ((⟨n,0,none⟩:Addr).add j)=some u:=x4t W n hn r (.slice ab r.to.length aa)
theorem x0V {W:World} {r L j:Nat} {v:Value} (o:Obj) (h:L≠r) (hc:W.cell? ⟨L,j,none⟩=some v):(setBlock W r o).cell? ⟨L,j,none⟩=some v:=by
 rw [World.cell?_of_block (x1G W o h)]; exact hc
theorem x4s {xs:List Int} {i:Nat} (h:i<xs.length):xs.getD i 0∈xs:=by simp [List.getD,h]
def y2N (w0:World) (l:List Rec) (e:Ending) (w':World):Prop:=∃ cv ov cs os,e=.returned (xV cv ov (.map (some (w0.heap.size+1))))/\Idx l w' cv ov cs os/\PAt w' (w0.heap.size+1) (Cn.firstP l)/\Below w0.heap.size w0 w'
def nw (w0:World):World:=((w0.alloc (.cells #[.slice none 0 0,.slice none 0 0,.map none] 118)).alloc (.map #[] 0)).alloc (.cells #[.slice none 0 0,.slice none 0 0,.map (some (w0.heap.size+1))] 118)
theorem nw_ni (w0:World):NI w0 (nw w0) (fun _ _=>none) (.slice none 0 0) (.slice none 0 0) [] []:=by
 have e:(nw w0).heap=((w0.heap.push (.cells #[.slice none 0 0,.slice none 0 0,.map none] 118 (0,0))).push (.map #[] 0)).push (.cells #[.slice none 0 0,.slice none 0 0,.map (some (w0.heap.size+1))] 118 (0,0)):=rfl;refine ⟨?_,⟨#[],0,?_,z1W⟩,?_,⟨World.ownsRow_nil _ _ _ _,fun _ h=>by cases h⟩,⟨World.ownsRow_nil _ _ _ _,fun _ h=>by cases h⟩,fun g h=>by simp [Value.ownBlock] at h,?_⟩
 ·rw [e,Array.getElem?_push,Array.getElem?_push,Array.getElem?_push]; simp; omega
 ·rw [e,Array.getElem?_push,Array.getElem?_push]; simp
 ·rw [e,Array.getElem?_push]; simp
 ·exact (((b0r).alloc (l0r _) _).alloc (by simp) _).alloc (by simp; omega) _
theorem x8c (v:Value) (l:List Rec) (w0:World) (hv:Rcs w0 v l) (bT:(Cn.check6 l).2=0):Calls prog 72 #[v] w0 (y2N w0 l):=by
 obtain ⟨i1,hj,ba,bb,bc⟩:=info_parts Tryz.info50;have hmm:=@run_makeMap prog;obtain ⟨hl,az⟩:=Cn.x1u bT
 have bI:Hid (∀ i,i<l.length->(l.getD i Cn.none).kind=7->(l.getD i Cn.none).to.length=2/\Rune ((l.getD i Cn.none).to.getD 0 0)/\Rune ((l.getD i Cn.none).to.getD 1 0)):=fun i hi h7=>by
  have hm:l.getD i Cn.none∈l:=(by simp [List.getD,hi]);have bo:=(Cn.x0B (az _ hm) h7).2.2;obtain ⟨⟨g1,g2⟩,g3⟩:=Cn.x1c bo;refine ⟨by omega,?_,?_⟩
  ·have:=g3 ((l.getD i Cn.none).to.getD 0 0) (x4s (by omega));have:=o0d this;unfold Rune; omega
  ·have:=g3 ((l.getD i Cn.none).to.getD 1 0) (x4s (by omega));have:=o0d this;unfold Rune; omega
 have aV:=O (fun i hi=>hv.fit (i:=i) hi);have HV:=O hv
 have aI:Hid (∀ k,k<l.length->l.take (k+1)=l.take k++[l.getD k Cn.none]):=fun k hk=>by
  rw [List.take_add_one]; simp [List.getD,hk]
 have bM:Hid (∀ k,k<l.length->(l.take k).length=k):=fun k hk=>(by simp; omega);have bf:Hid (∀ w',Made w0 w' l l.length->Made w0 w' l l.length):=fun _ h=>h;have bg:=O (nw_ni w0);have bv:=O bT;have cw:=O az;obtain ⟨ao,cap,rfl,hc1,hc2⟩:=hv.shape;clear hv bT az;go_enter func72,ntmps72;go_wp2;go_loopw [4,5,6,7,12] (fun _ _ _ _ i wr=>∃ k:Nat,i=.int .i64 k/\k<=l.length/\Hid (Made w0 wr l k)) (fun _ _ _ _ i _=>l.length - (intOf i).toNat)
 case atStart=>exact ⟨0,rfl,by omega,⟨_,_,[],[],V bg,by simp,by simp⟩⟩
 case round =>
  clear bg;obtain ⟨k,rfl,hk,aB⟩:=hrel;by_cases hlt:k<l.length
  ·obtain ⟨cv,ov,ah,ae,aj,e1,e2⟩:=V aB;obtain ⟨cC,cF⟩:=y0H e1 e2 hl;obtain ⟨b,off,bQ,ev,_,_,aJ⟩:=(V HV).place (by omega);simp only [Value.slice.injEq] at ev;obtain ⟨rfl,_,rfl⟩:=ev;have aK:=aJ k hlt;have bU:=aK.below aj.bel;obtain ⟨vt,x40,aR⟩:=aK.to;have aF:=V aV k hlt;have a9:=V aI k hlt;have cp:=V bM k hlt;have h7:=V bI k hlt;obtain ⟨ab,aa,rfl,_,_⟩:=aR.shape;have x4:wr.cell? ⟨b,off+k * 8+4,none⟩=some (.slice ab (l.getD k Cn.none).to.length aa):=(by rw [aj.bel.cell (x0a x40)]; exact x40);obtain ⟨x0,x1,x2,x3,_,x5,x6,x7⟩:=bU;generalize l.getD k Cn.none=r at *;have b7:=O aR;have co:Sk .i32 w0 (sval (r,ab,r.to.length,aa)) r.to/\RecFit r:=⟨aR,aF⟩;have aC:=O co;have cz:Bw wr (wr.alloc (.cells #[.int .i64 r.kind,.int .i64 r.lo,.int .i64 r.hi,.int .i64 r.n,.slice ab r.to.length aa,.string r.name,.string r.other,.float .f64 r.wt] 50)):=(b0r).alloc (l0r _) _;have bp:=aj.below cz;have aQ:(wr.alloc (.cells #[.int .i64 r.kind,.int .i64 r.lo,.int .i64 r.hi,.int .i64 r.n,.slice ab r.to.length aa,.string r.name,.string r.other,.float .f64 r.wt] 50)).heap.size=wr.heap.size+1:=(by simp);have al:=O (fun W c cv' ov' cxs' oxs' (h:NI w0 W c cv' ov' cxs' oxs') hc h1 h2=>Made.next (wr:=W) (c:=c) (cv:=cv') (ov:=ov') (cxs':=cxs') (oxs':=oxs') a9 h hc e1 e2 h1 h2);have hbs:=aj.bel.size;obtain ⟨an,ad,rfl,hcc1,hcc2⟩:=aj.hc.shape;obtain ⟨ak,ac,rfl,hoc1,hoc2⟩:=aj.ho.shape;have cg:∀ W a m,(store a (.float .f64 r.wt) m).run prog W=stored prog W a (.float .f64 r.wt) m:=fun W a m=>run_store prog W a _ m rfl;have au:=O (x6A (r,ab,r.to.length,aa));have av:=O bp;clear aK aJ x40 aR aF a9 aj e1 e2 co aB aV aI bM bI HV bv cw bf bp;by_cases k6:r.kind=6
   ·have af:=av;clear h7;obtain ⟨kd,lo,hi,nn,tq,nm,ot,wt⟩:=r;dsimp only at *;subst k6;have y0:(wr.alloc (.cells #[.int .i64 6,.int .i64 lo,.int .i64 hi,.int .i64 nn,.slice ab tq.length aa,.string nm,.string ot,.float .f64 wt] 50)).cell? ⟨w0.heap.size+1+1,0,none⟩=some (.slice an ah.length ad):=cell_of (j:=0) (V af).hx (by show 0<3; omega);have ar:Hid (∀ o,((wr.alloc (.cells #[.int .i64 6,.int .i64 lo,.int .i64 hi,.int .i64 nn,.slice ab tq.length aa,.string nm,.string ot,.float .f64 wt] 50)).alloc o).ownsRow w0.heap.size 50 8 (.slice an ah.length ad) ah.length (ah.flatMap encR)):=fun o=>(V af).hc.1.alloc o;have am:=O (x2r (wr.alloc (.cells #[.int .i64 6,.int .i64 lo,.int .i64 hi,.int .i64 nn,.slice ab tq.length aa,.string nm,.string ot,.float .f64 wt] 50)) (⟨6,lo,hi,nn,tq,nm,ot,wt⟩:Rec) ab aa (wr.heap.size+1) (by first | rfl | exact aQ));have ag:=O (fun o v' w1 a b c=>(V af).classes (o:=o) (v':=v') (w1:=w1) (V aC) a b c);have aY:=(V af).bel.size;clear af aC av;go_wp2_with (at_builtin; refine wpList_append_own_at _ rfl (.tmp 22) (.tmp 24) 22 rfl w0.heap.size 50 i1 (.agg #[.int .i64 0,.int .i64 0,.int .i64 0,.int .i64 0,.slice none 0 0,.string ⟨#[]⟩,.string ⟨#[]⟩,.float .f64 0]) 8 96 underlying22 hj ba bb bc rfl (by decide) _ _ _ rfl (V ar _) ⟨wr.heap.size+1,0,none⟩ 1 1 (encR ((⟨6,lo,hi,nn,tq,nm,ot,wt⟩:Rec),ab,tq.length,aa)) rfl rfl (V am) (V au) (by unfold maxLen; omega) (by omega) (by simp; omega) ?_);intro v' w9 ai ay _ aq;obtain ⟨aw,aA⟩:=V ag _ v' w9 ai ay (by first | exact aq | simpa using aq);have aH:Hid (Made w0 (w9.setCell ⟨w0.heap.size+1+1,0,none⟩ v') l (k+1)):=V al _ _ _ _ _ _ aA (Cn.x2m (by simp)).symm (by simp [is6]) (by simp [is78]);obtain ⟨bP,aX,rfl,_,_⟩:=aA.hc.shape;have z0:w9.cell? ⟨w0.heap.size+1+1,0,none⟩=some (.slice an ah.length ad):=cell_of (j:=0) aw (by show 0<3; omega);have zf:=x0e (j:=0) aw;clear ar am ag ai ay aq aw aA al au y0;generalize (ah++[((⟨6,lo,hi,nn,tq,nm,ot,wt⟩:Rec),ab,tq.length,aa)]).length=m9 at *;go_wp2
    go_roundw
    case rel=>exact ⟨k+1,by go_num,by omega,aH⟩
    case measure=>simp [intOf]; omega
   ·have q6:(r.kind==6)=false:=b0f k6;by_cases k7:r.kind=7
    ·obtain ⟨br,ck,cm⟩:=h7 k7;clear q6 h7;obtain ⟨kd,lo,hi,nn,tq,nm,ot,wt⟩:=r;dsimp only at *;subst k7
     have bl:(wr.alloc (.cells #[.int .i64 7,.int .i64 lo,.int .i64 hi,.int .i64 nn,.slice ab tq.length aa,.string nm,.string ot,.float .f64 wt] 50)).heap[wr.heap.size]?=some (.cells #[.int .i64 7,.int .i64 lo,.int .i64 hi,.int .i64 nn,.slice ab tq.length aa,.string nm,.string ot,.float .f64 wt] 50 (0,0)):=by
      show (wr.heap.push _)[wr.heap.size]?=_;simp
     have a7:Hid (∀ W:World,W.heap[wr.heap.size]?=some (.cells #[.int .i64 7,.int .i64 lo,.int .i64 hi,.int .i64 nn,.slice ab tq.length aa,.string nm,.string ot,.float .f64 wt] 50 (0,0))->W.cell? ⟨wr.heap.size,0,none⟩=some (.int .i64 7)/\W.cell? ⟨wr.heap.size,1,none⟩=some (.int .i64 lo)/\W.cell? ⟨wr.heap.size,2,none⟩=some (.int .i64 hi)/\W.cell? ⟨wr.heap.size,3,none⟩=some (.int .i64 nn)/\W.cell? ⟨wr.heap.size,4,none⟩=some (.slice ab tq.length aa)/\W.cell? ⟨wr.heap.size,5,none⟩=some (.string nm)/\W.cell? ⟨wr.heap.size,6,none⟩=some (.string ot)/\W.cell? ⟨wr.heap.size,7,none⟩=some (.float .f64 wt)):=fun W hW=>⟨cell_of (j:=0) hW (by show 0<8; omega),cell_of (j:=1) hW (by show 1<8; omega),cell_of (j:=2) hW (by show 2<8; omega),cell_of (j:=3) hW (by show 3<8; omega),cell_of (j:=4) hW (by show 4<8; omega),cell_of (j:=5) hW (by show 5<8; omega),cell_of (j:=6) hW (by show 6<8; omega),cell_of (j:=7) hW (by show 7<8; omega)⟩;have bD:Hid (∀ W:World,Below (wr.alloc (.cells #[.int .i64 7,.int .i64 lo,.int .i64 hi,.int .i64 nn,.slice ab tq.length aa,.string nm,.string ot,.float .f64 wt] 50)).heap.size (wr.alloc (.cells #[.int .i64 7,.int .i64 lo,.int .i64 hi,.int .i64 nn,.slice ab tq.length aa,.string nm,.string ot,.float .f64 wt] 50)) W->W.heap[wr.heap.size]?=some (.cells #[.int .i64 7,.int .i64 lo,.int .i64 hi,.int .i64 nn,.slice ab tq.length aa,.string nm,.string ot,.float .f64 wt] 50 (0,0))):=fun W hW=>(by rw [hW.block _ (by rw [aQ]; omega)]; exact bl);have ax:Hid (∀ W:World,Below (wr.alloc (.cells #[.int .i64 7,.int .i64 lo,.int .i64 hi,.int .i64 nn,.slice ab tq.length aa,.string nm,.string ot,.float .f64 wt] 50)).heap.size (wr.alloc (.cells #[.int .i64 7,.int .i64 lo,.int .i64 hi,.int .i64 nn,.slice ab tq.length aa,.string nm,.string ot,.float .f64 wt] 50)) W->NI w0 W (Cn.firstP (l.take k)) (.slice an ah.length ad) (.slice ak ae.length ac) ah ae):=fun W hW=>(V av).below hW
     have HS:Hid (∀ W:World,Below (wr.alloc (.cells #[.int .i64 7,.int .i64 lo,.int .i64 hi,.int .i64 nn,.slice ab tq.length aa,.string nm,.string ot,.float .f64 wt] 50)).heap.size (wr.alloc (.cells #[.int .i64 7,.int .i64 lo,.int .i64 hi,.int .i64 nn,.slice ab tq.length aa,.string nm,.string ot,.float .f64 wt] 50)) W->(W.cell? ⟨wr.heap.size,0,none⟩=some (.int .i64 7)/\W.cell? ⟨wr.heap.size,1,none⟩=some (.int .i64 lo)/\W.cell? ⟨wr.heap.size,2,none⟩=some (.int .i64 hi)/\W.cell? ⟨wr.heap.size,3,none⟩=some (.int .i64 nn)/\W.cell? ⟨wr.heap.size,4,none⟩=some (.slice ab tq.length aa)/\W.cell? ⟨wr.heap.size,5,none⟩=some (.string nm)/\W.cell? ⟨wr.heap.size,6,none⟩=some (.string ot)/\W.cell? ⟨wr.heap.size,7,none⟩=some (.float .f64 wt)/\W.cell? ⟨w0.heap.size+1+1,2,none⟩=some (.map (some (w0.heap.size+1)))/\Hid (Below (wr.alloc (.cells #[.int .i64 7,.int .i64 lo,.int .i64 hi,.int .i64 nn,.slice ab tq.length aa,.string nm,.string ot,.float .f64 wt] 50)).heap.size (wr.alloc (.cells #[.int .i64 7,.int .i64 lo,.int .i64 hi,.int .i64 nn,.slice ab tq.length aa,.string nm,.string ot,.float .f64 wt] 50)) W))):=fun W hW=>by
      obtain ⟨s0,s1,s2,s3,s4,s5,s6,s7⟩:=V a7 W (V bD W hW);exact ⟨s0,s1,s2,s3,s4,s5,s6,s7,cell_of (j:=2) (V ax W hW).hx (by show 2<3; omega),hW⟩
     have bz:Hid (∀ W:World,Bw w0 W->Calls prog 109 #[.agg #[.int .i64 7,.int .i64 lo,.int .i64 hi,.int .i64 nn,.slice ab tq.length aa,.string nm,.string ot,.float .f64 wt]] W (fun e w'=>e=.returned (pk2 (tq.getD 0 0) (tq.getD 1 0))/\Bw W w')):=fun W hW=>x6h (⟨7,lo,hi,nn,tq,nm,ot,wt⟩:Rec) _ W ((V b7).below hW) br;have bH:Hid (∀ W:World,Below (wr.alloc (.cells #[.int .i64 7,.int .i64 lo,.int .i64 hi,.int .i64 nn,.slice ab tq.length aa,.string nm,.string ot,.float .f64 wt] 50)).heap.size (wr.alloc (.cells #[.int .i64 7,.int .i64 lo,.int .i64 hi,.int .i64 nn,.slice ab tq.length aa,.string nm,.string ot,.float .f64 wt] 50)) W->(Instr.lookup 116 (.map (some (w0.heap.size+1))) (pk2 (tq.getD 0 0) (tq.getD 1 0)) true).run prog W=.ok (.tuple #[.int .i64 ((Cn.firstP (l.take k) (tq.getD 0 0) (tq.getD 1 0)).getD 0),.bool (Cn.firstP (l.take k) (tq.getD 0 0) (tq.getD 1 0)).isSome]) W):=fun W hW=>(look_ok (V ax W hW).hm ck cm).1;have bG:Hid ((Cn.firstP (l.take k) (tq.getD 0 0) (tq.getD 1 0)).isSome=true->Cn.firstP (l.take k++[(⟨7,lo,hi,nn,tq,nm,ot,wt⟩:Rec)])=Cn.firstP (l.take k)):=fun h=>Cn.x7L (r:=(⟨7,lo,hi,nn,tq,nm,ot,wt⟩:Rec)) h
     have bN:Hid ((Cn.firstP (l.take k) (tq.getD 0 0) (tq.getD 1 0)).isSome=false->∀ W:World,Below (wr.alloc (.cells #[.int .i64 7,.int .i64 lo,.int .i64 hi,.int .i64 nn,.slice ab tq.length aa,.string nm,.string ot,.float .f64 wt] 50)).heap.size (wr.alloc (.cells #[.int .i64 7,.int .i64 lo,.int .i64 hi,.int .i64 nn,.slice ab tq.length aa,.string nm,.string ot,.float .f64 wt] 50)) W->∃ bA clock',(Instr.mapUpdate 116 (.map (some (w0.heap.size+1))) (pk2 (tq.getD 0 0) (tq.getD 1 0)) (.int .i64 (k:Int))).run prog W=.ok () (setBlock W (w0.heap.size+1) (.map bA clock'))/\NI w0 (setBlock W (w0.heap.size+1) (.map bA clock')) (Cn.firstP (l.take k++[(⟨7,lo,hi,nn,tq,nm,ot,wt⟩:Rec)])) (.slice an ah.length ad) (.slice ak ae.length ac) ah ae):=fun h W hW=>by
      have hn:Cn.firstP (l.take k) (tq.getD 0 0) (tq.getD 1 0)=none:=(by simpa using h);obtain ⟨bA,cy,g1,g2⟩:=y2s (V ax W hW).hm ck cm hn (k:Int);have bX:=(V ax W hW).upd g2;have e5:=Cn.y1G (r:=(⟨7,lo,hi,nn,tq,nm,ot,wt⟩:Rec)) (l:=l.take k) rfl hn;rw [cp] at e5;refine ⟨bA,cy,g1,?_⟩;rw [e5];exact bX
     have bx:Hid (∀ W:World,Below (wr.alloc (.cells #[.int .i64 7,.int .i64 lo,.int .i64 hi,.int .i64 nn,.slice ab tq.length aa,.string nm,.string ot,.float .f64 wt] 50)).heap.size (wr.alloc (.cells #[.int .i64 7,.int .i64 lo,.int .i64 hi,.int .i64 nn,.slice ab tq.length aa,.string nm,.string ot,.float .f64 wt] 50)) W->Bw w0 W):=fun W hW=>(V ax W hW).bel;clear bl b7 br cp;generalize (Cn.firstP (l.take k) (tq.getD 0 0) (tq.getD 1 0)).getD 0=zf at *;generalize (Cn.firstP (l.take k) (tq.getD 0 0) (tq.getD 1 0)).isSome=kn at *;generalize tq.getD 0 0=pa at *;generalize tq.getD 1 0=pb at *;unfold pk2 at *;have bn:Below (wr.alloc (.cells #[.int .i64 7,.int .i64 lo,.int .i64 hi,.int .i64 nn,.slice ab tq.length aa,.string nm,.string ot,.float .f64 wt] 50)).heap.size (wr.alloc (.cells #[.int .i64 7,.int .i64 lo,.int .i64 hi,.int .i64 nn,.slice ab tq.length aa,.string nm,.string ot,.float .f64 wt] 50)) (wr.alloc (.cells #[.int .i64 7,.int .i64 lo,.int .i64 hi,.int .i64 nn,.slice ab tq.length aa,.string nm,.string ot,.float .f64 wt] 50)).drew:=x0k ⟨1,rfl⟩;have aG:=O (V HS _ bn);have ca:=O (V bz _ (V bx _ bn));go_wp2;refine wp_region_held_drew (S:=fun w'=>w'.cell? ⟨wr.heap.size,0,none⟩=some (.int .i64 7)/\w'.cell? ⟨wr.heap.size,1,none⟩=some (.int .i64 lo)/\w'.cell? ⟨wr.heap.size,2,none⟩=some (.int .i64 hi)/\w'.cell? ⟨wr.heap.size,3,none⟩=some (.int .i64 nn)/\w'.cell? ⟨wr.heap.size,4,none⟩=some (.slice ab tq.length aa)/\w'.cell? ⟨wr.heap.size,5,none⟩=some (.string nm)/\w'.cell? ⟨wr.heap.size,6,none⟩=some (.string ot)/\w'.cell? ⟨wr.heap.size,7,none⟩=some (.float .f64 wt)/\w'.cell? ⟨w0.heap.size+1+1,2,none⟩=some (.map (some (w0.heap.size+1)))/\Hid (Below (wr.alloc (.cells #[.int .i64 7,.int .i64 lo,.int .i64 hi,.int .i64 nn,.slice ab tq.length aa,.string nm,.string ot,.float .f64 wt] 50)).heap.size (wr.alloc (.cells #[.int .i64 7,.int .i64 lo,.int .i64 hi,.int .i64 nn,.slice ab tq.length aa,.string nm,.string ot,.float .f64 wt] 50)) w')) (by kernel_rfl) (V aG) (fun hHeld=>?_);refine tk9 0 (.pointer (some ⟨w0.heap.size+1+1,2,none⟩)) ?_ (hy:=by (intro w aD; obtain ⟨s0,s1,s2,s3,s4,s5,s6,s7,s8,s9⟩:=aD; go_simp));refine tk9 1 (.map (some (w0.heap.size+1))) ?_ (hy:=by (intro w aD; obtain ⟨s0,s1,s2,s3,s4,s5,s6,s7,s8,s9⟩:=aD; go_simp));refine tk9 2 (.agg #[.int .i64 7,.int .i64 lo,.int .i64 hi,.int .i64 nn,.slice ab tq.length aa,.string nm,.string ot,.float .f64 wt]) ?_ (hy:=by (intro w aD; obtain ⟨s0,s1,s2,s3,s4,s5,s6,s7,s8,s9⟩:=aD; go_simp));refine rd9 3 fun K hK=>?_;go_simp;refine (V ca).mono ?_;rintro e W2 ⟨rfl,aO⟩;have bj:Below (wr.alloc (.cells #[.int .i64 7,.int .i64 lo,.int .i64 hi,.int .i64 nn,.slice ab tq.length aa,.string nm,.string ot,.float .f64 wt] 50)).heap.size (wr.alloc (.cells #[.int .i64 7,.int .i64 lo,.int .i64 hi,.int .i64 nn,.slice ab tq.length aa,.string nm,.string ot,.float .f64 wt] 50)) W2:=x0b bn aO;have bE:=O (V HS W2 bj);refine hK.out _ _ ?_ (fun hHeld=>?_)
     ·exact V bE
     clear hK K
     try simp only [Act.put,sa9,sb9,sc9]
     refine tk9 4 (.tuple #[.int .i64 zf,.bool kn]) ?_ (hy:=by (intro w aD; obtain ⟨s0,s1,s2,s3,s4,s5,s6,s7,s8,s9⟩:=aD; have hlk:=V bH w (V s9); go_simp));refine tk9 5 (.tuple #[.int .i64 zf,.bool kn]) ?_;refine tk9 6 (.int .i64 zf) ?_;refine tk9 7 (.bool kn) ?_;refine tk9 8 (.int .i64 zf) ?_;refine tk9 9 (.bool kn) ?_;refine wpAnyH_done (by kernel_rfl) ?_ _;obtain ⟨t0,t1,t2,t3,t4,t5,t6,t7,t8,_⟩:=V bE;clear bE aG ca hHeld;cases kn
     ·obtain cq:=V bN rfl;have bB:Below (wr.alloc (.cells #[.int .i64 7,.int .i64 lo,.int .i64 hi,.int .i64 nn,.slice ab tq.length aa,.string nm,.string ot,.float .f64 wt] 50)).heap.size (wr.alloc (.cells #[.int .i64 7,.int .i64 lo,.int .i64 hi,.int .i64 nn,.slice ab tq.length aa,.string nm,.string ot,.float .f64 wt] 50)) W2.drew:=x0b bj (x0k ⟨1,rfl⟩)
      have aG:Hid (W2.drew.cell? ⟨wr.heap.size,0,none⟩=some (.int .i64 7)/\W2.drew.cell? ⟨wr.heap.size,1,none⟩=some (.int .i64 lo)/\W2.drew.cell? ⟨wr.heap.size,2,none⟩=some (.int .i64 hi)/\W2.drew.cell? ⟨wr.heap.size,3,none⟩=some (.int .i64 nn)/\W2.drew.cell? ⟨wr.heap.size,4,none⟩=some (.slice ab tq.length aa)/\W2.drew.cell? ⟨wr.heap.size,5,none⟩=some (.string nm)/\W2.drew.cell? ⟨wr.heap.size,6,none⟩=some (.string ot)/\W2.drew.cell? ⟨wr.heap.size,7,none⟩=some (.float .f64 wt)/\W2.drew.cell? ⟨w0.heap.size+1+1,2,none⟩=some (.map (some (w0.heap.size+1)))):=by
       obtain ⟨s0,s1,s2,s3,s4,s5,s6,s7,s8,_⟩:=V HS _ bB;exact ⟨s0,s1,s2,s3,s4,s5,s6,s7,s8⟩
      have cb:=O (V bz _ (V bx _ bB));have bi:=O cq;clear cq;go_wp2;refine wp_region_held_drew (S:=fun w'=>w'.cell? ⟨wr.heap.size,0,none⟩=some (.int .i64 7)/\w'.cell? ⟨wr.heap.size,1,none⟩=some (.int .i64 lo)/\w'.cell? ⟨wr.heap.size,2,none⟩=some (.int .i64 hi)/\w'.cell? ⟨wr.heap.size,3,none⟩=some (.int .i64 nn)/\w'.cell? ⟨wr.heap.size,4,none⟩=some (.slice ab tq.length aa)/\w'.cell? ⟨wr.heap.size,5,none⟩=some (.string nm)/\w'.cell? ⟨wr.heap.size,6,none⟩=some (.string ot)/\w'.cell? ⟨wr.heap.size,7,none⟩=some (.float .f64 wt)/\w'.cell? ⟨w0.heap.size+1+1,2,none⟩=some (.map (some (w0.heap.size+1)))) (by kernel_rfl) (V aG) (fun hHeld=>?_);refine tk9 0 (.pointer (some ⟨w0.heap.size+1+1,2,none⟩)) ?_ (hy:=by (intro w aD; obtain ⟨s0,s1,s2,s3,s4,s5,s6,s7,s8⟩:=aD; go_simp));refine tk9 1 (.map (some (w0.heap.size+1))) ?_ (hy:=by (intro w aD; obtain ⟨s0,s1,s2,s3,s4,s5,s6,s7,s8⟩:=aD; go_simp));refine tk9 2 (.agg #[.int .i64 7,.int .i64 lo,.int .i64 hi,.int .i64 nn,.slice ab tq.length aa,.string nm,.string ot,.float .f64 wt]) ?_ (hy:=by (intro w aD; obtain ⟨s0,s1,s2,s3,s4,s5,s6,s7,s8⟩:=aD; go_simp));refine tk9 4 (.int .i64 (k:Int)) ?_;refine rd9 3 fun K hK=>?_;go_simp;refine (V cb).mono ?_;rintro e W3 ⟨rfl,a8⟩;have aN:Below (wr.alloc (.cells #[.int .i64 7,.int .i64 lo,.int .i64 hi,.int .i64 nn,.slice ab tq.length aa,.string nm,.string ot,.float .f64 wt] 50)).heap.size (wr.alloc (.cells #[.int .i64 7,.int .i64 lo,.int .i64 hi,.int .i64 nn,.slice ab tq.length aa,.string nm,.string ot,.float .f64 wt] 50)) W3:=x0b bB a8;obtain ⟨aM,aL,cG,bq⟩:=V bi W3 aN;have bh:=O bq
      have b2:Hid (W3.cell? ⟨wr.heap.size,0,none⟩=some (.int .i64 7)/\W3.cell? ⟨wr.heap.size,1,none⟩=some (.int .i64 lo)/\W3.cell? ⟨wr.heap.size,2,none⟩=some (.int .i64 hi)/\W3.cell? ⟨wr.heap.size,3,none⟩=some (.int .i64 nn)/\W3.cell? ⟨wr.heap.size,4,none⟩=some (.slice ab tq.length aa)/\W3.cell? ⟨wr.heap.size,5,none⟩=some (.string nm)/\W3.cell? ⟨wr.heap.size,6,none⟩=some (.string ot)/\W3.cell? ⟨wr.heap.size,7,none⟩=some (.float .f64 wt)/\W3.cell? ⟨w0.heap.size+1+1,2,none⟩=some (.map (some (w0.heap.size+1)))):=by
       obtain ⟨s0,s1,s2,s3,s4,s5,s6,s7,s8,_⟩:=V HS _ aN;exact ⟨s0,s1,s2,s3,s4,s5,s6,s7,s8⟩
      have bF:Hid ((setBlock W3 (w0.heap.size+1) (.map aM aL)).cell? ⟨wr.heap.size,0,none⟩=some (.int .i64 7)/\(setBlock W3 (w0.heap.size+1) (.map aM aL)).cell? ⟨wr.heap.size,1,none⟩=some (.int .i64 lo)/\(setBlock W3 (w0.heap.size+1) (.map aM aL)).cell? ⟨wr.heap.size,2,none⟩=some (.int .i64 hi)/\(setBlock W3 (w0.heap.size+1) (.map aM aL)).cell? ⟨wr.heap.size,3,none⟩=some (.int .i64 nn)/\(setBlock W3 (w0.heap.size+1) (.map aM aL)).cell? ⟨wr.heap.size,4,none⟩=some (.slice ab tq.length aa)/\(setBlock W3 (w0.heap.size+1) (.map aM aL)).cell? ⟨wr.heap.size,5,none⟩=some (.string nm)/\(setBlock W3 (w0.heap.size+1) (.map aM aL)).cell? ⟨wr.heap.size,6,none⟩=some (.string ot)/\(setBlock W3 (w0.heap.size+1) (.map aM aL)).cell? ⟨wr.heap.size,7,none⟩=some (.float .f64 wt)/\(setBlock W3 (w0.heap.size+1) (.map aM aL)).cell? ⟨w0.heap.size+1+1,2,none⟩=some (.map (some (w0.heap.size+1)))):=by
       obtain ⟨s0,s1,s2,s3,s4,s5,s6,s7,s8,_⟩:=V HS _ aN;have aU:wr.heap.size≠w0.heap.size+1:=(by have:=x0w (V av).hx; rw [aQ] at this; omega);have bR:w0.heap.size+2≠w0.heap.size+1:=(by omega);exact ⟨x0V _ aU s0,x0V _ aU s1,x0V _ aU s2,x0V _ aU s3,x0V _ aU s4,x0V _ aU s5,x0V _ aU s6,x0V _ aU s7,x0V _ bR s8⟩
      clear bq;refine hK.out _ _ ?_ (fun hHeld=>?_)
      ·exact V b2
      clear hK K
      try simp only [Act.put,sa9,sb9,sc9]
      refine rd9 5 fun K hK=>?_;go_simp;refine hK.out _ _ ?_ (fun hHeld=>?_)
      ·exact V bF
      clear hK K
      try simp only [Act.put,sa9,sb9,sc9]
      refine wpAnyH_done (by kernel_rfl) ?_ _;obtain ⟨u0,u1,u2,u3,u4,u5,u6,u7,u8⟩:=V bF;have af:=bh;clear bF b2 aG cb hHeld bi bN bG bH HS a7 bD ax bz bx t0 t1 t2 t3 t4 t5 t6 t7 t8 bh cG aN bB bj bn;generalize setBlock W3 (w0.heap.size+1) (.map aM aL)=W5 at *;have y0:W5.cell? ⟨w0.heap.size+1+1,1,none⟩=some (.slice ak ae.length ac):=cell_of (j:=1) (V af).hx (by show 1<3; omega);have ar:Hid (∀ o,(W5.alloc o).ownsRow w0.heap.size 50 8 (.slice ak ae.length ac) ae.length (ae.flatMap encR)):=fun o=>(V af).ho.1.alloc o;have am:=O (x2r W5 (⟨7,lo,hi,nn,tq,nm,ot,wt⟩:Rec) ab aa (W5.heap.size) (by first | rfl | exact aQ));have ag:=O (fun o v' w1 a b c=>(V af).opens (o:=o) (v':=v') (w1:=w1) (V aC) a b c);have aY:=(V af).bel.size;clear af aC av;go_wp2_with (at_builtin; refine wpList_append_own_at _ rfl (.tmp 45) (.tmp 47) 22 rfl w0.heap.size 50 i1 (.agg #[.int .i64 0,.int .i64 0,.int .i64 0,.int .i64 0,.slice none 0 0,.string ⟨#[]⟩,.string ⟨#[]⟩,.float .f64 0]) 8 96 underlying22 hj ba bb bc rfl (by decide) _ _ _ rfl (V ar _) ⟨W5.heap.size,0,none⟩ 1 1 (encR ((⟨7,lo,hi,nn,tq,nm,ot,wt⟩:Rec),ab,tq.length,aa)) rfl rfl (V am) (V au) (by unfold maxLen; omega) (by omega) (by simp; omega) ?_);intro v' w9 ai ay _ aq;obtain ⟨aw,aA⟩:=V ag _ v' w9 ai ay (by first | exact aq | simpa using aq);have aH:Hid (Made w0 (w9.setCell ⟨w0.heap.size+1+1,1,none⟩ v') l (k+1)):=V al _ _ _ _ _ _ aA rfl (by simp [is6]) (by simp [is78]);obtain ⟨bP,aX,rfl,_,_⟩:=aA.ho.shape;have z0:w9.cell? ⟨w0.heap.size+1+1,1,none⟩=some (.slice ak ae.length ac):=cell_of (j:=1) aw (by show 1<3; omega);have zf:=x0e (j:=1) aw;clear ar am ag ai ay aq aw aA al au y0;generalize (ae++[((⟨7,lo,hi,nn,tq,nm,ot,wt⟩:Rec),ab,tq.length,aa)]).length=m9 at *;go_wp2
      go_roundw
      case rel=>exact ⟨k+1,by go_num,by omega,aH⟩
      case measure=>simp [intOf]; omega
     ·have cD:=V bG rfl;have af:=O (V ax W2 bj);clear bN bG bH HS a7 bD ax bz bx bj bn;have y0:W2.cell? ⟨w0.heap.size+1+1,1,none⟩=some (.slice ak ae.length ac):=cell_of (j:=1) (V af).hx (by show 1<3; omega);have ar:Hid (∀ o,(W2.alloc o).ownsRow w0.heap.size 50 8 (.slice ak ae.length ac) ae.length (ae.flatMap encR)):=fun o=>(V af).ho.1.alloc o;have am:=O (x2r W2 (⟨7,lo,hi,nn,tq,nm,ot,wt⟩:Rec) ab aa (W2.heap.size) (by first | rfl | exact aQ));have ag:=O (fun o v' w1 a b c=>(V af).opens (o:=o) (v':=v') (w1:=w1) (V aC) a b c);have aY:=(V af).bel.size;clear af aC av;go_wp2_with (at_builtin; refine wpList_append_own_at _ rfl (.tmp 45) (.tmp 47) 22 rfl w0.heap.size 50 i1 (.agg #[.int .i64 0,.int .i64 0,.int .i64 0,.int .i64 0,.slice none 0 0,.string ⟨#[]⟩,.string ⟨#[]⟩,.float .f64 0]) 8 96 underlying22 hj ba bb bc rfl (by decide) _ _ _ rfl (V ar _) ⟨W2.heap.size,0,none⟩ 1 1 (encR ((⟨7,lo,hi,nn,tq,nm,ot,wt⟩:Rec),ab,tq.length,aa)) rfl rfl (V am) (V au) (by unfold maxLen; omega) (by omega) (by simp; omega) ?_);intro v' w9 ai ay _ aq;obtain ⟨aw,aA⟩:=V ag _ v' w9 ai ay (by first | exact aq | simpa using aq);have aH:Hid (Made w0 (w9.setCell ⟨w0.heap.size+1+1,1,none⟩ v') l (k+1)):=V al _ _ _ _ _ _ aA cD.symm (by simp [is6]) (by simp [is78]);obtain ⟨bP,aX,rfl,_,_⟩:=aA.ho.shape;have z0:w9.cell? ⟨w0.heap.size+1+1,1,none⟩=some (.slice ak ae.length ac):=cell_of (j:=1) aw (by show 1<3; omega);have zf:=x0e (j:=1) aw;clear ar am ag ai ay aq aw aA al au y0;generalize (ae++[((⟨7,lo,hi,nn,tq,nm,ot,wt⟩:Rec),ab,tq.length,aa)]).length=m9 at *;go_wp2
      go_roundw
      case rel=>exact ⟨k+1,by go_num,by omega,aH⟩
      case measure=>simp [intOf]; omega
    ·have q7:(r.kind==7)=false:=b0f k7;clear h7;by_cases k8:r.kind=8
     ·have af:=av;clear q6 q7;obtain ⟨kd,lo,hi,nn,tq,nm,ot,wt⟩:=r;dsimp only at *;subst k8;have y0:(wr.alloc (.cells #[.int .i64 8,.int .i64 lo,.int .i64 hi,.int .i64 nn,.slice ab tq.length aa,.string nm,.string ot,.float .f64 wt] 50)).cell? ⟨w0.heap.size+1+1,1,none⟩=some (.slice ak ae.length ac):=cell_of (j:=1) (V af).hx (by show 1<3; omega);have ar:Hid (∀ o,((wr.alloc (.cells #[.int .i64 8,.int .i64 lo,.int .i64 hi,.int .i64 nn,.slice ab tq.length aa,.string nm,.string ot,.float .f64 wt] 50)).alloc o).ownsRow w0.heap.size 50 8 (.slice ak ae.length ac) ae.length (ae.flatMap encR)):=fun o=>(V af).ho.1.alloc o;have am:=O (x2r (wr.alloc (.cells #[.int .i64 8,.int .i64 lo,.int .i64 hi,.int .i64 nn,.slice ab tq.length aa,.string nm,.string ot,.float .f64 wt] 50)) (⟨8,lo,hi,nn,tq,nm,ot,wt⟩:Rec) ab aa (wr.heap.size+1) (by first | rfl | exact aQ));have ag:=O (fun o v' w1 a b c=>(V af).opens (o:=o) (v':=v') (w1:=w1) (V aC) a b c);have aY:=(V af).bel.size;clear af aC av;go_wp2_with (at_builtin; refine wpList_append_own_at _ rfl (.tmp 53) (.tmp 55) 22 rfl w0.heap.size 50 i1 (.agg #[.int .i64 0,.int .i64 0,.int .i64 0,.int .i64 0,.slice none 0 0,.string ⟨#[]⟩,.string ⟨#[]⟩,.float .f64 0]) 8 96 underlying22 hj ba bb bc rfl (by decide) _ _ _ rfl (V ar _) ⟨wr.heap.size+1,0,none⟩ 1 1 (encR ((⟨8,lo,hi,nn,tq,nm,ot,wt⟩:Rec),ab,tq.length,aa)) rfl rfl (V am) (V au) (by unfold maxLen; omega) (by omega) (by simp; omega) ?_);intro v' w9 ai ay _ aq;obtain ⟨aw,aA⟩:=V ag _ v' w9 ai ay (by first | exact aq | simpa using aq);have aH:Hid (Made w0 (w9.setCell ⟨w0.heap.size+1+1,1,none⟩ v') l (k+1)):=V al _ _ _ _ _ _ aA (Cn.x2m (by simp)).symm (by simp [is6]) (by simp [is78]);obtain ⟨bP,aX,rfl,_,_⟩:=aA.ho.shape;have z0:w9.cell? ⟨w0.heap.size+1+1,1,none⟩=some (.slice ak ae.length ac):=cell_of (j:=1) aw (by show 1<3; omega);have zf:=x0e (j:=1) aw;clear ar am ag ai ay aq aw aA al au y0;generalize (ae++[((⟨8,lo,hi,nn,tq,nm,ot,wt⟩:Rec),ab,tq.length,aa)]).length=m9 at *;go_wp2
      go_roundw
      case rel=>exact ⟨k+1,by go_num,by omega,aH⟩
      case measure=>simp [intOf]; omega
     ·have q8:(r.kind==8)=false:=b0f k8;have aH:Hid (Made w0 (wr.alloc (.cells #[.int .i64 r.kind,.int .i64 r.lo,.int .i64 r.hi,.int .i64 r.n,.slice ab r.to.length aa,.string r.name,.string r.other,.float .f64 r.wt] 50)) l (k+1)):=V al _ _ _ _ ah ae (V av) (Cn.x2m (by omega)).symm (by simp [is6,k6]) (by simp [is78,k7,k8]);clear al av aC au;go_wp2
      go_roundw
      case rel=>exact ⟨k+1,by go_num,by omega,aH⟩
      case measure=>simp [intOf]; omega
  ·obtain rfl:k=l.length:=(by omega);obtain ⟨cv,ov,ah,ae,aj,e1,e2⟩:=V aB;obtain ⟨cC,cF⟩:=y0H e1 e2 hl;rw [List.take_length] at aj e1 e2;have K1:=O (y0X w0 wr cv ah aj.hc (by omega));obtain ⟨an,ad,rfl,_,_⟩:=aj.hc.shape;obtain ⟨ak,ac,rfl,_,_⟩:=aj.ho.shape;have y0:wr.cell? ⟨w0.heap.size+1+1,0,none⟩=some (.slice an ah.length ad):=cell_of (j:=0) aj.hx (by show 0<3; omega);have aT:=aj.far aj.hc;have bm:∀ g,(Value.slice an ah.length ad).ownBlock=some g->g<wr.heap.size:=fun g hg=>(aj.hc.1.lt g hg).2;have bs:=O aT;have cu:=O bm;clear aT bm;have bt:=O (aj.far aj.ho);have bg:=O aj;clear aB aV aI bM bI HV bf aj;go_wp2_with fail;refine (V K1).mono ?_;rintro e w1 ⟨rfl,bZ,ci,aQ,hx1,aZ⟩;have aj:=V bg;have k1:∀ g,g<wr.heap.size->(Value.slice an ah.length ad).ownBlock≠some g->w1.heap[g]?=wr.heap[g]?:=fun g a b=>aZ.block g a (fun e=>b e.symm);have hx1':w1.heap[w0.heap.size+2]?=some (.cells #[.slice an ah.length ad,.slice ak ae.length ac,.map (some (w0.heap.size+1))] 118 (0,0)):=(by rw [k1 _ (x0w aj.hx) (fun e=>(V bs _ e).2.2 rfl)]; exact aj.hx);have hr1':w1.heap[w0.heap.size]?=some (.cells #[.slice none 0 0,.slice none 0 0,.map none] 118 (0,0)):=(by rw [k1 _ (x0w aj.hr) (fun e=>(V bs _ e).1 rfl)]; exact aj.hr);obtain ⟨es,cl,hm,cE⟩:=aj.hm;have hm1':w1.heap[w0.heap.size+1]?=some (.map es cl):=(by rw [k1 _ (x0w hm) (fun e=>(V bs _ e).2.1 rfl)]; exact hm);have bS:Rsh w0 w1 (.slice ak ae.length ac) ae:=aj.ho.keep fun g hg=>k1 g (aj.ho.1.lt g hg).2 (fun e=>aj.ap g e hg);have aS:Bw w0 w1:=aj.bel.trans ⟨aZ.os,aZ.tape,aZ.output,aZ.size,fun g hg=>k1 g (by have:=aj.bel.size; omega) (fun e=>by have:=(aj.hc.1.lt g e).1; omega)⟩;have K2:=O (y0X w0 w1 _ ae bS (by omega));have y1:w1.cell? ⟨w0.heap.size+1+1,1,none⟩=some (.slice ak ae.length ac):=cell_of (j:=1) hx1' (by show 1<3; omega);have cd:=aj.ap;have b8:=O hx1;have b4:=O ci;have bJ:=O aQ;have b0:=O cd;have bW:=aZ.size;clear K1 y0 ci aQ hx1 aZ k1 hm aj bg cd;go_wp2_with fail;refine (V K2).mono ?_;rintro e w2 ⟨rfl,cr,cj,cn,hx2,a5⟩;have k2:∀ g,g<w1.heap.size->(Value.slice ak ae.length ac).ownBlock≠some g->w2.heap[g]?=w1.heap[g]?:=fun g a b=>a5.block g a (fun e=>b e.symm);have hx2':w2.heap[w0.heap.size+2]?=some (.cells #[.slice an ah.length ad,.slice ak ae.length ac,.map (some (w0.heap.size+1))] 118 (0,0)):=(by rw [k2 _ (x0w hx1') (fun e=>(V bt _ e).2.2 rfl)]; exact hx1');have hr2':w2.heap[w0.heap.size]?=some (.cells #[.slice none 0 0,.slice none 0 0,.map none] 118 (0,0)):=(by rw [k2 _ (x0w hr1') (fun e=>(V bt _ e).1 rfl)]; exact hr1');have hm2':w2.heap[w0.heap.size+1]?=some (.map es cl):=(by rw [k2 _ (x0w hm1') (fun e=>(V bt _ e).2.1 rfl)]; exact hm1');have aO:Bw w0 w2:=aS.trans ⟨a5.os,a5.tape,a5.output,a5.size,fun g hg=>k2 g (by have:=aS.size; omega) (fun e=>by have:=(bS.1.lt g e).1; omega)⟩;have cf:Rsx w0 w2 (.slice an ah.length ad) bZ:=(V b8).keep a5.size fun g hg=>k2 g (by have:=V cu g hg; have:=bW; omega) (fun e=>V b0 g hg e);have z0:w2.cell? ⟨w0.heap.size+1+1,0,none⟩=some (.slice an ah.length ad):=cell_of (j:=0) hx2' (by show 0<3; omega);have z1:w2.cell? ⟨w0.heap.size+1+1,1,none⟩=some (.slice ak ae.length ac):=cell_of (j:=1) hx2' (by show 1<3; omega);have z2:w2.cell? ⟨w0.heap.size+1+1,2,none⟩=some (.map (some (w0.heap.size+1))):=cell_of (j:=2) hx2' (by show 2<3; omega);have r0:w2.cell? ⟨w0.heap.size,0,none⟩=some (.slice none 0 0):=cell_of (j:=0) hr2' (by show 0<3; omega);have r1:w2.cell? ⟨w0.heap.size,1,none⟩=some (.slice none 0 0):=cell_of (j:=1) hr2' (by show 1<3; omega);have r2:w2.cell? ⟨w0.heap.size,2,none⟩=some (.map none):=cell_of (j:=2) hr2' (by show 2<3; omega);have f0:=x0e (j:=0) hr2';have f1:=x0e (j:=1) hr2';have f2:=x0e (j:=2) hr2';have cx:=O hx2;have ct:=O cf;have b5:=O cj;have bK:=O cn;have bd:=O aO;have bw:=O hr2';have aH:=O hm2';clear K2 y1 k2 hx1' hr1' hm1' a5 b8 b0 bS aS hx2 cf cj cn aO hr2' hm2' hx2';go_wp2;have g1:(w2.setCell ⟨w0.heap.size,0,none⟩ (.slice an ah.length ad)).heap[w0.heap.size]?=some (.cells #[.slice an ah.length ad,.slice none 0 0,.map none] 118 (0,0)):=(by rw [x0f (V bw)]; rfl);have g2:((w2.setCell ⟨w0.heap.size,0,none⟩ (.slice an ah.length ad)).setCell ⟨w0.heap.size,1,none⟩ (.slice ak ae.length ac)).heap[w0.heap.size]?=some (.cells #[.slice an ah.length ad,.slice ak ae.length ac,.map none] 118 (0,0)):=(by rw [x0f g1]; rfl);have g3:(((w2.setCell ⟨w0.heap.size,0,none⟩ (.slice an ah.length ad)).setCell ⟨w0.heap.size,1,none⟩ (.slice ak ae.length ac)).setCell ⟨w0.heap.size,2,none⟩ (.map (some (w0.heap.size+1)))).heap[w0.heap.size]?=some (.cells #[.slice an ah.length ad,.slice ak ae.length ac,.map (some (w0.heap.size+1))] 118 (0,0)):=(by rw [x0f g2]; rfl);have bC:∀ g,g≠w0.heap.size->(((w2.setCell ⟨w0.heap.size,0,none⟩ (.slice an ah.length ad)).setCell ⟨w0.heap.size,1,none⟩ (.slice ak ae.length ac)).setCell ⟨w0.heap.size,2,none⟩ (.map (some (w0.heap.size+1)))).heap[g]?=w2.heap[g]?:=fun g h=>(by rw [x0g _ h,x0g _ h,x0g _ h]);have aw:Bw w0 (((w2.setCell ⟨w0.heap.size,0,none⟩ (.slice an ah.length ad)).setCell ⟨w0.heap.size,1,none⟩ (.slice ak ae.length ac)).setCell ⟨w0.heap.size,2,none⟩ (.map (some (w0.heap.size+1)))):=x0c (x0c (x0c (V bd) (l0r _) _) (l0r _) _) (l0r _) _;have bV:w2.heap.size<=(((w2.setCell ⟨w0.heap.size,0,none⟩ (.slice an ah.length ad)).setCell ⟨w0.heap.size,1,none⟩ (.slice ak ae.length ac)).setCell ⟨w0.heap.size,2,none⟩ (.map (some (w0.heap.size+1)))).heap.size:=(by rw [x0N,x0N,x0N]; exact l0r _);generalize (((w2.setCell ⟨w0.heap.size,0,none⟩ (.slice an ah.length ad)).setCell ⟨w0.heap.size,1,none⟩ (.slice ak ae.length ac)).setCell ⟨w0.heap.size,2,none⟩ (.map (some (w0.heap.size+1))))=w9 at *;have c0:w9.cell? ⟨w0.heap.size,0,none⟩=some (.slice an ah.length ad):=cell_of (j:=0) g3 (by show 0<3; omega);have c1:w9.cell? ⟨w0.heap.size,1,none⟩=some (.slice ak ae.length ac):=cell_of (j:=1) g3 (by show 1<3; omega);have c2:w9.cell? ⟨w0.heap.size,2,none⟩=some (.map (some (w0.heap.size+1))):=cell_of (j:=2) g3 (by show 2<3; omega);have a1:=(V ct).keep bV (fun g hg=>bC g (V bs g hg).1);have a2:=(V cx).keep bV (fun g hg=>bC g (V bt g hg).1);have l1:bZ.length<=1000000000:=(by have:=(V b4).length_eq; omega);have l2:cr.length<=1000000000:=(by have:=(V b5).length_eq; omega);obtain ⟨o1,m1⟩:=Cn.x2K (f:=2) (.inl rfl) (cs:=bZ.map (·.1)) (p:=is6) (V bv) (fun r=>⟨fun h=>by rw [o0d h]; decide,fun h=>d0t (Cn.y3E h)⟩) (e1 ▸ (V b4).map _) (List.pairwise_map.2 (V bJ));obtain ⟨o2,m2⟩:=Cn.x2K (f:=3) (.inr rfl) (cs:=cr.map (·.1)) (p:=is78) (V bv) (fun r=>⟨fun h=>by rcases o0d h with e | e <;> (rw [e]; decide),fun h=>d0t (Cn.fam_three' h)⟩) (e2 ▸ (V b5).map _) (List.pairwise_map.2 (V bK));have HF:y2N w0 l (.returned (.agg #[.slice an ah.length ad,.slice ak ae.length ac,.map (some (w0.heap.size+1))])) w9:=⟨_,_,_,_,rfl,⟨a1.rcs aw l1,a2.rcs aw l2,o1,o2,m1,m2,V bv⟩,⟨es,cl,by rw [bC _ (by omega)]; exact V aH,cE⟩,aw⟩;clear a1 a2 o1 o2 m1 m2 g3 bC aw bV;refine bodyPost_ret (show _=Result.ok (.agg #[.slice an ah.length ad,.slice ak ae.length ac,.map (some (w0.heap.size+1))]) w9 by simp [results,Tryz.results72,go_sem,c0,c1,c2]) rfl ?_;exact HF
open Ti
namespace Cn
theorem y1E {f:Int} {rs:List Rec} {k:Nat} (hk:k<rs.length):famOf f (rs.take (k+1))=famOf f (rs.take k)++(if fam (rs.getD k none).kind=f then [rs.getD k none] else []):=by
 have e:rs.take (k+1)=rs.take k++[rs.getD k none]:=by
  rw [List.take_add_one];simp [List.getD,hk]
 rw [e];unfold famOf;rw [List.filter_append];congr 1;generalize rs.getD k none=x;by_cases h:fam x.kind=f
 ·rw [if_pos h,List.filter_cons_of_pos (by exact d0t h),List.filter_nil]
 ·rw [if_neg h,List.filter_cons_of_neg (by rw [d0f h]; exact Bool.false_ne_true),List.filter_nil]
end Cn
def FamB (w:World) (rs:List Rec) (f:Int) (e:Ending) (w':World):Prop:=∃ v xs,e=.returned v/\xs.map (·.1)=Cn.famOf f rs/\Rsh w w' v xs/\Below w.heap.size w w'
theorem Rsh.lowerB {w0 w w':World} {v:Value} {xs:List Sp} (h:Rsh w0 w v xs) (hb:Bw w w'):Rsh w0 w' v xs:=⟨x6n h.1 hb,h.2⟩
theorem x3Q (v:Value) (rs:List Rec) (kind:Int) (w:World) (hg:Glob w) (hv:Rcs w v rs) (hk:I64 kind):Calls prog 118 #[v,.int .i64 kind] w (FamB w rs (Cn.fam kind)):=by
 obtain ⟨i1,hj,ba,bb,bc⟩:=info_parts Tryz.info50;have hlen:=hv.1;have KF:Hid (∀ W c,Bw w W->I64 c->Calls prog 117 #[.int .i64 c] W (IntB W (Cn.fam c))):=fun W c h hc=>x1a c W (hg.on h) hc
 have aW:Hid (∀ k,k<rs.length->∃ b off cap,v=.slice (some ⟨b,off,none⟩) rs.length cap/\RecAt w b (off+k * 8) (rs.getD k Cn.none)/\RecFit (rs.getD k Cn.none)):=fun k hk=>by
  obtain ⟨b,off,cap,he,_,_,hc⟩:=hv.place (by omega);exact ⟨b,off,cap,he,hc k hk,hv.fit hk⟩
 have bL:Hid (∀ k,k<rs.length->Cn.famOf (Cn.fam kind) (rs.take (k+1))=Cn.famOf (Cn.fam kind) (rs.take k)++(if Cn.fam (rs.getD k Cn.none).kind=Cn.fam kind then [rs.getD k Cn.none] else [])):=fun k hk=>Cn.y1E hk;obtain ⟨ao,cap,cH,_,_⟩:=hv.shape;obtain ⟨cI,cJ⟩:=hk;have b9:Hid (∀ W,Bw w W->Calls prog 117 #[.int .i64 kind] W (IntB W (Cn.fam kind))):=fun W h=>V KF W kind h ⟨cI,cJ⟩;clear hv hg;subst cH;generalize Cn.fam kind=f at *;go_enter func118,ntmps118;go_wp2;go_loopw [5,7,10] (fun ov _ iv wr=>∃ k:Nat,iv=.int .i64 k/\k<=rs.length/\∃ xs,xs.map (·.1)=Cn.famOf f (rs.take k)/\xs.length<=k/\Rsh w wr ov xs/\Bw w wr) (fun _ _ iv _=>rs.length - (intOf iv).toNat)
 case atStart=>exact ⟨0,rfl,by omega,[],rfl,by simp,⟨World.ownsRow_nil _ _ _ _,fun x hx=>by cases hx⟩,b0r⟩
 case round =>
  obtain ⟨k,rfl,hk,xs,a6,hxl,aP,aE⟩:=hrel;by_cases hlt:k<rs.length
  ·obtain ⟨b,off,bQ,he,hA,aF⟩:=V aW k hlt;obtain ⟨e1,e2,e3⟩:=Value.slice.inj he;clear e2 e3 he;subst e1;have bu:=O (V bL k hlt);obtain ⟨y0,y1,y2,y3,⟨va,y4,bY⟩,y5,y6,y7⟩:=hA;obtain ⟨ab,aa,rfl,_,_⟩:=bY.shape;have hold:∀ j u,w.cell? ⟨b,off+k * 8+j,none⟩=some u->wr.cell? ⟨b,off+k * 8+j,none⟩=some u:=fun j u h=>(by rw [aE.cell (x0a h)]; exact h);have x0:wr.cell? ⟨b,off+k * 8,none⟩=_:=hold 0 _ y0;have x1:=hold 1 _ y1;have x2:=hold 2 _ y2;have x3:=hold 3 _ y3;have x4:=hold 4 _ y4;have x5:=hold 5 _ y5;have x6:=hold 6 _ y6;have x7:=hold 7 _ y7;have aC:Hid (Sk .i32 w (sval (rs.getD k Cn.none,ab,(rs.getD k Cn.none).to.length,aa)) (rs.getD k Cn.none).to/\RecFit (rs.getD k Cn.none)):=⟨bY,aF⟩;have ch:=aF.kind;clear hold y0 y1 y2 y3 y4 y5 y6 y7 bY aF aW bL;generalize rs.getD k Cn.none=r at *;have cg:∀ W a m,(store a (.float .f64 r.wt) m).run prog W=stored prog W a (.float .f64 r.wt) m:=fun W a m=>run_store prog W a _ m rfl;obtain ⟨W1,hW1,ce,aS⟩:=x0I wr r.kind r.lo r.hi r.n (.slice ab r.to.length aa) r.name r.other r.wt;have K1:=O (V KF W1 r.kind (x0b aE aS) ch);have a7:=O ce;obtain ⟨z0,z1,z2,z3,z4,z5,z6,z7⟩:=ce;have b1:=O (x0b aE aS);have b6:=O (aP.lowerB aS);have am:Hid (∀ W:World,∀ j u,(encR (r,ab,r.to.length,aa))[j]?=some u->(W.alloc (.cells #[.int .i64 r.kind,.int .i64 r.lo,.int .i64 r.hi,.int .i64 r.n,.slice ab r.to.length aa,.string r.name,.string r.other,.float .f64 r.wt] 50)).cell? ((⟨W.heap.size,0,none⟩:Addr).add j)=some u):=fun W=>x2r W r ab aa W.heap.size rfl;have au:=O (x6A (r,ab,r.to.length,aa));clear aP aE aS ch KF;go_wp2_with fail;refine (V K1).mono ?_;rintro e2 w2 ⟨rfl,aO⟩;have bd:=O (x0b (V b1) aO);have bw:=O ((V b6).lowerB aO);have be:=O ((V a7).keep aO);have K2:=O (V b9 w2 (V bd));clear K1 aO b1 b6 a7 x0 x1 x2 x3 x4 x5 x6 x7 z0 z1 z2 z3 z4 z5 z6 z7 cg;go_wp2_with fail;refine (V K2).mono ?_;rintro e3 w3 ⟨rfl,a8⟩;have aN:=x0b (V bd) a8;have bk:=(V bw).lowerB a8;obtain ⟨z0,z1,z2,z3,z4,z5,z6,z7⟩:=(V be).keep a8;clear K2 a8 bd bw be;generalize Cn.fam r.kind=fk at *;by_cases hf:fk=f
   ·subst hf
    have bO:Hid ((xs++[(r,ab,r.to.length,aa)]).map (·.1)=Cn.famOf fk (rs.take (k+1))):=by
     show _=_;rw [V bu,if_pos rfl,List.map_append,a6];rfl
    have ag:Hid (∀ v' w9 o,w9.ownsRow w.heap.size 50 8 v' (xs.length+1) (xs.flatMap encR++encR (r,ab,r.to.length,aa))->(w3.alloc o).grownBy w9 u5.ownBlock->Rsh w w9 v' (xs++[(r,ab,r.to.length,aa)])/\Bw w w9):=fun v' w9 o hr9 ay=>by
     have ha:=aN.alloc aN.size o;refine ⟨⟨by simpa using hr9,fun y hy=>?_⟩,ha.grown ay ha.size (fun g hg=>(bk.1.lt g hg).1)⟩;rcases List.mem_append.1 hy with hy | hy
     ·exact bk.2 y hy
     ·simp only [List.mem_singleton] at hy;subst hy;exact V aC
    have ar:Hid (∀ o,(w3.alloc o).ownsRow w.heap.size 50 8 u5 xs.length (xs.flatMap encR)):=fun o=>bk.1.alloc o;have hsz3:=aN.size;have b3:=O (V am w3);clear a6 bu am aN bk aC;go_wp2_with (at_builtin; refine wpList_append_own _ rfl (.tmp 20) (.tmp 22) 22 rfl w.heap.size 50 i1 (.agg #[.int .i64 0,.int .i64 0,.int .i64 0,.int .i64 0,.slice none 0 0,.string ⟨#[]⟩,.string ⟨#[]⟩,.float .f64 0]) 8 96 underlying22 hj ba bb bc rfl (by decide) _ _ _ rfl (V ar _) ⟨w3.heap.size,0,none⟩ 1 1 (encR (r,ab,r.to.length,aa)) rfl rfl (V b3) (V au) (by unfold maxLen; omega) (by omega) (by simp; omega) ?_);intro v' w9 hr9 ay _;obtain ⟨cB,cA⟩:=V ag v' w9 _ hr9 ay;clear hr9 ay ar b3 au ag z0 z1 z2 z3 z4 z5 z6 z7;go_wp2
    go_roundw
    case rel=>exact ⟨k+1,by go_num,by omega,_,V bO,by simp; omega,cB,cA⟩
    case measure=>simp [intOf]; omega
   ·have df:(fk==f)=false:=b0f hf
    have bO:Hid (xs.map (·.1)=Cn.famOf f (rs.take (k+1))):=by
     show _=_;rw [V bu,if_neg hf,List.append_nil];exact a6
    clear a6 bu am au aC hf;go_wp2
    go_roundw
    case rel=>exact ⟨k+1,by go_num,by omega,xs,V bO,by omega,bk,aN⟩
    case measure=>simp [intOf]; omega
  ·obtain rfl:k=rs.length:=(by omega);rw [List.take_of_length_le (l0r _)] at a6;have HF:Hid (FamB w rs f (.returned u5) wr):=⟨u5,xs,rfl,a6,aP,aE⟩;clear a6 aP aE KF b9 aW bL;go_wp2;go_ret;exact V HF
end Go.Proofs.YtkglkajjofidoaaGreatDoor
namespace Go.Proofs.YtkglkajjofidoaaGreatDoor.Cn
open Go.Proofs.Tryz
def bad7 (l:List Rec) (i:Nat) (r:Rec):Bool:=decide ((firstP l (r.to.getD 0 0) (r.to.getD 1 0)).getD 0<(i:Int)) || wpair l r.lo (r.to.getD 0 0) (r.to.getD 1 0)
theorem x4u (l:List Rec) (i:Nat) (r:Rec):record l i r=if fam r.kind≠2/\fam r.kind≠3 then 0
 else if covers r 0 127 then 70
 else if touches r=true then 71
 else if r.kind=7/\makes (r.to.getD 0 0) (r.to.getD 1 0)=true then 71
 else if fam r.kind=2 then 0
 else if (full l r.lo).2≠0 then (full l r.lo).2
 else if fallsA l (full l r.lo).1 then 75
 else if r.kind=7/\pair l i r=false then 74
 else 0:=rfl
theorem x9C {l:List Rec} {i:Nat} {r:Rec} (h6:r.kind≠6) (h7:r.kind≠7) (h8:r.kind≠8):record l i r=0:=by
 rw [x4u];rw [if_pos ⟨fun h=>h6 (y3E h),fun h=>by rcases fam_three' h with e | e <;> contradiction⟩]
theorem y2g {l:List Rec} {i:Nat} {r:Rec} (hr:right r=0) (hk:r.kind=6\/r.kind=7\/r.kind=8) (hl:r.lo<128):record l i r=70:=by
 have hf:fam r.kind=2\/fam r.kind=3:=(by rcases hk with e | e | e <;> (rw [e]; decide));have h15:r.kind≠15:=(by omega);have hs:=x0o hr h15;rw [x4u];rw [if_neg (fun h=>by omega),if_pos (show covers r 0 127=true from d0t ⟨by omega,by omega⟩)]
theorem x2c {l:List Rec} {i:Nat} {r:Rec} (hk:r.kind=6\/r.kind=7\/r.kind=8) (hl:¬ r.lo<128) (ht:(touches r || (decide (r.kind=7) && makes (r.to.getD 0 0) (r.to.getD 1 0)))=true):record l i r=71:=by
 have hf:fam r.kind=2\/fam r.kind=3:=(by rcases hk with e | e | e <;> (rw [e]; decide));rw [x4u];rw [if_neg (fun h=>by omega),if_neg (show ¬ covers r 0 127=true from fun h=>by have:=o0d h; omega)];by_cases h1:touches r=true
 ·rw [if_pos h1]
 ·rw [if_neg h1];have h2:touches r=false:=(by simpa using h1);rw [h2,Bool.false_or,Bool.and_eq_true] at ht;rw [if_pos ⟨o0d ht.1,ht.2⟩]
theorem x2S {l:List Rec} {i:Nat} {r:Rec} (hk:r.kind=6\/r.kind=7\/r.kind=8) (hl:¬ r.lo<128) (ht:(touches r || (decide (r.kind=7) && makes (r.to.getD 0 0) (r.to.getD 1 0)))=false) :
  record l i r=if r.kind=6 then 0 else if wfull l r.lo≠0 then wfull l r.lo else if r.kind=7/\pair l i r=false then 74 else 0:=by
 have hf:fam r.kind=2\/fam r.kind=3:=(by rcases hk with e | e | e <;> (rw [e]; decide));rw [Bool.or_eq_false_iff] at ht;rw [x4u];rw [if_neg (fun h=>by omega),if_neg (show ¬ covers r 0 127=true from fun h=>by have:=o0d h; omega),if_neg (show ¬ touches r=true by rw [ht.1]; simp)]
 rw [if_neg (fun h=>by
  have h2:=ht.2;rw [Bool.and_eq_false_iff] at h2;rcases h2 with h2 | h2
  ·exact absurd h.1 (of_decide_eq_false h2)
  ·have h3:makes (r.to.getD 0 0) (r.to.getD 1 0)=true:=h.2
   rw [h2] at h3; cases h3)]
 rcases hk with e | e | e
 ·rw [e,if_pos (by decide:fam 6=2),if_pos rfl]
 ·rw [if_neg (show ¬ fam r.kind=2 by rw [e]; decide),if_neg (show ¬ r.kind=6 by omega)];unfold wfull;by_cases h1:(full l r.lo).2≠0
  ·rw [if_pos h1,if_pos h1,if_pos h1]
  ·rw [if_neg h1,if_neg h1];by_cases h2:fallsA l (full l r.lo).1=true
   ·rw [if_pos h2,if_pos h2,if_pos (by decide)]
   ·rw [if_neg h2,if_neg h2,if_neg (show ¬ (0:Int)≠0 by decide)]
 ·rw [if_neg (show ¬ fam r.kind=2 by rw [e]; decide),if_neg (show ¬ r.kind=6 by omega)];unfold wfull;by_cases h1:(full l r.lo).2≠0
  ·rw [if_pos h1,if_pos h1,if_pos h1]
  ·rw [if_neg h1,if_neg h1];by_cases h2:fallsA l (full l r.lo).1=true
   ·rw [if_pos h2,if_pos h2,if_pos (by decide)]
   ·rw [if_neg h2,if_neg h2,if_neg (show ¬ (0:Int)≠0 by decide)]
theorem y7j {l:List Rec} {i:Nat} (hi:i<l.length) (h7:(l.getD i none).kind=7):pair l i (l.getD i none)=!bad7 l i (l.getD i none):=by
 rw [pair_w];unfold bad7;have h:=y3I hi h7;cases hA:(l.take i).any fun k=>decide (k.kind=7/\k.to.getD 0 0=(l.getD i none).to.getD 0 0/\k.to.getD 1 0=(l.getD i none).to.getD 1 0)
 ·rw [d0f (fun hlt=>by have:=h.1 hlt; rw [hA] at this; cases this)];simp
 ·rw [d0t (h.2 hA)];simp
end Go.Proofs.YtkglkajjofidoaaGreatDoor.Cn
namespace Go.Proofs.YtkglkajjofidoaaGreatDoor
open Go.Proofs.Tryz
open Go.RowKit
theorem y5P (an ak ab:Option Addr) (cl cc ol oc tl tc mr i:Nat) (kd lo hi nn:Int) (tz:List Int) (nm ot:ByteArray) (wt:Nat) (w:World) (k6:kd≠6) (k7:kd≠7) (k8:kd≠8) :
  Calls prog 73 #[xV (.slice an cl cc) (.slice ak ol oc) (.map (some mr)),.int .i64 (i:Int),recV ⟨kd,lo,hi,nn,tz,nm,ot,wt⟩ (.slice ab tl tc)] w (IntB w 0):=by
 have q6:(kd==6)=false:=b0f k6;have q6':(kd != 6)=true:=(by simp [k6]);have q7:(kd==7)=false:=b0f k7;have q8:(kd==8)=false:=b0f k8;have HF:IntB w 0 (.returned (.int .i64 0)) ((w.alloc (.cells #[.slice an cl cc,.slice ak ol oc,.map (some mr)] 118)).alloc (.cells #[.int .i64 kd,.int .i64 lo,.int .i64 hi,.int .i64 nn,.slice ab tl tc,.string nm,.string ot,.float .f64 wt] 50)):=⟨rfl,((b0r).alloc (l0r _) _).alloc (by simp) _⟩;unfold xV recV;clear k6 k7 k8;go_enter func73,ntmps73;go_wp2;go_ret;exact HF
theorem y7R (an ak ab:Option Addr) (cl cc ol oc tl tc mr i:Nat) (kd lo hi nn:Int) (tz:List Int) (nm ot:ByteArray) (wt:Nat) (w:World) (hk:kd=6\/kd=7\/kd=8) (hl:lo<128) :
  Calls prog 73 #[xV (.slice an cl cc) (.slice ak ol oc) (.map (some mr)),.int .i64 (i:Int),recV ⟨kd,lo,hi,nn,tz,nm,ot,wt⟩ (.slice ab tl tc)] w (IntB w 70):=by
 unfold xV recV;rcases hk with rfl | rfl | rfl
 all_goals
  have HF:∀ W,Bw w W->IntB w 70 (.returned (.int .i64 70)) W:=fun W h=>⟨rfl,h⟩;go_enter func73,ntmps73;go_wp2;go_ret;exact HF _ (((b0r).alloc (l0r _) _).alloc (by simp) _)
