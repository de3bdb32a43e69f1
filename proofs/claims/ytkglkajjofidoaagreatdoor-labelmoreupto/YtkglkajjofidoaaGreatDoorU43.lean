/- Oa12 Ob12 Oc12 Od12 Oe12 -/
import Derived.Test.YtkglkajjofidoaaGreatDoorU42
import Derived.Laws.MakeOwn
set_option maxHeartbeats 4000000
set_option maxRecDepth 8000
namespace Go.Proofs.YtkglkajjofidoaaGreatDoor
open Go.RowKit
open Ti
namespace Cn
theorem x4v {rs:List Rec} (h6:(check6 rs).2=0) (c:Int):0≤cls rs c∧cls rs c≤254:=by
 unfold cls
 cases he:hit rs 2 c with
 | none=>simp
 | some r =>
  obtain ⟨g1,g2,g3⟩:=(x1K h6 (by decide) r).1 he;have hk:=(y3u g2).2.1 rfl;exact x7X ((x0m.1 h6).2.1 r g1) (by omega) (by omega)
end Cn
namespace Cn
def openAll (rs:List Rec) (xs:List Int):List Int:=(xs.map fun c=>(full rs c).1).flatten
theorem x7K (rs:List Rec) (xs:List Int) {k:Nat} (hk:k<xs.length):openAll rs (xs.take (k+1))=openAll rs (xs.take k)++(full rs (xs.getD k 0)).1:=by
 unfold openAll;rw [List.take_add_one,List.map_append,List.flatten_append,List.getElem?_eq_getElem hk];simp [List.getD,hk]
theorem x2D {rs:List Rec} (h:(check rs).2=0) (xs:List Int):(openAll rs xs).length≤32 * xs.length:=by
 unfold openAll
 induction xs with
 | nil=>simp
 | cons c xs ih =>
  have:=(leaves h c).2.2.1;simp only [List.map_cons,List.flatten_cons,List.length_append,List.length_cons];omega
end Cn
theorem y1b (n:Nat) (w:World) (B:Nat) (hB:B≤w.heap.size) (hn:n≤70000):∃ W,(Instr.makeSlice 23 (.int .i64 0) (.int .i64 (n:Int))).run Tryz.prog w=.ok (.slice (some ⟨w.heap.size,0,none⟩) 0 n) W∧Ok .i32 21 W B (.slice (some ⟨w.heap.size,0,none⟩) 0 n) []∧w.grownBy W none:=by
 obtain ⟨i0,hi,ax,ay,az⟩:=info_parts y3n;obtain ⟨W,h1,h2,h3⟩:=run_make_own (P:=Tryz.prog) w B 23 21 i0 (.int .i32 0) 1 Tryz.underlying23 hi ax ay .i64 .i64 n (by rw [az]; omega) (by unfold maxLen; omega) hB;exact ⟨W,h1,Ok.of (fun z hz=>by cases hz) (by simp) h2 rfl rfl,h3⟩
theorem x7M {B p:Nat} {rs:List Rec} (v:Value) (xs:List Int) (w:World) (hg:Glob w) (hD:x0o w B p rs) (hk:(Cn.check rs).2=0) (hx:Sk .i32 w v xs) (hxl:xs.length≤65536):Calls Tryz.prog 132 #[.pointer (some ⟨p,0,none⟩),v] w (x0j w (Cn.openAll rs xs)):=by
 obtain ⟨i0,hi,ax,ay,az⟩:=info_parts y3n;have HX:=Hd hx;obtain ⟨vo,vc,aY,hv1,hv2⟩:=hx.shape;subst aY;have HF:Hid (∀ c W,Rune c→Below w.heap.size w W→Calls Tryz.prog 168 #[.pointer (some ⟨p,0,none⟩),.int .i32 c] W (x0j W (Cn.full rs c).1)):=fun c W hc hW=>y2U c W (hg.on hW) (hD.below hW) hk hc;have au:=fun k (h:k<xs.length)=>Hd (Cn.x7K rs xs h);have aq:=fun k=>Hd (Cn.x2D hk (xs.take k));have ap:=fun c=>Hd (Cn.leaves hk c).2.2.1;have an:=fun c=>Hd (Cn.leaves hk c).2.1;obtain ⟨W0,aX,aN,g0⟩:=y1b xs.length w w.heap.size (Nat.le_refl _) (by omega);have aG:Below w.heap.size w W0:=(Below.refl _ _).grown g0 (Nat.le_refl _) (fun k hk=>by cases hk);have aB:=Hd aG;have aF:=Hd aN;have ae:Hid (Cn.openAll rs (xs.take xs.length)=Cn.openAll rs xs):=(by show _=_; rw [List.take_length]);clear hg hD hk hx aN g0 aG;go_enter Tryz.func132,Tryz.ntmps132;go_wp2;go_loopw [5,6,12] (fun yy _ ii wr=>∃ k:Nat,ii=.int .i64 k∧k≤xs.length∧Ok .i32 21 wr w.heap.size yy (Cn.openAll rs (xs.take k))∧Below w.heap.size w wr) (fun _ _ ii _=>xs.length - (intOf ii).toNat)
 case atStart=>exact ⟨0,rfl,by omega,Uh aF,Uh aB⟩
 case round =>
  clear aX aF aB;obtain ⟨k,rfl,hkl,ah,hb⟩:=hrel;by_cases hlt:k<xs.length
  ·obtain ⟨bx,ox,cqx,aI,_,_,aj⟩:=(Uh HX).place (by omega)
   simp only [Value.slice.injEq] at aI;obtain ⟨rfl,h9,rfl⟩:=aI;clear h9
   have ac:wr.cell? ⟨bx,ox+k,none⟩=some (.int .i32 (xs.getD k 0)):=by
    have h3:=aj k hlt;rw [hb.cell (x0a h3)]; exact h3
   have aM:Rune (xs.getD k 0):=by
    have:=(Uh HX).1 (xs.getD k 0) (by simp [List.getD,hlt]);exact ⟨this.1,this.2⟩
   have KF:=Hd ((Uh HF) (xs.getD k 0) wr aM hb);have aR:=Hd (Uh (au k hlt));have aL:=Uh (aq k);rw [List.length_take] at aL;have hfl:=Uh (ap (xs.getD k 0));have aV:=Uh (an (xs.getD k 0));have hbs:=hb.size;have HB:=Hd hb;have ar:=Hd ah;obtain ⟨yo,yc,aw,_,_⟩:=ah.sk.shape;subst aw;clear aj hb aM ah au aq ap an;generalize hzs:Cn.openAll rs (xs.take k)=zs at *;generalize hfs:(Cn.full rs (xs.getD k 0)).1=fs at *;generalize xs.getD k 0=c at *;have hzl:zs.length≤2097152:=(by omega);clear aL hzs hfs;go_wp2_with fail;refine (Uh KF).mono ?_;rintro e1 w1 ⟨v1,rfl,aA,b1⟩;obtain ⟨fb,fo,fc,aW,_,_,aJ⟩:=aA.sk.place aV;subst aW
   have ab:∀ j u,(fs.map (Value.int .i32))[j]?=some u→w1.cell? ((⟨fb,fo,none⟩:Addr).add j)=some u:=by
    intro j u hu;obtain ⟨hj,hu⟩:=List.getElem?_eq_some_iff.1 hu;rw [List.length_map] at hj;rw [addr_add,aJ j hj,← hu];simp [List.getD,hj]
   have al:w1.ownsRow w.heap.size 21 1 (.slice yo zs.length yc) zs.length (zs.map (Value.int .i32)):=by
    have:=((Uh ar).below b1).row;simpa using this
   have hs1:=b1.size;have ag:=Hd al;have aa:=Hd ab;have aE:=Hd (Uh ar).1;have aD:=Hd aA.1;have aC:=Hd (x0b (Uh HB) b1);clear KF aA aJ ab al b1 ac ar HB;go_wp2_with (at_builtin; refine wpList_append_own _ rfl (.tmp 15) (.tmp 21) 23 rfl w.heap.size 21 i0 (.int .i32 0) 1 4 Tryz.underlying23 hi ax ay az rfl (by decide) _ _ _ rfl (Uh ag) ⟨fb,fo,none⟩ fs.length fc (fs.map (Value.int .i32)) rfl (by simp) (Uh aa) (fun u hu=>by obtain ⟨z,_,rfl⟩:=List.mem_map.1 hu; rfl) (by unfold maxLen; omega) (by omega) (by omega) ?_);intro v2 w2 ad aK _
   have ak:Ok .i32 21 w2 w.heap.size v2 (zs++fs):=by
    refine Ok.of (n:=zs.length+fs.length) (us:=zs.map (Value.int .i32)++fs.map (Value.int .i32)) (fun z hz=>?_) (by simp; omega) ad (by simp) (by simp);rcases List.mem_append.1 hz with hz | hz
    ·exact (Uh aE) z hz
    ·exact (Uh aD) z hz
   have aH:Below w.heap.size w w2:=(Uh aC).grown aK (by omega) (fun j hj=>((Uh ag).lt j hj).1);have aS:=Hd ak;have aP:=Hd aH;clear ad aK ak aH ag aa aE aD aC;go_wp2
   go_roundw
   case rel=>exact ⟨k+1,by go_num,by omega,by rw [Uh aR]; exact Uh aS,Uh aP⟩
   case measure=>simp [intOf]; omega
  ·obtain rfl:k=xs.length:=by omega
   rw [Uh ae] at ah;have aQ:Hid (x0j w (Cn.openAll rs xs) (.returned u5) wr):=⟨u5,rfl,ah,hb⟩
   obtain ⟨yo,yl,yc,aw⟩:∃ yo yl yc,u5=.slice yo yl yc:=by
    obtain ⟨yo,yc,e,_,_⟩:=ah.sk.shape;exact ⟨yo,_,yc,e⟩
   subst aw;clear ah hb au aq ap an HF;go_wp2;go_ret;exact Uh aQ
def refN (ns:List Nat):Int:=if ns.any (fun n=>decide (65536<n)) then 2 else 0
theorem y4j {ns:List Nat} {k:Nat} (hk:k<ns.length):refN (ns.drop k)=if 65536<ns.getD k 0 then 2 else refN (ns.drop (k+1)):=by
 rw [List.drop_eq_getElem_cons hk];unfold refN;rw [List.any_cons];have:ns.getD k 0=ns[k]:=(by simp [List.getD,hk]);rw [this];by_cases h:65536<ns[k]
 ·rw [if_pos h,decide_eq_true h]; rfl
 ·rw [if_neg h,decide_eq_false h]; rfl
theorem x6Q (p g n:Nat) (ns:List Nat) (w:World) (hn:ns.length=n) (hl:n≤10) (hc:∀ i,i<n→∃ ao cap,w.cell? ⟨g,i,none⟩=some (.slice ao (ns.getD i 0) cap)∧cap≤9223372036854775807∧ns.getD i 0≤cap):Calls Tryz.prog 94 #[.pointer (some ⟨p,0,none⟩),.slice (some ⟨g,0,none⟩) n n] w fun e w'=>e=.returned (.int .i64 (refN ns))∧w'=w:=by
 have HC:=Hd hc;have aU:Hid (∀ k,k<n→refN (ns.drop k)=if 65536<ns.getD k 0 then 2 else refN (ns.drop (k+1))):=fun k hk=>y4j (by omega);obtain ⟨aO,ai⟩:∃ r,refN ns=r:=⟨_,rfl⟩;rw [ai];have af:Hid (refN (ns.drop 0)=aO):=(by show _=_; rw [List.drop_zero]; exact ai);have ae:Hid (refN (ns.drop n)=0):=(by show _=_; rw [← hn,List.drop_length]; rfl);clear hc ai hn;go_enter Tryz.func94,Tryz.ntmps94;go_wp2;go_loopw [6,11] (fun _ ii wr=>wr=w∧∃ k:Nat,ii=.int .i64 k∧k≤n∧refN (ns.drop k)=aO) (fun _ ii _=>n - (intOf ii).toNat)
 case atStart=>exact ⟨rfl,0,rfl,by omega,Uh af⟩
 case round =>
  obtain ⟨rfl,k,rfl,hk,hs⟩:=hrel;by_cases hlt:k<n
  ·have av:=(Uh aU) k hlt
   rw [hs] at av;obtain ⟨ao,cap,ac,hc1,hc2⟩:=(Uh HC) k hlt;have am:=Hd av;clear av hs;generalize ns.getD k 0=m at *;by_cases hm:65536<m
   ·have hs:=Uh am
    rw [if_pos hm] at hs;subst hs;clear am af;go_wp2;go_ret;exact ⟨rfl,rfl⟩
   ·have hs:=Uh am
    rw [if_neg hm] at hs;have aT:=Hd hs;clear am hs;go_wp2
    go_roundw
    case rel=>exact ⟨by first | rfl | trivial,k+1,by go_num,by omega,(Uh aT).symm⟩
    case measure=>simp [intOf]; omega
  ·obtain rfl:k=n:=by omega
   rw [Uh ae] at hs;subst hs;clear af;go_wp2;go_ret;exact ⟨rfl,rfl⟩
def SeqE (w:World) (zs:List Int) (er:Int) (e:Ending) (w':World):Prop:=∃ v,e=.returned (.tuple #[v,.int .i64 er])∧Ok .i32 21 w' w.heap.size v zs∧Below w.heap.size w w'
theorem one_cell (w:World) (ao:Option Addr) (n cap:Nat) (ty:TypeId):(w.alloc (.cells #[.slice ao n cap] ty)).cell? ⟨w.heap.size,0,none⟩=some (.slice ao n cap):=by
 simp [World.cell?,World.alloc,-World.alloc_eq]
end Go.Proofs.YtkglkajjofidoaaGreatDoor
