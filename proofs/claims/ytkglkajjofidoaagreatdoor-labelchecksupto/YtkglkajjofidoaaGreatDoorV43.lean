/- Oa12 Ob12 Oc12 Od12 Oe12 -/
import Derived.Test.YtkglkajjofidoaaGreatDoorV42
import Derived.Laws.MakeOwn
set_option maxHeartbeats 4000000
set_option maxRecDepth 8000
namespace Go.Proofs.YtkglkajjofidoaaGreatDoor
open Go.Proofs.Tryz
open Go.RowKit
open Ti
namespace Cn
theorem x1M {rs:List Rec} (h6:(check6 rs).2=0) (c:Int):0<=cls rs c/\cls rs c<=254:=by
 unfold cls
 cases he:hit rs 2 c with
 | none=>simp
 | some r =>
  obtain ⟨g1,g2,g3⟩:=(x1b h6 (by decide) r).1 he;have hk:=(x4V g2).2.1 rfl;exact x8z ((x0n.1 h6).2.1 r g1) (by omega) (by omega)
end Cn
theorem y5b (v:Value) (rs:List Rec) (c:Int) (w:World) (hv:Rcs w v rs) (hc:Rune c):Calls prog 167 #[v,.int .i32 c] w (x0i w (Cn.full rs c).1):=by
 have K:=O (x2T v rs c w hv hc);obtain ⟨c0,c1⟩:=hc;obtain ⟨ao,cap,rfl,_,_⟩:=hv.shape;clear hv;generalize Cn.full rs c=z at *;go_enter func167,ntmps167;go_wp2_with fail;refine (V K).mono ?_;rintro e w1 ⟨v1,rfl,aj,hb⟩;have HF:Hid (x0i w z.1 (.returned v1) w1):=⟨v1,rfl,aj,hb⟩;clear K hb aj;go_wp2;go_ret;exact V HF
namespace Cn
def openAll (rs:List Rec) (xs:List Int):List Int:=(xs.map fun c=>(full rs c).1).flatten
theorem x3S (rs:List Rec) (xs:List Int) {k:Nat} (hk:k<xs.length):openAll rs (xs.take (k+1))=openAll rs (xs.take k)++(full rs (xs.getD k 0)).1:=by
 unfold openAll;rw [List.take_add_one,List.map_append,List.flatten_append,List.getElem?_eq_getElem hk];simp [List.getD,hk]
theorem x1A {rs:List Rec} (h:(check rs).2=0) (xs:List Int):(openAll rs xs).length<=32 * xs.length:=by
 unfold openAll
 induction xs with
 | nil=>simp
 | cons c xs ih =>
  have:=(leaves h c).2.2.1;simp only [List.map_cons,List.flatten_cons,List.length_append,List.length_cons];omega
end Cn
theorem y1V (n:Nat) (w:World) (B:Nat) (hB:B<=w.heap.size) (hn:n<=70000):∃ W,(Instr.makeSlice 23 (.int .i64 0) (.int .i64 (n:Int))).run prog w=.ok (.slice (some ⟨w.heap.size,0,none⟩) 0 n) W/\Ok .i32 21 W B (.slice (some ⟨w.heap.size,0,none⟩) 0 n) []/\w.grownBy W none:=by
 obtain ⟨i0,hi,ay,az,aA⟩:=info_parts x7S;obtain ⟨W,h1,h2,h3⟩:=run_make_own (P:=prog) w B 23 21 i0 (.int .i32 0) 1 underlying23 hi ay az .i64 .i64 n (by rw [aA]; omega) (by unfold maxLen; omega) hB;exact ⟨W,h1,Ok.of (fun z hz=>by cases hz) (by simp) h2 rfl rfl,h3⟩
theorem x8g {B p:Nat} {rs:List Rec} (v:Value) (xs:List Int) (w:World) (hg:Glob w) (hD:x0p w B p rs) (hk:(Cn.check rs).2=0) (hx:Sk .i32 w v xs) (hxl:xs.length<=65536):Calls prog 132 #[.pointer (some ⟨p,0,none⟩),v] w (x0i w (Cn.openAll rs xs)):=by
 obtain ⟨i0,hi,ay,az,aA⟩:=info_parts x7S;have HX:=O hx;obtain ⟨vo,vc,aY,hv1,hv2⟩:=hx.shape;subst aY;have HF:Hid (∀ c W,Rune c->Bw w W->Calls prog 168 #[.pointer (some ⟨p,0,none⟩),.int .i32 c] W (x0i W (Cn.full rs c).1)):=fun c W hc hW=>y3P c W (hg.on hW) (hD.below hW) hk hc;have av:=fun k (h:k<xs.length)=>O (Cn.x3S rs xs h);have ar:=fun k=>O (Cn.x1A hk (xs.take k));have aq:=fun c=>O (Cn.leaves hk c).2.2.1;have ap:=fun c=>O (Cn.leaves hk c).2.1;obtain ⟨W0,aX,aN,g0⟩:=y1V xs.length w w.heap.size (l0r _) (by omega);have aG:Bw w W0:=(b0r).grown g0 (l0r _) (fun k hk=>by cases hk);have aB:=O aG;have aF:=O aN;have ae:Hid (Cn.openAll rs (xs.take xs.length)=Cn.openAll rs xs):=(by show _=_; rw [List.take_length]);clear hg hD hk hx aN g0 aG;go_enter func132,ntmps132;go_wp2;go_loopw [5,6,12] (fun yy _ ii wr=>∃ k:Nat,ii=.int .i64 k/\k<=xs.length/\Ok .i32 21 wr w.heap.size yy (Cn.openAll rs (xs.take k))/\Bw w wr) (fun _ _ ii _=>xs.length - (intOf ii).toNat)
 case atStart=>exact ⟨0,rfl,by omega,V aF,V aB⟩
 case round =>
  clear aX aF aB;obtain ⟨k,rfl,hkl,ah,hb⟩:=hrel;by_cases hlt:k<xs.length
  ·obtain ⟨bx,ox,cqx,aI,_,_,ak⟩:=(V HX).place (by omega);simp only [Value.slice.injEq] at aI;obtain ⟨rfl,h9,rfl⟩:=aI;clear h9
   have ac:wr.cell? ⟨bx,ox+k,none⟩=some (.int .i32 (xs.getD k 0)):=by
    have h3:=ak k hlt;rw [hb.cell (x0a h3)]; exact h3
   have aM:Rune (xs.getD k 0):=by
    have:=(V HX).1 (xs.getD k 0) (by simp [List.getD,hlt]);exact ⟨this.1,this.2⟩
   have KF:=O (V HF (xs.getD k 0) wr aM hb);have aR:=O (V (av k hlt));have aL:=V (ar k);rw [List.length_take] at aL;have hfl:=V (aq (xs.getD k 0));have aV:=V (ap (xs.getD k 0));have hbs:=hb.size;have HB:=O hb;have au:=O ah;obtain ⟨yo,yc,ax,_,_⟩:=ah.sk.shape;subst ax;clear ak hb aM ah av ar aq ap;generalize hzs:Cn.openAll rs (xs.take k)=zs at *;generalize hfs:(Cn.full rs (xs.getD k 0)).1=fs at *;generalize xs.getD k 0=c at *;have hzl:zs.length<=2097152:=(by omega);clear aL hzs hfs;go_wp2_with fail;refine (V KF).mono ?_;rintro e1 w1 ⟨v1,rfl,aj,b1⟩;obtain ⟨fb,fo,fc,aW,_,_,aJ⟩:=aj.sk.place aV;subst aW
   have ab:∀ j u,(fs.map (Value.int .i32))[j]?=some u->w1.cell? ((⟨fb,fo,none⟩:Addr).add j)=some u:=by
    intro j u hu;obtain ⟨hj,hu⟩:=List.getElem?_eq_some_iff.1 hu;rw [List.length_map] at hj;rw [addr_add,aJ j hj,<- hu];simp [List.getD,hj]
   have am:w1.ownsRow w.heap.size 21 1 (.slice yo zs.length yc) zs.length (zs.map (Value.int .i32)):=by
    have:=((V au).below b1).row;simpa using this
   have hs1:=b1.size;have ag:=O am;have aa:=O ab;have aE:=O (V au).1;have aD:=O aj.1;have aC:=O (x0b (V HB) b1);clear KF aj aJ ab am b1 ac au HB;go_wp2_with (at_builtin; refine wpList_append_own _ rfl (.tmp 15) (.tmp 21) 23 rfl w.heap.size 21 i0 (.int .i32 0) 1 4 underlying23 hi ay az aA rfl (by decide) _ _ _ rfl (V ag) ⟨fb,fo,none⟩ fs.length fc (fs.map (Value.int .i32)) rfl (by simp) (V aa) (fun u hu=>by obtain ⟨z,_,rfl⟩:=List.mem_map.1 hu; rfl) (by unfold maxLen; omega) (by omega) (by omega) ?_);intro v2 w2 ad aK _
   have al:Ok .i32 21 w2 w.heap.size v2 (zs++fs):=by
    refine Ok.of (n:=zs.length+fs.length) (us:=zs.map (Value.int .i32)++fs.map (Value.int .i32)) (fun z hz=>?_) (by simp; omega) ad (by simp) (by simp);rcases List.mem_append.1 hz with hz | hz
    ·exact V aE z hz
    ·exact V aD z hz
   have aH:Bw w w2:=(V aC).grown aK (by omega) (fun j hj=>((V ag).lt j hj).1);have aS:=O al;have aP:=O aH;clear ad aK al aH ag aa aE aD aC;go_wp2
   go_roundw
   case rel=>exact ⟨k+1,by go_num,by omega,by rw [V aR]; exact V aS,V aP⟩
   case measure=>simp [intOf]; omega
  ·obtain rfl:k=xs.length:=(by omega);rw [V ae] at ah;have aQ:Hid (x0i w (Cn.openAll rs xs) (.returned u5) wr):=⟨u5,rfl,ah,hb⟩
   obtain ⟨yo,yl,yc,ax⟩:∃ yo yl yc,u5=.slice yo yl yc:=by
    obtain ⟨yo,yc,e,_,_⟩:=ah.sk.shape;exact ⟨yo,_,yc,e⟩
   subst ax;clear ah hb av ar aq ap HF;go_wp2;go_ret;exact V aQ
def refN (ns:List Nat):Int:=if ns.any (fun n=>decide (65536<n)) then 2 else 0
theorem y5c {ns:List Nat} {k:Nat} (hk:k<ns.length):refN (ns.drop k)=if 65536<ns.getD k 0 then 2 else refN (ns.drop (k+1)):=by
 rw [List.drop_eq_getElem_cons hk];unfold refN;rw [List.any_cons];have:ns.getD k 0=ns[k]:=(by simp [List.getD,hk]);rw [this];by_cases h:65536<ns[k]
 ·rw [if_pos h,d0t h]; rfl
 ·rw [if_neg h,d0f h]; rfl
theorem x7i (p g n:Nat) (ns:List Nat) (w:World) (hn:ns.length=n) (hl:n<=10) (hc:∀ i,i<n->∃ ao cap,w.cell? ⟨g,i,none⟩=some (.slice ao (ns.getD i 0) cap)/\cap<=9223372036854775807/\ns.getD i 0<=cap):Calls prog 94 #[.pointer (some ⟨p,0,none⟩),.slice (some ⟨g,0,none⟩) n n] w fun e w'=>e=.returned (.int .i64 (refN ns))/\w'=w:=by
 have HC:=O hc;have aU:Hid (∀ k,k<n->refN (ns.drop k)=if 65536<ns.getD k 0 then 2 else refN (ns.drop (k+1))):=fun k hk=>y5c (by omega);obtain ⟨aO,ai⟩:∃ r,refN ns=r:=⟨_,rfl⟩;rw [ai];have af:Hid (refN (ns.drop 0)=aO):=(by show _=_; rw [List.drop_zero]; exact ai);have ae:Hid (refN (ns.drop n)=0):=(by show _=_; rw [<- hn,List.drop_length]; rfl);clear hc ai hn;go_enter func94,ntmps94;go_wp2;go_loopw [6,11] (fun _ ii wr=>wr=w/\∃ k:Nat,ii=.int .i64 k/\k<=n/\refN (ns.drop k)=aO) (fun _ ii _=>n - (intOf ii).toNat)
 case atStart=>exact ⟨rfl,0,rfl,by omega,V af⟩
 case round =>
  obtain ⟨rfl,k,rfl,hk,hs⟩:=hrel;by_cases hlt:k<n
  ·have aw:=V aU k hlt;rw [hs] at aw;obtain ⟨ao,cap,ac,hc1,hc2⟩:=V HC k hlt;have an:=O aw;clear aw hs;generalize ns.getD k 0=m at *;by_cases hm:65536<m
   ·have hs:=V an;rw [if_pos hm] at hs;subst hs;clear an af;go_wp2;go_ret;exact ⟨rfl,rfl⟩
   ·have hs:=V an;rw [if_neg hm] at hs;have aT:=O hs;clear an hs;go_wp2
    go_roundw
    case rel=>exact ⟨by first | rfl | trivial,k+1,by go_num,by omega,(V aT).symm⟩
    case measure=>simp [intOf]; omega
  ·obtain rfl:k=n:=(by omega);rw [V ae] at hs;subst hs;clear af;go_wp2;go_ret;exact ⟨rfl,rfl⟩
def SeqE (w:World) (zs:List Int) (er:Int) (e:Ending) (w':World):Prop:=∃ v,e=.returned (.tuple #[v,.int .i64 er])/\Ok .i32 21 w' w.heap.size v zs/\Below w.heap.size w w'
theorem one_cell (w:World) (ao:Option Addr) (n cap:Nat) (ty:TypeId):(w.alloc (.cells #[.slice ao n cap] ty)).cell? ⟨w.heap.size,0,none⟩=some (.slice ao n cap):=by
 simp [World.cell?,World.alloc,-World.alloc_eq]
