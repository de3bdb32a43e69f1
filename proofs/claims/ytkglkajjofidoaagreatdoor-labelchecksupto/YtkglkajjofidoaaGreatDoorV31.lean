/- Ux9 Uk9 Vc9 Ve9 -/
import Derived.Deep.RegionHeld
import Derived.Test.YtkglkajjofidoaaGreatDoorV32
set_option maxHeartbeats 4000000
set_option maxRecDepth 8000
namespace Go.Proofs.YtkglkajjofidoaaGreatDoor
open Go.Proofs.Tryz
open Go.RowKit
open Ti
theorem x4D (w:World) (o:Obj):(w.alloc o).heap.size=w.heap.size+1:=Array.size_push ..
structure RecC (w:World) (g off:Nat) (r:Rec) (ao:Option Addr) (ln cp:Nat):Prop where
 x0:w.cell? ⟨g,off,none⟩=some (.int .i64 r.kind)
 x1:w.cell? ⟨g,off+1,none⟩=some (.int .i64 r.lo)
 x2:w.cell? ⟨g,off+2,none⟩=some (.int .i64 r.hi)
 x3:w.cell? ⟨g,off+3,none⟩=some (.int .i64 r.n)
 x4:w.cell? ⟨g,off+4,none⟩=some (.slice ao ln cp)
 x5:w.cell? ⟨g,off+5,none⟩=some (.string r.name)
 x6:w.cell? ⟨g,off+6,none⟩=some (.string r.other)
 x7:w.cell? ⟨g,off+7,none⟩=some (.float .f64 r.wt)
theorem RecC.keep {w w':World} {g off:Nat} {r:Rec} {ao:Option Addr} {ln cp:Nat} (h:RecC w g off r ao ln cp) (hk:w'.heap[g]?=w.heap[g]?):RecC w' g off r ao ln cp:=by
 have hc:∀ j,w'.cell? ⟨g,j,none⟩=w.cell? ⟨g,j,none⟩:=fun j=>(by simp only [World.cell?,hk]);exact ⟨by rw [hc]; exact h.x0,by rw [hc]; exact h.x1,by rw [hc]; exact h.x2,by rw [hc]; exact h.x3,by rw [hc]; exact h.x4,by rw [hc]; exact h.x5,by rw [hc]; exact h.x6,by rw [hc]; exact h.x7⟩
def OfP (w:World) (B:Nat) (r:Rec) (e:Ending) (w':World):Prop:=∃ vt,e=.returned (recV r vt)/\Ok .i32 21 w B vt r.to/\Below w.heap.size w w'
theorem z1T {t l:Value} {rs:List Rec} {f:Int} {B:Nat} (c:Int) (w:World) (hS:SpP w B t l (Cn.famOf f rs)) (h6:(Cn.check6 rs).2=0) (hf:f≠10/\f≠0) (hc:Rune c):Calls prog 244 #[.agg #[t,l],.int .i32 c] w (OfP w B (Cn.rget rs f c)):=by
 obtain ⟨hc1,hc2⟩:=hc;obtain ⟨⟨a,m,e,hp,hs,t4⟩,ps,hR,al⟩:=hS;subst e;have hv:=(Cn.x6i h6 hf hp hs).2 c;obtain ⟨k,hk⟩:∃ k:Nat,Tri.get 0 m c=(k:Int):=⟨(Tri.get 0 m c).toNat,by omega⟩;have aj:ps.length=(Cn.famOf f rs).length+1:=(by have:=congrArg List.length al; simpa using this);have ai:k<ps.length:=(by omega);have aE:(Cn.famOf f rs).length<=4096:=Nat.le_trans (List.length_filter_le _ _) (Cn.x0n.1 h6).1
 have hk1:ps[k].1=Cn.rget rs f c:=by
  have h2:=hv.2.2;rw [hk,Int.toNat_natCast,<- al] at h2;have h3:(ps.map (·.1)).getD k Cn.none=ps[k].1:=(by simp [List.getD,ai]);rw [<- h3]; exact h2
 obtain ⟨g,cap,aF⟩:∃ g cap,l=.slice (some ⟨g,0,none⟩) ps.length cap:=by
  rcases hR.1.2 with ⟨_,h0⟩ | ⟨g,cap,cur,e,_⟩
  ·omega
  ·exact ⟨g,cap,e⟩
 subst aF;obtain ⟨r,ao,ln,cp,hq,x0,x1,x2,x3,x4,x5,x6,x7,_⟩:=hR.cells8 ai;have ar:RecC w g (k * 8) r ao ln cp:=⟨x0,x1,x2,x3,x4,x5,x6,x7⟩;have az:r=Cn.rget rs f c:=(by rw [<- hk1,hq]);rw [<- az];have ay:Ok .i32 21 w B (.slice ao ln cp) r.to:=(by have:=hR.2 ps[k] (List.getElem_mem ai); rw [hq] at this; exact this);have aD:=O ay;have aw:g<w.heap.size:=x0a x0
 have KG:Hid (∀ W,Bw w W->Calls prog 35 #[.pointer (some a),.int .i64 c] W (x1e W (k:Int))):=fun W hW=>by
  have:=get4 _ m 0 c W ⟨B,t4.below hW⟩ ⟨by omega,by omega⟩;rw [hk] at this; exact this
 have hpl:ps.length<=5000:=(by omega);clear hv hk aj hk1 al hR hq x0 x1 x2 x3 x4 x5 x6 x7 ay hp hs t4 h6 az aE;generalize ps.length=pl at *;obtain ⟨W0,af⟩:∃ W0,(w.alloc (.cells #[.pointer (some a),.slice (some ⟨g,0,none⟩) pl cap] 72)).alloc (.cells #[.int .i64 0,.int .i64 0,.int .i64 0,.int .i64 0,.slice none 0 0,.string ⟨#[]⟩,.string ⟨#[]⟩,.float .f64 0] 50)=W0:=⟨_,rfl⟩;have aH:=x4D w (.cells #[.pointer (some a),.slice (some ⟨g,0,none⟩) pl cap] 72);have au:=(Below.refl w.heap.size w).alloc (l0r _) (.cells #[.pointer (some a),.slice (some ⟨g,0,none⟩) pl cap] 72);have ax:=heap_alloc_new w (.cells #[.pointer (some a),.slice (some ⟨g,0,none⟩) pl cap] 72)
 have ag:Bw w W0:=by
  rw [<- af]; exact au.alloc (by omega) _
 have aB:W0.heap[w.heap.size+1]?=some (.cells #[.int .i64 0,.int .i64 0,.int .i64 0,.int .i64 0,.slice none 0 0,.string ⟨#[]⟩,.string ⟨#[]⟩,.float .f64 0] 50 (0,0)):=by
  rw [<- af,<- aH]; exact heap_alloc_new _ _
 have aA:W0.heap[w.heap.size]?=some (.cells #[.pointer (some a),.slice (some ⟨g,0,none⟩) pl cap] 72 (0,0)):=by
  rw [<- af,heap_alloc_old _ _ (by omega)]; exact ax
 have hs0:W0.heap.size=w.heap.size+2:=by rw [<- af,x4D]; omega
 have HS:Hid (∀ W,Bw W0 W->(W.cell? ⟨w.heap.size,0,none⟩=some (.pointer (some a))/\W.cell? ⟨w.heap.size,1,none⟩=some (.slice (some ⟨g,0,none⟩) pl cap))/\RecC W g (k * 8) r ao ln cp):=fun W hW=>by
  have e1:=hW.block w.heap.size (by omega);rw [aA] at e1;exact ⟨⟨cell_of (j:=0) e1 (by show 0<2; omega),cell_of (j:=1) e1 (by show 1<2; omega)⟩,ar.keep (by rw [hW.block g (by omega),ag.block g aw])⟩
 have HZ:Hid (∀ W,Bw W0 W->W.heap[w.heap.size+1]?=some (.cells #[.int .i64 0,.int .i64 0,.int .i64 0,.int .i64 0,.slice none 0 0,.string ⟨#[]⟩,.string ⟨#[]⟩,.float .f64 0] 50 (0,0))):=fun W hW=>by
  rw [hW.block _ (by omega)]; exact aB
 have ap:=O ag;have aC:=O aw;clear au ax aB aA ar ag;go_enter func244,ntmps244;go_wp2;refine wp_region_held_drew (S:=fun w'=>((w'.cell? ⟨w.heap.size,0,none⟩=some (.pointer (some a))/\w'.cell? ⟨w.heap.size,1,none⟩=some (.slice (some ⟨g,0,none⟩) pl cap))/\RecC w' g (k * 8) r ao ln cp)) (by kernel_rfl) (V HS _ (x0k ⟨1,rfl⟩)) (fun hHeld=>?_);refine tk9 0 (.pointer (some ⟨w.heap.size,1,none⟩)) ?_ (hy:=by (intro w aa; obtain ⟨⟨s0,s1⟩,⟨x0,x1,x2,x3,x4,x5,x6,x7⟩⟩:=aa; go_simp));refine tk9 1 (.slice (some ⟨g,0,none⟩) pl cap) ?_ (hy:=by (intro w aa; obtain ⟨⟨s0,s1⟩,⟨x0,x1,x2,x3,x4,x5,x6,x7⟩⟩:=aa; go_simp));refine tk9 2 (.pointer (some ⟨w.heap.size,0,none⟩)) ?_ (hy:=by (intro w aa; obtain ⟨⟨s0,s1⟩,⟨x0,x1,x2,x3,x4,x5,x6,x7⟩⟩:=aa; go_simp));refine tk9 3 (.pointer (some a)) ?_ (hy:=by (intro w aa; obtain ⟨⟨s0,s1⟩,⟨x0,x1,x2,x3,x4,x5,x6,x7⟩⟩:=aa; go_simp));refine tk9 4 (.int .i32 c) ?_ (hy:=by (intro w aa; obtain ⟨⟨s0,s1⟩,⟨x0,x1,x2,x3,x4,x5,x6,x7⟩⟩:=aa; go_simp));refine tk9 5 (.int .i64 c) ?_ (hy:=by (intro w aa; obtain ⟨⟨s0,s1⟩,⟨x0,x1,x2,x3,x4,x5,x6,x7⟩⟩:=aa; go_simp; rw [IntKind.wrap_i64]; omega));refine rd9 6 fun K hK=>?_;go_simp;refine (V KG _ (x0b (V ap) (x0k ⟨1,rfl⟩))).mono ?_;rintro e2 w2 ⟨rfl,mm,rfl⟩;have ae:=O (x0b (x0k ⟨1,rfl⟩) (x0k ⟨mm,rfl⟩):Bw W0 _);refine hK.out _ _ ?_ (fun hHeld=>?_)
 ·exact V HS _ (V ae)
 clear hK K
 try simp only [Act.put,sa9,sb9,sc9]
 refine tk9 7 (.pointer (some ⟨g,k * 8,none⟩)) ?_ (hy:=by (intro w aa; obtain ⟨⟨s0,s1⟩,⟨x0,x1,x2,x3,x4,x5,x6,x7⟩⟩:=aa; go_simp));refine tk9 8 (recV r (.slice ao ln cp)) ?_ (hy:=by (intro w aa; obtain ⟨⟨s0,s1⟩,⟨x0,x1,x2,x3,x4,x5,x6,x7⟩⟩:=aa; first | exact loadR x0 x1 x2 x3 x4 x5 x6 x7 | (unfold recV; go_simp)));refine rd9 9 fun K hK=>?_;generalize ((W0.drewN 1).drewN mm)=V2 at *;have an:=V HZ _ (V ae);have aq:=V HS _ (V ae);have s9:=z2u (off:=0) an (by show 0+8<=8; omega) r ao ln cp;have hV:=y4U (off:=0) an (r,.slice ao ln cp);have ad:∀ b,b≠w.heap.size+1->(putR V2 (w.heap.size+1) 0 (r,.slice ao ln cp)).heap[b]?=V2.heap[b]?:=fun b hb=>x7c _ hb;have av:Bw w (putR V2 (w.heap.size+1) 0 (r,.slice ao ln cp)):=x6j (x0b (V ap) (V ae)) (by omega) _;generalize putR V2 (w.heap.size+1) 0 (r,.slice ao ln cp)=V3 at *;refine x9R rfl 50 (.tmp 4) (.tmp 13) rfl (.pointer (some ⟨w.heap.size+1,0,none⟩)) (recV r (.slice ao ln cp)) rfl rfl s9 ?_;refine hK.out _ _ ?_ (fun hHeld=>?_)
 ·obtain ⟨⟨q0,q1⟩,q2⟩:=aq;have hc:∀ j,V3.cell? ⟨w.heap.size,j,none⟩=V2.cell? ⟨w.heap.size,j,none⟩:=fun j=>(by simp only [World.cell?,ad w.heap.size (by omega)]);exact ⟨⟨by rw [hc]; exact q0,by rw [hc]; exact q1⟩,q2.keep (ad g (by have:=V aC; omega))⟩
 clear hK K
 try simp only [Act.put]
 refine wpAnyH_done (by kernel_rfl) ?_ _
 have z:RecC V3 (w.heap.size+1) 0 r ao ln cp:=by
  have ac:∀ j,j<8->V3.cell? ⟨w.heap.size+1,j,none⟩=(x0u (r,.slice ao ln cp))[j]?:=fun j hj=>by
   have e:=y5n #[.int .i64 0,.int .i64 0,.int .i64 0,.int .i64 0,.slice none 0 0,.string ⟨#[]⟩,.string ⟨#[]⟩,.float .f64 0] 0 (r,.slice ao ln cp) (by show 0+8<=8; omega) j;rw [if_pos (by omega),Nat.sub_zero] at e;rw [<- e];simp [World.cell?,hV]
  exact ⟨ac 0 (by omega),ac 1 (by omega),ac 2 (by omega),ac 3 (by omega),ac 4 (by omega),ac 5 (by omega),ac 6 (by omega),ac 7 (by omega)⟩
 obtain ⟨z0,z1,z2,z3,z4,z5,z6,z7⟩:=z;have ah:OfP w B r (.returned (recV r (.slice ao ln cp))) V3:=⟨_,rfl,V aD,av⟩;clear hV ad av an s9 aq hHeld HZ HS;go_wp2;refine bodyPost_ret (v:=recV r (.slice ao ln cp)) (by simp [results,Tryz.results244,go_sem,z0,z1,z2,z3,z4,z5,z6,z7,recV]) rfl ah
namespace Cn
def within (c a b:Int):Bool:=decide (a<=c/\c<=b)
def bare2 (c:Int):Bool:=syl c && decide ((c - 44032) % 28=0)
def sylOf (a b:Int):Int × Bool :=
 if (jl a && jv b)=true then (44032+((a - 4352) * 21+b - 4449) * 28,true) else if (bare2 a && jt b)=true then (a+b - 4520+1,true) else (0,false)
end Cn
theorem x2g (c a b:Int) (w:World):Calls prog 211 #[.int .i32 c,.int .i32 a,.int .i32 b] w fun e w'=>e=.returned (.bool (Cn.within c a b))/\w'=w:=by
 unfold Cn.within;by_cases h1:a<=c
 ·by_cases h2:c<=b
  ·rw [d0t ⟨h1,h2⟩];go_enter func211,ntmps211;go_wp2;go_ret;exact ⟨rfl,rfl⟩
  ·rw [d0f (fun h=>h2 h.2)];have d2:decide (c<=b)=false:=d0f h2;clear h2;go_enter func211,ntmps211;go_wp2;go_ret;exact ⟨rfl,rfl⟩
 ·rw [d0f (fun h=>h1 h.1)];have d1:decide (a<=c)=false:=d0f h1;clear h1;go_enter func211,ntmps211;go_wp2;go_ret;exact ⟨rfl,rfl⟩
theorem y5G (c:Int) (w:World):Calls prog 212 #[.int .i32 c] w fun e w'=>e=.returned (.bool (Cn.bare2 c))/\w'=w:=by
 have K1:=O (x2g c 44032 55203 w);have e1:Cn.within c 44032 55203=Cn.syl c:=rfl;rw [e1] at K1;clear e1;unfold Cn.bare2;by_cases hs:Cn.syl c=true
 ·have aI:44032<=c/\c<=55203:=o0d hs;obtain ⟨s0,s1⟩:=aI;rw [hs] at K1 ⊢;have e1:(c - 44032).tmod 28=(c - 44032) % 28:=Int.tmod_eq_emod_of_nonneg (by omega);clear hs;obtain ⟨md,ak⟩:∃ md,decide ((c - 44032) % 28=0)=md:=⟨_,rfl⟩;rw [ak];have HB:((c - 44032) % 28==0)=md:=(by rw [<- ak]; rfl);clear ak;go_enter func212,ntmps212;go_wp2_with fail;refine (V K1).mono ?_;rintro e w ⟨rfl,rfl⟩;clear K1;go_wp2;go_ret;exact ⟨rfl,rfl⟩
 ·rw [Bool.not_eq_true] at hs;rw [hs] at K1 ⊢;clear hs;go_enter func212,ntmps212;go_wp2_with fail;refine (V K1).mono ?_;rintro e w ⟨rfl,rfl⟩;clear K1;go_wp2;go_ret;exact ⟨rfl,rfl⟩
theorem x7o (a b:Int) (w:World):Calls prog 171 #[.int .i32 a,.int .i32 b] w fun e w'=>e=.returned (.tuple #[.int .i32 (Cn.sylOf a b).1,.bool (Cn.sylOf a b).2])/\w'=w:=by
 have K1:Hid (∀ w,Calls prog 211 #[.int .i32 a,.int .i32 4352,.int .i32 4370] w fun e w'=>e=.returned (.bool (Cn.jl a))/\w'=w):=fun w=>x2g a 4352 4370 w;have K2:Hid (∀ w,Calls prog 211 #[.int .i32 b,.int .i32 4449,.int .i32 4469] w fun e w'=>e=.returned (.bool (Cn.jv b))/\w'=w):=fun w=>x2g b 4449 4469 w;have K3:=O (fun w=>y5G a w);have K4:Hid (∀ w,Calls prog 211 #[.int .i32 b,.int .i32 4520,.int .i32 4546] w fun e w'=>e=.returned (.bool (Cn.jt b))/\w'=w):=fun w=>x2g b 4520 4546 w;have h1:Cn.jl a=true->4352<=a/\a<=4370:=fun h=>o0d h;have h2:Cn.jv b=true->4449<=b/\b<=4469:=fun h=>o0d h
 have h3:Cn.bare2 a=true->44032<=a/\a<=55203:=fun h=>by
  unfold Cn.bare2 at h;rw [Bool.and_eq_true] at h;exact o0d h.1
 have h4:Cn.jt b=true->4520<=b/\b<=4546:=fun h=>o0d h;unfold Cn.sylOf;generalize Cn.jl a=q1 at *;generalize Cn.jv b=q2 at *;generalize Cn.bare2 a=q3 at *;generalize Cn.jt b=q4 at *;replace h1:=O h1;replace h2:=O h2;replace h3:=O h3;replace h4:=O h4;by_cases c1:(q1 && q2)=true
 ·rw [if_pos c1];obtain ⟨rfl,rfl⟩:q1=true/\q2=true:=(by simpa using c1);obtain ⟨a1,a2⟩:=V h1 rfl;obtain ⟨b1,b2⟩:=V h2 rfl;clear c1 h1 h2 h3 h4 K3 K4;go_enter func171,ntmps171;go_wp2_with fail;refine (V K1 _).mono ?_;rintro e w ⟨rfl,rfl⟩;go_wp2_with fail;refine (V K2 _).mono ?_;rintro e w ⟨rfl,rfl⟩;clear K1 K2;go_wp2;go_ret2;exact ⟨by first | rfl | simp,rfl⟩
 ·rw [if_neg c1];clear h1 h2
  cases q1 with
  | false =>
   clear c1 K2
   cases q3 with
   | false =>
    rw [if_neg (by simp)];clear K4 h3 h4;go_enter func171,ntmps171;go_wp2_with fail;refine (V K1 _).mono ?_;rintro e w ⟨rfl,rfl⟩;clear K1;go_wp2_with fail;refine (V K3 _).mono ?_;rintro e w ⟨rfl,rfl⟩;clear K3;go_wp2;go_ret2;exact ⟨rfl,rfl⟩
   | true =>
    cases q4 with
    | false =>
     rw [if_neg (by simp)];clear h3 h4;go_enter func171,ntmps171;go_wp2_with fail;refine (V K1 _).mono ?_;rintro e w ⟨rfl,rfl⟩;clear K1;go_wp2_with fail;refine (V K3 _).mono ?_;rintro e w ⟨rfl,rfl⟩;go_wp2_with fail;refine (V K4 _).mono ?_;rintro e w ⟨rfl,rfl⟩;clear K3 K4;go_wp2;go_ret2;exact ⟨rfl,rfl⟩
    | true =>
     rw [if_pos (show (true && true)=true from rfl)];obtain ⟨a1,a2⟩:=V h3 rfl;obtain ⟨b1,b2⟩:=V h4 rfl;clear h3 h4;go_enter func171,ntmps171;go_wp2_with fail;refine (V K1 _).mono ?_;rintro e w ⟨rfl,rfl⟩;clear K1;go_wp2_with fail;refine (V K3 _).mono ?_;rintro e w ⟨rfl,rfl⟩;go_wp2_with fail;refine (V K4 _).mono ?_;rintro e w ⟨rfl,rfl⟩;clear K3 K4;go_wp2;go_ret2;exact ⟨by first | rfl | simp,rfl⟩
  | true =>
   obtain rfl:q2=false:=(by cases q2 <;> simp_all);clear c1
   cases q3 with
   | false =>
    rw [if_neg (by simp)];clear K4 h3 h4;go_enter func171,ntmps171;go_wp2_with fail;refine (V K1 _).mono ?_;rintro e w ⟨rfl,rfl⟩;go_wp2_with fail;refine (V K2 _).mono ?_;rintro e w ⟨rfl,rfl⟩;clear K1 K2;go_wp2_with fail;refine (V K3 _).mono ?_;rintro e w ⟨rfl,rfl⟩;clear K3;go_wp2;go_ret2;exact ⟨rfl,rfl⟩
   | true =>
    cases q4 with
    | false =>
     rw [if_neg (by simp)];clear h3 h4;go_enter func171,ntmps171;go_wp2_with fail;refine (V K1 _).mono ?_;rintro e w ⟨rfl,rfl⟩;go_wp2_with fail;refine (V K2 _).mono ?_;rintro e w ⟨rfl,rfl⟩;clear K1 K2;go_wp2_with fail;refine (V K3 _).mono ?_;rintro e w ⟨rfl,rfl⟩;go_wp2_with fail;refine (V K4 _).mono ?_;rintro e w ⟨rfl,rfl⟩;clear K3 K4;go_wp2;go_ret2;exact ⟨rfl,rfl⟩
    | true =>
     rw [if_pos (show (true && true)=true from rfl)];obtain ⟨a1,a2⟩:=V h3 rfl;obtain ⟨b1,b2⟩:=V h4 rfl;clear h3 h4;go_enter func171,ntmps171;go_wp2_with fail;refine (V K1 _).mono ?_;rintro e w ⟨rfl,rfl⟩;go_wp2_with fail;refine (V K2 _).mono ?_;rintro e w ⟨rfl,rfl⟩;clear K1 K2;go_wp2_with fail;refine (V K3 _).mono ?_;rintro e w ⟨rfl,rfl⟩;go_wp2_with fail;refine (V K4 _).mono ?_;rintro e w ⟨rfl,rfl⟩;clear K3 K4;go_wp2;go_ret2;exact ⟨by first | rfl | simp,rfl⟩
open Ti
namespace Cn
def cmp9 (rs:List Rec) (a b:Int):Int × Bool:=if (sylOf a b).2=true then ((sylOf a b).1,true) else ((x0S rs a b).getD 0,(x0S rs a b).isSome)
end Cn
theorem Ok.setAt9 {K:IntKind} {e:TypeId} {w:World} {B g n cap:Nat} {zs:List Int} (h:Ok K e w B (.slice (some ⟨g,0,none⟩) n cap) zs) (k:Nat) (z:Int) (hz:Fit K [z]) :
  Ok K e (w.setCell ⟨g,k,none⟩ (.int K z)) B (.slice (some ⟨g,0,none⟩) n cap) (zs.set k z)/\w.frozen? ⟨g,k,none⟩=false:=by
 have am:=h.row;rcases am.2 with ⟨h0,_⟩ | ⟨g',cap',cur,hv,hb,hh,hn,hcap,hsz,htake⟩
 ·cases h0
 ·simp only [Value.slice.injEq,Option.some.injEq,Addr.mk.injEq] at hv;obtain ⟨⟨rfl,_⟩,aG,rfl⟩:=hv;refine ⟨Ok.of (n:=zs.length) (us:=(zs.set k z).map (Value.int K)) ?_ (by simpa using h.sk.len) ⟨by simp,.inr ⟨g,cap,cur.setIfInBounds k (.int K z),by rw [aG],hb,x0f hh _,hn,hcap,by simpa using hsz,?_⟩⟩ (by simp) rfl,?_⟩
  ·intro y hy;rcases List.mem_or_eq_of_mem_set hy with hy | hy
   ·exact h.1 y hy
   ·subst hy; exact hz _ (by simp)
  ·rw [Nat.mul_one] at htake ⊢;rw [Array.toList_setIfInBounds,List.take_set,htake,<- List.map_set]
  ·simp [World.frozen?,hh]
theorem x7B {B p:Nat} {rs:List Rec} (a b:Int) (w:World) (hD:x0p w B p rs) (ha:Rune a) (hb:Rune b):Calls prog 136 #[.pointer (some ⟨p,0,none⟩),.int .i32 a,.int .i32 b] w fun e w'=>e=.returned (.tuple #[.int .i32 (Cn.cmp9 rs a b).1,.bool (Cn.cmp9 rs a b).2])/\w'=w:=by
 obtain ⟨t1,t2,t3,t4,t5,a1,l1,a2,l2,a3,l3,a4,l4,a5,l5,c1,c2,x1,h1,h2,h3⟩:=hD;have K:=O (x7o a b w);have x:w.cell? ⟨p,15,none⟩=some c1:=cell_of (j:=15) h1 (by show 15<18; omega);obtain ⟨r1,r2,rfl,e2,b1,b2,g1,g2⟩:=h3.co;have ab:=(y8j (w:=w) (M:=79) (z:=.int .i32 0) klP underlying79 y7T (r:=r1) g1 (k:=pk2 a b) ⟨a,b,rfl,ha,hb⟩).1;rw [y0P] at ab;unfold Cn.cmp9;clear h1 h2 h3 g1 g2 e2;obtain ⟨a0,a1'⟩:=ha;obtain ⟨b0,b1'⟩:=hb;generalize Cn.sylOf a b=q at *;obtain ⟨q1,q2⟩:=q
 cases q2 with
 | true =>
  clear ab;go_enter func136,ntmps136;go_wp2_with fail;refine (V K).mono ?_;rintro e wq ⟨rfl,rfl⟩;clear K;go_wp2;go_ret2;exact ⟨rfl,rfl⟩
 | false =>
  cases hpo:Cn.x0S rs a b with
  | none =>
   rw [hpo] at ab;replace ab:(Instr.lookup 79 (.map (some r1)) (.agg #[.int .i32 a,.int .i32 b]) true).run prog w=.ok (.tuple #[.int .i32 0,.bool false]) w:=ab;clear hpo;go_enter func136,ntmps136;go_wp2_with fail;refine (V K).mono ?_;rintro e wq ⟨rfl,rfl⟩;clear K;go_wp2;go_ret2;exact ⟨rfl,rfl⟩
  | some z =>
   rw [hpo] at ab;replace ab:(Instr.lookup 79 (.map (some r1)) (.agg #[.int .i32 a,.int .i32 b]) true).run prog w=.ok (.tuple #[.int .i32 z,.bool true]) w:=ab;clear hpo;go_enter func136,ntmps136;go_wp2_with fail;refine (V K).mono ?_;rintro e wq ⟨rfl,rfl⟩;clear K;go_wp2;go_ret2;exact ⟨rfl,rfl⟩
open Ti
namespace Cn
theorem z1L:x1O.take 150=x1O:=rfl
end Cn
theorem z1K:∀ r∈Cn.x1O,RecFit r:=by
 intro p hp;simp only [Cn.x1O,List.mem_cons,List.mem_nil_iff,or_false] at hp;rcases hp with rfl | rfl | rfl | rfl | rfl | rfl | rfl | rfl | rfl | rfl <;> exact ⟨by unfold I64; decide,by unfold I64; decide,by unfold I64; decide,by unfold I64; decide,by decide,by decide⟩
