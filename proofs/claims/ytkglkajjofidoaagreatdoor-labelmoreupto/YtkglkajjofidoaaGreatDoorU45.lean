/- Om12 On12 Oq12 Or12 -/
import Derived.Test.YtkglkajjofidoaaGreatDoorU44
import Derived.Test.YtkglkajjofidoaaGreatDoorU43
set_option maxHeartbeats 4000000
set_option maxRecDepth 8000
namespace Go.Proofs.YtkglkajjofidoaaGreatDoor
open Go.RowKit
open Ti
namespace Od
theorem x1j.below {w w':World} {k:Int→Int} {g:Nat} {ms:List Int} (h:x1j w k g ms) (hb:Below w.heap.size w w'):x1j w' k g ms:=by
 obtain ⟨mv,h1,h2,h3⟩:=h;refine ⟨mv,h1.below hb h1.lt,h2,?_⟩;rcases h3 with h3 | ⟨j,cap,cur,e1,e2,e3,e4⟩
 ·exact Or.inl h3
 ·exact Or.inr ⟨j,cap,cur,e1,e2,by rw [hb.block j (Array.getElem?_eq_some_iff.1 e3).1]; exact e3,e4⟩
theorem z1A:Tryz.zeroCells222=(Value.slice none 0 0 :: ia z255).toArray:=by kernel_rfl
theorem x1j.new (w:World) (k:Int→Int):x1j (w.alloc (.cells Tryz.zeroCells222 222)) k w.heap.size []:=⟨.slice none 0 0,by rw [x9y]; exact Blk.new w _ _ _ z1A,rfl,Or.inl ⟨rfl,rfl⟩⟩
theorem x2e (a b:List Int):ir (a++b)=ir a++ir b:=List.map_append
theorem x7A (k:Int→Int) (g yb n cap:Nat) (D ms R:List Int) (C:List Value) (w:World) (h:x1j w k g ms) (hy:Blk w yb 21 (ir (D++ms++R)++C)) (hn:D.length+ms.length=n) (aM:n≤cap∧cap≤9223372036854775807) (hk:Od.Mk k ms) (hs:n≤3000000) (a8:yb<g):Calls Tryz.prog 170 #[.pointer (some ⟨g,0,none⟩),.slice (some ⟨yb,0,none⟩) n cap] w fun e w'=>e=.returned (.tuple #[])∧Blk w' yb 21 (ir (D++Od.bkt k ms++R)++C)∧x1j w' k g []∧Below yb w w':=by
 rcases Nat.eq_zero_or_pos ms.length with h0 | h0
 ·obtain rfl:=List.eq_nil_of_length_eq_zero h0
  refine (x5M k g _ w h).mono ?_;rintro e w' ⟨rfl,rfl⟩;rw [Od.y2e];exact ⟨rfl,hy,h,Below.refl _ _⟩
 ·subst hn
  have bb:Blk w yb 21 (ir D++ir ms++(ir R++C)):=by
   rw [x2e,x2e] at hy;simpa [List.append_assoc] using hy
  refine (y0X k g yb D.length cap ms ms (ir D) (ir R++C) w h bb (x2u D) rfl aM hk (by omega) (by omega) h0 a8).mono ?_;rintro e w' ⟨rfl,a,b,c⟩;refine ⟨rfl,?_,b,c⟩;rw [x2e,x2e];simpa [List.append_assoc] using a
theorem y1e (k:Int→Int) (ms:List Int) {c:Int} (l:List Int) (h:k c=0):Od.ordA k ms (c :: l)=Od.bkt k ms++c :: Od.ordA k [] l:=by rw [Od.ordA,if_pos h]
theorem y1f (k:Int→Int) (ms:List Int) {c:Int} (l:List Int) (h:k c≠0):Od.ordA k ms (c :: l)=Od.ordA k (ms++[c]) l:=by rw [Od.ordA,if_neg h]
theorem y2F {xs:List Int} {i:Nat} (h:i<xs.length):xs.drop i=xs.getD i 0 :: xs.drop (i+1):=by
 rw [List.drop_eq_getElem_cons h]; simp [List.getD,h]
theorem y1k {p:Nat} {k:Int→Int} (w0 w1:World) (av:∀ c W,Rune c→Below w0.heap.size w0 W→Calls Tryz.prog 134 #[.pointer (some ⟨p,0,none⟩),.int .i32 c] W (x0Z W (k c))) (am:∀ c,0≤k c∧k c≤254) (hb:Below w0.heap.size w0 w1) (yb cap:Nat) (xs:List Int) (C:List Value) (ay:w0.heap.size≤yb) (hy:Blk w1 yb 21 (ir xs++C)) (ac:∀ z∈xs,Rune z) (ar:xs.length≤cap) (au:cap≤9223372036854775807) (hl:xs.length≤3000000):Calls Tryz.prog 133 #[.pointer (some ⟨p,0,none⟩),.slice (some ⟨yb,0,none⟩) xs.length cap] w1 fun e w'=>e=.returned (.tuple #[])∧Blk w' yb 21 (ir (Od.ord k xs)++C)∧Below w0.heap.size w0 w':=by
 have HR:=Hd am;have HC:=Hd av;obtain ⟨g,hg⟩:∃ g,w1.heap.size=g:=⟨_,rfl⟩;obtain ⟨W2,aj⟩:∃ W2,w1.alloc (.cells Tryz.zeroCells222 222)=W2:=⟨_,rfl⟩;have be:=hy.lt;have r2:x1j W2 k g []:=(by rw [← aj,← hg]; exact x1j.new w1 k);have y2:Blk W2 yb 21 (ir xs++C):=(by rw [← aj]; exact hy.alloc _);have b2:Below w0.heap.size w0 W2:=(by rw [← aj]; exact hb.alloc hb.size _);have aS:yb<g:=(by omega);have aV:=Hd ac;have aW:=Hd r2;have aY:=Hd y2;have ai:=Hd b2;obtain ⟨n,hn⟩:∃ n,xs.length=n:=⟨_,rfl⟩;have HN:=Hd hn;rw [hn] at ar hl ⊢;have aI:Hid (([]:List Int)++Od.ordA k [] (xs.drop 0)=Od.ord k xs):=(by show _=_; rw [List.drop_zero]; rfl);obtain ⟨aE,ax⟩:∃ r,Od.ord k xs=r:=⟨_,rfl⟩;rw [ax] at aI ⊢;clear av am hb hy ac r2 y2 b2 ax hn be;go_enter Tryz.func133,Tryz.ntmps133;go_wp2;clear aj hg;go_loopw [5,6,9] (fun _ _ ii wr=>∃ (i:Nat) (D ms:List Int),ii=.int .i64 i∧i≤n∧D.length+ms.length=i∧Od.Mk k ms∧D++Od.ordA k ms (xs.drop i)=aE∧x1j wr k g ms∧Blk wr yb 21 (ir (D++ms++xs.drop i)++C)∧Below w0.heap.size w0 wr) (fun _ _ ii _=>n - (intOf ii).toNat)
 case atStart=>exact ⟨0,[],[],rfl,by omega,rfl,fun _ h=>(by cases h),Uh aI,Uh aW,by simpa using Uh aY,Uh ai⟩
 case round =>
  clear aW aY ai aI;obtain ⟨i,D,ms,rfl,hin,aO,aC,aw,aD,an,aq⟩:=hrel;by_cases hlt:i<n
  ·have aQ:i<xs.length:=by rw [Uh HN]; exact hlt
   have aP:=y2F aQ
   have aa:wr.cell? ⟨yb,i,none⟩=some (.int .i32 (xs.getD i 0)):=by
    refine an.cell ?_;rw [List.getElem?_append_left (by rw [x2u]; simp; omega),aP,x2e,List.getElem?_append_right (by rw [x2u]; simp; omega),x2u,List.length_append,aO,Nat.sub_self];rfl
   have a6:Rune (xs.getD i 0):=(Uh aV) _ (by simp [List.getD,aQ]);have KC:=Hd ((Uh HC) (xs.getD i 0) wr a6 aq);obtain ⟨q0,q1⟩:=(Uh HR) (xs.getD i 0);have aX:=Hd aD;have aA:=Hd an;have aU:=Hd aq;have aH:=Hd aC;have ad:=Hd aw;have ao:=Hd aP;clear aD an aq a6 aC aw aP;obtain ⟨c,hc⟩:∃ c,xs.getD i 0=c:=⟨_,rfl⟩;rw [hc] at aa KC q0 q1 ao;obtain ⟨q,hq⟩:∃ q:Nat,k c=(q:Int):=⟨(k c).toNat,by omega⟩;rw [hq] at KC;have HQ:=Hd hq;clear hc aQ;rw [hq] at q0 q1;clear hq;go_wp2_with fail;refine (Uh KC).mono ?_;rintro e1 w2 ⟨rfl,m1,rfl⟩;have bd:Below wr.heap.size wr (wr.drewN m1):=x0l ⟨m1,rfl⟩;have af:x1j (wr.drewN m1) k g ms:=(Uh aX).below bd;have ah:Blk (wr.drewN m1) yb 21 (ir (D++ms++xs.drop i)++C):=(Uh aA).below bd (Uh aA).lt;have ae:=x0b (Uh aU) bd;have ab:(wr.drewN m1).cell? ⟨yb,i,none⟩=some (.int .i32 c):=(by rw [bd.cell (Uh aA).lt]; exact aa);clear KC aa aX aA aU bd;generalize wr.drewN m1=w2 at *;by_cases hq0:q=0
   ·subst hq0
    have KL:=Hd (x7A k g yb i cap D ms (xs.drop i) C w2 af ah aO ⟨by omega,au⟩ (Uh aH) (by omega) aS);have ai:=Hd ae
    have HE:Hid ((D++Od.bkt k ms++[c])++Od.ordA k [] (xs.drop (i+1))=aE):=by
     have:=Uh ad;rw [Uh ao,y1e k ms _ (Uh HQ)] at this;show _=_;rw [← this]; simp
    have HL:Hid ((D++Od.bkt k ms++[c]).length+([]:List Int).length=i+1):=by
     show _=_;simp [Od.x6f (Uh aH)]; omega
    clear af ah ae ad;go_wp2_with fail;refine (Uh KL).mono ?_;rintro e3 w3 ⟨rfl,ag,hr3,b3⟩;have ap:Below w0.heap.size w0 w3:=(Uh ai).trans (b3.mono ay);have aK:=Hd ag;have aJ:=Hd hr3;have aG:=Hd ap;clear KL ai ag hr3 b3 ap ab;go_wp2
    go_roundw
    case rel =>
     refine ⟨i+1,D++Od.bkt k ms++[c],[],by go_num,by omega,Uh HL,fun _ h=>(by cases h),Uh HE,Uh aJ,?_,Uh aG⟩;have:=Uh aK;rw [Uh ao] at this;simpa using this
    case measure=>simp [intOf]; omega
   ·have KG:=Hd (x7w k g ms c q w2 af (Uh HQ) (by omega) (by omega) (by omega))
    have ai:=Hd ae;have aZ:=Hd ah
    have HE:Hid (D++Od.ordA k (ms++[c]) (xs.drop (i+1))=aE):=by
     have:=Uh ad;rw [Uh ao,y1f k ms _ (by rw [Uh HQ]; omega)] at this;exact this
    have hqi:¬ ((q:Int)=0):=(by omega);clear af ah ae ad;go_wp2_with fail;refine (Uh KG).mono ?_;rintro e3 w3 ⟨rfl,hr3,b3⟩;have ap:Below w0.heap.size w0 w3:=(Uh ai).trans (b3.mono (by omega));have ag:=(Uh aZ).below b3 aS;have aK:=Hd ag;have aJ:=Hd hr3;have aG:=Hd ap;clear KG ai ag hr3 b3 ap ab aZ;go_wp2
    go_roundw
    case rel =>
     refine ⟨i+1,D,ms++[c],by go_num,by omega,by simp; omega,Od.x8P (Uh aH) (by rw [Uh HQ]; omega) (by rw [Uh HQ]; omega),Uh HE,Uh aJ,?_,Uh aG⟩;have:=Uh aK;rw [Uh ao] at this;simpa using this
    case measure=>simp [intOf]; omega
  ·obtain rfl:i=n:=by omega
   have a7:xs.drop i=[]:=List.drop_of_length_le (by rw [Uh HN]; omega);rw [a7] at aw an;have KL:=Hd (x7A k g yb i cap D ms [] C wr aD an aO ⟨ar,au⟩ aC hl aS);have HB:=Hd aq;have HE:Hid (D++Od.bkt k ms++[]=aE):=(by show _=_; rw [List.append_nil]; exact aw);clear aw aD an aq aC HC HR aV;go_wp2_with fail;refine (Uh KL).mono ?_;rintro e3 w3 ⟨rfl,ag,hr3,b3⟩;rw [Uh HE] at ag;have HF:=Hd (And.intro ag ((Uh HB).trans (b3.mono ay)));clear KL HB ag hr3 b3;go_wp2;go_end0;exact ⟨rfl,Uh HF⟩
theorem y4c {p:Nat} {k:Int→Int} (w0 w1:World) (v:Value) (xs:List Int) (av:∀ c W,Rune c→Below w0.heap.size w0 W→Calls Tryz.prog 134 #[.pointer (some ⟨p,0,none⟩),.int .i32 c] W (x0Z W (k c))) (am:∀ c,0≤k c∧k c≤254) (hb:Below w0.heap.size w0 w1) (hx:Ok .i32 21 w1 w0.heap.size v xs) (hl:xs.length≤3000000):Calls Tryz.prog 133 #[.pointer (some ⟨p,0,none⟩),v] w1 fun e w'=>e=.returned (.tuple #[])∧Ok .i32 21 w' w0.heap.size v (Od.ord k xs)∧Below w0.heap.size w0 w':=by
 have ac:∀ z∈xs,Rune z:=fun z hz=>⟨(hx.1 z hz).1,(hx.1 z hz).2⟩;have a5:Fit .i32 (Od.ord k xs):=fun z hz=>hx.1 z (Od.y8R am hz);have ak:=Od.y3T am xs;rcases hx.row.2 with ⟨rfl,h0⟩ | ⟨yb,cap,cur,rfl,ay,hcur,ar,au,hcs,hct⟩
 ·obtain rfl:=List.eq_nil_of_length_eq_zero h0
  obtain ⟨g,hg⟩:∃ g,w1.heap.size=g:=⟨_,rfl⟩;obtain ⟨W2,aj⟩:∃ W2,w1.alloc (.cells Tryz.zeroCells222 222)=W2:=⟨_,rfl⟩;have r2:x1j W2 k g []:=(by rw [← aj,← hg]; exact x1j.new w1 k);have b2:Below w0.heap.size w0 W2:=(by rw [← aj]; exact hb.alloc hb.size _);have KL:=Hd (x5M k g (.slice none 0 0) W2 r2);have HF:Hid (Ok .i32 21 W2 w0.heap.size (.slice none 0 0) (Od.ord k [])∧Below w0.heap.size w0 W2):=⟨by rw [show Od.ord k []=[] from Od.y2e k]; exact Ok.nil _ _ _ _,b2⟩;clear hx ac a5 ak hb r2 b2 av;go_enter Tryz.func133,Tryz.ntmps133;go_wp2;refine wp_loop_rounds 1 ?_;rw [rounds_succ];go_wp2_with fail;refine (Uh KL).mono ?_;rintro e w3 ⟨rfl,rfl⟩;clear KL aj hg;go_wp2;go_end0;exact ⟨rfl,Uh HF⟩
 ·have hy:Blk w1 yb 21 (ir xs++cur.toList.drop (xs.length * 1)):=by
   have e:ir xs=cur.toList.take (xs.length * 1):=hct.symm;rw [e,List.take_append_drop];unfold Blk; rw [hcur]
  refine (y1k w0 w1 av am hb yb cap xs _ ay hy ac ar (by unfold maxLen at au; omega) hl).mono ?_;rintro e w' ⟨rfl,a,b⟩;refine ⟨rfl,?_,b⟩;have aN:cur.toList.length=cap * 1:=(Array.length_toList (xs:=cur)).trans hcs;refine Ok.of (n:=xs.length) (us:=ir (Od.ord k xs)) a5 (by rw [ak]; omega) ⟨by rw [x2u,ak]; omega,Or.inr ⟨yb,cap,_,rfl,ay,a,ar,au,?_,?_⟩⟩ ak.symm rfl
  ·rw [List.size_toArray,List.length_append,x2u,ak,List.length_drop,aN]; omega
  ·rw [List.take_append_of_le_length (by rw [x2u,ak]; omega),List.take_of_length_le (by rw [x2u,ak]; omega)]
end Od
open Ti Od
namespace Cn
def nfd (rs:List Rec) (xs:List Int):List Int:=Od.ord (cls rs) (openAll rs xs)
end Cn
theorem x4t {B p:Nat} {rs:List Rec} {w:World} (hD:x0o w B p rs) (h6:(Cn.check6 rs).2=0):∀ c W,Rune c→Below w.heap.size w W→Calls Tryz.prog 134 #[.pointer (some ⟨p,0,none⟩),.int .i32 c] W (x0Z W (Cn.cls rs c)):=fun c W hc hW=>by
 rw [Cn.y6J h6]; exact x5G c W (hD.below hW) h6 hc
theorem x2O {rs:List Rec} (hk:(Cn.check rs).2=0):(Cn.check6 rs).2=0:=by
 exact (Cn.x0S.1 hk).1
theorem x7I {B p:Nat} {rs:List Rec} (v:Value) (xs:List Int) (w:World) (hg:Glob w) (hD:x0o w B p rs) (hk:(Cn.check rs).2=0) (hx:Sk .i32 w v xs) (ba:xs.length≤65536):Calls Tryz.prog 95 #[.pointer (some ⟨p,0,none⟩),v] w (x0j w (Cn.nfd rs xs)):=by
 have h6:=x2O hk;have K1:=Hd (x7M v xs w hg hD hk hx ba);have a9:=Cn.x2D hk xs;have K2:Hid (∀ v1 w1,Ok .i32 21 w1 w.heap.size v1 (Cn.openAll rs xs)→Below w.heap.size w w1→Calls Tryz.prog 133 #[.pointer (some ⟨p,0,none⟩),v1] w1 fun e w'=>e=.returned (.tuple #[])∧Ok .i32 21 w' w.heap.size v1 (Cn.nfd rs xs)∧Below w.heap.size w w'):=fun v1 w1 h1 h2=>y4c w w1 v1 _ (x4t hD h6) (fun c=>Cn.x4v h6 c) h2 h1 (by omega);obtain ⟨vo,vc,aR,hv1,hv2⟩:=hx.shape;subst aR;clear hg hD hk hx h6 a9;generalize Cn.openAll rs xs=zs at *;generalize Cn.nfd rs xs=ys at *;go_enter Tryz.func95,Tryz.ntmps95;go_wp2_with fail;refine (Uh K1).mono ?_;rintro e1 w1 ⟨v1,rfl,aT,b1⟩;have K3:=Hd ((Uh K2) v1 w1 aT b1);obtain ⟨yo,yc,bc,_,_⟩:=aT.sk.shape;subst bc;clear K1 K2 aT b1;go_wp2_with fail;refine (Uh K3).mono ?_;rintro e2 w2 ⟨rfl,az,b2⟩;have HF:Hid (x0j w ys (.returned (.slice yo zs.length yc)) w2):=⟨_,rfl,az,b2⟩;clear K3 az b2;go_wp2;go_ret;exact Uh HF
theorem y3K {B p:Nat} {rs:List Rec} (v:Value) (xs:List Int) (w:World) (hg:Glob w) (hD:x0o w B p rs) (hk:(Cn.check rs).2=0) (hx:Sk .i32 w v xs):Calls Tryz.prog 58 #[.pointer (some ⟨p,0,none⟩),v] w (if 65536<xs.length then SeqE w [] 2 else SeqE w (Cn.nfd rs xs) 0):=by
 obtain ⟨vo,vc,aR,hv1,hv2⟩:=hx.shape;subst aR;obtain ⟨W0,aB⟩:∃ W0,w.alloc (.cells #[.slice vo xs.length vc] 23)=W0:=⟨_,rfl⟩;have al:Below w.heap.size w W0:=(by rw [← aB]; exact (Below.refl _ _).alloc (Nat.le_refl _) _);have aL:W0.cell? ⟨w.heap.size,0,none⟩=some (.slice vo xs.length vc):=by rw [← aB]; exact one_cell w vo xs.length vc _
 have K1:=Hd (x6Q p w.heap.size 1 [xs.length] W0 rfl (by omega) (fun i hi=>by
  obtain rfl:i=0:=by omega
  exact ⟨vo,vc,aL,hv2,hv1⟩))
 have aF:=Hd al;by_cases hl:65536<xs.length
 ·rw [if_pos hl]
  rw [show refN [xs.length]=2 by unfold refN; rw [List.any_cons,decide_eq_true hl]; rfl] at K1;clear hg hD hk hx aL al;go_enter Tryz.func58,Tryz.ntmps58;go_wp2_with fail;refine (Uh K1).mono ?_;rintro e1 w1 ⟨rfl,rfl⟩;have HF:Hid (SeqE w [] 2 (.returned (.tuple #[.slice none 0 0,.int .i64 2])) w1):=⟨_,rfl,Ok.nil _ _ _ _,Uh aF⟩;clear K1 aB;go_wp2;go_ret2;exact Uh HF
 ·rw [if_neg hl]
  rw [show refN [xs.length]=0 by unfold refN; rw [List.any_cons,decide_eq_false hl]; rfl] at K1;have K2:=Hd (x7I _ xs W0 (hg.on al) (hD.below al) hk (hx.below al) (by omega));clear hg hD hk hx aL al;generalize Cn.nfd rs xs=zs at *;go_enter Tryz.func58,Tryz.ntmps58;go_wp2_with fail;refine (Uh K1).mono ?_;rintro e1 w1 ⟨rfl,rfl⟩;clear K1;go_wp2_with fail;refine (Uh K2).mono ?_;rintro e2 w2 ⟨v2,rfl,az,b2⟩;have HF:Hid (SeqE w zs 0 (.returned (.tuple #[v2,.int .i64 0])) w2):=⟨v2,rfl,az.lower (Uh aF).size,x0b (Uh aF) b2⟩;clear K2 az b2 aB;go_wp2;go_ret2;exact Uh HF
open Ti
namespace Cn
end Cn
end Go.Proofs.YtkglkajjofidoaaGreatDoor
