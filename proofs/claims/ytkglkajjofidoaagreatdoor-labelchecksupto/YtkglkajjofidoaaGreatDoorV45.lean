/- Om12 On12 Oq12 Or12 -/
import Derived.Test.YtkglkajjofidoaaGreatDoorV44
import Derived.Test.YtkglkajjofidoaaGreatDoorV43
set_option maxHeartbeats 4000000
set_option maxRecDepth 8000
namespace Go.Proofs.YtkglkajjofidoaaGreatDoor
open Go.Proofs.Tryz
open Go.RowKit
open Ti
namespace Od
theorem x1r.below {w w':World} {k:Int->Int} {g:Nat} {ms:List Int} (h:x1r w k g ms) (hb:Bw w w'):x1r w' k g ms:=by
 obtain ⟨mv,h1,h2,h3⟩:=h;refine ⟨mv,h1.below hb h1.lt,h2,?_⟩;rcases h3 with h3 | ⟨j,cap,cur,e1,e2,e3,e4⟩
 ·exact Or.inl h3
 ·exact Or.inr ⟨j,cap,cur,e1,e2,by rw [hb.block j (Array.getElem?_eq_some_iff.1 e3).1]; exact e3,e4⟩
theorem z2K:Tryz.zeroCells222=(Value.slice none 0 0 :: ia z255).toArray:=by kernel_rfl
theorem x1r.new (w:World) (k:Int->Int):x1r (w.alloc (.cells Tryz.zeroCells222 222)) k w.heap.size []:=⟨.slice none 0 0,by rw [y0j]; exact Blk.new w _ _ _ z2K,rfl,Or.inl ⟨rfl,rfl⟩⟩
theorem x2o (a b:List Int):ir (a++b)=ir a++ir b:=List.map_append
theorem x7V (k:Int->Int) (g yb n cap:Nat) (D ms R:List Int) (C:List Value) (w:World) (h:x1r w k g ms) (hy:Blk w yb 21 (ir (D++ms++R)++C)) (hn:D.length+ms.length=n) (aM:n<=cap/\cap<=9223372036854775807) (hk:Od.Mk k ms) (hs:n<=3000000) (a8:yb<g):Calls prog 170 #[.pointer (some ⟨g,0,none⟩),.slice (some ⟨yb,0,none⟩) n cap] w fun e w'=>e=.returned (.tuple #[])/\Blk w' yb 21 (ir (D++Od.bkt k ms++R)++C)/\x1r w' k g []/\Below yb w w':=by
 rcases Nat.eq_zero_or_pos ms.length with h0 | h0
 ·obtain rfl:=List.eq_nil_of_length_eq_zero h0;refine (x6d k g _ w h).mono ?_;rintro e w' ⟨rfl,rfl⟩;rw [Od.x8X];exact ⟨rfl,hy,h,b0r⟩
 ·subst hn
  have bb:Blk w yb 21 (ir D++ir ms++(ir R++C)):=by
   rw [x2o,x2o] at hy;simpa [List.append_assoc] using hy
  refine (y1R k g yb D.length cap ms ms (ir D) (ir R++C) w h bb (x2H D) rfl aM hk (by omega) (by omega) h0 a8).mono ?_;rintro e w' ⟨rfl,a,b,c⟩;refine ⟨rfl,?_,b,c⟩;rw [x2o,x2o];simpa [List.append_assoc] using a
theorem y1Y (k:Int->Int) (ms:List Int) {c:Int} (l:List Int) (h:k c=0):Od.ordA k ms (c :: l)=Od.bkt k ms++c :: Od.ordA k [] l:=by rw [Od.ordA,if_pos h]
theorem y1Z (k:Int->Int) (ms:List Int) {c:Int} (l:List Int) (h:k c≠0):Od.ordA k ms (c :: l)=Od.ordA k (ms++[c]) l:=by rw [Od.ordA,if_neg h]
theorem y3z {xs:List Int} {i:Nat} (h:i<xs.length):xs.drop i=xs.getD i 0 :: xs.drop (i+1):=by
 rw [List.drop_eq_getElem_cons h]; simp [List.getD,h]
theorem y2e {p:Nat} {k:Int->Int} (w0 w1:World) (av:∀ c W,Rune c->Bw w0 W->Calls prog 134 #[.pointer (some ⟨p,0,none⟩),.int .i32 c] W (x1e W (k c))) (am:∀ c,0<=k c/\k c<=254) (hb:Bw w0 w1) (yb cap:Nat) (xs:List Int) (C:List Value) (ay:w0.heap.size<=yb) (hy:Blk w1 yb 21 (ir xs++C)) (ac:∀ z∈xs,Rune z) (ar:xs.length<=cap) (au:cap<=9223372036854775807) (hl:xs.length<=3000000):Calls prog 133 #[.pointer (some ⟨p,0,none⟩),.slice (some ⟨yb,0,none⟩) xs.length cap] w1 fun e w'=>e=.returned (.tuple #[])/\Blk w' yb 21 (ir (Od.ord k xs)++C)/\Bw w0 w':=by
 have HR:=O am;have HC:=O av;obtain ⟨g,hg⟩:∃ g,w1.heap.size=g:=⟨_,rfl⟩;obtain ⟨W2,aj⟩:∃ W2,w1.alloc (.cells Tryz.zeroCells222 222)=W2:=⟨_,rfl⟩;have be:=hy.lt;have r2:x1r W2 k g []:=(by rw [<- aj,<- hg]; exact x1r.new w1 k);have y2:Blk W2 yb 21 (ir xs++C):=(by rw [<- aj]; exact hy.alloc _);have b2:Bw w0 W2:=(by rw [<- aj]; exact hb.alloc hb.size _);have aS:yb<g:=(by omega);have aV:=O ac;have aW:=O r2;have aY:=O y2;have ai:=O b2;obtain ⟨n,hn⟩:∃ n,xs.length=n:=⟨_,rfl⟩;have HN:=O hn;rw [hn] at ar hl ⊢;have aI:Hid (([]:List Int)++Od.ordA k [] (xs.drop 0)=Od.ord k xs):=(by show _=_; rw [List.drop_zero]; rfl);obtain ⟨aE,ax⟩:∃ r,Od.ord k xs=r:=⟨_,rfl⟩;rw [ax] at aI ⊢;clear av am hb hy ac r2 y2 b2 ax hn be;go_enter func133,ntmps133;go_wp2;clear aj hg;go_loopw [5,6,9] (fun _ _ ii wr=>∃ (i:Nat) (D ms:List Int),ii=.int .i64 i/\i<=n/\D.length+ms.length=i/\Od.Mk k ms/\D++Od.ordA k ms (xs.drop i)=aE/\x1r wr k g ms/\Blk wr yb 21 (ir (D++ms++xs.drop i)++C)/\Bw w0 wr) (fun _ _ ii _=>n - (intOf ii).toNat)
 case atStart=>exact ⟨0,[],[],rfl,by omega,rfl,fun _ h=>(by cases h),V aI,V aW,by simpa using V aY,V ai⟩
 case round =>
  clear aW aY ai aI;obtain ⟨i,D,ms,rfl,hin,aO,aC,aw,aD,an,aq⟩:=hrel;by_cases hlt:i<n
  ·have aQ:i<xs.length:=(by rw [V HN]; exact hlt);have aP:=y3z aQ
   have aa:wr.cell? ⟨yb,i,none⟩=some (.int .i32 (xs.getD i 0)):=by
    refine an.cell ?_;rw [List.getElem?_append_left (by rw [x2H]; simp; omega),aP,x2o,List.getElem?_append_right (by rw [x2H]; simp; omega),x2H,List.length_append,aO,Nat.sub_self];rfl
   have a6:Rune (xs.getD i 0):=V aV _ (by simp [List.getD,aQ]);have KC:=O (V HC (xs.getD i 0) wr a6 aq);obtain ⟨q0,q1⟩:=V HR (xs.getD i 0);have aX:=O aD;have aA:=O an;have aU:=O aq;have aH:=O aC;have ad:=O aw;have ao:=O aP;clear aD an aq a6 aC aw aP;obtain ⟨c,hc⟩:∃ c,xs.getD i 0=c:=⟨_,rfl⟩;rw [hc] at aa KC q0 q1 ao;obtain ⟨q,hq⟩:∃ q:Nat,k c=(q:Int):=⟨(k c).toNat,by omega⟩;rw [hq] at KC;have HQ:=O hq;clear hc aQ;rw [hq] at q0 q1;clear hq;go_wp2_with fail;refine (V KC).mono ?_;rintro e1 w2 ⟨rfl,m1,rfl⟩;have bd:Bw wr (wr.drewN m1):=x0k ⟨m1,rfl⟩;have af:x1r (wr.drewN m1) k g ms:=(V aX).below bd;have ah:Blk (wr.drewN m1) yb 21 (ir (D++ms++xs.drop i)++C):=(V aA).below bd (V aA).lt;have ae:=x0b (V aU) bd;have ab:(wr.drewN m1).cell? ⟨yb,i,none⟩=some (.int .i32 c):=(by rw [bd.cell (V aA).lt]; exact aa);clear KC aa aX aA aU bd;generalize wr.drewN m1=w2 at *;by_cases hq0:q=0
   ·subst hq0;have KL:=O (x7V k g yb i cap D ms (xs.drop i) C w2 af ah aO ⟨by omega,au⟩ (V aH) (by omega) aS);have ai:=O ae
    have HE:Hid ((D++Od.bkt k ms++[c])++Od.ordA k [] (xs.drop (i+1))=aE):=by
     have:=V ad;rw [V ao,y1Y k ms _ (V HQ)] at this;show _=_;rw [<- this]; simp
    have HL:Hid ((D++Od.bkt k ms++[c]).length+([]:List Int).length=i+1):=by
     show _=_;simp [Od.x6x (V aH)]; omega
    clear af ah ae ad;go_wp2_with fail;refine (V KL).mono ?_;rintro e3 w3 ⟨rfl,ag,hr3,b3⟩;have ap:Bw w0 w3:=(V ai).trans (b3.mono ay);have aK:=O ag;have aJ:=O hr3;have aG:=O ap;clear KL ai ag hr3 b3 ap ab;go_wp2
    go_roundw
    case rel =>
     refine ⟨i+1,D++Od.bkt k ms++[c],[],by go_num,by omega,V HL,fun _ h=>(by cases h),V HE,V aJ,?_,V aG⟩;have:=V aK;rw [V ao] at this;simpa using this
    case measure=>simp [intOf]; omega
   ·have KG:=O (x7P k g ms c q w2 af (V HQ) (by omega) (by omega) (by omega));have ai:=O ae;have aZ:=O ah
    have HE:Hid (D++Od.ordA k (ms++[c]) (xs.drop (i+1))=aE):=by
     have:=V ad;rw [V ao,y1Z k ms _ (by rw [V HQ]; omega)] at this;exact this
    have hqi:¬ ((q:Int)=0):=(by omega);clear af ah ae ad;go_wp2_with fail;refine (V KG).mono ?_;rintro e3 w3 ⟨rfl,hr3,b3⟩;have ap:Bw w0 w3:=(V ai).trans (b3.mono (by omega));have ag:=(V aZ).below b3 aS;have aK:=O ag;have aJ:=O hr3;have aG:=O ap;clear KG ai ag hr3 b3 ap ab aZ;go_wp2
    go_roundw
    case rel =>
     refine ⟨i+1,D,ms++[c],by go_num,by omega,by simp; omega,Od.x6T (V aH) (by rw [V HQ]; omega) (by rw [V HQ]; omega),V HE,V aJ,?_,V aG⟩;have:=V aK;rw [V ao] at this;simpa using this
    case measure=>simp [intOf]; omega
  ·obtain rfl:i=n:=(by omega);have a7:xs.drop i=[]:=List.drop_of_length_le (by rw [V HN]; omega);rw [a7] at aw an;have KL:=O (x7V k g yb i cap D ms [] C wr aD an aO ⟨ar,au⟩ aC hl aS);have HB:=O aq;have HE:Hid (D++Od.bkt k ms++[]=aE):=(by show _=_; rw [List.append_nil]; exact aw);clear aw aD an aq aC HC HR aV;go_wp2_with fail;refine (V KL).mono ?_;rintro e3 w3 ⟨rfl,ag,hr3,b3⟩;rw [V HE] at ag;have HF:=O (And.intro ag ((V HB).trans (b3.mono ay)));clear KL HB ag hr3 b3;go_wp2;go_end0;exact ⟨rfl,V HF⟩
theorem y4W {p:Nat} {k:Int->Int} (w0 w1:World) (v:Value) (xs:List Int) (av:∀ c W,Rune c->Bw w0 W->Calls prog 134 #[.pointer (some ⟨p,0,none⟩),.int .i32 c] W (x1e W (k c))) (am:∀ c,0<=k c/\k c<=254) (hb:Bw w0 w1) (hx:Ok .i32 21 w1 w0.heap.size v xs) (hl:xs.length<=3000000):Calls prog 133 #[.pointer (some ⟨p,0,none⟩),v] w1 fun e w'=>e=.returned (.tuple #[])/\Ok .i32 21 w' w0.heap.size v (Od.ord k xs)/\Bw w0 w':=by
 have ac:∀ z∈xs,Rune z:=fun z hz=>⟨(hx.1 z hz).1,(hx.1 z hz).2⟩;have a5:Fit .i32 (Od.ord k xs):=fun z hz=>hx.1 z (Od.z0d am hz);have ak:=Od.y4N am xs;rcases hx.row.2 with ⟨rfl,h0⟩ | ⟨yb,cap,cur,rfl,ay,hcur,ar,au,hcs,hct⟩
 ·obtain rfl:=List.eq_nil_of_length_eq_zero h0;obtain ⟨g,hg⟩:∃ g,w1.heap.size=g:=⟨_,rfl⟩;obtain ⟨W2,aj⟩:∃ W2,w1.alloc (.cells Tryz.zeroCells222 222)=W2:=⟨_,rfl⟩;have r2:x1r W2 k g []:=(by rw [<- aj,<- hg]; exact x1r.new w1 k);have b2:Bw w0 W2:=(by rw [<- aj]; exact hb.alloc hb.size _);have KL:=O (x6d k g (.slice none 0 0) W2 r2);have HF:Hid (Ok .i32 21 W2 w0.heap.size (.slice none 0 0) (Od.ord k [])/\Bw w0 W2):=⟨by rw [show Od.ord k []=[] from Od.x8X k]; exact Ok.nil _ _ _ _,b2⟩;clear hx ac a5 ak hb r2 b2 av;go_enter func133,ntmps133;go_wp2;refine wp_loop_rounds 1 ?_;rw [rounds_succ];go_wp2_with fail;refine (V KL).mono ?_;rintro e w3 ⟨rfl,rfl⟩;clear KL aj hg;go_wp2;go_end0;exact ⟨rfl,V HF⟩
 ·have hy:Blk w1 yb 21 (ir xs++cur.toList.drop (xs.length * 1)):=by
   have e:ir xs=cur.toList.take (xs.length * 1):=hct.symm;rw [e,List.take_append_drop];unfold Blk; rw [hcur]
  refine (y2e w0 w1 av am hb yb cap xs _ ay hy ac ar (by unfold maxLen at au; omega) hl).mono ?_;rintro e w' ⟨rfl,a,b⟩;refine ⟨rfl,?_,b⟩;have aN:cur.toList.length=cap * 1:=(Array.length_toList (xs:=cur)).trans hcs;refine Ok.of (n:=xs.length) (us:=ir (Od.ord k xs)) a5 (by rw [ak]; omega) ⟨by rw [x2H,ak]; omega,Or.inr ⟨yb,cap,_,rfl,ay,a,ar,au,?_,?_⟩⟩ ak.symm rfl
  ·rw [List.size_toArray,List.length_append,x2H,ak,List.length_drop,aN]; omega
  ·rw [List.take_append_of_le_length (by rw [x2H,ak]; omega),List.take_of_length_le (by rw [x2H,ak]; omega)]
end Od
open Ti Od
namespace Cn
def nfd (rs:List Rec) (xs:List Int):List Int:=Od.ord (cls rs) (openAll rs xs)
end Cn
theorem x4H {B p:Nat} {rs:List Rec} {w:World} (hD:x0p w B p rs) (h6:(Cn.check6 rs).2=0):∀ c W,Rune c->Bw w W->Calls prog 134 #[.pointer (some ⟨p,0,none⟩),.int .i32 c] W (x1e W (Cn.cls rs c)):=fun c W hc hW=>by
 rw [Cn.y1a h6]; exact x5W c W (hD.below hW) h6 hc
theorem x1L {rs:List Rec} (hk:(Cn.check rs).2=0):(Cn.check6 rs).2=0:=by
 exact (Cn.x0D.1 hk).1
theorem x8d {B p:Nat} {rs:List Rec} (v:Value) (xs:List Int) (w:World) (hg:Glob w) (hD:x0p w B p rs) (hk:(Cn.check rs).2=0) (hx:Sk .i32 w v xs) (ba:xs.length<=65536):Calls prog 95 #[.pointer (some ⟨p,0,none⟩),v] w (x0i w (Cn.nfd rs xs)):=by
 have h6:=x1L hk;have K1:=O (x8g v xs w hg hD hk hx ba);have a9:=Cn.x1A hk xs;have K2:Hid (∀ v1 w1,Ok .i32 21 w1 w.heap.size v1 (Cn.openAll rs xs)->Bw w w1->Calls prog 133 #[.pointer (some ⟨p,0,none⟩),v1] w1 fun e w'=>e=.returned (.tuple #[])/\Ok .i32 21 w' w.heap.size v1 (Cn.nfd rs xs)/\Bw w w'):=fun v1 w1 h1 h2=>y4W w w1 v1 _ (x4H hD h6) (fun c=>Cn.x1M h6 c) h2 h1 (by omega);obtain ⟨vo,vc,aR,hv1,hv2⟩:=hx.shape;subst aR;clear hg hD hk hx h6 a9;generalize Cn.openAll rs xs=zs at *;generalize Cn.nfd rs xs=ys at *;go_enter func95,ntmps95;go_wp2_with fail;refine (V K1).mono ?_;rintro e1 w1 ⟨v1,rfl,aT,b1⟩;have K3:=O (V K2 v1 w1 aT b1);obtain ⟨yo,yc,bc,_,_⟩:=aT.sk.shape;subst bc;clear K1 K2 aT b1;go_wp2_with fail;refine (V K3).mono ?_;rintro e2 w2 ⟨rfl,az,b2⟩;have HF:Hid (x0i w ys (.returned (.slice yo zs.length yc)) w2):=⟨_,rfl,az,b2⟩;clear K3 az b2;go_wp2;go_ret;exact V HF
theorem y4D {B p:Nat} {rs:List Rec} (v:Value) (xs:List Int) (w:World) (hg:Glob w) (hD:x0p w B p rs) (hk:(Cn.check rs).2=0) (hx:Sk .i32 w v xs):Calls prog 58 #[.pointer (some ⟨p,0,none⟩),v] w (if 65536<xs.length then SeqE w [] 2 else SeqE w (Cn.nfd rs xs) 0):=by
 obtain ⟨vo,vc,aR,hv1,hv2⟩:=hx.shape;subst aR;obtain ⟨W0,aB⟩:∃ W0,w.alloc (.cells #[.slice vo xs.length vc] 23)=W0:=⟨_,rfl⟩;have al:Bw w W0:=(by rw [<- aB]; exact (b0r).alloc (l0r _) _);have aL:W0.cell? ⟨w.heap.size,0,none⟩=some (.slice vo xs.length vc):=by rw [<- aB]; exact one_cell w vo xs.length vc _
 have K1:=O (x7i p w.heap.size 1 [xs.length] W0 rfl (by omega) (fun i hi=>by
  obtain rfl:i=0:=by omega
  exact ⟨vo,vc,aL,hv2,hv1⟩))
 have aF:=O al;by_cases hl:65536<xs.length
 ·rw [if_pos hl];rw [show refN [xs.length]=2 by unfold refN; rw [List.any_cons,d0t hl]; rfl] at K1;clear hg hD hk hx aL al;go_enter func58,ntmps58;go_wp2_with fail;refine (V K1).mono ?_;rintro e1 w1 ⟨rfl,rfl⟩;have HF:Hid (SeqE w [] 2 (.returned (.tuple #[.slice none 0 0,.int .i64 2])) w1):=⟨_,rfl,Ok.nil _ _ _ _,V aF⟩;clear K1 aB;go_wp2;go_ret2;exact V HF
 ·rw [if_neg hl];rw [show refN [xs.length]=0 by unfold refN; rw [List.any_cons,d0f hl]; rfl] at K1;have K2:=O (x8d _ xs W0 (hg.on al) (hD.below al) hk (hx.below al) (by omega));clear hg hD hk hx aL al;generalize Cn.nfd rs xs=zs at *;go_enter func58,ntmps58;go_wp2_with fail;refine (V K1).mono ?_;rintro e1 w1 ⟨rfl,rfl⟩;clear K1;go_wp2_with fail;refine (V K2).mono ?_;rintro e2 w2 ⟨v2,rfl,az,b2⟩;have HF:Hid (SeqE w zs 0 (.returned (.tuple #[v2,.int .i64 0])) w2):=⟨v2,rfl,az.lower (V aF).size,x0b (V aF) b2⟩;clear K2 az b2 aB;go_wp2;go_ret2;exact V HF
open Ti
namespace Cn
end Cn
