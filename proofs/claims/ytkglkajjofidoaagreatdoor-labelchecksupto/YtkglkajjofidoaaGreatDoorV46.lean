/- Of12 Og12 -/
import Derived.Test.YtkglkajjofidoaaGreatDoorV43
import Derived.Deep.CutBlock
import Derived.Deep.DeepCutAuto
set_option maxHeartbeats 8000000
set_option maxRecDepth 8000
namespace Go.Proofs.YtkglkajjofidoaaGreatDoor
open Go.Proofs.Tryz
open Go.RowKit
theorem x8v {rs:List Rec} (tv v:Value) (xs:List Int) (w:World) (ht:Rcs w tv rs) (hk:(Cn.check rs).2=0) (hx:Sk .i32 w v xs) (bC:xs.length<=65536):Calls prog 131 #[tv,v] w (x0i w (Cn.openAll rs xs)):=by
 obtain ⟨ta,ax,be,_,_⟩:=ht.shape;obtain ⟨i0,hi,bf,bg,bh⟩:=info_parts x7S;have HX:=O hx;obtain ⟨vo,vc,ap,hv1,hv2⟩:=hx.shape;subst ap;have HF:Hid (∀ c W,Rune c->Bw w W->Calls prog 167 #[tv,.int .i32 c] W (x0i W (Cn.full rs c).1)):=fun c W hc hW=>y5b tv rs c W (ht.below hW) hc;have ba:=fun k (h:k<xs.length)=>O (Cn.x3S rs xs h);have a6:=fun k=>O (Cn.x1A hk (xs.take k));have aY:=fun c=>O (Cn.leaves hk c).2.2.1;have aX:=fun c=>O (Cn.leaves hk c).2.1;have aW:Hid (Cn.openAll rs (xs.take xs.length)=Cn.openAll rs xs):=(by show _=_; rw [List.take_length]);subst be;clear ht hk hx;go_enter func131,ntmps131;go_wp2;go_loopw [5,6] (fun yy ii wr=>∃ k:Nat,ii=.int .i64 k/\k<=xs.length/\Ok .i32 21 wr w.heap.size yy (Cn.openAll rs (xs.take k))/\Bw w wr) (fun _ ii _=>xs.length - (intOf ii).toNat)
 case atStart=>exact ⟨0,rfl,by omega,Ok.nil _ _ _ _,b0r⟩
 case round =>
  obtain ⟨k,rfl,hkl,ac,hb⟩:=hrel;by_cases hlt:k<xs.length
  ·obtain ⟨bx,ox,cqx,bt,_,_,aK⟩:=(V HX).place (by omega);simp only [Value.slice.injEq] at bt;obtain ⟨rfl,h9,rfl⟩:=bt;clear h9
   have aJ:wr.cell? ⟨bx,ox+k,none⟩=some (.int .i32 (xs.getD k 0)):=by
    have h3:=aK k hlt;rw [hb.cell (x0a h3)]; exact h3
   have bA:Rune (xs.getD k 0):=by
    have:=(V HX).1 (xs.getD k 0) (by simp [List.getD,hlt]);exact ⟨this.1,this.2⟩
   have KF:=O (V HF (xs.getD k 0) wr bA hb);have bF:=O (V (ba k hlt));have bz:=V (a6 k);rw [List.length_take] at bz;have hfl:=V (aY (xs.getD k 0));have av:=V (aX (xs.getD k 0));have hbs:=hb.size;have HB:=O hb;have ag:=O ac;obtain ⟨yo,yc,aB,_,_⟩:=ac.sk.shape;subst aB;clear aK hb bA ac ba a6 aY aX;generalize hzs:Cn.openAll rs (xs.take k)=zs at *;generalize hfs:(Cn.full rs (xs.getD k 0)).1=fs at *;generalize xs.getD k 0=c at *;have hzl:zs.length<=2097152:=(by omega);clear bz hzs hfs;go_wp2_with fail;refine (V KF).mono ?_;rintro e1 w1 ⟨v1,rfl,bi,b1⟩;obtain ⟨fb,fo,fc,bH,_,_,bu⟩:=bi.sk.place av;subst bH
   have ab:∀ j u,(fs.map (Value.int .i32))[j]?=some u->w1.cell? ((⟨fb,fo,none⟩:Addr).add j)=some u:=by
    intro j u hu;obtain ⟨hj,hu⟩:=List.getElem?_eq_some_iff.1 hu;rw [List.length_map] at hj;rw [addr_add,bu j hj,<- hu];simp [List.getD,hj]
   have aQ:w1.ownsRow w.heap.size 21 1 (.slice yo zs.length yc) zs.length (zs.map (Value.int .i32)):=by
    have:=((V ag).below b1).row;simpa using this
   have bJ:=b1.size;have ar:=O aQ;have ak:=O ab;have bk:=O (V ag).1;have bj:=O bi.1;have aC:=O (x0b (V HB) b1);clear KF bi bu ab aQ b1 aJ ag HB;go_wp2_with (at_builtin; refine wpList_append_own _ rfl (.tmp 13) (.tmp 19) 23 rfl w.heap.size 21 i0 (.int .i32 0) 1 4 underlying23 hi bf bg bh rfl (by decide) _ _ _ rfl (V ar) ⟨fb,fo,none⟩ fs.length fc (fs.map (Value.int .i32)) rfl (by simp) (V ak) (fun u hu=>by obtain ⟨z,_,rfl⟩:=List.mem_map.1 hu; rfl) (by unfold maxLen; omega) (by omega) (by omega) ?_);intro v2 w2 ao bv _
   have aO:Ok .i32 21 w2 w.heap.size v2 (zs++fs):=by
    refine Ok.of (n:=zs.length+fs.length) (us:=zs.map (Value.int .i32)++fs.map (Value.int .i32)) (fun z hz=>?_) (by simp; omega) ao (by simp) (by simp);rcases List.mem_append.1 hz with hz | hz
    ·exact V bk z hz
    ·exact V bj z hz
   have an:Bw w w2:=(V aC).grown bv (by omega) (fun j hj=>((V ar).lt j hj).1);have a8:=O aO;have af:=O an;clear ao bv aO an ar ak bk bj aC;go_wp2
   go_roundw
   case rel=>exact ⟨k+1,by go_num,by omega,by rw [V bF]; exact V a8,V af⟩
   case measure=>simp [intOf]; omega
  ·obtain rfl:k=xs.length:=(by omega);rw [V aW] at ac;have bD:Hid (x0i w (Cn.openAll rs xs) (.returned u5) wr):=⟨u5,rfl,ac,hb⟩
   obtain ⟨yo,yl,yc,aB⟩:∃ yo yl yc,u5=.slice yo yl yc:=by
    obtain ⟨yo,yc,e,_,_⟩:=ac.sk.shape;exact ⟨yo,_,yc,e⟩
   subst aB;clear ac hb ba a6 aY aX HF;go_wp2;go_ret;exact V bD
namespace Cn
end Cn
namespace Cn
def innerD (rs:List Rec):Nat->List Int->List Int
 | 0,l=>l
 | k+1,l=>if cls rs (l.getD (k+1) 0)≠0/\cls rs (l.getD (k+1) 0)<cls rs (l.getD k 0) then innerD rs k ((l.set (k+1) (l.getD k 0)).set k (l.getD (k+1) 0)) else l
def x5g (rs:List Rec):Nat->Nat->List Int->List Int
 | 0,_,l=>l
 | f+1,i,l=>x5g rs f (i+1) (innerD rs i l)
def docSort (rs:List Rec) (xs:List Int):List Int:=x5g rs (xs.length - 1) 1 xs
theorem x6b (rs:List Rec):∀ (k:Nat) (l:List Int),(innerD rs k l).length=l.length
 | 0,_=>rfl
 | k+1,l=>by
  rw [innerD];split
  ·rw [x6b rs k]; simp
  ·rfl
end Cn
theorem y5d {rs:List Rec} (tv v:Value) (xs:List Int) (w:World) (ht:Rcs w tv rs) (h6:(Cn.check6 rs).2=0) (hx:Sk .i32 w v xs) (bC:xs.length<=3000000):Calls prog 130 #[tv,v] w (x0i w (Cn.docSort rs xs)):=by
 obtain ⟨i0,hi,bf,bg,bh⟩:=info_parts x7S;obtain ⟨ta,ax,be,_,_⟩:=ht.shape;have HC:Hid (∀ c W,Rune c->Bw w W->Calls prog 91 #[tv,.int .i32 c] W (IntB W (Cn.cls rs c))):=fun c W hc hW=>x5l tv rs c W (ht.below hW) hc;have HR:Hid (∀ c,0<=Cn.cls rs c/\Cn.cls rs c<=254):=fun c=>Cn.x1M h6 c;subst be;obtain ⟨aR,aw⟩:∃ r,Cn.docSort rs xs=r:=⟨_,rfl⟩;rw [aw];have ai:=O aw;have bE:=O hx.1;clear ht h6 aw;rcases hx.2.src with ⟨hnil0,ap⟩ | ⟨ad,vcap,ap,ab⟩
 ·subst ap;have aN:xs=[]:=by simpa using hnil0
  have HF:Hid (x0i w aR (.returned (.slice none 0 0)) w):=by
   have h:=V ai;rw [aN] at h;rw [<- h];exact ⟨_,rfl,Ok.nil _ _ _ _,b0r⟩
  clear hx hnil0 aN ai HC;go_enter func130,ntmps130;go_wp2_with (at_builtin; refine wpList_append_own_none rfl (.tmp 9) (.tmp 10) 23 rfl w.heap.size 21 i0 1 underlying23 hi _ _ _ rfl (World.ownsRow_nil _ _ _ _) rfl ?_);go_wp2;refine wp_loop_rounds 1 ?_;rw [rounds_succ];go_wp2;go_ret;exact V HF
 ·have aM:(xs.map (Value.int .i32)).length=xs.length:=List.length_map _;rw [aM] at ap;subst ap;have aV:=O ab;clear hx ab aM;go_enter func130,ntmps130;go_wp2_with (at_builtin; refine wpList_append_own _ rfl (.tmp 9) (.tmp 10) 23 rfl w.heap.size 21 i0 (.int .i32 0) 1 4 underlying23 hi bf bg bh rfl (by decide) _ _ _ rfl (World.ownsRow_nil _ _ _ _) ad xs.length vcap (xs.map (Value.int .i32)) rfl (by simp) (V aV) (fun u hu=>by obtain ⟨z,_,rfl⟩:=List.mem_map.1 hu; rfl) (by unfold maxLen; omega) (by omega) (by omega) ?_);intro v1 w1 al bc _;have ae:Ok .i32 21 w1 w.heap.size v1 xs:=Ok.of (V bE) (by omega) al (by simp) (by simp);have aU:Bw w w1:=(b0r).grown bc (l0r _) (fun k hk=>by cases hk);rcases Nat.eq_zero_or_pos xs.length with hn0 | hn0
  ·obtain ⟨yo,yl,yc,aB⟩:∃ yo yl yc,v1=.slice yo yl yc:=by
    obtain ⟨yo,yc,e,_,_⟩:=ae.sk.shape;exact ⟨yo,_,yc,e⟩
   have bL:yl=0:=by
    obtain ⟨yo',yc',e,_,_⟩:=ae.sk.shape;rw [aB] at e;simp only [Value.slice.injEq] at e;omega
   subst aB bL
   have HF:Hid (x0i w aR (.returned (.slice yo 0 yc)) w1):=by
    have h:=V ai;rw [List.eq_nil_of_length_eq_zero hn0] at h ae;rw [<- h];exact ⟨_,rfl,ae,aU⟩
   clear al bc ae aU ai HC aV;go_wp2;refine wp_loop_rounds 1 ?_;rw [rounds_succ];go_wp2;go_ret;exact V HF
  ·obtain ⟨g,cap,ap,aI,hcap2⟩:∃ g cap,v1=.slice (some ⟨g,0,none⟩) xs.length cap/\xs.length<=cap/\cap<=9223372036854775807:=by
    rcases ae.row.2 with ⟨_,h0⟩ | ⟨g,cap,cur,e,_,_,hn,hc,_⟩
    ·exact absurd (by simpa using h0:xs=[]) (fun e=>by rw [e] at hn0; simp at hn0)
    ·exact ⟨g,cap,by simpa using e,by simpa using hn,by unfold maxLen at hc; omega⟩
   subst ap;have bI:w.heap.size<=g:=(ae.row.lt g rfl).1;obtain ⟨n,hn⟩:∃ n,xs.length=n:=⟨_,rfl⟩;have a7:=O ae;have aC:=O aU;have HN:=O hn;rw [hn] at hn0 aI bC a7 ⊢;clear al bc ae aU hn aV;go_wp2;go_loopw [6,7,8] (fun ii _ _ wr=>∃ (i:Nat) (l:List Int),ii=.int .i64 i/\1<=i/\i<=n/\l.length=n/\Cn.x5g rs (n - i) i l=aR/\Ok .i32 21 wr w.heap.size (.slice (some ⟨g,0,none⟩) n cap) l/\Bw w wr) (fun ii _ _ _=>n - (intOf ii).toNat)
   case atStart=>exact ⟨1,xs,rfl,by omega,by omega,V HN,by have h:=V ai; unfold Cn.docSort at h; rw [V HN] at h; exact h,V a7,V aC⟩
   case round =>
    clear a7 aC ai;obtain ⟨i,l,rfl,hi1,am,bd,aA,ac,hb⟩:=hrel;obtain ⟨wo,bK⟩:∃ wo,wo=wr:=⟨_,rfl⟩;subst bK;by_cases hlt:i<n
    ·obtain ⟨R,hR⟩:∃ R,Cn.innerD rs i l=R:=⟨_,rfl⟩
     have aP:Cn.x5g rs (n - (i+1)) (i+1) R=aR:=by
      rw [<- aA,show n - i=(n - (i+1))+1 by omega,Cn.x5g,hR]
     have bp:R.length=n:=(by rw [<- hR,Cn.x6b]; exact bd);have bl:=O aP;have bm:=O bp;have ag:=O ac;have HB:=O hb;have a9:=O hR;have a5:=O bd;clear aA aP bp ac hb hR bd;go_upto_block 1 with fail;go_cut [7,8] (fun _ _ wd=>Ok .i32 21 wd w.heap.size (.slice (some ⟨g,0,none⟩) n cap) R/\Bw w wd)
     case first =>
      clear bl bm;go_wp2;go_loopw [7,8] (fun kk _ wr=>∃ (k:Nat) (m:List Int),kk=.int .i64 k/\k<=i/\m.length=n/\Cn.innerD rs k m=R/\Ok .i32 21 wr w.heap.size (.slice (some ⟨g,0,none⟩) n cap) m/\Bw w wr) (fun kk _ _=>(intOf kk).toNat)
      case atStart=>exact ⟨i,l,rfl,l0r _,V a5,V a9,V ag,V HB⟩
      case round =>
       clear ag HB a9 a5;obtain ⟨k,m,rfl,hki,aM,aj,ac,hb⟩:=hrel;have ag:=O ac;have HB:=O hb
       cases k with
       | zero =>
        have hR:m=R:=aj;subst hR;clear ac hb;go_wp2;refine wp_region_held_drew (S:=fun w'=>wr.heap.size<=w'.heap.size) (by kernel_rfl) ((x0k ⟨1,rfl⟩:Bw wr wr.drew).size) (fun hHeld=>?_);refine tk9 0 (.int .i64 0) ?_;refine tk9 1 (.bool false) ?_;refine tk9 2 (.bool false) ?_;refine tn9 3 ?_;refine tn9 4 ?_;refine tn9 5 ?_;refine tn9 6 ?_;refine tn9 7 ?_;refine tn9 8 ?_;refine tn9 9 ?_;refine tk9 10 (.bool false) ?_;refine tk9 11 (.bool false) ?_;refine tn9 12 ?_;refine tn9 13 ?_;refine tn9 14 ?_;refine tn9 15 ?_;refine tn9 16 ?_;refine tn9 17 ?_;refine tn9 18 ?_;refine tn9 19 ?_;refine tn9 20 ?_;refine tn9 21 ?_;refine tn9 22 ?_;refine tn9 23 ?_;refine tn9 24 ?_;refine tn9 25 ?_;refine tk9 26 (.bool false) ?_;refine wpAnyH_done (by kernel_rfl) ?_ _;have hbd:Bw wr wr.drew:=x0k ⟨1,rfl⟩;have ah:=O ((V ag).below hbd);have af:=O (x0b (V HB) hbd);clear hbd hHeld ag HB;generalize wr.drew=w9 at *;go_wp2
        go_meet
        case rel=>exact ⟨V ah,V af⟩
       | succ k =>
        rw [Cn.innerD] at aj;obtain ⟨bx,ox,cq,he,_,_,bb⟩:=ac.sk.place (by omega);simp only [Value.slice.injEq,Option.some.injEq,Addr.mk.injEq] at he;obtain ⟨⟨rfl,rfl,hx1⟩,hx2,rfl⟩:=he;clear hx1 hx2;have aG:=bb (k+1) (by omega);have aF:=bb k (by omega);rw [Nat.zero_add] at aG aF;have aL:=ac.1 (m.getD (k+1) 0) (by simp [List.getD,show k+1<m.length by omega]);have av:=ac.1 (m.getD k 0) (by simp [List.getD,show k<m.length by omega]);have HS:Hid (∀ W,Bw wr W->W.cell? ⟨g,k+1,none⟩=some (.int .i32 (m.getD (k+1) 0))/\W.cell? ⟨g,k,none⟩=some (.int .i32 (m.getD k 0))):=fun W hW=>⟨by rw [hW.cell (x0a aG)]; exact aG,by rw [hW.cell (x0a aF)]; exact aF⟩;have az:Hid (∀ W,Bw wr W->Calls prog 91 #[.slice ta rs.length ax,.int .i32 (m.getD (k+1) 0)] W (IntB W (Cn.cls rs (m.getD (k+1) 0)))):=fun W hW=>V HC _ W ⟨aL.1,aL.2⟩ (x0b hb hW);have aT:Hid (∀ W,Bw wr W->Calls prog 91 #[.slice ta rs.length ax,.int .i32 (m.getD k 0)] W (IntB W (Cn.cls rs (m.getD k 0)))):=fun W hW=>V HC _ W ⟨av.1,av.2⟩ (x0b hb hW);have hq:=V HR (m.getD (k+1) 0);have hr:=V HR (m.getD k 0);obtain ⟨c1,aH⟩:∃ c,m.getD (k+1) 0=c:=⟨_,rfl⟩;obtain ⟨c0,au⟩:∃ c,m.getD k 0=c:=⟨_,rfl⟩;rw [aH] at aj aG aL HS az hq;rw [au] at aj aF av HS aT hr;have bw:w.heap.size<=g:=bI
        have aS:Hid (∀ W,Bw wr W->W.frozen? ⟨g,k+1,none⟩=false/\(W.setCell ⟨g,k+1,none⟩ (.int .i32 c0)).frozen? ⟨g,k,none⟩=false/\(W.setCell ⟨g,k+1,none⟩ (.int .i32 c0)).cell? ⟨g,k,none⟩=some (.int .i32 c0)/\Ok .i32 21 ((W.setCell ⟨g,k+1,none⟩ (.int .i32 c0)).setCell ⟨g,k,none⟩ (.int .i32 c1)) w.heap.size (.slice (some ⟨g,0,none⟩) n cap) ((m.set (k+1) c0).set k c1)/\Bw w ((W.setCell ⟨g,k+1,none⟩ (.int .i32 c0)).setCell ⟨g,k,none⟩ (.int .i32 c1))):=fun W hW=>by
         obtain ⟨o1,f1⟩:=(ac.below hW).setAt9 (k+1) c0 (fun z hz=>by rw [List.mem_singleton] at hz; rw [hz]; exact av);obtain ⟨o2,f2⟩:=o1.setAt9 k c1 (fun z hz=>by rw [List.mem_singleton] at hz; rw [hz]; exact aL)
         have bs:(W.setCell ⟨g,k+1,none⟩ (.int .i32 c0)).cell? ⟨g,k,none⟩=some (.int .i32 c0):=by
          obtain ⟨b3,o3,q3,e3,_,_,h3⟩:=o1.sk.place (by rw [List.length_set]; omega);simp only [Value.slice.injEq,Option.some.injEq,Addr.mk.injEq] at e3;obtain ⟨⟨rfl,rfl,_⟩,_,_⟩:=e3;have h4:=h3 k (by rw [List.length_set]; omega);rw [Nat.zero_add] at h4;rw [h4,List.getD,List.getElem?_set_ne (by omega)];rw [<- au]; rfl
         exact ⟨f1,f2,bs,o2,x0c (x0c (x0b hb hW) bw _) bw _⟩
        have bB:((m.set (k+1) c0).set k c1).length=n:=(by simp [aM]);have bn:=O bB;have ay:=O aj;clear aj bb aG aF ac hb aL av aH au aM bB;generalize Cn.cls rs c1=q at *;generalize Cn.cls rs c0=r at *;obtain ⟨hq0,hq1⟩:=hq;obtain ⟨hr0,hr1⟩:=hr;have hkw:IntKind.i64.wrap ((k:Int)+1 - 1)=(k:Int):=(by rw [IntKind.wrap_i64]; omega);by_cases hqz:q=0
        ·have am:=V ay;rw [if_neg (fun h=>h.1 hqz)] at am;subst am;subst hqz;clear ay aS bn aT;go_wp2;refine wp_region_held_drew (S:=fun w'=>(w'.cell? ⟨g,k+1,none⟩=some (.int .i32 c1)/\w'.cell? ⟨g,k,none⟩=some (.int .i32 c0))) (by kernel_rfl) (V HS _ (x0k ⟨1,rfl⟩)) (fun hHeld=>?_);refine tk9 0 (.int .i64 ((k:Int)+1)) ?_ (hy:=by (intro w aa; obtain ⟨s1,s0⟩:=aa; go_simp; try (first | done | omega)));refine tk9 1 (.bool true) ?_ (hy:=by (intro w aa; obtain ⟨s1,s0⟩:=aa; go_simp; try (first | done | omega)));refine tk9 2 (.bool true) ?_ (hy:=by (intro w aa; obtain ⟨s1,s0⟩:=aa; go_simp; try (first | done | omega)));refine tk9 3 (.slice ta rs.length ax) ?_ (hy:=by (intro w aa; obtain ⟨s1,s0⟩:=aa; go_simp; try (first | done | omega)));refine tk9 4 (.slice (some ⟨g,0,none⟩) n cap) ?_ (hy:=by (intro w aa; obtain ⟨s1,s0⟩:=aa; go_simp; try (first | done | omega)));refine tk9 5 (.int .i64 ((k:Int)+1)) ?_ (hy:=by (intro w aa; obtain ⟨s1,s0⟩:=aa; go_simp; try (first | done | omega)));refine tk9 6 (.pointer (some ⟨g,k+1,none⟩)) ?_ (hy:=by (intro w aa; obtain ⟨s1,s0⟩:=aa; go_simp; try (first | done | omega)));refine tk9 7 (.int .i32 c1) ?_ (hy:=by (intro w aa; obtain ⟨s1,s0⟩:=aa; go_simp; try (first | done | omega)));refine rd9 8 fun K hK=>?_;go_simp;refine (V az _ (x0k ⟨1,rfl⟩)).mono ?_;rintro e2 w2 ⟨rfl,an⟩;have af:=O (x0b (x0k ⟨1,rfl⟩) an:Bw wr w2);clear an;refine hK.out _ _ ?_ (fun hHeld=>?_)
         ·exact V HS _ (V af)
         clear hK K
         try simp only [Act.put,sa9,sb9,sc9]
         refine tk9 9 (.bool false) ?_ (hy:=by (intro w aa; obtain ⟨s1,s0⟩:=aa; go_simp));refine tk9 10 (.bool false) ?_ (hy:=by (intro w aa; obtain ⟨s1,s0⟩:=aa; go_simp));refine tk9 11 (.bool false) ?_ (hy:=by (intro w aa; obtain ⟨s1,s0⟩:=aa; go_simp));refine tn9 12 ?_;refine tn9 13 ?_;refine tn9 14 ?_;refine tn9 15 ?_;refine tn9 16 ?_;refine tn9 17 ?_;refine tn9 18 ?_;refine tn9 19 ?_;refine tn9 20 ?_;refine tn9 21 ?_;refine tn9 22 ?_;refine tn9 23 ?_;refine tn9 24 ?_;refine tn9 25 ?_;refine tk9 26 (.bool false) ?_ (hy:=by (intro w aa; obtain ⟨s1,s0⟩:=aa; go_simp));refine wpAnyH_done (by kernel_rfl) ?_ _;have ah:=O ((V ag).below (V af));have aE:=O (x0b (V HB) (V af));clear hHeld ag HB af HS az;go_wp2
         go_meet
         case rel=>exact ⟨V ah,V aE⟩
        ·have hnz:(q != 0)=true:=bne_iff_ne.2 hqz;go_wp2;refine wp_region_held_drew (S:=fun w'=>(w'.cell? ⟨g,k+1,none⟩=some (.int .i32 c1)/\w'.cell? ⟨g,k,none⟩=some (.int .i32 c0))) (by kernel_rfl) (V HS _ (x0k ⟨1,rfl⟩)) (fun hHeld=>?_);refine tk9 0 (.int .i64 ((k:Int)+1)) ?_ (hy:=by (intro w aa; obtain ⟨s1,s0⟩:=aa; go_simp; try (first | done | omega)));refine tk9 1 (.bool true) ?_ (hy:=by (intro w aa; obtain ⟨s1,s0⟩:=aa; go_simp; try (first | done | omega)));refine tk9 2 (.bool true) ?_ (hy:=by (intro w aa; obtain ⟨s1,s0⟩:=aa; go_simp; try (first | done | omega)));refine tk9 3 (.slice ta rs.length ax) ?_ (hy:=by (intro w aa; obtain ⟨s1,s0⟩:=aa; go_simp; try (first | done | omega)));refine tk9 4 (.slice (some ⟨g,0,none⟩) n cap) ?_ (hy:=by (intro w aa; obtain ⟨s1,s0⟩:=aa; go_simp; try (first | done | omega)));refine tk9 5 (.int .i64 ((k:Int)+1)) ?_ (hy:=by (intro w aa; obtain ⟨s1,s0⟩:=aa; go_simp; try (first | done | omega)));refine tk9 6 (.pointer (some ⟨g,k+1,none⟩)) ?_ (hy:=by (intro w aa; obtain ⟨s1,s0⟩:=aa; go_simp; try (first | done | omega)));refine tk9 7 (.int .i32 c1) ?_ (hy:=by (intro w aa; obtain ⟨s1,s0⟩:=aa; go_simp; try (first | done | omega)));refine rd9 8 fun K hK=>?_;go_simp;refine (V az _ (x0k ⟨1,rfl⟩)).mono ?_;rintro e2 w2 ⟨rfl,an⟩;have af:=O (x0b (x0k ⟨1,rfl⟩) an:Bw wr w2);clear an;refine hK.out _ _ ?_ (fun hHeld=>?_)
         ·exact V HS _ (V af)
         clear hK K
         try simp only [Act.put,sa9,sb9,sc9]
         refine tk9 9 (.bool true) ?_ (hy:=by (intro w aa; obtain ⟨s1,s0⟩:=aa; go_simp));refine tk9 10 (.bool true) ?_ (hy:=by (intro w aa; obtain ⟨s1,s0⟩:=aa; go_simp));refine tk9 11 (.bool true) ?_ (hy:=by (intro w aa; obtain ⟨s1,s0⟩:=aa; go_simp));refine tk9 12 (.slice ta rs.length ax) ?_ (hy:=by (intro w aa; obtain ⟨s1,s0⟩:=aa; go_simp; try (first | done | omega)));refine tk9 13 (.slice (some ⟨g,0,none⟩) n cap) ?_ (hy:=by (intro w aa; obtain ⟨s1,s0⟩:=aa; go_simp; try (first | done | omega)));refine tk9 14 (.int .i64 ((k:Int)+1)) ?_ (hy:=by (intro w aa; obtain ⟨s1,s0⟩:=aa; go_simp; try (first | done | omega)));refine tk9 15 (.int .i64 (k:Int)) ?_ (hy:=by (intro w aa; obtain ⟨s1,s0⟩:=aa; go_simp; first | done | omega | (rw [IntKind.wrap_i64]; omega)));refine tk9 16 (.pointer (some ⟨g,k,none⟩)) ?_ (hy:=by (intro w aa; obtain ⟨s1,s0⟩:=aa; go_simp; try (first | done | omega)));refine tk9 17 (.int .i32 c0) ?_ (hy:=by (intro w aa; obtain ⟨s1,s0⟩:=aa; go_simp; try (first | done | omega)));refine tk9 19 (.slice ta rs.length ax) ?_ (hy:=by (intro w aa; obtain ⟨s1,s0⟩:=aa; go_simp; try (first | done | omega)));refine tk9 20 (.slice (some ⟨g,0,none⟩) n cap) ?_ (hy:=by (intro w aa; obtain ⟨s1,s0⟩:=aa; go_simp; try (first | done | omega)));refine tk9 21 (.int .i64 ((k:Int)+1)) ?_ (hy:=by (intro w aa; obtain ⟨s1,s0⟩:=aa; go_simp; try (first | done | omega)));refine tk9 22 (.pointer (some ⟨g,k+1,none⟩)) ?_ (hy:=by (intro w aa; obtain ⟨s1,s0⟩:=aa; go_simp; try (first | done | omega)));refine tk9 23 (.int .i32 c1) ?_ (hy:=by (intro w aa; obtain ⟨s1,s0⟩:=aa; go_simp; try (first | done | omega)));refine rd9 18 fun K hK=>?_;go_simp;refine (V aT _ (V af)).mono ?_;rintro e3 w3 ⟨rfl,bq⟩;have aD:=O (x0b (V af) bq);clear bq;refine hK.out _ _ ?_ (fun hHeld=>?_)
         ·exact V HS _ (V aD)
         clear hK K
         try simp only [Act.put,sa9,sb9,sc9]
         refine rd9 24 fun K hK=>?_;go_simp;refine (V az _ (V aD)).mono ?_;rintro e4 w4 ⟨rfl,br⟩;have aq:=O (x0b (V aD) br);clear br;refine hK.out _ _ ?_ (fun hHeld=>?_)
         ·exact V HS _ (V aq)
         clear hK K
         try simp only [Act.put,sa9,sb9,sc9]
         refine tk9 25 (.bool (decide (q<r))) ?_ (hy:=by (intro w aa; obtain ⟨s1,s0⟩:=aa; go_simp));refine tk9 26 (.bool (decide (q<r))) ?_ (hy:=by (intro w aa; obtain ⟨s1,s0⟩:=aa; go_simp));refine wpAnyH_done (by kernel_rfl) ?_ _;clear hHeld aT az;have bG:=V HS w4 (V aq);obtain ⟨bJ,hs0⟩:=bG;by_cases hlt2:q<r
         ·have am:=V ay;rw [if_pos ⟨hqz,hlt2⟩] at am;have aZ:=O am;obtain ⟨f1,f2,bs,o2,bo⟩:=V aS w4 (V aq);have a8:=O o2;have aE:=O bo;clear ay am aS HS o2 bo ag HB af aD aq;rw [d0t hlt2];go_wp2;exact ⟨⟨k,_,rfl,by omega,V bn,V aZ,V a8,V aE⟩,by simp [intOf]⟩
         ·have am:=V ay;rw [if_neg (fun h=>hlt2 h.2)] at am;subst am;have ah:=O ((V ag).below (V aq));have aE:=O (x0b (V HB) (V aq));clear ay aS HS ag HB af aD aq;rw [d0f hlt2];go_wp2
          go_meet
          case rel=>exact ⟨V ah,V aE⟩
     case rest =>
      obtain ⟨ac,hb⟩:=hcut;have ah:=O ac;have af:=O hb;clear ac hb ag HB a9 a5;go_wp2
      go_roundw
      case rel=>exact ⟨i+1,R,by go_num,by omega,by omega,V bm,V bl,V ah,V af⟩
      case measure=>simp [intOf]; omega
    ·obtain rfl:i=n:=(by omega);rw [Nat.sub_self] at aA;have aA:l=aR:=aA;subst aA;have HF:Hid (x0i w l (.returned (.slice (some ⟨g,0,none⟩) i cap)) wo):=⟨_,rfl,ac,hb⟩;clear ac hb;go_wp2;go_ret;exact V HF
