/- Rx7 -/
import Derived.Test.YtihhhjodonkkcaaGreatDoorX15
import Derived.Deep.QuietTactic
namespace Go.Proofs.YtihhhjodonkkcaaGreatDoor
open Go.RowKit
namespace Cn
theorem decomp_two {r} (h:right r=0) (h7:r.kind=7):r.to.length=2∧scalar (r.to.getD 0 0)=true∧scalar (r.to.getD 1 0)=true∧0≤r.lo∧r.lo≤1114111:=by
 obtain ⟨h1,h2,h3⟩:=right_decomp h h7
 unfold list at h3
 rw [Bool.and_eq_true] at h3
 have h4:=of_decide_eq_true h3.1
 have hl:r.to.length=2:=by omega
 have h5:=List.all_eq_true.1 h3.2
 have hs:=of_decide_eq_true h2
 exact ⟨hl,h5 _ (by simp [List.getD,hl]),h5 _ (by simp [List.getD,hl]),hs.1,hs.2.1⟩
def twin (r k:Rec):Bool:=decide (k.kind=7∧k.to.getD 0 0=r.to.getD 0 0∧k.to.getD 1 0=r.to.getD 1 0)
theorem pair_eq l i r:pair l i r=(!(decide (cls l r.lo≠0) || decide (cls l (r.to.getD 0 0)≠0) || decide (0<(opn l (r.to.getD 1 0)).length) || (decide (0<(opn l (r.to.getD 0 0)).length) && !(prim l (r.to.getD 0 0)).isSome) || decide (r.to.getD 1 0<128) || decide (r.to.getD 0 0=46)) && !((l.take i).any (twin r))):=by
 have hn:∀ x:List Int,decide (x≠[])=decide (0<x.length):=fun x=>by cases x <;> simp
 unfold pair
 rw [hn,hn]
 cases prim l (r.to.getD 0 0) <;> rfl
theorem twin_hit {l:List Rec} {i k r} (hi:i≤l.length) (hk:k<i) (h:twin r (l.getD k none)=true):(l.take i).any (twin r)=true:=by
 rw [List.any_eq_true]
 exact ⟨_,List.mem_take_iff_getElem.2 ⟨k,by omega,rfl⟩,by have e:l.getD k none=l[k]:=(by simp [List.getD,show k<l.length by omega]); rw [← e]; exact h⟩
theorem twin_none {l:List Rec} {i r} (hi:i≤l.length) (h:∀ k,k<i→twin r (l.getD k none)=false):(l.take i).any (twin r)=false:=by
 rw [List.any_eq_false]
 intro x hx
 obtain ⟨k,hk,rfl⟩:=List.mem_take_iff_getElem.1 hx
 have:=h k (by omega)
 rw [show l.getD k none=l[k] by simp [List.getD,show k<l.length by omega]] at this
 rw [this]
 exact Bool.false_ne_true
end Cn
theorem rune_scalar {c} (h:Cn.scalar c=true):Rune c:=by
 have:=of_decide_eq_true h
 exact ⟨by omega,by omega⟩
theorem two_cells {w va zs} (h:Sk .i32 w va zs) (hl:zs.length=2):∃ b off cap,va=.slice (some ⟨b,off,none⟩) 2 cap∧2≤cap∧cap≤9223372036854775807∧w.cell? ⟨b,off,none⟩=some (.int .i32 (zs.getD 0 0))∧w.cell? ⟨b,off+1,none⟩=some (.int .i32 (zs.getD 1 0)):=by
 obtain ⟨b,off,cap,he,h1,h2,hc⟩:=h.place (by omega)
 exact ⟨b,off,cap,by rw [he,hl],by omega,by omega,by have h0:=hc 0 (by omega); rw [Nat.add_zero] at h0; exact h0,hc 1 (by omega)⟩
def pairG (n1 n2:Int) (l3 l4:Nat) (p5:Bool) (bb a:Int) (an:Bool):Bool:=!(decide (n1≠0) || decide (n2≠0) || decide (0<l3) || (decide (0<l4) && !p5) || decide (bb<128) || decide (a=46)) && !an
theorem pairG_no {n1 n2 l3 l4 p5 bb a} {an} (h:n1≠0∨n2≠0∨0<l3∨(0<l4∧p5=false)∨bb<128∨a=46∨an=true):Ending.returned (.bool false)=Ending.returned (.bool (pairG n1 n2 l3 l4 p5 bb a an)):=by
 have e:pairG n1 n2 l3 l4 p5 bb a an=false:=by
  unfold pairG
  rcases h with h | h | h | ⟨h,rfl⟩ | h | h | h
  ·rw [decide_eq_true h]; simp
  ·rw [decide_eq_true h]; simp
  ·rw [decide_eq_true h]; simp
  ·rw [decide_eq_true h]; simp
  ·rw [decide_eq_true h]; simp
  ·rw [decide_eq_true h]; simp
  ·rw [h]; simp
 rw [e]
theorem pairG_yes {l3 l4 p5 bb a an} (h3:¬ 0<l3) (h4:0<l4→p5=true) (h5:¬ bb<128) (h6:¬ a=46) (h7:an=false):Ending.returned (.bool true)=Ending.returned (.bool (pairG 0 0 l3 l4 p5 bb a an)):=by
 have e:pairG 0 0 l3 l4 p5 bb a an=true:=by
  unfold pairG
  rw [h7,decide_eq_false h3,decide_eq_false h5,decide_eq_false h6]
  by_cases h8:0<l4
  ·rw [h4 h8]; simp
  ·rw [decide_eq_false h8]; simp
 rw [e]
set_option maxRecDepth 8000 in
set_option maxHeartbeats 8000000 in
theorem refPair_any v rs i w (hv:Rcs w v rs) (hck:(Cn.check6 rs).2=0) (hi:i<rs.length) (h7:(rs.getD i Cn.none).kind=7):Calls Tryz.prog 73 #[v,.int .i64 i] w (BoolB w (Cn.pair rs i (rs.getD i Cn.none))):=by
 have hall:=(Cn.check6_all hck).2
 have HTW:Hid (∀ k,k<rs.length→(rs.getD k Cn.none).kind=7→(rs.getD k Cn.none).to.length=2∧Cn.scalar ((rs.getD k Cn.none).to.getD 0 0)=true∧Cn.scalar ((rs.getD k Cn.none).to.getD 1 0)=true∧0≤(rs.getD k Cn.none).lo∧(rs.getD k Cn.none).lo≤1114111):=fun k hk e=>Cn.decomp_two (hall _ (by simp [List.getD,hk])) e
 obtain ⟨t1,t2,t3,p1,p2⟩:=(Uh HTW) i hi h7
 have ra:=rune_scalar t2
 have rb:=rune_scalar t3
 have hch:ChIn w v rs w:=⟨hv,Below.refl _ _⟩
 rw [Cn.pair_eq]
 have HHIT:Hid (∀ k,k<i→Cn.twin (rs.getD i Cn.none) (rs.getD k Cn.none)=true→(rs.take i).any (Cn.twin (rs.getD i Cn.none))=true):=fun k hk h=>Cn.twin_hit (by omega) hk h
 have HNO:Hid ((∀ k,k<i→Cn.twin (rs.getD i Cn.none) (rs.getD k Cn.none)=false)→(rs.take i).any (Cn.twin (rs.getD i Cn.none))=false):=fun h=>Cn.twin_none (by omega) h
 have KC:=Hd (fun W x (hW:ChIn w v rs W) (hx:Rune x)=>refClass_any v rs x W hW.1 hx)
 have KO:=Hd (fun W x (hW:ChIn w v rs W) (hx:Rune x)=>refOpen_any v rs x W hW.1 hx)
 have KP:=Hd (fun W x (hW:ChIn w v rs W) (hx:Rune x)=>refPrimary_any v rs x W hW.1 hx)
 have hlen:=hv.1
 obtain ⟨b,off,cap,rfl,hc1,hc2,hc⟩:=hv.place (by omega)
 have hA:=hc i hi
 obtain ⟨x0,x1,x2,x3,⟨va,x4,ska⟩,x5,x6,x7⟩:=hA
 obtain ⟨tb,toff,tcap,rfl,tc1,tc2,y0,y1⟩:=two_cells ska t1
 have HTWK:Hid (∀ W k,ChIn w (.slice (some ⟨b,off,none⟩) rs.length cap) rs W→k<rs.length→RecAt W b (off+k * 8) (rs.getD k Cn.none)):=fun W k hW hk=>by
  obtain ⟨b',off',cap',he,_,_,h⟩:=hW.1.place (by omega)
  simp only [Value.slice.injEq,Option.some.injEq,Addr.mk.injEq,and_true,true_and] at he
  obtain ⟨⟨rfl,rfl⟩,rfl⟩:=he
  exact h k hk
 have htw:∀ k:Rec,Cn.twin (rs.getD i Cn.none) k=decide (k.kind=7∧k.to.getD 0 0=(rs.getD i Cn.none).to.getD 0 0∧k.to.getD 1 0=(rs.getD i Cn.none).to.getD 1 0):=fun _=>rfl
 generalize Cn.twin (rs.getD i Cn.none)=tw at *
 replace htw:=Hd htw
 generalize (rs.getD i Cn.none).lo=lo at *
 generalize (rs.getD i Cn.none).to.getD 0 0=a at *
 generalize (rs.getD i Cn.none).to.getD 1 0=bb at *
 have K1:=Hd (fun W hW=>(Uh KC) W lo hW ⟨by omega,by omega⟩)
 have K2:=Hd (fun W hW=>(Uh KC) W a hW ra)
 have K3:=Hd (fun W hW=>(Uh KO) W bb hW rb)
 have K4:=Hd (fun W hW=>(Uh KO) W a hW ra)
 have K5:=Hd (fun W hW=>(Uh KP) W a hW ra)
 generalize Cn.cls rs lo=n1 at *
 generalize Cn.cls rs a=n2 at *
 generalize Cn.opn rs bb=z3 at *
 generalize Cn.opn rs a=z4 at *
 generalize Cn.prim rs a=pr at *
 unfold PairB at K5
 generalize ((pr.map (·.1)).getD 0)=q1 at *
 generalize ((pr.map (·.2)).getD 0)=q2 at *
 generalize pr.isSome=p5 at *
 have HCH:=Hd hch
 obtain ⟨ra1,ra2⟩:=ra
 obtain ⟨rb1,rb2⟩:=rb
 have i0:(0:Int)≤(i:Int):=by omega
 have i1:(i:Int)<rs.length:=by omega
 generalize (rs.take i).any tw=an at *
 show Calls Tryz.prog 73 _ w (BoolB w (pairG n1 n2 z3.length z4.length p5 bb a an))
 go_enter Tryz.func73,Tryz.ntmps73
 go_wp2
 go_quiet (fail)
 all_goals
  have HC0:Hid (∀ n,ChIn w (.slice (some ⟨b,off,none⟩) rs.length cap) rs (w.drewN n)):=fun n=>(Uh HCH).on (drewB ⟨n,rfl⟩)
  go_wp2_with fail
  refine ((Uh K5) _ ((Uh HC0) _)).mono ?_
  rintro e w1 ⟨rfl,hb1⟩
  have HC1:=Hd (((Uh HC0) _).on hb1)
  go_wp2_with fail
  refine ((Uh K1) _ (Uh HC1)).mono ?_
  rintro e w2 ⟨rfl,hb2⟩
  have HC2:=Hd ((Uh HC1).on hb2)
  by_cases c1:n1=0
  ·subst c1
   go_wp2_with fail
   refine ((Uh K2) _ (Uh HC2)).mono ?_
   rintro e w3 ⟨rfl,hb3⟩
   have HC3:=Hd ((Uh HC2).on hb3)
   by_cases c2:n2=0
   ·subst c2
    go_wp2_with fail
    refine ((Uh K3) _ (Uh HC3)).mono ?_
    rintro e w4 ⟨u4,rfl,hu4,hb4⟩
    obtain ⟨o4,s4,rfl,g4,g5⟩:=hu4.sk.shape
    have HC4:=Hd ((Uh HC3).on hb4)
    by_cases c3:0<z3.length
    ·clear K4 HTWK HHIT HNO htw HTW
     go_wp2
     go_ret
     exact ⟨pairG_no (.inr (.inr (.inl c3))),(Uh HC4).2⟩
    ·go_wp2_with fail
     refine ((Uh K4) _ (Uh HC4)).mono ?_
     rintro e w5 ⟨u5,rfl,hu5,hb5⟩
     obtain ⟨o5,s5,rfl,g6,g7⟩:=hu5.sk.shape
     have HC5:=Hd ((Uh HC4).on hb5)
     by_cases c4:0<z4.length∧p5=false
     ·obtain ⟨c4,rfl⟩:=c4
      go_wp2
      go_ret
      exact ⟨pairG_no (.inr (.inr (.inr (.inl ⟨c4,rfl⟩)))),(Uh HC5).2⟩
     ·have L9:Hid (0<z4.length→p5=true):=fun h=>by
       cases hp:p5 with
       | true=>rfl
       | false=>exact absurd ⟨h,hp⟩ c4
      by_cases c5:bb<128
      ·clear HTWK HHIT HNO htw HTW
       by_cases c6:0<z4.length
       ·obtain rfl:=(Uh L9) c6
        go_wp2
        go_ret
        exact ⟨pairG_no (.inr (.inr (.inr (.inr (.inl c5))))),(Uh HC5).2⟩
       ·clear L9
        go_wp2
        go_ret
        exact ⟨pairG_no (.inr (.inr (.inr (.inr (.inl c5))))),(Uh HC5).2⟩
      ·by_cases c7:a=46
       ·clear HTWK HHIT HNO htw HTW
        subst c7
        by_cases c6:0<z4.length
        ·obtain rfl:=(Uh L9) c6
         go_wp2
         go_ret
         exact ⟨pairG_no (.inr (.inr (.inr (.inr (.inr (.inl rfl)))))),(Uh HC5).2⟩
        ·clear L9
         go_wp2
         go_ret
         exact ⟨pairG_no (.inr (.inr (.inr (.inr (.inr (.inl rfl)))))),(Uh HC5).2⟩
       ·have d7:(a==46)=false:=beq_eq_false_iff_ne.2 c7
        by_cases c6:0<z4.length
        ·obtain rfl:=(Uh L9) c6
         go_wp2
         go_loopw [11] (fun kv wj=>∃ k:Nat,kv=.int .i64 k∧k≤i∧(∀ j,j<k→tw (rs.getD j Cn.none)=false)∧ChIn w (.slice (some ⟨b,off,none⟩) rs.length cap) rs wj) (fun kv _=>i - (intOf kv).toNat)
         case atStart=>exact ⟨0,rfl,by omega,fun j hj=>absurd hj (Nat.not_lt_zero _),Uh HC5⟩
         case round =>
          obtain ⟨k,rfl,hk,hno,hch⟩:=hrel
          by_cases hlt:k<i
          ·have HH:=Hd ((Uh HHIT) k hlt)
           have HN:Hid (tw (rs.getD k Cn.none)=false→∀ j,j<k+1→tw (rs.getD j Cn.none)=false):=fun h j hj=>by
            rcases Nat.lt_or_ge j k with h' | h'
            ·exact hno j h'
            ·obtain rfl:j=k:=by omega
             exact h
           have hR:=(Uh HTWK) _ k hch (by omega)
           have hT:=(Uh HTW) k (by omega)
           have hw:=(Uh htw) (rs.getD k Cn.none)
           have HC6:=Hd hch
           obtain ⟨z0,_,_,_,⟨vk,z4',skk⟩,_,_,_⟩:=hR
           generalize tw (rs.getD k Cn.none)=ty at *
           by_cases e1:(rs.getD k Cn.none).kind=7
           ·obtain ⟨f1,f2,f3,_,_⟩:=hT e1
            obtain ⟨kb,koff,kcap,rfl,kc1,kc2,k0,k1⟩:=two_cells skk f1
            rw [e1] at z0
            obtain ⟨fa1,fa2⟩:=rune_scalar f2
            obtain ⟨fb1,fb2⟩:=rune_scalar f3
            generalize (rs.getD k Cn.none).to.getD 0 0=ka at *
            generalize (rs.getD k Cn.none).to.getD 1 0=kb2 at *
            have e1':(rs.getD k Cn.none).kind=7:=e1
            generalize (rs.getD k Cn.none).kind=kk at *
            by_cases e2:ka=a
            ·by_cases e3:kb2=bb
             ·have ht:ty=true:=by rw [hw]; exact decide_eq_true ⟨e1,e2,e3⟩
              have HAN:=Hd ((Uh HH) ht)
              subst e2 e3
              go_wp2
              go_ret
              exact ⟨pairG_no (.inr (.inr (.inr (.inr (.inr (.inr (Uh HAN))))))),(Uh HC6).2⟩
             ·have HN2:=Hd ((Uh HN) (by rw [hw]; exact decide_eq_false fun h=>e3 h.2.2))
              subst e2
              go_wp2
              go_roundw
              case rel=>exact ⟨k+1,by go_num,by omega,Uh HN2,Uh HC6⟩
              case measure=>simp [intOf]; omega
            ·have HN2:=Hd ((Uh HN) (by rw [hw]; exact decide_eq_false fun h=>e2 h.2.1))
             go_wp2
             go_roundw
             case rel=>exact ⟨k+1,by go_num,by omega,Uh HN2,Uh HC6⟩
             case measure=>simp [intOf]; omega
           ·have HN2:=Hd ((Uh HN) (by rw [hw]; exact decide_eq_false fun h=>e1 h.1))
            generalize (rs.getD k Cn.none).kind=kk at *
            have d1:(kk==7)=false:=beq_eq_false_iff_ne.2 e1
            go_wp2
            go_roundw
            case rel=>exact ⟨k+1,by go_num,by omega,Uh HN2,Uh HC6⟩
            case measure=>simp [intOf]; omega
          ·obtain rfl:k=i:=by omega
           have HAN:=Hd ((Uh HNO) hno)
           have HC6:=Hd hch
           go_wp2
           go_ret
           exact ⟨pairG_yes c3 (fun _=>rfl) (by omega) c7 (Uh HAN),(Uh HC6).2⟩
        ·clear L9
         go_wp2
         go_loopw [11] (fun kv wj=>∃ k:Nat,kv=.int .i64 k∧k≤i∧(∀ j,j<k→tw (rs.getD j Cn.none)=false)∧ChIn w (.slice (some ⟨b,off,none⟩) rs.length cap) rs wj) (fun kv _=>i - (intOf kv).toNat)
         case atStart=>exact ⟨0,rfl,by omega,fun j hj=>absurd hj (Nat.not_lt_zero _),Uh HC5⟩
         case round =>
          obtain ⟨k,rfl,hk,hno,hch⟩:=hrel
          by_cases hlt:k<i
          ·have HH:=Hd ((Uh HHIT) k hlt)
           have HN:Hid (tw (rs.getD k Cn.none)=false→∀ j,j<k+1→tw (rs.getD j Cn.none)=false):=fun h j hj=>by
            rcases Nat.lt_or_ge j k with h' | h'
            ·exact hno j h'
            ·obtain rfl:j=k:=by omega
             exact h
           have hR:=(Uh HTWK) _ k hch (by omega)
           have hT:=(Uh HTW) k (by omega)
           have hw:=(Uh htw) (rs.getD k Cn.none)
           have HC6:=Hd hch
           obtain ⟨z0,_,_,_,⟨vk,z4',skk⟩,_,_,_⟩:=hR
           generalize tw (rs.getD k Cn.none)=ty at *
           by_cases e1:(rs.getD k Cn.none).kind=7
           ·obtain ⟨f1,f2,f3,_,_⟩:=hT e1
            obtain ⟨kb,koff,kcap,rfl,kc1,kc2,k0,k1⟩:=two_cells skk f1
            rw [e1] at z0
            obtain ⟨fa1,fa2⟩:=rune_scalar f2
            obtain ⟨fb1,fb2⟩:=rune_scalar f3
            generalize (rs.getD k Cn.none).to.getD 0 0=ka at *
            generalize (rs.getD k Cn.none).to.getD 1 0=kb2 at *
            have e1':(rs.getD k Cn.none).kind=7:=e1
            generalize (rs.getD k Cn.none).kind=kk at *
            by_cases e2:ka=a
            ·by_cases e3:kb2=bb
             ·have ht:ty=true:=by rw [hw]; exact decide_eq_true ⟨e1,e2,e3⟩
              have HAN:=Hd ((Uh HH) ht)
              subst e2 e3
              go_wp2
              go_ret
              exact ⟨pairG_no (.inr (.inr (.inr (.inr (.inr (.inr (Uh HAN))))))),(Uh HC6).2⟩
             ·have HN2:=Hd ((Uh HN) (by rw [hw]; exact decide_eq_false fun h=>e3 h.2.2))
              subst e2
              go_wp2
              go_roundw
              case rel=>exact ⟨k+1,by go_num,by omega,Uh HN2,Uh HC6⟩
              case measure=>simp [intOf]; omega
            ·have HN2:=Hd ((Uh HN) (by rw [hw]; exact decide_eq_false fun h=>e2 h.2.1))
             go_wp2
             go_roundw
             case rel=>exact ⟨k+1,by go_num,by omega,Uh HN2,Uh HC6⟩
             case measure=>simp [intOf]; omega
           ·have HN2:=Hd ((Uh HN) (by rw [hw]; exact decide_eq_false fun h=>e1 h.1))
            generalize (rs.getD k Cn.none).kind=kk at *
            have d1:(kk==7)=false:=beq_eq_false_iff_ne.2 e1
            go_wp2
            go_roundw
            case rel=>exact ⟨k+1,by go_num,by omega,Uh HN2,Uh HC6⟩
            case measure=>simp [intOf]; omega
          ·obtain rfl:k=i:=by omega
           have HAN:=Hd ((Uh HNO) hno)
           have HC6:=Hd hch
           go_wp2
           go_ret
           exact ⟨pairG_yes c3 (fun h=>absurd h c6) (by omega) c7 (Uh HAN),(Uh HC6).2⟩
   ·have d2:(n2 != 0)=true:=by simp [c2]
    go_wp2
    go_ret
    exact ⟨pairG_no (.inr (.inl c2)),(Uh HC3).2⟩
  ·have d1:(n1 != 0)=true:=by simp [c1]
   go_wp2
   go_ret
   exact ⟨pairG_no (.inl c1),(Uh HC2).2⟩
end Go.Proofs.YtihhhjodonkkcaaGreatDoor
