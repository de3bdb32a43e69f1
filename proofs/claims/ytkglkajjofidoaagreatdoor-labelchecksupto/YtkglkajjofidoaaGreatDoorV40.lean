/- Rx7 -/
import Derived.Test.YtkglkajjofidoaaGreatDoorV21
import Derived.Deep.QuietTactic
set_option maxHeartbeats 8000000
set_option maxRecDepth 8000
namespace Go.Proofs.YtkglkajjofidoaaGreatDoor
open Go.Proofs.Tryz
open Go.RowKit
namespace Cn
theorem x5Y {r:Rec} (h:right r=0) (h7:r.kind=7):r.to.length=2/\scalar (r.to.getD 0 0)=true/\scalar (r.to.getD 1 0)=true/\0<=r.lo/\r.lo<=1114111:=by
 obtain ⟨h1,h2,h3⟩:=x0B h h7;unfold list at h3;rw [Bool.and_eq_true] at h3;have h4:=o0d h3.1;have hl:r.to.length=2:=(by omega);have h5:=List.all_eq_true.1 h3.2;have hs:=o0d h2;exact ⟨hl,h5 _ (by simp [List.getD,hl]),h5 _ (by simp [List.getD,hl]),hs.1,hs.2.1⟩
def twin (r k:Rec):Bool:=decide (k.kind=7/\k.to.getD 0 0=r.to.getD 0 0/\k.to.getD 1 0=r.to.getD 1 0)
theorem z0f (l:List Rec) (i:Nat) (r:Rec):pair l i r=(!(decide (cls l r.lo≠0) || decide (cls l (r.to.getD 0 0)≠0) || decide (0<(opn l (r.to.getD 1 0)).length) || (decide (0<(opn l (r.to.getD 0 0)).length) && !(prim l (r.to.getD 0 0)).isSome) || decide (r.to.getD 1 0<128) || decide (r.to.getD 0 0=46)) && !((l.take i).any (twin r))):=by
 have hn:∀ x:List Int,decide (x≠[])=decide (0<x.length):=fun x=>(by cases x <;> simp);unfold pair;rw [hn,hn];cases prim l (r.to.getD 0 0) <;> rfl
theorem y7N {l:List Rec} {i k:Nat} {r:Rec} (hi:i<=l.length) (hk:k<i) (h:twin r (l.getD k none)=true):(l.take i).any (twin r)=true:=by
 rw [List.any_eq_true];exact ⟨_,List.mem_take_iff_getElem.2 ⟨k,by omega,rfl⟩,by have e:l.getD k none=l[k]:=(by simp [List.getD,show k<l.length by omega]); rw [<- e]; exact h⟩
theorem y5F {l:List Rec} {i:Nat} {r:Rec} (hi:i<=l.length) (h:∀ k,k<i->twin r (l.getD k none)=false):(l.take i).any (twin r)=false:=by
 rw [List.any_eq_false];intro x hx;obtain ⟨k,hk,rfl⟩:=List.mem_take_iff_getElem.1 hx;have:=h k (by omega);rw [show l.getD k none=l[k] by simp [List.getD,show k<l.length by omega]] at this;rw [this];exact Bool.false_ne_true
end Cn
theorem x0C {c:Int} (h:Cn.scalar c=true):Rune c:=by
 have:=o0d h;exact ⟨by omega,by omega⟩
theorem x2u {w:World} {va:Value} {zs:List Int} (h:Sk .i32 w va zs) (hl:zs.length=2):∃ b off cap,va=.slice (some ⟨b,off,none⟩) 2 cap/\2<=cap/\cap<=9223372036854775807/\w.cell? ⟨b,off,none⟩=some (.int .i32 (zs.getD 0 0))/\w.cell? ⟨b,off+1,none⟩=some (.int .i32 (zs.getD 1 0)):=by
 obtain ⟨b,off,cap,he,h1,h2,hc⟩:=h.place (by omega);exact ⟨b,off,cap,by rw [he,hl],by omega,by omega,by have h0:=hc 0 (by omega); rw [Nat.add_zero] at h0; exact h0,hc 1 (by omega)⟩
def x9y (n1 n2:Int) (l3 l4:Nat) (p5:Bool) (bb a:Int) (an:Bool):Bool:=!(decide (n1≠0) || decide (n2≠0) || decide (0<l3) || (decide (0<l4) && !p5) || decide (bb<128) || decide (a=46)) && !an
theorem x1h {n1 n2:Int} {l3 l4:Nat} {p5:Bool} {bb a:Int} {an:Bool} (h:n1≠0\/n2≠0\/0<l3\/(0<l4/\p5=false)\/bb<128\/a=46\/an=true):Ending.returned (.bool false)=Ending.returned (.bool (x9y n1 n2 l3 l4 p5 bb a an)):=by
 have e:x9y n1 n2 l3 l4 p5 bb a an=false:=by
  unfold x9y;rcases h with h | h | h | ⟨h,rfl⟩ | h | h | h
  ·rw [d0t h]; simp
  ·rw [d0t h]; simp
  ·rw [d0t h]; simp
  ·rw [d0t h]; simp
  ·rw [d0t h]; simp
  ·rw [d0t h]; simp
  ·rw [h]; simp
 rw [e]
theorem x8k {l3 l4:Nat} {p5:Bool} {bb a:Int} {an:Bool} (h3:¬ 0<l3) (h4:0<l4->p5=true) (h5:¬ bb<128) (h6:¬ a=46) (h7:an=false):Ending.returned (.bool true)=Ending.returned (.bool (x9y 0 0 l3 l4 p5 bb a an)):=by
 have e:x9y 0 0 l3 l4 p5 bb a an=true:=by
  unfold x9y;rw [h7,d0f h3,d0f h5,d0f h6];by_cases h8:0<l4
  ·rw [h4 h8]; simp
  ·rw [d0f h8]; simp
 rw [e]
theorem x9I (v:Value) (rs:List Rec) (i:Nat) (w:World) (hv:Rcs w v rs) (aC:(Cn.check6 rs).2=0) (hi:i<rs.length) (h7:(rs.getD i Cn.none).kind=7):Calls prog 70 #[v,.int .i64 i] w (x0d w (Cn.pair rs i (rs.getD i Cn.none))):=by
 have hall:=(Cn.x1u aC).2;have af:Hid (∀ k,k<rs.length->(rs.getD k Cn.none).kind=7->(rs.getD k Cn.none).to.length=2/\Cn.scalar ((rs.getD k Cn.none).to.getD 0 0)=true/\Cn.scalar ((rs.getD k Cn.none).to.getD 1 0)=true/\0<=(rs.getD k Cn.none).lo/\(rs.getD k Cn.none).lo<=1114111):=fun k hk e=>Cn.x5Y (hall _ (by simp [List.getD,hk])) e;obtain ⟨t1,t2,t3,p1,p2⟩:=V af i hi h7;have ra:=x0C t2;have rb:=x0C t3;have ac:ChIn w v rs w:=⟨hv,b0r⟩;rw [Cn.z0f];have aa:Hid (∀ k,k<i->Cn.twin (rs.getD i Cn.none) (rs.getD k Cn.none)=true->(rs.take i).any (Cn.twin (rs.getD i Cn.none))=true):=fun k hk h=>Cn.y7N (by omega) hk h;have ag:Hid ((∀ k,k<i->Cn.twin (rs.getD i Cn.none) (rs.getD k Cn.none)=false)->(rs.take i).any (Cn.twin (rs.getD i Cn.none))=false):=fun h=>Cn.y5F (by omega) h;have KC:=O (fun W x (hW:ChIn w v rs W) (hx:Rune x)=>x1F v rs x W hW.1 hx);have KO:=O (fun W x (hW:ChIn w v rs W) (hx:Rune x)=>x2d v rs x W hW.1 hx);have KP:=O (fun W x (hW:ChIn w v rs W) (hx:Rune x)=>x5O v rs x W hW.1 hx);have hlen:=hv.1;obtain ⟨b,off,cap,rfl,hc1,hc2,hc⟩:=hv.place (by omega);have hA:=hc i hi;obtain ⟨x0,x1,x2,x3,⟨va,x4,aF⟩,x5,x6,x7⟩:=hA;obtain ⟨tb,toff,tcap,rfl,tc1,tc2,y0,y1⟩:=x2u aF t1
 have ab:Hid (∀ W k,ChIn w (.slice (some ⟨b,off,none⟩) rs.length cap) rs W->k<rs.length->RecAt W b (off+k * 8) (rs.getD k Cn.none)):=fun W k hW hk=>by
  obtain ⟨b',off',cap',he,_,_,h⟩:=hW.1.place (by omega);simp only [Value.slice.injEq,Option.some.injEq,Addr.mk.injEq,and_true,true_and] at he;obtain ⟨⟨rfl,rfl⟩,rfl⟩:=he;exact h k hk
 have ad:∀ k:Rec,Cn.twin (rs.getD i Cn.none) k=decide (k.kind=7/\k.to.getD 0 0=(rs.getD i Cn.none).to.getD 0 0/\k.to.getD 1 0=(rs.getD i Cn.none).to.getD 1 0):=fun _=>rfl;generalize Cn.twin (rs.getD i Cn.none)=tw at *;replace ad:=O ad;generalize (rs.getD i Cn.none).lo=lo at *;generalize (rs.getD i Cn.none).to.getD 0 0=a at *;generalize (rs.getD i Cn.none).to.getD 1 0=bb at *;have K1:=O (fun W hW=>V KC W lo hW ⟨by omega,by omega⟩);have K2:=O (fun W hW=>V KC W a hW ra);have K3:=O (fun W hW=>V KO W bb hW rb);have K4:=O (fun W hW=>V KO W a hW ra);have K5:=O (fun W hW=>V KP W a hW ra);generalize Cn.cls rs lo=n1 at *;generalize Cn.cls rs a=n2 at *;generalize Cn.opn rs bb=z3 at *;generalize Cn.opn rs a=z4 at *;generalize Cn.prim rs a=pr at *;unfold x4B at K5;generalize ((pr.map (·.1)).getD 0)=q1 at *;generalize ((pr.map (·.2)).getD 0)=q2 at *;generalize pr.isSome=p5 at *;have aw:=O ac;obtain ⟨ra1,ra2⟩:=ra;obtain ⟨rb1,rb2⟩:=rb;have i0:(0:Int)<=(i:Int):=(by omega);have i1:(i:Int)<rs.length:=(by omega);clear KC KO KP hv ac hc aF aC hall h7 t1 t2 t3 x0 x2 x3 x5 x6 x7;generalize (rs.take i).any tw=an at *;show Calls prog 70 _ w (x0d w (x9y n1 n2 z3.length z4.length p5 bb a an));go_enter func70,ntmps70;go_wp2;go_quiet (fail)
 all_goals
  have aq:Hid (∀ n,ChIn w (.slice (some ⟨b,off,none⟩) rs.length cap) rs (w.drewN n)):=fun n=>(V aw).on (x0k ⟨n,rfl⟩);clear aw x1 x4 y0 y1;go_wp2_with fail;refine (V K5 _ (V aq _)).mono ?_;rintro e w1 ⟨rfl,ax⟩;have ar:=O ((V aq _).on ax);clear K5 aq ax;go_wp2_with fail;refine (V K1 _ (V ar)).mono ?_;rintro e w2 ⟨rfl,ay⟩;have am:=O ((V ar).on ay);clear K1 ar ay;by_cases c1:n1=0
  ·subst c1;go_wp2_with fail;refine (V K2 _ (V am)).mono ?_;rintro e w3 ⟨rfl,az⟩;have ao:=O ((V am).on az);clear K2 am az;by_cases c2:n2=0
   ·subst c2;go_wp2_with fail;refine (V K3 _ (V ao)).mono ?_;rintro e w4 ⟨u4,rfl,aD,aA⟩;obtain ⟨o4,s4,rfl,g4,g5⟩:=aD.sk.shape;have ap:=O ((V ao).on aA);clear K3 ao aA aD;by_cases c3:0<z3.length
    ·clear K4 ab aa ag ad af;go_wp2;go_ret;exact ⟨x1h (.inr (.inr (.inl c3))),(V ap).2⟩
    ·go_wp2_with fail;refine (V K4 _ (V ap)).mono ?_;rintro e w5 ⟨u5,rfl,aE,aB⟩;obtain ⟨o5,s5,rfl,g6,g7⟩:=aE.sk.shape;have ai:=O ((V ap).on aB);clear K4 ap aB aE;by_cases c4:0<z4.length/\p5=false
     ·obtain ⟨c4,rfl⟩:=c4;clear ab aa ag ad af;go_wp2;go_ret;exact ⟨x1h (.inr (.inr (.inr (.inl ⟨c4,rfl⟩)))),(V ai).2⟩
     ·have L9:Hid (0<z4.length->p5=true):=fun h=>by
       cases hp:p5 with
       | true=>rfl
       | false=>exact absurd ⟨h,hp⟩ c4
      clear c4;by_cases c5:bb<128
      ·clear ab aa ag ad af;by_cases c6:0<z4.length
       ·obtain rfl:=V L9 c6;clear L9;go_wp2;go_ret;exact ⟨x1h (.inr (.inr (.inr (.inr (.inl c5))))),(V ai).2⟩
       ·clear L9;go_wp2;go_ret;exact ⟨x1h (.inr (.inr (.inr (.inr (.inl c5))))),(V ai).2⟩
      ·by_cases c7:a=46
       ·clear ab aa ag ad af;subst c7;by_cases c6:0<z4.length
        ·obtain rfl:=V L9 c6;clear L9;go_wp2;go_ret;exact ⟨x1h (.inr (.inr (.inr (.inr (.inr (.inl rfl)))))),(V ai).2⟩
        ·clear L9;go_wp2;go_ret;exact ⟨x1h (.inr (.inr (.inr (.inr (.inr (.inl rfl)))))),(V ai).2⟩
       ·have d7:(a==46)=false:=b0f c7;by_cases c6:0<z4.length
        ·obtain rfl:=V L9 c6;clear L9;go_wp2;go_loopw [11] (fun kv wj=>∃ k:Nat,kv=.int .i64 k/\k<=i/\(∀ j,j<k->tw (rs.getD j Cn.none)=false)/\ChIn w (.slice (some ⟨b,off,none⟩) rs.length cap) rs wj) (fun kv _=>i - (intOf kv).toNat)
         case atStart=>exact ⟨0,rfl,by omega,fun j hj=>absurd hj (Nat.not_lt_zero _),V ai⟩
         case round =>
          obtain ⟨k,rfl,hk,aj,ac⟩:=hrel;clear ai;by_cases hlt:k<i
          ·have HH:=O (V aa k hlt)
           have HN:Hid (tw (rs.getD k Cn.none)=false->∀ j,j<k+1->tw (rs.getD j Cn.none)=false):=fun h j hj=>by
            rcases Nat.lt_or_ge j k with h' | h'
            ·exact aj j h'
            ·obtain rfl:j=k:=(by omega);exact h
           have hR:=V ab _ k ac (by omega);have hT:=V af k (by omega);have hw:=V ad (rs.getD k Cn.none);have ae:=O ac;clear aj ac aa ag ab af ad;obtain ⟨z0,_,_,_,⟨vk,aM,al⟩,_,_,_⟩:=hR;generalize tw (rs.getD k Cn.none)=ty at *;by_cases e1:(rs.getD k Cn.none).kind=7
           ·obtain ⟨f1,f2,f3,_,_⟩:=hT e1;obtain ⟨kb,av,au,rfl,aK,aL,k0,k1⟩:=x2u al f1;rw [e1] at z0;obtain ⟨aG,aH⟩:=x0C f2;obtain ⟨aI,aJ⟩:=x0C f3;clear al hT f1 f2 f3;generalize (rs.getD k Cn.none).to.getD 0 0=ka at *;generalize (rs.getD k Cn.none).to.getD 1 0=kb2 at *;have e1':(rs.getD k Cn.none).kind=7:=e1;generalize (rs.getD k Cn.none).kind=kk at *;by_cases e2:ka=a
            ·by_cases e3:kb2=bb
             ·have ht:ty=true:=(by rw [hw]; exact d0t ⟨e1,e2,e3⟩);have ak:=O (V HH ht);clear HH HN hw ht e1 e1';subst e2 e3;go_wp2;go_ret;exact ⟨x1h (.inr (.inr (.inr (.inr (.inr (.inr (V ak))))))),(V ae).2⟩
             ·have ah:=O (V HN (by rw [hw]; exact d0f fun h=>e3 h.2.2));clear HH HN hw e1 e1';subst e2;go_wp2
              go_roundw
              case rel=>exact ⟨k+1,by go_num,by omega,V ah,V ae⟩
              case measure=>simp [intOf]; omega
            ·have ah:=O (V HN (by rw [hw]; exact d0f fun h=>e2 h.2.1));clear HH HN hw e1 e1';go_wp2
             go_roundw
             case rel=>exact ⟨k+1,by go_num,by omega,V ah,V ae⟩
             case measure=>simp [intOf]; omega
           ·have ah:=O (V HN (by rw [hw]; exact d0f fun h=>e1 h.1));clear HH HN hw hT al;generalize (rs.getD k Cn.none).kind=kk at *;have d1:(kk==7)=false:=b0f e1;go_wp2
            go_roundw
            case rel=>exact ⟨k+1,by go_num,by omega,V ah,V ae⟩
            case measure=>simp [intOf]; omega
          ·obtain rfl:k=i:=(by omega);have ak:=O (V ag aj);have ae:=O ac;clear aj ac ag aa ab af ad;go_wp2;go_ret;exact ⟨x8k c3 (fun _=>rfl) (by omega) c7 (V ak),(V ae).2⟩
        ·clear L9;go_wp2;go_loopw [11] (fun kv wj=>∃ k:Nat,kv=.int .i64 k/\k<=i/\(∀ j,j<k->tw (rs.getD j Cn.none)=false)/\ChIn w (.slice (some ⟨b,off,none⟩) rs.length cap) rs wj) (fun kv _=>i - (intOf kv).toNat)
         case atStart=>exact ⟨0,rfl,by omega,fun j hj=>absurd hj (Nat.not_lt_zero _),V ai⟩
         case round =>
          obtain ⟨k,rfl,hk,aj,ac⟩:=hrel;clear ai;by_cases hlt:k<i
          ·have HH:=O (V aa k hlt)
           have HN:Hid (tw (rs.getD k Cn.none)=false->∀ j,j<k+1->tw (rs.getD j Cn.none)=false):=fun h j hj=>by
            rcases Nat.lt_or_ge j k with h' | h'
            ·exact aj j h'
            ·obtain rfl:j=k:=(by omega);exact h
           have hR:=V ab _ k ac (by omega);have hT:=V af k (by omega);have hw:=V ad (rs.getD k Cn.none);have ae:=O ac;clear aj ac aa ag ab af ad;obtain ⟨z0,_,_,_,⟨vk,aM,al⟩,_,_,_⟩:=hR;generalize tw (rs.getD k Cn.none)=ty at *;by_cases e1:(rs.getD k Cn.none).kind=7
           ·obtain ⟨f1,f2,f3,_,_⟩:=hT e1;obtain ⟨kb,av,au,rfl,aK,aL,k0,k1⟩:=x2u al f1;rw [e1] at z0;obtain ⟨aG,aH⟩:=x0C f2;obtain ⟨aI,aJ⟩:=x0C f3;clear al hT f1 f2 f3;generalize (rs.getD k Cn.none).to.getD 0 0=ka at *;generalize (rs.getD k Cn.none).to.getD 1 0=kb2 at *;have e1':(rs.getD k Cn.none).kind=7:=e1;generalize (rs.getD k Cn.none).kind=kk at *;by_cases e2:ka=a
            ·by_cases e3:kb2=bb
             ·have ht:ty=true:=(by rw [hw]; exact d0t ⟨e1,e2,e3⟩);have ak:=O (V HH ht);clear HH HN hw ht e1 e1';subst e2 e3;go_wp2;go_ret;exact ⟨x1h (.inr (.inr (.inr (.inr (.inr (.inr (V ak))))))),(V ae).2⟩
             ·have ah:=O (V HN (by rw [hw]; exact d0f fun h=>e3 h.2.2));clear HH HN hw e1 e1';subst e2;go_wp2
              go_roundw
              case rel=>exact ⟨k+1,by go_num,by omega,V ah,V ae⟩
              case measure=>simp [intOf]; omega
            ·have ah:=O (V HN (by rw [hw]; exact d0f fun h=>e2 h.2.1));clear HH HN hw e1 e1';go_wp2
             go_roundw
             case rel=>exact ⟨k+1,by go_num,by omega,V ah,V ae⟩
             case measure=>simp [intOf]; omega
           ·have ah:=O (V HN (by rw [hw]; exact d0f fun h=>e1 h.1));clear HH HN hw hT al;generalize (rs.getD k Cn.none).kind=kk at *;have d1:(kk==7)=false:=b0f e1;go_wp2
            go_roundw
            case rel=>exact ⟨k+1,by go_num,by omega,V ah,V ae⟩
            case measure=>simp [intOf]; omega
          ·obtain rfl:k=i:=(by omega);have ak:=O (V ag aj);have ae:=O ac;clear aj ac ag aa ab af ad;go_wp2;go_ret;exact ⟨x8k c3 (fun h=>absurd h c6) (by omega) c7 (V ak),(V ae).2⟩
   ·have d2:(n2 != 0)=true:=(by simp [c2]);clear K3 K4 ab aa ag ad af;go_wp2;go_ret;exact ⟨x1h (.inr (.inl c2)),(V ao).2⟩
  ·have d1:(n1 != 0)=true:=(by simp [c1]);clear K2 K3 K4 ab aa ag ad af;go_wp2;go_ret;exact ⟨x1h (.inl c1),(V am).2⟩
