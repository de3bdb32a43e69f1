/- TbE7 TbF7 TbN7 TbG7 TbH7 TbI7 TbJ7 TbK7 TbL7 Rs7 Lay7 -/
import Derived.Test.YtkglkajjofidoaaGreatDoorV9
import Derived.Shelf.Abstract
import Derived.Lib.Walk
import Derived.WalkMore
import Derived.Test.YtkglkajjofidoaaGreatDoorV19
import Derived.Test.YtkglkajjofidoaaGreatDoorRows
import Derived.ProofKit
import Derived.OpenShut
import Derived.ShutString
import Derived.LaidMore
import Derived.Lay
import Derived.Stop.LaidErr
import Derived.Deep.DeepHandedRow
import Derived.Lib.LaidTab
import Derived.MakeChecks
import Derived.Shelf.Vars
set_option maxHeartbeats 4000000
set_option maxRecDepth 20000
namespace Go.Proofs.YtkglkajjofidoaaGreatDoor
open Go.Proofs.Tryz
open Go.RowKit
theorem x7p (c:Int) (w:World) (h:-2147483648<=c/\c<=2147483647) :
  Calls prog 282 #[.int .i32 c] w fun e w'=>e=.returned (.bool (Cn.scalar c))/\w'=w:=by
 by_cases h1:0<=c
 ·by_cases h2:c<55296
  ·have hk:Cn.scalar c=true:=d0t (by omega);rw [hk];go_enter func282,ntmps282;go_wp2;go_ret;exact ⟨rfl,rfl⟩
  ·by_cases h3:57343<c
   ·by_cases h4:c<=1114111
    ·have hk:Cn.scalar c=true:=d0t (by omega);rw [hk];go_enter func282,ntmps282;go_wp2;go_ret;exact ⟨rfl,rfl⟩
    ·have hk:Cn.scalar c=false:=d0f (by omega);rw [hk];go_enter func282,ntmps282;go_wp2;go_ret;exact ⟨rfl,rfl⟩
   ·have hk:Cn.scalar c=false:=d0f (by omega);rw [hk];go_enter func282,ntmps282;go_wp2;go_ret;exact ⟨rfl,rfl⟩
 ·have hk:Cn.scalar c=false:=d0f (by omega);rw [hk];go_enter func282,ntmps282;go_wp2;go_ret;exact ⟨rfl,rfl⟩
theorem x8K (c:Int) (w:World) (h:-2147483648<=c/\c<=2147483647) :
  Calls prog 280 #[.int .i32 c] w fun e w'=>e=.returned (.bool (Cn.scalar c))/\w'=w:=by
 have H:=O (x7p c w h);generalize Cn.scalar c=b at *;go_enter func280,ntmps280;go_wp2_with fail;refine (V H).mono ?_;rintro e w ⟨rfl,rfl⟩;clear H;go_wp2;go_ret;exact ⟨rfl,rfl⟩
theorem x8J (c:Int) (w:World) (h:-2147483648<=c/\c<=2147483647) :
  Calls prog 279 #[.int .i32 c] w fun e w'=>e=.returned (.bool (!Cn.scalar c))/\w'=w:=by
 have H:=O (x8K c w h);generalize Cn.scalar c=b at *;go_enter func279,ntmps279;go_wp2_with fail;refine (V H).mono ?_;rintro e w ⟨rfl,rfl⟩;clear H;go_wp2;go_ret;exact ⟨rfl,rfl⟩
theorem x7F {xs:List Int} {k:Nat} (hk:k<xs.length):xs.drop k=xs.getD k 0 :: xs.drop (k+1):=by
 rw [List.drop_eq_getElem_cons hk];simp [List.getD,hk]
def fb (p:Int->Bool):Nat->List Int->Int
 | _,[]=>-1
 | i,c :: r=>if p c then (i:Int) else fb p (i+1) r
theorem z1v {p:Int->Bool} {xs:List Int} {k:Nat} {r:Int} (hk:k<xs.length) (h:r=fb p k (xs.drop k)) (hp:p (xs.getD k 0)=true):r=(k:Int):=by
 rw [h,x7F hk,fb,if_pos hp]
theorem y9y {p:Int->Bool} {xs:List Int} {k:Nat} {r:Int} (hk:k<xs.length) (h:r=fb p k (xs.drop k)) (hp:p (xs.getD k 0)=false):r=fb p (k+1) (xs.drop (k+1)):=by
 rw [h,x7F hk,fb,hp]; rfl
theorem y8d {p:Int->Bool} {xs:List Int} {k:Nat} {r:Int} (hk:xs.length<=k) (h:r=fb p k (xs.drop k)):r=-1:=by
 rw [h,List.drop_eq_nil_of_le hk,fb]
theorem z1u (p:Int->Bool) (i:Nat) (xs:List Int):decide (fb p i xs<0)=xs.all (fun c=>!p c):=by
 induction xs generalizing i with
 | nil=>rfl
 | cons c r ih =>
  simp only [fb,List.all_cons];by_cases hp:p c=true
  ·simp [hp]
  ·simpa [hp] using ih (i+1)
theorem x6I (p:Int->Bool) (g:Nat) (hp:∀ x w,(-2147483648<=x/\x<=2147483647)->Calls prog g #[.int .i32 x] w fun e w'=>e=.returned (.bool (p x))/\w'=w) (eg:∀ args w,(callFunc g args).run prog w=.ok (.enter g args) w)
  (v:Value) (xs:List Int) (w:World) (hv:Sk .i32 w v xs) :
  Calls prog 57 #[v,.func (.func g) #[] #[]] w fun e w'=>e=.returned (.int .i64 (fb p 0 xs))/\w'=w:=by
 have hlx:=hv.len;have hr0:fb p 0 xs=fb p 0 (xs.drop 0):=(by rw [List.drop_zero]);rcases Nat.eq_zero_or_pos xs.length with h0 | h0
 ·have hq:=y8d (by omega) hr0;obtain ⟨ao,cap,rfl,_,_⟩:=hv.shape;rw [hq,h0];clear hr0 hv;go_enter func57,ntmps57;go_wp2;refine wp_loop_rounds 1 ?_;rw [rounds_succ];go_wp2;go_ret;exact ⟨rfl,rfl⟩
 ·have aI:=O hv.1;obtain ⟨b,off,cap,rfl,aN,aU,hc⟩:=hv.place h0;have HC:=O hc;have aB:=O hr0;have HP:=O hp;clear hv hc hr0 hp;generalize hq:fb p 0 xs=r at *;clear hq;go_enter func57,ntmps57;go_wp2;go_loop [5,8] (fun _ i=>∃ k:Nat,i=.int .i64 k/\k<=xs.length/\r=fb p k (xs.drop k)) (fun _ i=>xs.length - (intOf i).toNat)
  case atStart=>exact ⟨0,rfl,by omega,V aB⟩
  case round =>
   obtain ⟨k,rfl,hk,hr⟩:=hrel;by_cases hlt:k<xs.length
   ·have ac:=V HC k hlt;have aX:=(V aI).i32at k;have HV:=O (V HP (xs.getD k 0) w aX)
    cases ah:p (xs.getD k 0) with
    | true =>
     have hb:=z1v hlt hr ah;rw [ah] at HV;subst hb;clear hr ah aB;generalize xs.getD k 0=c at *;go_wp2_with (go_at_fn g; refine (V HV).mono ?_; rintro e w ⟨rfl,rfl⟩);go_ret;exact ⟨rfl,rfl⟩
    | false =>
     have HR:=O (y9y hlt hr ah);rw [ah] at HV;clear hr ah aB;generalize xs.getD k 0=c at *;go_wp2_with (go_at_fn g; refine (V HV).mono ?_; rintro e w ⟨rfl,rfl⟩);go_round
     case rel=>exact ⟨k+1,by go_num,by omega,V HR⟩
     case measure=>simp [intOf]; omega
   ·have hb:=y8d (by omega) hr;subst hb;clear hr aB;go_wp2;go_ret;exact ⟨rfl,rfl⟩
theorem y3A:∀ args w,(callFunc 279 args).run prog w=.ok (.enter 279 args) w:=enters_of func279 (by kernel_rfl) rfl
theorem firstUnsound_any (v:Value) (xs:List Int) (w:World) (hv:Sk .i32 w v xs) :
  Calls prog 276 #[v] w fun e w'=>e=.returned (.int .i64 (fb (fun c=>!Cn.scalar c) 0 xs))/\w'=w:=by
 have H:=O (x6I (fun c=>!Cn.scalar c) 279 x8J y3A v xs w hv);clear hv;generalize fb (fun c=>!Cn.scalar c) 0 xs=r at *;go_enter func276,ntmps276;go_wp2_with fail;refine (V H).mono ?_;rintro e w ⟨rfl,rfl⟩;clear H;go_wp2;go_ret;exact ⟨rfl,rfl⟩
theorem y5r (v:Value) (xs:List Int) (w:World) (hv:Sk .i32 w v xs) :
  Calls prog 274 #[v] w fun e w'=>e=.returned (.bool (xs.all Cn.scalar))/\w'=w:=by
 have H:=O (firstUnsound_any v xs w hv);have e:xs.all Cn.scalar=decide (fb (fun c=>!Cn.scalar c) 0 xs<0):=(by rw [z1u]; simp);rw [e];clear hv e;generalize fb (fun c=>!Cn.scalar c) 0 xs=r at *;go_enter func274,ntmps274;go_wp2_with fail;refine (V H).mono ?_;rintro e w ⟨rfl,rfl⟩;clear H;go_wp2;go_ret;exact ⟨rfl,rfl⟩
def nanB (u:Nat):Bool:=decide (9218868437227405312<u % 9223372036854775808)
theorem y2a (d:Ieee.Datum):d.order d=if d.isNaN then none else some .eq:=by
 cases d with
 | number s m i =>
  simp [Ieee.Datum.order,Ieee.Datum.isNaN,Std.ReflCmp.compare_self]
 | infinity s=>simp [Ieee.Datum.order,Ieee.Datum.isNaN,Std.ReflCmp.compare_self]
 | nan s t=>simp [Ieee.Datum.order,Ieee.Datum.isNaN]
theorem y7p (u:Nat):(FloatKind.f64.format.read u).isNaN=nanB u:=by
 have e1:FloatKind.f64.format.signWeight=9223372036854775808:=(by decide);have e2:FloatKind.f64.format.binade=4503599627370496:=(by decide);have e3:FloatKind.f64.format.infRung=9218868437227405312:=(by decide);unfold Ieee.Format.read nanB;simp only [e1,e2,e3];split
 ·rw [d0f (by omega)]; rfl
 ·split
  ·rw [d0f (by omega)]; rfl
  ·split
   ·rw [d0f (by omega)]; rfl
   ·rw [d0t (by omega)]; rfl
theorem y7e (u:Nat):(FloatKind.f64.format.order u u != some .eq)=nanB u:=by
 unfold Ieee.Format.order;rw [y2a,<- y7p];cases (FloatKind.f64.format.read u).isNaN <;> rfl
theorem x7U (u:Nat) (w:World):Calls prog 160 #[.float .f64 u] w fun e w'=>e=.returned (.bool (nanB u))/\w'=w:=by
 have e:=y7e u;go_enter func160,ntmps160;go_wp2;go_ret;exact ⟨rfl,rfl⟩
def rankN (u:Nat):Int:=if nanB u then 18446744073709551615 else if u<9223372036854775808 then (u:Int)+9223372036854775808 else 18446744073709551615 - u
theorem z0c {u:Nat} (h:u<9223372036854775808):bits .or .u64 (u:Int) 9223372036854775808=(u:Int)+9223372036854775808:=by
 unfold bits;simp only []
 have e:(BitVec.ofInt IntKind.u64.bits (u:Int) ||| BitVec.ofInt IntKind.u64.bits 9223372036854775808).toNat=u+9223372036854775808:=by
  rw [BitVec.toNat_or,BitVec.toNat_ofInt,BitVec.toNat_ofInt]
  have e1:((u:Int) % ((2 ^ IntKind.u64.bits:Nat):Int)).toNat=u:=by
   rw [show ((2 ^ IntKind.u64.bits:Nat):Int)=18446744073709551616 by decide];omega
  have e2:((9223372036854775808:Int) % ((2 ^ IntKind.u64.bits:Nat):Int)).toNat=9223372036854775808:=(by decide);rw [e1,e2,Nat.or_comm];have:=Nat.two_pow_add_eq_or_of_lt (i:=63) (b:=u) (by omega) 1;rw [show (2:Nat) ^ 63 * 1=9223372036854775808 by decide] at this;omega
 rw [e,IntWalk.u64_in _ ⟨by omega,by omega⟩];omega
theorem z0F {u:Nat} (h:u<18446744073709551616):bits .xor .u64 IntKind.u64.max (u:Int)=18446744073709551615 - (u:Int):=by
 unfold bits;simp only []
 have e:(BitVec.ofInt IntKind.u64.bits IntKind.u64.max ^^^ BitVec.ofInt IntKind.u64.bits (u:Int)).toNat=18446744073709551615 - u:=by
  rw [show BitVec.ofInt IntKind.u64.bits IntKind.u64.max=BitVec.allOnes IntKind.u64.bits by decide,BitVec.allOnes_xor,BitVec.toNat_not,BitVec.toNat_ofInt]
  have e1:((u:Int) % ((2 ^ IntKind.u64.bits:Nat):Int)).toNat=u:=by
   rw [show ((2 ^ IntKind.u64.bits:Nat):Int)=18446744073709551616 by decide];omega
  rw [e1];rfl
 rw [e,IntWalk.u64_in _ ⟨by omega,by omega⟩];omega
theorem y0Q (u:Nat) (w:World) (hu:u<18446744073709551616):Calls prog 278 #[.float .f64 u] w fun e w'=>e=.returned (.int .u64 (rankN u))/\w'=w:=by
 have K1:=O (x2x u w);have K2:=O (x7U u w);unfold rankN
 cases hn:nanB u with
 | true =>
  rw [hn] at K2;rw [if_pos rfl];go_enter func278,ntmps278;go_wp2_with fail;refine (V K1).mono ?_;rintro e w ⟨rfl,rfl⟩;clear K1;go_wp2_with fail;refine (V K2).mono ?_;rintro e w ⟨rfl,rfl⟩;clear K2;go_wp2;go_ret;exact ⟨rfl,rfl⟩
 | false =>
  rw [hn] at K2;rw [if_neg (by decide)];by_cases hs:u<9223372036854775808
  ·rw [if_pos hs];have aQ:¬ (9223372036854775808:Int)<=(u:Int):=(by omega);have ho:=z0c hs;have hz:(0:Int)<=(u:Int):=(by omega);have hs2:(u:Int)<9223372036854775808:=(by omega);clear hn hu hs aQ;generalize (u:Int)=x at *;generalize hy:x+9223372036854775808=y at *;generalize hq:bits .or .u64 x 9223372036854775808=q at *;go_enter func278,ntmps278;go_wp2_with fail;refine (V K1).mono ?_;rintro e w ⟨rfl,rfl⟩;clear K1;go_wp2_with fail;refine (V K2).mono ?_;rintro e w ⟨rfl,rfl⟩;clear K2;go_wp2;go_ret;exact ⟨rfl,rfl⟩
  ·rw [if_neg hs];have aQ:(9223372036854775808:Int)<=(u:Int):=(by omega);have hx:=z0F hu;go_enter func278,ntmps278;go_wp2_with fail;refine (V K1).mono ?_;rintro e w ⟨rfl,rfl⟩;clear K1;go_wp2_with fail;refine (V K2).mono ?_;rintro e w ⟨rfl,rfl⟩;clear K2;go_wp2;go_ret;refine ⟨?_,rfl⟩;rw [<- hx];rfl
def okAt (k:Nat) (c:Int):Prop:=if k=0 then 65<=c/\c<=90 else 97<=c/\c<=122
theorem x6U (l:List Int):Scn.name l=true↔(l.length=4/\∀ k,k<4->okAt k (l.getD k 0)):=by
 unfold Scn.name;rw [decide_eq_true_iff];constructor
 ·rintro ⟨h0,h1,h2,h3,h4,h5⟩;refine ⟨h0,fun k hk=>?_⟩;unfold okAt;obtain rfl | rfl | rfl | rfl:k=0\/k=1\/k=2\/k=3:=by omega
  ·exact ⟨h1,h2⟩
  ·exact h3
  ·exact h4
  ·exact h5
 ·rintro ⟨h0,h⟩;exact ⟨h0,(h 0 (by omega)).1,(h 0 (by omega)).2,h 1 (by omega),h 2 (by omega),h 3 (by omega)⟩
theorem x8B (s:ByteArray) (w:World):Calls prog 273 #[.string s] w (x0d w (Scn.name (nums s))):=by
 have am:=nums_length s;by_cases h4:s.size=4
 ·have HT:Hid ((∀ k,k<4->okAt k ((nums s).getD k 0))->∀ w',Bw w w'->x0d w (Scn.name (nums s)) (.returned (.bool true)) w'):=fun h w' hb=>⟨by rw [(x6U _).2 ⟨by omega,h⟩],hb⟩
  have ar:Hid (∀ k,k<4->¬ okAt k ((nums s).getD k 0)->∀ w',Bw w w'->x0d w (Scn.name (nums s)) (.returned (.bool false)) w'):=fun k hk h w' hb=>by
   have:Scn.name (nums s)=false:=by
    cases hn:Scn.name (nums s) with
    | false=>rfl
    | true=>exact absurd (((x6U _).1 hn).2 k hk) h
   exact ⟨by rw [this],hb⟩
  have al:=O (fun k=>(x7a s).at k);have q4:((s.size:Int) != 4)=false:=(by rw [h4]; rfl);clear am;generalize Scn.name (nums s)=res at *;go_enter func273,ntmps273;go_wp2;go_loopw [3,4] (fun _ _ wr=>∃ k:Nat,wr=w.iter s k/\k<=4/\∀ j,j<k->okAt j ((nums s).getD j 0)) (fun _ _ wr=>4 - wr.iterPos w.heap.size)
  case atStart=>exact ⟨0,rfl,by omega,fun j hj=>absurd hj (Nat.not_lt_zero _)⟩
  case round =>
   obtain ⟨k,rfl,hk,ah⟩:=hrel;have av:=O ah;clear ah;by_cases hlt:k<4
   ·have aF:=fun ty=>run_next_any (P:=prog) w s k ty (by omega);obtain ⟨c1,c2⟩:=V al k;rcases Int.lt_or_le ((nums s).getD k 0) 128 with ay | aE
    ·obtain ⟨d1,d2⟩:=y3w s k (by omega) ay;rw [d1,d2] at aF;clear d1 d2;have ae:=O (V ar k hlt)
     have ai:Hid (okAt k ((nums s).getD k 0)->∀ j,j<k+1->okAt j ((nums s).getD j 0)):=fun h j hj=>by
      rcases Nat.lt_or_ge j k with hj2 | hj2
      ·exact V av j hj2
      ·obtain rfl:j=k:=(by omega);exact h
     clear ar av;have aP:4 - (k+1)<4 - (w.iter s k).iterPos w.heap.size:=(by rw [World.iterPos_iter]; omega);generalize hcg:(nums s).getD k 0=c at aF c1 c2 ay ae ai;clear hcg h4 q4;by_cases hk0:k=0
     ·subst hk0;by_cases g1:65<=c
      ·by_cases g2:c<=90
       ·have HX:=O (V ai ⟨g1,g2⟩);clear ai ae HT;go_wp2
        go_roundw
        case rel=>exact ⟨0+1,rfl,by omega,V HX⟩
        case measure=>rw [World.iterPos_iter]; exact aP
       ·have HF:=V ae (fun h=>g2 h.2) (w.iter s (0+1)) ((b0r).alloc (l0r _) _);clear ai ae HT;go_wp2;go_ret;exact HF
      ·have HF:=V ae (fun h=>g1 h.1) (w.iter s (0+1)) ((b0r).alloc (l0r _) _);clear ai ae HT;go_wp2;go_ret;exact HF
     ·have hk1:((k:Int)==0)=false:=b0f (by omega);have aM:okAt k c=(97<=c/\c<=122):=(by unfold okAt; rw [if_neg hk0]);rw [aM] at ae ai;clear aM;by_cases g1:97<=c
      ·by_cases g2:c<=122
       ·have HX:=O (V ai ⟨g1,g2⟩);clear ai ae HT;go_wp2
        go_roundw
        case rel=>exact ⟨k+1,rfl,by omega,V HX⟩
        case measure=>rw [World.iterPos_iter]; exact aP
       ·have HF:=V ae (fun h=>g2 h.2) (w.iter s (k+1)) ((b0r).alloc (l0r _) _);clear ai ae HT;go_wp2;go_ret;exact HF
      ·have HF:=V ae (fun h=>g1 h.1) (w.iter s (k+1)) ((b0r).alloc (l0r _) _);clear ai ae HT;go_wp2;go_ret;exact HF
    ·obtain ⟨d1,d2,d3,d4⟩:=y6t s k (by omega) aE;have d5:=y9o s k;have HF:=V ar k hlt (fun h=>by unfold okAt at h; split at h <;> omega) (w.iter s (k+(Utf8.decode s k).2)) ((b0r).alloc (l0r _) _);clear ar HT av d2 d3 d4 h4 q4;generalize (Utf8.decode s k).2=n2 at *;generalize ((Utf8.decode s k).1:Int)=c at *;by_cases hk0:k=0
     ·subst hk0;rw [Nat.zero_add] at HF aF;go_wp2;go_ret;exact HF
     ·have hk1:((k:Int)==0)=false:=b0f (by omega);go_wp2;go_ret;exact HF
   ·obtain rfl:k=4:=(by omega);have aF:=fun ty=>run_next_end (P:=prog) w s 4 ty (by omega);have HF:=V HT (V av) (w.iter s 4) ((b0r).alloc (l0r _) _);clear ar HT av;go_wp2;go_ret;exact HF
 ·have HF:x0d w (Scn.name (nums s)) (.returned (.bool false)) w:=by
   have:Scn.name (nums s)=false:=by
    cases hn:Scn.name (nums s) with
    | false=>rfl
    | true=>exact absurd ((x6U _).1 hn).1 (by omega)
   exact ⟨by rw [this],b0r⟩
  have q4:((s.size:Int) != 4)=true:=(by simp; omega);go_enter func273,ntmps273;go_wp2;go_ret;exact HF
def cmpI (a b:Int):Int:=if a<b then -1 else if b<a then 1 else 0
theorem x5X (a:Int) (w:World):Calls prog 281 #[.int .u64 a] w fun e w'=>e=.returned (.bool false)/\w'=w:=by
 have h:(a != a)=false:=(by simp);go_enter func281,ntmps281;go_wp2;go_ret;exact ⟨rfl,rfl⟩
theorem x9c (a b:Int) (w:World):Calls prog 277 #[.int .u64 a,.int .u64 b] w fun e w'=>e=.returned (.int .i64 (cmpI a b))/\w'=w:=by
 have K1:=O (x5X a w);have K2:=O (x5X b w);unfold cmpI;by_cases h1:a<b
 ·rw [if_pos h1];go_enter func277,ntmps277;go_wp2_with fail;refine (V K1).mono ?_;rintro e w ⟨rfl,rfl⟩;go_wp2_with fail;refine (V K2).mono ?_;rintro e w ⟨rfl,rfl⟩;clear K1 K2;go_wp2;go_ret;exact ⟨rfl,rfl⟩
 ·rw [if_neg h1];by_cases h2:b<a
  ·rw [if_pos h2];go_enter func277,ntmps277;go_wp2_with fail;refine (V K1).mono ?_;rintro e w ⟨rfl,rfl⟩;go_wp2_with fail;refine (V K2).mono ?_;rintro e w ⟨rfl,rfl⟩;clear K1 K2;go_wp2;go_ret;exact ⟨rfl,rfl⟩
  ·rw [if_neg h2];go_enter func277,ntmps277;go_wp2_with fail;refine (V K1).mono ?_;rintro e w ⟨rfl,rfl⟩;go_wp2_with fail;refine (V K2).mono ?_;rintro e w ⟨rfl,rfl⟩;clear K1 K2;go_wp2;go_ret;exact ⟨rfl,rfl⟩
theorem x5Q (u v:Nat) (w:World) (hu:u<18446744073709551616) (hv:v<18446744073709551616):Calls prog 275 #[.float .f64 u,.float .f64 v] w fun e w'=>e=.returned (.int .i64 (cmpI (rankN u) (rankN v)))/\w'=w:=by
 have K1:=O (y0Q u w hu);have K2:=O (y0Q v w hv);have K3:=O (x9c (rankN u) (rankN v) w);generalize cmpI (rankN u) (rankN v)=c at *;generalize rankN u=a at *;generalize rankN v=b at *;go_enter func275,ntmps275;go_wp2_with fail;refine (V K1).mono ?_;rintro e w ⟨rfl,rfl⟩;clear K1;go_wp2_with fail;refine (V K2).mono ?_;rintro e w ⟨rfl,rfl⟩;clear K2;go_wp2_with fail;refine (V K3).mono ?_;rintro e w ⟨rfl,rfl⟩;clear K3;go_wp2;go_ret;exact ⟨rfl,rfl⟩
theorem x8N {u:Nat} (h:u<18446744073709551616):(!nanB u && decide (0<=cmpI (rankN u) (rankN 0)))=Cn.weight u:=by
 have r0:rankN 0=9223372036854775808:=(by decide);rw [r0];by_cases hn:nanB u=true
 ·rw [hn];have:9218868437227405312<u % 9223372036854775808:=o0d hn;unfold Cn.weight;rw [d0f (p:=u<=9218868437227405312) (by omega)];rfl
 ·have az:nanB u=false:=(by simpa using hn);have:¬ 9218868437227405312<u % 9223372036854775808:=of_decide_eq_false az;by_cases hs:u<9223372036854775808
  ·have e:rankN u=(u:Int)+9223372036854775808:=by unfold rankN; rw [az,if_neg (by decide),if_pos hs]
   have hc:0<=cmpI (rankN u) 9223372036854775808:=by
    rw [e];unfold cmpI;rw [if_neg (by omega)];split <;> decide
   unfold Cn.weight;rw [az,d0t hc,d0t (p:=u<=9218868437227405312) (by omega)];rfl
  ·have e:rankN u=18446744073709551615 - (u:Int):=by unfold rankN; rw [az,if_neg (by decide),if_neg hs]
   have hc:¬ 0<=cmpI (rankN u) 9223372036854775808:=by
    rw [e];unfold cmpI;rw [if_pos (by omega)];decide
   unfold Cn.weight;rw [az,d0f hc,d0f (p:=u<=9218868437227405312) (by omega)];rfl
theorem x2i (w:World) (a b:Obj):Bw w ((w.alloc a).alloc b):=((b0r).alloc (l0r _) _).alloc (by simp) _
def numB (k:Int) (r:Rec):Bool:=decide ((Cn.rowK k).low<=r.n/\r.n<=(Cn.rowK k).high)
theorem x0j {w w1:World} {a:Obj} {cs:Array Value} {t:TypeId} {j:Nat} {v:Value} (hb:Below ((w.alloc a).alloc (.cells cs t)).heap.size ((w.alloc a).alloc (.cells cs t)) w1) (h:cs[j]?=some v):w1.cell? ⟨w.heap.size+1,j,none⟩=some v:=by
 have h0:((w.alloc a).alloc (.cells cs t)).heap[w.heap.size+1]?=some (.cells cs t (0,0)):=by
  show ((w.heap.push _).push _)[w.heap.size+1]?=_;rw [Array.getElem?_push];simp
 have h1:w1.heap[w.heap.size+1]?=some (.cells cs t (0,0)):=by
  rw [hb.block _ (by simp),h0]
 have hj:j<cs.size:=by
  rcases Nat.lt_or_ge j cs.size with hh | hh
  ·exact hh
  ·rw [Array.getElem?_eq_none hh] at h; cases h
 rw [cell_of (j:=j) h1 hj];simp [Array.getD,hj] at h ⊢;simpa [Array.getElem?_eq_getElem hj] using h
theorem x1K {w:World} {b i:Nat} {v:Value} (h:w.cell? ⟨b,i,none⟩=some v) (o:Obj):(w.alloc o).cell? ⟨b,i,none⟩=some v:=by
 rw [World.cell?_alloc_lt _ _ _ (x0a h)];exact h
theorem x8e (k:Int) (r:Rec) (vt:Value) (w:World) (hg:Glob w) (hk:I64 k) (hn:I64 r.n):Calls prog 268 #[shV k,recV r vt] w (x0d w (numB k r)):=by
 have ab:=x2i w (.cells #[.int .i64 k] 205) (.cells #[.int .i64 r.kind,.int .i64 r.lo,.int .i64 r.hi,.int .i64 r.n,vt,.string r.name,.string r.other,.float .f64 r.wt] 50);have K:=O (x5o k ((w.alloc (.cells #[.int .i64 k] 205)).alloc (.cells #[.int .i64 r.kind,.int .i64 r.lo,.int .i64 r.hi,.int .i64 r.n,vt,.string r.name,.string r.other,.float .f64 r.wt] 50)) (hg.on ab) hk);clear hg;unfold numB shV recV rowV at *;generalize Cn.rowK k=q at *;obtain ⟨n0,n1⟩:=hn;generalize r.kind=kd at *;generalize r.n=n at *;generalize r.lo=lo at *;generalize r.hi=hi at *;generalize r.name=nm at *;generalize r.other=ot at *;generalize r.wt=wt at *;by_cases h1:q.low<=n
 ·by_cases h2:n<=q.high
  ·rw [d0t ⟨h1,h2⟩];have d1:=d0t h1;have d2:=d0t h2;go_enter func268,ntmps268;go_wp2_with fail;refine (V K).mono ?_;rintro e w1 ⟨rfl,aa⟩;have y3:=x0j (j:=3) aa rfl;have hb:=x0b ab aa;clear K ab aa;have z3:=x1K y3;go_wp2;go_ret;exact ⟨rfl,hb.alloc hb.size _⟩
  ·rw [d0f (fun h=>h2 h.2)];have d1:=d0t h1;have d2:=d0f h2;go_enter func268,ntmps268;go_wp2_with fail;refine (V K).mono ?_;rintro e w1 ⟨rfl,aa⟩;have y3:=x0j (j:=3) aa rfl;have hb:=x0b ab aa;clear K ab aa;have z3:=x1K y3;go_wp2;go_ret;exact ⟨rfl,hb.alloc hb.size _⟩
 ·rw [d0f (fun h=>h1 h.1)];have d1:=d0f h1;go_enter func268,ntmps268;go_wp2_with fail;refine (V K).mono ?_;rintro e w1 ⟨rfl,aa⟩;have y3:=x0j (j:=3) aa rfl;have hb:=x0b ab aa;clear K ab aa;have z3:=x1K y3;go_wp2;go_ret;exact ⟨rfl,hb.alloc hb.size _⟩
def weiB (k:Int) (r:Rec):Bool:=if (Cn.rowK k).wei=true then Cn.weight r.wt else decide (r.wt=0)
theorem x9V (k:Int) (r:Rec) (vt:Value) (w:World) (hg:Glob w) (hk:I64 k) (hu:r.wt<18446744073709551616):Calls prog 272 #[shV k,recV r vt] w (x0d w (weiB k r)):=by
 have ab:=x2i w (.cells #[.int .i64 k] 205) (.cells #[.int .i64 r.kind,.int .i64 r.lo,.int .i64 r.hi,.int .i64 r.n,vt,.string r.name,.string r.other,.float .f64 r.wt] 50);have K:=O (x5o k ((w.alloc (.cells #[.int .i64 k] 205)).alloc (.cells #[.int .i64 r.kind,.int .i64 r.lo,.int .i64 r.hi,.int .i64 r.n,vt,.string r.name,.string r.other,.float .f64 r.wt] 50)) (hg.on ab) hk);clear hg;unfold weiB shV recV rowV at *;generalize Cn.rowK k=q at *;have hf:=fld8 q;rw [<- x8N hu];have KN:=O (fun w=>x7U r.wt w);have KO:=O (fun w=>x5Q r.wt 0 w hu (by decide));have KB:=O (fun w=>x2x r.wt w);generalize r.kind=kd at *;generalize r.n=n at *;generalize r.lo=lo at *;generalize r.hi=hi at *;generalize r.name=nm at *;generalize r.other=ot at *;generalize r.wt=wt at *;generalize cmpI (rankN wt) (rankN 0)=c at *
 cases hw:q.wei with
 | true =>
  rw [if_pos rfl];rw [hw] at hf K;clear KB
  cases hn:nanB wt with
  | true =>
   rw [hn] at KN;go_enter func272,ntmps272;go_wp2_with fail;refine (V K).mono ?_;rintro e w1 ⟨rfl,aa⟩;have y7:=x0j (j:=7) aa rfl;have hb:=x0b ab aa;clear K ab aa;go_wp2_with fail;refine (V KN _).mono ?_;rintro e w2 ⟨rfl,af⟩;subst w2;clear KN KO;go_wp2;go_ret;exact ⟨rfl,hb⟩
  | false =>
   rw [hn] at KN;by_cases hc:0<=c
   ·rw [d0t hc];have d1:=d0t hc;go_enter func272,ntmps272;go_wp2_with fail;refine (V K).mono ?_;rintro e w1 ⟨rfl,aa⟩;have y7:=x0j (j:=7) aa rfl;have hb:=x0b ab aa;clear K ab aa;go_wp2_with fail;refine (V KN _).mono ?_;rintro e w2 ⟨rfl,af⟩;subst w2;clear KN;go_wp2_with fail;refine (V KO _).mono ?_;rintro e w2 ⟨rfl,af⟩;subst w2;clear KO;go_wp2;go_ret;exact ⟨rfl,hb⟩
   ·rw [d0f hc];have d1:=d0f hc;go_enter func272,ntmps272;go_wp2_with fail;refine (V K).mono ?_;rintro e w1 ⟨rfl,aa⟩;have y7:=x0j (j:=7) aa rfl;have hb:=x0b ab aa;clear K ab aa;go_wp2_with fail;refine (V KN _).mono ?_;rintro e w2 ⟨rfl,af⟩;subst w2;clear KN;go_wp2_with fail;refine (V KO _).mono ?_;rintro e w2 ⟨rfl,af⟩;subst w2;clear KO;go_wp2;go_ret;exact ⟨rfl,hb⟩
 | false =>
  rw [if_neg (by decide)];rw [hw] at hf K;clear KN KO;by_cases h0:wt=0
  ·rw [d0t h0];subst h0;go_enter func272,ntmps272;go_wp2_with fail;refine (V K).mono ?_;rintro e w1 ⟨rfl,aa⟩;have y7:=x0j (j:=7) aa rfl;have hb:=x0b ab aa;clear K ab aa;go_wp2_with fail;refine (V KB _).mono ?_;rintro e w2 ⟨rfl,af⟩;subst w2;clear KB;go_wp2;go_ret;exact ⟨rfl,hb⟩
  ·rw [d0f h0];have d0:((wt:Int)==0)=false:=b0f (by omega);go_enter func272,ntmps272;go_wp2_with fail;refine (V K).mono ?_;rintro e w1 ⟨rfl,aa⟩;have y7:=x0j (j:=7) aa rfl;have hb:=x0b ab aa;clear K ab aa;go_wp2_with fail;refine (V KB _).mono ?_;rintro e w2 ⟨rfl,af⟩;subst w2;clear KB;go_wp2;go_ret;exact ⟨rfl,hb⟩
theorem y7c (s:ByteArray):Cn.nameL s=Scn.name (nums s):=by
 unfold Cn.nameL Scn.name nums Scn.small;generalize s.data.toList=l
 match l with
 | []=>rfl
 | [_]=>rfl
 | [_,_]=>rfl
 | [_,_,_]=>rfl
 | [a,b,c,d] =>
  simp only [List.map_cons,List.map_nil,List.length_cons,List.length_nil,List.getD_cons_zero,List.getD_cons_succ];rw [decide_eq_decide];constructor
  ·intro h;exact ⟨trivial,(show 65<=(a.toNat:Int) by omega),(show (a.toNat:Int)<=90 by omega),⟨(show 97<=(b.toNat:Int) by omega),(show (b.toNat:Int)<=122 by omega)⟩,⟨(show 97<=(c.toNat:Int) by omega),(show (c.toNat:Int)<=122 by omega)⟩,(show 97<=(d.toNat:Int) by omega),(show (d.toNat:Int)<=122 by omega)⟩
  ·rintro ⟨_,h1,h2,⟨h3,h4⟩,⟨h5,h6⟩,h7,h8⟩;have g1:65<=(a.toNat:Int):=h1;have g2:(a.toNat:Int)<=90:=h2;have g3:97<=(b.toNat:Int):=h3;have g4:(b.toNat:Int)<=122:=h4;have g5:97<=(c.toNat:Int):=h5;have g6:(c.toNat:Int)<=122:=h6;have g7:97<=(d.toNat:Int):=h7;have g8:(d.toNat:Int)<=122:=h8;omega
 | _ :: _ :: _ :: _ :: _ :: _ =>
  simp only [List.map_cons,List.length_cons];symm;rw [decide_eq_false_iff_not];omega
theorem l_ne {b:ByteArray} (h:¬ b.size=0):¬ b.toList=[]:=fun e=>h (by
 have:b.data.toList.length=0:=(by rw [<- ByteArray.toList_eq,e]; rfl);show b.data.size=0;rw [<- Array.length_toList]
 exact this)
theorem y9N {b:ByteArray} (h:¬ b.size=0):b.toList.isEmpty=false:=List.isEmpty_eq_false_iff.2 (l_ne h)
theorem y9O {b:ByteArray} (h:b.size=0):b=⟨#[]⟩:=by
 cases b with
 | mk a =>
  have:a.size=0:=h;rw [Array.eq_empty_of_size_eq_zero this]
def namB (k:Int) (r:Rec):Bool:=if (Cn.rowK k).scr=1 then Cn.nameL r.name && decide (r.other.size=0) else if (Cn.rowK k).scr=2 then Cn.nameL r.name && (Cn.nameL r.other && decide (r.name≠r.other)) else decide (r.name.size=0) && decide (r.other.size=0)
theorem x3m (s:ByteArray) (w:World):Calls prog 273 #[.string s] w (x0d w (Cn.nameL s)):=by
 rw [y7c];exact x8B s w
theorem y4A (k:Int) (r:Rec) (vt:Value) (w:World) (hg:Glob w) (hk:I64 k):Calls prog 266 #[shV k,recV r vt] w (x0d w (namB k r)):=by
 have ab:=x2i w (.cells #[.int .i64 k] 205) (.cells #[.int .i64 r.kind,.int .i64 r.lo,.int .i64 r.hi,.int .i64 r.n,vt,.string r.name,.string r.other,.float .f64 r.wt] 50);have K:=O (x5o k ((w.alloc (.cells #[.int .i64 k] 205)).alloc (.cells #[.int .i64 r.kind,.int .i64 r.lo,.int .i64 r.hi,.int .i64 r.n,vt,.string r.name,.string r.other,.float .f64 r.wt] 50)) (hg.on ab) hk);clear hg;unfold namB shV recV rowV at *;generalize Cn.rowK k=q at *;have hf:=fld7 q;have KN:=O (fun w=>x3m r.name w);have KO:=O (fun w=>x3m r.other w);generalize r.kind=kd at *;generalize r.n=n at *;generalize r.lo=lo at *;generalize r.hi=hi at *;generalize r.name=nm at *;generalize r.other=ot at *;generalize r.wt=wt at *;generalize Cn.nameL nm=a at *;generalize Cn.nameL ot=b at *;by_cases s1:q.scr=1
 ·rw [if_pos s1];rw [s1] at hf K
  cases a with
  | false =>
   show Calls prog _ _ w (x0d w false);go_enter func266,ntmps266;go_wp2_with fail;refine (V K).mono ?_;rintro e w1 ⟨rfl,aa⟩;have y5:=x0j (j:=5) aa rfl;have y6:=x0j (j:=6) aa rfl;have hb:=x0b ab aa;clear K ab aa;go_wp2_with fail;refine (V KN _).mono ?_;rintro e w2 ⟨rfl,ad⟩;have z6:w2.cell? ⟨w.heap.size+1,6,none⟩=_:=(ad.cell (x0a y6)).trans y6;have hb:=x0b hb ad;clear ad;clear KN KO y5 y6;go_wp2;go_ret;exact ⟨rfl,hb⟩
  | true =>
   by_cases h0:ot.size=0
   ·rw [d0t h0];obtain rfl:=y9O h0;show Calls prog _ _ w (x0d w true);go_enter func266,ntmps266;go_wp2_with fail;refine (V K).mono ?_;rintro e w1 ⟨rfl,aa⟩;have y5:=x0j (j:=5) aa rfl;have y6:=x0j (j:=6) aa rfl;have hb:=x0b ab aa;clear K ab aa;go_wp2_with fail;refine (V KN _).mono ?_;rintro e w2 ⟨rfl,ad⟩;have z6:w2.cell? ⟨w.heap.size+1,6,none⟩=_:=(ad.cell (x0a y6)).trans y6;have hb:=x0b hb ad;clear ad;clear KN KO y5 y6;go_wp2;go_ret;exact ⟨rfl,hb⟩
   ·rw [d0f h0];have aq:=l_ne h0;have aO:=y9N h0;show Calls prog _ _ w (x0d w false);go_enter func266,ntmps266;go_wp2_with fail;refine (V K).mono ?_;rintro e w1 ⟨rfl,aa⟩;have y5:=x0j (j:=5) aa rfl;have y6:=x0j (j:=6) aa rfl;have hb:=x0b ab aa;clear K ab aa;go_wp2_with fail;refine (V KN _).mono ?_;rintro e w2 ⟨rfl,ad⟩;have z6:w2.cell? ⟨w.heap.size+1,6,none⟩=_:=(ad.cell (x0a y6)).trans y6;have hb:=x0b hb ad;clear ad;clear KN KO y5 y6;go_wp2;go_ret;exact ⟨rfl,hb⟩
 ·rw [if_neg s1];have s1b:(q.scr==1)=false:=b0f s1;by_cases s2:q.scr=2
  ·rw [if_pos s2];rw [s2] at hf K
   cases a with
   | false =>
    show Calls prog _ _ w (x0d w false);go_enter func266,ntmps266;go_wp2_with fail;refine (V K).mono ?_;rintro e w1 ⟨rfl,aa⟩;have y5:=x0j (j:=5) aa rfl;have y6:=x0j (j:=6) aa rfl;have hb:=x0b ab aa;clear K ab aa;go_wp2_with fail;refine (V KN _).mono ?_;rintro e w2 ⟨rfl,ad⟩;have z6:w2.cell? ⟨w.heap.size+1,6,none⟩=_:=(ad.cell (x0a y6)).trans y6;have hb:=x0b hb ad;clear ad;clear KN KO y5 y6;go_wp2;go_ret;exact ⟨rfl,hb⟩
   | true =>
    cases b with
    | false =>
     show Calls prog _ _ w (x0d w false);go_enter func266,ntmps266;go_wp2_with fail;refine (V K).mono ?_;rintro e w1 ⟨rfl,aa⟩;have y5:=x0j (j:=5) aa rfl;have y6:=x0j (j:=6) aa rfl;have hb:=x0b ab aa;clear K ab aa;go_wp2_with fail;refine (V KN _).mono ?_;rintro e w2 ⟨rfl,ad⟩;have z5:w2.cell? ⟨w.heap.size+1,5,none⟩=_:=(ad.cell (x0a y5)).trans y5;have z6:w2.cell? ⟨w.heap.size+1,6,none⟩=_:=(ad.cell (x0a y6)).trans y6;have hb:=x0b hb ad;clear ad;clear KN y5 y6;go_wp2_with fail;refine (V KO _).mono ?_;rintro e w3 ⟨rfl,ag⟩;have z5:w3.cell? ⟨w.heap.size+1,5,none⟩=_:=(ag.cell (x0a z5)).trans z5;have z6:w3.cell? ⟨w.heap.size+1,6,none⟩=_:=(ag.cell (x0a z6)).trans z6;have hb:=x0b hb ag;clear ag;clear KO;go_wp2;go_ret;exact ⟨rfl,hb⟩
    | true =>
     by_cases h0:nm=ot
     ·rw [d0f (fun h=>h h0)];subst h0;show Calls prog _ _ w (x0d w false);go_enter func266,ntmps266;go_wp2_with fail;refine (V K).mono ?_;rintro e w1 ⟨rfl,aa⟩;have y5:=x0j (j:=5) aa rfl;have y6:=x0j (j:=6) aa rfl;have hb:=x0b ab aa;clear K ab aa;go_wp2_with fail;refine (V KN _).mono ?_;rintro e w2 ⟨rfl,ad⟩;have z5:w2.cell? ⟨w.heap.size+1,5,none⟩=_:=(ad.cell (x0a y5)).trans y5;have z6:w2.cell? ⟨w.heap.size+1,6,none⟩=_:=(ad.cell (x0a y6)).trans y6;have hb:=x0b hb ad;clear ad;clear KN y5 y6;go_wp2_with fail;refine (V KO _).mono ?_;rintro e w3 ⟨rfl,ag⟩;have z5:w3.cell? ⟨w.heap.size+1,5,none⟩=_:=(ag.cell (x0a z5)).trans z5;have z6:w3.cell? ⟨w.heap.size+1,6,none⟩=_:=(ag.cell (x0a z6)).trans z6;have hb:=x0b hb ag;clear ag;clear KO;go_wp2;go_ret;exact ⟨rfl,hb⟩
     ·rw [d0t h0]
      have aq:¬ nm.toList=ot.toList:=fun e=>h0 (by
       rw [ByteArray.toList_eq,ByteArray.toList_eq] at e;cases nm;cases ot
       simp_all)
      have hbq:(nm.toList==ot.toList)=false:=b0f aq;show Calls prog _ _ w (x0d w true);go_enter func266,ntmps266;go_wp2_with fail;refine (V K).mono ?_;rintro e w1 ⟨rfl,aa⟩;have y5:=x0j (j:=5) aa rfl;have y6:=x0j (j:=6) aa rfl;have hb:=x0b ab aa;clear K ab aa;go_wp2_with fail;refine (V KN _).mono ?_;rintro e w2 ⟨rfl,ad⟩;have z5:w2.cell? ⟨w.heap.size+1,5,none⟩=_:=(ad.cell (x0a y5)).trans y5;have z6:w2.cell? ⟨w.heap.size+1,6,none⟩=_:=(ad.cell (x0a y6)).trans y6;have hb:=x0b hb ad;clear ad;clear KN y5 y6;go_wp2_with fail;refine (V KO _).mono ?_;rintro e w3 ⟨rfl,ag⟩;have z5:w3.cell? ⟨w.heap.size+1,5,none⟩=_:=(ag.cell (x0a z5)).trans z5;have z6:w3.cell? ⟨w.heap.size+1,6,none⟩=_:=(ag.cell (x0a z6)).trans z6;have hb:=x0b hb ag;clear ag;clear KO;go_wp2;go_ret;exact ⟨rfl,hb⟩
  ·rw [if_neg s2];have s2b:(q.scr==2)=false:=b0f s2;clear KN KO;by_cases h0:nm.size=0
   ·rw [d0t h0];obtain rfl:=y9O h0;by_cases h1:ot.size=0
    ·rw [d0t h1];obtain rfl:=y9O h1;show Calls prog _ _ w (x0d w true);go_enter func266,ntmps266;go_wp2_with fail;refine (V K).mono ?_;rintro e w1 ⟨rfl,aa⟩;have y5:=x0j (j:=5) aa rfl;have y6:=x0j (j:=6) aa rfl;have hb:=x0b ab aa;clear K ab aa;go_wp2;go_ret;exact ⟨rfl,hb⟩
    ·rw [d0f h1];have aq:=l_ne h1;have aO:=y9N h1;show Calls prog _ _ w (x0d w false);go_enter func266,ntmps266;go_wp2_with fail;refine (V K).mono ?_;rintro e w1 ⟨rfl,aa⟩;have y5:=x0j (j:=5) aa rfl;have y6:=x0j (j:=6) aa rfl;have hb:=x0b ab aa;clear K ab aa;go_wp2;go_ret;exact ⟨rfl,hb⟩
   ·rw [d0f h0];have aq:=l_ne h0;have aO:=y9N h0;show Calls prog _ _ w (x0d w false);go_enter func266,ntmps266;go_wp2_with fail;refine (V K).mono ?_;rintro e w1 ⟨rfl,aa⟩;have y5:=x0j (j:=5) aa rfl;have y6:=x0j (j:=6) aa rfl;have hb:=x0b ab aa;clear K ab aa;go_wp2;go_ret;exact ⟨rfl,hb⟩
def tarB (k:Int) (r:Rec):Bool:=decide ((Cn.rowK k).least<=(r.to.length:Int)/\(r.to.length:Int)<=(Cn.rowK k).most) && r.to.all Cn.scalar
theorem x8G (k:Int) (r:Rec) (vt:Value) (w:World) (hg:Glob w) (hk:I64 k) (hs:Sk .i32 w vt r.to):Calls prog 271 #[shV k,recV r vt] w (x0d w (tarB k r)):=by
 have ab:=x2i w (.cells #[.int .i64 k] 205) (.cells #[.int .i64 r.kind,.int .i64 r.lo,.int .i64 r.hi,.int .i64 r.n,vt,.string r.name,.string r.other,.float .f64 r.wt] 50);have K:=O (x5o k ((w.alloc (.cells #[.int .i64 k] 205)).alloc (.cells #[.int .i64 r.kind,.int .i64 r.lo,.int .i64 r.hi,.int .i64 r.n,vt,.string r.name,.string r.other,.float .f64 r.wt] 50)) (hg.on ab) hk);clear hg;unfold tarB shV recV rowV at *;generalize Cn.rowK k=q at *;have KS:Hid (∀ W,Bw w W->Calls prog 274 #[vt] W fun e w'=>e=.returned (.bool (r.to.all Cn.scalar))/\w'=W):=fun W h=>y5r vt r.to W (hs.below h);obtain ⟨ao,cap,rfl,_,_⟩:=hs.shape;clear hs;generalize r.kind=kd at *;generalize r.n=n at *;generalize r.lo=lo at *;generalize r.hi=hi at *;generalize r.name=nm at *;generalize r.other=ot at *;generalize r.wt=wt at *;generalize r.to.all Cn.scalar=b at *;generalize r.to.length=m at *;by_cases h1:q.least<=(m:Int)
 ·have d1:=d0t h1;by_cases h2:(m:Int)<=q.most
  ·have d2:=d0t h2;rw [d0t ⟨h1,h2⟩,Bool.true_and];go_enter func271,ntmps271;go_wp2_with fail;refine (V K).mono ?_;rintro e w1 ⟨rfl,aa⟩;have y4:=x0j (j:=4) aa rfl;have hb:=x0b ab aa;clear K ab aa;have z4:=x1K y4;go_wp2_with fail;refine (V KS _ (hb.alloc hb.size _)).mono ?_;rintro e w2 ⟨rfl,af⟩;subst w2;clear KS;go_wp2;go_ret;exact ⟨rfl,hb.alloc hb.size _⟩
  ·have d2:=d0f h2;rw [d0f (fun h=>h2 h.2),Bool.false_and];go_enter func271,ntmps271;go_wp2_with fail;refine (V K).mono ?_;rintro e w1 ⟨rfl,aa⟩;have y4:=x0j (j:=4) aa rfl;have hb:=x0b ab aa;clear K ab aa;have z4:=x1K y4;clear KS;go_wp2;go_ret;exact ⟨rfl,hb.alloc hb.size _⟩
 ·have d1:=d0f h1;rw [d0f (fun h=>h1 h.1),Bool.false_and];go_enter func271,ntmps271;go_wp2_with fail;refine (V K).mono ?_;rintro e w1 ⟨rfl,aa⟩;have y4:=x0j (j:=4) aa rfl;have hb:=x0b ab aa;clear K ab aa;have z4:=x1K y4;clear KS;go_wp2;go_ret;exact ⟨rfl,hb.alloc hb.size _⟩
theorem x2p (c:Int) (w:World) (hc:I64 c):Calls prog 287 #[.int .i64 c] w fun e w'=>e=.returned (.bool (Cn.scalar c))/\w'=w:=by
 have K:=O (x1Z c w hc);by_cases hp:0<=c/\c<=1114111
 ·have e:isPt c=true:=d0t hp;rw [e] at K;have hw:IntKind.i32.wrap c=c:=IntWalk.i32_in _ ⟨by omega,by omega⟩;have K2:=O (x8K c w ⟨by omega,by omega⟩);clear e hc;generalize Cn.scalar c=b at *;go_enter func287,ntmps287;go_wp2_with fail;refine (V K).mono ?_;rintro e w1 ⟨rfl,aR⟩;subst w1;clear K;go_wp2_with fail;refine (V K2).mono ?_;rintro e w1 ⟨rfl,aR⟩;subst w1;clear K2;go_wp2;go_ret;exact ⟨rfl,rfl⟩
 ·have e:isPt c=false:=d0f hp;rw [e] at K;have e2:Cn.scalar c=false:=d0f (by omega);rw [e2];clear e e2 hc;go_enter func287,ntmps287;go_wp2_with fail;refine (V K).mono ?_;rintro e w1 ⟨rfl,aR⟩;subst w1;clear K;go_wp2;go_ret;exact ⟨rfl,rfl⟩
theorem x4e (k:Int) (r:Rec) (vt:Value) (w:World) (hf:RecFit r):Calls prog 292 #[shV k,recV r vt] w (x0d w (decide (r.lo=0/\r.hi=0))):=by
 have hb:=x2i w (.cells #[.int .i64 k] 251) (.cells #[.int .i64 r.kind,.int .i64 r.lo,.int .i64 r.hi,.int .i64 r.n,vt,.string r.name,.string r.other,.float .f64 r.wt] 50);have ay:=hf.lo;have aE:=hf.hi;clear hf;unfold shV recV at *;generalize r.kind=kd at *;generalize r.n=n at *;generalize r.lo=lo at *;generalize r.hi=hi at *;generalize r.name=nm at *;generalize r.other=ot at *;generalize r.wt=wt at *;by_cases h1:lo=0
 ·by_cases h2:hi=0
  ·rw [d0t ⟨h1,h2⟩];subst h1 h2;go_enter func292,ntmps292;go_wp2;go_ret;exact ⟨rfl,hb⟩
  ·rw [d0f (fun h=>h2 h.2)];subst h1;have d2:(hi==0)=false:=b0f h2;go_enter func292,ntmps292;go_wp2;go_ret;exact ⟨rfl,hb⟩
 ·rw [d0f (fun h=>h1 h.1)];have d1:(lo==0)=false:=b0f h1;go_enter func292,ntmps292;go_wp2;go_ret;exact ⟨rfl,hb⟩
theorem x4f (k:Int) (r:Rec) (vt:Value) (w:World) (hf:RecFit r):Calls prog 289 #[shV k,recV r vt] w (x0d w (decide (r.lo=r.hi) && Cn.scalar r.lo)):=by
 have hb:=x2i w (.cells #[.int .i64 k] 250) (.cells #[.int .i64 r.kind,.int .i64 r.lo,.int .i64 r.hi,.int .i64 r.n,vt,.string r.name,.string r.other,.float .f64 r.wt] 50);have ay:=hf.lo;have aE:=hf.hi;have K:=O (fun w=>x2p r.lo w hf.lo);clear hf;unfold shV recV at *;generalize r.kind=kd at *;generalize r.n=n at *;generalize r.lo=lo at *;generalize r.hi=hi at *;generalize r.name=nm at *;generalize r.other=ot at *;generalize r.wt=wt at *;by_cases h1:lo=hi
 ·rw [d0t h1,Bool.true_and];subst h1;have d1:(lo==lo)=true:=beq_self_eq_true _;generalize Cn.scalar lo=b at *;go_enter func289,ntmps289;go_wp2_with fail;refine (V K _).mono ?_;rintro e w2 ⟨rfl,af⟩;subst w2;clear K;go_wp2;go_ret;exact ⟨rfl,hb⟩
 ·rw [d0f h1,Bool.false_and];have d1:(lo==hi)=false:=b0f h1;clear K;go_enter func289,ntmps289;go_wp2;go_ret;exact ⟨rfl,hb⟩
def spanB (r:Rec):Bool:=decide (0<=r.lo/\r.lo<=1114111/\0<=r.hi/\r.hi<=1114111/\r.lo<=r.hi)
theorem x1P (k:Int) (r:Rec) (vt:Value) (w:World) (hf:RecFit r):Calls prog 284 #[shV k,recV r vt] w (x0d w (spanB r)):=by
 have hb:=x2i w (.cells #[.int .i64 k] 247) (.cells #[.int .i64 r.kind,.int .i64 r.lo,.int .i64 r.hi,.int .i64 r.n,vt,.string r.name,.string r.other,.float .f64 r.wt] 50);have ay:=hf.lo;have aE:=hf.hi;have K1:=O (fun w=>x1Z r.lo w hf.lo);have K2:=O (fun w=>x1Z r.hi w hf.hi);clear hf;unfold spanB shV recV at *;generalize r.kind=kd at *;generalize r.n=n at *;generalize r.lo=lo at *;generalize r.hi=hi at *;generalize r.name=nm at *;generalize r.other=ot at *;generalize r.wt=wt at *;by_cases h1:0<=lo/\lo<=1114111
 ·have e1:isPt lo=true:=d0t h1;rw [e1] at K1;by_cases h2:0<=hi/\hi<=1114111
  ·have e2:isPt hi=true:=d0t h2;rw [e2] at K2;by_cases h3:lo<=hi
   ·rw [d0t ⟨h1.1,h1.2,h2.1,h2.2,h3⟩];have d3:=d0t h3;go_enter func284,ntmps284;go_wp2_with fail;refine (V K1 _).mono ?_;rintro e w2 ⟨rfl,af⟩;subst w2;clear K1;go_wp2_with fail;refine (V K2 _).mono ?_;rintro e w2 ⟨rfl,af⟩;subst w2;clear K2;go_wp2;go_ret;exact ⟨rfl,hb⟩
   ·rw [d0f (fun h=>h3 h.2.2.2.2)];have d3:=d0f h3;go_enter func284,ntmps284;go_wp2_with fail;refine (V K1 _).mono ?_;rintro e w2 ⟨rfl,af⟩;subst w2;clear K1;go_wp2_with fail;refine (V K2 _).mono ?_;rintro e w2 ⟨rfl,af⟩;subst w2;clear K2;go_wp2;go_ret;exact ⟨rfl,hb⟩
  ·have e2:isPt hi=false:=d0f h2;rw [e2] at K2;rw [d0f (fun h=>h2 ⟨h.2.2.1,h.2.2.2.1⟩)];clear h2;go_enter func284,ntmps284;go_wp2_with fail;refine (V K1 _).mono ?_;rintro e w2 ⟨rfl,af⟩;subst w2;clear K1;go_wp2_with fail;refine (V K2 _).mono ?_;rintro e w2 ⟨rfl,af⟩;subst w2;clear K2;go_wp2;go_ret;exact ⟨rfl,hb⟩
 ·have e1:isPt lo=false:=d0f h1;rw [e1] at K1;rw [d0f (fun h=>h1 ⟨h.1,h.2.1⟩)];clear h1;go_enter func284,ntmps284;go_wp2_with fail;refine (V K1 _).mono ?_;rintro e w2 ⟨rfl,af⟩;subst w2;clear K1;clear K2;go_wp2;go_ret;exact ⟨rfl,hb⟩
def shiftB (r:Rec):Bool:=spanB r && (decide (r.to.length=1) && (Cn.scalar (r.to.getD 0 0) && (Cn.scalar (r.to.getD 0 0+r.hi - r.lo) && (decide (r.to.getD 0 0<55296)==decide (r.to.getD 0 0+r.hi - r.lo<55296)))))
theorem x3B (k:Int) (r:Rec) (vt:Value) (w:World) (hf:RecFit r) (hs:Sk .i32 w vt r.to):Calls prog 285 #[shV k,recV r vt] w (x0d w (shiftB r)):=by
 have ab:=x2i w (.cells #[.int .i64 k] 249) (.cells #[.int .i64 r.kind,.int .i64 r.lo,.int .i64 r.hi,.int .i64 r.n,vt,.string r.name,.string r.other,.float .f64 r.wt] 50);have K1:=O (x1P k r vt ((w.alloc (.cells #[.int .i64 k] 249)).alloc (.cells #[.int .i64 r.kind,.int .i64 r.lo,.int .i64 r.hi,.int .i64 r.n,vt,.string r.name,.string r.other,.float .f64 r.wt] 50)) hf);have am:=hf.len;unfold shiftB
 cases hsp:spanB r with
 | false =>
  rw [hsp] at K1;rw [Bool.false_and];clear hf hs hsp;unfold shV recV at *;generalize r.kind=kd at *;generalize r.n=n at *;generalize r.lo=lo at *;generalize r.hi=hi at *;generalize r.name=nm at *;generalize r.other=ot at *;generalize r.wt=wt at *;go_enter func285,ntmps285;go_wp2_with fail;refine (V K1).mono ?_;rintro e w1 ⟨rfl,aa⟩;have hb:=x0b ab aa;clear K1 ab aa;go_wp2;go_ret;exact ⟨rfl,hb⟩
 | true =>
  rw [hsp] at K1;rw [Bool.true_and];by_cases h1:r.to.length=1
  ·rw [d0t h1,Bool.true_and];obtain ⟨b,off,cap,rfl,aN,aU,hc⟩:=hs.place (by omega);have hx:=hc 0 (by omega);have hrn:=hs.1.i32at 0;obtain ⟨p0,p1,p2,p3,p4⟩:0<=r.lo/\r.lo<=1114111/\0<=r.hi/\r.hi<=1114111/\r.lo<=r.hi:=o0d hsp;rw [h1] at K1 aN ab;have an:=x0a hx;have KA:=O (fun w=>x2p (r.to.getD 0 0) w ⟨by omega,by omega⟩);have KB:=O (fun w=>x2p (r.to.getD 0 0+r.hi - r.lo) w ⟨by omega,by omega⟩);rw [h1];clear hf hs hsp hc h1;unfold shV recV at *;generalize r.kind=kd at *;generalize r.n=n at *;generalize r.lo=lo at *;generalize r.hi=hi at *;generalize r.name=nm at *;generalize r.other=ot at *;generalize r.wt=wt at *;generalize r.to.getD 0 0=x at *;have e1:IntKind.i64.wrap (x+hi)=x+hi:=IntWalk.i64_in _ ⟨by omega,by omega⟩;have e2:IntKind.i64.wrap (x+hi - lo)=x+hi - lo:=IntWalk.i64_in _ ⟨by omega,by omega⟩;have e3:IntKind.i64.wrap x=x:=IntWalk.i64_in _ ⟨by omega,by omega⟩
   cases ha:Cn.scalar x with
   | false =>
    rw [ha] at KA;rw [Bool.false_and];go_enter func285,ntmps285;go_wp2_with fail;refine (V K1).mono ?_;rintro e w1 ⟨rfl,aa⟩;have y1:=x0j (j:=1) aa rfl;have y2:=x0j (j:=2) aa rfl;have y4:=x0j (j:=4) aa rfl;have hb:=x0b ab aa;have hy:w1.cell? ⟨b,off,none⟩=some (.int .i32 x):=(hb.cell (by exact an)).trans hx;clear K1 ab aa;go_wp2_with fail;refine (V KA _).mono ?_;rintro e w2 ⟨rfl,af⟩;subst w2;clear KA;clear KB;go_wp2;go_ret;exact ⟨rfl,hb⟩
   | true =>
    rw [ha] at KA;rw [Bool.true_and]
    cases hz:Cn.scalar (x+hi - lo) with
    | false =>
     rw [hz] at KB;rw [Bool.false_and];go_enter func285,ntmps285;go_wp2_with fail;refine (V K1).mono ?_;rintro e w1 ⟨rfl,aa⟩;have y1:=x0j (j:=1) aa rfl;have y2:=x0j (j:=2) aa rfl;have y4:=x0j (j:=4) aa rfl;have hb:=x0b ab aa;have hy:w1.cell? ⟨b,off,none⟩=some (.int .i32 x):=(hb.cell (by exact an)).trans hx;clear K1 ab aa;go_wp2_with fail;refine (V KA _).mono ?_;rintro e w2 ⟨rfl,af⟩;subst w2;clear KA;go_wp2_with fail;refine (V KB _).mono ?_;rintro e w2 ⟨rfl,af⟩;subst w2;clear KB;go_wp2;go_ret;exact ⟨rfl,hb⟩
    | true =>
     rw [hz] at KB;rw [Bool.true_and];go_enter func285,ntmps285;go_wp2_with fail;refine (V K1).mono ?_;rintro e w1 ⟨rfl,aa⟩;have y1:=x0j (j:=1) aa rfl;have y2:=x0j (j:=2) aa rfl;have y4:=x0j (j:=4) aa rfl;have hb:=x0b ab aa;have hy:w1.cell? ⟨b,off,none⟩=some (.int .i32 x):=(hb.cell (by exact an)).trans hx;clear K1 ab aa;go_wp2_with fail;refine (V KA _).mono ?_;rintro e w2 ⟨rfl,af⟩;subst w2;clear KA;go_wp2_with fail;refine (V KB _).mono ?_;rintro e w2 ⟨rfl,af⟩;subst w2;clear KB;go_wp2;go_ret;exact ⟨rfl,hb⟩
  ·rw [d0f h1,Bool.false_and];have d1:((r.to.length:Int) != 1)=true:=(by simp; omega);obtain ⟨ao,cap,rfl,_,_⟩:=hs.shape;clear hf hs hsp h1;unfold shV recV at *;generalize r.kind=kd at *;generalize r.n=n at *;generalize r.lo=lo at *;generalize r.hi=hi at *;generalize r.name=nm at *;generalize r.other=ot at *;generalize r.wt=wt at *;generalize r.to.length=m at *;go_enter func285,ntmps285;go_wp2_with fail;refine (V K1).mono ?_;rintro e w1 ⟨rfl,aa⟩;have y4:=x0j (j:=4) aa rfl;have hb:=x0b ab aa;clear K1 ab aa;go_wp2;go_ret;exact ⟨rfl,hb⟩
def x2j (w:World) (b:Bool) (e:Ending) (w':World):Prop:=e=.returned (.bool b)/\w'=w
theorem x2j.mk {w:World} {b c:Bool} (h:c=b):x2j w b (.returned (.bool c)) w:=by subst h; exact ⟨rfl,rfl⟩
theorem x9H (s:ByteArray) (w:World):Calls prog 98 #[.string s] w (x2j w (Scn.name (nums s))):=by
 have am:=nums_length s;have aD:=fun i k hi hk w=>y8A s i k hi hk w;have aj:=fun k=>(x7a s).at k;have aG:Hid (¬ s.size=4->x2j w (Scn.name (nums s)) (.returned (.bool false)) w):=fun h=>x2j.mk (by unfold Scn.name; rw [d0f]; omega);have ap:Hid (¬ (65<=(nums s).getD 0 0/\(nums s).getD 0 0<=90)->x2j w (Scn.name (nums s)) (.returned (.bool false)) w):=fun h=>x2j.mk (by unfold Scn.name; rw [d0f]; exact fun x=>h ⟨x.2.1,x.2.2.1⟩)
 have ae:Hid (∀ k,1<=k->k<4->¬ (97<=(nums s).getD k 0/\(nums s).getD k 0<=122)->x2j w (Scn.name (nums s)) (.returned (.bool false)) w):=fun k h1 h2 h=>x2j.mk (by
  unfold Scn.name; rw [d0f];intro x;obtain ⟨_,_,_,x1,x2,x3⟩:=x;have:k=1\/k=2\/k=3:=(by omega);rcases this with e | e | e <;> subst e
  ·exact h x1
  ·exact h x2
  ·exact h x3)
 have HT:Hid (s.size=4->65<=(nums s).getD 0 0->(nums s).getD 0 0<=90->(∀ k,1<=k->k<4->97<=(nums s).getD k 0/\(nums s).getD k 0<=122)->x2j w (Scn.name (nums s)) (.returned (.bool true)) w):=fun h1 h2 h3 h4=>x2j.mk (by
  unfold Scn.name; rw [d0t]
  exact ⟨by omega,h2,h3,h4 1 (by omega) (by omega),h4 2 (by omega) (by omega),h4 3 (by omega) (by omega)⟩)
 by_cases a1:s.size=4
 ·have h0:=aD 0 0 rfl (by omega);obtain ⟨z1,z2⟩:=aj 0;have aT:=O aD;have al:=O aj;have aC:=O (V HT a1);have aq:((s.size:Int) != 4)=false:=(by simp [a1]);clear aD aj aG HT;generalize (nums s).getD 0 0=c0 at *;by_cases a2:c0<65
  ·have HF:=V ap (by omega);clear ap ae aC;go_enter func98,ntmps98;go_wp2;go_ret;exact HF
  ·by_cases a3:90<c0
   ·have HF:=V ap (by omega);clear ap ae aC;go_enter func98,ntmps98;go_wp2;go_ret;exact HF
   ·have aw:=O (V aC (by omega) (by omega));clear ap aC;go_enter func98,ntmps98;go_wp2;go_loop [3] (fun i=>∃ k:Nat,i=.int .i64 k/\1<=k/\k<=4/\∀ j,1<=j->j<k->97<=(nums s).getD j 0/\(nums s).getD j 0<=122) (fun i=>4 - (intOf i).toNat)
    case atStart=>exact ⟨1,rfl,by omega,by omega,fun j h1 h2=>by omega⟩
    case round =>
     clear h0 z1 z2;obtain ⟨k,rfl,k1,k2,hall⟩:=hrel;by_cases hlt:k<4
     ·have hk:=V aT (k:Int) k rfl (by omega);obtain ⟨b1,b2⟩:=V al k
      have aA:Hid (97<=(nums s).getD k 0->(nums s).getD k 0<=122->∀ j,1<=j->j<k+1->97<=(nums s).getD j 0/\(nums s).getD j 0<=122):=fun h1 h2 j j1 j2=>by
       by_cases e:j=k
       ·subst e; exact ⟨h1,h2⟩
       ·exact hall j j1 (by omega)
      have au:=O (V ae k k1 hlt);clear hall;generalize (nums s).getD k 0=c at *;by_cases b3:c<97
      ·have HF:=V au (by omega);clear au aA ae aw;go_wp2;go_ret;exact HF
      ·by_cases b4:122<c
       ·have HF:=V au (by omega);clear au aA ae aw;go_wp2;go_ret;exact HF
       ·have HX:=O (V aA (by omega) (by omega));clear au aA ae aw;go_wp2;go_round
        case rel=>exact ⟨k+1,by go_num,by omega,by omega,V HX⟩
        case measure=>simp [intOf]; omega
     ·obtain rfl:k=4:=(by omega);have HF:=V aw hall;clear ae aw hall;go_wp2;go_ret;exact HF
 ·have HF:=V aG a1;have aq:((s.size:Int) != 4)=true:=(by simp; omega);clear aG ap ae HT aD aj;go_enter func98,ntmps98;go_wp2;go_ret;exact HF
theorem y9X (s:ByteArray):Cn.nameL s=Scn.name (nums s):=by
 unfold Cn.nameL Scn.name nums Scn.small;generalize s.data.toList=l
 match l with
 | []=>rfl
 | [_]=>rfl
 | [_,_]=>rfl
 | [_,_,_]=>rfl
 | [a,b,c,d] =>
  simp only [List.map_cons,List.map_nil,List.length_cons,List.length_nil,List.getD_cons_zero,List.getD_cons_succ];rw [decide_eq_decide];constructor
  ·intro h;exact ⟨trivial,(show 65<=(a.toNat:Int) by omega),(show (a.toNat:Int)<=90 by omega),⟨(show 97<=(b.toNat:Int) by omega),(show (b.toNat:Int)<=122 by omega)⟩,⟨(show 97<=(c.toNat:Int) by omega),(show (c.toNat:Int)<=122 by omega)⟩,(show 97<=(d.toNat:Int) by omega),(show (d.toNat:Int)<=122 by omega)⟩
  ·rintro ⟨_,h1,h2,⟨h3,h4⟩,⟨h5,h6⟩,h7,h8⟩;have g1:65<=(a.toNat:Int):=h1;have g2:(a.toNat:Int)<=90:=h2;have g3:97<=(b.toNat:Int):=h3;have g4:(b.toNat:Int)<=122:=h4;have g5:97<=(c.toNat:Int):=h5;have g6:(c.toNat:Int)<=122:=h6;have g7:97<=(d.toNat:Int):=h7;have g8:(d.toNat:Int)<=122:=h8;omega
 | _ :: _ :: _ :: _ :: _ :: _ =>
  simp only [List.map_cons,List.length_cons];symm;rw [decide_eq_false_iff_not];omega
theorem x3W (s:ByteArray) (w:World):Calls prog 98 #[.string s] w fun e w'=>e=.returned (.bool (Cn.nameL s))/\w'=w:=by
 rw [y9X];exact x9H s w
def theLaid:List (String × DataW Unit):=Rows.labelChecksRow.laid
def rowD (r:Row9):DataW Unit:=.agg [.lit (.string r.word.data.toList),.lit (.int .i64 r.fam),.lit (.int .i64 r.least),.lit (.int .i64 r.most),.lit (.int .i64 r.low),.lit (.int .i64 r.high),.lit (.string r.said.data.toList),.lit (.int .i64 r.scr),.lit (.bool r.wei)]
theorem y4p:(Rows.laid_endonym_table_rows:DataW Unit)=.agg ((List.range 16).map fun k=>rowD (Cn.rowT k)):=by kernel_rfl
theorem z1A : Tryz.prog.globalNamed "endonym/table.rows" = some 1 := by kernel_rfl
theorem y3T:(prog.globals[1]?).map (·.type)=some 273:=by kernel_rfl
theorem z0Y {a b:ByteArray} (h:a.data.toList=b.data.toList):a=b:=by
 cases a; cases b;simp_all
def rowL (r:Row9):List Value:=[.string r.word,.int .i64 r.fam,.int .i64 r.least,.int .i64 r.most,.int .i64 r.low,.int .i64 r.high,.string r.said,.int .i64 r.scr,.bool r.wei]
section
variable {enc:TypeId × Value->Unit} {W:World} {base:Nat} {sp:Nat->Bool} {held:Bool}
theorem y5g {ax:Nat} {cs:List Value} {r:Row9} {p:List MemPlace} (h:DataW.trod enc prog W base sp held ax 253 cs=some (rowD r,p)):cs=rowL r:=by
 obtain ⟨xs,k,hk,a5,aH,aS,hf⟩:=DataW.trod_struct underlying253 h;have c9:prog.cellsOf 253=9:=(by kernel_rfl);have c1:prog.cellsOf 3=1:=(by kernel_rfl);have c3:prog.cellsOf 9=1:=(by kernel_rfl);have c4:prog.cellsOf 4=1:=(by kernel_rfl);rw [c9] at aH
 match xs,aS,cs,aH with
 | [y0,y1,y2,y3,y4,y5,y6,y7,y8],_,[v0,v1,v2,v3,v4,v5,v6,v7,v8],_ =>
  have hd:[y0.1,y1.1,y2.1,y3.1,y4.1,y5.1,y6.1,y7.1,y8.1]=[.lit (.string r.word.data.toList),.lit (.int .i64 r.fam),.lit (.int .i64 r.least),.lit (.int .i64 r.most),.lit (.int .i64 r.low),.lit (.int .i64 r.high),.lit (.string r.said.data.toList),.lit (.int .i64 r.scr),.lit (.bool r.wei)]:=by
   have:=congrArg Prod.fst a5;simpa [rowD] using this.symm
  simp only [List.cons.injEq,and_true] at hd;obtain ⟨d0,d1,d2,d3,d4,d5,d6,d7,d8⟩:=hd;have g0:=hf 0 _ rfl;have g1:=hf 1 _ rfl;have g2:=hf 2 _ rfl;have g3:=hf 3 _ rfl;have g4:=hf 4 _ rfl;have g5:=hf 5 _ rfl;have g6:=hf 6 _ rfl;have g7:=hf 7 _ rfl;have g8:=hf 8 _ rfl;simp [c1,c3,c4] at g0 g1 g2 g3 g4 g5 g6 g7 g8;obtain ⟨s0,e0,q0,_⟩:=DataW.trod_string underlying9 g0;obtain ⟨n1,e1,q1,_⟩:=DataW.trod_int underlying3 g1;obtain ⟨n2,e2,q2,_⟩:=DataW.trod_int underlying3 g2;obtain ⟨n3,e3,q3,_⟩:=DataW.trod_int underlying3 g3;obtain ⟨n4,e4,q4,_⟩:=DataW.trod_int underlying3 g4;obtain ⟨n5,e5,q5,_⟩:=DataW.trod_int underlying3 g5;obtain ⟨s6,e6,q6,_⟩:=DataW.trod_string underlying9 g6;obtain ⟨n7,e7,q7,_⟩:=DataW.trod_int underlying3 g7;obtain ⟨b8,e8,q8⟩:=DataW.trod_bool underlying4 g8;rw [q0] at d0; rw [q1] at d1; rw [q2] at d2; rw [q3] at d3; rw [q4] at d4; rw [q5] at d5; rw [q6] at d6; rw [q7] at d7; rw [q8] at d8;simp only [DataW.lit.injEq,Lit.string.injEq,Lit.int.injEq,Lit.bool.injEq,true_and] at d0 d1 d2 d3 d4 d5 d6 d7 d8;simp only [List.cons.injEq,and_true] at e0 e1 e2 e3 e4 e5 e6 e7 e8;rw [e0,e1,e2,e3,e4,e5,e6,e7,e8,z0Y d0,d1,d2,d3,d4,d5,z0Y d6,d7,d8];rfl
end
theorem x8m:(theLaid.all fun x=>x.2.handleName?.isNone)=true:=by kernel_rfl
theorem y6o:prog.cellsOf 253=9:=by kernel_rfl
theorem glob_of {W:World} (h:laidMetH prog theLaid W):Glob W:=by
 rw [MakeChecks.laidMetH_plain _ _ _ x8m] at h;obtain ⟨ps,⟨g',t',cs,ax,p,q,aW,aY,aK,hd,_,_⟩,_⟩:=h;obtain rfl:=Option.some.inj (z1A.symm.trans aW);obtain rfl:=Option.some.inj (y3T.symm.trans aY);obtain ⟨xs,m,_,hx,aH,aS,aV⟩:=DataW.trod_array underlying273 hd
 have aZ:xs.map (·.1)=(List.range 16).map fun k=>rowD (Cn.rowT k):=by
  have h1:=congrArg Prod.fst hx;have h2:(Rows.laid_endonym_table_rows:DataW Unit)=.agg (xs.map (·.1)):=h1;rw [y4p] at h2;simpa using h2.symm
 intro k hk
 have aL:∃ pk,xs[k]?=some (rowD (Cn.rowT k),pk):=by
  have h1:(xs.map (·.1))[k]?=some (rowD (Cn.rowT k)):=by
   rw [aZ];simp [hk]
  rw [List.getElem?_map,Option.map_eq_some_iff] at h1;obtain ⟨⟨a,b⟩,h2,h3⟩:=h1;exact ⟨b,by rw [h2]; simp at h3; rw [h3]⟩
 obtain ⟨pk,aL⟩:=aL;have h3:=aV k hk;rw [aL,y6o] at h3;have h4:=y5g h3
 have ac:∀ j v,(rowL (Cn.rowT k))[j]?=some v->W.cell? ⟨1,k * 9+j,none⟩=some v:=fun j v hv=>by
  have hc:=World.var?_cell z1A aK (k * 9+j);rw [<- h4] at hv
  have hj:j<9:=by
   rcases Nat.lt_or_ge j 9 with hh | hh
   ·exact hh
   ·rw [List.getElem?_eq_none (by rw [List.length_take]; omega)] at hv; cases hv
  rw [List.getElem?_take_of_lt hj,List.getElem?_drop] at hv;rw [hc];simpa using hv
 exact ⟨ac 0 _ rfl,ac 1 _ rfl,ac 2 _ rfl,ac 3 _ rfl,ac 4 _ rfl,ac 5 _ rfl,ac 6 _ rfl,ac 7 _ rfl,ac 8 _ rfl⟩
theorem own:ownKnob prog.godebug=none:=by kernel_rfl
theorem laidOut:laidOutB prog=true:=by kernel_rfl
theorem start_met (os:Os) (args:Array Value):laidMetH prog theLaid ((World.laidAll prog os theLaid).forCall (fun _ _=>0) ⟨#[],args,[]⟩).memory:=by
 rw [MakeChecks.laidMetH_plain _ _ _ x8m];exact laidMet_laidAll _ (by kernel_rfl) (by kernel_rfl)
theorem x9P (os:Os) (args:Array Value):((World.laidAll prog os theLaid).forCall (fun _ _=>0) ⟨#[],args,[]⟩).Shaped prog:=World.shaped_of_ZipB (by kernel_rfl) (by kernel_rfl)
theorem start_at {H:Type} {enc:TypeId × Value->H} {os:Os} {f:FuncId} {fn:Func} {s:OpenSpec} {conds:List PathCond} (args:Array Value)
  (ah:Input.okWideB Tryz.checked.prog ((World.laidAll prog os theLaid).forCall (fun _ _=>0) ⟨#[],args,[]⟩) f ⟨#[],args,[]⟩=true)
  (aJ:s.preRow enc Tryz.checked.prog fn conds false theLaid ((World.laidAll prog os theLaid).forCall (fun _ _=>0) ⟨#[],args,[]⟩).memory args) :
  ∃ (w:World) (ak:Tape) (i:Input),w.os=os/\(w.forCall ak i).Shaped Tryz.checked.prog/\i.vars=[]/\Input.okWide Tryz.checked.prog (w.forCall ak i) .any w.heap.size f i /\
   s.preRow enc Tryz.checked.prog fn conds false theLaid (w.forCall ak i).memory i.args/\({}:Assume).holds Tryz.checked.prog (lone (Frame.enter Tryz.checked.prog f i.args .normal) [] (w.forCall ak i)) :=
 ⟨World.laidAll prog os theLaid,fun _ _=>0,⟨#[],args,[]⟩,World.laidAll_os _ _ _,x9P os args,(Input.okWide_of_okWideB (base:=0) ah).1,(Input.okWide_of_okWideB ah).2,aJ,by
  simp only [Assume.holds]
  exact ⟨by simp,by simp,fun _=>Modest.zero,by simp,by simp⟩⟩
