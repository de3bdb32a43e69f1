/- Lc18 Nf18 Ng18 -/
import Derived.Test.YtkglkajjofidoaaGreatDoorV4
import Derived.Deep.DeepCutAuto
import Derived.Deep.CutBlock
import Derived.Test.YtkglkajjofidoaaGreatDoorV7
set_option maxHeartbeats 4000000
set_option maxRecDepth 8000
namespace Go.Proofs.YtkglkajjofidoaaGreatDoor
open Go.Proofs.Tryz
open Go.RowKit
structure RLbC (tv xv:Value) (X:List Int) (o:Lb.Of) (w0:World):Prop where
 i:∀ W,Below w0.heap.size w0 W->Calls prog 25 #[tv,xv] W (x0d W o.nf)
 m:∀ c,Rune c->∀ W,Below w0.heap.size w0 W->Calls prog 26 #[tv,.int .i32 c] W (x0d W (o.mrk c))
 s:∀ c,Rune c->∀ W,Below w0.heap.size w0 W->Calls prog 27 #[tv,.int .i32 c] W (IntB W (o.st c))
 j:∃ n:Int,decide (0<=n)=o.jn/\∀ W,Below w0.heap.size w0 W->Calls prog 29 #[tv,xv] W (IntB W n)
 r:∃ n:Int,(n != 0)=o.bi/\∀ W,Below w0.heap.size w0 W->Calls prog 30 #[tv,xv] W (IntB W n)
theorem y2h (ta:Option Addr) (tl tc:Nat) {w:World} {xv:Value} {X:List Int} {o:Lb.Of} (hR:RLbC (.slice ta tl tc) xv X o w) (hx:Sk .i32 w xv X) (h0:0<X.length) (aQ:X.length<=1000) (fl:Int) (rtl dec:Bool):Calls prog 10 #[.slice ta tl tc,xv,.int .i64 fl,.bool rtl,.bool dec] w (IntB w ((Lb.chk o fl rtl dec X:Nat):Int)):=by
 have HX:=O hx;obtain ⟨b,off,cap,rfl,hc1,hc2,hc⟩:=hx.place (by omega)
 have HC:Hid (∀ (k:Nat),k<X.length->∀ W,Bw w W->W.cell? ⟨b,off+k,none⟩=some (.int .i32 (X.getD k 0))):=fun k hk W hW=>by
  rw [hW.cell (x0a (hc k hk))]; exact hc k hk
 have HR:=O hR;have K1:=O (hR.i w (b0r));have hzl:((X.length:Int)==0)=false:=(by rw [beq_eq_false_iff_ne]; omega);obtain ⟨nf,aY⟩:∃ nf,o.nf=nf:=⟨_,rfl⟩;rw [aY] at K1;have h65:¬ ((65536:Int)<X.length):=(by omega);generalize hch:Lb.chk o fl rtl dec X=ch;clear hR hx hc;go_enter func10,ntmps10;go_upto_if 26 with (refine (V K1).mono ?_; rintro e w1 ⟨rfl,b1⟩);have bH:=b1;clear K1 b1;obtain ⟨e1,aD⟩:∃ e1:Nat,(if nf=true then 0 else 4)=e1:=⟨_,rfl⟩;have au:e1<2 ^ 11:=(by rw [<- aD]; exact Lb.x2q (by decide) (by decide));have aL:=O aD;have ba:=O bH;clear bH;go_cut [11] (fun ev wx=>ev=.int .i64 (e1:Int)/\Bw w wx)
 case first =>
  have o1:bits BinOp.or IntKind.i64 0 4=4:=(by decide);clear aY;cases nf
  ·have hw:e1=4:=aD.symm;subst hw;clear aL aD HR HC HX au;go_wp2
   go_meet
   case rel=>exact ⟨rfl,V ba⟩
  ·have hw:e1=0:=aD.symm;subst hw;clear aL aD HR HC HX au;go_wp2
   go_meet
   case rel=>exact ⟨rfl,V ba⟩
 case rest =>
  obtain ⟨rfl,ah⟩:=hcut;have ai:=O ah;clear aD ba;obtain ⟨e2,ag⟩:∃ e2:Nat,(if Lb.flg fl 1=true then (if Lb.hyp X=true then 8 else 0) else (if Lb.coded X=true then 16 else 0))=e2:=⟨_,rfl⟩;have bM:e2<2 ^ 11:=(by rw [<- ag]; exact Lb.x2q (Lb.x2q (by decide) (by decide)) (Lb.x2q (by decide) (by decide)));have bd:=O ag;obtain ⟨f1,aV⟩:∃ f1,Lb.flg fl 1=f1:=⟨_,rfl⟩;have bJ:(bits BinOp.and IntKind.i64 fl 1 != 0)=f1:=aV;go_upto_if 33 with fail;go_cut [11] (fun ev wx=>ev=.int .i64 ((e1 ||| e2:Nat):Int)/\Bw w wx)
  case first =>
   clear HR aL bd;rw [aV] at ag;clear aV bJ;have x0:=V HC 0 h0 wc ah;rw [Nat.add_zero] at x0;obtain ⟨q,hq⟩:∃ q,X.length - 1=q:=⟨_,rfl⟩;have xl:=V HC q (by omega) wc ah;have hwq:IntKind.i64.wrap ((X.length:Int) - 1)=(q:Int):=(by rw [IntKind.wrap_i64]; omega);have hql:(q:Int)<X.length:=(by omega);have O8:bits BinOp.or IntKind.i64 (e1:Int) 8=((e1 ||| 8:Nat):Int):=Bd.or17 au (show 8<2048 by decide);have O16:bits BinOp.or IntKind.i64 (e1:Int) 16=((e1 ||| 16:Nat):Int):=Bd.or17 au (show 16<2048 by decide);cases f1
   ·rw [if_neg (by decide)] at ag;have KC:=O (x6l ((V HX).below ah));clear ah HC HX x0 xl;generalize Lb.coded X=cd at *;cases cd
    ·obtain rfl:e2=0:=ag.symm;go_wp2_with (refine (V KC).mono ?_; rintro e wz ⟨rfl,rfl⟩)
     go_meet
     case rel=>exact ⟨by rw [Nat.or_zero],V ai⟩
    ·obtain rfl:e2=16:=ag.symm;go_wp2_with (refine (V KC).mono ?_; rintro e wz ⟨rfl,rfl⟩)
     go_meet
     case rel=>exact ⟨rfl,V ai⟩
   ·rw [if_pos rfl] at ag;have hy:Lb.hyp X=(decide (X.getD 0 0=45) || (decide (X.getD q 0=45) || (decide (4<=X.length) && (decide (X.getD 2 0=45) && decide (X.getD 3 0=45))))):=(by unfold Lb.hyp; rw [hq]);rw [hy] at ag;by_cases h4:4<=X.length
    ·have x2:=V HC 2 (by omega) wc ah;have x3:=V HC 3 (by omega) wc ah;have bX:(4:Int)<=X.length:=(by omega);rw [d0t h4,Bool.true_and] at ag;clear ah HC HX hy hq;generalize X.getD 0 0=c0 at *;generalize X.getD q 0=cq at *;generalize X.getD 2 0=c2 at *;generalize X.getD 3 0=c3 at *;have d0:(c0==45)=decide (c0=45):=rfl;have dq:(cq==45)=decide (cq=45):=rfl;have d2:(c2==45)=decide (c2=45):=rfl;have d3:(c3==45)=decide (c3=45):=rfl;generalize decide (c0=45)=b0 at *;generalize decide (cq=45)=bq at *;generalize decide (c2=45)=b2 at *;generalize decide (c3=45)=b3 at *;cases b0
     ·cases bq
      ·cases b2
       ·obtain rfl:e2=0:=(by simpa using ag.symm);go_wp2
        go_meet
        case rel=>exact ⟨by rw [Nat.or_zero],V ai⟩
       ·cases b3
        ·obtain rfl:e2=0:=(by simpa using ag.symm);go_wp2
         go_meet
         case rel=>exact ⟨by rw [Nat.or_zero],V ai⟩
        ·obtain rfl:e2=8:=(by simpa using ag.symm);go_wp2
         go_meet
         case rel=>exact ⟨rfl,V ai⟩
      ·obtain rfl:e2=8:=(by simpa using ag.symm);go_wp2
       go_meet
       case rel=>exact ⟨rfl,V ai⟩
     ·obtain rfl:e2=8:=(by simpa using ag.symm);go_wp2
      go_meet
      case rel=>exact ⟨rfl,V ai⟩
    ·have bX:¬ ((4:Int)<=X.length):=(by omega);rw [d0f h4,Bool.false_and,Bool.or_false] at ag;clear ah HC HX hy hq;generalize X.getD 0 0=c0 at *;generalize X.getD q 0=cq at *;have d0:(c0==45)=decide (c0=45):=rfl;have dq:(cq==45)=decide (cq=45):=rfl;generalize decide (c0=45)=b0 at *;generalize decide (cq=45)=bq at *;cases b0
     ·cases bq
      ·obtain rfl:e2=0:=(by simpa using ag.symm);go_wp2
       go_meet
       case rel=>exact ⟨by rw [Nat.or_zero],V ai⟩
      ·obtain rfl:e2=8:=(by simpa using ag.symm);go_wp2
       go_meet
       case rel=>exact ⟨rfl,V ai⟩
     ·obtain rfl:e2=8:=(by simpa using ag.symm);go_wp2
      go_meet
      case rel=>exact ⟨rfl,V ai⟩
  case rest =>
   clear ah ai aV bJ ag f1;obtain ⟨rfl,ah⟩:=hcut;have x0:=V HC 0 h0 wc ah;rw [Nat.add_zero] at x0;have KM:=O ((V HR).m _ (x0x (V HX) h0) wc ah);have ai:=O ah;obtain ⟨e3,aH⟩:∃ e3:Nat,(if o.mrk (X.getD 0 0)=true then 64 else 0)=e3:=⟨_,rfl⟩;have bN:e3<2 ^ 11:=(by rw [<- aH]; exact Lb.x2q (by decide) (by decide));have bV:=O aH;have aF:e1 ||| e2<2 ^ 11:=Nat.or_lt_two_pow au bM
   have aR:Hid (Lb.hd o fl X=e1 ||| e2 ||| e3):=by
    show _=_;unfold Lb.hd;rw [aY,V aL,V bd,aH]
   generalize hmk:o.mrk (X.getD 0 0)=mk at *;clear hmk;generalize e1 ||| e2=aN at *;clear ah aL bd bV aY;generalize X.getD 0 0=c0 at *;go_upto_if 72 with (refine (V KM).mono ?_; rintro e wz ⟨rfl,bz⟩);have bc:=O (x0b (V ai) bz);clear KM bz ai x0;go_cut [11] (fun ev wx=>ev=.int .i64 ((aN ||| e3:Nat):Int)/\Bw w wx)
   case first =>
    have O64:bits BinOp.or IntKind.i64 (aN:Int) 64=((aN ||| 64:Nat):Int):=Bd.or17 aF (show 64<2048 by decide);clear HR HC HX aR;cases mk
    ·obtain rfl:e3=0:=aH.symm;go_wp2
     go_meet
     case rel=>exact ⟨by rw [Nat.or_zero],V bc⟩
    ·obtain rfl:e3=64:=aH.symm;go_wp2
     go_meet
     case rel=>exact ⟨rfl,V bc⟩
   case rest =>
    obtain ⟨rfl,ah⟩:=hcut;have bO:aN ||| e3<2 ^ 11:=Nat.or_lt_two_pow aF bN;clear aH bc;generalize aN ||| e3=h at *;have ai:=O ah;clear ah aF au bM bN;go_wp2;go_loopw [11,13,14] (fun ev iv _ wr=>∃ k:Nat,iv=.int .i64 k/\k<=X.length/\ev=.int .i64 ((h ||| Lb.num o fl dec (X.take k):Nat):Int)/\Bw w wr) (fun _ iv _ _=>X.length - (intOf iv).toNat)
    case atStart=>exact ⟨0,rfl,by omega,by rw [List.take_zero]; show _=Value.int .i64 ((h ||| 0:Nat):Int); rw [Nat.or_zero],V ai⟩
    case round =>
     obtain ⟨k,rfl,hk,rfl,am⟩:=hrel;clear ai;by_cases hlt:k<X.length
     ·have hL:(k:Int)<X.length:=(by omega);have x4:=V HC k hlt wr am;have KS:=O ((V HR).s _ (x0x (V HX) hlt) wr am);have KL:=O (fun W=>y0R (X.getD k 0) W);have HN:=O (Lb.y7f (o:=o) (fl:=fl) (dec:=dec) hlt);have bP:h ||| Lb.num o fl dec (X.take k)<2 ^ 11:=Nat.or_lt_two_pow bO (Lb.y8t _);have ac:Hid (∀ W n,h ||| Lb.num o fl dec (X.take k) ||| Lb.nb o fl dec (X.getD k 0)=n->Bw w W->∃ q:Nat,Value.int .i64 ((k:Int)+1)=.int .i64 (q:Int)/\q<=X.length/\Value.int .i64 (n:Int)=.int .i64 ((h ||| Lb.num o fl dec (X.take q):Nat):Int)/\Bw w W):=fun W n h1 h2=>⟨k+1,by go_num,by omega,by rw [V HN,<- Nat.or_assoc,h1],h2⟩;have ap:=O am;have bf:Hid (Lb.nb o fl dec (X.getD k 0)=((if X.getD k 0=46 then 32 else 0) ||| (if Lb.bst o fl dec (X.getD k 0)=true then 128 else 0) ||| (if Lb.std fl (X.getD k 0)=true then 256 else 0))):=rfl;have a8:Hid (Lb.bst o fl dec (X.getD k 0)=(decide (o.st (X.getD k 0)≠1) && (decide (o.st (X.getD k 0)≠4) || (Lb.flg fl 16 && !dec)))):=rfl;have bl:Hid (Lb.std fl (X.getD k 0)=(Lb.flg fl 8 && (decide (X.getD k 0<128) && !Lb.ldh (X.getD k 0)))):=rfl;clear am HC HR HX aR HN;generalize h ||| Lb.num o fl dec (X.take k)=a at *;generalize Lb.nb o fl dec (X.getD k 0)=nbv at *;generalize Lb.bst o fl dec (X.getD k 0)=bs at *;generalize Lb.std fl (X.getD k 0)=sd at *;generalize o.st (X.getD k 0)=s at *;generalize Lb.ldh (X.getD k 0)=lz at *;obtain ⟨aO,aE⟩:∃ f,Lb.flg fl 16=f:=⟨_,rfl⟩;obtain ⟨f8,bw⟩:∃ f,Lb.flg fl 8=f:=⟨_,rfl⟩;have g16:(bits BinOp.and IntKind.i64 fl 16 != 0)=aO:=aE;have g8:(bits BinOp.and IntKind.i64 fl 8 != 0)=f8:=bw;rw [aE] at a8;rw [bw] at bl;clear aE bw;generalize X.getD k 0=c at *;obtain ⟨n1,aI⟩:∃ n1:Nat,(if c=46 then 32 else 0)=n1:=⟨_,rfl⟩;obtain ⟨n2,aX⟩:∃ n2:Nat,(if bs=true then 128 else 0)=n2:=⟨_,rfl⟩;obtain ⟨n3,bA⟩:∃ n3:Nat,(if sd=true then 256 else 0)=n3:=⟨_,rfl⟩;rw [aI,aX,bA] at bf;have b9:n1<2 ^ 11:=(by rw [<- aI]; exact Lb.x2q (by decide) (by decide));have hp2:n2<2 ^ 11:=(by rw [<- aX]; exact Lb.x2q (by decide) (by decide));go_upto_if 84 with fail;go_cut [11] from 75 to 129 (fun ev wx=>ev=.int .i64 ((a ||| n1:Nat):Int)/\wx=wr)
      case first =>
       have O32:bits BinOp.or IntKind.i64 (a:Int) 32=((a ||| 32:Nat):Int):=Bd.or17 bP (show 32<2048 by decide);by_cases hc46:c=46
       ·subst hc46;obtain rfl:n1=32:=aI.symm;go_wp2
        go_meet
        case rel=>exact ⟨rfl,rfl⟩
       ·have h46:(c==46)=false:=(by rw [beq_eq_false_iff_ne]; exact hc46);rw [if_neg hc46] at aI;subst aI;go_wp2
        go_meet
        case rel=>exact ⟨by rw [Nat.or_zero],rfl⟩
      case rest =>
       obtain ⟨rfl,rfl⟩:=hcut;have au:a ||| n1<2 ^ 11:=Nat.or_lt_two_pow bP b9;have aj:Hid (∀ W,Bw w W->∃ q:Nat,Value.int .i64 ((k:Int)+1)=.int .i64 (q:Int)/\q<=X.length/\Value.int .i64 ((a ||| n1 ||| n2 ||| n3:Nat):Int)=.int .i64 ((h ||| Lb.num o fl dec (X.take q):Nat):Int)/\Bw w W):=fun W h2=>V ac W _ (by rw [V bf,<- Nat.or_assoc,<- Nat.or_assoc]) h2;have O128:bits BinOp.or IntKind.i64 ((a ||| n1:Nat):Int) 128=((a ||| n1 ||| 128:Nat):Int):=Bd.or17 au (show 128<2048 by decide);have O256:bits BinOp.or IntKind.i64 ((a ||| n1:Nat):Int) 256=((a ||| n1 ||| 256:Nat):Int):=Bd.or17 au (show 256<2048 by decide);have O384:bits BinOp.or IntKind.i64 ((a ||| n1 ||| 128:Nat):Int) 256=((a ||| n1 ||| 128 ||| 256:Nat):Int):=Bd.or17 (Nat.or_lt_two_pow au (show 128<2 ^ 11 by decide)) (show 256<2048 by decide);clear ac bf aI;generalize a ||| n1=a1 at *;go_wp2_with fail;refine (V KS).mono ?_;rintro e wz ⟨rfl,bz⟩;have x5:wz.cell? ⟨b,off+k,none⟩=some (.int .i32 c):=(by rw [bz.cell (x0a x4)]; exact x4);replace ap:=O (x0b (V ap) bz);clear KS bz x4;have s1:(s != 1)=decide (s≠1):=(by by_cases h1:s=1 <;> simp [h1]);have s4:(s != 4)=decide (s≠4):=(by by_cases h1:s=4 <;> simp [h1]);generalize decide (s≠1)=p1 at *;generalize decide (s≠4)=p4 at *;have aU:=V a8;have aJ:=V bl;clear a8 bl;have bS:p1=false\/(p1=true/\p4=true)\/(p1=true/\p4=false/\aO=false)\/(p1=true/\p4=false/\aO=true/\dec=true)\/(p1=true/\p4=false/\aO=true/\dec=false):=(by cases p1 <;> cases p4 <;> cases aO <;> cases dec <;> simp);by_cases hc8:c<128
       ·rw [d0t hc8] at aJ;have aG:f8=false\/(f8=true/\lz=true)\/(f8=true/\lz=false):=(by cases f8 <;> cases lz <;> simp);rcases bS with rfl | ⟨rfl,rfl⟩ | ⟨rfl,rfl,rfl⟩ | ⟨rfl,rfl,rfl,rfl⟩ | ⟨rfl,rfl,rfl,rfl⟩ <;> rcases aG with rfl | ⟨rfl,rfl⟩ | ⟨rfl,rfl⟩
        all_goals
         simp at aU aJ;subst aU;subst aJ;subst aX;subst bA;go_wp2_with (refine (V KL _).mono ?_; rintro e wy ⟨rfl,rfl⟩)
         go_roundw
         case rel=>simpa using (V aj) _ (V ap)
         case measure=>simp [intOf]; omega
       ·rw [d0f hc8] at aJ;have aG:f8=false\/f8=true:=(by cases f8 <;> simp);rcases bS with rfl | ⟨rfl,rfl⟩ | ⟨rfl,rfl,rfl⟩ | ⟨rfl,rfl,rfl,rfl⟩ | ⟨rfl,rfl,rfl,rfl⟩ <;> rcases aG with rfl | rfl
        all_goals
         simp at aU aJ;subst aU;subst aJ;subst aX;subst bA;go_wp2_with (refine (V KL _).mono ?_; rintro e wy ⟨rfl,rfl⟩)
         go_roundw
         case rel=>simpa using (V aj) _ (V ap)
         case measure=>simp [intOf]; omega
     ·obtain rfl:k=X.length:=(by omega);rw [List.take_length];have hL:¬ ((X.length:Int)<X.length):=(by omega);obtain ⟨nj,bQ,kj⟩:=(V HR).j;obtain ⟨nr,bR,kr⟩:=(V HR).r;have KJ:=O (kj wr am);have KR:Hid (∀ W,Bw wr W->Calls prog 30 #[.slice ta tl tc,.slice (some ⟨b,off,none⟩) X.length cap] W (IntB W nr)):=fun W hW=>kr W (x0b am hW);have bF:=O (V KR wr (b0r));have ap:=O am;have bx:h ||| Lb.num o fl dec X<2 ^ 11:=Nat.or_lt_two_pow bO (Lb.y8t _);have an:ch=(h ||| Lb.num o fl dec X ||| (if (Lb.flg fl 4 && o.jn)=true then 512 else 0) ||| (if (Lb.flg fl 2 && (rtl && o.bi))=true then 1024 else 0)):=(by rw [<- hch]; unfold Lb.chk; rw [V aR]);obtain ⟨f4,bu⟩:∃ f,Lb.flg fl 4=f:=⟨_,rfl⟩;obtain ⟨f2,bt⟩:∃ f,Lb.flg fl 2=f:=⟨_,rfl⟩;have g4:(bits BinOp.and IntKind.i64 fl 4 != 0)=f4:=bu;have g2:(bits BinOp.and IntKind.i64 fl 2 != 0)=f2:=bt;rw [bu,bt,<- bQ,<- bR] at an;have O512:bits BinOp.or IntKind.i64 ((h ||| Lb.num o fl dec X:Nat):Int) 512=((h ||| Lb.num o fl dec X ||| 512:Nat):Int):=Bd.or17 bx (show 512<2048 by decide);have O1024:bits BinOp.or IntKind.i64 ((h ||| Lb.num o fl dec X:Nat):Int) 1024=((h ||| Lb.num o fl dec X ||| 1024:Nat):Int):=Bd.or17 bx (show 1024<2048 by decide);have O1536:bits BinOp.or IntKind.i64 ((h ||| Lb.num o fl dec X ||| 512:Nat):Int) 1024=((h ||| Lb.num o fl dec X ||| 512 ||| 1024:Nat):Int):=Bd.or17 (Nat.or_lt_two_pow bx (show 512<2 ^ 11 by decide)) (show 1024<2048 by decide);clear hch bu bt bQ bR kj kr am HR HC HX aR;generalize h ||| Lb.num o fl dec X=H at *;generalize hjn:decide (0<=nj)=jn at *;generalize hbi:(nr != 0)=bi at *;have br:(f2=false)\/(f2=true/\rtl=false)\/(f2=true/\rtl=true/\bi=false)\/(f2=true/\rtl=true/\bi=true):=(by cases f2 <;> cases rtl <;> cases bi <;> simp);cases f4
      ·rcases br with rfl | ⟨rfl,rfl⟩ | ⟨rfl,rfl,rfl⟩ | ⟨rfl,rfl,rfl⟩
       all_goals
        simp at an;subst an;go_wp2_with (refine (V bF).mono ?_; rintro e wz ⟨rfl,bz⟩);go_ret
        first
         | exact ⟨rfl,V ap⟩
         | exact ⟨rfl,x0b (V ap) bz⟩
      ·clear bF;cases jn
       ·have bY:¬ ((0:Int)<=nj):=of_decide_eq_false hjn;clear hjn;rcases br with rfl | ⟨rfl,rfl⟩ | ⟨rfl,rfl,rfl⟩ | ⟨rfl,rfl,rfl⟩
        all_goals
         simp at an;subst an;go_wp2_with fail;refine (V KJ).mono ?_;rintro e wj ⟨rfl,bj⟩;have bo:=O (V KR wj bj);have aK:=O (x0b (V ap) bj);clear KJ KR ap bj;go_wp2_with (refine (V bo).mono ?_; rintro e wz ⟨rfl,bz⟩);go_ret
         first
          | exact ⟨rfl,V aK⟩
          | exact ⟨rfl,x0b (V aK) bz⟩
       ·have bY:(0:Int)<=nj:=o0d hjn;clear hjn;rcases br with rfl | ⟨rfl,rfl⟩ | ⟨rfl,rfl,rfl⟩ | ⟨rfl,rfl,rfl⟩
        all_goals
         simp at an;subst an;go_wp2_with fail;refine (V KJ).mono ?_;rintro e wj ⟨rfl,bj⟩;have bo:=O (V KR wj bj);have aK:=O (x0b (V ap) bj);clear KJ KR ap bj;go_wp2_with (refine (V bo).mono ?_; rintro e wz ⟨rfl,bz⟩);go_ret
         first
          | exact ⟨rfl,V aK⟩
          | exact ⟨rfl,x0b (V aK) bz⟩
namespace Nm
variable {cl:Int->Int} {cp:Int->Int->Int × Bool}
theorem y6h {l:List Int} {j:Nat} (h:j<l.length) (k:Int):blk cl (l.take (j+1)) k=(blk cl (l.take j) k || decide (k<=cl (l.getD j 0))):=by
 unfold blk;rw [List.take_add_one,List.any_append];simp [List.getD,h]
theorem z0y {s:List Int × Int} {c:Int} (h:s.2<0\/blk cl (bhd s) (cl c)=true\/(cp (s.1.getD s.2.toNat 0) c).2=false):stp cl cp s c=(s.1++[c],if cl c=0 then (s.1.length:Int) else s.2):=by
 unfold stp fits;rcases h with h | h | h
 ·rw [d0f (by omega)]; rfl
 ·rw [h]; simp
 ·rw [h]; simp
theorem z0z {s:List Int × Int} {c:Int} (h0:¬ s.2<0) (h1:blk cl (bhd s) (cl c)=false) (h2:(cp (s.1.getD s.2.toNat 0) c).2=true):stp cl cp s c=(s.1.set s.2.toNat (cp (s.1.getD s.2.toNat 0) c).1,s.2):=by
 unfold stp fits;rw [h1,h2,d0t (by omega)];rfl
end Nm
structure RNmC (tv:Value) (cl:Int->Int) (cp:Int->Int->Int × Bool) (w0:World):Prop where
 cr:∀ c,0<=cl c/\cl c<=254
 pr:∀ a b,Rune a->Rune b->Rune (cp a b).1
 c:∀ c,Rune c->∀ W,Below w0.heap.size w0 W->Calls prog 91 #[tv,.int .i32 c] W (IntB W (cl c))
 k:∀ a b,Rune a->Rune b->∀ W,Below w0.heap.size w0 W->Calls prog 129 #[tv,.int .i32 a,.int .i32 b] W (fun e w'=>e=.returned (.tuple #[.int .i32 (cp a b).1,.bool (cp a b).2])/\w'=W)
theorem y0N {w:World} {B:Nat} {v:Value} {zs:List Int} (h:Ok .i32 21 w B v zs) {i:Nat} (hi:i<zs.length):∃ g cap,v=.slice (some ⟨g,0,none⟩) zs.length cap/\B<=g/\∀ j,j<zs.length->w.cell? ⟨g,j,none⟩=some (.int .i32 (zs.getD j 0)):=by
 obtain ⟨g,cap,hv,_,_⟩:=x8j h.row (by omega);subst hv;refine ⟨g,cap,rfl,(h.2.2.lt g (by simp [Value.ownBlock])).1,fun j hj=>?_⟩;obtain ⟨b3,o3,q3,e3,_,_,h3⟩:=h.sk.place (by omega);simp only [Value.slice.injEq,Option.some.injEq,Addr.mk.injEq] at e3;obtain ⟨⟨rfl,rfl,_⟩,_,_⟩:=e3;have h4:=h3 j hj;rwa [Nat.zero_add] at h4
theorem x8q (ta:Option Addr) (tl tc:Nat) {cl:Int->Int} {cp:Int->Int->Int × Bool} {w:World} (hN:RNmC (.slice ta tl tc) cl cp w) {xv:Value} {X:List Int} (hx:Sk .i32 w xv X) (aQ:X.length<=70000):Calls prog 88 #[.slice ta tl tc,xv] w (x0i w (Nm.cps cl cp X)):=by
 have HC:Hid (∀ (k:Nat),k<X.length->∃ b off cap,xv=.slice (some ⟨b,off,none⟩) X.length cap/\∀ W,Bw w W->W.cell? ⟨b,off+k,none⟩=some (.int .i32 (X.getD k 0))):=fun k hk=>by
  obtain ⟨b,off,cap,he,_,_,hc⟩:=hx.place (by omega);exact ⟨b,off,cap,he,fun W hW=>by rw [hW.cell (x0a (hc k hk))]; exact hc k hk⟩
 have HR:Hid (∀ k,k<X.length->Rune (X.getD k 0)):=fun k hk=>x0x hx hk;have HN:=O hN
 have be:Hid (∀ k,k<=X.length->Nm.In (Nm.run cl cp (X.take k))/\(Nm.run cl cp (X.take k)).1.length<=k):=fun k hk=>by
  have hi:=Nm.y8B (cl:=cl) (cp:=cp) (X.take k);have:=hi.2;rw [List.length_take] at this;exact ⟨hi.1,by omega⟩
 have bm:Hid (∀ k,k<X.length->Nm.run cl cp (X.take (k+1))=Nm.stp cl cp (Nm.run cl cp (X.take k)) (X.getD k 0)):=fun k hk=>Nm.y0U hk
 have az:Hid (Nm.cps cl cp X=(Nm.run cl cp (X.take X.length)).1):=by
  show _=_;rw [List.take_length]; rfl
 obtain ⟨ao,cap,rfl,_,_⟩:=hx.shape;clear hN hx;generalize Nm.cps cl cp X=out at *;go_enter func88,ntmps88;go_wp2;go_loopw [5,6,7,8,9,10,11,12,13] (fun yy lv iv _ _ _ _ _ _ wr=>∃ k:Nat,iv=.int .i64 k/\k<=X.length/\Ok .i32 21 wr w.heap.size yy (Nm.run cl cp (X.take k)).1/\lv=.int .i64 (Nm.run cl cp (X.take k)).2/\Bw w wr) (fun _ _ iv _ _ _ _ _ _ _=>X.length - (intOf iv).toNat)
 case atStart=>exact ⟨0,rfl,by omega,Ok.nil _ _ _ _,rfl,b0r⟩
 case round =>
  obtain ⟨k,rfl,hk,ar,rfl,am⟩:=hrel;by_cases hlt:k<X.length
  ·have hL:(k:Int)<X.length:=(by omega);obtain ⟨b,off,cp',he,bI⟩:=V HC k hlt;simp only [Value.slice.injEq] at he;obtain ⟨rfl,-,rfl⟩:=he;have x4:=bI wr am;have bB:=V HR k hlt;obtain ⟨bL,hol⟩:=V be k (by omega);have bh:=O (V bm k hlt);have ac:Hid (∀ W yy,Ok .i32 21 W w.heap.size yy (Nm.run cl cp (X.take (k+1))).1->Bw w W->∃ n:Nat,Value.int .i64 ((k:Int)+1)=.int .i64 (n:Int)/\n<=X.length/\Ok .i32 21 W w.heap.size yy (Nm.run cl cp (X.take n)).1/\Value.int .i64 (Nm.run cl cp (X.take (k+1))).2=.int .i64 (Nm.run cl cp (X.take n)).2/\Bw w W):=fun W yy h1 h2=>⟨k+1,by go_num,by omega,h1,rfl,h2⟩;have K:=O ((V HN).c _ bB wr am);have b4:=(V HN).cr (X.getD k 0);clear HC HR be bm az bI;generalize Nm.run cl cp (X.take (k+1))=s2 at *;generalize Nm.run cl cp (X.take k)=s at *;generalize X.getD k 0=c at *;obtain ⟨m,hm⟩:∃ m:Nat,(m:Int)=s.2+1:=⟨(s.2+1).toNat,by have:=bL.1; omega⟩;have b7:m<=s.1.length:=(by have:=bL.2; omega);have bG:Nm.bhd s=s.1.drop m:=(by unfold Nm.bhd; rw [show (s.2+1).toNat=m by omega]);have ca:s.2=(m:Int) - 1:=(by omega);have hw1:IntKind.i64.wrap ((m:Int) - 1+1)=(m:Int):=(by rw [IntKind.wrap_i64]; omega);obtain ⟨yo,yc,bD,hy1,hy2⟩:=ar.sk.shape;subst bD;have bE:=O ar;have ap:=O am;rw [ca];obtain ⟨kk,aW⟩:∃ kk,cl c=kk:=⟨_,rfl⟩;rw [aW] at K b4;clear ar am;go_wp2_with fail;refine (V K).mono ?_;rintro e w1 ⟨rfl,b1⟩;have aS:=O ((V bE).below b1);have a5:=O (x0b (V ap) b1);clear K bE ap b1 x4
   have a9:Hid (∀ j,m+j<s.1.length->Nm.blk cl ((s.1.drop m).take (j+1)) kk=(Nm.blk cl ((s.1.drop m).take j) kk || decide (kk<=cl (s.1.getD (m+j) 0)))):=fun j hj=>by
    rw [Nm.y6h (by rw [List.length_drop]; omega)];congr 3;simp [List.getD]
   have a7:Hid (∀ j,m+j=s.1.length->Nm.blk cl ((s.1.drop m).take j) kk=Nm.blk cl (Nm.bhd s) kk):=fun j hj=>by
    rw [bG,List.take_of_length_le (by rw [List.length_drop]; omega)]
   have ay:=O bB
   have ab:Hid ((s.2<0\/Nm.blk cl (Nm.bhd s) kk=true\/(cp (s.1.getD s.2.toNat 0) c).2=false)->s2=(s.1++[c],if kk=0 then (s.1.length:Int) else s.2)):=fun h=>by
    rw [V bh,Nm.z0y (by rw [aW]; exact h),aW]
   have af:Hid (¬ s.2<0->Nm.blk cl (Nm.bhd s) kk=false->(cp (s.1.getD s.2.toNat 0) c).2=true->s2=(s.1.set s.2.toNat (cp (s.1.getD s.2.toNat 0) c).1,s.2)):=fun h1 h2 h3=>by
    rw [V bh,Nm.z0z h1 (by rw [aW]; exact h2) h3]
   have ax:Hid (s2=(s.1++[c],if kk=0 then (s.1.length:Int) else s.2)->∀ (W:World) (o:Obj) (v':Value) (w':World),Ok .i32 21 W w.heap.size (.slice yo s.1.length yc) s.1->Bw w W->Ok .i32 21 w' w.heap.size v' (s.1++[c])->(W.alloc o).grownBy w' (Value.slice yo s.1.length yc).ownBlock->∃ n:Nat,Value.int .i64 ((k:Int)+1)=.int .i64 (n:Int)/\n<=X.length/\Ok .i32 21 w' w.heap.size v' (Nm.run cl cp (X.take n)).1/\Value.int .i64 (if kk=0 then (s.1.length:Int) else s.2)=.int .i64 (Nm.run cl cp (X.take n)).2/\Bw w w'):=fun ak W o v' w' h1 h2 h3 h4=>by
    have aZ:=h2.size;have h5:Bw w w':=(h2.alloc aZ o).grown h4 (by rw [x0m]; omega) (fun k hk=>(h1.2.2.lt k hk).1);have:=V ac w' v' (by rw [ak]; exact h3) h5;rw [ak] at this;exact this
   have aA:Hid (∀ q,s2=(s.1.set s.2.toNat q,s.2)->∀ (W:World) (v':Value),Ok .i32 21 W w.heap.size v' (s.1.set s.2.toNat q)->Bw w W->∃ n:Nat,Value.int .i64 ((k:Int)+1)=.int .i64 (n:Int)/\n<=X.length/\Ok .i32 21 W w.heap.size v' (Nm.run cl cp (X.take n)).1/\Value.int .i64 s.2=.int .i64 (Nm.run cl cp (X.take n)).2/\Bw w W):=fun q ak W v' h1 h2=>by
    have:=V ac W v' (by rw [ak]; exact h1) h2;rw [ak] at this;exact this
   clear bG hm bh bB;go_wp2;go_loopw [10,11] (fun bv jv wr=>∃ j:Nat,jv=.int .i64 ((m+j:Nat):Int)/\m+j<=s.1.length/\bv=.bool (Nm.blk cl ((s.1.drop m).take j) kk)/\Bw w1 wr) (fun _ jv _=>s.1.length - (intOf jv).toNat)
   case atStart=>exact ⟨0,rfl,b7,rfl,b0r⟩
   case round =>
    obtain ⟨j,rfl,hj,rfl,aC⟩:=hrel;by_cases hjl:m+j<s.1.length
    ·have hJ:((m+j:Nat):Int)<s.1.length:=(by omega);obtain ⟨g,bp,hv,bK,ae⟩:=y0N (V aS) hjl;simp only [Value.slice.injEq] at hv;obtain ⟨rfl,-,rfl⟩:=hv
     have x5:wr.cell? ⟨g,m+j,none⟩=some (.int .i32 (s.1.getD (m+j) 0)):=by
      rw [aC.cell (x0a (ae _ hjl))]; exact ae _ hjl
     have K:=O ((V HN).c _ (x0x (V aS).sk hjl) wr (x0b (V a5) aC));have aT:=O (V a9 j hjl);have a6:=O aC;have aj:Hid (∀ W bb,bb=Nm.blk cl ((s.1.drop m).take (j+1)) kk->Bw w1 W->∃ n:Nat,Value.int .i64 (((m+j:Nat):Int)+1)=.int .i64 ((m+n:Nat):Int)/\m+n<=s.1.length/\Value.bool bb=.bool (Nm.blk cl ((s.1.drop m).take n) kk)/\Bw w1 W):=fun W bb h1 h2=>⟨j+1,by congr 1,by omega,by rw [h1],h2⟩;clear ae aC a9 a7 ac ab af ax aA;generalize Nm.blk cl ((s.1.drop m).take (j+1)) kk=b2 at *;generalize Nm.blk cl ((s.1.drop m).take j) kk=b1 at *;generalize cl (s.1.getD (m+j) 0)=z at *;generalize s.1.getD (m+j) 0=c2 at *
     cases b1 with
     | true =>
      have bn:Hid (true=b2):=by
       have:=V aT;show _=_;simpa using this.symm
      clear K aT;go_wp2
      go_roundw
      case rel=>exact V aj _ _ (V bn) (V a6)
      case measure=>simp [intOf]; omega
     | false =>
      have bn:Hid (decide (kk<=z)=b2):=by
       have:=V aT;show _=_;simpa using this.symm
      clear aT;go_wp2_with fail;refine (V K).mono ?_;rintro e w3 ⟨rfl,b3⟩;have bU:=O (x0b (V a6) b3);clear K a6 b3 x5;go_wp2
      go_roundw
      case rel=>exact V aj _ _ (V bn) (V bU)
      case measure=>simp [intOf]; omega
    ·have bZ:m+j=s.1.length:=(by omega);rw [V a7 j bZ];have aa:=O ((V aS).below aC);have al:=O (x0b (V a5) aC);have aZ:=(V al).size;have hJ:¬ (((m+j:Nat):Int)<s.1.length):=(by omega);have KK:=O (fun a ha=>(V HN).k a c ha (V ay) wr (V al));have av:=O (fun a ha=>(V HN).pr a c ha (V ay));clear a9 a7 aS a5 aC HN;generalize Nm.blk cl (Nm.bhd s) kk=bk at *;by_cases h0:m=0
     ·have b6:¬ ((0:Int)<=(m:Int) - 1):=(by omega);have aP:s.2=-1:=(by omega);clear KK av;have ak:=V ab (.inl (by omega));have ad:=O (fun W o v' w' h1 h2 h3 h4=>V ax ak W o v' w' h1 h2 h3 h4);clear ab af ax aA ak ac;by_cases hz:kk=0
      ·subst hz;rw [if_pos rfl] at ad;go_wp2_with (at_builtin; refine x1f rfl (.tmp 67) (.tmp 69) rfl w.heap.size _ _ s.1 [c] rfl rfl (x0s (V aa) _) (x0W _ (by simp) c (V ay)) (by first | omega | (simp; omega)) (by rw [x0m]; omega) ?_);intro v' w' h4 h5;have HF:=O (V ad _ _ v' w' (V aa) (V al) h4 h5);obtain ⟨aM,aq,hv5,_,_⟩:=h4.sk.shape;subst hv5;clear ad h4 h5 aa al;go_wp2
       go_roundw
       case rel=>exact V HF
       case measure=>simp [intOf]; omega
      ·have bT:(kk==0)=false:=(by rw [beq_eq_false_iff_ne]; exact hz);rw [if_neg hz,aP] at ad;go_wp2_with (at_builtin; refine x1f rfl (.tmp 67) (.tmp 69) rfl w.heap.size _ _ s.1 [c] rfl rfl (x0s (V aa) _) (x0W _ (by simp) c (V ay)) (by first | omega | (simp; omega)) (by rw [x0m]; omega) ?_);intro v' w' h4 h5;have HF:=O (V ad _ _ v' w' (V aa) (V al) h4 h5);obtain ⟨aM,aq,hv5,_,_⟩:=h4.sk.shape;subst hv5;clear ad h4 h5 aa al;go_wp2
       go_roundw
       case rel=>exact V HF
       case measure=>simp [intOf]; omega
     ·have b6:(0:Int)<=(m:Int) - 1:=(by omega);obtain ⟨m,rfl⟩:∃ q,m=q+1:=⟨m - 1,by omega⟩;have b8:((m+1:Nat):Int) - 1=(m:Int):=(by omega);rw [b8] at *;have bC:s.2.toNat=m:=(by omega);have aP:s.2=(m:Int):=(by omega);rw [bC] at ab af aA
      cases bk with
      | true =>
       clear KK av;have ak:=V ab (.inr (.inl (by simp)));have ad:=O (fun W o v' w' h1 h2 h3 h4=>V ax ak W o v' w' h1 h2 h3 h4);clear ab af ax aA ak ac;by_cases hz:kk=0
       ·subst hz;rw [if_pos rfl] at ad;go_wp2_with (at_builtin; refine x1f rfl (.tmp 67) (.tmp 69) rfl w.heap.size _ _ s.1 [c] rfl rfl (x0s (V aa) _) (x0W _ (by simp) c (V ay)) (by first | omega | (simp; omega)) (by rw [x0m]; omega) ?_);intro v' w' h4 h5;have HF:=O (V ad _ _ v' w' (V aa) (V al) h4 h5);obtain ⟨aM,aq,hv5,_,_⟩:=h4.sk.shape;subst hv5;clear ad h4 h5 aa al;go_wp2
        go_roundw
        case rel=>exact V HF
        case measure=>simp [intOf]; omega
       ·have bT:(kk==0)=false:=(by rw [beq_eq_false_iff_ne]; exact hz);rw [if_neg hz,aP] at ad;go_wp2_with (at_builtin; refine x1f rfl (.tmp 67) (.tmp 69) rfl w.heap.size _ _ s.1 [c] rfl rfl (x0s (V aa) _) (x0W _ (by simp) c (V ay)) (by first | omega | (simp; omega)) (by rw [x0m]; omega) ?_);intro v' w' h4 h5;have HF:=O (V ad _ _ v' w' (V aa) (V al) h4 h5);obtain ⟨aM,aq,hv5,_,_⟩:=h4.sk.shape;subst hv5;clear ad h4 h5 aa al;go_wp2
        go_roundw
        case rel=>exact V HF
        case measure=>simp [intOf]; omega
      | false =>
       have aw:m<s.1.length:=(by omega);obtain ⟨g,bp,hv,bK,ae⟩:=y0N (V aa) aw;simp only [Value.slice.injEq] at hv;obtain ⟨rfl,-,rfl⟩:=hv;have x5:=ae m aw;have K:=O (V KK _ (x0x (V aa).sk aw))
       have aB:Hid (∀ q,Rune q->wr.frozen? ⟨g,m,none⟩=false/\Ok .i32 21 (wr.setCell ⟨g,m,none⟩ (.int .i32 q)) w.heap.size (.slice (some ⟨g,0,none⟩) s.1.length yc) (s.1.set m q)/\Bw w (wr.setCell ⟨g,m,none⟩ (.int .i32 q))):=fun q hq=>by
        obtain ⟨o1,f1⟩:=(V aa).setAt18 m q (fun z hz=>by rw [List.mem_singleton] at hz; rw [hz]; exact x1X hq);exact ⟨f1,o1,x0c (V al) bK _⟩
       have bg:=O (V av _ (x0x (V aa).sk aw));clear ae KK av;generalize s.1.getD m 0=a at *
       cases ar:(cp a c).2 with
       | false =>
        rw [ar] at K ab af;clear aB bg;generalize (cp a c).1=q at *;go_wp2_with fail;refine (V K).mono ?_;rintro e w5 ⟨rfl,rfl⟩;clear K x5 ar;have ak:=V ab (.inr (.inr (by simp)));have ad:=O (fun W o v' w' h1 h2 h3 h4=>V ax ak W o v' w' h1 h2 h3 h4);clear ab af ax aA ak ac;by_cases hz:kk=0
        ·subst hz;rw [if_pos rfl] at ad;go_wp2_with (at_builtin; refine x1f rfl (.tmp 67) (.tmp 69) rfl w.heap.size _ _ s.1 [c] rfl rfl (x0s (V aa) _) (x0W _ (by simp) c (V ay)) (by first | omega | (simp; omega)) (by rw [x0m]; omega) ?_);intro v' w' h4 h5;have HF:=O (V ad _ _ v' w' (V aa) (V al) h4 h5);obtain ⟨aM,aq,hv5,_,_⟩:=h4.sk.shape;subst hv5;clear ad h4 h5 aa al;go_wp2
         go_roundw
         case rel=>exact V HF
         case measure=>simp [intOf]; omega
        ·have bT:(kk==0)=false:=(by rw [beq_eq_false_iff_ne]; exact hz);rw [if_neg hz,aP] at ad;go_wp2_with (at_builtin; refine x1f rfl (.tmp 67) (.tmp 69) rfl w.heap.size _ _ s.1 [c] rfl rfl (x0s (V aa) _) (x0W _ (by simp) c (V ay)) (by first | omega | (simp; omega)) (by rw [x0m]; omega) ?_);intro v' w' h4 h5;have HF:=O (V ad _ _ v' w' (V aa) (V al) h4 h5);obtain ⟨aM,aq,hv5,_,_⟩:=h4.sk.shape;subst hv5;clear ad h4 h5 aa al;go_wp2
         go_roundw
         case rel=>exact V HF
         case measure=>simp [intOf]; omega
       | true =>
        rw [ar] at K af;have ak:=V af (by omega) (by simp) (by simp);obtain ⟨f1,o1,b5⟩:=V aB _ (V bg);have HF:=O (V aA _ ak _ _ o1 b5);rw [aP] at HF;clear aB bg ab af ax aA ak ac o1 b5 aa al ar;generalize (cp a c).1=q at *;go_wp2_with fail;refine (V K).mono ?_;rintro e w5 ⟨rfl,rfl⟩;clear K;go_wp2
        go_roundw
        case rel=>exact V HF
        case measure=>simp [intOf]; omega
  ·obtain rfl:k=X.length:=(by omega);have HF:Hid (x0i w out (.returned u5) wr):=⟨u5,rfl,by rw [V az]; exact ar,am⟩;obtain ⟨yo,yc,bD,_,_⟩:=ar.sk.shape;subst bD;clear ar am az HC HR be bm HN;go_wp2;go_ret;exact V HF
def y8Q (tv:Value) (nf:List Int->List Int) (w0:World):Prop:=(∀ X,(nf X).length<=32 * X.length)/\∀ xv X W,Below w0.heap.size w0 W->Sk .i32 W xv X->X.length<=2000->Calls prog 89 #[tv,xv] W (x0i W (nf X))
theorem RNmC.on {tv:Value} {cl:Int->Int} {cp:Int->Int->Int × Bool} {w W:World} (h:RNmC tv cl cp w) (hb:Bw w W):RNmC tv cl cp W:=⟨h.cr,h.pr,fun c hc W' hW=>h.c c hc W' (x0b hb hW),fun a b ha hb' W' hW=>h.k a b ha hb' W' (x0b hb hW)⟩
theorem y7v (ta:Option Addr) (tl tc:Nat) {cl:Int->Int} {cp:Int->Int->Int × Bool} {nf:List Int->List Int} {w:World} (hN:RNmC (.slice ta tl tc) cl cp w) (hF:y8Q (.slice ta tl tc) nf w) {xv:Value} {X:List Int} (hx:Sk .i32 w xv X) (aQ:X.length<=2000):Calls prog 52 #[.slice ta tl tc,xv] w (x0i w (Nm.cps cl cp (nf X))):=by
 have K:=O (hF.2 xv X w (b0r) hx aQ);have hnl:=hF.1 X;have KC:Hid (∀ W yv,Bw w W->Sk .i32 W yv (nf X)->Calls prog 88 #[.slice ta tl tc,yv] W (x0i W (Nm.cps cl cp (nf X)))):=fun W yv hW hy=>x8q ta tl tc (hN.on hW) hy (by omega);obtain ⟨ao,cap,rfl,_,_⟩:=hx.shape;clear hN hF hx;generalize Nm.cps cl cp (nf X)=out at *;generalize nf X=Y at *;go_enter func52,ntmps52;go_wp2_with fail;refine (V K).mono ?_;rintro e w1 ⟨v1,rfl,o1,b1⟩;have K2:=O (V KC w1 v1 b1 o1.sk);obtain ⟨bW,cap1,hv1,_,_⟩:=o1.sk.shape;subst hv1;have HB:=O b1;have aZ:=b1.size;clear K KC o1 b1;go_wp2_with fail;refine (V K2).mono ?_;rintro e w2 ⟨v2,rfl,o2,b2⟩;have HF:Hid (Ok .i32 21 w2 w.heap.size v2 out/\Bw w w2):=⟨o2.lower aZ,x0b (V HB) b2⟩;clear K2 o2 b2 HB;go_wp2;go_ret;exact ⟨_,rfl,V HF⟩
theorem z0k (ta:Option Addr) (tl tc:Nat) {cl:Int->Int} {cp:Int->Int->Int × Bool} {nf:List Int->List Int} {w:World} (hN:RNmC (.slice ta tl tc) cl cp w) (hF:y8Q (.slice ta tl tc) nf w) {xv:Value} {X:List Int} (hx:Sk .i32 w xv X) (aQ:X.length<=2000):Calls prog 25 #[.slice ta tl tc,xv] w (x0d w (decide (X=Nm.cps cl cp (nf X)))):=by
 have K:=O (y7v ta tl tc hN hF hx aQ)
 have KE:Hid (∀ W yv,Bw w W->Sk .i32 W yv (Nm.cps cl cp (nf X))->Calls prog 51 #[yv,xv] W (x0d W (decide (X=Nm.cps cl cp (nf X))))):=fun W yv hW hy=>by
  have h:=y7C yv xv (Nm.cps cl cp (nf X)) X W hy (hx.below hW)
  have e:decide (Nm.cps cl cp (nf X)=X)=decide (X=Nm.cps cl cp (nf X)):=by
   congr 1;exact propext ⟨Eq.symm,Eq.symm⟩
  rw [e] at h;exact h.mono fun _ _ h=>⟨h.1,x0k h.2⟩
 obtain ⟨ao,cap,rfl,_,_⟩:=hx.shape;clear hN hF hx;generalize Nm.cps cl cp (nf X)=out at *;generalize decide (X=out)=bb at *;go_enter func25,ntmps25;go_wp2_with fail;refine (V K).mono ?_;rintro e w1 ⟨v1,rfl,o1,b1⟩;have K2:=O (V KE w1 v1 b1 o1.sk);obtain ⟨bW,cap1,hv1,_,_⟩:=o1.sk.shape;subst hv1;have HB:=O b1;clear K KE o1 b1;go_wp2_with fail;refine (V K2).mono ?_;rintro e w2 ⟨rfl,b2⟩;have HF:=O (x0b (V HB) b2);clear K2 HB b2;go_wp2;go_ret;exact ⟨rfl,V HF⟩
