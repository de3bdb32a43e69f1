/- Lemmas. -/
import Derived.Test.YtkfcabdmkmljjaaGreatDoorG10
import Derived.Deep.RegionWith
import Derived.Test.YtkfcabdmkmljjaaGreatDoorRows
import Derived.Deep.Matrix
import Derived.OpenShut
set_option maxHeartbeats 4000000
set_option maxRecDepth 20000
namespace Go.Proofs.YtkfcabdmkmljjaaGreatDoor
open Go.Proofs.Tryz
open Go.RowKit
section
variable{p:Prop}
theorem T8n(h:p:=by simp[Rows.uptoBulk]):p:=h
theorem n1c(h:p:=by
 obtain rfl:=V j true (d0t f6J);have A:Hid (y=false->res=(rs.length,70)):=fun h=>V l rfl h;go_wp2_with fail;refine c0m KP fun T ab=>?_
 cases y with
 | false =>exact m9w
 | true =>
  have f:=O (V p (.inr rfl));have Y:=O ((V I).on ab);go_wp2;go_round
  case rel=>exact⟨c+1,g2B,f6J,f6J,V f,V Y⟩
  case measure=>simp[intOf]<;>omega):p:=h
theorem m5W(h:p:=by
 obtain rfl:=V j false (d0f f6J);have f:=O (V p (.inl rfl));have Y:=O (V I);go_wp2;go_round
 case rel=>exact⟨c+1,g2B,f6J,f6J,V f,V Y⟩
 case measure=>exact g7T):p:=h
theorem m9w(h:p:=by obtain rfl:=V A rfl;have U:=O ((V I).on ab).2;go_wp2;go_ret2;exact⟨rfl,V U⟩):p:=h
end
namespace Cn
def x5V(rs:List Rec)(k:Nat):Nat×Int:=match x0S rs k (rs.drop k)with
 | some x=>x
 | Option.none=>if baseA rs 78 45 then(0,0)else(rs.length,70)
theorem z4L{rs k}(G:k<rs.length)(h:record rs k (rs.getD k none)≠0):x5V rs k=(k,record rs k (rs.getD k none)):=by
 have e:rs.getD k none=rs[k]:=(by grind);rw[e]at h ⊢;unfold x5V;rw[List.drop_eq_getElem_cons G,x0S,if_neg h]
theorem z1D{rs k}(G:k<rs.length)(h:record rs k (rs.getD k none)=0):x5V rs k=x5V rs (k+1):=by
 have e:rs.getD k none=rs[k]:=(by grind);rw[e]at h;unfold x5V;rw[List.drop_eq_getElem_cons G,x0S,if_pos h]
def x7U(rs:List Rec)(c:Nat):Nat×Int:=if baseA rs (123-c) c then(0,0)else(rs.length,70)
theorem z4K rs:x5V rs rs.length=x7U rs 45:=by
 unfold x5V;rw[List.drop_length,x0S];rfl
theorem z2u{rs c}(h:123<=c):x7U rs c=(0,0):=by
 unfold x7U;rw[(f6J:123-c=0),baseA,if_pos rfl]
theorem z6g{rs}{c:Nat}(h:c<=122)(Z:baseOf c=true)(D:plain rs c=false):x7U rs c=(rs.length,70):=by
 unfold x7U;rw[(f6J:123-c=(122-c)+1),baseA,Z,D];rfl
theorem y7U{rs}{c:Nat}(h:c<=122)(Z:baseOf c=false\/plain rs c=true):x7U rs c=x7U rs (c+1):=by
 unfold x7U;rw[(f6J:123-c=(123-(c+1))+1),baseA];have:(!baseOf (c:Int)||plain rs (c:Int))=true:=(by rcases Z with e | e<;>simp[e]);rw[this,Bool.true_and,Int.natCast_add];rfl
theorem y8o{rs}(h:(check6 rs).2≠0):check rs=check6 rs:=by unfold check;rw[if_pos h]
theorem x3W{rs}(h:(check6 rs).2=0):check rs=x5V rs 0:=by unfold check x5V;rw[if_neg (fun e=>e h)];rfl
end Cn
def y2k:Prop:=∀(v:Value) (rs:List Rec) (w:World),Rcs w v rs->Calls prog 46 #[v] w (x3O w (Cn.check6 rs))
def y7D:Prop:=∀(v:Value) (rs:List Rec) (i:Nat) (w:World),Rcs w v rs->(Cn.check6 rs).2=0->i<rs.length->Calls prog 47 #[v,.int .i64 i] w (IntB w (Cn.record rs i (rs.getD i Cn.none)))
def ChIn(w:World)(v:Value)(rs:List Rec)(wr:World):Prop:=Rcs wr v rs/\Below w.heap.size w wr
theorem ChIn.on{w wr w' v rs}(h:ChIn w v rs wr)(Y:Bw wr w'):ChIn w v rs w':=⟨h.1.below Y,bthen h.2 Y⟩
theorem y1K(m:y2k)(HR:y7D):y7C:=by
 intro v rs w N;have o:=O (m v rs w N);have g:Hid ((Cn.check6 rs).2≠0->Cn.check rs=Cn.check6 rs):=Cn.y8o;have X:Hid ((Cn.check6 rs).2=0->Cn.check rs=Cn.x5V rs 0/\∀(i:Nat) (wr:World),Rcs wr v rs->i<rs.length->Calls prog 47 #[v,.int .i64 i] wr (IntB wr (Cn.record rs i (rs.getD i Cn.none)))):=fun h=>⟨Cn.x3W h,fun i wr u hi=>HR v rs i wr u h hi⟩;have HW:Hid (ChIn w v rs w):=⟨N,b0r⟩;generalize Cn.check rs=res,Cn.check6 rs=q at *;obtain⟨q1,s⟩:=q;have B:=N.1;obtain⟨ao,M,rfl,_,_⟩:=N.shape;go_enter func21,ntmps21;go_wp2_with fail;refine c0m o fun Q F=>?_;by_cases d:s=0
 ·obtain⟨S,n⟩:=V X d;obtain rfl:s=0:=d;have D:=O n;have K:=O S;have J:=O ((V HW).on F);go_wp2;go_loopw[6,7] (fun Z _ wr=>∃k:Nat,Z=.int .i64 k/\k<=rs.length/\res=Cn.x5V rs k/\ChIn w (.slice ao rs.length M) rs wr) (fun Z _ _=>rs.length-(intOf Z).toNat)
  case atStart=>exact⟨0,rfl,f6J,V K,V J⟩
  case round =>
   obtain⟨k,rfl,hk,S,G⟩:=hrel;by_cases E:k<rs.length
   ·have KC:=O (V D k wr G.1 E);have L:Hid (Cn.record rs k (rs.getD k Cn.none)≠0->res=(k,Cn.record rs k (rs.getD k Cn.none))):=fun h=>S.trans (Cn.z4L E h);have p:Hid (Cn.record rs k (rs.getD k Cn.none)=0->res=Cn.x5V rs (k+1)):=fun h=>S.trans (Cn.z1D E h);have I:=O G;generalize Cn.record rs k (rs.getD k Cn.none)=y at *;go_wp2_with fail;refine c0m KC fun T ab=>?_;by_cases hy:y=0
    ·have f:=O (V p hy);obtain rfl:y=0:=hy;have Y:=O ((V I).on ab);go_wp2;go_round
     case rel=>exact⟨k+1,g2B,f6J,V f,V Y⟩
     case measure=>exact g7T
    ·obtain rfl:=V L hy;have ae:(y==0)=false:=b0f hy;have Y:=O ((V I).on ab).2;go_wp2;go_ret2;exact⟨rfl,V Y⟩
   ·obtain rfl:k=rs.length:=f6J;have K:=O (S.trans (Cn.z4K rs));have I:=O G;go_wp2;go_loopw[8] (fun Z wi=>∃c:Nat,Z=.int .i32 c/\45<=c/\c<=123/\res=Cn.x7U rs c/\ChIn w (.slice ao rs.length M) rs wi) (fun Z _=>123-(intOf Z).toNat)
    case atStart=>exact⟨45,rfl,f6J,f6J,V K,V I⟩
    case round =>
     obtain⟨c,rfl,r,af,S,G⟩:=hrel;by_cases x:c<=122
     ·have KP:=O (y1M _ rs c wr G.1 ⟨f6J,f6J⟩);have l:Hid (Cn.baseOf c=true->Cn.plain rs c=false->res=(rs.length,70)):=fun a b=>S.trans (Cn.z6g x a b);have p:Hid (Cn.baseOf c=false\/Cn.plain rs c=true->res=Cn.x7U rs (c+1)):=fun a=>S.trans (Cn.y7U x a);have I:=O G;have j:Hid (∀b,decide ((c:Int)=45\/(c:Int)=46\/(48<=(c:Int)/\(c:Int)<=57)\/97<=(c:Int))=b->Cn.baseOf c=b):=fun b h=>h;generalize Cn.plain rs c=y,Cn.baseOf c=z at *;by_cases t:c=45
      ·subst t;obtain rfl:=V j true (d0t f6J);have A:Hid (y=false->res=(rs.length,70)):=fun h=>V l rfl h;go_wp2_with fail;refine c0m KP fun T ab=>?_
       cases y with
       | false =>exact m9w
       | true =>
        have f:=O (V p (.inr rfl));have Y:=O ((V I).on ab);go_wp2;go_round
        case rel=>exact⟨46,g2B,f6J,f6J,V f,V Y⟩
        case measure=>simp[intOf]<;>omega
      ·by_cases e2:c=46
       ·subst e2;obtain rfl:=V j true (d0t f6J);have A:Hid (y=false->res=(rs.length,70)):=fun h=>V l rfl h;go_wp2_with fail;refine c0m KP fun T ab=>?_
        cases y with
        | false =>exact m9w
        | true =>
         have f:=O (V p (.inr rfl));have Y:=O ((V I).on ab);go_wp2;go_round
         case rel=>exact⟨47,g2B,f6J,f6J,V f,V Y⟩
         case measure=>simp[intOf]<;>omega
       ·have ag:((c:Int)==45)=false:=b0f f6J;have C:((c:Int)==46)=false:=b0f f6J;by_cases e3:48<=c
        ·by_cases R:c<=57
         ·exact n1c
         ·by_cases e5:97<=c
          ·exact n1c
          ·exact m5W
        ·exact m5W
     ·obtain rfl:=S.trans (Cn.z2u f6J);have U:=O G.2;go_wp2;go_ret2;exact⟨rfl,V U⟩
 ·obtain rfl:=V g d;have ae:(s==0)=false:=b0f d;have U:=O F;go_wp2;go_ret2;exact⟨rfl,V U⟩
namespace Cn
def x5W(rs:List Rec)(i:Nat):Nat×Int:=match x1z rs i (rs.drop i)with
 | some i=>(i,62)
 | Option.none=>(0,0)
def x7E(rs:List Rec)(k:Nat):Nat×Int:=match x0Y k (rs.drop k)with
 | some x=>x
 | Option.none=>x5W rs 0
theorem q_hit{rs k}(G:k<rs.length)(h:right (rs.getD k none)≠0):x7E rs k=(k,right (rs.getD k none)):=by
 have e:rs.getD k none=rs[k]:=(by grind);rw[e]at h ⊢;unfold x7E;rw[List.drop_eq_getElem_cons G,x0Y,if_neg h]
theorem q0P{rs k}(G:k<rs.length)(h:right (rs.getD k none)=0):x7E rs k=x7E rs (k+1):=by
 have e:rs.getD k none=rs[k]:=(by grind);rw[e]at h;unfold x7E;rw[List.drop_eq_getElem_cons G,x0Y,if_pos h]
theorem q_end rs:x7E rs rs.length=x5W rs 0:=by
 unfold x7E;rw[List.drop_length,x0Y]
theorem t_hit{rs i k}(hi:i<rs.length)(G:k<i)(h:clash (rs.getD k none) (rs.getD i none)=true):x5W rs i=(i,62):=by
 have e:rs.getD i none=rs[i]:=(by grind);have E:rs.getD k none=rs[k]:=(by grind);rw[e,E]at h;unfold x5W;rw[List.drop_eq_getElem_cons hi,x1z,if_pos];rw[List.any_eq_true];exact⟨rs[k],List.mem_take_iff_getElem.2 ⟨k,f6J,rfl⟩,h⟩
theorem q1m{rs i}(hi:i<rs.length)(h:∀k,k<i->clash (rs.getD k none) (rs.getD i none)=false):x5W rs i=x5W rs (i+1):=by
 have e:rs.getD i none=rs[i]:=(by grind);unfold x5W;rw[List.drop_eq_getElem_cons hi,x1z,if_neg];rw[List.any_eq_true];rintro⟨x,A,I⟩;obtain⟨k,G,rfl⟩:=List.mem_take_iff_getElem.1 A;have:=h k f6J;rw[e,show rs.getD k none=rs[k]by simp[List.getD,(f6J:k<rs.length)]]at this;rw[this]at I;cases I
theorem t_end rs:x5W rs rs.length=(0,0):=by
 unfold x5W;rw[List.drop_length,x1z]
theorem y2v{rs}(h:4096<rs.length):check6 rs=(0,3):=by unfold check6;rw[if_pos h]
theorem y5A{rs}(h:¬4096<rs.length):check6 rs=x7E rs 0:=by
 unfold check6 x7E x5W;rw[if_neg h];rfl
end Cn
def z5c:Prop:=∀(r:Rec) (vt:Value) (w:World),RecFit r->Sk .i32 w vt r.to->Calls prog 78 #[recV r vt] w (IntB w (Cn.right r))
def z5b:Prop:=∀(a b:Rec) (va vb:Value) (w:World),RecFit a->RecFit b->Sk .i32 w va a.to->Sk .i32 w vb b.to->Cn.right a=0->Cn.right b=0->Calls prog 79 #[recV a va,recV b vb] w (x0g w (Cn.clash a b))
theorem y0f(HR:z5c)(C:z5b):y2k:=by
 intro v rs w N;have HW:Hid (ChIn w v rs w):=⟨N,b0r⟩;have aw:=N.1;by_cases Q:4096<rs.length
 ·rw[Cn.y2v Q];obtain⟨J,M,rfl,_,_⟩:=N.shape;go_enter func46,ntmps46;go_wp2;go_ret2;exact⟨rfl,b0r⟩
 ·have K:=O (Cn.y5A Q);generalize Cn.check6 rs=A at *;obtain⟨J,M,rfl,_,_⟩:=N.shape;have HR:=O HR;have C:=O C;go_enter func46,ntmps46;go_wp2;go_loopw[4,5] (fun Z _ wr=>∃k:Nat,Z=.int .i64 k/\k<=rs.length/\A=Cn.x7E rs k/\(∀j,j<k->Cn.right (rs.getD j Cn.none)=0)/\ChIn w (.slice J rs.length M) rs wr) (fun Z _ _=>rs.length-(intOf Z).toNat)
  case atStart=>exact⟨0,rfl,f6J,V K,fun j X=>absurd X (Nat.not_lt_zero _),V HW⟩
  case round =>
   obtain⟨k,rfl,hk,S,z,G⟩:=hrel;by_cases ae:k<rs.length
   ·have L:Hid (Cn.right (rs.getD k Cn.none)≠0->A=(k,Cn.right (rs.getD k Cn.none))):=fun h=>S.trans (Cn.q_hit ae h)
    have p:Hid (Cn.right (rs.getD k Cn.none)=0->A=Cn.x7E rs (k+1)/\∀j,j<k+1->Cn.right (rs.getD j Cn.none)=0):=fun h=>⟨S.trans (Cn.q0P ae h),fun j X=>by
     rcases Nat.lt_or_ge j k with D | D
     ·exact z j D
     ·obtain rfl:j=k:=by omega
      exact h⟩
    have I:=O G;have o:=G.1.fit ae;obtain⟨b,R,t,he,ar,g,hc⟩:=G.1.place f6J;obtain⟨rfl,rfl⟩:J=some ⟨b,R,none⟩/\M=t:=M2U;have q:=hc k ae;obtain⟨d,u,x2,m,⟨va,x4,ab⟩,s,x6,x7⟩:=q;have KC:=O (V HR _ va wr o ab);unfold recV at KC;obtain⟨tq,tc,rfl,_,_⟩:=ab.shape;generalize Cn.right (rs.getD k Cn.none)=y at *;generalize rs.getD k Cn.none=r at *;generalize r.kind=kd,r.n=n,r.lo=lo,r.hi=hi at *;generalize r.name=nm,r.other=ot,r.wt=wt,r.to.length=tl at *;go_wp2_with fail;refine c0m KC fun w2 ai=>?_;by_cases hy:y=0
    ·have f:=O (V p hy);obtain rfl:y=0:=hy;have Y:=O ((V I).on ai);go_wp2;go_round
     case rel=>exact⟨k+1,g2B,f6J,(V f).1,(V f).2,V Y⟩
     case measure=>exact g7T
    ·obtain rfl:=V L hy;have az:(y==0)=false:=b0f hy;have Y:=O ((V I).on ai).2;go_wp2;go_ret2;exact⟨rfl,V Y⟩
   ·obtain rfl:k=rs.length:=f6J;have K:=O (S.trans (Cn.q_end rs));have I:=O G;have E:=O z;go_wp2;go_loopw[6,7] (fun Z _ wi=>∃i:Nat,Z=.int .i64 i/\i<=rs.length/\A=Cn.x5W rs i/\ChIn w (.slice J rs.length M) rs wi) (fun Z _ _=>rs.length-(intOf Z).toNat)
    case atStart=>exact⟨0,rfl,f6J,V K,V I⟩
    case round =>
     obtain⟨i,rfl,hi,S,G⟩:=hrel;by_cases x:i<rs.length
     ·have L:Hid (∀k,k<i->Cn.clash (rs.getD k Cn.none) (rs.getD i Cn.none)=true->A=(i,62)):=fun k a h=>S.trans (Cn.t_hit x a h);have p:Hid ((∀k,k<i->Cn.clash (rs.getD k Cn.none) (rs.getD i Cn.none)=false)->A=Cn.x5W rs (i+1)):=fun h=>S.trans (Cn.q1m x h);have I:=O G;go_wp2;go_loopw[7] (fun kv wj=>∃k:Nat,kv=.int .i64 k/\k<=i/\(∀j,j<k->Cn.clash (rs.getD j Cn.none) (rs.getD i Cn.none)=false)/\ChIn w (.slice J rs.length M) rs wj) (fun kv _=>i-(intOf kv).toNat)
      case atStart=>exact⟨0,rfl,f6J,fun j X=>absurd X (Nat.not_lt_zero _),V I⟩
      case round =>
       obtain⟨k,rfl,ay,af,G⟩:=hrel;clear I;by_cases B:k<i
       ·have HH:=O (V L k B)
        have f:Hid (Cn.clash (rs.getD k Cn.none) (rs.getD i Cn.none)=false->∀j,j<k+1->Cn.clash (rs.getD j Cn.none) (rs.getD i Cn.none)=false):=fun h j X=>by
         rcases Nat.lt_or_ge j k with D | D
         ·exact af j D
         ·obtain rfl:j=k:=f6J;exact h
        have I:=O G;have T:=G.1.fit (i:=k) f6J;have aj:=G.1.fit x;have aq:=V E k f6J;have am:=V E i x;obtain⟨b,R,t,he,ar,g,hc⟩:=G.1.place f6J;obtain⟨rfl,rfl⟩:J=some ⟨b,R,none⟩/\M=t:=M2U;have q:=hc k f6J;have l:=hc i x;clear hc he af G L p E;obtain⟨d,u,x2,m,⟨va,x4,ab⟩,s,x6,x7⟩:=q;obtain⟨y0,y1,y2,y3,⟨vb,y4,ag⟩,y5,y6,y7⟩:=l;have KC:Hid (∀n,Calls prog 79 #[recV (rs.getD k Cn.none) va,recV (rs.getD i Cn.none) vb] (wr.drewN n) (x0g (wr.drewN n) (Cn.clash (rs.getD k Cn.none) (rs.getD i Cn.none)))):=fun n=>V C _ _ va vb _ T aj (x5g ab n) (x5g ag n) aq am;unfold recV at KC;obtain⟨tq,tc,rfl,_,_⟩:=ab.shape;obtain⟨uo,uc,rfl,_,_⟩:=ag.shape;clear C T aj aq am ab ag;generalize Cn.clash (rs.getD k Cn.none) (rs.getD i Cn.none)=y at HH KC f;generalize(rs.getD k Cn.none).kind=kind1,(rs.getD k Cn.none).lo=lo1,(rs.getD k Cn.none).hi=hi1,(rs.getD k Cn.none).n=n1 at *;generalize(rs.getD k Cn.none).name=name1,(rs.getD k Cn.none).other=other1,(rs.getD k Cn.none).wt=wt1,(rs.getD k Cn.none).to.length=aA at *;generalize(rs.getD i Cn.none).kind=kind2,(rs.getD i Cn.none).lo=lo2,(rs.getD i Cn.none).hi=hi2,(rs.getD i Cn.none).n=n2 at *;generalize(rs.getD i Cn.none).name=name2,(rs.getD i Cn.none).other=other2,(rs.getD i Cn.none).wt=wt2,(rs.getD i Cn.none).to.length=aB at *;go_wp2;go_region_with (refine(V KC _).mono ?_;rintro e w1 ⟨rfl,F⟩)
        all_goals
         have Y:=O ((V I).on (bthen (x0i ⟨_,rfl⟩) F));clear F I KC d u x2 m x4 s x6 x7 y0 y1 y2 y3 y4 y5 y6 y7
         cases y with
         | true =>
          obtain rfl:=V HH rfl;clear HH f;go_wp2;go_ret2;exact⟨rfl,(V Y).2⟩
         | false =>
          have c:=O (V f rfl);clear HH f;go_wp2
          go_roundw
          case rel=>exact⟨k+1,g2B,f6J,V c,V Y⟩
          case measure=>exact g7T
       ·obtain rfl:k=i:=f6J;have f:=O (V p af);have I:=O G;clear af G p L;go_wp2;go_round
        case rel=>exact⟨k+1,g2B,f6J,V f,V I⟩
        case measure=>exact g7T
     ·obtain rfl:i=rs.length:=f6J;obtain rfl:=S.trans (Cn.t_end rs);have U:=O G.2;clear S G E C;go_wp2;go_ret2;exact t8u
theorem z2E{H:Type}(d:DataW H):1<=Rows.uptoBulk d:=by
 cases d with
 | lit l=>cases l<;>simp[Rows.uptoBulk]
 | nil=>exact T8n
 | ptr d=>exact T8n
 | slice a b=>exact T8n
 | agg a=>exact T8n
 | iface t d=>exact T8n
 | map e=>exact T8n
 | held h=>exact T8n
theorem z2D{H:Type}(l:List (DataW H)):l.length<=Rows.uptoBulkAll l:=by
 induction l with
 | nil=>simp[Rows.uptoBulkAll]
 | cons x r ih =>
  have:=z2E x;simp only[Rows.uptoBulkAll,List.length_cons];omega
theorem y5x{H:Type}(a b:List (DataW H)):a.length<=Rows.uptoBulk (.slice a b):=by
 have:=z2D a;simp only[Rows.uptoBulk];omega
theorem bulk_string{H:Type}(l:List UInt8):l.length<=Rows.uptoBulk (DataW.lit (H:=H) (.string l)):=T8n
theorem bulk_le{H:Type}{l:List (DataW H)}(G:Rows.uptoSmall H l=true):Rows.uptoBulkAll l<=1048576:=o0d G
open Go.RowKit Go.ChangeShapes Go.WideShapes Go.Deep
theorem x5t{H:Type}(k:IntKind)(zs:List Int):Rows.uptoBulkAll (lits (H:=H) k zs)=zs.length:=by
 induction zs with
 | nil=>rfl
 | cons z zs ih =>
  have e:lits (H:=H) k (z::zs)=.lit (.int k z)::lits k zs:=rfl;rw[e,Rows.uptoBulkAll,ih];simp[Rows.uptoBulk];omega
theorem x9l{H:Type}{d:DataW H}:∀{l:List (DataW H)},d∈l->Rows.uptoBulk d<=Rows.uptoBulkAll l
 | [],h=>m5j
 | x::l,h=>by
  rw[Rows.uptoBulkAll];rcases List.mem_cons.1 h with rfl | h
  ·omega
  ·have:=x9l h;omega
section
variable {H:Type} {enc:TypeId×Value->H} {P:Program} {W:World} {base:Nat} {held:Bool}
theorem y7m{k:FloatKind}{t:TypeId}{A:Nat->Bool}{M:Nat}{cs:List Value}{x:DataW H×List MemPlace}(U:P.underlying t=some (.float k))(h:DataW.trod enc P W base A held M t cs=some x):∃b,cs=[.float k b]/\(Lit.float k b).wf=true:=by
 cases M with
 | zero=>simp[DataW.trod]at h
 | succ n =>
  unfold DataW.trod at h;rw[U]at h;split at h<;>simp_all
theorem y4P{t q:TypeId}{k:IntKind}{M:Nat}{cs:List Value}{x:DataW H×List MemPlace}(U:P.underlying t=some (.slice q))(d:P.underlying q=some (.int k))(G:P.cellsOf q=1)
  (o:DataW.trod enc P W base (fun _=>true) held M t cs=some x) (Y:Rows.uptoBulk x.1<=1048576):∃v zs,cs=[v]/\Sk k W v zs/\zs.length<=1048576:=by
 rcases open_ints U d G o with⟨E,_⟩ | ⟨C,l,c,zs,E,_,S,z,T,A,K,B⟩
 ·exact⟨_,[],E,Sk.nil _ _,M7L⟩
 ·simp only[if_true]at T;have I:x.1=_:=congrArg Prod.fst A
  have D:l<=Rows.uptoBulk x.1:=by
   rw[I,Rows.uptoBulk,x5t,x5t,List.length_take,List.length_drop];omega
  refine⟨_,zs.take l,E,z1o (.inr ⟨_,rfl,S,z,T,K,B⟩) f6J,?_⟩;rw[List.length_take];omega
end
section
variable {H:Type} {enc:TypeId×Value->H} {W:World} {base:Nat} {held:Bool}
theorem wf_i64{n:Int}(h:(Lit.int .i64 n).wf=true):I64 n:=by
 have:IntKind.i64.min<=n/\n<=IntKind.i64.max:=(by simpa[Lit.wf]using h);simpa[I64,IntKind.min,IntKind.max,IntKind.signed,IntKind.bits]using this
theorem q1G{b:Nat}(h:(Lit.float .f64 b).wf=true):b<18446744073709551616:=by
 simpa[Lit.wf]using h
theorem q0Z{n:Nat}{cs:List Value}{x:DataW H×List MemPlace}(h:DataW.trod enc prog W base (fun _=>true) held n 60 cs=some x)(Y:Rows.uptoBulk x.1<=1048576):∃p:Rec×Value,cs=x0A p/\RecFit p.1/\Sk .i32 W p.2 p.1.to:=by
 obtain⟨xs,k,G,C,F,z,o⟩:=DataW.trod_struct underlying60 h;have y:prog.cellsOf 60=8:=f4y;have X:prog.cellsOf 3=1:=f4y;have K:prog.cellsOf 36=1:=f4y;have S:prog.cellsOf 9=1:=f4y;have c4:prog.cellsOf 58=1:=f4y;have b:prog.cellsOf 21=1:=f4y;rw[y]at F
 match xs,z,cs,F with
 | [y0,y1,y2,y3,y4,y5,y6,y7],_,[v0,v1,v2,v3,v4,v5,v6,v7],_ =>
  have J:=o 0 _ rfl;have i:=o 1 _ rfl;have A:=o 2 _ rfl;have Q:=o 3 _ rfl;have j:=o 4 _ rfl;have r:=o 5 _ rfl;have L:=o 6 _ rfl;have I:=o 7 _ rfl;simp[X,K,S,c4]at J i A Q j r L I;obtain⟨m,B,_,f⟩:=DataW.trod_int underlying3 J;obtain⟨U,t,_,w1⟩:=DataW.trod_int underlying3 i;obtain⟨n2,E,_,w2⟩:=DataW.trod_int underlying3 A;obtain⟨n3,N,_,w3⟩:=DataW.trod_int underlying3 Q
  have M:Rows.uptoBulk y4.1<=1048576:=by
   rw[C]at Y;have:=x9l (d:=y4.1) (l:=[y0,y1,y2,y3,y4,y5,y6,y7].map (·.1)) M7N;simp only[Rows.uptoBulk]at Y;omega
  obtain⟨v,g,R,u,l4⟩:=y4P underlying36 underlying21 b j M;obtain⟨T,c,_⟩:=DataW.trod_string underlying9 r;obtain⟨q,Z,_⟩:=DataW.trod_string underlying9 L;obtain⟨s,a,D⟩:=y7m underlying58 I;simp only[List.cons.injEq,and_true]at B t E N R c Z a;exact⟨(⟨m,U,n2,n3,g,T,q,s⟩,v),by rw[B,t,E,N,R,c,Z,a];rfl,⟨wf_i64 f,wf_i64 w1,wf_i64 w2,wf_i64 w3,by show g.length<=_;exact f6J,q1G D⟩,u⟩
theorem recs_open{a:Option Addr}{len cap:Nat}{d:DataW H}{p:List MemPlace}(h:DataW.Trod enc prog W base (fun _=>true) held 22 (.slice a len cap) d p)(Y:Rows.uptoBulk d<=1048576):∃rs,Rcs W (.slice a len cap) rs:=by
 obtain⟨M,t⟩:=h;have y:prog.cellsOf 60=8:=f4y;rcases open_slice underlying22 t with⟨E,_⟩ | ⟨x,l,c,m,n,D,N,E,_,hl,z,U,A,T⟩
 ·simp[Value.cells]at E;obtain⟨rfl,rfl,rfl⟩:=E;exact⟨[],M7N,fun r u=>(by cases u),.inl ⟨rfl,none,0,rfl,f6J⟩⟩
 ·simp[Value.cells]at E;obtain⟨rfl,rfl,rfl⟩:=E;simp only[if_true]at U;subst U;simp only[Prod.mk.injEq]at A
  have B:len<=1048576:=by
   have:=y5x ((List.range len).map D) ((List.range (m-len)).map fun j=>D (len+j));rw[<- A.1]at this;simp only[List.length_map,List.length_range]at this;omega
  have F:∀i,i<len->Rows.uptoBulk (D i)<=1048576:=fun i hi=>by
   have g:=x9l (d:=D i) (l:=(List.range len).map D) (List.mem_map.2 ⟨i,List.mem_range.2 hi,rfl⟩);rw[A.1]at Y;simp only[Rows.uptoBulk]at Y;omega
  rw[y]at T;have k:Inhabited (Rec×Value):=⟨(Cn.none,undef)⟩
  obtain⟨R,Q⟩:=choose_lt (α:=Rec×Value) (p:=fun i r=>W.cells? base (x.add (i*8)) 8=some (x0A r)/\RecFit r.1/\Sk .i32 W r.2 r.1.to) (n:=len) (fun i hi=>by
   obtain⟨J,g,q⟩:=T i f6J;obtain⟨r,rfl,f⟩:=q0Z q (F i hi)
   exact⟨r,g,f⟩)
  have C:((List.range len).map fun i=>(R i).1).length=len:=M7N;refine⟨(List.range len).map fun i=>(R i).1,by rw[C];exact f6J,fun r u=>?_,?_⟩
  ·obtain⟨i,hi,rfl⟩:=List.mem_map.1 u;exact(Q i (List.mem_range.1 hi)).2.1
  ·unfold maxLen at z;rcases Nat.eq_zero_or_pos len with h0 | h0
   ·subst h0;exact .inl ⟨rfl,some x,m,rfl,f6J⟩
   ·have K:∀i,i<len->∀j,j<8->W.cell? (x.add (i*8+j))=(x0A (R i))[j]?:=by
     intro i hi j X;obtain⟨_,S,Z⟩:=World.cells?_some (Q i hi).1;have:=Z j f6J;rw[add_add]at this;exact this
    have L:=K 0 h0 0 f6J;have I:x.add (0*8+0)=x:=(by simp[Addr.add]);rw[I]at L;have s:=plain_of_cell (v:=.int .i64 (R 0).1.kind) L;generalize x.block=b,x.off=o at *;subst s;refine .inr ⟨b,o,m,by rw[C],by rw[C];exact f6J,f6J,fun i hi=>?_⟩;rw[C]at hi;have hd:((List.range len).map fun i=>(R i).1).getD i Cn.none=(R i).1:=n7C;rw[hd]
    have G:∀j,j<8->W.cell? ⟨b,o+i*8+j,none⟩=(x0A (R i))[j]?:=fun j X=>by
     have:=K i hi j X;rw[addr_add]at this;rw[(f6J:o+i*8+j=o+(i*8+j))];exact this
    exact⟨G 0 f6J,G 1 f6J,G 2 f6J,G 3 f6J,⟨_,G 4 f6J,(Q i hi).2.2⟩,G 5 f6J,G 6 f6J,G 7 f6J⟩
theorem z8V{t:TypeId}{a:Option Addr}{len cap:Nat}{d:DataW H}{p:List MemPlace}(U:prog.underlying t=some (.slice 21))(h:DataW.Trod enc prog W base (fun _=>true) held t (.slice a len cap) d p)(Y:Rows.uptoBulk d<=1048576):∃zs,Sk .i32 W (.slice a len cap) zs/\zs.length<=1048576:=by
 obtain⟨M,o⟩:=h;obtain⟨v,zs,e,s,l⟩:=y4P U underlying21 f4x o Y;simp[Value.cells]at e;subst e;exact⟨zs,s,l⟩
end
