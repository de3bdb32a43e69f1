/- Lemmas. -/
import Derived.Test.YtkfcabdmkmljjaaGreatDoorF10
import Derived.Deep.RegionWith
import Derived.Test.YtkfcabdmkmljjaaGreatDoorRows
import Derived.Deep.Matrix
import Derived.OpenShut
set_option maxHeartbeats 4000000
set_option maxRecDepth 20000
namespace Go.Proofs.YtkfcabdmkmljjaaGreatDoor
open Go.Proofs.Tryz
open Go.RowKit
section
variable{p:Prop}
theorem T8n(h:p:=by simp[Rows.uptoBulk]):p:=h
theorem f2l(h:p:=by
 obtain rfl:=V s true (d0t f6J);have D:Hid (y=false->res=(rs.length,70)):=fun h=>V m rfl h;go_wp2_with fail;refine c0m KP fun u t=>?_
 cases y with
 | false =>exact I9T
 | true =>
  have f:=O (V p (.inr rfl));have Y:=O ((V l).on t);go_wp2;go_round
  case rel=>exact⟨c+1,g2A,f6J,f6J,V f,V Y⟩
  case measure=>simp[intOf]<;>omega):p:=h
theorem i7O(h:p:=by
 obtain rfl:=V s false (d0f f6J);have f:=O (V p (.inl rfl));have Y:=O (V l);go_wp2;go_round
 case rel=>exact⟨c+1,g2A,f6J,f6J,V f,V Y⟩
 case measure=>exact g7T):p:=h
theorem I9T(h:p:=by obtain rfl:=V D rfl;have T:=O ((V l).on t).2;go_wp2;go_ret2;exact⟨rfl,V T⟩):p:=h
theorem i3e(h:p:=by
 rcases Nat.lt_or_ge j k with h' | h'
 ·exact X j h'
 ·obtain rfl:j=k:=f6J;exact h):p:=h
theorem p4P(h:p:=by have Y:=O ((V l).on t).2;go_wp2;go_ret2;exact⟨rfl,V Y⟩):p:=h
end
namespace Cn
def x5S(rs:List Rec)(k:Nat):Nat×Int:=match x0U rs k (rs.drop k)with
 | some x=>x
 | Option.none=>if baseA rs 78 45 then(0,0)else(rs.length,70)
theorem z4y{rs k}(G:k<rs.length)(h:record rs k (rs.getD k none)≠0):x5S rs k=(k,record rs k (rs.getD k none)):=by
 have e:rs.getD k none=rs[k]:=(by grind);rw[e]at h ⊢;unfold x5S;rw[List.drop_eq_getElem_cons G,x0U,if_neg h]
theorem z1p{rs k}(G:k<rs.length)(h:record rs k (rs.getD k none)=0):x5S rs k=x5S rs (k+1):=by
 have e:rs.getD k none=rs[k]:=(by grind);rw[e]at h;unfold x5S;rw[List.drop_eq_getElem_cons G,x0U,if_pos h]
def x7K(rs:List Rec)(c:Nat):Nat×Int:=if baseA rs (123-c) c then(0,0)else(rs.length,70)
theorem z4x rs:x5S rs rs.length=x7K rs 45:=by
 unfold x5S;rw[List.drop_length,x0U];rfl
theorem z2f{rs c}(h:123<=c):x7K rs c=(0,0):=by
 unfold x7K;rw[(f6J:123-c=0),baseA,if_pos rfl]
theorem z5Q{rs}{c:Nat}(h:c<=122)(Z:baseOf c=true)(D:plain rs c=false):x7K rs c=(rs.length,70):=by
 unfold x7K;rw[(f6J:123-c=(122-c)+1),baseA,Z,D];rfl
theorem y7z{rs}{c:Nat}(h:c<=122)(Z:baseOf c=false\/plain rs c=true):x7K rs c=x7K rs (c+1):=by
 unfold x7K;rw[(f6J:123-c=(123-(c+1))+1),baseA];have:(!baseOf (c:Int)||plain rs (c:Int))=true:=(by rcases Z with e | e<;>simp[e]);rw[this,Bool.true_and,Int.natCast_add];rfl
theorem y7V{rs}(h:(check6 rs).2≠0):check rs=check6 rs:=by unfold check;rw[if_pos h]
theorem x3X{rs}(h:(check6 rs).2=0):check rs=x5S rs 0:=by unfold check x5S;rw[if_neg (fun e=>e h)];rfl
end Cn
def y1W:Prop:=∀(v:Value) (rs:List Rec) (w:World),Rcs w v rs->Calls prog 46 #[v] w (x3R w (Cn.check6 rs))
def y7l:Prop:=∀(v:Value) (rs:List Rec) (i:Nat) (w:World),Rcs w v rs->(Cn.check6 rs).2=0->i<rs.length->Calls prog 47 #[v,.int .i64 i] w (IntB w (Cn.record rs i (rs.getD i Cn.none)))
def ChIn(w:World)(v:Value)(rs:List Rec)(wr:World):Prop:=Rcs wr v rs/\Below w.heap.size w wr
theorem ChIn.on{w wr w' v rs}(h:ChIn w v rs wr)(Y:Bw wr w'):ChIn w v rs w':=⟨h.1.below Y,bthen h.2 Y⟩
theorem y1x(H6:y1W)(HR:y7l):y7k:=by
 intro v rs w N;have K6:=O (H6 v rs w N);have I:Hid ((Cn.check6 rs).2≠0->Cn.check rs=Cn.check6 rs):=Cn.y7V;have L:Hid ((Cn.check6 rs).2=0->Cn.check rs=Cn.x5S rs 0/\∀(i:Nat) (wr:World),Rcs wr v rs->i<rs.length->Calls prog 47 #[v,.int .i64 i] wr (IntB wr (Cn.record rs i (rs.getD i Cn.none)))):=fun h=>⟨Cn.x3X h,fun i wr X hi=>HR v rs i wr X h hi⟩;have HW:Hid (ChIn w v rs w):=⟨N,b0r⟩;generalize Cn.check rs=res,Cn.check6 rs=q at *;obtain⟨q1,A⟩:=q;have B:=N.1;obtain⟨J,M,rfl,_,_⟩:=N.shape;go_enter func21,ntmps21;go_wp2_with fail;refine c0m K6 fun Q F=>?_;by_cases d:A=0
 ·obtain⟨x,n⟩:=V L d;obtain rfl:A=0:=d;have U:=O n;have R:=O x;have S:=O ((V HW).on F);go_wp2;go_loopw[6,7] (fun Z _ wr=>∃k:Nat,Z=.int .i64 k/\k<=rs.length/\res=Cn.x5S rs k/\ChIn w (.slice J rs.length M) rs wr) (fun Z _ _=>rs.length-(intOf Z).toNat)
  case atStart=>exact⟨0,rfl,f6J,V R,V S⟩
  case round =>
   obtain⟨k,rfl,hk,x,G⟩:=hrel;by_cases E:k<rs.length
   ·have KC:=O (V U k wr G.1 E);have C:Hid (Cn.record rs k (rs.getD k Cn.none)≠0->res=(k,Cn.record rs k (rs.getD k Cn.none))):=fun h=>x.trans (Cn.z4y E h);have p:Hid (Cn.record rs k (rs.getD k Cn.none)=0->res=Cn.x5S rs (k+1)):=fun h=>x.trans (Cn.z1p E h);have l:=O G;generalize Cn.record rs k (rs.getD k Cn.none)=y at *;go_wp2_with fail;refine c0m KC fun u t=>?_;by_cases g:y=0
    ·have f:=O (V p g);obtain rfl:y=0:=g;have Y:=O ((V l).on t);go_wp2;go_round
     case rel=>exact⟨k+1,g2A,f6J,V f,V Y⟩
     case measure=>exact g7T
    ·obtain rfl:=V C g;have j:(y==0)=false:=b0f g;exact p4P
   ·obtain rfl:k=rs.length:=f6J;have R:=O (x.trans (Cn.z4x rs));have l:=O G;go_wp2;go_loopw[8] (fun Z wi=>∃c:Nat,Z=.int .i32 c/\45<=c/\c<=123/\res=Cn.x7K rs c/\ChIn w (.slice J rs.length M) rs wi) (fun Z _=>123-(intOf Z).toNat)
    case atStart=>exact⟨45,rfl,f6J,f6J,V R,V l⟩
    case round =>
     obtain⟨c,rfl,r,ab,x,G⟩:=hrel;by_cases K:c<=122
     ·have KP:=O (y1z _ rs c wr G.1 ⟨f6J,f6J⟩);have m:Hid (Cn.baseOf c=true->Cn.plain rs c=false->res=(rs.length,70)):=fun a b=>x.trans (Cn.z5Q K a b);have p:Hid (Cn.baseOf c=false\/Cn.plain rs c=true->res=Cn.x7K rs (c+1)):=fun a=>x.trans (Cn.y7z K a);have l:=O G;have s:Hid (∀b,decide ((c:Int)=45\/(c:Int)=46\/(48<=(c:Int)/\(c:Int)<=57)\/97<=(c:Int))=b->Cn.baseOf c=b):=fun b h=>h;generalize Cn.plain rs c=y,Cn.baseOf c=z at *;by_cases e1:c=45
      ·subst e1;obtain rfl:=V s true (d0t f6J);have D:Hid (y=false->res=(rs.length,70)):=fun h=>V m rfl h;go_wp2_with fail;refine c0m KP fun u t=>?_
       cases y with
       | false =>exact I9T
       | true =>
        have f:=O (V p (.inr rfl));have Y:=O ((V l).on t);go_wp2;go_round
        case rel=>exact⟨46,g2A,f6J,f6J,V f,V Y⟩
        case measure=>simp[intOf]<;>omega
      ·by_cases e2:c=46
       ·subst e2;obtain rfl:=V s true (d0t f6J);have D:Hid (y=false->res=(rs.length,70)):=fun h=>V m rfl h;go_wp2_with fail;refine c0m KP fun u t=>?_
        cases y with
        | false =>exact I9T
        | true =>
         have f:=O (V p (.inr rfl));have Y:=O ((V l).on t);go_wp2;go_round
         case rel=>exact⟨47,g2A,f6J,f6J,V f,V Y⟩
         case measure=>simp[intOf]<;>omega
       ·have ae:((c:Int)==45)=false:=b0f f6J;have aj:((c:Int)==46)=false:=b0f f6J;by_cases e3:48<=c
        ·by_cases o:c<=57
         ·exact f2l
         ·by_cases e5:97<=c
          ·exact f2l
          ·exact i7O
        ·exact i7O
     ·obtain rfl:=x.trans (Cn.z2f f6J);have T:=O G.2;go_wp2;go_ret2;exact⟨rfl,V T⟩
 ·obtain rfl:=V I d;have j:(A==0)=false:=b0f d;have T:=O F;go_wp2;go_ret2;exact⟨rfl,V T⟩
namespace Cn
def x5T(rs:List Rec)(i:Nat):Nat×Int:=match x1z rs i (rs.drop i)with
 | some i=>(i,62)
 | Option.none=>(0,0)
def x7w(rs:List Rec)(k:Nat):Nat×Int:=match x1b k (rs.drop k)with
 | some x=>x
 | Option.none=>x5T rs 0
theorem q_hit{rs k}(G:k<rs.length)(h:right (rs.getD k none)≠0):x7w rs k=(k,right (rs.getD k none)):=by
 have e:rs.getD k none=rs[k]:=(by grind);rw[e]at h ⊢;unfold x7w;rw[List.drop_eq_getElem_cons G,x1b,if_neg h]
theorem q0z{rs k}(G:k<rs.length)(h:right (rs.getD k none)=0):x7w rs k=x7w rs (k+1):=by
 have e:rs.getD k none=rs[k]:=(by grind);rw[e]at h;unfold x7w;rw[List.drop_eq_getElem_cons G,x1b,if_pos h]
theorem q_end rs:x7w rs rs.length=x5T rs 0:=by
 unfold x7w;rw[List.drop_length,x1b]
theorem t_hit{rs i k}(hi:i<rs.length)(G:k<i)(h:clash (rs.getD k none) (rs.getD i none)=true):x5T rs i=(i,62):=by
 have e:rs.getD i none=rs[i]:=(by grind);have z:rs.getD k none=rs[k]:=(by grind);rw[e,z]at h;unfold x5T;rw[List.drop_eq_getElem_cons hi,x1z,if_pos];rw[List.any_eq_true];exact⟨rs[k],List.mem_take_iff_getElem.2 ⟨k,f6J,rfl⟩,h⟩
theorem q0V{rs i}(hi:i<rs.length)(h:∀k,k<i->clash (rs.getD k none) (rs.getD i none)=false):x5T rs i=x5T rs (i+1):=by
 have e:rs.getD i none=rs[i]:=(by grind);unfold x5T;rw[List.drop_eq_getElem_cons hi,x1z,if_neg];rw[List.any_eq_true];rintro⟨x,A,I⟩;obtain⟨k,G,rfl⟩:=List.mem_take_iff_getElem.1 A;have:=h k f6J;rw[e,show rs.getD k none=rs[k]by simp[List.getD,(f6J:k<rs.length)]]at this;rw[this]at I;cases I
theorem t_end rs:x5T rs rs.length=(0,0):=by
 unfold x5T;rw[List.drop_length,x1z]
theorem y2j{rs}(h:4096<rs.length):check6 rs=(0,3):=by unfold check6;rw[if_pos h]
theorem y5h{rs}(h:¬4096<rs.length):check6 rs=x7w rs 0:=by
 unfold check6 x7w x5T;rw[if_neg h];rfl
end Cn
def z4N:Prop:=∀(r:Rec) (vt:Value) (w:World),RecFit r->Sk .i32 w vt r.to->Calls prog 78 #[recV r vt] w (IntB w (Cn.right r))
def z4M:Prop:=∀(a b:Rec) (va vb:Value) (w:World),RecFit a->RecFit b->Sk .i32 w va a.to->Sk .i32 w vb b.to->Cn.right a=0->Cn.right b=0->Calls prog 79 #[recV a va,recV b vb] w (x0g w (Cn.clash a b))
theorem x9Q(HR:z4N)(HC:z4M):y1W:=by
 intro v rs w N;have HW:Hid (ChIn w v rs w):=⟨N,b0r⟩;have aA:=N.1;by_cases ae:4096<rs.length
 ·rw[Cn.y2j ae];obtain⟨J,M,rfl,_,_⟩:=N.shape;go_enter func46,ntmps46;go_wp2;go_ret2;exact⟨rfl,b0r⟩
 ·have R:=O (Cn.y5h ae);generalize Cn.check6 rs=U at *;obtain⟨J,M,rfl,_,_⟩:=N.shape;have HR:=O HR;have HC:=O HC;go_enter func46,ntmps46;go_wp2;go_loopw[4,5] (fun Z _ wr=>∃k:Nat,Z=.int .i64 k/\k<=rs.length/\U=Cn.x7w rs k/\(∀j,j<k->Cn.right (rs.getD j Cn.none)=0)/\ChIn w (.slice J rs.length M) rs wr) (fun Z _ _=>rs.length-(intOf Z).toNat)
  case atStart=>exact⟨0,rfl,f6J,V R,fun j hj=>absurd hj (Nat.not_lt_zero _),V HW⟩
  case round =>
   obtain⟨k,rfl,hk,x,o,G⟩:=hrel;by_cases ab:k<rs.length
   ·have C:Hid (Cn.right (rs.getD k Cn.none)≠0->U=(k,Cn.right (rs.getD k Cn.none))):=fun h=>x.trans (Cn.q_hit ab h)
    have p:Hid (Cn.right (rs.getD k Cn.none)=0->U=Cn.x7w rs (k+1)/\∀j,j<k+1->Cn.right (rs.getD j Cn.none)=0):=fun h=>⟨x.trans (Cn.q0z ab h),fun j hj=>by
     rcases Nat.lt_or_ge j k with h' | h'
     ·exact o j h'
     ·obtain rfl:j=k:=by omega
      exact h⟩
    have l:=O G;have hf:=G.1.fit ab;obtain⟨b,aj,A,s,z,ay,I⟩:=G.1.place f6J;obtain⟨rfl,rfl⟩:J=some ⟨b,aj,none⟩/\M=A:=G8S;have c:=I k ab;obtain⟨x0,d,S,x3,⟨va,x4,Q⟩,m,x6,u⟩:=c;have KC:=O (V HR _ va wr hf Q);unfold recV at KC;obtain⟨tq,tc,rfl,_,_⟩:=Q.shape;generalize Cn.right (rs.getD k Cn.none)=y at *;generalize rs.getD k Cn.none=r at *;generalize r.kind=kd,r.n=n,r.lo=lo,r.hi=hi at *;generalize r.name=nm,r.other=ot,r.wt=wt,r.to.length=tl at *;go_wp2_with fail;refine c0m KC fun w2 t=>?_;by_cases g:y=0
    ·have f:=O (V p g);obtain rfl:y=0:=g;have Y:=O ((V l).on t);go_wp2;go_round
     case rel=>exact⟨k+1,g2A,f6J,(V f).1,(V f).2,V Y⟩
     case measure=>exact g7T
    ·obtain rfl:=V C g;have aC:(y==0)=false:=b0f g;exact p4P
   ·obtain rfl:k=rs.length:=f6J;have R:=O (x.trans (Cn.q_end rs));have l:=O G;have E:=O o;go_wp2;go_loopw[6,7] (fun Z _ wi=>∃i:Nat,Z=.int .i64 i/\i<=rs.length/\U=Cn.x5T rs i/\ChIn w (.slice J rs.length M) rs wi) (fun Z _ _=>rs.length-(intOf Z).toNat)
    case atStart=>exact⟨0,rfl,f6J,V R,V l⟩
    case round =>
     obtain⟨i,rfl,hi,x,G⟩:=hrel;by_cases K:i<rs.length
     ·have C:Hid (∀k,k<i->Cn.clash (rs.getD k Cn.none) (rs.getD i Cn.none)=true->U=(i,62)):=fun k a h=>x.trans (Cn.t_hit K a h);have p:Hid ((∀k,k<i->Cn.clash (rs.getD k Cn.none) (rs.getD i Cn.none)=false)->U=Cn.x5T rs (i+1)):=fun h=>x.trans (Cn.q0V K h);have l:=O G;go_wp2;go_loopw[7] (fun kv wj=>∃k:Nat,kv=.int .i64 k/\k<=i/\(∀j,j<k->Cn.clash (rs.getD j Cn.none) (rs.getD i Cn.none)=false)/\ChIn w (.slice J rs.length M) rs wj) (fun kv _=>i-(intOf kv).toNat)
      case atStart=>exact⟨0,rfl,f6J,fun j hj=>absurd hj (Nat.not_lt_zero _),V l⟩
      case round =>
       obtain⟨k,rfl,aB,X,G⟩:=hrel;clear l;by_cases ar:k<i
       ·have q:=O (V C k ar)
        have f:Hid (Cn.clash (rs.getD k Cn.none) (rs.getD i Cn.none)=false->∀j,j<k+1->Cn.clash (rs.getD j Cn.none) (rs.getD i Cn.none)=false):=fun h j hj=>i3e
        have l:=O G;have aq:=G.1.fit (i:=k) f6J;have am:=G.1.fit K;have B:=V E k f6J;have aw:=V E i K;obtain⟨b,aj,A,s,z,ay,I⟩:=G.1.place f6J;obtain⟨rfl,rfl⟩:J=some ⟨b,aj,none⟩/\M=A:=G8S;have c:=I k f6J;have hB:=I i K;clear I s X G C p E;obtain⟨x0,d,S,x3,⟨va,x4,Q⟩,m,x6,u⟩:=c;obtain⟨y0,y1,y2,y3,⟨vb,y4,D⟩,y5,y6,y7⟩:=hB;have KC:Hid (∀n,Calls prog 79 #[recV (rs.getD k Cn.none) va,recV (rs.getD i Cn.none) vb] (wr.drewN n) (x0g (wr.drewN n) (Cn.clash (rs.getD k Cn.none) (rs.getD i Cn.none)))):=fun n=>V HC _ _ va vb _ aq am (x5b Q n) (x5b D n) B aw;unfold recV at KC;obtain⟨tq,tc,rfl,_,_⟩:=Q.shape;obtain⟨uo,uc,rfl,_,_⟩:=D.shape;clear HC aq am B aw Q D;generalize Cn.clash (rs.getD k Cn.none) (rs.getD i Cn.none)=y at q KC f;generalize(rs.getD k Cn.none).kind=kind1,(rs.getD k Cn.none).lo=lo1,(rs.getD k Cn.none).hi=hi1,(rs.getD k Cn.none).n=n1 at *;generalize(rs.getD k Cn.none).name=name1,(rs.getD k Cn.none).other=other1,(rs.getD k Cn.none).wt=wt1,(rs.getD k Cn.none).to.length=aD at *;generalize(rs.getD i Cn.none).kind=kind2,(rs.getD i Cn.none).lo=lo2,(rs.getD i Cn.none).hi=hi2,(rs.getD i Cn.none).n=n2 at *;generalize(rs.getD i Cn.none).name=name2,(rs.getD i Cn.none).other=other2,(rs.getD i Cn.none).wt=wt2,(rs.getD i Cn.none).to.length=aF at *;go_wp2;go_region_with (refine(V KC _).mono ?_;rintro e w1 ⟨rfl,F⟩)
        all_goals
         have Y:=O ((V l).on (bthen (x0i ⟨_,rfl⟩) F));clear F l KC x0 d S x3 x4 m x6 u y0 y1 y2 y3 y4 y5 y6 y7
         cases y with
         | true =>
          obtain rfl:=V q rfl;clear q f;go_wp2;go_ret2;exact⟨rfl,(V Y).2⟩
         | false =>
          have L:=O (V f rfl);clear q f;go_wp2
          go_roundw
          case rel=>exact⟨k+1,g2A,f6J,V L,V Y⟩
          case measure=>exact g7T
       ·obtain rfl:k=i:=f6J;have f:=O (V p X);have l:=O G;clear X G p C;go_wp2;go_round
        case rel=>exact⟨k+1,g2A,f6J,V f,V l⟩
        case measure=>exact g7T
     ·obtain rfl:i=rs.length:=f6J;obtain rfl:=x.trans (Cn.t_end rs);have T:=O G.2;clear x G E HC;go_wp2;go_ret2;exact i5u
theorem z2q{H:Type}(d:DataW H):1<=Rows.uptoBulk d:=by
 cases d with
 | lit l=>cases l<;>simp[Rows.uptoBulk]
 | nil=>exact T8n
 | ptr d=>exact T8n
 | slice a b=>exact T8n
 | agg a=>exact T8n
 | iface t d=>exact T8n
 | map e=>exact T8n
 | held h=>exact T8n
theorem z2p{H:Type}(l:List (DataW H)):l.length<=Rows.uptoBulkAll l:=by
 induction l with
 | nil=>simp[Rows.uptoBulkAll]
 | cons x r ih =>
  have:=z2q x;simp only[Rows.uptoBulkAll,List.length_cons];omega
theorem y5e{H:Type}(a b:List (DataW H)):a.length<=Rows.uptoBulk (.slice a b):=by
 have:=z2p a;simp only[Rows.uptoBulk];omega
theorem bulk_string{H:Type}(l:List UInt8):l.length<=Rows.uptoBulk (DataW.lit (H:=H) (.string l)):=T8n
theorem bulk_le{H:Type}{l:List (DataW H)}(G:Rows.uptoSmall H l=true):Rows.uptoBulkAll l<=1048576:=o0d G
open Go.RowKit Go.ChangeShapes Go.WideShapes Go.Deep
theorem x5o{H:Type}(k:IntKind)(zs:List Int):Rows.uptoBulkAll (lits (H:=H) k zs)=zs.length:=by
 induction zs with
 | nil=>rfl
 | cons z zs ih =>
  have e:lits (H:=H) k (z::zs)=.lit (.int k z)::lits k zs:=rfl;rw[e,Rows.uptoBulkAll,ih];simp[Rows.uptoBulk];omega
theorem x9a{H:Type}{d:DataW H}:∀{l:List (DataW H)},d∈l->Rows.uptoBulk d<=Rows.uptoBulkAll l
 | [],h=>m5j
 | x::l,h=>by
  rw[Rows.uptoBulkAll];rcases List.mem_cons.1 h with rfl | h
  ·omega
  ·have:=x9a h;omega
section
variable {H:Type} {enc:TypeId×Value->H} {P:Program} {W:World} {base:Nat} {held:Bool}
theorem y6V{k:FloatKind}{t:TypeId}{A:Nat->Bool}{M:Nat}{cs:List Value}{x:DataW H×List MemPlace}(K:P.underlying t=some (.float k))(h:DataW.trod enc P W base A held M t cs=some x):∃b,cs=[.float k b]/\(Lit.float k b).wf=true:=by
 cases M with
 | zero=>simp[DataW.trod]at h
 | succ n =>
  unfold DataW.trod at h;rw[K]at h;split at h<;>simp_all
theorem y4v{t q:TypeId}{k:IntKind}{M:Nat}{cs:List Value}{x:DataW H×List MemPlace}(K:P.underlying t=some (.slice q))(d:P.underlying q=some (.int k))(D:P.cellsOf q=1)
  (C:DataW.trod enc P W base (fun _=>true) held M t cs=some x) (Y:Rows.uptoBulk x.1<=1048576):∃v zs,cs=[v]/\Sk k W v zs/\zs.length<=1048576:=by
 rcases open_ints K d D C with⟨I,_⟩ | ⟨F,l,c,zs,I,_,S,o,u,A,y,B⟩
 ·exact⟨_,[],I,Sk.nil _ _,M7L⟩
 ·simp only[if_true]at u;have E:x.1=_:=congrArg Prod.fst A
  have G:l<=Rows.uptoBulk x.1:=by
   rw[E,Rows.uptoBulk,x5o,x5o,List.length_take,List.length_drop];omega
  refine⟨_,zs.take l,I,z1b (.inr ⟨_,rfl,S,o,u,y,B⟩) f6J,?_⟩;rw[List.length_take];omega
end
section
variable {H:Type} {enc:TypeId×Value->H} {W:World} {base:Nat} {held:Bool}
theorem wf_i64{n:Int}(h:(Lit.int .i64 n).wf=true):I64 n:=by
 have:IntKind.i64.min<=n/\n<=IntKind.i64.max:=(by simpa[Lit.wf]using h);simpa[I64,IntKind.min,IntKind.max,IntKind.signed,IntKind.bits]using this
theorem q1o{b:Nat}(h:(Lit.float .f64 b).wf=true):b<18446744073709551616:=by
 simpa[Lit.wf]using h
theorem q0I{n:Nat}{cs:List Value}{x:DataW H×List MemPlace}(h:DataW.trod enc prog W base (fun _=>true) held n 60 cs=some x)(Y:Rows.uptoBulk x.1<=1048576):∃p:Rec×Value,cs=x0C p/\RecFit p.1/\Sk .i32 W p.2 p.1.to:=by
 obtain⟨D,k,G,s,L,t,C⟩:=DataW.trod_struct underlying60 h;have c8:prog.cellsOf 60=8:=f4y;have g:prog.cellsOf 3=1:=f4y;have Q:prog.cellsOf 36=1:=f4y;have u:prog.cellsOf 9=1:=f4y;have c4:prog.cellsOf 58=1:=f4y;have T:prog.cellsOf 21=1:=f4y;rw[c8]at L
 match D,t,cs,L with
 | [y0,y1,y2,y3,y4,y5,y6,y7],_,[v0,v1,v2,v3,v4,v5,v6,v7],_ =>
  have M:=C 0 _ rfl;have a:=C 1 _ rfl;have A:=C 2 _ rfl;have K:=C 3 _ rfl;have R:=C 4 _ rfl;have g5:=C 5 _ rfl;have X:=C 6 _ rfl;have I:=C 7 _ rfl;simp[g,Q,u,c4]at M a A K R g5 X I;obtain⟨y,r,_,f⟩:=DataW.trod_int underlying3 M;obtain⟨J,e1,_,w1⟩:=DataW.trod_int underlying3 a;obtain⟨q,z,_,w2⟩:=DataW.trod_int underlying3 A;obtain⟨n3,N,_,B⟩:=DataW.trod_int underlying3 K
  have S:Rows.uptoBulk y4.1<=1048576:=by
   rw[s]at Y;have:=x9a (d:=y4.1) (l:=[y0,y1,y2,y3,y4,y5,y6,y7].map (·.1)) M7M;simp only[Rows.uptoBulk]at Y;omega
  obtain⟨v,m,o,b,l4⟩:=y4v underlying36 underlying21 T R S;obtain⟨j,F,_⟩:=DataW.trod_string underlying9 g5;obtain⟨E,Z,_⟩:=DataW.trod_string underlying9 X;obtain⟨c,U,i⟩:=y6V underlying58 I;simp only[List.cons.injEq,and_true]at r e1 z N o F Z U;exact⟨(⟨y,J,q,n3,m,j,E,c⟩,v),by rw[r,e1,z,N,o,F,Z,U];rfl,⟨wf_i64 f,wf_i64 w1,wf_i64 w2,wf_i64 B,by show m.length<=_;exact f6J,q1o i⟩,b⟩
theorem recs_open{a:Option Addr}{len cap:Nat}{d:DataW H}{p:List MemPlace}(h:DataW.Trod enc prog W base (fun _=>true) held 22 (.slice a len cap) d p)(Y:Rows.uptoBulk d<=1048576):∃rs,Rcs W (.slice a len cap) rs:=by
 obtain⟨M,C⟩:=h;have T:prog.cellsOf 60=8:=f4y;rcases open_slice underlying22 C with⟨I,_⟩ | ⟨x,l,c,m,n,D,Pl,I,_,S,u,E,A,L⟩
 ·simp[Value.cells]at I;obtain⟨rfl,rfl,rfl⟩:=I;exact⟨[],M7M,fun r X=>(by cases X),.inl ⟨rfl,none,0,rfl,f6J⟩⟩
 ·simp[Value.cells]at I;obtain⟨rfl,rfl,rfl⟩:=I;simp only[if_true]at E;subst E;simp only[Prod.mk.injEq]at A
  have B:len<=1048576:=by
   have:=y5e ((List.range len).map D) ((List.range (m-len)).map fun j=>D (len+j));rw[<- A.1]at this;simp only[List.length_map,List.length_range]at this;omega
  have J:∀i,i<len->Rows.uptoBulk (D i)<=1048576:=fun i hi=>by
   have Z:=x9a (d:=D i) (l:=(List.range len).map D) (List.mem_map.2 ⟨i,List.mem_range.2 hi,rfl⟩);rw[A.1]at Y;simp only[Rows.uptoBulk]at Y;omega
  rw[T]at L;have z:Inhabited (Rec×Value):=⟨(Cn.none,undef)⟩
  obtain⟨R,Q⟩:=choose_lt (α:=Rec×Value) (p:=fun i r=>W.cells? base (x.add (i*8)) 8=some (x0C r)/\RecFit r.1/\Sk .i32 W r.2 r.1.to) (n:=len) (fun i hi=>by
   obtain⟨K,Z,t⟩:=L i f6J;obtain⟨r,rfl,f⟩:=q0I t (J i hi)
   exact⟨r,Z,f⟩)
  have F:((List.range len).map fun i=>(R i).1).length=len:=M7M;refine⟨(List.range len).map fun i=>(R i).1,by rw[F];exact f6J,fun r X=>?_,?_⟩
  ·obtain⟨i,hi,rfl⟩:=List.mem_map.1 X;exact(Q i (List.mem_range.1 hi)).2.1
  ·unfold maxLen at u;rcases Nat.eq_zero_or_pos len with h0 | h0
   ·subst h0;exact .inl ⟨rfl,some x,m,rfl,f6J⟩
   ·have y:∀i,i<len->∀j,j<8->W.cell? (x.add (i*8+j))=(x0C (R i))[j]?:=by
     intro i hi j k;obtain⟨_,q,g⟩:=World.cells?_some (Q i hi).1;have:=g j f6J;rw[add_add]at this;exact this
    have N:=y 0 h0 0 f6J;have U:x.add (0*8+0)=x:=(by simp[Addr.add]);rw[U]at N;have s:=plain_of_cell (v:=.int .i64 (R 0).1.kind) N;generalize x.block=b,x.off=o at *;subst s;refine .inr ⟨b,o,m,by rw[F],by rw[F];exact f6J,f6J,fun i hi=>?_⟩;rw[F]at hi;have hd:((List.range len).map fun i=>(R i).1).getD i Cn.none=(R i).1:=n7G;rw[hd]
    have G:∀j,j<8->W.cell? ⟨b,o+i*8+j,none⟩=(x0C (R i))[j]?:=fun j k=>by
     have:=y i hi j k;rw[addr_add]at this;rw[(f6J:o+i*8+j=o+(i*8+j))];exact this
    exact⟨G 0 f6J,G 1 f6J,G 2 f6J,G 3 f6J,⟨_,G 4 f6J,(Q i hi).2.2⟩,G 5 f6J,G 6 f6J,G 7 f6J⟩
theorem z8D{t:TypeId}{a:Option Addr}{len cap:Nat}{d:DataW H}{p:List MemPlace}(K:prog.underlying t=some (.slice 21))(h:DataW.Trod enc prog W base (fun _=>true) held t (.slice a len cap) d p)(Y:Rows.uptoBulk d<=1048576):∃zs,Sk .i32 W (.slice a len cap) zs/\zs.length<=1048576:=by
 obtain⟨M,C⟩:=h;obtain⟨v,zs,e,s,l⟩:=y4v K underlying21 f4x C Y;simp[Value.cells]at e;subst e;exact⟨zs,s,l⟩
end
