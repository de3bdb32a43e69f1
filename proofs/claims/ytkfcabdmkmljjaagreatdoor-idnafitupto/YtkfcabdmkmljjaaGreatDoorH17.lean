/- Lemmas. -/
import Derived.Test.YtkfcabdmkmljjaaGreatDoorH10
import Derived.Deep.RegionWith
import Derived.Test.YtkfcabdmkmljjaaGreatDoorRows
import Derived.Deep.Matrix
import Derived.OpenShut
set_option maxHeartbeats 4000000
set_option maxRecDepth 20000
namespace Go.Proofs.YtkfcabdmkmljjaaGreatDoor
open Go.Proofs.Tryz
open Go.RowKit
section
variable{p:Prop}
theorem T8n(h:p:=by simp[Rows.uptoBulk]):p:=h
theorem F3M(h:p:=by
 obtain rfl:=V Y true (d0t f6J);have A:Hid (y=false->res=(rs.length,70)):=fun h=>V ae rfl h;go_wp2_with fail;refine c0m KP fun t ab=>?_
 cases y with
 | false =>exact E1K
 | true =>
  have f:=O (V S (.inr rfl));have T:=O ((V D).on ab);go_wp2;go_round
  case rel=>exact⟨c+1,g2A,f6J,f6J,V f,V T⟩
  case measure=>simp[intOf]<;>omega):p:=h
theorem S2O(h:p:=by
 obtain rfl:=V Y false (d0f f6J);have f:=O (V S (.inl rfl));have T:=O (V D);go_wp2;go_round
 case rel=>exact⟨c+1,g2A,f6J,f6J,V f,V T⟩
 case measure=>exact g7T):p:=h
theorem E1K(h:p:=by obtain rfl:=V A rfl;have U:=O ((V D).on ab).2;go_wp2;go_ret2;exact⟨rfl,V U⟩):p:=h
end
namespace Cn
def x5U(rs:List Rec)(k:Nat):Nat×Int:=match x0Q rs k (rs.drop k)with
 | some x=>x
 | Option.none=>if baseA rs 78 45 then(0,0)else(rs.length,70)
theorem z4w{rs k}(G:k<rs.length)(h:record rs k (rs.getD k none)≠0):x5U rs k=(k,record rs k (rs.getD k none)):=by
 have e:rs.getD k none=rs[k]:=(by grind);rw[e]at h ⊢;unfold x5U;rw[List.drop_eq_getElem_cons G,x0Q,if_neg h]
theorem z1q{rs k}(G:k<rs.length)(h:record rs k (rs.getD k none)=0):x5U rs k=x5U rs (k+1):=by
 have e:rs.getD k none=rs[k]:=(by grind);rw[e]at h;unfold x5U;rw[List.drop_eq_getElem_cons G,x0Q,if_pos h]
def x7M(rs:List Rec)(c:Nat):Nat×Int:=if baseA rs (123-c) c then(0,0)else(rs.length,70)
theorem z4v rs:x5U rs rs.length=x7M rs 45:=by
 unfold x5U;rw[List.drop_length,x0Q];rfl
theorem z2i{rs c}(h:123<=c):x7M rs c=(0,0):=by
 unfold x7M;rw[(f6J:123-c=0),baseA,if_pos rfl]
theorem z5Q{rs}{c:Nat}(h:c<=122)(Z:baseOf c=true)(D:plain rs c=false):x7M rs c=(rs.length,70):=by
 unfold x7M;rw[(f6J:123-c=(122-c)+1),baseA,Z,D];rfl
theorem y7E{rs}{c:Nat}(h:c<=122)(Z:baseOf c=false\/plain rs c=true):x7M rs c=x7M rs (c+1):=by
 unfold x7M;rw[(f6J:123-c=(123-(c+1))+1),baseA];have:(!baseOf (c:Int)||plain rs (c:Int))=true:=(by rcases Z with e | e<;>simp[e]);rw[this,Bool.true_and,Int.natCast_add];rfl
theorem y7Y{rs}(h:(check6 rs).2≠0):check rs=check6 rs:=by unfold check;rw[if_pos h]
theorem x3X{rs}(h:(check6 rs).2=0):check rs=x5U rs 0:=by unfold check x5U;rw[if_neg (fun e=>e h)];rfl
end Cn
def y1Y:Prop:=∀(v:Value) (rs:List Rec) (w:World),Rcs w v rs->Calls prog 46 #[v] w (x3R w (Cn.check6 rs))
def y7p:Prop:=∀(v:Value) (rs:List Rec) (i:Nat) (w:World),Rcs w v rs->(Cn.check6 rs).2=0->i<rs.length->Calls prog 47 #[v,.int .i64 i] w (IntB w (Cn.record rs i (rs.getD i Cn.none)))
def ChIn(w:World)(v:Value)(rs:List Rec)(wr:World):Prop:=Rcs wr v rs/\Below w.heap.size w wr
theorem ChIn.on{w wr w' v rs}(h:ChIn w v rs wr)(Y:Bw wr w'):ChIn w v rs w':=⟨h.1.below Y,bthen h.2 Y⟩
theorem y1y(m:y1Y)(L:y7p):y7o:=by
 intro v rs w N;have j:=O (m v rs w N);have I:Hid ((Cn.check6 rs).2≠0->Cn.check rs=Cn.check6 rs):=Cn.y7Y;have Q:Hid ((Cn.check6 rs).2=0->Cn.check rs=Cn.x5U rs 0/\∀(i:Nat) (wr:World),Rcs wr v rs->i<rs.length->Calls prog 47 #[v,.int .i64 i] wr (IntB wr (Cn.record rs i (rs.getD i Cn.none)))):=fun h=>⟨Cn.x3X h,fun i wr u hi=>L v rs i wr u h hi⟩;have R:Hid (ChIn w v rs w):=⟨N,b0r⟩;generalize Cn.check rs=res,Cn.check6 rs=q at *;obtain⟨C,s⟩:=q;have d:=N.1;obtain⟨B,M,rfl,_,_⟩:=N.shape;go_enter func21,ntmps21;go_wp2_with fail;refine c0m j fun w1 F=>?_;by_cases hq:s=0
 ·obtain⟨J,n⟩:=V Q hq;obtain rfl:s=0:=hq;have af:=O n;have x:=O J;have ag:=O ((V R).on F);go_wp2;go_loopw[6,7] (fun Z _ wr=>∃k:Nat,Z=.int .i64 k/\k<=rs.length/\res=Cn.x5U rs k/\ChIn w (.slice B rs.length M) rs wr) (fun Z _ _=>rs.length-(intOf Z).toNat)
  case atStart=>exact⟨0,rfl,f6J,V x,V ag⟩
  case round =>
   obtain⟨k,rfl,hk,J,o⟩:=hrel;by_cases E:k<rs.length
   ·have KC:=O (V af k wr o.1 E);have G:Hid (Cn.record rs k (rs.getD k Cn.none)≠0->res=(k,Cn.record rs k (rs.getD k Cn.none))):=fun h=>J.trans (Cn.z4w E h);have S:Hid (Cn.record rs k (rs.getD k Cn.none)=0->res=Cn.x5U rs (k+1)):=fun h=>J.trans (Cn.z1q E h);have D:=O o;generalize Cn.record rs k (rs.getD k Cn.none)=y at *;go_wp2_with fail;refine c0m KC fun t ab=>?_;by_cases hy:y=0
    ·have f:=O (V S hy);obtain rfl:y=0:=hy;have T:=O ((V D).on ab);go_wp2;go_round
     case rel=>exact⟨k+1,g2A,f6J,V f,V T⟩
     case measure=>exact g7T
    ·obtain rfl:=V G hy;have X:(y==0)=false:=b0f hy;have T:=O ((V D).on ab).2;go_wp2;go_ret2;exact⟨rfl,V T⟩
   ·obtain rfl:k=rs.length:=f6J;have x:=O (J.trans (Cn.z4v rs));have D:=O o;go_wp2;go_loopw[8] (fun Z p=>∃c:Nat,Z=.int .i32 c/\45<=c/\c<=123/\res=Cn.x7M rs c/\ChIn w (.slice B rs.length M) rs p) (fun Z _=>123-(intOf Z).toNat)
    case atStart=>exact⟨45,rfl,f6J,f6J,V x,V D⟩
    case round =>
     obtain⟨c,rfl,K,l,J,o⟩:=hrel;by_cases g:c<=122
     ·have KP:=O (y1A _ rs c wr o.1 ⟨f6J,f6J⟩);have ae:Hid (Cn.baseOf c=true->Cn.plain rs c=false->res=(rs.length,70)):=fun a b=>J.trans (Cn.z5Q g a b);have S:Hid (Cn.baseOf c=false\/Cn.plain rs c=true->res=Cn.x7M rs (c+1)):=fun a=>J.trans (Cn.y7E g a);have D:=O o;have Y:Hid (∀b,decide ((c:Int)=45\/(c:Int)=46\/(48<=(c:Int)/\(c:Int)<=57)\/97<=(c:Int))=b->Cn.baseOf c=b):=fun b h=>h;generalize Cn.plain rs c=y,Cn.baseOf c=z at *;by_cases e1:c=45
      ·subst e1;obtain rfl:=V Y true (d0t f6J);have A:Hid (y=false->res=(rs.length,70)):=fun h=>V ae rfl h;go_wp2_with fail;refine c0m KP fun t ab=>?_
       cases y with
       | false =>exact E1K
       | true =>
        have f:=O (V S (.inr rfl));have T:=O ((V D).on ab);go_wp2;go_round
        case rel=>exact⟨46,g2A,f6J,f6J,V f,V T⟩
        case measure=>simp[intOf]<;>omega
      ·by_cases e2:c=46
       ·subst e2;obtain rfl:=V Y true (d0t f6J);have A:Hid (y=false->res=(rs.length,70)):=fun h=>V ae rfl h;go_wp2_with fail;refine c0m KP fun t ab=>?_
        cases y with
        | false =>exact E1K
        | true =>
         have f:=O (V S (.inr rfl));have T:=O ((V D).on ab);go_wp2;go_round
         case rel=>exact⟨47,g2A,f6J,f6J,V f,V T⟩
         case measure=>simp[intOf]<;>omega
       ·have r:((c:Int)==45)=false:=b0f f6J;have ai:((c:Int)==46)=false:=b0f f6J;by_cases e3:48<=c
        ·by_cases e4:c<=57
         ·exact F3M
         ·by_cases e5:97<=c
          ·exact F3M
          ·exact S2O
        ·exact S2O
     ·obtain rfl:=J.trans (Cn.z2i f6J);have U:=O o.2;go_wp2;go_ret2;exact⟨rfl,V U⟩
 ·obtain rfl:=V I hq;have X:(s==0)=false:=b0f hq;have U:=O F;go_wp2;go_ret2;exact⟨rfl,V U⟩
namespace Cn
def x5V(rs:List Rec)(i:Nat):Nat×Int:=match x1x rs i (rs.drop i)with
 | some i=>(i,62)
 | Option.none=>(0,0)
def x7x(rs:List Rec)(k:Nat):Nat×Int:=match x0X k (rs.drop k)with
 | some x=>x
 | Option.none=>x5V rs 0
theorem q_hit{rs k}(G:k<rs.length)(h:right (rs.getD k none)≠0):x7x rs k=(k,right (rs.getD k none)):=by
 have e:rs.getD k none=rs[k]:=(by grind);rw[e]at h ⊢;unfold x7x;rw[List.drop_eq_getElem_cons G,x0X,if_neg h]
theorem q0w{rs k}(G:k<rs.length)(h:right (rs.getD k none)=0):x7x rs k=x7x rs (k+1):=by
 have e:rs.getD k none=rs[k]:=(by grind);rw[e]at h;unfold x7x;rw[List.drop_eq_getElem_cons G,x0X,if_pos h]
theorem q_end rs:x7x rs rs.length=x5V rs 0:=by
 unfold x7x;rw[List.drop_length,x0X]
theorem t_hit{rs i k}(hi:i<rs.length)(G:k<i)(h:clash (rs.getD k none) (rs.getD i none)=true):x5V rs i=(i,62):=by
 have e:rs.getD i none=rs[i]:=(by grind);have E:rs.getD k none=rs[k]:=(by grind);rw[e,E]at h;unfold x5V;rw[List.drop_eq_getElem_cons hi,x1x,if_pos];rw[List.any_eq_true];exact⟨rs[k],List.mem_take_iff_getElem.2 ⟨k,f6J,rfl⟩,h⟩
theorem q0T{rs i}(hi:i<rs.length)(h:∀k,k<i->clash (rs.getD k none) (rs.getD i none)=false):x5V rs i=x5V rs (i+1):=by
 have e:rs.getD i none=rs[i]:=(by grind);unfold x5V;rw[List.drop_eq_getElem_cons hi,x1x,if_neg];rw[List.any_eq_true];rintro⟨x,A,I⟩;obtain⟨k,G,rfl⟩:=List.mem_take_iff_getElem.1 A;have:=h k f6J;rw[e,show rs.getD k none=rs[k]by simp[List.getD,(f6J:k<rs.length)]]at this;rw[this]at I;cases I
theorem t_end rs:x5V rs rs.length=(0,0):=by
 unfold x5V;rw[List.drop_length,x1x]
theorem y2k{rs}(h:4096<rs.length):check6 rs=(0,3):=by unfold check6;rw[if_pos h]
theorem y5m{rs}(h:¬4096<rs.length):check6 rs=x7x rs 0:=by
 unfold check6 x7x x5V;rw[if_neg h];rfl
end Cn
def z4N:Prop:=∀(r:Rec) (vt:Value) (w:World),RecFit r->Sk .i32 w vt r.to->Calls prog 78 #[recV r vt] w (IntB w (Cn.right r))
def z4M:Prop:=∀(a b:Rec) (va vb:Value) (w:World),RecFit a->RecFit b->Sk .i32 w va a.to->Sk .i32 w vb b.to->Cn.right a=0->Cn.right b=0->Calls prog 79 #[recV a va,recV b vb] w (x0g w (Cn.clash a b))
theorem x9U(L:z4N)(C:z4M):y1Y:=by
 intro v rs w N;have HW:Hid (ChIn w v rs w):=⟨N,b0r⟩;have d:=N.1;by_cases af:4096<rs.length
 ·rw[Cn.y2k af];obtain⟨B,M,rfl,_,_⟩:=N.shape;go_enter func46,ntmps46;go_wp2;go_ret2;exact⟨rfl,b0r⟩
 ·have x:=O (Cn.y5m af);generalize Cn.check6 rs=R at *;obtain⟨B,M,rfl,_,_⟩:=N.shape;have L:=O L;have C:=O C;go_enter func46,ntmps46;go_wp2;go_loopw[4,5] (fun Z _ wr=>∃k:Nat,Z=.int .i64 k/\k<=rs.length/\R=Cn.x7x rs k/\(∀j,j<k->Cn.right (rs.getD j Cn.none)=0)/\ChIn w (.slice B rs.length M) rs wr) (fun Z _ _=>rs.length-(intOf Z).toNat)
  case atStart=>exact⟨0,rfl,f6J,V x,fun j X=>absurd X (Nat.not_lt_zero _),V HW⟩
  case round =>
   obtain⟨k,rfl,hk,J,Q,o⟩:=hrel;by_cases ab:k<rs.length
   ·have G:Hid (Cn.right (rs.getD k Cn.none)≠0->R=(k,Cn.right (rs.getD k Cn.none))):=fun h=>J.trans (Cn.q_hit ab h)
    have S:Hid (Cn.right (rs.getD k Cn.none)=0->R=Cn.x7x rs (k+1)/\∀j,j<k+1->Cn.right (rs.getD j Cn.none)=0):=fun h=>⟨J.trans (Cn.q0w ab h),fun j X=>by
     rcases Nat.lt_or_ge j k with h' | h'
     ·exact Q j h'
     ·obtain rfl:j=k:=by omega
      exact h⟩
    have D:=O o;have z:=o.1.fit ab;obtain⟨b,ag,A,q,l,az,I⟩:=o.1.place f6J;obtain⟨rfl,rfl⟩:B=some ⟨b,ag,none⟩/\M=A:=W3N;have Y:=I k ab;obtain⟨x0,x1,p,K,⟨va,x4,t⟩,m,u,x7⟩:=Y;have KC:=O (V L _ va wr z t);unfold recV at KC;obtain⟨tq,tc,rfl,_,_⟩:=t.shape;generalize Cn.right (rs.getD k Cn.none)=y at *;generalize rs.getD k Cn.none=r at *;generalize r.kind=kd,r.n=n,r.lo=lo,r.hi=hi at *;generalize r.name=nm,r.other=ot,r.wt=wt,r.to.length=tl at *;go_wp2_with fail;refine c0m KC fun w2 ai=>?_;by_cases hy:y=0
    ·have f:=O (V S hy);obtain rfl:y=0:=hy;have T:=O ((V D).on ai);go_wp2;go_round
     case rel=>exact⟨k+1,g2A,f6J,(V f).1,(V f).2,V T⟩
     case measure=>exact g7T
    ·obtain rfl:=V G hy;have aB:(y==0)=false:=b0f hy;have T:=O ((V D).on ai).2;go_wp2;go_ret2;exact⟨rfl,V T⟩
   ·obtain rfl:k=rs.length:=f6J;have x:=O (J.trans (Cn.q_end rs));have D:=O o;have E:=O Q;go_wp2;go_loopw[6,7] (fun Z _ wi=>∃i:Nat,Z=.int .i64 i/\i<=rs.length/\R=Cn.x5V rs i/\ChIn w (.slice B rs.length M) rs wi) (fun Z _ _=>rs.length-(intOf Z).toNat)
    case atStart=>exact⟨0,rfl,f6J,V x,V D⟩
    case round =>
     obtain⟨i,rfl,hi,J,o⟩:=hrel;by_cases g:i<rs.length
     ·have G:Hid (∀k,k<i->Cn.clash (rs.getD k Cn.none) (rs.getD i Cn.none)=true->R=(i,62)):=fun k a h=>J.trans (Cn.t_hit g a h);have S:Hid ((∀k,k<i->Cn.clash (rs.getD k Cn.none) (rs.getD i Cn.none)=false)->R=Cn.x5V rs (i+1)):=fun h=>J.trans (Cn.q0T g h);have D:=O o;go_wp2;go_loopw[7] (fun kv wj=>∃k:Nat,kv=.int .i64 k/\k<=i/\(∀j,j<k->Cn.clash (rs.getD j Cn.none) (rs.getD i Cn.none)=false)/\ChIn w (.slice B rs.length M) rs wj) (fun kv _=>i-(intOf kv).toNat)
      case atStart=>exact⟨0,rfl,f6J,fun j X=>absurd X (Nat.not_lt_zero _),V D⟩
      case round =>
       obtain⟨k,rfl,aA,ae,o⟩:=hrel;clear D;by_cases aq:k<i
       ·have HH:=O (V G k aq)
        have f:Hid (Cn.clash (rs.getD k Cn.none) (rs.getD i Cn.none)=false->∀j,j<k+1->Cn.clash (rs.getD j Cn.none) (rs.getD i Cn.none)=false):=fun h j X=>by
         rcases Nat.lt_or_ge j k with h' | h'
         ·exact ae j h'
         ·obtain rfl:j=k:=f6J;exact h
        have D:=O o;have am:=o.1.fit (i:=k) f6J;have aj:=o.1.fit g;have aw:=V E k f6J;have ar:=V E i g;obtain⟨b,ag,A,q,l,az,I⟩:=o.1.place f6J;obtain⟨rfl,rfl⟩:B=some ⟨b,ag,none⟩/\M=A:=W3N;have Y:=I k f6J;have hB:=I i g;clear I q ae o G S E;obtain⟨x0,x1,p,K,⟨va,x4,t⟩,m,u,x7⟩:=Y;obtain⟨y0,y1,y2,y3,⟨s,y4,U⟩,y5,y6,y7⟩:=hB;have KC:Hid (∀n,Calls prog 79 #[recV (rs.getD k Cn.none) va,recV (rs.getD i Cn.none) s] (wr.drewN n) (x0g (wr.drewN n) (Cn.clash (rs.getD k Cn.none) (rs.getD i Cn.none)))):=fun n=>V C _ _ va s _ am aj (x5e t n) (x5e U n) aw ar;unfold recV at KC;obtain⟨tq,tc,rfl,_,_⟩:=t.shape;obtain⟨uo,uc,rfl,_,_⟩:=U.shape;clear C am aj aw ar t U;generalize Cn.clash (rs.getD k Cn.none) (rs.getD i Cn.none)=y at HH KC f;generalize(rs.getD k Cn.none).kind=kind1,(rs.getD k Cn.none).lo=lo1,(rs.getD k Cn.none).hi=hi1,(rs.getD k Cn.none).n=n1 at *;generalize(rs.getD k Cn.none).name=name1,(rs.getD k Cn.none).other=other1,(rs.getD k Cn.none).wt=wt1,(rs.getD k Cn.none).to.length=aC at *;generalize(rs.getD i Cn.none).kind=kind2,(rs.getD i Cn.none).lo=lo2,(rs.getD i Cn.none).hi=hi2,(rs.getD i Cn.none).n=n2 at *;generalize(rs.getD i Cn.none).name=name2,(rs.getD i Cn.none).other=other2,(rs.getD i Cn.none).wt=wt2,(rs.getD i Cn.none).to.length=aD at *;go_wp2;go_region_with (refine(V KC _).mono ?_;rintro e w1 ⟨rfl,F⟩)
        all_goals
         have T:=O ((V D).on (bthen (x0i ⟨_,rfl⟩) F));clear F D KC x0 x1 p K x4 m u x7 y0 y1 y2 y3 y4 y5 y6 y7
         cases y with
         | true =>
          obtain rfl:=V HH rfl;clear HH f;go_wp2;go_ret2;exact⟨rfl,(V T).2⟩
         | false =>
          have c:=O (V f rfl);clear HH f;go_wp2
          go_roundw
          case rel=>exact⟨k+1,g2A,f6J,V c,V T⟩
          case measure=>exact g7T
       ·obtain rfl:k=i:=f6J;have f:=O (V S ae);have D:=O o;clear ae o S G;go_wp2;go_round
        case rel=>exact⟨k+1,g2A,f6J,V f,V D⟩
        case measure=>exact g7T
     ·obtain rfl:i=rs.length:=f6J;obtain rfl:=J.trans (Cn.t_end rs);have HF:=O o.2;clear J o E C;go_wp2;go_ret2;exact⟨rfl,V HF⟩
theorem z2s{H:Type}(d:DataW H):1<=Rows.uptoBulk d:=by
 cases d with
 | lit l=>cases l<;>simp[Rows.uptoBulk]
 | nil=>exact T8n
 | ptr d=>exact T8n
 | slice a b=>exact T8n
 | agg a=>exact T8n
 | iface t d=>exact T8n
 | map e=>exact T8n
 | held h=>exact T8n
theorem z2r{H:Type}(l:List (DataW H)):l.length<=Rows.uptoBulkAll l:=by
 induction l with
 | nil=>simp[Rows.uptoBulkAll]
 | cons x r ih =>
  have:=z2s x;simp only[Rows.uptoBulkAll,List.length_cons];omega
theorem y5j{H:Type}(a b:List (DataW H)):a.length<=Rows.uptoBulk (.slice a b):=by
 have:=z2r a;simp only[Rows.uptoBulk];omega
theorem bulk_string{H:Type}(l:List UInt8):l.length<=Rows.uptoBulk (DataW.lit (H:=H) (.string l)):=T8n
theorem bulk_le{H:Type}{l:List (DataW H)}(G:Rows.uptoSmall H l=true):Rows.uptoBulkAll l<=1048576:=o0d G
open Go.RowKit Go.ChangeShapes Go.WideShapes Go.Deep
theorem x5s{H:Type}(k:IntKind)(zs:List Int):Rows.uptoBulkAll (lits (H:=H) k zs)=zs.length:=by
 induction zs with
 | nil=>rfl
 | cons z zs ih =>
  have e:lits (H:=H) k (z::zs)=.lit (.int k z)::lits k zs:=rfl;rw[e,Rows.uptoBulkAll,ih];simp[Rows.uptoBulk];omega
theorem x9d{H:Type}{d:DataW H}:∀{l:List (DataW H)},d∈l->Rows.uptoBulk d<=Rows.uptoBulkAll l
 | [],h=>m5j
 | x::l,h=>by
  rw[Rows.uptoBulkAll];rcases List.mem_cons.1 h with rfl | h
  ·omega
  ·have:=x9d h;omega
section
variable {H:Type} {enc:TypeId×Value->H} {P:Program} {W:World} {base:Nat} {held:Bool}
theorem y6Y{k:FloatKind}{t:TypeId}{A:Nat->Bool}{B:Nat}{cs:List Value}{x:DataW H×List MemPlace}(p:P.underlying t=some (.float k))(h:DataW.trod enc P W base A held B t cs=some x):∃b,cs=[.float k b]/\(Lit.float k b).wf=true:=by
 cases B with
 | zero=>simp[DataW.trod]at h
 | succ n =>
  unfold DataW.trod at h;rw[p]at h;split at h<;>simp_all
theorem y4z{t q:TypeId}{k:IntKind}{B:Nat}{cs:List Value}{x:DataW H×List MemPlace}(p:P.underlying t=some (.slice q))(y:P.underlying q=some (.int k))(G:P.cellsOf q=1)
  (z:DataW.trod enc P W base (fun _=>true) held B t cs=some x) (Y:Rows.uptoBulk x.1<=1048576):∃v zs,cs=[v]/\Sk k W v zs/\zs.length<=1048576:=by
 rcases open_ints p y G z with⟨M,_⟩ | ⟨E,l,c,zs,M,_,S,o,T,A,K,C⟩
 ·exact⟨_,[],M,Sk.nil _ _,M7L⟩
 ·simp only[if_true]at T;have N:x.1=_:=congrArg Prod.fst A
  have m:l<=Rows.uptoBulk x.1:=by
   rw[N,Rows.uptoBulk,x5s,x5s,List.length_take,List.length_drop];omega
  refine⟨_,zs.take l,M,z1c (.inr ⟨_,rfl,S,o,T,K,C⟩) f6J,?_⟩;rw[List.length_take];omega
end
section
variable {H:Type} {enc:TypeId×Value->H} {W:World} {base:Nat} {held:Bool}
theorem wf_i64{n:Int}(h:(Lit.int .i64 n).wf=true):I64 n:=by
 have:IntKind.i64.min<=n/\n<=IntKind.i64.max:=(by simpa[Lit.wf]using h);simpa[I64,IntKind.min,IntKind.max,IntKind.signed,IntKind.bits]using this
theorem q1o{b:Nat}(h:(Lit.float .f64 b).wf=true):b<18446744073709551616:=by
 simpa[Lit.wf]using h
theorem q0G{n:Nat}{cs:List Value}{x:DataW H×List MemPlace}(h:DataW.trod enc prog W base (fun _=>true) held n 60 cs=some x)(hb:Rows.uptoBulk x.1<=1048576):∃p:Rec×Value,cs=x0A p/\RecFit p.1/\Sk .i32 W p.2 p.1.to:=by
 obtain⟨X,k,hk,J,F,s,z⟩:=DataW.trod_struct underlying60 h;have c8:prog.cellsOf 60=8:=f4y;have y:prog.cellsOf 3=1:=f4y;have q:prog.cellsOf 36=1:=f4y;have K:prog.cellsOf 9=1:=f4y;have S:prog.cellsOf 58=1:=f4y;have b:prog.cellsOf 21=1:=f4y;rw[c8]at F
 match X,s,cs,F with
 | [y0,y1,y2,y3,y4,y5,y6,y7],_,[v0,v1,v2,v3,v4,v5,v6,v7],_ =>
  have m:=z 0 _ rfl;have i:=z 1 _ rfl;have A:=z 2 _ rfl;have M:=z 3 _ rfl;have j:=z 4 _ rfl;have B:=z 5 _ rfl;have L:=z 6 _ rfl;have Y:=z 7 _ rfl;simp[y,q,K,S]at m i A M j B L Y;obtain⟨n0,R,_,f⟩:=DataW.trod_int underlying3 m;obtain⟨T,u,_,Q⟩:=DataW.trod_int underlying3 i;obtain⟨n2,E,_,t⟩:=DataW.trod_int underlying3 A;obtain⟨D,N,_,G⟩:=DataW.trod_int underlying3 M
  have a:Rows.uptoBulk y4.1<=1048576:=by
   rw[J]at hb;have:=x9d (d:=y4.1) (l:=[y0,y1,y2,y3,y4,y5,y6,y7].map (·.1)) M7M;simp only[Rows.uptoBulk]at hb;omega
  obtain⟨v,zs,I,s4,l4⟩:=y4z underlying36 underlying21 b j a;obtain⟨c,U,_⟩:=DataW.trod_string underlying9 B;obtain⟨o,C,_⟩:=DataW.trod_string underlying9 L;obtain⟨r,Z,g⟩:=y6Y underlying58 Y;simp only[List.cons.injEq,and_true]at R u E N I U C Z;exact⟨(⟨n0,T,n2,D,zs,c,o,r⟩,v),by rw[R,u,E,N,I,U,C,Z];rfl,⟨wf_i64 f,wf_i64 Q,wf_i64 t,wf_i64 G,by show zs.length<=_;exact f6J,q1o g⟩,s4⟩
theorem recs_open{a:Option Addr}{len cap:Nat}{d:DataW H}{p:List MemPlace}(h:DataW.Trod enc prog W base (fun _=>true) held 22 (.slice a len cap) d p)(U:Rows.uptoBulk d<=1048576):∃rs,Rcs W (.slice a len cap) rs:=by
 obtain⟨B,z⟩:=h;have t:prog.cellsOf 60=8:=f4y;rcases open_slice underlying22 z with⟨M,_⟩ | ⟨x,l,c,m,n,D,F,M,_,S,hm,J,A,T⟩
 ·simp[Value.cells]at M;obtain⟨rfl,rfl,rfl⟩:=M;exact⟨[],M7M,fun r u=>(by cases u),.inl ⟨rfl,none,0,rfl,f6J⟩⟩
 ·simp[Value.cells]at M;obtain⟨rfl,rfl,rfl⟩:=M;simp only[if_true]at J;subst J;simp only[Prod.mk.injEq]at A
  have k:len<=1048576:=by
   have:=y5j ((List.range len).map D) ((List.range (m-len)).map fun j=>D (len+j));rw[<- A.1]at this;simp only[List.length_map,List.length_range]at this;omega
  have C:∀i,i<len->Rows.uptoBulk (D i)<=1048576:=fun i hi=>by
   have Z:=x9d (d:=D i) (l:=(List.range len).map D) (List.mem_map.2 ⟨i,List.mem_range.2 hi,rfl⟩);rw[A.1]at U;simp only[Rows.uptoBulk]at U;omega
  rw[t]at T;have q:Inhabited (Rec×Value):=⟨(Cn.none,undef)⟩
  obtain⟨R,I⟩:=choose_lt (α:=Rec×Value) (p:=fun i r=>W.cells? base (x.add (i*8)) 8=some (x0A r)/\RecFit r.1/\Sk .i32 W r.2 r.1.to) (n:=len) (fun i hi=>by
   obtain⟨E,Z,y⟩:=T i f6J;obtain⟨r,rfl,f⟩:=q0G y (C i hi)
   exact⟨r,Z,f⟩)
  have Q:((List.range len).map fun i=>(R i).1).length=len:=M7M;refine⟨(List.range len).map fun i=>(R i).1,by rw[Q];exact f6J,fun r u=>?_,?_⟩
  ·obtain⟨i,hi,rfl⟩:=List.mem_map.1 u;exact(I i (List.mem_range.1 hi)).2.1
  ·unfold maxLen at hm;rcases Nat.eq_zero_or_pos len with h0 | h0
   ·subst h0;exact .inl ⟨rfl,some x,m,rfl,f6J⟩
   ·have K:∀i,i<len->∀j,j<8->W.cell? (x.add (i*8+j))=(x0A (R i))[j]?:=by
     intro i hi j X;obtain⟨_,g,Y⟩:=World.cells?_some (I i hi).1;have:=Y j f6J;rw[add_add]at this;exact this
    have L:=K 0 h0 0 f6J;have N:x.add (0*8+0)=x:=(by simp[Addr.add]);rw[N]at L;have s:=plain_of_cell (v:=.int .i64 (R 0).1.kind) L;generalize x.block=b,x.off=o at *;subst s;refine .inr ⟨b,o,m,by rw[Q],by rw[Q];exact f6J,f6J,fun i hi=>?_⟩;rw[Q]at hi;have hd:((List.range len).map fun i=>(R i).1).getD i Cn.none=(R i).1:=n7C;rw[hd]
    have G:∀j,j<8->W.cell? ⟨b,o+i*8+j,none⟩=(x0A (R i))[j]?:=fun j X=>by
     have:=K i hi j X;rw[addr_add]at this;rw[(f6J:o+i*8+j=o+(i*8+j))];exact this
    exact⟨G 0 f6J,G 1 f6J,G 2 f6J,G 3 f6J,⟨_,G 4 f6J,(I i hi).2.2⟩,G 5 f6J,G 6 f6J,G 7 f6J⟩
theorem z8y{t:TypeId}{a:Option Addr}{len cap:Nat}{d:DataW H}{p:List MemPlace}(A:prog.underlying t=some (.slice 21))(h:DataW.Trod enc prog W base (fun _=>true) held t (.slice a len cap) d p)(Y:Rows.uptoBulk d<=1048576):∃zs,Sk .i32 W (.slice a len cap) zs/\zs.length<=1048576:=by
 obtain⟨B,z⟩:=h;obtain⟨v,zs,e,s,l⟩:=y4z A underlying21 f4x z Y;simp[Value.cells]at e;subst e;exact⟨zs,s,l⟩
end
