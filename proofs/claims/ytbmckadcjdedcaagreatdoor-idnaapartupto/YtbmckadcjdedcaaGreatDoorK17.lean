/- Lemmas. -/
import Derived.Test.YtbmckadcjdedcaaGreatDoorK10
import Derived.Deep.RegionWith
import Derived.Test.YtbmckadcjdedcaaGreatDoorRows
import Derived.Deep.Matrix
import Derived.OpenShut
set_option maxHeartbeats 4000000
set_option maxRecDepth 20000
namespace Go.Proofs.YtbmckadcjdedcaaGreatDoor
open Go.Proofs.Tryz
open Go.RowKit
section
variable{p:Prop}
theorem T8n(h:p:=by simp[Rows.uptoBulk]):p:=h
theorem R9s(h:p:=by
 obtain rfl:=V X true (d0t f6J);have K:Hid (y=false->res=(rs.length,70)):=fun h=>V l rfl h;go_wp2_with fail;refine c0m KP fun d F=>?_
 cases y with
 | false =>exact V9Q
 | true =>
  have f:=O (V x (.inr rfl));have D:=O ((V T).on F);go_wp2;go_round
  case rel=>exact⟨c+1,g2A,f6J,f6J,V f,V D⟩
  case measure=>simp[intOf]<;>omega):p:=h
theorem M8G(h:p:=by
 obtain rfl:=V X false (d0f f6J);have f:=O (V x (.inl rfl));have D:=O (V T);go_wp2;go_round
 case rel=>exact⟨c+1,g2A,f6J,f6J,V f,V D⟩
 case measure=>exact g7T):p:=h
theorem V9Q(h:p:=by obtain rfl:=V K rfl;have Y:=O ((V T).on F).2;go_wp2;go_ret2;exact⟨rfl,V Y⟩):p:=h
theorem t2V(h:p:=by have D:=O ((V T).on F).2;go_wp2;go_ret2;exact⟨rfl,V D⟩):p:=h
end
namespace Cn
def x5Q(rs:List Rec)(k:Nat):Nat×Int:=match x0W rs k (rs.drop k)with
 | some x=>x
 | Option.none=>if baseA rs 78 45 then(0,0)else(rs.length,70)
theorem z3i{rs k}(G:k<rs.length)(h:record rs k (rs.getD k none)≠0):x5Q rs k=(k,record rs k (rs.getD k none)):=by
 have e:rs.getD k none=rs[k]:=(by grind);rw[e]at h ⊢;unfold x5Q;rw[List.drop_eq_getElem_cons G,x0W,if_neg h]
theorem z0A{rs k}(G:k<rs.length)(h:record rs k (rs.getD k none)=0):x5Q rs k=x5Q rs (k+1):=by
 have e:rs.getD k none=rs[k]:=(by grind);rw[e]at h;unfold x5Q;rw[List.drop_eq_getElem_cons G,x0W,if_pos h]
def x7v(rs:List Rec)(c:Nat):Nat×Int:=if baseA rs (123-c) c then(0,0)else(rs.length,70)
theorem z3h rs:x5Q rs rs.length=x7v rs 45:=by
 unfold x5Q;rw[List.drop_length,x0W];rfl
theorem z1j{rs c}(h:123<=c):x7v rs c=(0,0):=by
 unfold x7v;rw[(f6J:123-c=0),baseA,if_pos rfl]
theorem z4C{rs}{c:Nat}(h:c<=122)(Z:baseOf c=true)(D:plain rs c=false):x7v rs c=(rs.length,70):=by
 unfold x7v;rw[(f6J:123-c=(122-c)+1),baseA,Z,D];rfl
theorem y6Q{rs}{c:Nat}(h:c<=122)(Z:baseOf c=false\/plain rs c=true):x7v rs c=x7v rs (c+1):=by
 unfold x7v;rw[(f6J:123-c=(123-(c+1))+1),baseA];have:(!baseOf (c:Int)||plain rs (c:Int))=true:=(by rcases Z with e | e<;>simp[e]);rw[this,Bool.true_and,Int.natCast_add];rfl
theorem y7j{rs}(h:(check6 rs).2≠0):check rs=check6 rs:=by unfold check;rw[if_pos h]
theorem x4b{rs}(h:(check6 rs).2=0):check rs=x5Q rs 0:=by unfold check x5Q;rw[if_neg (fun e=>e h)];rfl
end Cn
def y1x:Prop:=∀(v:Value) (rs:List Rec) (w:World),Rcs w v rs->Calls prog 42 #[v] w (x3X w (Cn.check6 rs))
def y6E:Prop:=∀(v:Value) (rs:List Rec) (i:Nat) (w:World),Rcs w v rs->(Cn.check6 rs).2=0->i<rs.length->Calls prog 43 #[v,.int .i64 i] w (IntB w (Cn.record rs i (rs.getD i Cn.none)))
def ChIn(w:World)(v:Value)(rs:List Rec)(wr:World):Prop:=Rcs wr v rs/\Below w.heap.size w wr
theorem ChIn.on{w wr w' v rs}(h:ChIn w v rs wr)(Q:Bw wr w'):ChIn w v rs w':=⟨h.1.below Q,x0b h.2 Q⟩
theorem y0U(H6:y1x)(HR:y6E):y6D:=by
 intro v rs w N;have K6:=O (H6 v rs w N);have ae:Hid ((Cn.check6 rs).2≠0->Cn.check rs=Cn.check6 rs):=Cn.y7j;have Z:Hid ((Cn.check6 rs).2=0->Cn.check rs=Cn.x5Q rs 0/\∀(i:Nat) (wr:World),Rcs wr v rs->i<rs.length->Calls prog 43 #[v,.int .i64 i] wr (IntB wr (Cn.record rs i (rs.getD i Cn.none)))):=fun h=>⟨Cn.x4b h,fun i wr u hi=>HR v rs i wr u h hi⟩;have Q:Hid (ChIn w v rs w):=⟨N,b0r⟩;generalize Cn.check rs=res,Cn.check6 rs=q at *;obtain⟨L,g⟩:=q;have ag:=N.1;obtain⟨R,M,rfl,_,_⟩:=N.shape;go_enter func23,ntmps23;go_wp2_with fail;refine c0m K6 fun I E=>?_;by_cases m:g=0
 ·obtain⟨B,n⟩:=V Z m;obtain rfl:g=0:=m;have p:=O n;have U:=O B;have r:=O ((V Q).on E);go_wp2;go_loopw[6,7] (fun S _ wr=>∃k:Nat,S=.int .i64 k/\k<=rs.length/\res=Cn.x5Q rs k/\ChIn w (.slice R rs.length M) rs wr) (fun S _ _=>rs.length-(intOf S).toNat)
  case atStart=>exact⟨0,rfl,f6J,V U,V r⟩
  case round =>
   obtain⟨k,rfl,hk,B,A⟩:=hrel;by_cases ab:k<rs.length
   ·have C:=O (V p k wr A.1 ab);have af:Hid (Cn.record rs k (rs.getD k Cn.none)≠0->res=(k,Cn.record rs k (rs.getD k Cn.none))):=fun h=>B.trans (Cn.z3i ab h);have x:Hid (Cn.record rs k (rs.getD k Cn.none)=0->res=Cn.x5Q rs (k+1)):=fun h=>B.trans (Cn.z0A ab h);have T:=O A;generalize Cn.record rs k (rs.getD k Cn.none)=y at *;go_wp2_with fail;refine c0m C fun d F=>?_;by_cases s:y=0
    ·have f:=O (V x s);obtain rfl:y=0:=s;have D:=O ((V T).on F);go_wp2;go_round
     case rel=>exact⟨k+1,g2A,f6J,V f,V D⟩
     case measure=>exact g7T
    ·obtain rfl:=V af s;have j:(y==0)=false:=b0f s;exact t2V
   ·obtain rfl:k=rs.length:=f6J;have U:=O (B.trans (Cn.z3h rs));have T:=O A;go_wp2;go_loopw[8] (fun S t=>∃c:Nat,S=.int .i32 c/\45<=c/\c<=123/\res=Cn.x7v rs c/\ChIn w (.slice R rs.length M) rs t) (fun S _=>123-(intOf S).toNat)
    case atStart=>exact⟨45,rfl,f6J,f6J,V U,V T⟩
    case round =>
     obtain⟨c,rfl,ai,aj,B,A⟩:=hrel;by_cases G:c<=122
     ·have KP:=O (y0W _ rs c wr A.1 ⟨f6J,f6J⟩);have l:Hid (Cn.baseOf c=true->Cn.plain rs c=false->res=(rs.length,70)):=fun a b=>B.trans (Cn.z4C G a b);have x:Hid (Cn.baseOf c=false\/Cn.plain rs c=true->res=Cn.x7v rs (c+1)):=fun a=>B.trans (Cn.y6Q G a);have T:=O A;have X:Hid (∀b,decide ((c:Int)=45\/(c:Int)=46\/(48<=(c:Int)/\(c:Int)<=57)\/97<=(c:Int))=b->Cn.baseOf c=b):=fun b h=>h;generalize Cn.plain rs c=y,Cn.baseOf c=z at *;by_cases e1:c=45
      ·subst e1;obtain rfl:=V X true (d0t f6J);have K:Hid (y=false->res=(rs.length,70)):=fun h=>V l rfl h;go_wp2_with fail;refine c0m KP fun d F=>?_
       cases y with
       | false =>exact V9Q
       | true =>
        have f:=O (V x (.inr rfl));have D:=O ((V T).on F);go_wp2;go_round
        case rel=>exact⟨46,g2A,f6J,f6J,V f,V D⟩
        case measure=>simp[intOf]<;>omega
      ·by_cases e2:c=46
       ·subst e2;obtain rfl:=V X true (d0t f6J);have K:Hid (y=false->res=(rs.length,70)):=fun h=>V l rfl h;go_wp2_with fail;refine c0m KP fun d F=>?_
        cases y with
        | false =>exact V9Q
        | true =>
         have f:=O (V x (.inr rfl));have D:=O ((V T).on F);go_wp2;go_round
         case rel=>exact⟨47,g2A,f6J,f6J,V f,V D⟩
         case measure=>simp[intOf]<;>omega
       ·have am:((c:Int)==45)=false:=b0f f6J;have aq:((c:Int)==46)=false:=b0f f6J;by_cases J:48<=c
        ·by_cases o:c<=57
         ·exact R9s
         ·by_cases e5:97<=c
          ·exact R9s
          ·exact M8G
        ·exact M8G
     ·obtain rfl:=B.trans (Cn.z1j f6J);have Y:=O A.2;go_wp2;go_ret2;exact⟨rfl,V Y⟩
 ·obtain rfl:=V ae m;have j:(g==0)=false:=b0f m;have Y:=O E;go_wp2;go_ret2;exact⟨rfl,V Y⟩
namespace Cn
def x5R(rs:List Rec)(i:Nat):Nat×Int:=match x1E rs i (rs.drop i)with
 | some i=>(i,62)
 | Option.none=>(0,0)
def x7i(rs:List Rec)(k:Nat):Nat×Int:=match x1g k (rs.drop k)with
 | some x=>x
 | Option.none=>x5R rs 0
theorem q_hit{rs k}(G:k<rs.length)(h:right (rs.getD k none)≠0):x7i rs k=(k,right (rs.getD k none)):=by
 have e:rs.getD k none=rs[k]:=(by grind);rw[e]at h ⊢;unfold x7i;rw[List.drop_eq_getElem_cons G,x1g,if_neg h]
theorem z8U{rs k}(G:k<rs.length)(h:right (rs.getD k none)=0):x7i rs k=x7i rs (k+1):=by
 have e:rs.getD k none=rs[k]:=(by grind);rw[e]at h;unfold x7i;rw[List.drop_eq_getElem_cons G,x1g,if_pos h]
theorem q_end rs:x7i rs rs.length=x5R rs 0:=by
 unfold x7i;rw[List.drop_length,x1g]
theorem t_hit{rs i k}(hi:i<rs.length)(G:k<i)(h:clash (rs.getD k none) (rs.getD i none)=true):x5R rs i=(i,62):=by
 have e:rs.getD i none=rs[i]:=(by grind);have f:rs.getD k none=rs[k]:=(by grind);rw[e,f]at h;unfold x5R;rw[List.drop_eq_getElem_cons hi,x1E,if_pos];rw[List.any_eq_true];exact⟨rs[k],List.mem_take_iff_getElem.2 ⟨k,f6J,rfl⟩,h⟩
theorem z9G{rs i}(hi:i<rs.length)(h:∀k,k<i->clash (rs.getD k none) (rs.getD i none)=false):x5R rs i=x5R rs (i+1):=by
 have e:rs.getD i none=rs[i]:=(by grind);unfold x5R;rw[List.drop_eq_getElem_cons hi,x1E,if_neg];rw[List.any_eq_true];rintro⟨x,J,T⟩;obtain⟨k,G,rfl⟩:=List.mem_take_iff_getElem.1 J;have:=h k f6J;rw[e,show rs.getD k none=rs[k]by simp[List.getD,(f6J:k<rs.length)]]at this;rw[this]at T;cases T
theorem t_end rs:x5R rs rs.length=(0,0):=by
 unfold x5R;rw[List.drop_length,x1E]
theorem y1I{rs}(h:4096<rs.length):check6 rs=(0,3):=by unfold check6;rw[if_pos h]
theorem y4F{rs}(h:¬4096<rs.length):check6 rs=x7i rs 0:=by
 unfold check6 x7i x5R;rw[if_neg h];rfl
end Cn
def z3x:Prop:=∀(r:Rec) (vt:Value) (w:World),RecFit r->Sk .i32 w vt r.to->Calls prog 70 #[recV r vt] w (IntB w (Cn.right r))
def z3w:Prop:=∀(a b:Rec) (va vb:Value) (w:World),RecFit a->RecFit b->Sk .i32 w va a.to->Sk .i32 w vb b.to->Cn.right a=0->Cn.right b=0->Calls prog 71 #[recV a va,recV b vb] w (x0c w (Cn.clash a b))
theorem x9z(HR:z3x)(HC:z3w):y1x:=by
 intro v rs w N;have HW:Hid (ChIn w v rs w):=⟨N,b0r⟩;have ay:=N.1;by_cases o:4096<rs.length
 ·rw[Cn.y1I o];obtain⟨R,M,rfl,_,_⟩:=N.shape;go_enter func42,ntmps42;go_wp2;go_ret2;exact⟨rfl,b0r⟩
 ·have U:=O (Cn.y4F o);generalize Cn.check6 rs=L at *;obtain⟨R,M,rfl,_,_⟩:=N.shape;have HR:=O HR;have HC:=O HC;go_enter func42,ntmps42;go_wp2;go_loopw[4,5] (fun iv _ wr=>∃k:Nat,iv=.int .i64 k/\k<=rs.length/\L=Cn.x7i rs k/\(∀j,j<k->Cn.right (rs.getD j Cn.none)=0)/\ChIn w (.slice R rs.length M) rs wr) (fun iv _ _=>rs.length-(intOf iv).toNat)
  case atStart=>exact⟨0,rfl,f6J,V U,fun j K=>absurd K (Nat.not_lt_zero _),V HW⟩
  case round =>
   obtain⟨k,rfl,hk,B,S,A⟩:=hrel;by_cases ae:k<rs.length
   ·have ab:Hid (Cn.right (rs.getD k Cn.none)≠0->L=(k,Cn.right (rs.getD k Cn.none))):=fun h=>B.trans (Cn.q_hit ae h)
    have x:Hid (Cn.right (rs.getD k Cn.none)=0->L=Cn.x7i rs (k+1)/\∀j,j<k+1->Cn.right (rs.getD j Cn.none)=0):=fun h=>⟨B.trans (Cn.z8U ae h),fun j K=>by
     rcases Nat.lt_or_ge j k with Z | Z
     ·exact S j Z
     ·obtain rfl:j=k:=by omega
      exact h⟩
    have T:=O A;have hf:=A.1.fit ae;obtain⟨b,af,J,d,q,aw,hc⟩:=A.1.place f6J;obtain⟨rfl,rfl⟩:R=some ⟨b,af,none⟩/\M=J:=V6s;have hA:=hc k ae;obtain⟨z,u,X,g,⟨va,x4,I⟩,x5,x6,Q⟩:=hA;have C:=O (V HR _ va wr hf I);unfold recV at C;obtain⟨tq,tc,rfl,_,_⟩:=I.shape;generalize Cn.right (rs.getD k Cn.none)=y at *;generalize rs.getD k Cn.none=r at *;generalize r.kind=kd,r.n=n,r.lo=lo,r.hi=hi at *;generalize r.name=nm,r.other=ot,r.wt=wt,r.to.length=tl at *;go_wp2_with fail;refine c0m C fun w2 F=>?_;by_cases s:y=0
    ·have f:=O (V x s);obtain rfl:y=0:=s;have D:=O ((V T).on F);go_wp2;go_round
     case rel=>exact⟨k+1,g2A,f6J,(V f).1,(V f).2,V D⟩
     case measure=>exact g7T
    ·obtain rfl:=V ab s;have aA:(y==0)=false:=b0f s;exact t2V
   ·obtain rfl:k=rs.length:=f6J;have U:=O (B.trans (Cn.q_end rs));have T:=O A;have m:=O S;go_wp2;go_loopw[6,7] (fun iv _ wi=>∃i:Nat,iv=.int .i64 i/\i<=rs.length/\L=Cn.x5R rs i/\ChIn w (.slice R rs.length M) rs wi) (fun iv _ _=>rs.length-(intOf iv).toNat)
    case atStart=>exact⟨0,rfl,f6J,V U,V T⟩
    case round =>
     obtain⟨i,rfl,hi,B,A⟩:=hrel;by_cases G:i<rs.length
     ·have ab:Hid (∀k,k<i->Cn.clash (rs.getD k Cn.none) (rs.getD i Cn.none)=true->L=(i,62)):=fun k a h=>B.trans (Cn.t_hit G a h);have x:Hid ((∀k,k<i->Cn.clash (rs.getD k Cn.none) (rs.getD i Cn.none)=false)->L=Cn.x5R rs (i+1)):=fun h=>B.trans (Cn.z9G G h);have T:=O A;go_wp2;go_loopw[7] (fun l wj=>∃k:Nat,l=.int .i64 k/\k<=i/\(∀j,j<k->Cn.clash (rs.getD j Cn.none) (rs.getD i Cn.none)=false)/\ChIn w (.slice R rs.length M) rs wj) (fun l _=>i-(intOf l).toNat)
      case atStart=>exact⟨0,rfl,f6J,fun j K=>absurd K (Nat.not_lt_zero _),V T⟩
      case round =>
       obtain⟨k,rfl,az,p,A⟩:=hrel;clear T;by_cases am:k<i
       ·have t:=O (V ab k am)
        have f:Hid (Cn.clash (rs.getD k Cn.none) (rs.getD i Cn.none)=false->∀j,j<k+1->Cn.clash (rs.getD j Cn.none) (rs.getD i Cn.none)=false):=fun h j K=>by
         rcases Nat.lt_or_ge j k with Z | Z
         ·exact p j Z
         ·obtain rfl:j=k:=f6J;exact h
        have T:=O A;have aj:=A.1.fit (i:=k) f6J;have ai:=A.1.fit G;have ar:=V m k f6J;have aq:=V m i G;obtain⟨b,af,J,d,q,aw,hc⟩:=A.1.place f6J;obtain⟨rfl,rfl⟩:R=some ⟨b,af,none⟩/\M=J:=V6s;have hA:=hc k f6J;have hB:=hc i G;clear hc d p A ab x m;obtain⟨z,u,X,g,⟨va,x4,I⟩,x5,x6,Q⟩:=hA;obtain⟨y0,y1,y2,y3,⟨vb,y4,ag⟩,y5,y6,y7⟩:=hB;have C:Hid (∀n,Calls prog 71 #[recV (rs.getD k Cn.none) va,recV (rs.getD i Cn.none) vb] (wr.drewN n) (x0c (wr.drewN n) (Cn.clash (rs.getD k Cn.none) (rs.getD i Cn.none)))):=fun n=>V HC _ _ va vb _ aj ai (x5h I n) (x5h ag n) ar aq;unfold recV at C;obtain⟨tq,tc,rfl,_,_⟩:=I.shape;obtain⟨uo,uc,rfl,_,_⟩:=ag.shape;clear HC aj ai ar aq I ag;generalize Cn.clash (rs.getD k Cn.none) (rs.getD i Cn.none)=y at t C f;generalize(rs.getD k Cn.none).kind=kind1,(rs.getD k Cn.none).lo=lo1,(rs.getD k Cn.none).hi=hi1,(rs.getD k Cn.none).n=n1 at *;generalize(rs.getD k Cn.none).name=name1,(rs.getD k Cn.none).other=other1,(rs.getD k Cn.none).wt=wt1,(rs.getD k Cn.none).to.length=aB at *;generalize(rs.getD i Cn.none).kind=kind2,(rs.getD i Cn.none).lo=lo2,(rs.getD i Cn.none).hi=hi2,(rs.getD i Cn.none).n=n2 at *;generalize(rs.getD i Cn.none).name=name2,(rs.getD i Cn.none).other=other2,(rs.getD i Cn.none).wt=wt2,(rs.getD i Cn.none).to.length=aC at *;go_wp2;go_region_with (refine(V C _).mono ?_;rintro e w1 ⟨rfl,E⟩)
        all_goals
         have D:=O ((V T).on (x0b (x0k ⟨_,rfl⟩) E));clear E T C z u X g x4 x5 x6 Q y0 y1 y2 y3 y4 y5 y6 y7
         cases y with
         | true =>
          obtain rfl:=V t rfl;clear t f;go_wp2;go_ret2;exact⟨rfl,(V D).2⟩
         | false =>
          have c:=O (V f rfl);clear t f;go_wp2
          go_roundw
          case rel=>exact⟨k+1,g2A,f6J,V c,V D⟩
          case measure=>exact g7T
       ·obtain rfl:k=i:=f6J;have f:=O (V x p);have T:=O A;clear p A x ab;go_wp2;go_round
        case rel=>exact⟨k+1,g2A,f6J,V f,V T⟩
        case measure=>exact g7T
     ·obtain rfl:i=rs.length:=f6J;obtain rfl:=B.trans (Cn.t_end rs);have Y:=O A.2;clear B A m HC;go_wp2;go_ret2;exact M8S
theorem z1t{H:Type}(d:DataW H):1<=Rows.uptoBulk d:=by
 cases d with
 | lit l=>cases l<;>simp[Rows.uptoBulk]
 | nil=>exact T8n
 | ptr d=>exact T8n
 | slice a b=>exact T8n
 | agg a=>exact T8n
 | iface t d=>exact T8n
 | map e=>exact T8n
 | held h=>exact T8n
theorem z1s{H:Type}(l:List (DataW H)):l.length<=Rows.uptoBulkAll l:=by
 induction l with
 | nil=>simp[Rows.uptoBulkAll]
 | cons x r ih =>
  have:=z1t x;simp only[Rows.uptoBulkAll,List.length_cons];omega
theorem y4C{H:Type}(a b:List (DataW H)):a.length<=Rows.uptoBulk (.slice a b):=by
 have:=z1s a;simp only[Rows.uptoBulk];omega
theorem bulk_string{H:Type}(l:List UInt8):l.length<=Rows.uptoBulk (DataW.lit (H:=H) (.string l)):=T8n
theorem bulk_le{H:Type}{l:List (DataW H)}(G:Rows.uptoSmall H l=true):Rows.uptoBulkAll l<=1048576:=o0d G
open Go.RowKit Go.ChangeShapes Go.WideShapes Go.Deep
theorem x5r{H:Type}(k:IntKind)(zs:List Int):Rows.uptoBulkAll (lits (H:=H) k zs)=zs.length:=by
 induction zs with
 | nil=>rfl
 | cons z zs ih =>
  have e:lits (H:=H) k (z::zs)=.lit (.int k z)::lits k zs:=rfl;rw[e,Rows.uptoBulkAll,ih];simp[Rows.uptoBulk];omega
theorem x8I{H:Type}{d:DataW H}:∀{l:List (DataW H)},d∈l->Rows.uptoBulk d<=Rows.uptoBulkAll l
 | [],h=>m5j
 | x::l,h=>by
  rw[Rows.uptoBulkAll];rcases List.mem_cons.1 h with rfl | h
  ·omega
  ·have:=x8I h;omega
section
variable {H:Type} {enc:TypeId×Value->H} {P:Program} {W:World} {base:Nat} {held:Bool}
theorem y6q{k:FloatKind}{t:TypeId}{A:Nat->Bool}{B:Nat}{cs:List Value}{x:DataW H×List MemPlace}(K:P.underlying t=some (.float k))(h:DataW.trod enc P W base A held B t cs=some x):∃b,cs=[.float k b]/\(Lit.float k b).wf=true:=by
 cases B with
 | zero=>simp[DataW.trod]at h
 | succ n =>
  unfold DataW.trod at h;rw[K]at h;split at h<;>simp_all
theorem y3V{t q:TypeId}{k:IntKind}{B:Nat}{cs:List Value}{x:DataW H×List MemPlace}(K:P.underlying t=some (.slice q))(m:P.underlying q=some (.int k))(D:P.cellsOf q=1)
  (U:DataW.trod enc P W base (fun _=>true) held B t cs=some x) (Q:Rows.uptoBulk x.1<=1048576):∃v zs,cs=[v]/\Sk k W v zs/\zs.length<=1048576:=by
 rcases open_ints K m D U with⟨i,_⟩ | ⟨E,l,c,zs,i,_,S,y,o,J,X,C⟩
 ·exact⟨_,[],i,Sk.nil _ _,M7L⟩
 ·simp only[if_true]at o;have A:x.1=_:=congrArg Prod.fst J
  have F:l<=Rows.uptoBulk x.1:=by
   rw[A,Rows.uptoBulk,x5r,x5r,List.length_take,List.length_drop];omega
  refine⟨_,zs.take l,i,z0k (.inr ⟨_,rfl,S,y,o,X,C⟩) f6J,?_⟩;rw[List.length_take];omega
end
section
variable {H:Type} {enc:TypeId×Value->H} {W:World} {base:Nat} {held:Bool}
theorem wf_i64{n:Int}(h:(Lit.int .i64 n).wf=true):I64 n:=by
 have:IntKind.i64.min<=n/\n<=IntKind.i64.max:=(by simpa[Lit.wf]using h);simpa[I64,IntKind.min,IntKind.max,IntKind.signed,IntKind.bits]using this
theorem z9R{b:Nat}(h:(Lit.float .f64 b).wf=true):b<18446744073709551616:=by
 simpa[Lit.wf]using h
theorem z9d{n:Nat}{cs:List Value}{x:DataW H×List MemPlace}(h:DataW.trod enc prog W base (fun _=>true) held n 67 cs=some x)(Q:Rows.uptoBulk x.1<=1048576):∃p:Rec×Value,cs=x0y p/\RecFit p.1/\Sk .i32 W p.2 p.1.to:=by
 obtain⟨t,k,G,A,E,j,U⟩:=DataW.trod_struct underlying67 h;have c8:prog.cellsOf 67=8:=f4y;have C:prog.cellsOf 3=1:=f4y;have c2:prog.cellsOf 40=1:=f4y;have s:prog.cellsOf 9=1:=f4y;have u:prog.cellsOf 65=1:=f4y;have b:prog.cellsOf 21=1:=f4y;rw[c8]at E
 match t,j,cs,E with
 | [y0,y1,y2,y3,y4,y5,y6,y7],_,[v0,v1,v2,v3,v4,v5,v6,v7],_ =>
  have q:=U 0 _ rfl;have M:=U 1 _ rfl;have T:=U 2 _ rfl;have I:=U 3 _ rfl;have K:=U 4 _ rfl;have X:=U 5 _ rfl;have Y:=U 6 _ rfl;have m:=U 7 _ rfl;simp[C,c2,s,u]at q M T I K X Y m;obtain⟨n0,r,_,a⟩:=DataW.trod_int underlying3 q;obtain⟨S,e1,_,w1⟩:=DataW.trod_int underlying3 M;obtain⟨z,f,_,w2⟩:=DataW.trod_int underlying3 T;obtain⟨D,J,_,w3⟩:=DataW.trod_int underlying3 I
  have R:Rows.uptoBulk y4.1<=1048576:=by
   rw[A]at Q;have:=x8I (d:=y4.1) (l:=[y0,y1,y2,y3,y4,y5,y6,y7].map (·.1)) M7M;simp only[Rows.uptoBulk]at Q;omega
  obtain⟨v,L,o,y,l4⟩:=y3V underlying40 underlying21 b K R;obtain⟨g,N,_⟩:=DataW.trod_string underlying9 X;obtain⟨F,Z,_⟩:=DataW.trod_string underlying9 Y;obtain⟨c,B,i⟩:=y6q underlying65 m;simp only[List.cons.injEq,and_true]at r e1 f J o N Z B;exact⟨(⟨n0,S,z,D,L,g,F,c⟩,v),by rw[r,e1,f,J,o,N,Z,B];rfl,⟨wf_i64 a,wf_i64 w1,wf_i64 w2,wf_i64 w3,by show L.length<=_;exact f6J,z9R i⟩,y⟩
theorem recs_open{a:Option Addr}{len cap:Nat}{d:DataW H}{p:List MemPlace}(h:DataW.Trod enc prog W base (fun _=>true) held 23 (.slice a len cap) d p)(Q:Rows.uptoBulk d<=1048576):∃rs,Rcs W (.slice a len cap) rs:=by
 obtain⟨B,U⟩:=h;have N:prog.cellsOf 67=8:=f4y;rcases open_slice underlying23 U with⟨T,_⟩ | ⟨x,l,c,m,n,D,Pl,T,_,S,y,I,J,C⟩
 ·simp[Value.cells]at T;obtain⟨rfl,rfl,rfl⟩:=T;exact⟨[],M7M,fun r u=>(by cases u),.inl ⟨rfl,none,0,rfl,f6J⟩⟩
 ·simp[Value.cells]at T;obtain⟨rfl,rfl,rfl⟩:=T;simp only[if_true]at I;subst I;simp only[Prod.mk.injEq]at J
  have s:len<=1048576:=by
   have:=y4C ((List.range len).map D) ((List.range (m-len)).map fun j=>D (len+j));rw[<- J.1]at this;simp only[List.length_map,List.length_range]at this;omega
  have F:∀i,i<len->Rows.uptoBulk (D i)<=1048576:=fun i hi=>by
   have Z:=x8I (d:=D i) (l:=(List.range len).map D) (List.mem_map.2 ⟨i,List.mem_range.2 hi,rfl⟩);rw[J.1]at Q;simp only[Rows.uptoBulk]at Q;omega
  rw[N]at C;have q:Inhabited (Rec×Value):=⟨(Cn.none,undef)⟩
  obtain⟨R,g⟩:=choose_lt (α:=Rec×Value) (p:=fun i r=>W.cells? base (x.add (i*8)) 8=some (x0y r)/\RecFit r.1/\Sk .i32 W r.2 r.1.to) (n:=len) (fun i hi=>by
   obtain⟨M,Z,k⟩:=C i f6J;obtain⟨r,rfl,f⟩:=z9d k (F i hi)
   exact⟨r,Z,f⟩)
  have z:((List.range len).map fun i=>(R i).1).length=len:=M7M;refine⟨(List.range len).map fun i=>(R i).1,by rw[z];exact f6J,fun r u=>?_,?_⟩
  ·obtain⟨i,hi,rfl⟩:=List.mem_map.1 u;exact(g i (List.mem_range.1 hi)).2.1
  ·unfold maxLen at y;rcases Nat.eq_zero_or_pos len with h0 | h0
   ·subst h0;exact .inl ⟨rfl,some x,m,rfl,f6J⟩
   ·have X:∀i,i<len->∀j,j<8->W.cell? (x.add (i*8+j))=(x0y (R i))[j]?:=by
     intro i hi j K;obtain⟨_,t,Y⟩:=World.cells?_some (g i hi).1;have:=Y j f6J;rw[add_add]at this;exact this
    have E:=X 0 h0 0 f6J;have A:x.add (0*8+0)=x:=(by simp[Addr.add]);rw[A]at E;have L:=plain_of_cell (v:=.int .i64 (R 0).1.kind) E;generalize x.block=b,x.off=o at *;subst L;refine .inr ⟨b,o,m,by rw[z],by rw[z];exact f6J,f6J,fun i hi=>?_⟩;rw[z]at hi;have hd:((List.range len).map fun i=>(R i).1).getD i Cn.none=(R i).1:=n7B;rw[hd]
    have G:∀j,j<8->W.cell? ⟨b,o+i*8+j,none⟩=(x0y (R i))[j]?:=fun j K=>by
     have:=X i hi j K;rw[addr_add]at this;rw[(f6J:o+i*8+j=o+(i*8+j))];exact this
    exact⟨G 0 f6J,G 1 f6J,G 2 f6J,G 3 f6J,⟨_,G 4 f6J,(g i hi).2.2⟩,G 5 f6J,G 6 f6J,G 7 f6J⟩
theorem z7f{t:TypeId}{a:Option Addr}{len cap:Nat}{d:DataW H}{p:List MemPlace}(K:prog.underlying t=some (.slice 21))(h:DataW.Trod enc prog W base (fun _=>true) held t (.slice a len cap) d p)(Q:Rows.uptoBulk d<=1048576):∃zs,Sk .i32 W (.slice a len cap) zs/\zs.length<=1048576:=by
 obtain⟨B,U⟩:=h;obtain⟨v,zs,e,s,l⟩:=y3V K underlying21 f4x U Q;simp[Value.cells]at e;subst e;exact⟨zs,s,l⟩
end
