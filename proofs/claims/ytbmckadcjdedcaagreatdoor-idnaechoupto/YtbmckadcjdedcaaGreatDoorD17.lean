/- Rt7 Ru7 Bulk RecOpen -/
import Derived.Test.YtbmckadcjdedcaaGreatDoorD10
import Derived.Deep.RegionWith
import Derived.Test.YtbmckadcjdedcaaGreatDoorRows
import Derived.Deep.Matrix
import Derived.OpenShut
set_option maxHeartbeats 4000000
set_option maxRecDepth 20000
namespace Go.Proofs.YtbmckadcjdedcaaGreatDoor
open Go.Proofs.Tryz
open Go.RowKit
section
variable{p:Prop}
theorem T8n(h:p:=by simp[Rows.uptoBulk]):p:=h
theorem t9g(h:p:=by
 obtain rfl:=V X true (d0t f6J);have G:Hid (y=false->res=(rs.length,70)):=fun h=>V m rfl h;go_wp2_with fail;refine c0m KP fun w2 F=>?_
 cases y with
 | false =>exact f3W
 | true =>
  have B:=O (V K (.inr rfl));have p:=O ((V ab).on F);go_wp2;go_round
  case rel=>exact⟨c+1,g2A,f6J,f6J,V B,V p⟩
  case measure=>simp[intOf]<;>omega):p:=h
theorem f3n(h:p:=by
 obtain rfl:=V X false (d0f f6J);have B:=O (V K (.inl rfl));have p:=O (V ab);go_wp2;go_round
 case rel=>exact⟨c+1,g2A,f6J,f6J,V B,V p⟩
 case measure=>exact g7T):p:=h
theorem f3W(h:p:=by obtain rfl:=V G rfl;have T:=O ((V ab).on F).2;go_wp2;go_ret2;exact⟨rfl,V T⟩):p:=h
theorem N8P(h:p:=by
 rcases Nat.lt_or_ge j k with h' | h'
 ·exact L j h'
 ·obtain rfl:j=k:=f6J;exact h):p:=h
theorem g8r(h:p:=by have p:=O ((V ab).on F).2;go_wp2;go_ret2;exact⟨rfl,V p⟩):p:=h
end
namespace Cn
def x5H(rs:List Rec)(k:Nat):Nat×Int:=match x0U rs k (rs.drop k)with
 | some x=>x
 | Option.none=>if baseA rs 78 45 then(0,0)else(rs.length,70)
theorem z2H{rs:List Rec}{k:Nat}(G:k<rs.length)(h:record rs k (rs.getD k none)≠0):x5H rs k=(k,record rs k (rs.getD k none)):=by
 have e:rs.getD k none=rs[k]:=(by grind);rw[e]at h ⊢;unfold x5H;rw[List.drop_eq_getElem_cons G,x0U,if_neg h]
theorem z0d{rs:List Rec}{k:Nat}(G:k<rs.length)(h:record rs k (rs.getD k none)=0):x5H rs k=x5H rs (k+1):=by
 have e:rs.getD k none=rs[k]:=(by grind);rw[e]at h;unfold x5H;rw[List.drop_eq_getElem_cons G,x0U,if_pos h]
def x7p(rs:List Rec)(c:Nat):Nat×Int:=if baseA rs (123-c) c then(0,0)else(rs.length,70)
theorem z2G(rs:List Rec):x5H rs rs.length=x7p rs 45:=by
 unfold x5H;rw[List.drop_length,x0U];rfl
theorem z0L{rs:List Rec}{c:Nat}(h:123<=c):x7p rs c=(0,0):=by
 unfold x7p;rw[(f6J:123-c=0),baseA,if_pos rfl]
theorem z3Z{rs:List Rec}{c:Nat}(h:c<=122)(D:baseOf c=true)(Z:plain rs c=false):x7p rs c=(rs.length,70):=by
 unfold x7p;rw[(f6J:123-c=(122-c)+1),baseA,D,Z];rfl
theorem y6y{rs:List Rec}{c:Nat}(h:c<=122)(D:baseOf c=false\/plain rs c=true):x7p rs c=x7p rs (c+1):=by
 unfold x7p;rw[(f6J:123-c=(123-(c+1))+1),baseA];have:(!baseOf (c:Int)||plain rs (c:Int))=true:=(by rcases D with e | e<;>simp[e]);rw[this,Bool.true_and,Int.natCast_add];rfl
theorem y6R{rs:List Rec}(h:(check6 rs).2≠0):check rs=check6 rs:=by unfold check;rw[if_pos h]
theorem x3Y{rs:List Rec}(h:(check6 rs).2=0):check rs=x5H rs 0:=by unfold check x5H;rw[if_neg (fun e=>e h)];rfl
end Cn
def y1s:Prop:=∀(v:Value) (rs:List Rec) (w:World),Rcs w v rs->Calls prog 42 #[v] w (x3U w (Cn.check6 rs))
def y6l:Prop:=∀(v:Value) (rs:List Rec) (i:Nat) (w:World),Rcs w v rs->(Cn.check6 rs).2=0->i<rs.length->Calls prog 43 #[v,.int .i64 i] w (IntB w (Cn.record rs i (rs.getD i Cn.none)))
def ChIn(w:World)(v:Value)(rs:List Rec)(wr:World):Prop:=Rcs wr v rs/\Below w.heap.size w wr
theorem ChIn.on{w wr w':World}{v:Value}{rs:List Rec}(h:ChIn w v rs wr)(C:Bw wr w'):ChIn w v rs w':=⟨h.1.below C,x0b h.2 C⟩
theorem y0P(t:y1s)(g:y6l):y6k:=by
 intro v rs w N;have j:=O (t v rs w N);have U:Hid ((Cn.check6 rs).2≠0->Cn.check rs=Cn.check6 rs):=Cn.y6R;have Z:Hid ((Cn.check6 rs).2=0->Cn.check rs=Cn.x5H rs 0/\∀(i:Nat) (wr:World),Rcs wr v rs->i<rs.length->Calls prog 43 #[v,.int .i64 i] wr (IntB wr (Cn.record rs i (rs.getD i Cn.none)))):=fun h=>⟨Cn.x3Y h,fun i wr u hi=>g v rs i wr u h hi⟩;have HW:Hid (ChIn w v rs w):=⟨N,b0r⟩;generalize Cn.check rs=res,Cn.check6 rs=q at *;obtain⟨q1,l⟩:=q;have d:=N.1;obtain⟨s,M,rfl,_,_⟩:=N.shape;go_enter func23,ntmps23;go_wp2_with fail;refine c0m j fun Q E=>?_;by_cases L:l=0
 ·obtain⟨R,n⟩:=V Z L;obtain rfl:l=0:=L;have Y:=O n;have o:=O R;have J:=O ((V HW).on E);go_wp2;go_loopw[6,7] (fun S _ wr=>∃k:Nat,S=.int .i64 k/\k<=rs.length/\res=Cn.x5H rs k/\ChIn w (.slice s rs.length M) rs wr) (fun S _ _=>rs.length-(intOf S).toNat)
  case atStart=>exact⟨0,rfl,f6J,V o,V J⟩
  case round =>
   obtain⟨k,rfl,hk,R,A⟩:=hrel;by_cases ae:k<rs.length
   ·have KC:=O (V Y k wr A.1 ae);have C:Hid (Cn.record rs k (rs.getD k Cn.none)≠0->res=(k,Cn.record rs k (rs.getD k Cn.none))):=fun h=>R.trans (Cn.z2H ae h);have K:Hid (Cn.record rs k (rs.getD k Cn.none)=0->res=Cn.x5H rs (k+1)):=fun h=>R.trans (Cn.z0d ae h);have ab:=O A;generalize Cn.record rs k (rs.getD k Cn.none)=y at *;go_wp2_with fail;refine c0m KC fun w2 F=>?_;by_cases x:y=0
    ·have B:=O (V K x);obtain rfl:y=0:=x;have p:=O ((V ab).on F);go_wp2;go_round
     case rel=>exact⟨k+1,g2A,f6J,V B,V p⟩
     case measure=>exact g7T
    ·obtain rfl:=V C x;have af:(y==0)=false:=b0f x;exact g8r
   ·obtain rfl:k=rs.length:=f6J;have o:=O (R.trans (Cn.z2G rs));have ab:=O A;go_wp2;go_loopw[8] (fun S wi=>∃c:Nat,S=.int .i32 c/\45<=c/\c<=123/\res=Cn.x7p rs c/\ChIn w (.slice s rs.length M) rs wi) (fun S _=>123-(intOf S).toNat)
    case atStart=>exact⟨45,rfl,f6J,f6J,V o,V ab⟩
    case round =>
     obtain⟨c,rfl,r,ag,R,A⟩:=hrel;by_cases D:c<=122
     ·have KP:=O (y0R _ rs c wr A.1 ⟨f6J,f6J⟩);have m:Hid (Cn.baseOf c=true->Cn.plain rs c=false->res=(rs.length,70)):=fun a b=>R.trans (Cn.z3Z D a b);have K:Hid (Cn.baseOf c=false\/Cn.plain rs c=true->res=Cn.x7p rs (c+1)):=fun a=>R.trans (Cn.y6y D a);have ab:=O A;have X:Hid (∀b,decide ((c:Int)=45\/(c:Int)=46\/(48<=(c:Int)/\(c:Int)<=57)\/97<=(c:Int))=b->Cn.baseOf c=b):=fun b h=>h;generalize Cn.plain rs c=y,Cn.baseOf c=z at *;by_cases e1:c=45
      ·subst e1;obtain rfl:=V X true (d0t f6J);have G:Hid (y=false->res=(rs.length,70)):=fun h=>V m rfl h;go_wp2_with fail;refine c0m KP fun w2 F=>?_
       cases y with
       | false =>exact f3W
       | true =>
        have B:=O (V K (.inr rfl));have p:=O ((V ab).on F);go_wp2;go_round
        case rel=>exact⟨46,g2A,f6J,f6J,V B,V p⟩
        case measure=>simp[intOf]<;>omega
      ·by_cases f:c=46
       ·subst f;obtain rfl:=V X true (d0t f6J);have G:Hid (y=false->res=(rs.length,70)):=fun h=>V m rfl h;go_wp2_with fail;refine c0m KP fun w2 F=>?_
        cases y with
        | false =>exact f3W
        | true =>
         have B:=O (V K (.inr rfl));have p:=O ((V ab).on F);go_wp2;go_round
         case rel=>exact⟨47,g2A,f6J,f6J,V B,V p⟩
         case measure=>simp[intOf]<;>omega
       ·have ai:((c:Int)==45)=false:=b0f f6J;have aj:((c:Int)==46)=false:=b0f f6J;by_cases e3:48<=c
        ·by_cases I:c<=57
         ·exact t9g
         ·by_cases e5:97<=c
          ·exact t9g
          ·exact f3n
        ·exact f3n
     ·obtain rfl:=R.trans (Cn.z0L f6J);have T:=O A.2;go_wp2;go_ret2;exact⟨rfl,V T⟩
 ·obtain rfl:=V U L;have af:(l==0)=false:=b0f L;have T:=O E;go_wp2;go_ret2;exact⟨rfl,V T⟩
namespace Cn
def x5I(rs:List Rec)(i:Nat):Nat×Int:=match x1D rs i (rs.drop i)with
 | some i=>(i,62)
 | Option.none=>(0,0)
def x7b(rs:List Rec)(k:Nat):Nat×Int:=match x1f k (rs.drop k)with
 | some x=>x
 | Option.none=>x5I rs 0
theorem q_hit{rs:List Rec}{k:Nat}(G:k<rs.length)(h:right (rs.getD k none)≠0):x7b rs k=(k,right (rs.getD k none)):=by
 have e:rs.getD k none=rs[k]:=(by grind);rw[e]at h ⊢;unfold x7b;rw[List.drop_eq_getElem_cons G,x1f,if_neg h]
theorem z8l{rs:List Rec}{k:Nat}(G:k<rs.length)(h:right (rs.getD k none)=0):x7b rs k=x7b rs (k+1):=by
 have e:rs.getD k none=rs[k]:=(by grind);rw[e]at h;unfold x7b;rw[List.drop_eq_getElem_cons G,x1f,if_pos h]
theorem q_end(rs:List Rec):x7b rs rs.length=x5I rs 0:=by
 unfold x7b;rw[List.drop_length,x1f]
theorem t_hit{rs:List Rec}{i k:Nat}(hi:i<rs.length)(G:k<i)(h:clash (rs.getD k none) (rs.getD i none)=true):x5I rs i=(i,62):=by
 have e:rs.getD i none=rs[i]:=(by grind);have f:rs.getD k none=rs[k]:=(by grind);rw[e,f]at h;unfold x5I;rw[List.drop_eq_getElem_cons hi,x1D,if_pos];rw[List.any_eq_true];exact⟨rs[k],List.mem_take_iff_getElem.2 ⟨k,f6J,rfl⟩,h⟩
theorem z8W{rs:List Rec}{i:Nat}(hi:i<rs.length)(h:∀k,k<i->clash (rs.getD k none) (rs.getD i none)=false):x5I rs i=x5I rs (i+1):=by
 have e:rs.getD i none=rs[i]:=(by grind);unfold x5I;rw[List.drop_eq_getElem_cons hi,x1D,if_neg];rw[List.any_eq_true];rintro⟨x,J,I⟩;obtain⟨k,G,rfl⟩:=List.mem_take_iff_getElem.1 J;have:=h k f6J;rw[e,show rs.getD k none=rs[k]by simp[List.getD,(f6J:k<rs.length)]]at this;rw[this]at I;cases I
theorem t_end(rs:List Rec):x5I rs rs.length=(0,0):=by
 unfold x5I;rw[List.drop_length,x1D]
theorem y1D{rs:List Rec}(h:4096<rs.length):check6 rs=(0,3):=by unfold check6;rw[if_pos h]
theorem y4q{rs:List Rec}(h:¬4096<rs.length):check6 rs=x7b rs 0:=by
 unfold check6 x7b x5I;rw[if_neg h];rfl
end Cn
def z2W:Prop:=∀(r:Rec) (vt:Value) (w:World),RecFit r->Sk .i32 w vt r.to->Calls prog 70 #[recV r vt] w (IntB w (Cn.right r))
def z2V:Prop:=∀(a b:Rec) (va vb:Value) (w:World),RecFit a->RecFit b->Sk .i32 w va a.to->Sk .i32 w vb b.to->Cn.right a=0->Cn.right b=0->Calls prog 71 #[recV a va,recV b vb] w (x0c w (Cn.clash a b))
theorem x9w(g:z2W)(Y:z2V):y1s:=by
 intro v rs w N;have HW:Hid (ChIn w v rs w):=⟨N,b0r⟩;have d:=N.1;by_cases af:4096<rs.length
 ·rw[Cn.y1D af];obtain⟨s,M,rfl,_,_⟩:=N.shape;go_enter func42,ntmps42;go_wp2;go_ret2;exact⟨rfl,b0r⟩
 ·have o:=O (Cn.y4q af);generalize Cn.check6 rs=t at *;obtain⟨s,M,rfl,_,_⟩:=N.shape;have g:=O g;have Y:=O Y;go_enter func42,ntmps42;go_wp2;go_loopw[4,5] (fun iv _ wr=>∃k:Nat,iv=.int .i64 k/\k<=rs.length/\t=Cn.x7b rs k/\(∀j,j<k->Cn.right (rs.getD j Cn.none)=0)/\ChIn w (.slice s rs.length M) rs wr) (fun iv _ _=>rs.length-(intOf iv).toNat)
  case atStart=>exact⟨0,rfl,f6J,V o,fun j hj=>absurd hj (Nat.not_lt_zero _),V HW⟩
  case round =>
   obtain⟨k,rfl,hk,R,S,A⟩:=hrel;by_cases ae:k<rs.length
   ·have C:Hid (Cn.right (rs.getD k Cn.none)≠0->t=(k,Cn.right (rs.getD k Cn.none))):=fun h=>R.trans (Cn.q_hit ae h)
    have K:Hid (Cn.right (rs.getD k Cn.none)=0->t=Cn.x7b rs (k+1)/\∀j,j<k+1->Cn.right (rs.getD j Cn.none)=0):=fun h=>⟨R.trans (Cn.z8l ae h),fun j hj=>by
     rcases Nat.lt_or_ge j k with h' | h'
     ·exact S j h'
     ·obtain rfl:j=k:=by omega
      exact h⟩
    have ab:=O A;have z:=A.1.fit ae;obtain⟨b,ag,J,q,f,Q,I⟩:=A.1.place f6J;obtain⟨rfl,rfl⟩:s=some ⟨b,ag,none⟩/\M=J:=W3M;have X:=I k ae;obtain⟨x0,u,x2,x3,⟨va,x4,c⟩,x5,x6,x7⟩:=X;have Z:=O (V g _ va wr z c);unfold recV at Z;obtain⟨tq,tc,rfl,_,_⟩:=c.shape;generalize Cn.right (rs.getD k Cn.none)=y at *;generalize rs.getD k Cn.none=r at *;generalize r.kind=kd,r.n=n,r.lo=lo,r.hi=hi at *;generalize r.name=nm,r.other=ot,r.wt=wt,r.to.length=tl at *;go_wp2_with fail;refine c0m Z fun w2 F=>?_;by_cases x:y=0
    ·have B:=O (V K x);obtain rfl:y=0:=x;have p:=O ((V ab).on F);go_wp2;go_round
     case rel=>exact⟨k+1,g2A,f6J,(V B).1,(V B).2,V p⟩
     case measure=>exact g7T
    ·obtain rfl:=V C x;have ay:(y==0)=false:=b0f x;exact g8r
   ·obtain rfl:k=rs.length:=f6J;have o:=O (R.trans (Cn.q_end rs));have ab:=O A;have m:=O S;go_wp2;go_loopw[6,7] (fun iv _ wi=>∃i:Nat,iv=.int .i64 i/\i<=rs.length/\t=Cn.x5I rs i/\ChIn w (.slice s rs.length M) rs wi) (fun iv _ _=>rs.length-(intOf iv).toNat)
    case atStart=>exact⟨0,rfl,f6J,V o,V ab⟩
    case round =>
     obtain⟨i,rfl,hi,R,A⟩:=hrel;by_cases D:i<rs.length
     ·have C:Hid (∀k,k<i->Cn.clash (rs.getD k Cn.none) (rs.getD i Cn.none)=true->t=(i,62)):=fun k a h=>R.trans (Cn.t_hit D a h);have K:Hid ((∀k,k<i->Cn.clash (rs.getD k Cn.none) (rs.getD i Cn.none)=false)->t=Cn.x5I rs (i+1)):=fun h=>R.trans (Cn.z8W D h);have ab:=O A;go_wp2;go_loopw[7] (fun kv wj=>∃k:Nat,kv=.int .i64 k/\k<=i/\(∀j,j<k->Cn.clash (rs.getD j Cn.none) (rs.getD i Cn.none)=false)/\ChIn w (.slice s rs.length M) rs wj) (fun kv _=>i-(intOf kv).toNat)
      case atStart=>exact⟨0,rfl,f6J,fun j hj=>absurd hj (Nat.not_lt_zero _),V ab⟩
      case round =>
       obtain⟨k,rfl,aw,L,A⟩:=hrel;clear ab;by_cases am:k<i
       ·have HH:=O (V C k am)
        have B:Hid (Cn.clash (rs.getD k Cn.none) (rs.getD i Cn.none)=false->∀j,j<k+1->Cn.clash (rs.getD j Cn.none) (rs.getD i Cn.none)=false):=fun h j hj=>N8P
        have ab:=O A;have aj:=A.1.fit (i:=k) f6J;have ai:=A.1.fit D;have ar:=V m k f6J;have aq:=V m i D;obtain⟨b,ag,J,q,f,Q,I⟩:=A.1.place f6J;obtain⟨rfl,rfl⟩:s=some ⟨b,ag,none⟩/\M=J:=W3M;have X:=I k f6J;have l:=I i D;clear I q L A C K m;obtain⟨x0,u,x2,x3,⟨va,x4,c⟩,x5,x6,x7⟩:=X;obtain⟨y0,y1,y2,y3,⟨G,y4,T⟩,y5,y6,y7⟩:=l;have Z:Hid (∀n,Calls prog 71 #[recV (rs.getD k Cn.none) va,recV (rs.getD i Cn.none) G] (wr.drewN n) (x0c (wr.drewN n) (Cn.clash (rs.getD k Cn.none) (rs.getD i Cn.none)))):=fun n=>V Y _ _ va G _ aj ai (x4Y c n) (x4Y T n) ar aq;unfold recV at Z;obtain⟨tq,tc,rfl,_,_⟩:=c.shape;obtain⟨uo,uc,rfl,_,_⟩:=T.shape;clear Y aj ai ar aq c T;generalize Cn.clash (rs.getD k Cn.none) (rs.getD i Cn.none)=y at HH Z B;generalize(rs.getD k Cn.none).kind=kind1,(rs.getD k Cn.none).lo=lo1,(rs.getD k Cn.none).hi=hi1,(rs.getD k Cn.none).n=n1 at *;generalize(rs.getD k Cn.none).name=name1,(rs.getD k Cn.none).other=other1,(rs.getD k Cn.none).wt=wt1,(rs.getD k Cn.none).to.length=az at *;generalize(rs.getD i Cn.none).kind=kind2,(rs.getD i Cn.none).lo=lo2,(rs.getD i Cn.none).hi=hi2,(rs.getD i Cn.none).n=n2 at *;generalize(rs.getD i Cn.none).name=name2,(rs.getD i Cn.none).other=other2,(rs.getD i Cn.none).wt=wt2,(rs.getD i Cn.none).to.length=aA at *;go_wp2;go_region_with (refine(V Z _).mono ?_;rintro e w1 ⟨rfl,E⟩)
        all_goals
         have p:=O ((V ab).on (x0b (x0k ⟨_,rfl⟩) E));clear E ab Z x0 u x2 x3 x4 x5 x6 x7 y0 y1 y2 y3 y4 y5 y6 y7
         cases y with
         | true =>
          obtain rfl:=V HH rfl;clear HH B;go_wp2;go_ret2;exact⟨rfl,(V p).2⟩
         | false =>
          have U:=O (V B rfl);clear HH B;go_wp2
          go_roundw
          case rel=>exact⟨k+1,g2A,f6J,V U,V p⟩
          case measure=>exact g7T
       ·obtain rfl:k=i:=f6J;have B:=O (V K L);have ab:=O A;clear L A K C;go_wp2;go_round
        case rel=>exact⟨k+1,g2A,f6J,V B,V ab⟩
        case measure=>exact g7T
     ·obtain rfl:i=rs.length:=f6J;obtain rfl:=R.trans (Cn.t_end rs);have HF:=O A.2;clear R A m Y;go_wp2;go_ret2;exact⟨rfl,V HF⟩
theorem z0V{H:Type}(d:DataW H):1<=Rows.uptoBulk d:=by
 cases d with
 | lit l=>cases l<;>simp[Rows.uptoBulk]
 | nil=>exact T8n
 | ptr d=>exact T8n
 | slice a b=>exact T8n
 | agg a=>exact T8n
 | iface t d=>exact T8n
 | map e=>exact T8n
 | held h=>exact T8n
theorem z0U{H:Type}(l:List (DataW H)):l.length<=Rows.uptoBulkAll l:=by
 induction l with
 | nil=>simp[Rows.uptoBulkAll]
 | cons x r ih =>
  have:=z0V x;simp only[Rows.uptoBulkAll,List.length_cons];omega
theorem y4n{H:Type}(a b:List (DataW H)):a.length<=Rows.uptoBulk (.slice a b):=by
 have:=z0U a;simp only[Rows.uptoBulk];omega
theorem bulk_string{H:Type}(l:List UInt8):l.length<=Rows.uptoBulk (DataW.lit (H:=H) (.string l)):=T8n
theorem bulk_le{H:Type}{l:List (DataW H)}(G:Rows.uptoSmall H l=true):Rows.uptoBulkAll l<=1048576:=o0d G
open Go.RowKit Go.ChangeShapes Go.WideShapes Go.Deep
theorem x5h{H:Type}(k:IntKind)(zs:List Int):Rows.uptoBulkAll (lits (H:=H) k zs)=zs.length:=by
 induction zs with
 | nil=>rfl
 | cons z zs ih =>
  have e:lits (H:=H) k (z::zs)=.lit (.int k z)::lits k zs:=rfl;rw[e,Rows.uptoBulkAll,ih];simp[Rows.uptoBulk];omega
theorem x8E{H:Type}{d:DataW H}:∀{l:List (DataW H)},d∈l->Rows.uptoBulk d<=Rows.uptoBulkAll l
 | [],h=>m5j
 | x::l,h=>by
  rw[Rows.uptoBulkAll];rcases List.mem_cons.1 h with rfl | h
  ·omega
  ·have:=x8E h;omega
section
variable {H:Type} {enc:TypeId×Value->H} {P:Program} {W:World} {base:Nat} {held:Bool}
theorem y5W{k:FloatKind}{t:TypeId}{A:Nat->Bool}{B:Nat}{cs:List Value}{x:DataW H×List MemPlace}(K:P.underlying t=some (.float k))(h:DataW.trod enc P W base A held B t cs=some x):∃b,cs=[.float k b]/\(Lit.float k b).wf=true:=by
 cases B with
 | zero=>simp[DataW.trod]at h
 | succ n =>
  unfold DataW.trod at h;rw[K]at h;split at h<;>simp_all
theorem y3E{t q:TypeId}{k:IntKind}{B:Nat}{cs:List Value}{x:DataW H×List MemPlace}(K:P.underlying t=some (.slice q))(L:P.underlying q=some (.int k))(G:P.cellsOf q=1)
  (z:DataW.trod enc P W base (fun _=>true) held B t cs=some x) (C:Rows.uptoBulk x.1<=1048576):∃v zs,cs=[v]/\Sk k W v zs/\zs.length<=1048576:=by
 rcases open_ints K L G z with⟨s,_⟩ | ⟨E,l,c,zs,s,_,S,U,o,J,X,A⟩
 ·exact⟨_,[],s,Sk.nil _ _,M7L⟩
 ·simp only[if_true]at o;have I:x.1=_:=congrArg Prod.fst J
  have D:l<=Rows.uptoBulk x.1:=by
   rw[I,Rows.uptoBulk,x5h,x5h,List.length_take,List.length_drop];omega
  refine⟨_,zs.take l,s,y9N (.inr ⟨_,rfl,S,U,o,X,A⟩) f6J,?_⟩;rw[List.length_take];omega
end
section
variable {H:Type} {enc:TypeId×Value->H} {W:World} {base:Nat} {held:Bool}
theorem wf_i64{n:Int}(h:(Lit.int .i64 n).wf=true):I64 n:=by
 have:IntKind.i64.min<=n/\n<=IntKind.i64.max:=(by simpa[Lit.wf]using h);simpa[I64,IntKind.min,IntKind.max,IntKind.signed,IntKind.bits]using this
theorem z9i{b:Nat}(h:(Lit.float .f64 b).wf=true):b<18446744073709551616:=by
 simpa[Lit.wf]using h
theorem z8u{n:Nat}{cs:List Value}{x:DataW H×List MemPlace}(h:DataW.trod enc prog W base (fun _=>true) held n 67 cs=some x)(C:Rows.uptoBulk x.1<=1048576):∃p:Rec×Value,cs=x0y p/\RecFit p.1/\Sk .i32 W p.2 p.1.to:=by
 obtain⟨m,k,G,J,y,D,z⟩:=DataW.trod_struct underlying67 h;have c8:prog.cellsOf 67=8:=f4y;have o:prog.cellsOf 3=1:=f4y;have c2:prog.cellsOf 40=1:=f4y;have s:prog.cellsOf 9=1:=f4y;have K:prog.cellsOf 65=1:=f4y;have c:prog.cellsOf 21=1:=f4y;rw[c8]at y
 match m,D,cs,y with
 | [y0,y1,y2,y3,y4,y5,y6,y7],_,[v0,v1,v2,v3,v4,v5,v6,v7],_ =>
  have X:=z 0 _ rfl;have i:=z 1 _ rfl;have U:=z 2 _ rfl;have M:=z 3 _ rfl;have Y:=z 4 _ rfl;have j:=z 5 _ rfl;have q:=z 6 _ rfl;have S:=z 7 _ rfl;simp[o,c2,s,K]at X i U M Y j q S;obtain⟨R,e0,_,w0⟩:=DataW.trod_int underlying3 X;obtain⟨t,N,_,Q⟩:=DataW.trod_int underlying3 i;obtain⟨n2,f,_,A⟩:=DataW.trod_int underlying3 U;obtain⟨a,E,_,u⟩:=DataW.trod_int underlying3 M
  have B:Rows.uptoBulk y4.1<=1048576:=by
   rw[J]at C;have:=x8E (d:=y4.1) (l:=[y0,y1,y2,y3,y4,y5,y6,y7].map (·.1)) M7N;simp only[Rows.uptoBulk]at C;omega
  obtain⟨v,L,I,F,T⟩:=y3E underlying40 underlying21 c Y B;obtain⟨r,e5,_⟩:=DataW.trod_string underlying9 j;obtain⟨s6,Z,_⟩:=DataW.trod_string underlying9 q;obtain⟨b7,b,g⟩:=y5W underlying65 S;simp only[List.cons.injEq,and_true]at e0 N f E I e5 Z b;exact⟨(⟨R,t,n2,a,L,r,s6,b7⟩,v),by rw[e0,N,f,E,I,e5,Z,b];rfl,⟨wf_i64 w0,wf_i64 Q,wf_i64 A,wf_i64 u,by show L.length<=_;exact f6J,z9i g⟩,F⟩
theorem recs_open{a:Option Addr}{len cap:Nat}{d:DataW H}{p:List MemPlace}(h:DataW.Trod enc prog W base (fun _=>true) held 23 (.slice a len cap) d p)(C:Rows.uptoBulk d<=1048576):∃rs,Rcs W (.slice a len cap) rs:=by
 obtain⟨B,z⟩:=h;have N:prog.cellsOf 67=8:=f4y;rcases open_slice underlying23 z with⟨s,_⟩ | ⟨x,l,c,m,n,D,Q,s,_,S,U,M,J,L⟩
 ·simp[Value.cells]at s;obtain⟨rfl,rfl,rfl⟩:=s;exact⟨[],M7N,fun r u=>(by cases u),.inl ⟨rfl,none,0,rfl,f6J⟩⟩
 ·simp[Value.cells]at s;obtain⟨rfl,rfl,rfl⟩:=s;simp only[if_true]at M;subst M;simp only[Prod.mk.injEq]at J
  have y:len<=1048576:=by
   have:=y4n ((List.range len).map D) ((List.range (m-len)).map fun j=>D (len+j));rw[<- J.1]at this;simp only[List.length_map,List.length_range]at this;omega
  have E:∀i,i<len->Rows.uptoBulk (D i)<=1048576:=fun i hi=>by
   have t:=x8E (d:=D i) (l:=(List.range len).map D) (List.mem_map.2 ⟨i,List.mem_range.2 hi,rfl⟩);rw[J.1]at C;simp only[Rows.uptoBulk]at C;omega
  rw[N]at L;have k:Inhabited (Rec×Value):=⟨(Cn.none,undef)⟩
  obtain⟨R,T⟩:=choose_lt (α:=Rec×Value) (p:=fun i r=>W.cells? base (x.add (i*8)) 8=some (x0y r)/\RecFit r.1/\Sk .i32 W r.2 r.1.to) (n:=len) (fun i hi=>by
   obtain⟨ab,t,Z⟩:=L i f6J;obtain⟨r,rfl,f⟩:=z8u Z (E i hi)
   exact⟨r,t,f⟩)
  have F:((List.range len).map fun i=>(R i).1).length=len:=M7N;refine⟨(List.range len).map fun i=>(R i).1,by rw[F];exact f6J,fun r u=>?_,?_⟩
  ·obtain⟨i,hi,rfl⟩:=List.mem_map.1 u;exact(T i (List.mem_range.1 hi)).2.1
  ·unfold maxLen at U;rcases Nat.eq_zero_or_pos len with h0 | h0
   ·subst h0;exact .inl ⟨rfl,some x,m,rfl,f6J⟩
   ·have X:∀i,i<len->∀j,j<8->W.cell? (x.add (i*8+j))=(x0y (R i))[j]?:=by
     intro i hi j K;obtain⟨_,q,g⟩:=World.cells?_some (T i hi).1;have:=g j f6J;rw[add_add]at this;exact this
    have Y:=X 0 h0 0 f6J;have I:x.add (0*8+0)=x:=(by simp[Addr.add]);rw[I]at Y;have A:=plain_of_cell (v:=.int .i64 (R 0).1.kind) Y;generalize x.block=b,x.off=o at *;subst A;refine .inr ⟨b,o,m,by rw[F],by rw[F];exact f6J,f6J,fun i hi=>?_⟩;rw[F]at hi;have hd:((List.range len).map fun i=>(R i).1).getD i Cn.none=(R i).1:=n7B;rw[hd]
    have G:∀j,j<8->W.cell? ⟨b,o+i*8+j,none⟩=(x0y (R i))[j]?:=fun j K=>by
     have:=X i hi j K;rw[addr_add]at this;rw[(f6J:o+i*8+j=o+(i*8+j))];exact this
    exact⟨G 0 f6J,G 1 f6J,G 2 f6J,G 3 f6J,⟨_,G 4 f6J,(T i hi).2.2⟩,G 5 f6J,G 6 f6J,G 7 f6J⟩
theorem z6x{t:TypeId}{a:Option Addr}{len cap:Nat}{d:DataW H}{p:List MemPlace}(K:prog.underlying t=some (.slice 21))(h:DataW.Trod enc prog W base (fun _=>true) held t (.slice a len cap) d p)(C:Rows.uptoBulk d<=1048576):∃zs,Sk .i32 W (.slice a len cap) zs/\zs.length<=1048576:=by
 obtain⟨B,z⟩:=h;obtain⟨v,zs,e,s,l⟩:=y3E K underlying21 f4x z C;simp[Value.cells]at e;subst e;exact⟨zs,s,l⟩
end
