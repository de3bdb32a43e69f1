import Derived.Test.YtbmckadcjdedcaaGreatDoorF10
import Derived.Deep.RegionWith
import Derived.Test.YtbmckadcjdedcaaGreatDoorRows
import Derived.Deep.Matrix
import Derived.OpenShut
set_option maxHeartbeats 4000000
set_option maxRecDepth 20000
namespace Go.Proofs.YtbmckadcjdedcaaGreatDoor
open Go.Proofs.Tryz
open Go.RowKit
section
variable{p:Prop}
theorem T8n(h:p:=by simp[Rows.uptoBulk]):p:=h
theorem e0G(h:p:=by
 obtain rfl:=V J true (d0t f6J);have n:Hid (y=false->res=(rs.length,70)):=fun h=>V l rfl h;go_wp2_with fail;refine c0m KP fun d F=>?_
 cases y with
 | false =>exact V7C
 | true =>
  have f:=O (V Q (.inr rfl));have g:=O ((V B).on F);go_wp2;go_round
  case rel=>exact⟨c+1,g2A,f6J,f6J,V f,V g⟩
  case measure=>simp[intOf]<;>omega):p:=h
theorem p6S(h:p:=by
 obtain rfl:=V J false (d0f f6J);have f:=O (V Q (.inl rfl));have g:=O (V B);go_wp2;go_round
 case rel=>exact⟨c+1,g2A,f6J,f6J,V f,V g⟩
 case measure=>exact g7T):p:=h
theorem V7C(h:p:=by obtain rfl:=V n rfl;have T:=O ((V B).on F).2;go_wp2;go_ret2;exact⟨rfl,V T⟩):p:=h
theorem M5l(h:p:=by have g:=O ((V B).on F).2;go_wp2;go_ret2;exact⟨rfl,V g⟩):p:=h
end
namespace Cn
def x5M(rs:List Rec)(k:Nat):Nat×Int:=match x0U rs k (rs.drop k)with
 | some x=>x
 | Option.none=>if baseA rs 78 45 then(0,0)else(rs.length,70)
theorem z3n{rs k}(G:k<rs.length)(h:record rs k (rs.getD k none)≠0):x5M rs k=(k,record rs k (rs.getD k none)):=by
 have e:rs.getD k none=rs[k]:=(by grind);rw[e]at h ⊢;unfold x5M;rw[List.drop_eq_getElem_cons G,x0U,if_neg h]
theorem z0E{rs k}(G:k<rs.length)(h:record rs k (rs.getD k none)=0):x5M rs k=x5M rs (k+1):=by
 have e:rs.getD k none=rs[k]:=(by grind);rw[e]at h;unfold x5M;rw[List.drop_eq_getElem_cons G,x0U,if_pos h]
def x7x(rs:List Rec)(c:Nat):Nat×Int:=if baseA rs (123-c) c then(0,0)else(rs.length,70)
theorem z3m rs:x5M rs rs.length=x7x rs 45:=by
 unfold x5M;rw[List.drop_length,x0U];rfl
theorem z1m{rs c}(h:123<=c):x7x rs c=(0,0):=by
 unfold x7x;rw[(f6J:123-c=0),baseA,if_pos rfl]
theorem z4I{rs}{c:Nat}(h:c<=122)(Z:baseOf c=true)(D:plain rs c=false):x7x rs c=(rs.length,70):=by
 unfold x7x;rw[(f6J:123-c=(122-c)+1),baseA,Z,D];rfl
theorem y7a{rs}{c:Nat}(h:c<=122)(Z:baseOf c=false\/plain rs c=true):x7x rs c=x7x rs (c+1):=by
 unfold x7x;rw[(f6J:123-c=(123-(c+1))+1),baseA];have:(!baseOf (c:Int)||plain rs (c:Int))=true:=(by rcases Z with e|e<;>simp[e]);rw[this,Bool.true_and,Int.natCast_add];rfl
theorem y7t{rs}(h:(check6 rs).2≠0):check rs=check6 rs:=by unfold check;rw[if_pos h]
theorem x4d{rs}(h:(check6 rs).2=0):check rs=x5M rs 0:=by unfold check x5M;rw[if_neg (fun e=>e h)];rfl
end Cn
def y1H:Prop:=∀(v:Value) (rs:List Rec) (w:World),Rcs w v rs->Calls prog 42 #[v] w (x4a w (Cn.check6 rs))
def y6P:Prop:=∀(v:Value) (rs:List Rec) (i:Nat) (w:World),Rcs w v rs->(Cn.check6 rs).2=0->i<rs.length->Calls prog 43 #[v,.int .i64 i] w (IntB w (Cn.record rs i (rs.getD i Cn.none)))
def ChIn(w:World)(v:Value)(rs:List Rec)(wr:World):Prop:=Rcs wr v rs/\Below w.heap.size w wr
theorem ChIn.on{w wr w' v rs}(h:ChIn w v rs wr)(Y:Bw wr w'):ChIn w v rs w':=⟨h.1.below Y,x0b h.2 Y⟩
theorem y1e(r:y1H)(HR:y6P):y6O:=by
 intro v rs w N;have j:=O (r v rs w N);have ae:Hid ((Cn.check6 rs).2≠0->Cn.check rs=Cn.check6 rs):=Cn.y7t;have D:Hid ((Cn.check6 rs).2=0->Cn.check rs=Cn.x5M rs 0/\∀(i:Nat) (wr:World),Rcs wr v rs->i<rs.length->Calls prog 43 #[v,.int .i64 i] wr (IntB wr (Cn.record rs i (rs.getD i Cn.none)))):=fun h=>⟨Cn.x4d h,fun i wr u hi=>HR v rs i wr u h hi⟩;have Y:Hid (ChIn w v rs w):=⟨N,b0r⟩;generalize Cn.check rs=res,Cn.check6 rs=q at *;obtain⟨C,x⟩:=q;have s:=N.1;obtain⟨ao,M,rfl,_,_⟩:=N.shape;go_enter func23,ntmps23;go_wp2_with fail;refine c0m j fun w1 E=>?_;by_cases m:x=0
 ·obtain⟨R,U⟩:=V D m;obtain rfl:x=0:=m;have p:=O U;have K:=O R;have S:=O ((V Y).on E);go_wp2;go_loopw[6,7] (fun Z _ wr=>∃k:Nat,Z=.int .i64 k/\k<=rs.length/\res=Cn.x5M rs k/\ChIn w (.slice ao rs.length M) rs wr) (fun Z _ _=>rs.length-(intOf Z).toNat)
  case atStart=>exact⟨0,rfl,f6J,V K,V S⟩
  case round =>
   obtain⟨k,rfl,hk,R,L⟩:=hrel;by_cases ab:k<rs.length
   ·have A:=O (V p k wr L.1 ab);have I:Hid (Cn.record rs k (rs.getD k Cn.none)≠0->res=(k,Cn.record rs k (rs.getD k Cn.none))):=fun h=>R.trans (Cn.z3n ab h);have Q:Hid (Cn.record rs k (rs.getD k Cn.none)=0->res=Cn.x5M rs (k+1)):=fun h=>R.trans (Cn.z0E ab h);have B:=O L;generalize Cn.record rs k (rs.getD k Cn.none)=y at *;go_wp2_with fail;refine c0m A fun d F=>?_;by_cases hy:y=0
    ·have f:=O (V Q hy);obtain rfl:y=0:=hy;have g:=O ((V B).on F);go_wp2;go_round
     case rel=>exact⟨k+1,g2A,f6J,V f,V g⟩
     case measure=>exact g7T
    ·obtain rfl:=V I hy;have G:(y==0)=false:=b0f hy;exact M5l
   ·obtain rfl:k=rs.length:=f6J;have K:=O (R.trans (Cn.z3m rs));have B:=O L;go_wp2;go_loopw[8] (fun Z t=>∃c:Nat,Z=.int .i32 c/\45<=c/\c<=123/\res=Cn.x7x rs c/\ChIn w (.slice ao rs.length M) rs t) (fun Z _=>123-(intOf Z).toNat)
    case atStart=>exact⟨45,rfl,f6J,f6J,V K,V B⟩
    case round =>
     obtain⟨c,rfl,af,o,R,L⟩:=hrel;by_cases X:c<=122
     ·have KP:=O (y1g _ rs c wr L.1 ⟨f6J,f6J⟩);have l:Hid (Cn.baseOf c=true->Cn.plain rs c=false->res=(rs.length,70)):=fun a b=>R.trans (Cn.z4I X a b);have Q:Hid (Cn.baseOf c=false\/Cn.plain rs c=true->res=Cn.x7x rs (c+1)):=fun a=>R.trans (Cn.y7a X a);have B:=O L;have J:Hid (∀b,decide ((c:Int)=45\/(c:Int)=46\/(48<=(c:Int)/\(c:Int)<=57)\/97<=(c:Int))=b->Cn.baseOf c=b):=fun b h=>h;generalize Cn.plain rs c=y,Cn.baseOf c=z at *;by_cases e1:c=45
      ·subst e1;obtain rfl:=V J true (d0t f6J);have n:Hid (y=false->res=(rs.length,70)):=fun h=>V l rfl h;go_wp2_with fail;refine c0m KP fun d F=>?_
       cases y with
       | false =>exact V7C
       | true =>
        have f:=O (V Q (.inr rfl));have g:=O ((V B).on F);go_wp2;go_round
        case rel=>exact⟨46,g2A,f6J,f6J,V f,V g⟩
        case measure=>simp[intOf]<;>omega
      ·by_cases e2:c=46
       ·subst e2;obtain rfl:=V J true (d0t f6J);have n:Hid (y=false->res=(rs.length,70)):=fun h=>V l rfl h;go_wp2_with fail;refine c0m KP fun d F=>?_
        cases y with
        | false =>exact V7C
        | true =>
         have f:=O (V Q (.inr rfl));have g:=O ((V B).on F);go_wp2;go_round
         case rel=>exact⟨47,g2A,f6J,f6J,V f,V g⟩
         case measure=>simp[intOf]<;>omega
       ·have ag:((c:Int)==45)=false:=b0f f6J;have ai:((c:Int)==46)=false:=b0f f6J;by_cases e3:48<=c
        ·by_cases e4:c<=57
         ·exact e0G
         ·by_cases e5:97<=c
          ·exact e0G
          ·exact p6S
        ·exact p6S
     ·obtain rfl:=R.trans (Cn.z1m f6J);have T:=O L.2;go_wp2;go_ret2;exact⟨rfl,V T⟩
 ·obtain rfl:=V ae m;have G:(x==0)=false:=b0f m;have T:=O E;go_wp2;go_ret2;exact⟨rfl,V T⟩
namespace Cn
def x5N(rs:List Rec)(i:Nat):Nat×Int:=match x1E rs i (rs.drop i)with
 | some i=>(i,62)
 | Option.none=>(0,0)
def x7j(rs:List Rec)(k:Nat):Nat×Int:=match x1f k (rs.drop k)with
 | some x=>x
 | Option.none=>x5N rs 0
theorem q_hit{rs k}(G:k<rs.length)(h:right (rs.getD k none)≠0):x7j rs k=(k,right (rs.getD k none)):=by
 have e:rs.getD k none=rs[k]:=(by grind);rw[e]at h ⊢;unfold x7j;rw[List.drop_eq_getElem_cons G,x1f,if_neg h]
theorem z8U{rs k}(G:k<rs.length)(h:right (rs.getD k none)=0):x7j rs k=x7j rs (k+1):=by
 have e:rs.getD k none=rs[k]:=(by grind);rw[e]at h;unfold x7j;rw[List.drop_eq_getElem_cons G,x1f,if_pos h]
theorem q_end rs:x7j rs rs.length=x5N rs 0:=by
 unfold x7j;rw[List.drop_length,x1f]
theorem t_hit{rs i k}(hi:i<rs.length)(G:k<i)(h:clash (rs.getD k none) (rs.getD i none)=true):x5N rs i=(i,62):=by
 have e:rs.getD i none=rs[i]:=(by grind);have f:rs.getD k none=rs[k]:=(by grind);rw[e,f]at h;unfold x5N;rw[List.drop_eq_getElem_cons hi,x1E,if_pos];rw[List.any_eq_true];exact⟨rs[k],List.mem_take_iff_getElem.2 ⟨k,f6J,rfl⟩,h⟩
theorem z9F{rs i}(hi:i<rs.length)(h:∀k,k<i->clash (rs.getD k none) (rs.getD i none)=false):x5N rs i=x5N rs (i+1):=by
 have e:rs.getD i none=rs[i]:=(by grind);unfold x5N;rw[List.drop_eq_getElem_cons hi,x1E,if_neg];rw[List.any_eq_true];rintro⟨x,J,I⟩;obtain⟨k,G,rfl⟩:=List.mem_take_iff_getElem.1 J;have:=h k f6J;rw[e,show rs.getD k none=rs[k]by simp[List.getD,(f6J:k<rs.length)]]at this;rw[this]at I;cases I
theorem t_end rs:x5N rs rs.length=(0,0):=by
 unfold x5N;rw[List.drop_length,x1E]
theorem y1T{rs}(h:4096<rs.length):check6 rs=(0,3):=by unfold check6;rw[if_pos h]
theorem y4R{rs}(h:¬4096<rs.length):check6 rs=x7j rs 0:=by
 unfold check6 x7j x5N;rw[if_neg h];rfl
end Cn
def z3C:Prop:=∀(r:Rec) (vt:Value) (w:World),RecFit r->Sk .i32 w vt r.to->Calls prog 70 #[recV r vt] w (IntB w (Cn.right r))
def z3B:Prop:=∀(a b:Rec) (va vb:Value) (w:World),RecFit a->RecFit b->Sk .i32 w va a.to->Sk .i32 w vb b.to->Cn.right a=0->Cn.right b=0->Calls prog 71 #[recV a va,recV b vb] w (x0c w (Cn.clash a b))
theorem x9D(HR:z3C)(C:z3B):y1H:=by
 intro v rs w N;have Y:Hid (ChIn w v rs w):=⟨N,b0r⟩;have s:=N.1;by_cases A:4096<rs.length
 ·rw[Cn.y1T A];obtain⟨ao,M,rfl,_,_⟩:=N.shape;go_enter func42,ntmps42;go_wp2;go_ret2;exact⟨rfl,b0r⟩
 ·have K:=O (Cn.y4R A);generalize Cn.check6 rs=ab at *;obtain⟨ao,M,rfl,_,_⟩:=N.shape;have HR:=O HR;have C:=O C;go_enter func42,ntmps42;go_wp2;go_loopw[4,5] (fun iv _ wr=>∃k:Nat,iv=.int .i64 k/\k<=rs.length/\ab=Cn.x7j rs k/\(∀j,j<k->Cn.right (rs.getD j Cn.none)=0)/\ChIn w (.slice ao rs.length M) rs wr) (fun iv _ _=>rs.length-(intOf iv).toNat)
  case atStart=>exact⟨0,rfl,f6J,V K,fun j hj=>absurd hj (Nat.not_lt_zero _),V Y⟩
  case round =>
   obtain⟨k,rfl,hk,R,z,L⟩:=hrel;by_cases ae:k<rs.length
   ·have I:Hid (Cn.right (rs.getD k Cn.none)≠0->ab=(k,Cn.right (rs.getD k Cn.none))):=fun h=>R.trans (Cn.q_hit ae h)
    have Q:Hid (Cn.right (rs.getD k Cn.none)=0->ab=Cn.x7j rs (k+1)/\∀j,j<k+1->Cn.right (rs.getD j Cn.none)=0):=fun h=>⟨R.trans (Cn.z8U ae h),fun j hj=>by
     rcases Nat.lt_or_ge j k with h'|h'
     ·exact z j h'
     ·obtain rfl:j=k:=by omega
      exact h⟩
    have B:=O L;have hf:=L.1.fit ae;obtain⟨b,ag,J,d,o,aw,hc⟩:=L.1.place f6J;obtain⟨rfl,rfl⟩:ao=some ⟨b,ag,none⟩/\M=J:=V6r;have hA:=hc k ae;obtain⟨x,u,S,p,⟨va,x4,Z⟩,t,x6,T⟩:=hA;have KC:=O (V HR _ va wr hf Z);unfold recV at KC;obtain⟨tq,tc,rfl,_,_⟩:=Z.shape;generalize Cn.right (rs.getD k Cn.none)=y at *;generalize rs.getD k Cn.none=r at *;generalize r.kind=kd,r.n=n,r.lo=lo,r.hi=hi at *;generalize r.name=nm,r.other=ot,r.wt=wt,r.to.length=tl at *;go_wp2_with fail;refine c0m KC fun w2 F=>?_;by_cases U:y=0
    ·have f:=O (V Q U);obtain rfl:y=0:=U;have g:=O ((V B).on F);go_wp2;go_round
     case rel=>exact⟨k+1,g2A,f6J,(V f).1,(V f).2,V g⟩
     case measure=>exact g7T
    ·obtain rfl:=V I U;have az:(y==0)=false:=b0f U;exact M5l
   ·obtain rfl:k=rs.length:=f6J;have K:=O (R.trans (Cn.q_end rs));have B:=O L;have m:=O z;go_wp2;go_loopw[6,7] (fun iv _ wi=>∃i:Nat,iv=.int .i64 i/\i<=rs.length/\ab=Cn.x5N rs i/\ChIn w (.slice ao rs.length M) rs wi) (fun iv _ _=>rs.length-(intOf iv).toNat)
    case atStart=>exact⟨0,rfl,f6J,V K,V B⟩
    case round =>
     obtain⟨i,rfl,hi,R,L⟩:=hrel;by_cases X:i<rs.length
     ·have I:Hid (∀k,k<i->Cn.clash (rs.getD k Cn.none) (rs.getD i Cn.none)=true->ab=(i,62)):=fun k a h=>R.trans (Cn.t_hit X a h);have Q:Hid ((∀k,k<i->Cn.clash (rs.getD k Cn.none) (rs.getD i Cn.none)=false)->ab=Cn.x5N rs (i+1)):=fun h=>R.trans (Cn.z9F X h);have B:=O L;go_wp2;go_loopw[7] (fun kv wj=>∃k:Nat,kv=.int .i64 k/\k<=i/\(∀j,j<k->Cn.clash (rs.getD j Cn.none) (rs.getD i Cn.none)=false)/\ChIn w (.slice ao rs.length M) rs wj) (fun kv _=>i-(intOf kv).toNat)
      case atStart=>exact⟨0,rfl,f6J,fun j hj=>absurd hj (Nat.not_lt_zero _),V B⟩
      case round =>
       obtain⟨k,rfl,ay,af,L⟩:=hrel;clear B;by_cases aj:k<i
       ·have c:=O (V I k aj)
        have f:Hid (Cn.clash (rs.getD k Cn.none) (rs.getD i Cn.none)=false->∀j,j<k+1->Cn.clash (rs.getD j Cn.none) (rs.getD i Cn.none)=false):=fun h j hj=>by
         rcases Nat.lt_or_ge j k with h'|h'
         ·exact af j h'
         ·obtain rfl:j=k:=f6J;exact h
        have B:=O L;have ai:=L.1.fit (i:=k) f6J;have q:=L.1.fit X;have aq:=V m k f6J;have am:=V m i X;obtain⟨b,ag,J,d,o,aw,hc⟩:=L.1.place f6J;obtain⟨rfl,rfl⟩:ao=some ⟨b,ag,none⟩/\M=J:=V6r;have hA:=hc k f6J;have l:=hc i X;clear hc d af L I Q m;obtain⟨x,u,S,p,⟨va,x4,Z⟩,t,x6,T⟩:=hA;obtain⟨y0,y1,y2,y3,⟨G,y4,D⟩,y5,y6,y7⟩:=l;have KC:Hid (∀n,Calls prog 71 #[recV (rs.getD k Cn.none) va,recV (rs.getD i Cn.none) G] (wr.drewN n) (x0c (wr.drewN n) (Cn.clash (rs.getD k Cn.none) (rs.getD i Cn.none)))):=fun n=>V C _ _ va G _ ai q (x5e Z n) (x5e D n) aq am;unfold recV at KC;obtain⟨tq,tc,rfl,_,_⟩:=Z.shape;obtain⟨uo,uc,rfl,_,_⟩:=D.shape;clear C ai q aq am Z D;generalize Cn.clash (rs.getD k Cn.none) (rs.getD i Cn.none)=y at c KC f;generalize(rs.getD k Cn.none).kind=kind1,(rs.getD k Cn.none).lo=lo1,(rs.getD k Cn.none).hi=hi1,(rs.getD k Cn.none).n=n1 at *;generalize(rs.getD k Cn.none).name=name1,(rs.getD k Cn.none).other=other1,(rs.getD k Cn.none).wt=wt1,(rs.getD k Cn.none).to.length=aA at *;generalize(rs.getD i Cn.none).kind=kind2,(rs.getD i Cn.none).lo=lo2,(rs.getD i Cn.none).hi=hi2,(rs.getD i Cn.none).n=n2 at *;generalize(rs.getD i Cn.none).name=name2,(rs.getD i Cn.none).other=other2,(rs.getD i Cn.none).wt=wt2,(rs.getD i Cn.none).to.length=aB at *;go_wp2;go_region_with (refine(V KC _).mono ?_;rintro e w1 ⟨rfl,E⟩)
        all_goals
         have g:=O ((V B).on (x0b (x0k ⟨_,rfl⟩) E));clear E B KC x u S p x4 t x6 T y0 y1 y2 y3 y4 y5 y6 y7
         cases y with
         | true =>
          obtain rfl:=V c rfl;clear c f;go_wp2;go_ret2;exact⟨rfl,(V g).2⟩
         | false =>
          have ar:=O (V f rfl);clear c f;go_wp2
          go_roundw
          case rel=>exact⟨k+1,g2A,f6J,V ar,V g⟩
          case measure=>exact g7T
       ·obtain rfl:k=i:=f6J;have f:=O (V Q af);have B:=O L;clear af L Q I;go_wp2;go_round
        case rel=>exact⟨k+1,g2A,f6J,V f,V B⟩
        case measure=>exact g7T
     ·obtain rfl:i=rs.length:=f6J;obtain rfl:=R.trans (Cn.t_end rs);have HF:=O L.2;clear R L m C;go_wp2;go_ret2;exact⟨rfl,V HF⟩
theorem z1w{H:Type}(d:DataW H):1<=Rows.uptoBulk d:=by
 cases d with
 | lit l=>cases l<;>simp[Rows.uptoBulk]
 | nil=>exact T8n
 | ptr d=>exact T8n
 | slice a b=>exact T8n
 | agg a=>exact T8n
 | iface t d=>exact T8n
 | map e=>exact T8n
 | held h=>exact T8n
theorem z1v{H:Type}(l:List (DataW H)):l.length<=Rows.uptoBulkAll l:=by
 induction l with
 | nil=>simp[Rows.uptoBulkAll]
 | cons x r ih =>
  have:=z1w x;simp only[Rows.uptoBulkAll,List.length_cons];omega
theorem y4O{H:Type}(a b:List (DataW H)):a.length<=Rows.uptoBulk (.slice a b):=by
 have:=z1v a;simp only[Rows.uptoBulk];omega
theorem bulk_string{H:Type}(l:List UInt8):l.length<=Rows.uptoBulk (DataW.lit (H:=H) (.string l)):=T8n
theorem bulk_le{H:Type}{l:List (DataW H)}(G:Rows.uptoSmall H l=true):Rows.uptoBulkAll l<=1048576:=o0d G
open Go.RowKit Go.ChangeShapes Go.WideShapes Go.Deep
theorem x5n{H:Type}(k:IntKind)(zs:List Int):Rows.uptoBulkAll (lits (H:=H) k zs)=zs.length:=by
 induction zs with
 | nil=>rfl
 | cons z zs ih =>
  have e:lits (H:=H) k (z::zs)=.lit (.int k z)::lits k zs:=rfl;rw[e,Rows.uptoBulkAll,ih];simp[Rows.uptoBulk];omega
theorem x8L{H:Type}{d:DataW H}:∀{l:List (DataW H)},d∈l->Rows.uptoBulk d<=Rows.uptoBulkAll l
 | [],h=>m5j
 | x::l,h=>by
  rw[Rows.uptoBulkAll];rcases List.mem_cons.1 h with rfl|h
  ·omega
  ·have:=x8L h;omega
section
variable {H:Type} {enc:TypeId×Value->H} {P:Program} {W:World} {base:Nat} {held:Bool}
theorem y6B{k:FloatKind}{t:TypeId}{A:Nat->Bool}{B:Nat}{cs:List Value}{x:DataW H×List MemPlace}(Q:P.underlying t=some (.float k))(h:DataW.trod enc P W base A held B t cs=some x):∃b,cs=[.float k b]/\(Lit.float k b).wf=true:=by
 cases B with
 | zero=>simp[DataW.trod]at h
 | succ n =>
  unfold DataW.trod at h;rw[Q]at h;split at h<;>simp_all
theorem y4f{t q:TypeId}{k:IntKind}{B:Nat}{cs:List Value}{x:DataW H×List MemPlace}(Q:P.underlying t=some (.slice q))(m:P.underlying q=some (.int k))(D:P.cellsOf q=1)
  (X:DataW.trod enc P W base (fun _=>true) held B t cs=some x) (Y:Rows.uptoBulk x.1<=1048576):∃v zs,cs=[v]/\Sk k W v zs/\zs.length<=1048576:=by
 rcases open_ints Q m D X with⟨M,_⟩|⟨C,l,c,zs,M,_,S,z,o,J,y,A⟩
 ·exact⟨_,[],M,Sk.nil _ _,M7L⟩
 ·simp only[if_true]at o;have I:x.1=_:=congrArg Prod.fst J
  have E:l<=Rows.uptoBulk x.1:=by
   rw[I,Rows.uptoBulk,x5n,x5n,List.length_take,List.length_drop];omega
  refine⟨_,zs.take l,M,z0o (.inr ⟨_,rfl,S,z,o,y,A⟩) f6J,?_⟩;rw[List.length_take];omega
end
section
variable {H:Type} {enc:TypeId×Value->H} {W:World} {base:Nat} {held:Bool}
theorem wf_i64{n:Int}(h:(Lit.int .i64 n).wf=true):I64 n:=by
 have:IntKind.i64.min<=n/\n<=IntKind.i64.max:=(by simpa[Lit.wf]using h);simpa[I64,IntKind.min,IntKind.max,IntKind.signed,IntKind.bits]using this
theorem z9R{b:Nat}(h:(Lit.float .f64 b).wf=true):b<18446744073709551616:=by
 simpa[Lit.wf]using h
theorem z9d{n:Nat}{cs:List Value}{x:DataW H×List MemPlace}(h:DataW.trod enc prog W base (fun _=>true) held n 67 cs=some x)(Y:Rows.uptoBulk x.1<=1048576):∃p:Rec×Value,cs=x0z p/\RecFit p.1/\Sk .i32 W p.2 p.1.to:=by
 obtain⟨L,k,G,A,t,F,X⟩:=DataW.trod_struct underlying67 h;have c8:prog.cellsOf 67=8:=f4y;have j:prog.cellsOf 3=1:=f4y;have K:prog.cellsOf 40=1:=f4y;have q:prog.cellsOf 9=1:=f4y;have T:prog.cellsOf 65=1:=f4y;have b:prog.cellsOf 21=1:=f4y;rw[c8]at t
 match L,F,cs,t with
 | [y0,y1,y2,y3,y4,y5,y6,y7],_,[v0,v1,v2,v3,v4,v5,v6,v7],_ =>
  have C:=X 0 _ rfl;have J:=X 1 _ rfl;have I:=X 2 _ rfl;have M:=X 3 _ rfl;have U:=X 4 _ rfl;have g:=X 5 _ rfl;have u:=X 6 _ rfl;have m:=X 7 _ rfl;simp[j,K,q,T]at C J I M U g u m;obtain⟨n0,e0,_,r⟩:=DataW.trod_int underlying3 C;obtain⟨S,e1,_,Q⟩:=DataW.trod_int underlying3 J;obtain⟨z,f,_,w2⟩:=DataW.trod_int underlying3 I;obtain⟨D,E,_,w3⟩:=DataW.trod_int underlying3 M
  have N:Rows.uptoBulk y4.1<=1048576:=by
   rw[A]at Y;have:=x8L (d:=y4.1) (l:=[y0,y1,y2,y3,y4,y5,y6,y7].map (·.1)) M7M;simp only[Rows.uptoBulk]at Y;omega
  obtain⟨v,y,o,R,l4⟩:=y4f underlying40 underlying21 b U N;obtain⟨B,i,_⟩:=DataW.trod_string underlying9 g;obtain⟨a,Z,_⟩:=DataW.trod_string underlying9 u;obtain⟨s,e7,c⟩:=y6B underlying65 m;simp only[List.cons.injEq,and_true]at e0 e1 f E o i Z e7;exact⟨(⟨n0,S,z,D,y,B,a,s⟩,v),by rw[e0,e1,f,E,o,i,Z,e7];rfl,⟨wf_i64 r,wf_i64 Q,wf_i64 w2,wf_i64 w3,by show y.length<=_;exact f6J,z9R c⟩,R⟩
theorem recs_open{a:Option Addr}{len cap:Nat}{d:DataW H}{p:List MemPlace}(h:DataW.Trod enc prog W base (fun _=>true) held 23 (.slice a len cap) d p)(Y:Rows.uptoBulk d<=1048576):∃rs,Rcs W (.slice a len cap) rs:=by
 obtain⟨B,X⟩:=h;have T:prog.cellsOf 67=8:=f4y;rcases open_slice underlying23 X with⟨M,_⟩|⟨x,l,c,m,n,D,q,M,_,S,z,A,J,t⟩
 ·simp[Value.cells]at M;obtain⟨rfl,rfl,rfl⟩:=M;exact⟨[],M7M,fun r u=>(by cases u),.inl ⟨rfl,none,0,rfl,f6J⟩⟩
 ·simp[Value.cells]at M;obtain⟨rfl,rfl,rfl⟩:=M;simp only[if_true]at A;subst A;simp only[Prod.mk.injEq]at J
  have s:len<=1048576:=by
   have:=y4O ((List.range len).map D) ((List.range (m-len)).map fun j=>D (len+j));rw[<- J.1]at this;simp only[List.length_map,List.length_range]at this;omega
  have E:∀i,i<len->Rows.uptoBulk (D i)<=1048576:=fun i hi=>by
   have Z:=x8L (d:=D i) (l:=(List.range len).map D) (List.mem_map.2 ⟨i,List.mem_range.2 hi,rfl⟩);rw[J.1]at Y;simp only[Rows.uptoBulk]at Y;omega
  rw[T]at t;have k:Inhabited (Rec×Value):=⟨(Cn.none,undef)⟩
  obtain⟨R,F⟩:=choose_lt (α:=Rec×Value) (p:=fun i r=>W.cells? base (x.add (i*8)) 8=some (x0z r)/\RecFit r.1/\Sk .i32 W r.2 r.1.to) (n:=len) (fun i hi=>by
   obtain⟨N,Z,h2⟩:=t i f6J;obtain⟨r,rfl,f⟩:=z9d h2 (E i hi)
   exact⟨r,Z,f⟩)
  have U:((List.range len).map fun i=>(R i).1).length=len:=M7M;refine⟨(List.range len).map fun i=>(R i).1,R7P,fun r u=>?_,?_⟩
  ·obtain⟨i,hi,rfl⟩:=List.mem_map.1 u;exact(F i (List.mem_range.1 hi)).2.1
  ·unfold maxLen at z;rcases Nat.eq_zero_or_pos len with h0|h0
   ·subst h0;exact .inl ⟨rfl,some x,m,rfl,f6J⟩
   ·have y:∀i,i<len->∀j,j<8->W.cell? (x.add (i*8+j))=(x0z (R i))[j]?:=by
     intro i hi j K;obtain⟨_,g,C⟩:=World.cells?_some (F i hi).1;have:=C j f6J;rw[add_add]at this;exact this
    have Q:=y 0 h0 0 f6J;have I:x.add (0*8+0)=x:=(by simp[Addr.add]);rw[I]at Q;have L:=plain_of_cell (v:=.int .i64 (R 0).1.kind) Q;generalize x.block=b,x.off=o at *;subst L;refine .inr ⟨b,o,m,by rw[U],R7P,f6J,fun i hi=>?_⟩;rw[U]at hi;have hd:((List.range len).map fun i=>(R i).1).getD i Cn.none=(R i).1:=n7D;rw[hd]
    have G:∀j,j<8->W.cell? ⟨b,o+i*8+j,none⟩=(x0z (R i))[j]?:=fun j K=>by
     have:=y i hi j K;rw[addr_add]at this;rw[(f6J:o+i*8+j=o+(i*8+j))];exact this
    exact⟨G 0 f6J,G 1 f6J,G 2 f6J,G 3 f6J,⟨_,G 4 f6J,(F i hi).2.2⟩,G 5 f6J,G 6 f6J,G 7 f6J⟩
theorem z7g{t:TypeId}{a:Option Addr}{len cap:Nat}{d:DataW H}{p:List MemPlace}(Q:prog.underlying t=some (.slice 21))(h:DataW.Trod enc prog W base (fun _=>true) held t (.slice a len cap) d p)(Y:Rows.uptoBulk d<=1048576):∃zs,Sk .i32 W (.slice a len cap) zs/\zs.length<=1048576:=by
 obtain⟨B,X⟩:=h;obtain⟨v,zs,e,s,l⟩:=y4f Q underlying21 f4x X Y;simp[Value.cells]at e;subst e;exact⟨zs,s,l⟩
end
