/- Lemmas. -/
import Derived.Test.YtkfcabdmkmljjaaGreatDoorF44
set_option maxHeartbeats 8000000
set_option maxRecDepth 20000
namespace Go.Proofs.YtkfcabdmkmljjaaGreatDoor
open Go.Proofs.Tryz
open Go.RowKit
open Ti
section
variable{p:Prop}
theorem U6Z(h:p:=by rw[Nat.zero_testBit]at hi;cases hi):p:=h
end
namespace Id
theorem Sub.ite{c d:Prop}[Decidable c][Decidable d]{n:Nat}(h:c->d):Sub (if c then n else 0) (if d then n else 0):=fun i hi=>by
 split at hi
 ·rename_i hc;rw[if_pos (h hc)];exact hi
 ·exact U6Z
theorem Sub.fold{α:Type}{f g:α->Nat}:∀(l:List α) (a b:Nat),Sub a b->(∀x∈l,Sub (f x) (g x))->Sub ((l.map f).foldl (·|||·) a) ((l.map g).foldl (·|||·) b)
 | [],_,_,h,_=>h
 | x::l,_,_,h,hx=>Sub.fold l _ _ (h.or (hx x M7K)) fun y hy=>hx y (by simp[hy])
theorem z9C{v v':Bool}(h:v'=true->v=true) x:Sub (eb v' x) (eb v x):=by
 cases v' with
 | true=>rw[h rfl];exact Sub.refl _
 | false =>
  unfold eb;split
  ·exact Sub.refl _
  ·rw[if_neg (by simp[unf])];exact fun i hi=>U6Z
theorem y7L{v v':Bool}(h:v'=true->v=true) yss:Sub (carry v' yss).2 (carry v yss).2:=by
 refine Sub.or (Sub.or (Sub.fold yss 0 0 (Sub.refl _) fun x _=>z9C h x) (Sub.ite fun d=>?_)) (Sub.refl _);unfold unf at *;rw[Bool.and_eq_true]at *;exact⟨h d.1,d.2⟩
theorem z3W{mp nc hr}{ck B:List Int->Bool->Bool->Nat}(h:∀X r d,Sub (B X r d) (ck X r d)) zs:(proc mp nc hr B zs).1=(proc mp nc hr ck zs).1/\Sub (proc mp nc hr B zs).2 (proc mp nc hr ck zs).2/\((proc mp nc hr ck zs).1=[]->(proc mp nc hr B zs).2=(proc mp nc hr ck zs).2):=by
 unfold proc;split
 ·exact⟨rfl,Sub.refl _,fun _=>rfl⟩
 ·split
  ·exact⟨rfl,Sub.refl _,fun _=>rfl⟩
  ·refine⟨rfl,Sub.fold _ 0 0 (Sub.refl _) fun x _=>?_,fun F=>?_⟩
   ·unfold wrong wr;split
    ·exact h _ _ _
    ·exact Sub.refl _
   ·have A:=List.map_eq_nil_iff.1 F;rw[A];rfl
theorem y3q{v r}(h:ur r.2=false):(toA v r).2=r.2|||(carry v r.1).2:=by
 unfold toA;rw[if_neg s8h];split
 ·rfl
 ·rename_i h0;exact(Decidable.of_not_not h0).symm
theorem y4K{v r}(h:ur r.2=false)(U:(toA v r).2=0):toA v r=(whole r.1,0):=by
 rw[y3q h]at U;unfold toA;rw[if_neg s8h,if_neg (by rw[U];exact e8M)];rfl
theorem y8H:∀f:Fin 64,∀m:Fin 64,m.val&&&17=0->let g:=f.val&&&(63 ^^^ m.val);bits .andNot .i64 (f.val:Int) (m.val:Int)=(g:Int)/\tr15 (g:Int)=tr15 (f.val:Int)/\Lb.flg (g:Int) 1=Lb.flg (f.val:Int) 1/\Lb.flg (g:Int) 16=Lb.flg (f.val:Int) 16 /\
  (Lb.flg (g:Int) 2->Lb.flg (f.val:Int) 2)/\(Lb.flg (g:Int) 4->Lb.flg (f.val:Int) 4)/\(Lb.flg (g:Int) 8->Lb.flg (f.val:Int) 8)/\((bits .and .i64 (g:Int) 32==32)->(bits .and .i64 (f.val:Int) 32==32)):=M3j
theorem and46 less:∃m:Nat,m<64/\m&&&17=0/\bits .and .i64 less 46=(m:Int):=by
 refine⟨(BitVec.ofInt 64 less&&&BitVec.ofInt 64 46).toNat,?_,?_,?_⟩
 ·exact i9W
 ·rw[BitVec.toNat_and,Nat.and_assoc,(e8M:(BitVec.ofInt 64 46).toNat&&&17=0),Nat.and_zero]
 ·have h:(BitVec.ofInt 64 less&&&BitVec.ofInt 64 46).toNat<64:=i9W
  show IntKind.i64.wrap (((BitVec.ofInt 64 less&&&BitVec.ofInt 64 46).toNat:Nat):Int)=_;generalize(BitVec.ofInt 64 less&&&BitVec.ofInt 64 46).toNat=n at *;exact G8v
theorem fewer{rs}{f m:Nat}(C:f<64)(o:m<64)(Y:m&&&17=0):∃g:Nat,g<64/\bits .andNot .i64 (f:Int) (m:Int)=(g:Int) /\
  (∀zs,(Cn.proc19 rs g zs).1=(Cn.proc19 rs f zs).1/\Sub (Cn.proc19 rs g zs).2 (Cn.proc19 rs f zs).2/\((Cn.proc19 rs f zs).1=[]->(Cn.proc19 rs g zs).2=(Cn.proc19 rs f zs).2))/\((bits .and .i64 (g:Int) 32==32)=true->(bits .and .i64 (f:Int) 32==32)=true):=by
 obtain⟨U,Z,D,J,F,E,q,y⟩:=y8H ⟨f,C⟩ ⟨m,o⟩ Y;simp only at U Z D J F E q y;refine⟨f&&&(63 ^^^ m),Nat.lt_of_le_of_lt Nat.and_le_left C,U,fun zs=>?_,y⟩;generalize f&&&(63 ^^^ m)=g at *;unfold Cn.proc19;rw[show Cn.map19 rs (g:Int)=Cn.map19 rs (f:Int)by unfold Cn.map19;rw[Z]];refine z3W (fun X r d i hi=>?_) zs;unfold Cn.x5C Lb.err at *;split at hi
 ·exact U6Z
 ·rename_i hx
  rw[if_neg hx];rcases Lb.chk_sub (fun h=>by rwa [D]at h) F E q (fun h=>by rwa [J]at h) id i hi with h | ⟨_,a,b⟩
  ·exact h
  ·rw[D,b]at a;cases a
theorem y8I{B D:List (List Int)×Nat}{zs}{J K:Bool}(C:Way B)(H:Way D)(W:D.1=B.1)(Z:Sub D.2 B.2)(k:B.1=[]->D.2=B.2)(N:K=true->J=true) :
  Sub (toA K D).2 (toA J B).2/\((toA J B).2=0->(toA K D).1=(toA J B).1)/\Sub (toU D zs).2 (toU B zs).2/\(toU D zs).1=(toU B zs).1:=by
 obtain⟨A,G⟩:=D;rcases C with⟨c,rfl,I⟩ | ⟨E,n,rfl,F,R,_⟩
 ·obtain rfl:A=[]:=W;obtain rfl:G=c:=k rfl;have d:ur G=true:=(by rcases I with rfl | rfl<;>rfl);have P:∀v,toA v ([],G)=([],G):=fun v=>if_pos d;rw[P,P];exact⟨Sub.refl _,fun _=>rfl,Sub.refl _,rfl⟩
 ·obtain rfl:A=E:=W
  have s:G%4=0:=by
   rcases H with⟨c,h,_⟩ | ⟨y,m,h,o,_⟩
   ·rw[(Prod.mk.inj h).1]at R;simp at R
   ·rw[(Prod.mk.inj h).2];exact o
  have u1:=ur4 F;have u2:=ur4 s;have P:∀m,ur m=false->toU (A,m) zs=(txt (Spl.join A),m):=fun m h=>if_neg s8h
  have L:Sub (toA K (A,G)).2 (toA J (A,n)).2:=by
   rw[y3q (r:=(A,G)) u2,y3q (r:=(A,n)) u1];exact Sub.or Z (y7L N A)
  refine⟨L,fun U=>?_,?_,?_⟩
  ·rw[y4K (r:=(A,G)) u2 (L.zero U),y4K (r:=(A,n)) u1 U]
  ·rw[P _ u1,P _ u2];exact Z
  ·rw[P _ u1,P _ u2]
end Id
theorem fewer_law19 v rs0 s0 fl less w(hg:Glob w)(hv:Rcs w v rs0):Calls prog 6 #[v,.string s0,.int .i64 fl,.int .i64 less] w (y4Q w true):=by
 have l:=O (x6f v rs0 w hg hv);obtain⟨ao,ay,rfl,_,aD⟩:=hv.shape;have o:=O hg;have K:∀r∈rs0.take 150,RecFit r:=fun r hr=>hv.2.1 _ (List.mem_of_mem_take hr);clear hg hv;generalize rs0.take 150=rs,rs0.length=L at *;obtain⟨s,hs⟩:∃s,s0.extract 0 (min (s0.size:Int) 600).toNat=s:=⟨_,rfl⟩;have aN:s.size<=600:=m0o;obtain⟨f,hf,aF⟩:=Id.z5K fl;obtain⟨m,hm,J,aG⟩:=Id.and46 less;obtain⟨g,aL,aM,hp,ab⟩:=Id.fewer (rs:=rs) hf hm J;have HP:=O hp;have HV:=O ab;clear hp ab J;go_enter func6,ntmps6;go_wp2_with fail;refine(V l).mono ?_;rintro e1 w1 ⟨b1,h1⟩;have R:=O b1;clear l b1;rcases h1 with⟨y,rfl⟩ | ⟨U,p,v2,ar,rfl,hD,r2,p2⟩
 ·have K2:=O (z1t w1 ((V o).on (V R)));clear y HP HV;go_wp2_with fail;refine c0m K2 fun w2 b2=>?_;have X:=O (bthen (V R) b2);clear K2 b2;go_wp2;go_ret;exact⟨rfl,V X⟩
 ·obtain⟨a2,aJ,aB⟩:∃a c,v2=.slice a ar.length c:=by
   rcases r2.1.2 with⟨h,U⟩ | ⟨g,ay,aK,e,_⟩
   ·exact⟨none,0,by rw[h,U]⟩
   ·exact m4S
  subst aB;have d:∀k:Int,IdC p k (Cn.map19 rs k) (Cn.nfc19 rs) (Cn.x5G rs) (Cn.x5C rs k) w1:=fun k=>x5H ((V o).on (V R)) hD U K k
  have KA:∀k:Nat,Hid (∀W,Bw w1 W->∀q,EngAt W q (k:Int) p->Calls prog 11 #[.pointer (some ⟨q,0,none⟩),.string s] W (x6s W (Id.toA (bits .and .i64 (k:Int) 32==32) (Cn.proc19 rs k (nums s))))):=fun k W hW q Y=>by
   have hI:=x5H ((V o).on (bthen (V R) hW)) (hD.below hW) U K (k:Int);exact z8o hI Y (x1h hI Y s)
  have A:∀k:Nat,Hid (∀W,Bw w1 W->∀q,EngAt W q (k:Int) p->Calls prog 12 #[.pointer (some ⟨q,0,none⟩),.string s] W (x6s W (Id.toU (Cn.proc19 rs k (nums s)) (nums s)))):=fun k W hW q Y=>by
   have hI:=x5H ((V o).on (bthen (V R) hW)) (hD.below hW) U K (k:Int);exact E7f
  obtain⟨p1,aq,p3⟩:=V HP (nums s);obtain⟨q1,q2,q3,q4⟩:=Id.y8I (zs:=nums s) (ways19 (d f) s) (ways19 (d g) s) p1 aq p3 (V HV);have t:=Id.z7y q1;have aA:=Id.z7y q3;have K3:=O (y6e p f f6J f6J w1);have K4:=O fun W=>y6e p g f6J f6J W;have am:=KA f;have C:=KA g;have Q:=A f;have D:=A g;clear KA A d hD r2 U o p2 K HP HV p1 aq p3 q1 q3;generalize Id.toA (bits .and .i64 (f:Int) 32==32) (Cn.proc19 rs f (nums s))=af,Id.toA (bits .and .i64 (g:Int) 32==32) (Cn.proc19 rs g (nums s))=ag,Id.toU (Cn.proc19 rs f (nums s)) (nums s)=uf,Id.toU (Cn.proc19 rs g (nums s)) (nums s)=ug,ar.length=rl at *;obtain⟨aH,S⟩:=af;obtain⟨aw,aI⟩:=ag;obtain⟨aP,aQ⟩:=uf;obtain⟨aC,aR⟩:=ug;simp only at q2 q4 t aA;subst q4;go_wp2_with fail;refine(V K3).mono ?_;rintro e3 w3 ⟨q,rfl,Y,b3⟩;have HE:=O Y;have Z:=O b3;have ae:=O (bthen (V R) b3);clear K3 Y b3 R;go_wp2_with fail;refine(V K4 w3).mono ?_;rintro e4 w4 ⟨q',rfl,E,b4⟩;have F:=O E;have T:=O ((V HE).on b4);have x:=O (bthen (V Z) b4);have M:=O (bthen (V ae) b4);clear K4 E b4 HE Z ae;have K5:=O (V am w4 (V x) q (V T));go_wp2_with fail;refine c0m K5 fun w5 b5=>?_;have aj:=O ((V T).on b5);have B:=O ((V F).on b5);have j:=O (bthen (V x) b5);have u:=O (bthen (V M) b5);clear K5 am b5 T F x M;have K6:=O (V C w5 (V j) q' (V B));go_wp2_with fail;refine c0m K6 fun w6 z=>?_;have N:=O ((V aj).on z);have H:=O ((V B).on z);have n:=O (bthen (V j) z);have b:=O (bthen (V u) z);clear K6 C z aj B j u;have K7:=O (V Q w6 (V n) q (V N));go_wp2_with fail;refine c0m K7 fun w7 b7=>?_;have I:=O ((V H).on b7);have G:=O (bthen (V n) b7);have i:=O (bthen (V b) b7);clear K7 Q b7 N H n b;have K8:=O (V D w7 (V G) q' (V I));go_wp2_with fail;refine c0m K8 fun w8 b8=>?_;have P:=O (bthen (V i) b8);clear K8 D b8 I G i;generalize strOfNums aC=us at *;by_cases hz:S=0
  ·subst hz;obtain rfl:=q2 rfl;generalize strOfNums aw=az at *;exact E1D
  ·have aO:((S:Int) != 0)=true:=(by rw[bne_iff_ne];exact f6J);clear q2;exact E1D
