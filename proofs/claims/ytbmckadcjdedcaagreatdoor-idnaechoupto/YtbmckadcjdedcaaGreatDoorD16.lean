/- Rn7 Ro7 Rp7 Rq7 Rr7 -/
import Derived.Test.YtbmckadcjdedcaaGreatDoorD3
import Derived.Deep.AppendLies
import Derived.Laws.AppendOwnNone
set_option maxHeartbeats 8000000
set_option maxRecDepth 8000
namespace Go.Proofs.YtbmckadcjdedcaaGreatDoor
open Go.Proofs.Tryz
open Go.RowKit
section
variable{p:Prop}
theorem I8X(h:p:=by go_wp2;go_ret;exact⟨rfl,V B _⟩):p:=h
theorem I7C(h:p:=by rw[<- ByteArray.toList_eq,e];rfl):p:=h
theorem U9k(h:p:=by go_enter func113,ntmps113;go_wp2_with fail;refine(V E _).mono ?_;rintro e Q ⟨rfl,rfl⟩;go_wp2;go_ret;exact⟨rfl,V B _⟩):p:=h
theorem r8B(h:p:=by go_enter func73,ntmps73;exact I8X):p:=h
theorem R4Q(h:p:=by go_enter func74,ntmps74;exact t6u):p:=h
theorem f6K(h:p:=by go_enter func75,ntmps75;exact t6u):p:=h
theorem v0D(h:p:=by go_enter func77,ntmps77;exact t6u):p:=h
theorem I6Y(h:p:=by simp[x0h, *]<;>rfl):p:=h
theorem t6w(h:p:=by go_wp2;go_ret;exact⟨rfl,rfl⟩):p:=h
theorem r9Q(h:p:=by simpa[dips]using R):p:=h
theorem U3b(h:p:=by go_enter func113,ntmps113;go_wp2;go_ret;exact⟨rfl,V B _⟩):p:=h
theorem w6x(h:p:=by
 obtain rfl:=V ag aL;clear ag af;go_wp2_with(at_builtin;refine wpList_append_lies _ rfl (.tmp 21) (.tmp 23) 40 rfl U.heap.size 21 i0 (.int .i32 0) 1 4 underlying40 hi aG aH aI rfl e8Q _ _ _ rfl (N.alloc _) ⟨Q.heap.size,0,none⟩ 1 1 [.int .i32 c] rfl rfl (cell_one_new _ _ _) (x0J .i32 _) f6J T7X f6J P8P (Q.heap.size+1) (by simp) ?_)
 all_goals try(go_ret2;exact⟨_,rfl,x2d E _,.inr ⟨e8Q,rfl⟩⟩)
 intro g G w9 Y R s _;have M:w.grownBy w9 D.ownBlock:=x1L (x2d (E.alloc aw _) _) R (.inl rfl);have x:Ok .i32 21 w9 U.heap.size (.slice (some ⟨g,0,none⟩) (out.length+1) G) (out++[c]):=Ok.of (fun z hz=>T4H) P8P Y (by simp) (by simp)
 have X:(Value.slice (some ⟨g,0,none⟩) (out.length+1) G).ownBlock=D.ownBlock\/∃g',(Value.slice (some ⟨g,0,none⟩) (out.length+1) G).ownBlock=some g'/\w.heap.size<=g':=e1B
 have T:x7n w U.heap.size D ([],2) (.returned (.tuple #[.slice none 0 0,.int .i64 2])) w9:=⟨_,rfl,M,.inr ⟨e8Q,rfl⟩⟩;clear Y R s x X M N u F E A;go_wp2;go_ret2;exact T):p:=h
theorem I3Y(h:p:=by have X:Cn.scalar c=false:=(by unfold Cn.scalar;exact P8P);rw[X];go_enter func116,ntmps116;exact t6w):p:=h
theorem u8B(h:p:=by
 obtain rfl:=V af aL;clear ag af;go_wp2_with(at_builtin;refine wpList_append_lies _ rfl (.tmp 21) (.tmp 23) 40 rfl U.heap.size 21 i0 (.int .i32 0) 1 4 underlying40 hi aG aH aI rfl e8S _ _ _ rfl (N.alloc _) ⟨Q.heap.size,0,none⟩ 1 1 [.int .i32 c] rfl rfl (cell_one_new _ _ _) (x0J .i32 _) f6J T7X f6J P8P (Q.heap.size+1) (by simp) ?_);intro g G w9 Y R s _;have M:w.grownBy w9 D.ownBlock:=x1L (x2d (E.alloc aw _) _) R (.inl rfl);have x:Ok .i32 21 w9 U.heap.size (.slice (some ⟨g,0,none⟩) (out.length+1) G) (out++[c]):=Ok.of (fun z hz=>T4H) P8P Y (by simp) (by simp)
 have X:(Value.slice (some ⟨g,0,none⟩) (out.length+1) G).ownBlock=D.ownBlock\/∃g',(Value.slice (some ⟨g,0,none⟩) (out.length+1) G).ownBlock=some g'/\w.heap.size<=g':=e1B
 have T:x7n w U.heap.size D (out++[c],0) (.returned (.tuple #[.slice (some ⟨g,0,none⟩) (out.length+1) G,.int .i64 0])) w9:=⟨_,rfl,M,.inl ⟨rfl,x,X⟩⟩;clear Y R s x X M N u F E A;go_wp2;go_ret2;exact T):p:=h
theorem r8D(h:p:=by have X:Cn.scalar c=true:=(by unfold Cn.scalar;exact P8P);rw[X];go_enter func116,ntmps116;exact t6w):p:=h
theorem T4H(h:p:=by rcases List.mem_append.1 hz with hz | hz;exact F.1 z hz;(simp at hz;subst hz;simp[IntKind.min,IntKind.max,IntKind.signed,IntKind.bits];omega)):p:=h
theorem U3T(h:p:=by intro j hj;obtain⟨b,P,aq,he,_,_,p⟩:=v.place f6J;obtain⟨rfl,rfl⟩:wo=some ⟨b,P,none⟩/\aS=aq:=(by simpa using he);exact⟨b,P,rfl,p j hj⟩):p:=h
theorem u9p(h:p:=by
 generalize B.getD k 0=z at *;go_wp2;go_round
 case rel=>exact⟨k+1,g2D,f6J,V bh⟩
 case measure=>simp[intOf];omega):p:=h
theorem e1B(h:p:=by
 rcases s with h | h
 ·exact .inl h.symm
 ·exact .inr ⟨g,rfl,f6J⟩):p:=h
theorem w6D(h:p:=by go_wp2;go_ret2;exact T):p:=h
theorem R9I(h:p:=by obtain⟨j,hj,he⟩:=List.getElem_of_mem h;exact V m j hj (by simp[List.getD,hj,he])):p:=h
theorem W2W(h:p:=by
 rcases Nat.lt_or_ge j k with h | h
 ·exact V m j h
 ·obtain rfl:j=k:=f6J;exact ab):p:=h
theorem P1A(h:p:=by exact⟨0,rfl,f6J,fun j hj=>absurd hj (Nat.not_lt_zero _)⟩):p:=h
theorem m7V(h:p:=by rw[<- ab];simp[List.getD,aM]):p:=h
end
theorem x2d{w w1:World}(h:Bw w w1)(r:Option Nat):w.grownBy w1 r:=⟨h.os,h.tape,h.output,h.size,fun k G _=>h.block k G⟩
theorem x1L{w w1 w2:World}{r A:Option Nat}(h:w.grownBy w1 r)(k:w1.grownBy w2 A)(hr:A=r\/∃g,A=some g/\w.heap.size<=g):w.grownBy w2 r:=by
 refine⟨k.os.trans h.os,k.tape.trans h.tape,k.output.trans h.output,Nat.le_trans h.size k.size,fun x J F=>?_⟩;rw[k.block x (Nat.lt_of_lt_of_le J h.size) ?_,h.block x J F];rcases hr with rfl | ⟨g,rfl,Y⟩
 ·exact F
 ·grind
theorem cell_one_new(w:World)(e:TypeId)(v:Value):∀j u,[v][j]?=some u->(w.alloc (.cells #[v] e)).cell? ((⟨w.heap.size,0,none⟩:Addr).add j)=some u:=by
 intro j u K
 match j,K with
 | 0,K=>simp at K;subst K;simp[World.cell?,World.alloc,Addr.add,-World.alloc_eq]
 | j+1,K=>simp at K
theorem x5d{w:World}{A:Array Oper}{rest:List Oper}{o:Oper}{a:Act}{Q:Exit->Act->World->Prop}(C:o.guard=none)(s x:Operand)
  (y:o.op=.call { callee:=.builtin .append,args:=#[s,x],argTypes:=#[40,40] }) (v:Value) (zs:List Int) (X:a.eval s=.slice none 0 0) (J:a.eval x=v) (N:Sk .i32 w v zs) (S:zs.length<=1000)
  (h:∀v' w',Ok .i32 21 w' w.heap.size v' zs->Bw w w'->wpList prog A Q rest (a.put o.dst v') w'):wpList prog A Q (o::rest) a w:=by
 obtain⟨r,hi,i,d,f⟩:=info_parts Tryz.info21;rcases N.2.src with⟨E,rfl⟩ | ⟨p,M,rfl,B⟩
 ·obtain rfl:zs=[]:=(by simpa using E);exact wpList_append_own_none C s x 40 y w.heap.size 21 r 1 underlying40 hi _ _ _ X (World.ownsRow_nil _ _ _ _) J (h _ _ (Ok.nil _ _ _ _) (b0r))
 ·refine wpList_append_own _ C s x 40 y w.heap.size 21 r (.int .i32 0) 1 4 underlying40 hi i d f rfl e8P _ _ _ X (World.ownsRow_nil _ _ _ _) p _ M (zs.map (Value.int .i32)) J M7N B (x0R .i32 zs) (by simp[maxLen];exact f6J) P8P (l0r _) ?_;intro v' w' D Y _;exact h v' w' (Ok.of N.1 f6J D M7N M7N) (x1G (e:=21) (l0r _) (World.ownsRow_nil _ _ _ _) (b0r) Y)
def x7n(w:World)(B:Nat)(vo:Value)(r:List Int×Int)(e:Ending)(w':World):Prop :=
 ∃v,e=.returned (.tuple #[v,.int .i64 r.2])/\w.grownBy w' vo.ownBlock/\((r.2=0/\Ok .i32 21 w' B v r.1/\(v.ownBlock=vo.ownBlock\/∃g,v.ownBlock=some g/\w.heap.size<=g))\/(r.2≠0/\v=.slice none 0 0))
def WIn(w:World)(B:Nat)(vout vx vd:Value)(xs down:List Int)(rs:List Rec)(f:Nat)(res:List Int×Int)(k:Nat)(vo:Value)(wr:World):Prop :=
 ∃outk,Ok .i32 21 wr B vo outk/\outk.length<=32/\(xs.drop k).foldl (Cn.stepW rs f down) (outk,0)=res/\Ok .i32 21 wr w.heap.size vx xs/\Ok .i32 21 wr w.heap.size vd down /\
  (∀g,vo.ownBlock=some g->vx.ownBlock≠some g/\vd.ownBlock≠some g)/\w.grownBy wr vout.ownBlock/\(vo.ownBlock=vout.ownBlock\/∃g,vo.ownBlock=some g/\w.heap.size<=g)
theorem WIn.next{w wr w':World}{B:Nat}{D q E M v':Value}{xs I:List Int}{rs:List Rec}{f:Nat}{t:List Int×Int}{k:Nat}{n:List Int}(G:k<xs.length)
  (Z:n.length<=32) (R:(xs.drop k).foldl (Cn.stepW rs f I) (n,0)=t) (H:Ok .i32 21 wr w.heap.size q xs) (hd:Ok .i32 21 wr w.heap.size E I)
  (F:∀g,M.ownBlock=some g->q.ownBlock≠some g/\E.ownBlock≠some g) (Y:w.grownBy wr D.ownBlock) (N:M.ownBlock=D.ownBlock\/∃g,M.ownBlock=some g/\w.heap.size<=g)
  (m:wr.grownBy w' M.ownBlock) (J:(Cn.walk rs f I (xs.getD k 0) n).2=0) (y:Ok .i32 21 w' B v' (Cn.walk rs f I (xs.getD k 0) n).1) (C:v'.ownBlock=M.ownBlock\/∃g,v'.ownBlock=some g/\wr.heap.size<=g) :
  WIn w B D q E xs I rs f t (k+1) v' w':=by
 have A:∀g,g<wr.heap.size->M.ownBlock≠some g->w'.heap[g]?=wr.heap[g]?:=fun g a b=>m.block g a (fun e=>b e.symm);refine⟨(Cn.walk rs f I (xs.getD k 0) n).1,y,Cn.x9J _ _ _ _ _ Z,?_,H.keep (fun g h=>A g (H.2.2.lt g h).2 (fun e=>(F g e).1 h)),hd.keep (fun g h=>A g (hd.2.2.lt g h).2 (fun e=>(F g e).2 h)),fun g h=>?_,x1L Y m ?_,?_⟩
 ·rw[<- R,Cn.x6r G];congr 1;exact Prod.ext rfl J.symm
 ·rcases C with e | ⟨c,e,Q⟩
  ·exact F g (e ▸ h)
  ·rw[e]at h;obtain rfl:=Option.some.inj h;exact⟨fun S=>by have:=(H.2.2.lt c S).2;exact f6J,fun S=>by have:=(hd.2.2.lt c S).2;exact f6J⟩
 ·exact N
 ·rcases C with e | ⟨c,e,Q⟩
  ·grind
  ·exact .inr ⟨c,e,Nat.le_trans Y.size Q⟩
theorem WIn.start{w wr:World}{B:Nat}{D q E:Value}{xs I out:List Int}{rs:List Rec}{f:Nat}(y:Ok .i32 21 w B D out)(S:out.length<=32)(J:Ok .i32 21 wr w.heap.size q xs)(hd:Ok .i32 21 wr w.heap.size E I)(C:Bw w wr) :
  WIn w B D q E xs I rs f (xs.foldl (Cn.stepW rs f I) (out,0)) 0 D wr:=by
 refine⟨out,y.below C,S,s4M,J,hd,fun g h=>?_,x2d C _,.inl rfl⟩;have H:=(y.2.2.lt g h).2;exact⟨fun e=>by have:=(J.2.2.lt g e).1;exact f6J,fun e=>by have:=(hd.2.2.lt g e).1;exact f6J⟩
theorem y2x(U:World)(vl:Value)(rs:List Rec)(hR:∀W,Bw U W->Rcs W vl rs):∀(f:Nat) (B:List Int) (c:Int) (out:List Int) (w:World) (aD D:Value),f+B.length=16->Rune c->Bw U w->Sk .i32 w aD B->Ok .i32 21 w U.heap.size D out->out.length<=32 ->
  Calls prog 120 #[vl,.int .i32 c,aD,D] w (x7n w U.heap.size D (Cn.walk rs f B c out)):=by
 intro f
 induction f with
 | zero =>
  intro B c out w aD D bH hc A y F aZ;obtain⟨i0,hi,aG,aH,aI⟩:=info_parts Tryz.info21;have hB:=A.size;have K1:=O (x2B vl rs c w (hR w A) hc);have bI:=(hR w A).1;obtain⟨lo,bE,rfl,_,_⟩:=(hR w A).shape;obtain⟨c0,c1⟩:=hc;obtain⟨wo,aS,rfl,bK,bL⟩:=y.shape;by_cases i:Cn.opn rs c=[]
  ·have aA:=Cn.x0Y i 0 B out;rw[i]at K1;have ag:Hid (32<=out.length->Cn.walk rs 0 B c out=([],2)):=fun h=>(by rw[aA,if_pos h]);have af:Hid (¬32<=out.length->Cn.walk rs 0 B c out=(out++[c],0)):=fun h=>(by rw[aA,if_neg h]);generalize Cn.walk rs 0 B c out=t at *;clear aA;go_enter func120,ntmps120;go_wp2_with fail;refine(V K1).mono ?_;rintro e Q ⟨vx,rfl,ae,E⟩;obtain⟨xo,o,rfl,_,_⟩:=ae.sk.shape;have u:=F.below E;have N:=u.row;have ai:([]:List Int).length=0:=rfl;rw[ai];have aw:=E.size;clear K1 ae y ai;by_cases aL:32<=out.length
   ·exact w6x
   ·exact u8B
  ·have bO:0<(Cn.opn rs c).length:=List.length_pos_iff.2 i;have Z:Hid (c∈B->Cn.walk rs 0 B c out=([],72)):=fun h=>Cn.x2o i 0 h out;have H:Hid (¬c∈B->Cn.walk rs 0 B c out=([],73)):=fun h=>Cn.x7h i h out;generalize Cn.walk rs 0 B c out=t at *;clear i;generalize Cn.opn rs c=xs at *;go_enter func120,ntmps120;go_wp2_with fail;refine(V K1).mono ?_;rintro e Q ⟨vx,rfl,ae,E⟩;obtain⟨xo,o,rfl,bM,bN⟩:=ae.sk.shape;have aw:=E.size;have qx:((xs.length:Int)==0)=false:=b0f f6J;have v:=y.below E
   have aj:Hid (∀j,j<B.length->∃b P,wo=some ⟨b,P,none⟩/\Q.cell? ⟨b,P+j,none⟩=some (.int .i32 (B.getD j 0))):=U3T
   have K:=O ae;have J:=O v;have l:=O E;have L:=O F;clear K1 ae y v E F;go_wp2;go_loop [11] (fun iv=>∃k:Nat,iv=.int .i64 k/\k<=B.length/\∀j,j<k->B.getD j 0≠c) (fun iv=>B.length-(intOf iv).toNat)
   case atStart=>exact P1A
   case round =>
    obtain⟨k,rfl,hk,aP⟩:=hrel;have m:=O aP;clear aP;by_cases aM:k<B.length
    ·obtain⟨b,P,rfl,am⟩:=V aj k aM;by_cases ab:B.getD k 0=c
     ·have ar:c∈B:=m7V;obtain rfl:=V Z ar;rw[ab]at am;have qc:(c==c)=true:=beq_self_eq_true _;have T:x7n w U.heap.size D ([],72) (.returned (.tuple #[.slice none 0 0,.int .i64 72])) Q:=⟨_,rfl,x2d (V l) _,.inr ⟨e8X,rfl⟩⟩;clear aj Z m ab ar K J l L;clear H;exact w6D
     ·have qc:(B.getD k 0==c)=false:=b0f ab
      have bh:Hid (∀j,j<k+1->B.getD j 0≠c):=fun j hj=>W2W
      clear aj Z m ab K J l L;clear H;exact u9p
    ·obtain rfl:k=B.length:=by omega
     have aO:¬c∈B:=fun h=>R9I
     obtain rfl:=V H aO;have bA:B.length=16:=f6J;have bP:((B.length:Int)==16)=true:=(by rw[bA];rfl);have T:x7n w U.heap.size D ([],73) (.returned (.tuple #[.slice none 0 0,.int .i64 73])) Q:=⟨_,rfl,x2d (V l) _,.inr ⟨e8X,rfl⟩⟩;clear aj Z m H aO K J l L bA;exact w6D
 | succ f ih =>
  intro B c out w aD D bH hc A y F aZ;obtain⟨i0,hi,aG,aH,aI⟩:=info_parts Tryz.info21;have hB:=A.size;have K1:=O (x2B vl rs c w (hR w A) hc);have bI:=(hR w A).1;obtain⟨lo,bE,rfl,_,_⟩:=(hR w A).shape;have IH:=O ih;obtain⟨c0,c1⟩:=hc;obtain⟨wo,aS,rfl,bK,bL⟩:=y.shape;by_cases i:Cn.opn rs c=[]
  ·have aA:=Cn.x0Y i (f+1) B out;rw[i]at K1;have ag:Hid (32<=out.length->Cn.walk rs (f+1) B c out=([],2)):=fun h=>(by rw[aA,if_pos h]);have af:Hid (¬32<=out.length->Cn.walk rs (f+1) B c out=(out++[c],0)):=fun h=>(by rw[aA,if_neg h]);generalize Cn.walk rs (f+1) B c out=t at *;clear aA;clear IH ih;go_enter func120,ntmps120;go_wp2_with fail;refine(V K1).mono ?_;rintro e Q ⟨vx,rfl,ae,E⟩;obtain⟨xo,o,rfl,_,_⟩:=ae.sk.shape;have u:=F.below E;have N:=u.row;have ai:([]:List Int).length=0:=rfl;rw[ai];have aw:=E.size;clear K1 ae y ai;by_cases aL:32<=out.length
   ·exact w6x
   ·exact u8B
  ·have bO:0<(Cn.opn rs c).length:=List.length_pos_iff.2 i;have Z:Hid (c∈B->Cn.walk rs (f+1) B c out=([],72)):=fun h=>Cn.x2o i (f+1) h out;have aT:Hid (¬c∈B->Cn.walk rs (f+1) B c out=(Cn.opn rs c).foldl (Cn.stepW rs f (B++[c])) (out,0)):=fun h=>Cn.x7i i f h out;generalize Cn.walk rs (f+1) B c out=t at *;clear i;clear ih;generalize Cn.opn rs c=xs at *;go_enter func120,ntmps120;go_wp2_with fail;refine(V K1).mono ?_;rintro e Q ⟨vx,rfl,ae,E⟩;obtain⟨xo,o,rfl,bM,bN⟩:=ae.sk.shape;have aw:=E.size;have qx:((xs.length:Int)==0)=false:=b0f f6J;have v:=y.below E
   have aj:Hid (∀j,j<B.length->∃b P,wo=some ⟨b,P,none⟩/\Q.cell? ⟨b,P+j,none⟩=some (.int .i32 (B.getD j 0))):=U3T
   have K:=O ae;have J:=O v;have l:=O E;have L:=O F;clear K1 ae y v E F;go_wp2;go_loop [11] (fun iv=>∃k:Nat,iv=.int .i64 k/\k<=B.length/\∀j,j<k->B.getD j 0≠c) (fun iv=>B.length-(intOf iv).toNat)
   case atStart=>exact P1A
   case round =>
    obtain⟨k,rfl,hk,aP⟩:=hrel;have m:=O aP;clear aP;by_cases aM:k<B.length
    ·obtain⟨b,P,rfl,am⟩:=V aj k aM;by_cases ab:B.getD k 0=c
     ·have ar:c∈B:=m7V;obtain rfl:=V Z ar;rw[ab]at am;have qc:(c==c)=true:=beq_self_eq_true _;have T:x7n w U.heap.size D ([],72) (.returned (.tuple #[.slice none 0 0,.int .i64 72])) Q:=⟨_,rfl,x2d (V l) _,.inr ⟨e8X,rfl⟩⟩;clear aj Z m ab ar K J l L;clear aT IH;exact w6D
     ·have qc:(B.getD k 0==c)=false:=b0f ab
      have bh:Hid (∀j,j<k+1->B.getD j 0≠c):=fun j hj=>W2W
      clear aj Z m ab K J l L;clear aT IH;exact u9p
    ·obtain rfl:k=B.length:=by omega
     have aO:¬c∈B:=fun h=>R9I
     obtain rfl:=V aT aO;have bP:((B.length:Int)==16)=false:=b0f f6J;clear Z aT m aO aj;have bw:=(V J);have bG:B.length<=1000:=f6J;have bQ:B.length<=15:=f6J;go_wp2_with(at_builtin;refine x5d rfl (.tmp 44) (.tmp 45) rfl _ B rfl rfl bw bG ?_);intro bS w2 C bj;have az:=C.row;have bJ:=bj.size;clear bw J;go_wp2_with(at_builtin;refine wpList_append_lies _ rfl (.tmp 47) (.tmp 49) 40 rfl Q.heap.size 21 i0 (.int .i32 0) 1 4 underlying40 hi aG aH aI rfl e8X _ _ _ rfl (az.alloc _) ⟨w2.heap.size,0,none⟩ 1 1 [.int .i32 c] rfl rfl (cell_one_new _ _ _) (x0J .i32 _) f6J T7X f6J P8P (w2.heap.size+1) (by simp) ?_);intro g aK w3 aR bC s bD;have aY:Fit .i32 (B++[c]):=Fit.snoc C.1 (x0T ⟨c0,c1⟩);have bF:Ok .i32 21 w3 Q.heap.size (.slice (some ⟨g,0,none⟩) (B.length+1) aK) (B++[c]):=Ok.of aY P8P aR (by simp) (by simp);have bm:Bw Q w3:=x0p bJ az bj bC;have HW:=O (WIn.start (rs:=rs) (f:=f) (V L) aZ ((V K).below bm) (bF.lower aw) (x0b (V l) bm));have bp:f+(B++[c]).length=16:=P8P;have bu:Hid (∀k,k<xs.length->Rune (xs.getD k 0)):=fun k hk=>x1c (V K).sk hk;have bn:Hid (∀wr,w.grownBy wr D.ownBlock->Bw U wr):=fun wr hg=>A.grown hg hB (fun k hk=>((V L).2.2.lt k hk).1);clear C bj az aR bC s bD aY bF bm K l A;have aX:Hid (B.length+1=(B++[c]).length):=(by show B.length+1=_;simp);generalize xs.foldl (Cn.stepW rs f (B++[c])) (out,0)=t at *;generalize B++[c]=I at *;go_wp2;go_loopw[3,13,14] (fun vo iv _ wr=>∃k:Nat,iv=.int .i64 k/\k<=xs.length/\WIn w U.heap.size D (.slice xo xs.length o) (.slice (some ⟨g,0,none⟩) (B.length+1) aK) xs I rs f t k vo wr) (fun _ iv _ _=>xs.length-(intOf iv).toNat)
     case atStart=>exact⟨0,rfl,f6J,V HW⟩
     case round =>
      obtain⟨r,rfl,bR,n,aW,aV,S,aC,C,bt,aF,aQ⟩:=hrel;clear HW;by_cases aB:r<xs.length
      ·obtain⟨b,P,aq,he,_,_,p⟩:=aC.sk.place f6J;obtain⟨rfl,rfl⟩:xo=some ⟨b,P,none⟩/\o=aq:=(by simpa using he);have am:=p r aB;have KC:=O (V IH I (xs.getD r 0) n wr _ _ bp (V bu r aB) (V bn wr aF) C.sk aW aV);have ay:Hid (∀w' v',wr.grownBy w' u3.ownBlock->(Cn.walk rs f I (xs.getD r 0) n).2=0->Ok .i32 21 w' U.heap.size v' (Cn.walk rs f I (xs.getD r 0) n).1->(v'.ownBlock=u3.ownBlock\/∃g,v'.ownBlock=some g/\wr.heap.size<=g)->WIn w U.heap.size D (.slice (some ⟨b,P,none⟩) xs.length o) (.slice (some ⟨g,0,none⟩) (B.length+1) aK) xs I rs f t (r+1) v' w'):=fun w' v' a b c d=>WIn.next aB aV S aC C bt aF aQ a b c d
       have aJ:Hid (∀w',wr.grownBy w' u3.ownBlock->(Cn.walk rs f I (xs.getD r 0) n).2≠0->x7n w U.heap.size D t (.returned (.tuple #[.slice none 0 0,.int .i64 (Cn.walk rs f I (xs.getD r 0) n).2])) w'):=fun w' hg hn=>by
        rw[Cn.x6r aB,Cn.x1J _ _ _ _ _ hn]at S;rw[<- S];exact⟨_,rfl,x1L aF hg aQ,.inr ⟨hn,rfl⟩⟩
       clear S aC C bt aF aQ aW aV p he IH bu bn aX L bp;generalize Cn.walk rs f I (xs.getD r 0) n=q at *;generalize xs.getD r 0=z at *;obtain⟨q1,q2⟩:=q;go_wp2_with fail;refine(V KC).mono ?_;rintro e w5 ⟨v5,rfl,aU,h5⟩;clear KC;rcases h5 with⟨bB,be,ba⟩ | ⟨aN,rfl⟩
       ·have HN:=O (V ay w5 v5 aU bB be ba);clear ay aJ aU be ba;obtain rfl:q2=0:=bB;go_wp2;go_round
        case rel=>exact⟨r+1,g2D,f6J,V HN⟩
        case measure=>simp[intOf];omega
       ·have T:=O (V aJ w5 aU aN);have hq:(q2==0)=false:=b0f aN;clear ay aJ aU aN;go_wp2;go_ret2;exact V T
      ·obtain rfl:r=xs.length:=f6J;rw[List.drop_length,List.foldl_nil]at S;have T:Hid (x7n w U.heap.size D t (.returned (.tuple #[u3,.int .i64 0])) wr):=(by rw[<- S];exact⟨_,rfl,aF,.inl ⟨rfl,aW,aQ⟩⟩);clear S aC C bt aF aQ aW aV IH bu bn aX L bp;go_wp2;go_ret2;exact V T
theorem x6R:z6J:=by
 intro v rs c w N I;have Z:=O (y2x w v rs (fun W h=>N.below h) 16 [] c [] w (.slice none 0 0) (.slice none 0 0) rfl I (b0r) (Sk.nil _ _) (Ok.nil _ _ _ _) M7K);have x:=O (Cn.y3S rs 16 [] c []);have B:Hid (∀R,w.grownBy R (Value.slice none 0 0).ownBlock->Bw w R):=fun R h=>(b0r).grown h (l0r _) (fun k e=>by cases e);rw[show Cn.full rs c=Cn.walk rs 16 [] c []from rfl];generalize Cn.walk rs 16 [] c []=q at *;obtain⟨P,l⟩:=q;obtain⟨M,J,rfl,_,_⟩:=N.shape;go_enter func78,ntmps78;go_wp2_with fail;refine(V Z).mono ?_;rintro e F ⟨A,rfl,C,p⟩
 have T:Hid (x7l w (P,l) (.returned (.tuple #[A,.int .i64 l])) F):=by
  rcases p with⟨_,y,_⟩ | ⟨E,rfl⟩
  ·exact⟨_,rfl,y,V B F C⟩
  ·obtain rfl:P=[]:=V x E;exact⟨_,rfl,Ok.nil _ _ _ _,V B F C⟩
 go_wp2;go_ret2;exact V T
theorem y9x(c:Int)(w:World)(h:Rune c):Calls prog 74 #[.int .i32 c] w fun e w'=>e=.returned (.bool (Cn.jl c))/\w'=w:=by
 obtain⟨D,Z⟩:=h;unfold Cn.jl;by_cases A:4352<=c
 ·by_cases J:c<=4370
  ·rw[d0t ⟨A,J⟩];exact R4Q
  ·rw[d0f (fun h=>J h.2)];exact R4Q
 ·rw[d0f (fun h=>A h.1)];exact R4Q
theorem y9z(c:Int)(w:World)(h:Rune c):Calls prog 75 #[.int .i32 c] w fun e w'=>e=.returned (.bool (Cn.jv c))/\w'=w:=by
 obtain⟨D,Z⟩:=h;unfold Cn.jv;by_cases A:4449<=c
 ·by_cases J:c<=4469
  ·rw[d0t ⟨A,J⟩];exact f6K
  ·rw[d0f (fun h=>J h.2)];exact f6K
 ·rw[d0f (fun h=>A h.1)];exact f6K
theorem y9y(c:Int)(w:World)(h:Rune c):Calls prog 77 #[.int .i32 c] w fun e w'=>e=.returned (.bool (Cn.jt c))/\w'=w:=by
 obtain⟨D,Z⟩:=h;unfold Cn.jt;by_cases A:4520<=c
 ·by_cases J:c<=4546
  ·rw[d0t ⟨A,J⟩];exact v0D
  ·rw[d0f (fun h=>J h.2)];exact v0D
 ·rw[d0f (fun h=>A h.1)];exact v0D
theorem x4o(r:Rec)(vt:Value)(lo hi:Int)(w:World)(z:RecFit r)(a:I64 lo)(p:I64 hi):Calls prog 73 #[recV r vt,.int .i64 lo,.int .i64 hi] w (x0c w (Cn.covers r lo hi)):=by
 have C:∀o,Bw w (w.alloc o):=fun o=>(b0r).alloc (l0r _) o;have B:=O C;obtain⟨Z,v⟩:=a;obtain⟨X,i⟩:=p;obtain⟨H,N⟩:=z.lo;obtain⟨b,m⟩:=z.hi;unfold Cn.covers recV;by_cases A:r.lo<=hi
 ·by_cases J:lo<=r.hi
  ·rw[d0t ⟨A,J⟩];exact r8B
  ·rw[d0f (fun h=>J h.2)];exact r8B
 ·rw[d0f (fun h=>A h.1)];exact r8B
theorem y0R(v:Value)(rs:List Rec)(c:Int)(w:World)(N:Rcs w v rs)(I:Rune c):Calls prog 44 #[v,.int .i32 c] w (x0c w (Cn.plain rs c)):=by
 have K:=O (x2A v rs 1 c w N w5o I);obtain⟨B,o⟩:=I;rcases hit_at N 1 c with⟨D,Z⟩ | ⟨k,b,P,M,D,H,Z,rfl,S,U,u,z⟩
 ·have y:Cn.plain rs c=false:=(by unfold Cn.plain;rw[Z]);rw[y];rw[D]at K;obtain⟨s,M,rfl,_,_⟩:=N.shape;go_enter func44,ntmps44;go_wp2_with fail;refine c0m K fun Q C=>?_;have T:x0c w false (.returned (.bool false)) Q:=⟨rfl,C⟩;go_wp2;go_ret;exact T
 ·have y:Cn.plain rs c=decide ((rs.getD k Cn.none).kind=1):=(by unfold Cn.plain;rw[Z]);rw[y];rw[D]at K;have g:=O u;have d:=N.1;generalize rs.getD k Cn.none=r at *;by_cases Y:r.kind=1
  ·rw[d0t Y];go_enter func44,ntmps44;go_wp2_with fail;refine c0m K fun Q C=>?_;have x:=((V g).below C).kind;rw[Y]at x;have T:x0c w true (.returned (.bool true)) Q:=⟨rfl,C⟩;go_wp2;go_ret;exact T
  ·rw[d0f Y];go_enter func44,ntmps44;go_wp2_with fail;refine c0m K fun Q C=>?_;have x:=((V g).below C).kind;have E:(r.kind==1)=false:=b0f Y;have T:x0c w false (.returned (.bool false)) Q:=⟨rfl,C⟩;go_wp2;go_ret;exact T
def dips(l:List Rec)(x:List Int)(j:Nat):Prop:=Cn.cls l (x.getD j 0)≠0/\Cn.cls l (x.getD j 0)<Cn.cls l (x.getD (j-1) 0)
theorem x6o(l:List Rec):∀x:List Int,Cn.fallsA l x=true↔∃j,1<=j/\j<x.length/\dips l x j
 | []=>by simp[Cn.fallsA]
 | [a]=>by
  simp only[Cn.fallsA];constructor
  ·intro h;cases h
  ·rintro⟨j,D,Z,_⟩;simp at Z;omega
 | a::b::r=>by
  rw[Cn.fallsA,Bool.or_eq_true,x6o l (b::r),decide_eq_true_iff];constructor
  ·rintro(h | ⟨j,D,Z,R⟩)
   ·exact⟨1,f6J,M7L,by simpa[dips]using h⟩
   ·refine⟨j+1,f6J,by simp at Z ⊢;exact f6J,?_⟩;obtain⟨j,rfl⟩:∃i,j=i+1:=⟨j-1,f6J⟩;exact r9Q
  ·rintro⟨j,D,Z,R⟩;obtain⟨j,rfl⟩:∃i,j=i+1:=⟨j-1,f6J⟩
   cases j with
   | zero=>exact .inl r9Q
   | succ j=>exact .inr ⟨j+1,f6J,by simp at Z ⊢;exact f6J,r9Q⟩
theorem x8I{l:List Rec}{x:List Int}{j:Nat}(D:1<=j)(Z:j<x.length)(h:dips l x j):Cn.fallsA l x=true:=(x6o l x).2 ⟨j,D,Z,h⟩
theorem y7y{l:List Rec}{x:List Int}(h:∀j,1<=j->j<x.length->¬dips l x j):Cn.fallsA l x=false:=by
 rcases hb:Cn.fallsA l x with _ | _
 ·rfl
 ·obtain⟨j,a,b,c⟩:=(x6o l x).1 hb;exact absurd c (h j a b)
theorem z4n{w:World}{v:Value}{rs:List Rec}(N:Rcs w v rs)(c:Int):I64 (Cn.cls rs c):=by
 rcases hit_at N 2 c with⟨_,Z⟩ | ⟨k,_,_,_,_,_,Z,_,_,_,_,z⟩
 ·unfold Cn.cls;rw[Z];exact⟨e8M,e8M⟩
 ·unfold Cn.cls;rw[Z];exact z.n
def FaIn(w:World)(v u:Value)(rs:List Rec)(xs:List Int)(k:Nat)(wr:World):Prop:=Rcs wr v rs/\Sk .i32 wr u xs/\Below w.heap.size w wr/\∀j,1<=j->j<k->j<xs.length->¬dips rs xs j
theorem x5q(v u:Value)(rs:List Rec)(xs:List Int)(w:World)(N:Rcs w v rs)(W:Sk .i32 w u xs)(D:xs.length<=1000000000):Calls prog 79 #[v,u] w (x0c w (Cn.fallsA rs xs)):=by
 have f:Hid (∀j,1<=j->j<xs.length->dips rs xs j->Cn.fallsA rs xs=true):=fun j a b c=>x8I a b c;have m:Hid ((∀j,1<=j->j<xs.length->¬dips rs xs j)->Cn.fallsA rs xs=false):=y7y;generalize Cn.fallsA rs xs=t at *;have HW:Hid (FaIn w v u rs xs 1 w):=⟨N,W,b0r,fun j a b _=>f6J⟩;have af:=N.1;have C:Hid (∀c,I64 (Cn.cls rs c)):=fun c=>z4n N c;obtain⟨s,M,rfl,_,_⟩:=N.shape;obtain⟨z,F,rfl,ag,ai⟩:=W.shape;go_enter func79,ntmps79;go_wp2;go_loopw[5,6] (fun S _ wr=>∃k:Nat,S=.int .i64 k/\1<=k/\k<=xs.length+1/\FaIn w (.slice s rs.length M) (.slice z xs.length F) rs xs k wr) (fun S _ _=>xs.length+1-(intOf S).toNat)
 case atStart=>exact⟨1,rfl,f6J,f6J,V HW⟩
 case round =>
  obtain⟨k,rfl,ae,Y,G,U,A,L⟩:=hrel;by_cases H:k<xs.length
  ·obtain⟨b,P,J,q,_,_,p⟩:=U.place f6J;obtain⟨rfl,rfl⟩:z=some ⟨b,P,none⟩/\F=J:=W3N;have X:=p k H;have i:=O (x3f _ rs (xs.getD k 0) wr G (x1c U H));have K2:Hid (∀Q,Bw wr Q->Calls prog 121 #[.slice s rs.length M,.int .i32 (xs.getD (k-1) 0)] Q (IntB Q (Cn.cls rs (xs.getD (k-1) 0)))):=fun Q h=>x3f _ rs _ Q (G.below h) (x1c U f6J);have g:Hid (∀Q,Bw wr Q->Q.cell? ⟨b,P+(k-1),none⟩=some (.int .i32 (xs.getD (k-1) 0))):=fun Q h=>(by rw[Below.cell h (x0a (p (k-1) f6J))];exact p (k-1) f6J);have B:Hid (dips rs xs k↔Cn.cls rs (xs.getD k 0)≠0/\Cn.cls rs (xs.getD k 0)<Cn.cls rs (xs.getD (k-1) 0)):=Iff.rfl
   have K:Hid (¬dips rs xs k->∀Q,Bw wr Q->FaIn w (.slice s rs.length M) (.slice (some ⟨b,P,none⟩) xs.length F) rs xs (k+1) Q):=fun hd Q h=>⟨G.below h,U.below h,x0b A h,fun j a c d=>by
    rcases Nat.lt_or_ge j k with h | h
    ·exact L j a h d
    ·obtain rfl:j=k:=by omega
     exact hd⟩
   have HB:=O A;clear p G U A L q m;have n:=O (V f k ae H);have Z:=V C (xs.getD k 0);have r:=V C (xs.getD (k-1) 0);generalize Cn.cls rs (xs.getD k 0)=d1,Cn.cls rs (xs.getD (k-1) 0)=y at *;generalize xs.getD k 0=z1,xs.getD (k-1) 0=R at *;obtain⟨aq,ar⟩:=Z;obtain⟨aj,am⟩:=r;go_wp2_with fail;refine c0m i fun Q E=>?_;have X:=V g Q E;have K3:=O (V K2 Q E);have I:Hid (∀w2,Bw Q w2->¬dips rs xs k->FaIn w (.slice s rs.length M) (.slice (some ⟨b,P,none⟩) xs.length F) rs xs (k+1) w2):=fun w2 h hd=>V K hd w2 (x0b E h);have l:=O (x0b (V HB) E);by_cases o:d1=0
   ·have HX:Hid (FaIn w (.slice s rs.length M) (.slice (some ⟨b,P,none⟩) xs.length F) rs xs (k+1) Q):=V I Q (b0r) (fun h=>((V B).1 h).1 o);subst o;go_wp2;go_round
    case rel=>exact⟨k+1,g2A,f6J,f6J,V HX⟩
    case measure=>exact g7T
   ·have qz:(d1==0)=false:=b0f o;by_cases hd:d1<y
    ·obtain rfl:=V n ((V B).2 ⟨o,hd⟩);go_wp2_with fail;refine c0m K3 fun w2 ab=>?_;have T:=O (x0b (V l) ab);go_wp2;go_ret;exact⟨rfl,V T⟩
    ·have HX:=O (fun w2 h=>V I w2 h (fun h=>hd ((V B).1 h).2));go_wp2_with fail;refine c0m K3 fun w2 ab=>?_;have x:=O (V HX w2 ab);go_wp2;go_round
     case rel=>exact⟨k+1,g2A,f6J,f6J,V x⟩
     case measure=>exact g7T
  ·obtain rfl:=V m (fun j a b=>L j a f6J b);have T:=O A;go_wp2;go_ret;exact i5u
theorem x0z(c:Int)(w:World)(h:Rune c):Calls prog 116 #[.int .i32 c] w fun e w'=>e=.returned (.bool (Cn.scalar c))/\w'=w:=by
 obtain⟨D,Z⟩:=h;by_cases A:0<=c
 ·by_cases J:c<=55295
  ·exact r8D
  ·by_cases d:57344<=c
   ·by_cases M:c<=1114111
    ·exact r8D
    ·exact I3Y
   ·exact I3Y
 ·have d:¬57344<=c:=f6J;exact I3Y
theorem y6s{x:List Int}{f:Int->Bool}{k:Nat}(G:k<x.length)(h:f (x.getD k 0)=false):x.all f=false:=by grind
theorem z0H{x:List Int}{f:Int->Bool}(h:∀j,j<x.length->f (x.getD j 0)=true):x.all f=true:=by
 rw[List.all_eq_true];intro y A;obtain⟨j,K,rfl⟩:=List.getElem_of_mem A;have:=h j K;simpa[List.getD,K]using this
theorem y0T(u:Value)(xs:List Int)(w:World)(W:Sk .i32 w u xs)(M:xs.length<=1000000000):Calls prog 166 #[u] w fun e w'=>e=.returned (.bool (xs.all Cn.scalar))/\w'=w:=by
 have f:Hid (∀k,k<xs.length->Cn.scalar (xs.getD k 0)=false->xs.all Cn.scalar=false):=fun k=>y6s;have m:Hid ((∀j,j<xs.length->Cn.scalar (xs.getD j 0)=true)->xs.all Cn.scalar=true):=z0H;generalize xs.all Cn.scalar=t at *;have c:=O W;obtain⟨I,F,rfl,g,E⟩:=W.shape;go_enter func166,ntmps166;go_wp2;go_loop [3] (fun S=>∃k:Nat,S=.int .i64 k/\k<=xs.length/\∀j,j<k->Cn.scalar (xs.getD j 0)=true) (fun S=>xs.length-(intOf S).toNat)
 case atStart=>exact⟨0,rfl,f6J,fun j C=>absurd C (Nat.not_lt_zero _)⟩
 case round =>
  obtain⟨k,rfl,G,L⟩:=hrel;by_cases H:k<xs.length
  ·obtain⟨b,P,J,q,_,_,p⟩:=(V c).place f6J;obtain⟨rfl,rfl⟩:I=some ⟨b,P,none⟩/\F=J:=W3N;have X:=p k H;have K:=O (x0z (xs.getD k 0) w (x1c (V c) H));have n:=O (V f k H)
   have B:Hid (Cn.scalar (xs.getD k 0)=true->∀j,j<k+1->Cn.scalar (xs.getD j 0)=true):=fun h j C=>by
    rcases Nat.lt_or_ge j k with D | D
    ·exact L j D
    ·grind
   clear p q c f m L;generalize hy:Cn.scalar (xs.getD k 0)=y at n B K;generalize xs.getD k 0=z at *;go_wp2_with fail;refine(V K).mono ?_;rintro e Q ⟨rfl,rfl⟩
   cases y with
   | false =>
    obtain rfl:=V n rfl;exact t6x
   | true =>
    have U:=O (V B rfl);go_wp2;go_round
    case rel=>exact⟨k+1,g2A,f6J,V U⟩
    case measure=>exact g7T
  ·obtain rfl:k=xs.length:=f6J;obtain rfl:=V m L;exact t6x
theorem y2u(u:Value)(xs:List Int)(a b:Nat)(w:World)(W:Sk .i32 w u xs)(S:xs.length<=1000000000):Calls prog 117 #[u,.int .i64 a,.int .i64 b] w fun e w'=>e=.returned (.bool (Cn.list xs a b))/\w'=w:=by
 have K:=O (y0T u xs w W S);obtain⟨z,F,rfl,g,E⟩:=W.shape;unfold Cn.list;by_cases D:a<=xs.length
 ·by_cases Z:xs.length<=b
  ·rw[d0t ⟨D,Z⟩,Bool.true_and];go_enter func117,ntmps117;exact P3m
  ·rw[d0f (fun h=>Z h.2),Bool.false_and];go_enter func117,ntmps117;exact t6u
 ·rw[d0f (fun h=>D h.1),Bool.false_and];go_enter func117,ntmps117;exact t6u
theorem x9y(u:Nat)(w:World)(W:u<18446744073709551616):Calls prog 115 #[.float .f64 u] w fun e w'=>e=.returned (.bool (Cn.weight u))/\w'=w:=by
 have K:=O (x3l u w);unfold Cn.weight;by_cases D:u<=9218868437227405312
 ·rw[d0t D];have Z:(u:Int)<=9218868437227405312:=f6J;go_enter func115,ntmps115;go_wp2_with fail;refine(V K).mono ?_;rintro e Q ⟨rfl,rfl⟩;exact t6v
 ·rw[d0f D];have Z:¬(u:Int)<=9218868437227405312:=f6J;go_enter func115,ntmps115;go_wp2_with fail;refine(V K).mono ?_;rintro e Q ⟨rfl,rfl⟩;go_wp2;go_ret;refine⟨?_,rfl⟩;show Ending.returned (.bool (decide ((u:Int)<=9218868437227405312)))=_;rw[d0f f6J]
theorem x0Z{b:ByteArray}(h:b.size=0):b=⟨#[]⟩:=by
 obtain⟨⟨l⟩⟩:=b;have:l=[]:=(by simpa[ByteArray.size]using h);subst this;rfl
theorem x1z{b:ByteArray}(h:¬b.size=0):¬b.toList=[]:=fun e=>h (by
 have:b.data.toList.length=0:=I7C;show b.data.size=0;rw[<- Array.length_toList]
 exact this)
def x0h(n0:Int)(m:Nat)(nm ot:ByteArray)(wt:Nat)(nf tof namef otherf wf:Bool):Bool :=
 (nf||decide (n0=0))&&(tof||decide (m=0))&&(namef||decide (nm.size=0))&&(otherf||decide (ot.size=0))&&(wf||decide (wt=0))
theorem y6w(J lo hi R:Int)(ao:Option Addr)(m cap:Nat)(Z M:ByteArray)(wt:Nat)(H D A G:Bool)(w:World):Calls prog 113 #[.agg #[.int .i64 J,.int .i64 lo,.int .i64 hi,.int .i64 R,.slice ao m cap,.string Z,.string M,.float .f64 wt],.bool true,.bool H,.bool D,.bool A,.bool G] w (x0c w (x0h R m Z M wt true H D A G)):=by
 have C:∀o,Bw w (w.alloc o):=fun o=>(b0r).alloc (l0r _) o;have B:=O C;have E:=O (fun w=>x3l wt w)
 cases H with
 | true =>
  cases D with
  | true =>
   cases A with
   | true =>
    cases G with
    | true =>
     rw[(I6Y:x0h R m Z M wt true true true true true=true)];exact U3b
    | false =>
     by_cases K:wt=0
     ·subst K;rw[(I6Y:x0h R m Z M 0 true true true true false=true)];exact U9k
     ·have F:((wt:Int)==0)=false:=b0f f6J;rw[(I6Y:x0h R m Z M wt true true true true false=false)];exact U9k
   | false =>
    by_cases s:M.size=0
    ·obtain rfl:=x0Z s
     cases G with
     | true =>
      rw[(I6Y:x0h R m Z ⟨#[]⟩ wt true true true false true=true)];exact U3b
     | false =>
      by_cases K:wt=0
      ·subst K;rw[(I6Y:x0h R m Z ⟨#[]⟩ 0 true true true false false=true)];exact U9k
      ·have F:((wt:Int)==0)=false:=b0f f6J;rw[(I6Y:x0h R m Z ⟨#[]⟩ wt true true true false false=false)];exact U9k
    ·have c:=x1z s;rw[(I6Y:x0h R m Z M wt true true true false G=false)];exact U3b
  | false =>
   by_cases z:Z.size=0
   ·obtain rfl:=x0Z z
    cases A with
    | true =>
     cases G with
     | true =>
      rw[(I6Y:x0h R m ⟨#[]⟩ M wt true true false true true=true)];exact U3b
     | false =>
      by_cases K:wt=0
      ·subst K;rw[(I6Y:x0h R m ⟨#[]⟩ M 0 true true false true false=true)];exact U9k
      ·have F:((wt:Int)==0)=false:=b0f f6J;rw[(I6Y:x0h R m ⟨#[]⟩ M wt true true false true false=false)];exact U9k
    | false =>
     by_cases s:M.size=0
     ·obtain rfl:=x0Z s
      cases G with
      | true =>
       rw[(I6Y:x0h R m ⟨#[]⟩ ⟨#[]⟩ wt true true false false true=true)];exact U3b
      | false =>
       by_cases K:wt=0
       ·subst K;rw[(I6Y:x0h R m ⟨#[]⟩ ⟨#[]⟩ 0 true true false false false=true)];exact U9k
       ·have F:((wt:Int)==0)=false:=b0f f6J;rw[(I6Y:x0h R m ⟨#[]⟩ ⟨#[]⟩ wt true true false false false=false)];exact U9k
     ·have c:=x1z s;rw[(I6Y:x0h R m ⟨#[]⟩ M wt true true false false G=false)];exact U3b
   ·have l:=x1z z;rw[(I6Y:x0h R m Z M wt true true false A G=false)];exact U3b
 | false =>
  by_cases L:m=0
  ·subst L
   cases D with
   | true =>
    cases A with
    | true =>
     cases G with
     | true =>
      rw[(I6Y:x0h R 0 Z M wt true false true true true=true)];exact U3b
     | false =>
      by_cases K:wt=0
      ·subst K;rw[(I6Y:x0h R 0 Z M 0 true false true true false=true)];exact U9k
      ·have F:((wt:Int)==0)=false:=b0f f6J;rw[(I6Y:x0h R 0 Z M wt true false true true false=false)];exact U9k
    | false =>
     by_cases s:M.size=0
     ·obtain rfl:=x0Z s
      cases G with
      | true =>
       rw[(I6Y:x0h R 0 Z ⟨#[]⟩ wt true false true false true=true)];exact U3b
      | false =>
       by_cases K:wt=0
       ·subst K;rw[(I6Y:x0h R 0 Z ⟨#[]⟩ 0 true false true false false=true)];exact U9k
       ·have F:((wt:Int)==0)=false:=b0f f6J;rw[(I6Y:x0h R 0 Z ⟨#[]⟩ wt true false true false false=false)];exact U9k
     ·have c:=x1z s;rw[(I6Y:x0h R 0 Z M wt true false true false G=false)];exact U3b
   | false =>
    by_cases z:Z.size=0
    ·obtain rfl:=x0Z z
     cases A with
     | true =>
      cases G with
      | true =>
       rw[(I6Y:x0h R 0 ⟨#[]⟩ M wt true false false true true=true)];exact U3b
      | false =>
       by_cases K:wt=0
       ·subst K;rw[(I6Y:x0h R 0 ⟨#[]⟩ M 0 true false false true false=true)];exact U9k
       ·have F:((wt:Int)==0)=false:=b0f f6J;rw[(I6Y:x0h R 0 ⟨#[]⟩ M wt true false false true false=false)];exact U9k
     | false =>
      by_cases s:M.size=0
      ·obtain rfl:=x0Z s
       cases G with
       | true =>
        rw[(I6Y:x0h R 0 ⟨#[]⟩ ⟨#[]⟩ wt true false false false true=true)];exact U3b
       | false =>
        by_cases K:wt=0
        ·subst K;rw[(I6Y:x0h R 0 ⟨#[]⟩ ⟨#[]⟩ 0 true false false false false=true)];exact U9k
        ·have F:((wt:Int)==0)=false:=b0f f6J;rw[(I6Y:x0h R 0 ⟨#[]⟩ ⟨#[]⟩ wt true false false false false=false)];exact U9k
      ·have c:=x1z s;rw[(I6Y:x0h R 0 ⟨#[]⟩ M wt true false false false G=false)];exact U3b
    ·have l:=x1z z;rw[(I6Y:x0h R 0 Z M wt true false false A G=false)];exact U3b
  ·have P:((m:Int)==0)=false:=b0f f6J;rw[(I6Y:x0h R m Z M wt true false D A G=false)];exact U3b
theorem y4e(J lo hi R:Int)(ao:Option Addr)(m cap:Nat)(Z M:ByteArray)(wt:Nat)(H D A G:Bool)(w:World):Calls prog 113 #[.agg #[.int .i64 J,.int .i64 lo,.int .i64 hi,.int .i64 R,.slice ao m cap,.string Z,.string M,.float .f64 wt],.bool false,.bool H,.bool D,.bool A,.bool G] w (x0c w (x0h R m Z M wt false H D A G)):=by
 have C:∀o,Bw w (w.alloc o):=fun o=>(b0r).alloc (l0r _) o;have B:=O C;have E:=O (fun w=>x3l wt w);by_cases Y:R=0
 ·subst Y
  cases H with
  | true =>
   cases D with
   | true =>
    cases A with
    | true =>
     cases G with
     | true =>
      rw[(I6Y:x0h 0 m Z M wt false true true true true=true)];exact U3b
     | false =>
      by_cases K:wt=0
      ·subst K;rw[(I6Y:x0h 0 m Z M 0 false true true true false=true)];exact U9k
      ·have F:((wt:Int)==0)=false:=b0f f6J;rw[(I6Y:x0h 0 m Z M wt false true true true false=false)];exact U9k
    | false =>
     by_cases s:M.size=0
     ·obtain rfl:=x0Z s
      cases G with
      | true =>
       rw[(I6Y:x0h 0 m Z ⟨#[]⟩ wt false true true false true=true)];exact U3b
      | false =>
       by_cases K:wt=0
       ·subst K;rw[(I6Y:x0h 0 m Z ⟨#[]⟩ 0 false true true false false=true)];exact U9k
       ·have F:((wt:Int)==0)=false:=b0f f6J;rw[(I6Y:x0h 0 m Z ⟨#[]⟩ wt false true true false false=false)];exact U9k
     ·have c:=x1z s;rw[(I6Y:x0h 0 m Z M wt false true true false G=false)];exact U3b
   | false =>
    by_cases z:Z.size=0
    ·obtain rfl:=x0Z z
     cases A with
     | true =>
      cases G with
      | true =>
       rw[(I6Y:x0h 0 m ⟨#[]⟩ M wt false true false true true=true)];exact U3b
      | false =>
       by_cases K:wt=0
       ·subst K;rw[(I6Y:x0h 0 m ⟨#[]⟩ M 0 false true false true false=true)];exact U9k
       ·have F:((wt:Int)==0)=false:=b0f f6J;rw[(I6Y:x0h 0 m ⟨#[]⟩ M wt false true false true false=false)];exact U9k
     | false =>
      by_cases s:M.size=0
      ·obtain rfl:=x0Z s
       cases G with
       | true =>
        rw[(I6Y:x0h 0 m ⟨#[]⟩ ⟨#[]⟩ wt false true false false true=true)];exact U3b
       | false =>
        by_cases K:wt=0
        ·subst K;rw[(I6Y:x0h 0 m ⟨#[]⟩ ⟨#[]⟩ 0 false true false false false=true)];exact U9k
        ·have F:((wt:Int)==0)=false:=b0f f6J;rw[(I6Y:x0h 0 m ⟨#[]⟩ ⟨#[]⟩ wt false true false false false=false)];exact U9k
      ·have c:=x1z s;rw[(I6Y:x0h 0 m ⟨#[]⟩ M wt false true false false G=false)];exact U3b
    ·have l:=x1z z;rw[(I6Y:x0h 0 m Z M wt false true false A G=false)];exact U3b
  | false =>
   by_cases L:m=0
   ·subst L
    cases D with
    | true =>
     cases A with
     | true =>
      cases G with
      | true =>
       rw[(I6Y:x0h 0 0 Z M wt false false true true true=true)];exact U3b
      | false =>
       by_cases K:wt=0
       ·subst K;rw[(I6Y:x0h 0 0 Z M 0 false false true true false=true)];exact U9k
       ·have F:((wt:Int)==0)=false:=b0f f6J;rw[(I6Y:x0h 0 0 Z M wt false false true true false=false)];exact U9k
     | false =>
      by_cases s:M.size=0
      ·obtain rfl:=x0Z s
       cases G with
       | true =>
        rw[(I6Y:x0h 0 0 Z ⟨#[]⟩ wt false false true false true=true)];exact U3b
       | false =>
        by_cases K:wt=0
        ·subst K;rw[(I6Y:x0h 0 0 Z ⟨#[]⟩ 0 false false true false false=true)];exact U9k
        ·have F:((wt:Int)==0)=false:=b0f f6J;rw[(I6Y:x0h 0 0 Z ⟨#[]⟩ wt false false true false false=false)];exact U9k
      ·have c:=x1z s;rw[(I6Y:x0h 0 0 Z M wt false false true false G=false)];exact U3b
    | false =>
     by_cases z:Z.size=0
     ·obtain rfl:=x0Z z
      cases A with
      | true =>
       cases G with
       | true =>
        rw[(I6Y:x0h 0 0 ⟨#[]⟩ M wt false false false true true=true)];exact U3b
       | false =>
        by_cases K:wt=0
        ·subst K;rw[(I6Y:x0h 0 0 ⟨#[]⟩ M 0 false false false true false=true)];exact U9k
        ·have F:((wt:Int)==0)=false:=b0f f6J;rw[(I6Y:x0h 0 0 ⟨#[]⟩ M wt false false false true false=false)];exact U9k
      | false =>
       by_cases s:M.size=0
       ·obtain rfl:=x0Z s
        cases G with
        | true =>
         rw[(I6Y:x0h 0 0 ⟨#[]⟩ ⟨#[]⟩ wt false false false false true=true)];exact U3b
        | false =>
         by_cases K:wt=0
         ·subst K;rw[(I6Y:x0h 0 0 ⟨#[]⟩ ⟨#[]⟩ 0 false false false false false=true)];exact U9k
         ·have F:((wt:Int)==0)=false:=b0f f6J;rw[(I6Y:x0h 0 0 ⟨#[]⟩ ⟨#[]⟩ wt false false false false false=false)];exact U9k
       ·have c:=x1z s;rw[(I6Y:x0h 0 0 ⟨#[]⟩ M wt false false false false G=false)];exact U3b
     ·have l:=x1z z;rw[(I6Y:x0h 0 0 Z M wt false false false A G=false)];exact U3b
   ·have P:((m:Int)==0)=false:=b0f f6J;rw[(I6Y:x0h 0 m Z M wt false false D A G=false)];exact U3b
 ·have x:(R==0)=false:=b0f Y;rw[(I6Y:x0h R m Z M wt false H D A G=false)];exact U3b
theorem y2t(r:Rec)(vt:Value)(E H D A G:Bool)(w:World)(N:Sk .i32 w vt r.to):Calls prog 113 #[recV r vt,.bool E,.bool H,.bool D,.bool A,.bool G] w (x0c w (Cn.bare r E H D A G)):=by
 obtain⟨s,M,rfl,_,_⟩:=N.shape
 cases E with
 | true=>exact y6w _ _ _ _ _ _ _ _ _ _ _ _ _ _ _
 | false=>exact y4e _ _ _ _ _ _ _ _ _ _ _ _ _ _ _
