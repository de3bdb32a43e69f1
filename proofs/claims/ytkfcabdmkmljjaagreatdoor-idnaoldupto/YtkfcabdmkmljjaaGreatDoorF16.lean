/- Lemmas. -/
import Derived.Test.YtkfcabdmkmljjaaGreatDoorF3
import Derived.Deep.AppendLies
import Derived.Laws.AppendOwnNone
set_option maxHeartbeats 16000000
set_option maxRecDepth 8000
namespace Go.Proofs.YtkfcabdmkmljjaaGreatDoor
open Go.Proofs.Tryz
open Go.RowKit
section
variable{p:Prop}
theorem U7e(h:p:=by go_enter func81,ntmps81;go_wp2;go_ret;exact⟨rfl,V x _⟩):p:=h
theorem I7C(h:p:=by rw[<- ByteArray.toList_eq,e];rfl):p:=h
theorem M0Y(h:p:=by
 obtain rfl:L=false:=N.symm.trans (by simp[bareB, *]);clear N;go_enter func122,ntmps122;go_wp2_with fail
 try(refine(V I _).mono ?_;rintro e Q ⟨rfl,rfl⟩;go_wp2)
 go_ret;exact⟨rfl,V x _⟩):p:=h
theorem M9P(h:p:=by go_enter func82,ntmps82;exact t6u):p:=h
theorem e3i(h:p:=by go_enter func83,ntmps83;exact t6u):p:=h
theorem W0F(h:p:=by go_enter func85,ntmps85;exact t6u):p:=h
theorem t6w(h:p:=by go_wp2;go_ret;exact⟨rfl,rfl⟩):p:=h
theorem p0K(h:p:=by simpa[dips]using J):p:=h
theorem f2D(h:p:=by have L:Cn.scalar c=false:=(by unfold Cn.scalar;exact P8P);rw[L];go_enter func125,ntmps125;exact t6w):p:=h
theorem s7u(h:p:=by have L:Cn.scalar c=true:=(by unfold Cn.scalar;exact P8P);rw[L];go_enter func125,ntmps125;exact t6w):p:=h
theorem r9b(h:p:=by exact⟨0,rfl,f6J,fun j R=>absurd R (Nat.not_lt_zero _)⟩):p:=h
theorem G9C(h:p:=by rcases List.mem_append.1 hz with hz | hz;exact L.1 z hz;(simp at hz;subst hz;simp[IntKind.min,IntKind.max,IntKind.signed,IntKind.bits];omega)):p:=h
theorem S9y(h:p:=by
 rcases l with h | h
 ·exact .inl h.symm
 ·exact .inr ⟨g,rfl,f6J⟩):p:=h
theorem v9r(h:p:=by clear s aG l aj X aH N B L F C;go_wp2;go_ret2;exact T):p:=h
end
theorem x4L{w w1}(h:Bw w w1) r:w.grownBy w1 r:=⟨h.os,h.tape,h.output,h.size,fun k G _=>h.block k G⟩
theorem x3c{w w1 w2:World}{r r'}(h:w.grownBy w1 r)(k:w1.grownBy w2 r')(hr:r'=r\/∃g,r'=some g/\w.heap.size<=g):w.grownBy w2 r:=by
 refine⟨k.os.trans h.os,k.tape.trans h.tape,k.output.trans h.output,Nat.le_trans h.size k.size,fun x A y=>?_⟩;rw[k.block x (Nat.lt_of_lt_of_le A h.size) ?_,h.block x A y];rcases hr with rfl | ⟨g,rfl,H⟩
 ·exact y
 ·grind
theorem cell_one_new(w:World) e v:∀j u,[v][j]?=some u->(w.alloc (.cells #[v] e)).cell? ((⟨w.heap.size,0,none⟩:Addr).add j)=some u:=by
 intro j u R
 match j,R with
 | 0,R=>simp at R;subst R;simp[World.cell?,World.alloc,Addr.add,-World.alloc_eq]
 | j+1,R=>simp at R
theorem x5h{w ops rest o}{a Q}(C:o.guard=none)(s x:Operand)
  (R:o.op=.call { callee:=.builtin .append,args:=#[s,x],argTypes:=#[36,36] }) v zs (L:a.eval s=.slice none 0 0) (A:a.eval x=v) (N:Sk .i32 w v zs) (S:zs.length<=1000)
  (h:∀v' w',Ok .i32 21 w' w.heap.size v' zs->Bw w w'->wpList prog ops Q rest (a.put o.dst v') w'):wpList prog ops Q (o::rest) a w:=by
 obtain⟨i,hi,q,Y,U⟩:=info_parts Tryz.info21;rcases N.2.src with⟨F,rfl⟩ | ⟨f,M,rfl,c⟩
 ·obtain rfl:zs=[]:=(by simpa using F);exact wpList_append_own_none C s x 36 R w.heap.size 21 i 1 underlying36 hi _ _ _ L (World.ownsRow_nil _ _ _ _) A (h _ _ (Ok.nil _ _ _ _) (b0r))
 ·refine wpList_append_own _ C s x 36 R w.heap.size 21 i (.int .i32 0) 1 4 underlying36 hi q Y U rfl e8P _ _ _ L (World.ownsRow_nil _ _ _ _) f _ M (zs.map (Value.int .i32)) A M7M c (x0T .i32 zs) (by simp[maxLen];exact f6J) P8P (l0r _) ?_;intro v' w' B H _;exact h v' w' (Ok.of N.1 f6J B M7M M7M) (x1C (e:=21) (l0r _) (World.ownsRow_nil _ _ _ _) (b0r) H)
def y2b(w:World)(B:Nat)(vo:Value)(r:List Int×Int)(e:Ending)(w':World):Prop :=
 ∃v,e=.returned (.tuple #[v,.int .i64 r.2])/\w.grownBy w' vo.ownBlock/\((r.2=0/\Ok .i32 21 w' B v r.1/\(v.ownBlock=vo.ownBlock\/∃g,v.ownBlock=some g/\w.heap.size<=g))\/(r.2≠0/\v=.slice none 0 0))
def WIn(w:World)(B:Nat)(vout vx vd:Value)(xs down:List Int)(rs:List Rec)(f:Nat)(res:List Int×Int)(k:Nat)(vo:Value)(wr:World):Prop :=
 ∃outk,Ok .i32 21 wr B vo outk/\outk.length<=32/\(xs.drop k).foldl (Cn.stepW rs f down) (outk,0)=res/\Ok .i32 21 wr w.heap.size vx xs/\Ok .i32 21 wr w.heap.size vd down /\
  (∀g,vo.ownBlock=some g->vx.ownBlock≠some g/\vd.ownBlock≠some g)/\w.grownBy wr vout.ownBlock/\(vo.ownBlock=vout.ownBlock\/∃g,vo.ownBlock=some g/\w.heap.size<=g)
theorem WIn.next{w wr w' B}{M F L K v':Value}{xs down rs f res}{k outk}(G:k<xs.length)
  (D:outk.length<=32) (J:(xs.drop k).foldl (Cn.stepW rs f down) (outk,0)=res) (A:Ok .i32 21 wr w.heap.size F xs) (hd:Ok .i32 21 wr w.heap.size L down)
  (y:∀g,K.ownBlock=some g->F.ownBlock≠some g/\L.ownBlock≠some g) (H:w.grownBy wr M.ownBlock) (N:K.ownBlock=M.ownBlock\/∃g,K.ownBlock=some g/\w.heap.size<=g)
  (I:wr.grownBy w' K.ownBlock) (j:(Cn.walk rs f down (xs.getD k 0) outk).2=0) (o:Ok .i32 21 w' B v' (Cn.walk rs f down (xs.getD k 0) outk).1) (C:v'.ownBlock=K.ownBlock\/∃g,v'.ownBlock=some g/\wr.heap.size<=g) :
  WIn w B M F L xs down rs f res (k+1) v' w':=by
 have E:∀g,g<wr.heap.size->K.ownBlock≠some g->w'.heap[g]?=wr.heap[g]?:=fun g a b=>I.block g a (fun e=>b e.symm);refine⟨(Cn.walk rs f down (xs.getD k 0) outk).1,o,Cn.y0i _ _ _ _ _ D,?_,A.keep (fun g h=>E g (A.2.2.lt g h).2 (fun e=>(y g e).1 h)),hd.keep (fun g h=>E g (hd.2.2.lt g h).2 (fun e=>(y g e).2 h)),fun g h=>?_,x3c H I ?_,?_⟩
 ·rw[<- J,Cn.x6H G];congr 1;exact Prod.ext rfl j.symm
 ·rcases C with e | ⟨S,e,Q⟩
  ·exact y g (e ▸ h)
  ·rw[e]at h;obtain rfl:=Option.some.inj h;exact⟨fun Y=>by have:=(A.2.2.lt S Y).2;exact f6J,fun Y=>by have:=(hd.2.2.lt S Y).2;exact f6J⟩
 ·exact N
 ·rcases C with e | ⟨S,e,Q⟩
  ·grind
  ·exact .inr ⟨S,e,Nat.le_trans H.size Q⟩
theorem WIn.start{w wr B vout vx vd xs down out}{rs f}(R:Ok .i32 21 w B vout out)(S:out.length<=32)(A:Ok .i32 21 wr w.heap.size vx xs)(hd:Ok .i32 21 wr w.heap.size vd down)(Y:Bw w wr) :
  WIn w B vout vx vd xs down rs f (xs.foldl (Cn.stepW rs f down) (out,0)) 0 vout wr:=by
 refine⟨out,R.below Y,S,s4L,A,hd,fun g h=>?_,x4L Y _,.inl rfl⟩;have E:=(R.2.2.lt g h).2;exact⟨fun e=>by have:=(A.2.2.lt g e).1;exact f6J,fun e=>by have:=(hd.2.2.lt g e).1;exact f6J⟩
def z5D(w0:World)(vl:Value)(rs:List Rec)(f:Nat):Prop:=∀(way:List Int) (c:Int) (out:List Int) (w:World) (vway vout:Value),f+way.length=16->Rune c->Below w0.heap.size w0 w->Sk .i32 w vway way->Ok .i32 21 w w0.heap.size vout out->out.length<=32 ->
  Calls prog 129 #[vl,.int .i32 c,vway,vout] w (y2b w w0.heap.size vout (Cn.walk rs f way c out))
theorem x7o w0 vl rs(hR:∀W,Bw w0 W->Rcs W vl rs)(f:Nat)(IH:Hid (∀m,f=m+1->z5D w0 vl rs m)):z5D w0 vl rs f:=by
 intro K c out w bM M bO hc C am L bC;obtain⟨i0,hi,bj,bm,bn⟩:=info_parts Tryz.info21;have hB:=C.size;have K1:=O (x3K vl rs c w (hR w C) hc);have bQ:=(hR w C).1;obtain⟨lo,bL,rfl,_,_⟩:=(hR w C).shape;obtain⟨c0,c1⟩:=hc;obtain⟨wo,bG,rfl,bR,bS⟩:=am.shape;by_cases n:Cn.opn rs c=[]
 ·have be:=Cn.x1k n f K out;rw[n]at K1;have aC:Hid (32<=out.length->Cn.walk rs f K c out=([],2)):=fun h=>(by rw[be,if_pos h]);have aB:Hid (¬32<=out.length->Cn.walk rs f K c out=(out++[c],0)):=fun h=>(by rw[be,if_neg h]);generalize Cn.walk rs f K c out=U at *;clear be;clear IH;go_enter func129,ntmps129;go_wp2_with fail;refine(V K1).mono ?_;rintro e w1 ⟨vx,rfl,H,F⟩;obtain⟨xo,Y,rfl,_,_⟩:=H.sk.shape;have B:=L.below F;have N:=B.row;have aI:([]:List Int).length=0:=rfl;rw[aI];have aP:=F.size;clear K1 H am aI;by_cases bu:32<=out.length
  ·obtain rfl:=V aC bu;clear aC aB;go_wp2_with(at_builtin;refine wpList_append_lies _ rfl (.tmp 21) (.tmp 23) 36 rfl w0.heap.size 21 i0 (.int .i32 0) 1 4 underlying36 hi bj bm bn rfl e8R _ _ _ rfl (N.alloc _) ⟨w1.heap.size,0,none⟩ 1 1 [.int .i32 c] rfl rfl (cell_one_new _ _ _) (x0P .i32 _) f6J T7X f6J P8P (w1.heap.size+1) M7P ?_)
   all_goals try(go_ret2;exact⟨_,rfl,x4L F _,.inr ⟨e8R,rfl⟩⟩)
   intro g t w9 s aG l _;have aH:w.grownBy w9 M.ownBlock:=x3c (x4L (F.alloc aP _) _) aG (.inl rfl);have aj:Ok .i32 21 w9 w0.heap.size (.slice (some ⟨g,0,none⟩) (out.length+1) t) (out++[c]):=Ok.of (fun z hz=>G9C) P8P s M7P M7P
   have X:(Value.slice (some ⟨g,0,none⟩) (out.length+1) t).ownBlock=M.ownBlock\/∃g',(Value.slice (some ⟨g,0,none⟩) (out.length+1) t).ownBlock=some g'/\w.heap.size<=g':=S9y
   have T:y2b w w0.heap.size M ([],2) (.returned (.tuple #[.slice none 0 0,.int .i64 2])) w9:=⟨_,rfl,aH,.inr ⟨e8R,rfl⟩⟩;exact v9r
  ·obtain rfl:=V aB bu;clear aC aB;go_wp2_with(at_builtin;refine wpList_append_lies _ rfl (.tmp 21) (.tmp 23) 36 rfl w0.heap.size 21 i0 (.int .i32 0) 1 4 underlying36 hi bj bm bn rfl e8R _ _ _ rfl (N.alloc _) ⟨w1.heap.size,0,none⟩ 1 1 [.int .i32 c] rfl rfl (cell_one_new _ _ _) (x0P .i32 _) f6J T7X f6J P8P (w1.heap.size+1) M7P ?_);intro g t w9 s aG l _;have aH:w.grownBy w9 M.ownBlock:=x3c (x4L (F.alloc aP _) _) aG (.inl rfl);have aj:Ok .i32 21 w9 w0.heap.size (.slice (some ⟨g,0,none⟩) (out.length+1) t) (out++[c]):=Ok.of (fun z hz=>G9C) P8P s M7P M7P
   have X:(Value.slice (some ⟨g,0,none⟩) (out.length+1) t).ownBlock=M.ownBlock\/∃g',(Value.slice (some ⟨g,0,none⟩) (out.length+1) t).ownBlock=some g'/\w.heap.size<=g':=S9y
   have T:y2b w w0.heap.size M (out++[c],0) (.returned (.tuple #[.slice (some ⟨g,0,none⟩) (out.length+1) t,.int .i64 0])) w9:=⟨_,rfl,aH,.inl ⟨rfl,aj,X⟩⟩;exact v9r
 ·have bV:0<(Cn.opn rs c).length:=List.length_pos_iff.2 n;have x:Hid (c∈K->Cn.walk rs f K c out=([],72)):=fun h=>Cn.x2Z n f h out;have aA:Hid (∀m,f=m+1->¬c∈K->Cn.walk rs f K c out=(Cn.opn rs c).foldl (Cn.stepW rs m (K++[c])) (out,0)):=fun m e h=>(by subst e;exact Cn.x7D n m h out);have v:Hid (f=0->¬c∈K->Cn.walk rs f K c out=([],73)):=fun e h=>(by subst e;exact Cn.x7C n h out);generalize Cn.walk rs f K c out=U at *;clear n;generalize Cn.opn rs c=D at *;go_enter func129,ntmps129;go_wp2_with fail;refine(V K1).mono ?_;rintro e w1 ⟨vx,rfl,H,F⟩;obtain⟨xo,Y,rfl,bT,bU⟩:=H.sk.shape;have aP:=F.size;have qx:((D.length:Int)==0)=false:=b0f f6J;have ab:=am.below F
  have aD:Hid (∀j,j<K.length->∃b P,wo=some ⟨b,P,none⟩/\w1.cell? ⟨b,P+j,none⟩=some (.int .i32 (K.getD j 0))):=by
   intro j hj;obtain⟨b,P,aF,he,_,_,aM⟩:=ab.place f6J;obtain⟨rfl,rfl⟩:wo=some ⟨b,P,none⟩/\bG=aF:=(by simpa using he);exact⟨b,P,rfl,aM j hj⟩
  have ar:=O H;have S:=O ab;have R:=O F;have G:=O L;clear K1 H am ab F L;go_wp2;go_loop [11] (fun iv=>∃k:Nat,iv=.int .i64 k/\k<=K.length/\∀j,j<k->K.getD j 0≠c) (fun iv=>K.length-(intOf iv).toNat)
  case atStart=>exact⟨0,rfl,f6J,fun j hj=>absurd hj (Nat.not_lt_zero _)⟩
  case round =>
   obtain⟨k,rfl,hk,bE⟩:=hrel;have aq:=O bE;clear bE;by_cases bD:k<K.length
   ·obtain⟨b,P,rfl,y⟩:=V aD k bD;by_cases p:K.getD k 0=c
    ·have aT:c∈K:=(by rw[<- p];simp[List.getD,bD]);obtain rfl:=V x aT;rw[p]at y;have qc:(c==c)=true:=beq_self_eq_true _;have T:y2b w w0.heap.size M ([],72) (.returned (.tuple #[.slice none 0 0,.int .i64 72])) w1:=⟨_,rfl,x4L (V R) _,.inr ⟨e8R,rfl⟩⟩;clear aD x aq p aT ar S R G;clear aA v IH;go_wp2;go_ret2;exact T
    ·have qc:(K.getD k 0==c)=false:=b0f p
     have bH:Hid (∀j,j<k+1->K.getD j 0≠c):=fun j hj=>by
      rcases Nat.lt_or_ge j k with h | h
      ·exact V aq j h
      ·obtain rfl:j=k:=f6J;exact p
     clear aD x aq p ar S R G;clear aA v IH;generalize K.getD k 0=z at *;go_wp2;go_round
     case rel=>exact⟨k+1,g2C,f6J,V bH⟩
     case measure=>exact g7W
   ·obtain rfl:k=K.length:=by omega
    have aN:¬c∈K:=fun h=>by
     obtain⟨j,hj,he⟩:=List.getElem_of_mem h;exact V aq j hj (by simp[List.getD,hj,he])
    rcases f with _ | f
    ·obtain rfl:=V v rfl aN;have bt:K.length=16:=f6J;have bK:((K.length:Int)==16)=true:=(by rw[bt];rfl);have T:y2b w w0.heap.size M ([],73) (.returned (.tuple #[.slice none 0 0,.int .i64 73])) w1:=⟨_,rfl,x4L (V R) _,.inr ⟨e8R,rfl⟩⟩;clear aD x aq v aA IH aN ar S R G bt;go_wp2;go_ret2;exact T
    ·obtain rfl:=V aA f rfl aN;replace IH:=O (V IH f rfl);have bK:((K.length:Int)==16)=false:=b0f f6J;clear x aA v aq aN aD;have bp:=(V S);have bI:K.length<=1000:=f6J;have bN:K.length<=15:=f6J;go_wp2_with(at_builtin;refine x5h rfl (.tmp 44) (.tmp 45) rfl _ K rfl rfl bp bI ?_);intro bX w2 Z aW;have r:=Z.row;have bJ:=aW.size;clear bp S;go_wp2_with(at_builtin;refine wpList_append_lies _ rfl (.tmp 47) (.tmp 49) 36 rfl w1.heap.size 21 i0 (.int .i32 0) 1 4 underlying36 hi bj bm bn rfl e8R _ _ _ rfl (r.alloc _) ⟨w2.heap.size,0,none⟩ 1 1 [.int .i32 c] rfl rfl (cell_one_new _ _ _) (x0P .i32 _) f6J T7X f6J P8P (w2.heap.size+1) M7P ?_);intro g o w3 aL bA l bB;have aS:Fit .i32 (K++[c]):=Fit.snoc Z.1 (x0O ⟨c0,c1⟩);have bF:Ok .i32 21 w3 w1.heap.size (.slice (some ⟨g,0,none⟩) (K.length+1) o) (K++[c]):=Ok.of aS P8P aL M7P M7P;have aX:Bw w1 w3:=x0m bJ r aW bA;have HW:=O (WIn.start (rs:=rs) (f:=f) (V G) bC ((V ar).below aX) (bF.lower aP) (bthen (V R) aX));have aZ:f+(K++[c]).length=16:=P8P;have bh:Hid (∀k,k<D.length->Rune (D.getD k 0)):=fun k hk=>x0V (V ar).sk hk;have aY:Hid (∀wr,w.grownBy wr M.ownBlock->Bw w0 wr):=fun wr hg=>C.grown hg hB (fun k hk=>((V G).2.2.lt k hk).1);clear Z aW r aL bA l bB aS bF aX ar R C;have aR:Hid (K.length+1=(K++[c]).length):=(by show K.length+1=_;exact M7P);generalize D.foldl (Cn.stepW rs f (K++[c])) (out,0)=U at *;generalize K++[c]=J at *;go_wp2;go_loopw[3,13,14] (fun vo iv _ wr=>∃k:Nat,iv=.int .i64 k/\k<=D.length/\WIn w w0.heap.size M (.slice xo D.length Y) (.slice (some ⟨g,0,none⟩) (K.length+1) o) D J rs f U k vo wr) (fun _ iv _ _=>D.length-(intOf iv).toNat)
     case atStart=>exact⟨0,rfl,f6J,V HW⟩
     case round =>
      obtain⟨Q,rfl,bP,A,aQ,aO,I,E,Z,ba,aw,aK⟩:=hrel;clear HW;by_cases ae:Q<D.length
      ·obtain⟨b,P,aF,he,_,_,aM⟩:=E.sk.place f6J;obtain⟨rfl,rfl⟩:xo=some ⟨b,P,none⟩/\Y=aF:=(by simpa using he);have y:=aM Q ae;have KC:=O (V IH J (D.getD Q 0) A wr _ _ aZ (V bh Q ae) (V aY wr aw) Z.sk aQ aO);have u:Hid (∀w' v',wr.grownBy w' u3.ownBlock->(Cn.walk rs f J (D.getD Q 0) A).2=0->Ok .i32 21 w' w0.heap.size v' (Cn.walk rs f J (D.getD Q 0) A).1->(v'.ownBlock=u3.ownBlock\/∃g,v'.ownBlock=some g/\wr.heap.size<=g)->WIn w w0.heap.size M (.slice (some ⟨b,P,none⟩) D.length Y) (.slice (some ⟨g,0,none⟩) (K.length+1) o) D J rs f U (Q+1) v' w'):=fun w' v' a b c d=>WIn.next ae aO I E Z ba aw aK a b c d
       have ay:Hid (∀w',wr.grownBy w' u3.ownBlock->(Cn.walk rs f J (D.getD Q 0) A).2≠0->y2b w w0.heap.size M U (.returned (.tuple #[.slice none 0 0,.int .i64 (Cn.walk rs f J (D.getD Q 0) A).2])) w'):=fun w' hg hn=>by
        rw[Cn.x6H ae,Cn.x1G _ _ _ _ _ hn]at I;rw[<- I];exact⟨_,rfl,x3c aw hg aK,.inr ⟨hn,rfl⟩⟩
       clear I E Z ba aw aK aQ aO aM he IH bh aY aR G aZ;generalize Cn.walk rs f J (D.getD Q 0) A=q at *;generalize D.getD Q 0=z at *;obtain⟨q1,q2⟩:=q;go_wp2_with fail;refine(V KC).mono ?_;rintro e w5 ⟨v5,rfl,i,h5⟩;clear KC;rcases h5 with⟨bw,aV,aU⟩ | ⟨aJ,rfl⟩
       ·have HN:=O (V u w5 v5 i bw aV aU);clear u ay i aV aU;obtain rfl:q2=0:=bw;go_wp2;go_round
        case rel=>exact⟨Q+1,g2C,f6J,V HN⟩
        case measure=>exact g7W
       ·have T:=O (V ay w5 i aJ);have hq:(q2==0)=false:=b0f aJ;clear u ay i aJ;go_wp2;go_ret2;exact V T
      ·obtain rfl:Q=D.length:=f6J;rw[List.drop_length,List.foldl_nil]at I;have T:Hid (y2b w w0.heap.size M U (.returned (.tuple #[u3,.int .i64 0])) wr):=(by rw[<- I];exact⟨_,rfl,aw,.inl ⟨rfl,aQ,aK⟩⟩);clear I E Z ba aw aK aQ aO IH bh aY aR G aZ;go_wp2;go_ret2;exact V T
theorem x7n w0 vl rs(x:∀W,Bw w0 W->Rcs W vl rs):∀f,z5D w0 vl rs f
 | 0=>x7o w0 vl rs x 0 fun _ e=>f6J
 | f+1=>x7o w0 vl rs x (f+1) fun m e=>(f6J:f=m) ▸ x7n w0 vl rs x f
theorem x7l:z8P:=by
 intro v rs c w N I;have H:=O (x7n w v rs (fun W h=>N.below h) 16 [] c [] w (.slice none 0 0) (.slice none 0 0) rfl I (b0r) (Sk.nil _ _) (Ok.nil _ _ _ _) M7K);have D:=O (Cn.y4L rs 16 [] c []);have x:Hid (∀C,w.grownBy C (Value.slice none 0 0).ownBlock->Bw w C):=fun C h=>(b0r).grown h (l0r _) (fun k e=>by cases e);rw[show Cn.full rs c=Cn.walk rs 16 [] c []from rfl];generalize Cn.walk rs 16 [] c []=q at *;obtain⟨y,A⟩:=q;obtain⟨K,J,rfl,_,_⟩:=N.shape;go_enter func86,ntmps86;go_wp2_with fail;refine(V H).mono ?_;rintro e G ⟨B,rfl,i,E⟩
 have T:Hid (x7H w (y,A) (.returned (.tuple #[B,.int .i64 A])) G):=by
  rcases E with⟨_,o,_⟩ | ⟨F,rfl⟩
  ·exact⟨_,rfl,o,V x G i⟩
  ·obtain rfl:y=[]:=V D F;exact⟨_,rfl,Ok.nil _ _ _ _,V x G i⟩
 go_wp2;go_ret2;exact V T
theorem z0K c w(h:Rune c):Calls prog 82 #[.int .i32 c] w fun e w'=>e=.returned (.bool (Cn.jl c))/\w'=w:=by
 obtain⟨Z,D⟩:=h;unfold Cn.jl;by_cases T:4352<=c
 ·by_cases P:c<=4370
  ·rw[d0t ⟨T,P⟩];exact M9P
  ·rw[d0f (fun h=>P h.2)];exact M9P
 ·rw[d0f (fun h=>T h.1)];exact M9P
theorem z0M c w(h:Rune c):Calls prog 83 #[.int .i32 c] w fun e w'=>e=.returned (.bool (Cn.jv c))/\w'=w:=by
 obtain⟨Z,D⟩:=h;unfold Cn.jv;by_cases T:4449<=c
 ·by_cases P:c<=4469
  ·rw[d0t ⟨T,P⟩];exact e3i
  ·rw[d0f (fun h=>P h.2)];exact e3i
 ·rw[d0f (fun h=>T h.1)];exact e3i
theorem z0L c w(h:Rune c):Calls prog 85 #[.int .i32 c] w fun e w'=>e=.returned (.bool (Cn.jt c))/\w'=w:=by
 obtain⟨Z,D⟩:=h;unfold Cn.jt;by_cases T:4520<=c
 ·by_cases P:c<=4546
  ·rw[d0t ⟨T,P⟩];exact W0F
  ·rw[d0f (fun h=>P h.2)];exact W0F
 ·rw[d0f (fun h=>T h.1)];exact W0F
theorem x4p r vt lo hi w(C:RecFit r)(N:I64 lo)(J:I64 hi):Calls prog 81 #[recV r vt,.int .i64 lo,.int .i64 hi] w (x0g w (Cn.covers r lo hi)):=by
 have Y:∀o,Bw w (w.alloc o):=fun o=>(b0r).alloc (l0r _) o;have x:=O Y;obtain⟨F,u⟩:=N;obtain⟨M,a⟩:=J;obtain⟨v,B⟩:=C.lo;obtain⟨t,s⟩:=C.hi;unfold Cn.covers recV;by_cases T:r.lo<=hi
 ·by_cases P:lo<=r.hi
  ·rw[d0t ⟨T,P⟩];exact U7e
  ·rw[d0f (fun h=>P h.2)];exact U7e
 ·rw[d0f (fun h=>T h.1)];exact U7e
theorem y1z v rs c w(N:Rcs w v rs)(I:Rune c):Calls prog 48 #[v,.int .i32 c] w (x0g w (Cn.plain rs c)):=by
 have K:=O (x2v v rs 1 c w N w5o I);obtain⟨l,g⟩:=I;rcases hit_at N 1 c with⟨Z,D⟩ | ⟨k,b,P,M,Z,x,D,rfl,S,o,X,C⟩
 ·have L:Cn.plain rs c=false:=(by unfold Cn.plain;rw[D]);rw[L];rw[Z]at K;obtain⟨J,M,rfl,_,_⟩:=N.shape;go_enter func48,ntmps48;go_wp2_with fail;refine c0m K fun Q Y=>?_;have T:x0g w false (.returned (.bool false)) Q:=⟨rfl,Y⟩;go_wp2;go_ret;exact T
 ·have L:Cn.plain rs c=decide ((rs.getD k Cn.none).kind=1):=(by unfold Cn.plain;rw[D]);rw[L];rw[Z]at K;have a:=O X;have B:=N.1;generalize rs.getD k Cn.none=r at *;by_cases H:r.kind=1
  ·rw[d0t H];go_enter func48,ntmps48;go_wp2_with fail;refine c0m K fun Q Y=>?_;have p:=((V a).below Y).kind;rw[H]at p;have T:x0g w true (.returned (.bool true)) Q:=⟨rfl,Y⟩;go_wp2;go_ret;exact T
  ·rw[d0f H];go_enter func48,ntmps48;go_wp2_with fail;refine c0m K fun Q Y=>?_;have p:=((V a).below Y).kind;have y:(r.kind==1)=false:=b0f H;have T:x0g w false (.returned (.bool false)) Q:=⟨rfl,Y⟩;go_wp2;go_ret;exact T
def dips(l:List Rec)(x:List Int)(j:Nat):Prop:=Cn.cls l (x.getD j 0)≠0/\Cn.cls l (x.getD j 0)<Cn.cls l (x.getD (j-1) 0)
theorem x6D(l:List Rec):∀x:List Int,Cn.fallsA l x=true↔∃j,1<=j/\j<x.length/\dips l x j
 | []=>by simp[Cn.fallsA]
 | [a]=>by
  simp only[Cn.fallsA];constructor
  ·intro h;cases h
  ·rintro⟨j,Z,D,_⟩;simp at D;omega
 | a::b::r=>by
  rw[Cn.fallsA,Bool.or_eq_true,x6D l (b::r),decide_eq_true_iff];constructor
  ·rintro(h | ⟨j,Z,D,J⟩)
   ·exact⟨1,f6J,M7L,by simpa[dips]using h⟩
   ·refine⟨j+1,f6J,by simp at D ⊢;exact f6J,?_⟩;obtain⟨j,rfl⟩:∃i,j=i+1:=⟨j-1,f6J⟩;exact p0K
  ·rintro⟨j,Z,D,J⟩;obtain⟨j,rfl⟩:∃i,j=i+1:=⟨j-1,f6J⟩
   cases j with
   | zero=>exact .inl p0K
   | succ j=>exact .inr ⟨j+1,f6J,by simp at D ⊢;exact f6J,p0K⟩
theorem x9f{l x j}(Z:1<=j)(D:j<x.length)(h:dips l x j):Cn.fallsA l x=true:=(x6D l x).2 ⟨j,Z,D,h⟩
theorem y8B{l x}(h:∀j,1<=j->j<x.length->¬dips l x j):Cn.fallsA l x=false:=by
 rcases hb:Cn.fallsA l x with _ | _
 ·rfl
 ·obtain⟨j,a,b,c⟩:=(x6D l x).1 hb;exact absurd c (h j a b)
theorem z6f{w v rs}(N:Rcs w v rs) c:I64 (Cn.cls rs c):=by
 rcases hit_at N 2 c with⟨_,D⟩ | ⟨k,_,_,_,_,_,D,_,_,_,_,C⟩
 ·unfold Cn.cls;rw[D];exact⟨e8M,e8M⟩
 ·unfold Cn.cls;rw[D];exact C.n
def FaIn(w:World)(v u:Value)(rs:List Rec)(xs:List Int)(k:Nat)(wr:World):Prop:=Rcs wr v rs/\Sk .i32 wr u xs/\Below w.heap.size w wr/\∀j,1<=j->j<k->j<xs.length->¬dips rs xs j
theorem x5x v u rs xs w(N:Rcs w v rs)(hu:Sk .i32 w u xs)(ae:xs.length<=1000000000):Calls prog 87 #[v,u] w (x0g w (Cn.fallsA rs xs)):=by
 have Y:Hid (∀j,1<=j->j<xs.length->dips rs xs j->Cn.fallsA rs xs=true):=fun j a b c=>x9f a b c;have m:Hid ((∀j,1<=j->j<xs.length->¬dips rs xs j)->Cn.fallsA rs xs=false):=y8B;generalize Cn.fallsA rs xs=U at *;have HW:Hid (FaIn w v u rs xs 1 w):=⟨N,hu,b0r,fun j a b _=>f6J⟩;have B:=N.1;have z:Hid (∀c,I64 (Cn.cls rs c)):=fun c=>z6f N c;obtain⟨J,M,rfl,_,_⟩:=N.shape;obtain⟨I,W,rfl,q,ab⟩:=hu.shape;go_enter func87,ntmps87;go_wp2;go_loopw[5,6] (fun Z _ wr=>∃k:Nat,Z=.int .i64 k/\1<=k/\k<=xs.length+1/\FaIn w (.slice J rs.length M) (.slice I xs.length W) rs xs k wr) (fun Z _ _=>xs.length+1-(intOf Z).toNat)
 case atStart=>exact⟨1,rfl,f6J,f6J,V HW⟩
 case round =>
  obtain⟨k,rfl,r,H,G,f,C,X⟩:=hrel;by_cases E:k<xs.length
  ·obtain⟨b,P,A,s,_,_,g⟩:=f.place f6J;obtain⟨rfl,rfl⟩:I=some ⟨b,P,none⟩/\W=A:=G8R;have y:=g k E;have l:=O (x2V _ rs (xs.getD k 0) wr G (x0V f E));have K2:Hid (∀Q,Bw wr Q->Calls prog 130 #[.slice J rs.length M,.int .i32 (xs.getD (k-1) 0)] Q (IntB Q (Cn.cls rs (xs.getD (k-1) 0)))):=fun Q h=>x2V _ rs _ Q (G.below h) (x0V f f6J);have K:Hid (∀Q,Bw wr Q->Q.cell? ⟨b,P+(k-1),none⟩=some (.int .i32 (xs.getD (k-1) 0))):=fun Q h=>(by rw[Below.cell h (x0a (g (k-1) f6J))];exact g (k-1) f6J);have L:Hid (dips rs xs k↔Cn.cls rs (xs.getD k 0)≠0/\Cn.cls rs (xs.getD k 0)<Cn.cls rs (xs.getD (k-1) 0)):=Iff.rfl
   have p:Hid (¬dips rs xs k->∀Q,Bw wr Q->FaIn w (.slice J rs.length M) (.slice (some ⟨b,P,none⟩) xs.length W) rs xs (k+1) Q):=fun hd Q h=>⟨G.below h,f.below h,bthen C h,fun j a c d=>by
    rcases Nat.lt_or_ge j k with h | h
    ·exact X j a h d
    ·obtain rfl:j=k:=by omega
     exact hd⟩
   have x:=O C;clear g G f C X s m;have n:=O (V Y k r E);have D:=V z (xs.getD k 0);have i:=V z (xs.getD (k-1) 0);generalize Cn.cls rs (xs.getD k 0)=d1,Cn.cls rs (xs.getD (k-1) 0)=d0 at *;generalize xs.getD k 0=z1,xs.getD (k-1) 0=o at *;obtain⟨aq,ar⟩:=D;obtain⟨aj,am⟩:=i;go_wp2_with fail;refine c0m l fun Q F=>?_;have y:=V K Q F;have K3:=O (V K2 Q F);have T:Hid (∀w2,Bw Q w2->¬dips rs xs k->FaIn w (.slice J rs.length M) (.slice (some ⟨b,P,none⟩) xs.length W) rs xs (k+1) w2):=fun w2 h hd=>V p hd w2 (bthen F h);have R:=O (bthen (V x) F);by_cases hz:d1=0
   ·have S:Hid (FaIn w (.slice J rs.length M) (.slice (some ⟨b,P,none⟩) xs.length W) rs xs (k+1) Q):=V T Q (b0r) (fun h=>((V L).1 h).1 hz);subst hz;go_wp2;go_round
    case rel=>exact⟨k+1,g2A,f6J,f6J,V S⟩
    case measure=>exact g7T
   ·have qz:(d1==0)=false:=b0f hz;by_cases hd:d1<d0
    ·obtain rfl:=V n ((V L).2 ⟨hz,hd⟩);go_wp2_with fail;refine c0m K3 fun w2 t=>?_;have HF:=O (bthen (V R) t);go_wp2;go_ret;exact⟨rfl,V HF⟩
    ·have S:=O (fun w2 h=>V T w2 h (fun h=>hd ((V L).1 h).2));go_wp2_with fail;refine c0m K3 fun w2 t=>?_;have HY:=O (V S w2 t);go_wp2;go_round
     case rel=>exact⟨k+1,g2A,f6J,f6J,V HY⟩
     case measure=>exact g7T
  ·obtain rfl:=V m (fun j a b=>X j a f6J b);have HF:=O C;go_wp2;go_ret;exact⟨rfl,V HF⟩
theorem x0D c w(h:Rune c):Calls prog 125 #[.int .i32 c] w fun e w'=>e=.returned (.bool (Cn.scalar c))/\w'=w:=by
 obtain⟨Z,D⟩:=h;by_cases T:0<=c
 ·by_cases P:c<=55295
  ·exact s7u
  ·by_cases f:57344<=c
   ·by_cases E:c<=1114111
    ·exact s7u
    ·exact f2D
   ·exact f2D
 ·have f:¬57344<=c:=f6J;exact f2D
theorem y7t{x:List Int}{f:Int->Bool}{k}(G:k<x.length)(h:f (x.getD k 0)=false):x.all f=false:=by grind
theorem z1Y{x:List Int}{f:Int->Bool}(h:∀j,j<x.length->f (x.getD j 0)=true):x.all f=true:=by
 rw[List.all_eq_true];intro y g;obtain⟨j,R,rfl⟩:=List.getElem_of_mem g;have:=h j R;simpa[List.getD,R]using this
theorem y1B u xs w(d:Sk .i32 w u xs)(S:xs.length<=1000000000):Calls prog 177 #[u] w fun e w'=>e=.returned (.bool (xs.all Cn.scalar))/\w'=w:=by
 have Y:Hid (∀k,k<xs.length->Cn.scalar (xs.getD k 0)=false->xs.all Cn.scalar=false):=fun k=>y7t;have m:Hid ((∀j,j<xs.length->Cn.scalar (xs.getD j 0)=true)->xs.all Cn.scalar=true):=z1Y;generalize xs.all Cn.scalar=U at *;have r:=O d;obtain⟨I,W,rfl,q,B⟩:=d.shape;go_enter func177,ntmps177;go_wp2;go_loop [3] (fun Z=>∃k:Nat,Z=.int .i64 k/\k<=xs.length/\∀j,j<k->Cn.scalar (xs.getD j 0)=true) (fun Z=>xs.length-(intOf Z).toNat)
 case atStart=>exact r9b
 case round =>
  obtain⟨k,rfl,G,X⟩:=hrel;by_cases E:k<xs.length
  ·obtain⟨b,P,A,s,_,_,g⟩:=(V r).place f6J;obtain⟨rfl,rfl⟩:I=some ⟨b,P,none⟩/\W=A:=G8S;have F:=g k E;have K:=O (x0D (xs.getD k 0) w (x0V (V r) E));have n:=O (V Y k E)
   have f:Hid (Cn.scalar (xs.getD k 0)=true->∀j,j<k+1->Cn.scalar (xs.getD j 0)=true):=fun h j R=>by
    rcases Nat.lt_or_ge j k with D | D
    ·exact X j D
    ·grind
   clear g s r Y m X;generalize hy:Cn.scalar (xs.getD k 0)=y at n f K;generalize xs.getD k 0=z at *;go_wp2_with fail;refine(V K).mono ?_;rintro e Q ⟨rfl,rfl⟩
   cases y with
   | false =>
    obtain rfl:=V n rfl;exact t6x
   | true =>
    have L:=O (V f rfl);go_wp2;go_round
    case rel=>exact⟨k+1,g2A,f6J,V L⟩
    case measure=>exact g7T
  ·obtain rfl:k=xs.length:=f6J;obtain rfl:=V m X;exact t6x
theorem y3e u xs(a b:Nat) w(d:Sk .i32 w u xs)(S:xs.length<=1000000000):Calls prog 126 #[u,.int .i64 a,.int .i64 b] w fun e w'=>e=.returned (.bool (Cn.list xs a b))/\w'=w:=by
 have K:=O (y1B u xs w d S);obtain⟨I,W,rfl,q,B⟩:=d.shape;unfold Cn.list;by_cases Z:a<=xs.length
 ·by_cases D:xs.length<=b
  ·rw[d0t ⟨Z,D⟩,Bool.true_and];go_enter func126,ntmps126;exact P3m
  ·rw[d0f (fun h=>D h.2),Bool.false_and];go_enter func126,ntmps126;exact t6u
 ·rw[d0f (fun h=>Z h.1),Bool.false_and];go_enter func126,ntmps126;exact t6u
theorem x9T u w(d:u<18446744073709551616):Calls prog 124 #[.float .f64 u] w fun e w'=>e=.returned (.bool (Cn.weight u))/\w'=w:=by
 have K:=O (x3W u w);unfold Cn.weight;by_cases Z:u<=9218868437227405312
 ·rw[d0t Z];have D:(u:Int)<=9218868437227405312:=f6J;go_enter func124,ntmps124;go_wp2_with fail;refine(V K).mono ?_;rintro e Q ⟨rfl,rfl⟩;exact t6v
 ·rw[d0f Z];have D:¬(u:Int)<=9218868437227405312:=f6J;go_enter func124,ntmps124;go_wp2_with fail;refine(V K).mono ?_;rintro e Q ⟨rfl,rfl⟩;go_wp2;go_ret;refine⟨?_,rfl⟩;show Ending.returned (.bool (decide ((u:Int)<=9218868437227405312)))=_;rw[d0f f6J]
theorem y3T{b:ByteArray}(h:b.size=0):b=⟨#[]⟩:=by
 obtain⟨⟨l⟩⟩:=b;have:l=[]:=(by simpa[ByteArray.size]using h);subst this;rfl
theorem y9J{b:ByteArray}(h:¬b.size=0):¬b.toList=[]:=fun e=>h (by
 have:b.data.toList.length=0:=I7C;show b.data.size=0;rw[<- Array.length_toList]
 exact this)
def bareB(n0:Int)(m:Nat)(nm ot:ByteArray)(wt:Nat)(nf tof namef otherf wf:Bool):Bool :=
 (nf||decide (n0=0))&&(tof||decide (m=0))&&(namef||decide (nm.size=0))&&(otherf||decide (ot.size=0))&&(wf||decide (wt=0))
theorem way3(b:Bool)(c:Prop):b=true\/(b=false/\c)\/(b=false/\¬c):=by cases b<;>simp[Classical.em]
theorem z2d kd lo hi n0 ao m cap nm ot wt nf tof namef otherf wf w:Calls prog 122 #[.agg #[.int .i64 kd,.int .i64 lo,.int .i64 hi,.int .i64 n0,.slice ao m cap,.string nm,.string ot,.float .f64 wt],.bool nf,.bool tof,.bool namef,.bool otherf,.bool wf] w (x0g w (bareB n0 m nm ot wt nf tof namef otherf wf)):=by
 have x:Hid (∀o,Bw w (w.alloc o)):=fun o=>(b0r).alloc (l0r _) o;have I:=O (fun w=>x3W wt w);obtain⟨L,N⟩:∃L,bareB n0 m nm ot wt nf tof namef otherf wf=L:=⟨_,rfl⟩;rw[N]
 all_goals
  rcases way3 nf (n0=0)with rfl | ⟨rfl,c⟩ | ⟨rfl,c⟩;rotate_left 2
  ·have j:(n0==0)=false:=b0f c;exact M0Y
  rotate_left;subst c
 all_goals
  rcases way3 tof (m=0)with rfl | ⟨rfl,c⟩ | ⟨rfl,c⟩;rotate_left 2
  ·have j:((m:Int)==0)=false:=b0f f6J;exact M0Y
  rotate_left;subst c
 all_goals
  rcases way3 namef (nm.size=0)with rfl | ⟨rfl,c⟩ | ⟨rfl,c⟩;rotate_left 2
  ·have j:=y9J c;exact M0Y
  rotate_left;obtain rfl:=y3T c
 all_goals
  rcases way3 otherf (ot.size=0)with rfl | ⟨rfl,c⟩ | ⟨rfl,c⟩;rotate_left 2
  ·have j:=y9J c;exact M0Y
  rotate_left;obtain rfl:=y3T c
 all_goals
  rcases way3 wf (wt=0)with rfl | ⟨rfl,c⟩ | ⟨rfl,c⟩;rotate_left 2
  ·have j:((wt:Int)==0)=false:=b0f f6J;exact M0Y
  rotate_left;subst c
 all_goals
  obtain rfl:L=true:=N.symm.trans (by simp[bareB, *]);clear N;go_enter func122,ntmps122;go_wp2_with fail
  try(refine(V I _).mono ?_;rintro e Q ⟨rfl,rfl⟩;go_wp2)
  go_ret;exact⟨rfl,V x _⟩
theorem y3c(r:Rec) vt nf tof namef otherf wf w(N:Sk .i32 w vt r.to):Calls prog 122 #[recV r vt,.bool nf,.bool tof,.bool namef,.bool otherf,.bool wf] w (x0g w (Cn.bare r nf tof namef otherf wf)):=by
 obtain⟨J,M,rfl,_,_⟩:=N.shape;exact z2d _ _ _ _ _ _ _ _ _ _ _ _ _ _ _ _
