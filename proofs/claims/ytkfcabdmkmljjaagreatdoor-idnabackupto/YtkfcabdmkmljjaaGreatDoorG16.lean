/- Lemmas. -/
import Derived.Test.YtkfcabdmkmljjaaGreatDoorG3
import Derived.Deep.AppendLies
import Derived.Laws.AppendOwnNone
set_option maxHeartbeats 16000000
set_option maxRecDepth 8000
namespace Go.Proofs.YtkfcabdmkmljjaaGreatDoor
open Go.Proofs.Tryz
open Go.RowKit
section
variable{p:Prop}
theorem U7e(h:p:=by go_enter func81,ntmps81;go_wp2;go_ret;exact⟨rfl,V x _⟩):p:=h
theorem I7C(h:p:=by rw[<- ByteArray.toList_eq,e];rfl):p:=h
theorem v0K(h:p:=by
 obtain rfl:R=false:=E.symm.trans (by simp[bareB, *]);clear E;go_enter func122,ntmps122;go_wp2_with fail
 try(refine(V L _).mono ?_;rintro e Q ⟨rfl,rfl⟩;go_wp2)
 go_ret;exact⟨rfl,V x _⟩):p:=h
theorem M9P(h:p:=by go_enter func82,ntmps82;exact t6u):p:=h
theorem e3i(h:p:=by go_enter func83,ntmps83;exact t6u):p:=h
theorem W0F(h:p:=by go_enter func85,ntmps85;exact t6u):p:=h
theorem t6w(h:p:=by go_wp2;go_ret;exact⟨rfl,rfl⟩):p:=h
theorem p0K(h:p:=by simpa[dips]using J):p:=h
theorem f2D(h:p:=by have L:Cn.scalar c=false:=(by unfold Cn.scalar;exact P8P);rw[L];go_enter func125,ntmps125;exact t6w):p:=h
theorem s7u(h:p:=by have L:Cn.scalar c=true:=(by unfold Cn.scalar;exact P8P);rw[L];go_enter func125,ntmps125;exact t6w):p:=h
theorem g0m(h:p:=by rcases List.mem_append.1 hz with hz | hz;exact G.1 z hz;(simp at hz;subst hz;simp[IntKind.min,IntKind.max,IntKind.signed,IntKind.bits];omega)):p:=h
theorem R3c(h:p:=by
 rcases u with h | h
 ·exact .inl h.symm
 ·exact .inr ⟨g,rfl,f6J⟩):p:=h
theorem P9c(h:p:=by clear P aD u J t aF ae D G F T;go_wp2;go_ret2;exact U):p:=h
end
theorem x4O{w w1}(h:Bw w w1) r:w.grownBy w1 r:=⟨h.os,h.tape,h.output,h.size,fun k G _=>h.block k G⟩
theorem x2Y{w w1 w2:World}{r r'}(h:w.grownBy w1 r)(k:w1.grownBy w2 r')(hr:r'=r\/∃g,r'=some g/\w.heap.size<=g):w.grownBy w2 r:=by
 refine⟨k.os.trans h.os,k.tape.trans h.tape,k.output.trans h.output,Nat.le_trans h.size k.size,fun x A y=>?_⟩;rw[k.block x (Nat.lt_of_lt_of_le A h.size) ?_,h.block x A y];rcases hr with rfl | ⟨g,rfl,C⟩
 ·exact y
 ·grind
theorem cell_one_new(w:World) e v:∀j u,[v][j]?=some u->(w.alloc (.cells #[v] e)).cell? ((⟨w.heap.size,0,none⟩:Addr).add j)=some u:=by
 intro j u X
 match j,X with
 | 0,X=>simp at X;subst X;simp[World.cell?,World.alloc,Addr.add,-World.alloc_eq]
 | j+1,X=>simp at X
theorem x5m{w ops rest o}{a Q}(J:o.guard=none)(s x:Operand)
  (j:o.op=.call { callee:=.builtin .append,args:=#[s,x],argTypes:=#[36,36] }) v zs (L:a.eval s=.slice none 0 0) (A:a.eval x=v) (N:Sk .i32 w v zs) (S:zs.length<=1000)
  (h:∀v' w',Ok .i32 21 w' w.heap.size v' zs->Bw w w'->wpList prog ops Q rest (a.put o.dst v') w'):wpList prog ops Q (o::rest) a w:=by
 obtain⟨i,hi,y,Y,m⟩:=info_parts Tryz.info21;rcases N.2.src with⟨F,rfl⟩ | ⟨p,M,rfl,f⟩
 ·obtain rfl:zs=[]:=i0O;exact wpList_append_own_none J s x 36 j w.heap.size 21 i 1 underlying36 hi _ _ _ L (World.ownsRow_nil _ _ _ _) A (h _ _ (Ok.nil _ _ _ _) (b0r))
 ·refine wpList_append_own _ J s x 36 j w.heap.size 21 i (.int .i32 0) 1 4 underlying36 hi y Y m rfl e8O _ _ _ L (World.ownsRow_nil _ _ _ _) p _ M (zs.map (Value.int .i32)) A M7O f (x0R .i32 zs) (by simp[maxLen];exact f6J) P8P (l0r _) ?_;intro v' w' B C _;exact h v' w' (Ok.of N.1 f6J B M7O M7O) (x1C (e:=21) (l0r _) (World.ownsRow_nil _ _ _ _) (b0r) C)
def y2o(w:World)(B:Nat)(vo:Value)(r:List Int×Int)(e:Ending)(w':World):Prop :=
 ∃v,e=.returned (.tuple #[v,.int .i64 r.2])/\w.grownBy w' vo.ownBlock/\((r.2=0/\Ok .i32 21 w' B v r.1/\(v.ownBlock=vo.ownBlock\/∃g,v.ownBlock=some g/\w.heap.size<=g))\/(r.2≠0/\v=.slice none 0 0))
def WIn(w:World)(B:Nat)(vout vx vd:Value)(xs down:List Int)(rs:List Rec)(f:Nat)(res:List Int×Int)(k:Nat)(vo:Value)(wr:World):Prop :=
 ∃outk,Ok .i32 21 wr B vo outk/\outk.length<=32/\(xs.drop k).foldl (Cn.stepW rs f down) (outk,0)=res/\Ok .i32 21 wr w.heap.size vx xs/\Ok .i32 21 wr w.heap.size vd down /\
  (∀g,vo.ownBlock=some g->vx.ownBlock≠some g/\vd.ownBlock≠some g)/\w.grownBy wr vout.ownBlock/\(vo.ownBlock=vout.ownBlock\/∃g,vo.ownBlock=some g/\w.heap.size<=g)
theorem WIn.next{w wr w' B}{E I K H v':Value}{xs down rs f res}{k outk}(G:k<xs.length)
  (D:outk.length<=32) (J:(xs.drop k).foldl (Cn.stepW rs f down) (outk,0)=res) (A:Ok .i32 21 wr w.heap.size I xs) (hd:Ok .i32 21 wr w.heap.size K down)
  (y:∀g,H.ownBlock=some g->I.ownBlock≠some g/\K.ownBlock≠some g) (C:w.grownBy wr E.ownBlock) (N:H.ownBlock=E.ownBlock\/∃g,H.ownBlock=some g/\w.heap.size<=g)
  (L:wr.grownBy w' H.ownBlock) (j:(Cn.walk rs f down (xs.getD k 0) outk).2=0) (l:Ok .i32 21 w' B v' (Cn.walk rs f down (xs.getD k 0) outk).1) (X:v'.ownBlock=H.ownBlock\/∃g,v'.ownBlock=some g/\wr.heap.size<=g) :
  WIn w B E I K xs down rs f res (k+1) v' w':=by
 have F:∀g,g<wr.heap.size->H.ownBlock≠some g->w'.heap[g]?=wr.heap[g]?:=fun g a b=>L.block g a (fun e=>b e.symm);refine⟨(Cn.walk rs f down (xs.getD k 0) outk).1,l,Cn.y0v _ _ _ _ _ D,?_,A.keep (fun g h=>F g (A.2.2.lt g h).2 (fun e=>(y g e).1 h)),hd.keep (fun g h=>F g (hd.2.2.lt g h).2 (fun e=>(y g e).2 h)),fun g h=>?_,x2Y C L ?_,?_⟩
 ·rw[<- J,Cn.x6L G];congr 1;exact Prod.ext rfl j.symm
 ·rcases X with e | ⟨S,e,Q⟩
  ·exact y g (e ▸ h)
  ·rw[e]at h;obtain rfl:=Option.some.inj h;exact⟨fun Y=>by have:=(A.2.2.lt S Y).2;exact f6J,fun Y=>by have:=(hd.2.2.lt S Y).2;exact f6J⟩
 ·exact N
 ·rcases X with e | ⟨S,e,Q⟩
  ·grind
  ·exact .inr ⟨S,e,Nat.le_trans C.size Q⟩
theorem WIn.start{w wr B vout vx vd xs down out}{rs f}(j:Ok .i32 21 w B vout out)(S:out.length<=32)(A:Ok .i32 21 wr w.heap.size vx xs)(hd:Ok .i32 21 wr w.heap.size vd down)(Y:Bw w wr) :
  WIn w B vout vx vd xs down rs f (xs.foldl (Cn.stepW rs f down) (out,0)) 0 vout wr:=by
 refine⟨out,j.below Y,S,s4M,A,hd,fun g h=>?_,x4O Y _,.inl rfl⟩;have E:=(j.2.2.lt g h).2;exact⟨fun e=>by have:=(A.2.2.lt g e).1;exact f6J,fun e=>by have:=(hd.2.2.lt g e).1;exact f6J⟩
def z5T(w0:World)(vl:Value)(rs:List Rec)(f:Nat):Prop:=∀(way:List Int) (c:Int) (out:List Int) (w:World) (vway vout:Value),f+way.length=16->Rune c->Below w0.heap.size w0 w->Sk .i32 w vway way->Ok .i32 21 w w0.heap.size vout out->out.length<=32 ->
  Calls prog 129 #[vl,.int .i32 c,vway,vout] w (y2o w w0.heap.size vout (Cn.walk rs f way c out))
theorem x7v w0 vl rs(hR:∀W,Bw w0 W->Rcs W vl rs)(f:Nat)(o:Hid (∀m,f=m+1->z5T w0 vl rs m)):z5T w0 vl rs f:=by
 intro C c out w bI E bK hc T ai G bu;obtain⟨i0,hi,aZ,ba,be⟩:=info_parts Tryz.info21;have hB:=T.size;have K1:=O (x3J vl rs c w (hR w T) hc);have bM:=(hR w T).1;obtain⟨lo,bH,rfl,_,_⟩:=(hR w T).shape;obtain⟨c0,c1⟩:=hc;obtain⟨wo,bC,rfl,bN,bO⟩:=ai.shape;by_cases i:Cn.opn rs c=[]
 ·have aX:=Cn.x1d i f C out;rw[i]at K1;have az:Hid (32<=out.length->Cn.walk rs f C c out=([],2)):=fun h=>(by rw[aX,if_pos h]);have N:Hid (¬32<=out.length->Cn.walk rs f C c out=(out++[c],0)):=fun h=>(by rw[aX,if_neg h]);generalize Cn.walk rs f C c out=ar at *;clear aX;clear o;go_enter func129,ntmps129;go_wp2_with fail;refine(V K1).mono ?_;rintro e w1 ⟨vx,rfl,K,F⟩;obtain⟨xo,v,rfl,_,_⟩:=K.sk.shape;have D:=G.below F;have ae:=D.row;have aG:([]:List Int).length=0:=rfl;rw[aG];have aL:=F.size;clear K1 K ai aG;by_cases bm:32<=out.length
  ·obtain rfl:=V az bm;clear az N;go_wp2_with(at_builtin;refine wpList_append_lies _ rfl (.tmp 21) (.tmp 23) 36 rfl w0.heap.size 21 i0 (.int .i32 0) 1 4 underlying36 hi aZ ba be rfl e8Q _ _ _ rfl (ae.alloc _) ⟨w1.heap.size,0,none⟩ 1 1 [.int .i32 c] rfl rfl (cell_one_new _ _ _) (x1j .i32 _) f6J T7X f6J P8P (w1.heap.size+1) (by simp) ?_)
   all_goals try(go_ret2;exact⟨_,rfl,x4O F _,.inr ⟨e8Q,rfl⟩⟩)
   intro g H w9 P aD u _;have aF:w.grownBy w9 E.ownBlock:=x2Y (x4O (F.alloc aL _) _) aD (.inl rfl);have J:Ok .i32 21 w9 w0.heap.size (.slice (some ⟨g,0,none⟩) (out.length+1) H) (out++[c]):=Ok.of (fun z hz=>g0m) P8P P (by simp) (by simp)
   have t:(Value.slice (some ⟨g,0,none⟩) (out.length+1) H).ownBlock=E.ownBlock\/∃g',(Value.slice (some ⟨g,0,none⟩) (out.length+1) H).ownBlock=some g'/\w.heap.size<=g':=R3c
   have U:y2o w w0.heap.size E ([],2) (.returned (.tuple #[.slice none 0 0,.int .i64 2])) w9:=⟨_,rfl,aF,.inr ⟨e8Q,rfl⟩⟩;exact P9c
  ·obtain rfl:=V N bm;clear az N;go_wp2_with(at_builtin;refine wpList_append_lies _ rfl (.tmp 21) (.tmp 23) 36 rfl w0.heap.size 21 i0 (.int .i32 0) 1 4 underlying36 hi aZ ba be rfl e8Q _ _ _ rfl (ae.alloc _) ⟨w1.heap.size,0,none⟩ 1 1 [.int .i32 c] rfl rfl (cell_one_new _ _ _) (x1j .i32 _) f6J T7X f6J P8P (w1.heap.size+1) (by simp) ?_);intro g H w9 P aD u _;have aF:w.grownBy w9 E.ownBlock:=x2Y (x4O (F.alloc aL _) _) aD (.inl rfl);have J:Ok .i32 21 w9 w0.heap.size (.slice (some ⟨g,0,none⟩) (out.length+1) H) (out++[c]):=Ok.of (fun z hz=>g0m) P8P P (by simp) (by simp)
   have t:(Value.slice (some ⟨g,0,none⟩) (out.length+1) H).ownBlock=E.ownBlock\/∃g',(Value.slice (some ⟨g,0,none⟩) (out.length+1) H).ownBlock=some g'/\w.heap.size<=g':=R3c
   have U:y2o w w0.heap.size E (out++[c],0) (.returned (.tuple #[.slice (some ⟨g,0,none⟩) (out.length+1) H,.int .i64 0])) w9:=⟨_,rfl,aF,.inl ⟨rfl,J,t⟩⟩;exact P9c
 ·have bR:0<(Cn.opn rs c).length:=List.length_pos_iff.2 i;have B:Hid (c∈C->Cn.walk rs f C c out=([],72)):=fun h=>Cn.x2V i f h out;have ay:Hid (∀m,f=m+1->¬c∈C->Cn.walk rs f C c out=(Cn.opn rs c).foldl (Cn.stepW rs m (C++[c])) (out,0)):=fun m e h=>(by subst e;exact Cn.x7N i m h out);have A:Hid (f=0->¬c∈C->Cn.walk rs f C c out=([],73)):=fun e h=>(by subst e;exact Cn.x7M i h out);generalize Cn.walk rs f C c out=ar at *;clear i;generalize Cn.opn rs c=X at *;go_enter func129,ntmps129;go_wp2_with fail;refine(V K1).mono ?_;rintro e w1 ⟨vx,rfl,K,F⟩;obtain⟨xo,v,rfl,bP,bQ⟩:=K.sk.shape;have aL:=F.size;have qx:((X.length:Int)==0)=false:=b0f f6J;have ag:=ai.below F
  have Q:Hid (∀j,j<C.length->∃b R,wo=some ⟨b,R,none⟩/\w1.cell? ⟨b,R+j,none⟩=some (.int .i32 (C.getD j 0))):=by
   intro j hj;obtain⟨b,R,aB,he,_,_,Z⟩:=ag.place f6J;obtain⟨rfl,rfl⟩:wo=some ⟨b,R,none⟩/\bC=aB:=(by simpa using he);exact⟨b,R,rfl,Z j hj⟩
  have am:=O K;have aA:=O ag;have L:=O F;have Y:=O G;clear K1 K ai ag F G;go_wp2;go_loop [11] (fun iv=>∃k:Nat,iv=.int .i64 k/\k<=C.length/\∀j,j<k->C.getD j 0≠c) (fun iv=>C.length-(intOf iv).toNat)
  case atStart=>exact⟨0,rfl,f6J,fun j hj=>absurd hj (Nat.not_lt_zero _)⟩
  case round =>
   obtain⟨k,rfl,hk,bA⟩:=hrel;have l:=O bA;clear bA;by_cases bw:k<C.length
   ·obtain⟨b,R,rfl,aC⟩:=V Q k bw;by_cases aq:C.getD k 0=c
    ·have aP:c∈C:=(by rw[<- aq];simp[List.getD,bw]);obtain rfl:=V B aP;rw[aq]at aC;have qc:(c==c)=true:=beq_self_eq_true _;have U:y2o w w0.heap.size E ([],72) (.returned (.tuple #[.slice none 0 0,.int .i64 72])) w1:=⟨_,rfl,x4O (V L) _,.inr ⟨e8Q,rfl⟩⟩;clear Q B l aq aP am aA L Y;clear ay A o;go_wp2;go_ret2;exact U
    ·have qc:(C.getD k 0==c)=false:=b0f aq
     have bD:Hid (∀j,j<k+1->C.getD j 0≠c):=fun j hj=>by
      rcases Nat.lt_or_ge j k with h | h
      ·exact V l j h
      ·obtain rfl:j=k:=f6J;exact aq
     clear Q B l aq am aA L Y;clear ay A o;generalize C.getD k 0=z at *;go_wp2;go_round
     case rel=>exact⟨k+1,g2E,f6J,V bD⟩
     case measure=>exact g7W
   ·obtain rfl:k=C.length:=by omega
    have aJ:¬c∈C:=fun h=>by
     obtain⟨j,hj,he⟩:=List.getElem_of_mem h;exact V l j hj (by simp[List.getD,hj,he])
    rcases f with _ | f
    ·obtain rfl:=V A rfl aJ;have bj:C.length=16:=f6J;have bG:((C.length:Int)==16)=true:=(by rw[bj];rfl);have U:y2o w w0.heap.size E ([],73) (.returned (.tuple #[.slice none 0 0,.int .i64 73])) w1:=⟨_,rfl,x4O (V L) _,.inr ⟨e8Q,rfl⟩⟩;clear Q B l A ay o aJ am aA L Y bj;go_wp2;go_ret2;exact U
    ·obtain rfl:=V ay f rfl aJ;replace o:=O (V o f rfl);have bG:((C.length:Int)==16)=false:=b0f f6J;clear B ay A l aJ Q;have bh:=(V aA);have bE:C.length<=1000:=f6J;have bJ:C.length<=15:=f6J;go_wp2_with(at_builtin;refine x5m rfl (.tmp 44) (.tmp 45) rfl _ C rfl rfl bh bE ?_);intro bS w2 n aS;have af:=n.row;have bF:=aS.size;clear bh aA;go_wp2_with(at_builtin;refine wpList_append_lies _ rfl (.tmp 47) (.tmp 49) 36 rfl w1.heap.size 21 i0 (.int .i32 0) 1 4 underlying36 hi aZ ba be rfl e8Q _ _ _ rfl (af.alloc _) ⟨w2.heap.size,0,none⟩ 1 1 [.int .i32 c] rfl rfl (cell_one_new _ _ _) (x1j .i32 _) f6J T7X f6J P8P (w2.heap.size+1) (by simp) ?_);intro g y w3 aI bp u bt;have aO:Fit .i32 (C++[c]):=Fit.snoc n.1 (x1i ⟨c0,c1⟩);have bB:Ok .i32 21 w3 w1.heap.size (.slice (some ⟨g,0,none⟩) (C.length+1) y) (C++[c]):=Ok.of aO P8P aI (by simp) (by simp);have aT:Bw w1 w3:=x0z bF af aS bp;have HW:=O (WIn.start (rs:=rs) (f:=f) (V Y) bu ((V am).below aT) (bB.lower aL) (bthen (V L) aT));have aV:f+(C++[c]).length=16:=P8P;have aY:Hid (∀k,k<X.length->Rune (X.getD k 0)):=fun k hk=>x0W (V am).sk hk;have aU:Hid (∀wr,w.grownBy wr E.ownBlock->Bw w0 wr):=fun wr hg=>T.grown hg hB (fun k hk=>((V Y).2.2.lt k hk).1);clear n aS af aI bp u bt aO bB aT am L T;have aN:Hid (C.length+1=(C++[c]).length):=(by show C.length+1=_;simp);generalize X.foldl (Cn.stepW rs f (C++[c])) (out,0)=ar at *;generalize C++[c]=S at *;go_wp2;go_loopw[3,13,14] (fun vo iv _ wr=>∃k:Nat,iv=.int .i64 k/\k<=X.length/\WIn w w0.heap.size E (.slice xo X.length v) (.slice (some ⟨g,0,none⟩) (C.length+1) y) X S rs f ar k vo wr) (fun _ iv _ _=>X.length-(intOf iv).toNat)
     case atStart=>exact⟨0,rfl,f6J,V HW⟩
     case round =>
      obtain⟨k2,rfl,bL,ab,aM,aK,I,aj,n,aW,M,r⟩:=hrel;clear HW;by_cases x:k2<X.length
      ·obtain⟨b,R,aB,he,_,_,Z⟩:=aj.sk.place f6J;obtain⟨rfl,rfl⟩:xo=some ⟨b,R,none⟩/\v=aB:=(by simpa using he);have aC:=Z k2 x;have KC:=O (V o S (X.getD k2 0) ab wr _ _ aV (V aY k2 x) (V aU wr M) n.sk aM aK);have s:Hid (∀w' v',wr.grownBy w' u3.ownBlock->(Cn.walk rs f S (X.getD k2 0) ab).2=0->Ok .i32 21 w' w0.heap.size v' (Cn.walk rs f S (X.getD k2 0) ab).1->(v'.ownBlock=u3.ownBlock\/∃g,v'.ownBlock=some g/\wr.heap.size<=g)->WIn w w0.heap.size E (.slice (some ⟨b,R,none⟩) X.length v) (.slice (some ⟨g,0,none⟩) (C.length+1) y) X S rs f ar (k2+1) v' w'):=fun w' v' a b c d=>WIn.next x aK I aj n aW M r a b c d
       have aw:Hid (∀w',wr.grownBy w' u3.ownBlock->(Cn.walk rs f S (X.getD k2 0) ab).2≠0->y2o w w0.heap.size E ar (.returned (.tuple #[.slice none 0 0,.int .i64 (Cn.walk rs f S (X.getD k2 0) ab).2])) w'):=fun w' hg hn=>by
        rw[Cn.x6L x,Cn.x1H _ _ _ _ _ hn]at I;rw[<- I];exact⟨_,rfl,x2Y M hg r,.inr ⟨hn,rfl⟩⟩
       clear I aj n aW M r aM aK Z he o aY aU aN Y aV;generalize Cn.walk rs f S (X.getD k2 0) ab=q at *;generalize X.getD k2 0=z at *;obtain⟨q1,q2⟩:=q;go_wp2_with fail;refine(V KC).mono ?_;rintro e w5 ⟨v5,rfl,p,h5⟩;clear KC;rcases h5 with⟨bn,aR,aQ⟩ | ⟨aH,rfl⟩
       ·have HN:=O (V s w5 v5 p bn aR aQ);clear s aw p aR aQ;obtain rfl:q2=0:=bn;go_wp2;go_round
        case rel=>exact⟨k2+1,g2E,f6J,V HN⟩
        case measure=>exact g7W
       ·have U:=O (V aw w5 p aH);have hq:(q2==0)=false:=b0f aH;clear s aw p aH;go_wp2;go_ret2;exact V U
      ·obtain rfl:k2=X.length:=f6J;rw[List.drop_length,List.foldl_nil]at I;have U:Hid (y2o w w0.heap.size E ar (.returned (.tuple #[u3,.int .i64 0])) wr):=(by rw[<- I];exact⟨_,rfl,M,.inl ⟨rfl,aM,r⟩⟩);clear I aj n aW M r aM aK o aY aU aN Y aV;go_wp2;go_ret2;exact V U
theorem x7u w0 vl rs(Q:∀W,Bw w0 W->Rcs W vl rs):∀f,z5T w0 vl rs f
 | 0=>x7v w0 vl rs Q 0 fun _ e=>f6J
 | f+1=>x7v w0 vl rs Q (f+1) fun m e=>(f6J:f=m) ▸ x7u w0 vl rs Q f
theorem x7s:z9h:=by
 intro v rs c w N I;have b:=O (x7u w v rs (fun W h=>N.below h) 16 [] c [] w (.slice none 0 0) (.slice none 0 0) rfl I (b0r) (Sk.nil _ _) (Ok.nil _ _ _ _) M7K);have P:=O (Cn.y5f rs 16 [] c []);have x:Hid (∀o,w.grownBy o (Value.slice none 0 0).ownBlock->Bw w o):=fun o h=>(b0r).grown h (l0r _) (fun k e=>by cases e);rw[show Cn.full rs c=Cn.walk rs 16 [] c []from rfl];generalize Cn.walk rs 16 [] c []=q at *;obtain⟨C,s⟩:=q;obtain⟨H,G,rfl,_,_⟩:=N.shape;go_enter func86,ntmps86;go_wp2_with fail;refine(V b).mono ?_;rintro e J ⟨A,rfl,p,K⟩
 have U:Hid (x7R w (C,s) (.returned (.tuple #[A,.int .i64 s])) J):=by
  rcases K with⟨_,l,_⟩ | ⟨F,rfl⟩
  ·exact⟨_,rfl,l,V x J p⟩
  ·obtain rfl:C=[]:=V P F;exact⟨_,rfl,Ok.nil _ _ _ _,V x J p⟩
 go_wp2;go_ret2;exact V U
theorem z0V c w(h:Rune c):Calls prog 82 #[.int .i32 c] w fun e w'=>e=.returned (.bool (Cn.jl c))/\w'=w:=by
 obtain⟨Z,D⟩:=h;unfold Cn.jl;by_cases t:4352<=c
 ·by_cases f:c<=4370
  ·rw[d0t ⟨t,f⟩];exact M9P
  ·rw[d0f (fun h=>f h.2)];exact M9P
 ·rw[d0f (fun h=>t h.1)];exact M9P
theorem z0X c w(h:Rune c):Calls prog 83 #[.int .i32 c] w fun e w'=>e=.returned (.bool (Cn.jv c))/\w'=w:=by
 obtain⟨Z,D⟩:=h;unfold Cn.jv;by_cases t:4449<=c
 ·by_cases f:c<=4469
  ·rw[d0t ⟨t,f⟩];exact e3i
  ·rw[d0f (fun h=>f h.2)];exact e3i
 ·rw[d0f (fun h=>t h.1)];exact e3i
theorem z0W c w(h:Rune c):Calls prog 85 #[.int .i32 c] w fun e w'=>e=.returned (.bool (Cn.jt c))/\w'=w:=by
 obtain⟨Z,D⟩:=h;unfold Cn.jt;by_cases t:4520<=c
 ·by_cases f:c<=4546
  ·rw[d0t ⟨t,f⟩];exact W0F
  ·rw[d0f (fun h=>f h.2)];exact W0F
 ·rw[d0f (fun h=>t h.1)];exact W0F
theorem x4o r vt lo hi w(C:RecFit r)(y:I64 lo)(Q:I64 hi):Calls prog 81 #[recV r vt,.int .i64 lo,.int .i64 hi] w (x0g w (Cn.covers r lo hi)):=by
 have Y:∀o,Bw w (w.alloc o):=fun o=>(b0r).alloc (l0r _) o;have x:=O Y;obtain⟨j,P⟩:=y;obtain⟨J,i⟩:=Q;obtain⟨B,D⟩:=C.lo;obtain⟨z,v⟩:=C.hi;unfold Cn.covers recV;by_cases t:r.lo<=hi
 ·by_cases f:lo<=r.hi
  ·rw[d0t ⟨t,f⟩];exact U7e
  ·rw[d0f (fun h=>f h.2)];exact U7e
 ·rw[d0f (fun h=>t h.1)];exact U7e
theorem y1M v rs c w(N:Rcs w v rs)(I:Rune c):Calls prog 48 #[v,.int .i32 c] w (x0g w (Cn.plain rs c)):=by
 have K:=O (x2t v rs 1 c w N w5o I);obtain⟨p,X⟩:=I;rcases hit_at N 1 c with⟨Z,D⟩ | ⟨k,b,R,M,Z,T,D,rfl,S,z,u,o⟩
 ·have F:Cn.plain rs c=false:=(by unfold Cn.plain;rw[D]);rw[F];rw[Z]at K;obtain⟨J,M,rfl,_,_⟩:=N.shape;go_enter func48,ntmps48;go_wp2_with fail;refine c0m K fun Q Y=>?_;have U:x0g w false (.returned (.bool false)) Q:=⟨rfl,Y⟩;go_wp2;go_ret;exact U
 ·have F:Cn.plain rs c=decide ((rs.getD k Cn.none).kind=1):=(by unfold Cn.plain;rw[D]);rw[F];rw[Z]at K;have a:=O u;have B:=N.1;generalize rs.getD k Cn.none=r at *;by_cases C:r.kind=1
  ·rw[d0t C];go_enter func48,ntmps48;go_wp2_with fail;refine c0m K fun Q Y=>?_;have d:=((V a).below Y).kind;rw[C]at d;have U:x0g w true (.returned (.bool true)) Q:=⟨rfl,Y⟩;go_wp2;go_ret;exact U
  ·rw[d0f C];go_enter func48,ntmps48;go_wp2_with fail;refine c0m K fun Q Y=>?_;have d:=((V a).below Y).kind;have E:(r.kind==1)=false:=b0f C;have U:x0g w false (.returned (.bool false)) Q:=⟨rfl,Y⟩;go_wp2;go_ret;exact U
def dips(l:List Rec)(x:List Int)(j:Nat):Prop:=Cn.cls l (x.getD j 0)≠0/\Cn.cls l (x.getD j 0)<Cn.cls l (x.getD (j-1) 0)
theorem x6H(l:List Rec):∀x:List Int,Cn.fallsA l x=true↔∃j,1<=j/\j<x.length/\dips l x j
 | []=>by simp[Cn.fallsA]
 | [a]=>by
  simp only[Cn.fallsA];constructor
  ·intro h;cases h
  ·rintro⟨j,Z,D,_⟩;simp at D;omega
 | a::b::r=>by
  rw[Cn.fallsA,Bool.or_eq_true,x6H l (b::r),decide_eq_true_iff];constructor
  ·rintro(h | ⟨j,Z,D,J⟩)
   ·exact⟨1,f6J,M7L,by simpa[dips]using h⟩
   ·refine⟨j+1,f6J,by simp at D ⊢;exact f6J,?_⟩;obtain⟨j,rfl⟩:∃i,j=i+1:=⟨j-1,f6J⟩;exact p0K
  ·rintro⟨j,Z,D,J⟩;obtain⟨j,rfl⟩:∃i,j=i+1:=⟨j-1,f6J⟩
   cases j with
   | zero=>exact .inl p0K
   | succ j=>exact .inr ⟨j+1,f6J,by simp at D ⊢;exact f6J,p0K⟩
theorem x9r{l x j}(Z:1<=j)(D:j<x.length)(h:dips l x j):Cn.fallsA l x=true:=(x6H l x).2 ⟨j,Z,D,h⟩
theorem y8Q{l x}(h:∀j,1<=j->j<x.length->¬dips l x j):Cn.fallsA l x=false:=by
 rcases hb:Cn.fallsA l x with _ | _
 ·rfl
 ·obtain⟨j,a,b,c⟩:=(x6H l x).1 hb;exact absurd c (h j a b)
theorem z6u{w v rs}(N:Rcs w v rs) c:I64 (Cn.cls rs c):=by
 rcases hit_at N 2 c with⟨_,D⟩ | ⟨k,_,_,_,_,_,D,_,_,_,_,o⟩
 ·unfold Cn.cls;rw[D];exact⟨e8M,e8M⟩
 ·unfold Cn.cls;rw[D];exact o.n
def FaIn(w:World)(v u:Value)(rs:List Rec)(xs:List Int)(k:Nat)(wr:World):Prop:=Rcs wr v rs/\Sk .i32 wr u xs/\Below w.heap.size w wr/\∀j,1<=j->j<k->j<xs.length->¬dips rs xs j
theorem x5C v u rs xs w(N:Rcs w v rs)(hu:Sk .i32 w u xs)(z:xs.length<=1000000000):Calls prog 87 #[v,u] w (x0g w (Cn.fallsA rs xs)):=by
 have m:Hid (∀j,1<=j->j<xs.length->dips rs xs j->Cn.fallsA rs xs=true):=fun j a b c=>x9r a b c;have l:Hid ((∀j,1<=j->j<xs.length->¬dips rs xs j)->Cn.fallsA rs xs=false):=y8Q;generalize Cn.fallsA rs xs=am at *;have HW:Hid (FaIn w v u rs xs 1 w):=⟨N,hu,b0r,fun j a b _=>f6J⟩;have B:=N.1;have A:Hid (∀c,I64 (Cn.cls rs c)):=fun c=>z6u N c;obtain⟨J,M,rfl,_,_⟩:=N.shape;obtain⟨s,Y,rfl,ab,ae⟩:=hu.shape;go_enter func87,ntmps87;go_wp2;go_loopw[5,6] (fun iv _ wr=>∃k:Nat,iv=.int .i64 k/\1<=k/\k<=xs.length+1/\FaIn w (.slice J rs.length M) (.slice s xs.length Y) rs xs k wr) (fun iv _ _=>xs.length+1-(intOf iv).toNat)
 case atStart=>exact⟨1,rfl,f6J,f6J,V HW⟩
 case round =>
  obtain⟨k,rfl,I,C,G,x,T,W⟩:=hrel;by_cases E:k<xs.length
  ·obtain⟨b,R,t,P,_,_,Z⟩:=x.place f6J;obtain⟨rfl,rfl⟩:s=some ⟨b,R,none⟩/\Y=t:=S7N;have K:=Z k E;have q:=O (x2Q _ rs (xs.getD k 0) wr G (x0W x E));have g:Hid (∀Q,Bw wr Q->Calls prog 130 #[.slice J rs.length M,.int .i32 (xs.getD (k-1) 0)] Q (IntB Q (Cn.cls rs (xs.getD (k-1) 0)))):=fun Q h=>x2Q _ rs _ Q (G.below h) (x0W x f6J);have o:Hid (∀Q,Bw wr Q->Q.cell? ⟨b,R+(k-1),none⟩=some (.int .i32 (xs.getD (k-1) 0))):=fun Q h=>(by rw[Below.cell h (x0a (Z (k-1) f6J))];exact Z (k-1) f6J);have f:Hid (dips rs xs k↔Cn.cls rs (xs.getD k 0)≠0/\Cn.cls rs (xs.getD k 0)<Cn.cls rs (xs.getD (k-1) 0)):=Iff.rfl
   have p:Hid (¬dips rs xs k->∀Q,Bw wr Q->FaIn w (.slice J rs.length M) (.slice (some ⟨b,R,none⟩) xs.length Y) rs xs (k+1) Q):=fun hd Q h=>⟨G.below h,x.below h,bthen T h,fun j a c d=>by
    rcases Nat.lt_or_ge j k with h | h
    ·exact W j a h d
    ·obtain rfl:j=k:=by omega
     exact hd⟩
   have HB:=O T;clear Z G x T W P l;have n:=O (V m k I E);have i1:=V A (xs.getD k 0);have i:=V A (xs.getD (k-1) 0);generalize Cn.cls rs (xs.getD k 0)=d1,Cn.cls rs (xs.getD (k-1) 0)=D at *;generalize xs.getD k 0=z1,xs.getD (k-1) 0=X at *;obtain⟨ai,aj⟩:=i1;obtain⟨af,ag⟩:=i;go_wp2_with fail;refine c0m q fun Q F=>?_;have K:=V o Q F;have S:=O (V g Q F);have y:Hid (∀w2,Bw Q w2->¬dips rs xs k->FaIn w (.slice J rs.length M) (.slice (some ⟨b,R,none⟩) xs.length Y) rs xs (k+1) w2):=fun w2 h hd=>V p hd w2 (bthen F h);have L:=O (bthen (V HB) F);by_cases hz:d1=0
   ·have HX:Hid (FaIn w (.slice J rs.length M) (.slice (some ⟨b,R,none⟩) xs.length Y) rs xs (k+1) Q):=V y Q (b0r) (fun h=>((V f).1 h).1 hz);subst hz;go_wp2;go_round
    case rel=>exact⟨k+1,g2B,f6J,f6J,V HX⟩
    case measure=>exact g7T
   ·have qz:(d1==0)=false:=b0f hz;by_cases hd:d1<D
    ·obtain rfl:=V n ((V f).2 ⟨hz,hd⟩);go_wp2_with fail;refine c0m S fun w2 H=>?_;have U:=O (bthen (V L) H);go_wp2;go_ret;exact⟨rfl,V U⟩
    ·have HX:=O (fun w2 h=>V y w2 h (fun h=>hd ((V f).1 h).2));go_wp2_with fail;refine c0m S fun w2 H=>?_;have r:=O (V HX w2 H);go_wp2;go_round
     case rel=>exact⟨k+1,g2B,f6J,f6J,V r⟩
     case measure=>exact g7T
  ·obtain rfl:=V l (fun j a b=>W j a f6J b);have U:=O T;exact t3L
theorem x0B c w(h:Rune c):Calls prog 125 #[.int .i32 c] w fun e w'=>e=.returned (.bool (Cn.scalar c))/\w'=w:=by
 obtain⟨Z,D⟩:=h;by_cases t:0<=c
 ·by_cases f:c<=55295
  ·exact s7u
  ·by_cases T:57344<=c
   ·by_cases o:c<=1114111
    ·exact s7u
    ·exact f2D
   ·exact f2D
 ·have T:¬57344<=c:=f6J;exact f2D
theorem y7L{x:List Int}{f:Int->Bool}{k}(G:k<x.length)(h:f (x.getD k 0)=false):x.all f=false:=by grind
theorem z2m{x:List Int}{f:Int->Bool}(h:∀j,j<x.length->f (x.getD j 0)=true):x.all f=true:=by
 rw[List.all_eq_true];intro y hy;obtain⟨j,X,rfl⟩:=List.getElem_of_mem hy;have:=h j X;simpa[List.getD,X]using this
theorem y1O u xs w(d:Sk .i32 w u xs)(S:xs.length<=1000000000):Calls prog 177 #[u] w fun e w'=>e=.returned (.bool (xs.all Cn.scalar))/\w'=w:=by
 have m:Hid (∀k,k<xs.length->Cn.scalar (xs.getD k 0)=false->xs.all Cn.scalar=false):=fun k=>y7L;have l:Hid ((∀j,j<xs.length->Cn.scalar (xs.getD j 0)=true)->xs.all Cn.scalar=true):=z2m;generalize xs.all Cn.scalar=A at *;have r:=O d;obtain⟨s,Y,rfl,C,B⟩:=d.shape;go_enter func177,ntmps177;go_wp2;go_loop [3] (fun I=>∃k:Nat,I=.int .i64 k/\k<=xs.length/\∀j,j<k->Cn.scalar (xs.getD j 0)=true) (fun I=>xs.length-(intOf I).toNat)
 case atStart=>exact⟨0,rfl,f6J,fun j X=>absurd X (Nat.not_lt_zero _)⟩
 case round =>
  obtain⟨k,rfl,G,W⟩:=hrel;by_cases E:k<xs.length
  ·obtain⟨b,R,t,P,_,_,Z⟩:=(V r).place f6J;obtain⟨rfl,rfl⟩:s=some ⟨b,R,none⟩/\Y=t:=S7N;have H:=Z k E;have K:=O (x0B (xs.getD k 0) w (x0W (V r) E));have n:=O (V m k E)
   have f:Hid (Cn.scalar (xs.getD k 0)=true->∀j,j<k+1->Cn.scalar (xs.getD j 0)=true):=fun h j X=>by
    rcases Nat.lt_or_ge j k with D | D
    ·exact W j D
    ·grind
   clear Z P r m l W;generalize hy:Cn.scalar (xs.getD k 0)=y at n f K;generalize xs.getD k 0=z at *;go_wp2_with fail;refine(V K).mono ?_;rintro e Q ⟨rfl,rfl⟩
   cases y with
   | false =>
    obtain rfl:=V n rfl;exact t6x
   | true =>
    have c:=O (V f rfl);go_wp2;go_round
    case rel=>exact⟨k+1,g2B,f6J,V c⟩
    case measure=>exact g7T
  ·obtain rfl:k=xs.length:=f6J;obtain rfl:=V l W;exact t6x
theorem y3r u xs(a b:Nat) w(d:Sk .i32 w u xs)(S:xs.length<=1000000000):Calls prog 126 #[u,.int .i64 a,.int .i64 b] w fun e w'=>e=.returned (.bool (Cn.list xs a b))/\w'=w:=by
 have K:=O (y1O u xs w d S);obtain⟨s,Y,rfl,C,B⟩:=d.shape;unfold Cn.list;by_cases Z:a<=xs.length
 ·by_cases D:xs.length<=b
  ·rw[d0t ⟨Z,D⟩,Bool.true_and];go_enter func126,ntmps126;exact P3m
  ·rw[d0f (fun h=>D h.2),Bool.false_and];go_enter func126,ntmps126;exact t6u
 ·rw[d0f (fun h=>Z h.1),Bool.false_and];go_enter func126,ntmps126;exact t6u
theorem y0h u w(d:u<18446744073709551616):Calls prog 124 #[.float .f64 u] w fun e w'=>e=.returned (.bool (Cn.weight u))/\w'=w:=by
 have K:=O (x3U u w);unfold Cn.weight;by_cases Z:u<=9218868437227405312
 ·rw[d0t Z];have D:(u:Int)<=9218868437227405312:=f6J;go_enter func124,ntmps124;go_wp2_with fail;refine(V K).mono ?_;rintro e Q ⟨rfl,rfl⟩;exact t6v
 ·rw[d0f Z];have D:¬(u:Int)<=9218868437227405312:=f6J;go_enter func124,ntmps124;go_wp2_with fail;refine(V K).mono ?_;rintro e Q ⟨rfl,rfl⟩;go_wp2;go_ret;refine⟨?_,rfl⟩;show Ending.returned (.bool (decide ((u:Int)<=9218868437227405312)))=_;rw[d0f f6J]
theorem y4k{b:ByteArray}(h:b.size=0):b=⟨#[]⟩:=by
 obtain⟨⟨l⟩⟩:=b;have:l=[]:=(by simpa[ByteArray.size]using h);subst this;rfl
theorem y9S{b:ByteArray}(h:¬b.size=0):¬b.toList=[]:=fun e=>h (by
 have:b.data.toList.length=0:=I7C;show b.data.size=0;rw[<- Array.length_toList]
 exact this)
def bareB(n0:Int)(m:Nat)(nm ot:ByteArray)(wt:Nat)(nf tof namef otherf wf:Bool):Bool :=
 (nf||decide (n0=0))&&(tof||decide (m=0))&&(namef||decide (nm.size=0))&&(otherf||decide (ot.size=0))&&(wf||decide (wt=0))
theorem way3(b:Bool)(c:Prop):b=true\/(b=false/\c)\/(b=false/\¬c):=by cases b<;>simp[Classical.em]
theorem z2s kd lo hi n0 ao m cap nm ot wt nf tof namef otherf wf w:Calls prog 122 #[.agg #[.int .i64 kd,.int .i64 lo,.int .i64 hi,.int .i64 n0,.slice ao m cap,.string nm,.string ot,.float .f64 wt],.bool nf,.bool tof,.bool namef,.bool otherf,.bool wf] w (x0g w (bareB n0 m nm ot wt nf tof namef otherf wf)):=by
 have x:Hid (∀o,Bw w (w.alloc o)):=fun o=>(b0r).alloc (l0r _) o;have L:=O (fun w=>x3U wt w);obtain⟨R,E⟩:∃R,bareB n0 m nm ot wt nf tof namef otherf wf=R:=⟨_,rfl⟩;rw[E]
 all_goals
  rcases way3 nf (n0=0)with rfl | ⟨rfl,c⟩ | ⟨rfl,c⟩;rotate_left 2
  ·have H:(n0==0)=false:=b0f c;exact v0K
  rotate_left;subst c
 all_goals
  rcases way3 tof (m=0)with rfl | ⟨rfl,c⟩ | ⟨rfl,c⟩;rotate_left 2
  ·have H:((m:Int)==0)=false:=b0f f6J;exact v0K
  rotate_left;subst c
 all_goals
  rcases way3 namef (nm.size=0)with rfl | ⟨rfl,c⟩ | ⟨rfl,c⟩;rotate_left 2
  ·have H:=y9S c;exact v0K
  rotate_left;obtain rfl:=y4k c
 all_goals
  rcases way3 otherf (ot.size=0)with rfl | ⟨rfl,c⟩ | ⟨rfl,c⟩;rotate_left 2
  ·have H:=y9S c;exact v0K
  rotate_left;obtain rfl:=y4k c
 all_goals
  rcases way3 wf (wt=0)with rfl | ⟨rfl,c⟩ | ⟨rfl,c⟩;rotate_left 2
  ·have H:((wt:Int)==0)=false:=b0f f6J;exact v0K
  rotate_left;subst c
 all_goals
  obtain rfl:R=true:=E.symm.trans (by simp[bareB, *]);clear E;go_enter func122,ntmps122;go_wp2_with fail
  try(refine(V L _).mono ?_;rintro e Q ⟨rfl,rfl⟩;go_wp2)
  go_ret;exact⟨rfl,V x _⟩
theorem y3q(r:Rec) vt nf tof namef otherf wf w(N:Sk .i32 w vt r.to):Calls prog 122 #[recV r vt,.bool nf,.bool tof,.bool namef,.bool otherf,.bool wf] w (x0g w (Cn.bare r nf tof namef otherf wf)):=by
 obtain⟨J,M,rfl,_,_⟩:=N.shape;exact z2s _ _ _ _ _ _ _ _ _ _ _ _ _ _ _ _
