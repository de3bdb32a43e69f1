/- Lemmas. -/
import Derived.Test.YtbmckadcjdedcaaGreatDoorK3
import Derived.Deep.AppendLies
import Derived.Laws.AppendOwnNone
set_option maxHeartbeats 8000000
set_option maxRecDepth 8000
namespace Go.Proofs.YtbmckadcjdedcaaGreatDoor
open Go.Proofs.Tryz
open Go.RowKit
section
variable{p:Prop}
theorem r4K(h:p:=by go_wp2;go_ret;exact⟨rfl,V t _⟩):p:=h
theorem I7C(h:p:=by rw[<- ByteArray.toList_eq,e];rfl):p:=h
theorem g3k(h:p:=by go_enter func113,ntmps113;go_wp2_with fail;refine(V A _).mono ?_;rintro e I ⟨rfl,rfl⟩;go_wp2;go_ret;exact⟨rfl,V t _⟩):p:=h
theorem e6w(h:p:=by go_enter func73,ntmps73;exact r4K):p:=h
theorem R4R(h:p:=by go_enter func74,ntmps74;exact t6u):p:=h
theorem f6K(h:p:=by go_enter func75,ntmps75;exact t6u):p:=h
theorem v0D(h:p:=by go_enter func77,ntmps77;exact t6u):p:=h
theorem I6Y(h:p:=by simp[x0h, *]<;>rfl):p:=h
theorem t6w(h:p:=by go_wp2;go_ret;exact⟨rfl,rfl⟩):p:=h
theorem r9Q(h:p:=by simpa[dips]using R):p:=h
theorem v6y(h:p:=by go_enter func113,ntmps113;go_wp2;go_ret;exact⟨rfl,V t _⟩):p:=h
theorem E8d(h:p:=by
 obtain rfl:=V I aK;clear I ai;go_wp2_with(at_builtin;refine wpList_append_lies _ rfl (.tmp 21) (.tmp 23) 40 rfl w0.heap.size 21 i0 (.int .i32 0) 1 4 underlying40 hi p i aH rfl e8Z _ _ _ rfl (D.alloc _) ⟨w1.heap.size,0,none⟩ 1 1 [.int .i32 c] rfl rfl (cell_one_new _ _ _) (x0M .i32 _) f6J T7X f6J P8P (w1.heap.size+1) M7O ?_)
 all_goals try(go_ret2;exact⟨_,rfl,x2g E _,.inr ⟨e8Z,rfl⟩⟩)
 intro g F w9 C R Z _;have L:w.grownBy w9 H.ownBlock:=x1M (x2g (E.alloc N _) _) R (.inl rfl);have T:Ok .i32 21 w9 w0.heap.size (.slice (some ⟨g,0,none⟩) (out.length+1) F) (out++[c]):=Ok.of (fun z hz=>g0m) P8P C M7O M7O
 have U:(Value.slice (some ⟨g,0,none⟩) (out.length+1) F).ownBlock=H.ownBlock\/∃g',(Value.slice (some ⟨g,0,none⟩) (out.length+1) F).ownBlock=some g'/\w.heap.size<=g':=t1L
 have Y:x7t w w0.heap.size H ([],2) (.returned (.tuple #[.slice none 0 0,.int .i64 2])) w9:=⟨_,rfl,L,.inr ⟨e8Z,rfl⟩⟩;clear C R Z T U L D n G E A;go_wp2;go_ret2;exact Y):p:=h
theorem I3Y(h:p:=by have X:Cn.scalar c=false:=(by unfold Cn.scalar;exact P8P);rw[X];go_enter func116,ntmps116;exact t6w):p:=h
theorem r6Z(h:p:=by
 obtain rfl:=V ai aK;clear I ai;go_wp2_with(at_builtin;refine wpList_append_lies _ rfl (.tmp 21) (.tmp 23) 40 rfl w0.heap.size 21 i0 (.int .i32 0) 1 4 underlying40 hi p i aH rfl e8Z _ _ _ rfl (D.alloc _) ⟨w1.heap.size,0,none⟩ 1 1 [.int .i32 c] rfl rfl (cell_one_new _ _ _) (x0M .i32 _) f6J T7X f6J P8P (w1.heap.size+1) (by simp) ?_);intro g F w9 C R Z _;have L:w.grownBy w9 H.ownBlock:=x1M (x2g (E.alloc N _) _) R (.inl rfl);have T:Ok .i32 21 w9 w0.heap.size (.slice (some ⟨g,0,none⟩) (out.length+1) F) (out++[c]):=Ok.of (fun z hz=>g0m) P8P C (by simp) (by simp)
 have U:(Value.slice (some ⟨g,0,none⟩) (out.length+1) F).ownBlock=H.ownBlock\/∃g',(Value.slice (some ⟨g,0,none⟩) (out.length+1) F).ownBlock=some g'/\w.heap.size<=g':=t1L
 have Y:x7t w w0.heap.size H (out++[c],0) (.returned (.tuple #[.slice (some ⟨g,0,none⟩) (out.length+1) F,.int .i64 0])) w9:=⟨_,rfl,L,.inl ⟨rfl,T,U⟩⟩;clear C R Z T U L D n G E A;go_wp2;go_ret2;exact Y):p:=h
theorem r8D(h:p:=by have X:Cn.scalar c=true:=(by unfold Cn.scalar;exact P8P);rw[X];go_enter func116,ntmps116;exact t6w):p:=h
theorem g0m(h:p:=by rcases List.mem_append.1 hz with hz | hz;exact G.1 z hz;(simp at hz;subst hz;simp[IntKind.min,IntKind.max,IntKind.signed,IntKind.bits];omega)):p:=h
theorem u0l(h:p:=by intro j hj;obtain⟨b,P,ay,he,_,_,aG⟩:=r.place f6J;obtain⟨rfl,rfl⟩:wo=some ⟨b,P,none⟩/\aR=ay:=M2Y;exact⟨b,P,rfl,aG j hj⟩):p:=h
theorem t1L(h:p:=by
 rcases Z with h | h
 ·exact .inl h.symm
 ·exact .inr ⟨g,rfl,f6J⟩):p:=h
theorem T6A(h:p:=by
 generalize B.getD k 0=z at *;go_wp2;go_round
 case rel=>exact⟨k+1,g2D,f6J,V be⟩
 case measure=>exact g7Y):p:=h
theorem m7N(h:p:=by go_wp2;go_ret2;exact Y):p:=h
theorem F5C(h:p:=by obtain⟨j,hj,he⟩:=List.getElem_of_mem h;exact V l j hj (by simp[List.getD,hj,he])):p:=h
theorem v8z(h:p:=by
 rcases Nat.lt_or_ge j k with h | h
 ·exact V l j h
 ·obtain rfl:j=k:=f6J;exact v):p:=h
theorem P1z(h:p:=by exact⟨0,rfl,f6J,fun j hj=>absurd hj (Nat.not_lt_zero _)⟩):p:=h
theorem v3k(h:p:=by rw[<- v];simp[List.getD,aL]):p:=h
end
theorem x2g{w w1}(h:Bw w w1) r:w.grownBy w1 r:=⟨h.os,h.tape,h.output,h.size,fun k G _=>h.block k G⟩
theorem x1M{w w1 w2:World}{r r'}(h:w.grownBy w1 r)(k:w1.grownBy w2 r')(hr:r'=r\/∃g,r'=some g/\w.heap.size<=g):w.grownBy w2 r:=by
 refine⟨k.os.trans h.os,k.tape.trans h.tape,k.output.trans h.output,Nat.le_trans h.size k.size,fun x J F=>?_⟩;rw[k.block x (Nat.lt_of_lt_of_le J h.size) ?_,h.block x J F];rcases hr with rfl | ⟨g,rfl,C⟩
 ·exact F
 ·grind
theorem cell_one_new(w:World) e v:∀j u,[v][j]?=some u->(w.alloc (.cells #[v] e)).cell? ((⟨w.heap.size,0,none⟩:Addr).add j)=some u:=by
 intro j u K
 match j,K with
 | 0,K=>simp at K;subst K;simp[World.cell?,World.alloc,Addr.add,-World.alloc_eq]
 | j+1,K=>simp at K
theorem x5m{w ops rest o}{a Q}(I:o.guard=none)(s x:Operand)
  (j:o.op=.call { callee:=.builtin .append,args:=#[s,x],argTypes:=#[40,40] }) v zs (X:a.eval s=.slice none 0 0) (J:a.eval x=v) (N:Sk .i32 w v zs) (S:zs.length<=1000)
  (h:∀v' w',Ok .i32 21 w' w.heap.size v' zs->Bw w w'->wpList prog ops Q rest (a.put o.dst v') w'):wpList prog ops Q (o::rest) a w:=by
 obtain⟨r,hi,p,i,f⟩:=info_parts Tryz.info21;rcases N.2.src with⟨E,rfl⟩ | ⟨q,M,rfl,g⟩
 ·obtain rfl:zs=[]:=f3L;exact wpList_append_own_none I s x 40 j w.heap.size 21 r 1 underlying40 hi _ _ _ X (World.ownsRow_nil _ _ _ _) J (h _ _ (Ok.nil _ _ _ _) (b0r))
 ·refine wpList_append_own _ I s x 40 j w.heap.size 21 r (.int .i32 0) 1 4 underlying40 hi p i f rfl e8P _ _ _ X (World.ownsRow_nil _ _ _ _) q _ M (zs.map (Value.int .i32)) J M7M g (x0U .i32 zs) (by simp[maxLen];exact f6J) P8P (l0r _) ?_;intro v' w' L C _;exact h v' w' (Ok.of N.1 f6J L M7M M7M) (x1H (e:=21) (l0r _) (World.ownsRow_nil _ _ _ _) (b0r) C)
def x7t(w:World)(B:Nat)(vo:Value)(r:List Int×Int)(e:Ending)(w':World):Prop :=
 ∃v,e=.returned (.tuple #[v,.int .i64 r.2])/\w.grownBy w' vo.ownBlock/\((r.2=0/\Ok .i32 21 w' B v r.1/\(v.ownBlock=vo.ownBlock\/∃g,v.ownBlock=some g/\w.heap.size<=g))\/(r.2≠0/\v=.slice none 0 0))
def WIn(w:World)(B:Nat)(vout vx vd:Value)(xs down:List Int)(rs:List Rec)(f:Nat)(res:List Int×Int)(k:Nat)(vo:Value)(wr:World):Prop :=
 ∃outk,Ok .i32 21 wr B vo outk/\outk.length<=32/\(xs.drop k).foldl (Cn.stepW rs f down) (outk,0)=res/\Ok .i32 21 wr w.heap.size vx xs/\Ok .i32 21 wr w.heap.size vd down /\
  (∀g,vo.ownBlock=some g->vx.ownBlock≠some g/\vd.ownBlock≠some g)/\w.grownBy wr vout.ownBlock/\(vo.ownBlock=vout.ownBlock\/∃g,vo.ownBlock=some g/\w.heap.size<=g)
theorem WIn.next{w wr w' B}{H t E X v':Value}{xs down rs f res}{k outk}(G:k<xs.length)
  (D:outk.length<=32) (R:(xs.drop k).foldl (Cn.stepW rs f down) (outk,0)=res) (J:Ok .i32 21 wr w.heap.size t xs) (hd:Ok .i32 21 wr w.heap.size E down)
  (F:∀g,X.ownBlock=some g->t.ownBlock≠some g/\E.ownBlock≠some g) (C:w.grownBy wr H.ownBlock) (N:X.ownBlock=H.ownBlock\/∃g,X.ownBlock=some g/\w.heap.size<=g)
  (M:wr.grownBy w' X.ownBlock) (L:(Cn.walk rs f down (xs.getD k 0) outk).2=0) (y:Ok .i32 21 w' B v' (Cn.walk rs f down (xs.getD k 0) outk).1) (s:v'.ownBlock=X.ownBlock\/∃g,v'.ownBlock=some g/\wr.heap.size<=g) :
  WIn w B H t E xs down rs f res (k+1) v' w':=by
 have A:∀g,g<wr.heap.size->X.ownBlock≠some g->w'.heap[g]?=wr.heap[g]?:=fun g a b=>M.block g a (fun e=>b e.symm);refine⟨(Cn.walk rs f down (xs.getD k 0) outk).1,y,Cn.x9M _ _ _ _ _ D,?_,J.keep (fun g h=>A g (J.2.2.lt g h).2 (fun e=>(F g e).1 h)),hd.keep (fun g h=>A g (hd.2.2.lt g h).2 (fun e=>(F g e).2 h)),fun g h=>?_,x1M C M ?_,?_⟩
 ·rw[<- R,Cn.x6x G];congr 1;exact Prod.ext rfl L.symm
 ·rcases s with e | ⟨S,e,I⟩
  ·exact F g (e ▸ h)
  ·rw[e]at h;obtain rfl:=Option.some.inj h;exact⟨fun K=>by have:=(J.2.2.lt S K).2;exact f6J,fun K=>by have:=(hd.2.2.lt S K).2;exact f6J⟩
 ·exact N
 ·rcases s with e | ⟨S,e,I⟩
  ·grind
  ·exact .inr ⟨S,e,Nat.le_trans C.size I⟩
theorem WIn.start{w wr B vout vx vd xs down out}{rs f}(j:Ok .i32 21 w B vout out)(S:out.length<=32)(J:Ok .i32 21 wr w.heap.size vx xs)(hd:Ok .i32 21 wr w.heap.size vd down)(Q:Bw w wr) :
  WIn w B vout vx vd xs down rs f (xs.foldl (Cn.stepW rs f down) (out,0)) 0 vout wr:=by
 refine⟨out,j.below Q,S,s4M,J,hd,fun g h=>?_,x2g Q _,.inl rfl⟩;have H:=(j.2.2.lt g h).2;exact⟨fun e=>by have:=(J.2.2.lt g e).1;exact f6J,fun e=>by have:=(hd.2.2.lt g e).1;exact f6J⟩
theorem y2I w0 vl rs(hR:∀W,Bw w0 W->Rcs W vl rs):∀(f:Nat) (B:List Int) (c:Int) (out:List Int) (w:World) (aF H:Value),f+B.length=16->Rune c->Bw w0 w->Sk .i32 w aF B->Ok .i32 21 w w0.heap.size H out->out.length<=32 ->
  Calls prog 120 #[vl,.int .i32 c,aF,H] w (x7t w w0.heap.size H (Cn.walk rs f B c out)):=by
 intro f
 induction f with
 | zero =>
  intro B c out w aF H bG hc A x G aY;obtain⟨i0,hi,p,i,aH⟩:=info_parts Tryz.info21;have hB:=A.size;have o:=O (x2F vl rs c w (hR w A) hc);have bH:=(hR w A).1;obtain⟨lo,bD,rfl,_,_⟩:=(hR w A).shape;obtain⟨c0,c1⟩:=hc;obtain⟨wo,aR,rfl,bJ,bK⟩:=x.shape;by_cases y:Cn.opn rs c=[]
  ·have aB:=Cn.x0Z y 0 B out;rw[y]at o;have I:Hid (32<=out.length->Cn.walk rs 0 B c out=([],2)):=fun h=>(by rw[aB,if_pos h]);have ai:Hid (¬32<=out.length->Cn.walk rs 0 B c out=(out++[c],0)):=fun h=>(by rw[aB,if_neg h]);generalize Cn.walk rs 0 B c out=aA at *;clear aB;go_enter func120,ntmps120;go_wp2_with fail;refine(V o).mono ?_;rintro e w1 ⟨vx,rfl,ae,E⟩;obtain⟨xo,aj,rfl,_,_⟩:=ae.sk.shape;have n:=G.below E;have D:=n.row;have J:([]:List Int).length=0:=rfl;rw[J];have N:=E.size;clear o ae x J;by_cases aK:32<=out.length
   ·exact E8d
   ·exact r6Z
  ·have bN:0<(Cn.opn rs c).length:=List.length_pos_iff.2 y;have S:Hid (c∈B->Cn.walk rs 0 B c out=([],72)):=fun h=>Cn.x2s y 0 h out;have am:Hid (¬c∈B->Cn.walk rs 0 B c out=([],73)):=fun h=>Cn.x7n y h out;generalize Cn.walk rs 0 B c out=aA at *;clear y;generalize Cn.opn rs c=t at *;go_enter func120,ntmps120;go_wp2_with fail;refine(V o).mono ?_;rintro e w1 ⟨vx,rfl,ae,E⟩;obtain⟨xo,aj,rfl,bL,bM⟩:=ae.sk.shape;have N:=E.size;have qx:((t.length:Int)==0)=false:=b0f f6J;have r:=x.below E
   have aq:Hid (∀j,j<B.length->∃b P,wo=some ⟨b,P,none⟩/\w1.cell? ⟨b,P+j,none⟩=some (.int .i32 (B.getD j 0))):=u0l
   have ar:=O ae;have aw:=O r;have Q:=O E;have M:=O G;clear o ae x r E G;go_wp2;go_loop [11] (fun iv=>∃k:Nat,iv=.int .i64 k/\k<=B.length/\∀j,j<k->B.getD j 0≠c) (fun iv=>B.length-(intOf iv).toNat)
   case atStart=>exact P1z
   case round =>
    obtain⟨k,rfl,hk,aO⟩:=hrel;have l:=O aO;clear aO;by_cases aL:k<B.length
    ·obtain⟨b,P,rfl,X⟩:=V aq k aL;by_cases v:B.getD k 0=c
     ·have az:c∈B:=v3k;obtain rfl:=V S az;rw[v]at X;have qc:(c==c)=true:=beq_self_eq_true _;have Y:x7t w w0.heap.size H ([],72) (.returned (.tuple #[.slice none 0 0,.int .i64 72])) w1:=⟨_,rfl,x2g (V Q) _,.inr ⟨e8Z,rfl⟩⟩;clear aq S l v az ar aw Q M;clear am;exact m7N
     ·have qc:(B.getD k 0==c)=false:=b0f v
      have be:Hid (∀j,j<k+1->B.getD j 0≠c):=fun j hj=>v8z
      clear aq S l v ar aw Q M;clear am;exact T6A
    ·obtain rfl:k=B.length:=by omega
     have aN:¬c∈B:=fun h=>F5C
     obtain rfl:=V am aN;have bw:B.length=16:=f6J;have bO:((B.length:Int)==16)=true:=(by rw[bw];rfl);have Y:x7t w w0.heap.size H ([],73) (.returned (.tuple #[.slice none 0 0,.int .i64 73])) w1:=⟨_,rfl,x2g (V Q) _,.inr ⟨e8Z,rfl⟩⟩;clear aq S l am aN ar aw Q M bw;exact m7N
 | succ f ih =>
  intro B c out w aF H bG hc A x G aY;obtain⟨i0,hi,p,i,aH⟩:=info_parts Tryz.info21;have hB:=A.size;have o:=O (x2F vl rs c w (hR w A) hc);have bH:=(hR w A).1;obtain⟨lo,bD,rfl,_,_⟩:=(hR w A).shape;have IH:=O ih;obtain⟨c0,c1⟩:=hc;obtain⟨wo,aR,rfl,bJ,bK⟩:=x.shape;by_cases y:Cn.opn rs c=[]
  ·have aB:=Cn.x0Z y (f+1) B out;rw[y]at o;have I:Hid (32<=out.length->Cn.walk rs (f+1) B c out=([],2)):=fun h=>(by rw[aB,if_pos h]);have ai:Hid (¬32<=out.length->Cn.walk rs (f+1) B c out=(out++[c],0)):=fun h=>(by rw[aB,if_neg h]);generalize Cn.walk rs (f+1) B c out=aA at *;clear aB;clear IH ih;go_enter func120,ntmps120;go_wp2_with fail;refine(V o).mono ?_;rintro e w1 ⟨vx,rfl,ae,E⟩;obtain⟨xo,aj,rfl,_,_⟩:=ae.sk.shape;have n:=G.below E;have D:=n.row;have J:([]:List Int).length=0:=rfl;rw[J];have N:=E.size;clear o ae x J;by_cases aK:32<=out.length
   ·exact E8d
   ·exact r6Z
  ·have bN:0<(Cn.opn rs c).length:=List.length_pos_iff.2 y;have S:Hid (c∈B->Cn.walk rs (f+1) B c out=([],72)):=fun h=>Cn.x2s y (f+1) h out;have aS:Hid (¬c∈B->Cn.walk rs (f+1) B c out=(Cn.opn rs c).foldl (Cn.stepW rs f (B++[c])) (out,0)):=fun h=>Cn.x7o y f h out;generalize Cn.walk rs (f+1) B c out=aA at *;clear y;clear ih;generalize Cn.opn rs c=t at *;go_enter func120,ntmps120;go_wp2_with fail;refine(V o).mono ?_;rintro e w1 ⟨vx,rfl,ae,E⟩;obtain⟨xo,aj,rfl,bL,bM⟩:=ae.sk.shape;have N:=E.size;have qx:((t.length:Int)==0)=false:=b0f f6J;have r:=x.below E
   have aq:Hid (∀j,j<B.length->∃b P,wo=some ⟨b,P,none⟩/\w1.cell? ⟨b,P+j,none⟩=some (.int .i32 (B.getD j 0))):=u0l
   have ar:=O ae;have aw:=O r;have Q:=O E;have M:=O G;clear o ae x r E G;go_wp2;go_loop [11] (fun iv=>∃k:Nat,iv=.int .i64 k/\k<=B.length/\∀j,j<k->B.getD j 0≠c) (fun iv=>B.length-(intOf iv).toNat)
   case atStart=>exact P1z
   case round =>
    obtain⟨k,rfl,hk,aO⟩:=hrel;have l:=O aO;clear aO;by_cases aL:k<B.length
    ·obtain⟨b,P,rfl,X⟩:=V aq k aL;by_cases v:B.getD k 0=c
     ·have az:c∈B:=v3k;obtain rfl:=V S az;rw[v]at X;have qc:(c==c)=true:=beq_self_eq_true _;have Y:x7t w w0.heap.size H ([],72) (.returned (.tuple #[.slice none 0 0,.int .i64 72])) w1:=⟨_,rfl,x2g (V Q) _,.inr ⟨e8Z,rfl⟩⟩;clear aq S l v az ar aw Q M;clear aS IH;exact m7N
     ·have qc:(B.getD k 0==c)=false:=b0f v
      have be:Hid (∀j,j<k+1->B.getD j 0≠c):=fun j hj=>v8z
      clear aq S l v ar aw Q M;clear aS IH;exact T6A
    ·obtain rfl:k=B.length:=by omega
     have aN:¬c∈B:=fun h=>F5C
     obtain rfl:=V aS aN;have bO:((B.length:Int)==16)=false:=b0f f6J;clear S aS l aN aq;have bu:=(V aw);have bF:B.length<=1000:=f6J;have bP:B.length<=15:=f6J;go_wp2_with(at_builtin;refine x5m rfl (.tmp 44) (.tmp 45) rfl _ B rfl rfl bu bF ?_);intro bR w2 ag bh;have m:=ag.row;have bI:=bh.size;clear bu aw;go_wp2_with(at_builtin;refine wpList_append_lies _ rfl (.tmp 47) (.tmp 49) 40 rfl w1.heap.size 21 i0 (.int .i32 0) 1 4 underlying40 hi p i aH rfl e8Z _ _ _ rfl (m.alloc _) ⟨w2.heap.size,0,none⟩ 1 1 [.int .i32 c] rfl rfl (cell_one_new _ _ _) (x0M .i32 _) f6J T7X f6J P8P (w2.heap.size+1) (by simp) ?_);intro g aJ w3 aQ bB Z bC;have aX:Fit .i32 (B++[c]):=Fit.snoc ag.1 (x0V ⟨c0,c1⟩);have bE:Ok .i32 21 w3 w1.heap.size (.slice (some ⟨g,0,none⟩) (B.length+1) aJ) (B++[c]):=Ok.of aX P8P aQ (by simp) (by simp);have bj:Bw w1 w3:=x0p bI m bh bB;have HW:=O (WIn.start (rs:=rs) (f:=f) (V M) aY ((V ar).below bj) (bE.lower N) (x0b (V Q) bj));have bn:f+(B++[c]).length=16:=P8P;have bt:Hid (∀k,k<t.length->Rune (t.getD k 0)):=fun k hk=>x1d (V ar).sk hk;have bm:Hid (∀wr,w.grownBy wr H.ownBlock->Bw w0 wr):=fun wr hg=>A.grown hg hB (fun k hk=>((V M).2.2.lt k hk).1);clear ag bh m aQ bB Z bC aX bE bj ar Q A;have aW:Hid (B.length+1=(B++[c]).length):=(by show B.length+1=_;simp);generalize t.foldl (Cn.stepW rs f (B++[c])) (out,0)=aA at *;generalize B++[c]=af at *;go_wp2;go_loopw[3,13,14] (fun vo iv _ wr=>∃k:Nat,iv=.int .i64 k/\k<=t.length/\WIn w w0.heap.size H (.slice xo t.length aj) (.slice (some ⟨g,0,none⟩) (B.length+1) aJ) t af rs f aA k vo wr) (fun _ iv _ _=>t.length-(intOf iv).toNat)
     case atStart=>exact⟨0,rfl,f6J,V HW⟩
     case round =>
      obtain⟨k2,rfl,bQ,K,aV,aU,ab,aD,ag,bp,s,aP⟩:=hrel;clear HW;by_cases aC:k2<t.length
      ·obtain⟨b,P,ay,he,_,_,aG⟩:=aD.sk.place f6J;obtain⟨rfl,rfl⟩:xo=some ⟨b,P,none⟩/\aj=ay:=(by simpa using he);have X:=aG k2 aC;have KC:=O (V IH af (t.getD k2 0) K wr _ _ bn (V bt k2 aC) (V bm wr s) ag.sk aV aU);have u:Hid (∀w' v',wr.grownBy w' u3.ownBlock->(Cn.walk rs f af (t.getD k2 0) K).2=0->Ok .i32 21 w' w0.heap.size v' (Cn.walk rs f af (t.getD k2 0) K).1->(v'.ownBlock=u3.ownBlock\/∃g,v'.ownBlock=some g/\wr.heap.size<=g)->WIn w w0.heap.size H (.slice (some ⟨b,P,none⟩) t.length aj) (.slice (some ⟨g,0,none⟩) (B.length+1) aJ) t af rs f aA (k2+1) v' w'):=fun w' v' a b c d=>WIn.next aC aU ab aD ag bp s aP a b c d
       have aI:Hid (∀w',wr.grownBy w' u3.ownBlock->(Cn.walk rs f af (t.getD k2 0) K).2≠0->x7t w w0.heap.size H aA (.returned (.tuple #[.slice none 0 0,.int .i64 (Cn.walk rs f af (t.getD k2 0) K).2])) w'):=fun w' hg hn=>by
        rw[Cn.x6x aC,Cn.x1K _ _ _ _ _ hn]at ab;rw[<- ab];exact⟨_,rfl,x1M s hg aP,.inr ⟨hn,rfl⟩⟩
       clear ab aD ag bp s aP aV aU aG he IH bt bm aW M bn;generalize Cn.walk rs f af (t.getD k2 0) K=q at *;generalize t.getD k2 0=z at *;obtain⟨q1,q2⟩:=q;go_wp2_with fail;refine(V KC).mono ?_;rintro e w5 ⟨v5,rfl,aT,h5⟩;clear KC;rcases h5 with⟨bA,ba,aZ⟩ | ⟨aM,rfl⟩
       ·have HN:=O (V u w5 v5 aT bA ba aZ);clear u aI aT ba aZ;obtain rfl:q2=0:=bA;go_wp2;go_round
        case rel=>exact⟨k2+1,g2D,f6J,V HN⟩
        case measure=>exact g7Y
       ·have Y:=O (V aI w5 aT aM);have hq:(q2==0)=false:=b0f aM;clear u aI aT aM;go_wp2;go_ret2;exact V Y
      ·obtain rfl:k2=t.length:=f6J;rw[List.drop_length,List.foldl_nil]at ab;have Y:Hid (x7t w w0.heap.size H aA (.returned (.tuple #[u3,.int .i64 0])) wr):=(by rw[<- ab];exact⟨_,rfl,s,.inl ⟨rfl,aV,aP⟩⟩);clear ab aD ag bp s aP aV aU IH bt bm aW M bn;go_wp2;go_ret2;exact V Y
theorem x6X:z7r:=by
 intro v rs c w N T;have C:=O (y2I w v rs (fun W h=>N.below h) 16 [] c [] w (.slice none 0 0) (.slice none 0 0) rfl T (b0r) (Sk.nil _ _) (Ok.nil _ _ _ _) M7K);have x:=O (Cn.y4h rs 16 [] c []);have t:Hid (∀l,w.grownBy l (Value.slice none 0 0).ownBlock->Bw w l):=fun l h=>(b0r).grown h (l0r _) (fun k e=>by cases e);rw[show Cn.full rs c=Cn.walk rs 16 [] c []from rfl];generalize Cn.walk rs 16 [] c []=q at *;obtain⟨L,g⟩:=q;obtain⟨X,F,rfl,_,_⟩:=N.shape;go_enter func78,ntmps78;go_wp2_with fail;refine(V C).mono ?_;rintro e M ⟨B,rfl,A,H⟩
 have Y:Hid (x7r w (L,g) (.returned (.tuple #[B,.int .i64 g])) M):=by
  rcases H with⟨_,y,_⟩ | ⟨E,rfl⟩
  ·exact⟨_,rfl,y,V t M A⟩
  ·obtain rfl:L=[]:=V x E;exact⟨_,rfl,Ok.nil _ _ _ _,V t M A⟩
 go_wp2;go_ret2;exact V Y
theorem y9R c w(h:Rune c):Calls prog 74 #[.int .i32 c] w fun e w'=>e=.returned (.bool (Cn.jl c))/\w'=w:=by
 obtain⟨Z,D⟩:=h;unfold Cn.jl;by_cases I:4352<=c
 ·by_cases P:c<=4370
  ·rw[d0t ⟨I,P⟩];exact R4R
  ·rw[d0f (fun h=>P h.2)];exact R4R
 ·rw[d0f (fun h=>I h.1)];exact R4R
theorem y9T c w(h:Rune c):Calls prog 75 #[.int .i32 c] w fun e w'=>e=.returned (.bool (Cn.jv c))/\w'=w:=by
 obtain⟨Z,D⟩:=h;unfold Cn.jv;by_cases I:4449<=c
 ·by_cases P:c<=4469
  ·rw[d0t ⟨I,P⟩];exact f6K
  ·rw[d0f (fun h=>P h.2)];exact f6K
 ·rw[d0f (fun h=>I h.1)];exact f6K
theorem y9S c w(h:Rune c):Calls prog 77 #[.int .i32 c] w fun e w'=>e=.returned (.bool (Cn.jt c))/\w'=w:=by
 obtain⟨Z,D⟩:=h;unfold Cn.jt;by_cases I:4520<=c
 ·by_cases P:c<=4546
  ·rw[d0t ⟨I,P⟩];exact v0D
  ·rw[d0f (fun h=>P h.2)];exact v0D
 ·rw[d0f (fun h=>I h.1)];exact v0D
theorem x4t r vt lo hi w(U:RecFit r)(m:I64 lo)(l:I64 hi):Calls prog 73 #[recV r vt,.int .i64 lo,.int .i64 hi] w (x0c w (Cn.covers r lo hi)):=by
 have Q:∀o,Bw w (w.alloc o):=fun o=>(b0r).alloc (l0r _) o;have t:=O Q;obtain⟨x,i⟩:=m;obtain⟨q,M⟩:=l;obtain⟨v,B⟩:=U.lo;obtain⟨y,C⟩:=U.hi;unfold Cn.covers recV;by_cases I:r.lo<=hi
 ·by_cases P:lo<=r.hi
  ·rw[d0t ⟨I,P⟩];exact e6w
  ·rw[d0f (fun h=>P h.2)];exact e6w
 ·rw[d0f (fun h=>I h.1)];exact e6w
theorem y0W v rs c w(N:Rcs w v rs)(T:Rune c):Calls prog 44 #[v,.int .i32 c] w (x0c w (Cn.plain rs c)):=by
 have K:=O (x2E v rs 1 c w N w5o T);obtain⟨o,C⟩:=T;rcases hit_at N 1 c with⟨Z,D⟩ | ⟨k,b,P,M,Z,H,D,rfl,S,y,u,U⟩
 ·have E:Cn.plain rs c=false:=(by unfold Cn.plain;rw[D]);rw[E];rw[Z]at K;obtain⟨R,M,rfl,_,_⟩:=N.shape;go_enter func44,ntmps44;go_wp2_with fail;refine c0m K fun I Q=>?_;have Y:x0c w false (.returned (.bool false)) I:=⟨rfl,Q⟩;go_wp2;go_ret;exact Y
 ·have E:Cn.plain rs c=decide ((rs.getD k Cn.none).kind=1):=(by unfold Cn.plain;rw[D]);rw[E];rw[Z]at K;have a:=O u;have s:=N.1;generalize rs.getD k Cn.none=r at *;by_cases F:r.kind=1
  ·rw[d0t F];go_enter func44,ntmps44;go_wp2_with fail;refine c0m K fun I Q=>?_;have z:=((V a).below Q).kind;rw[F]at z;have Y:x0c w true (.returned (.bool true)) I:=⟨rfl,Q⟩;go_wp2;go_ret;exact Y
  ·rw[d0f F];go_enter func44,ntmps44;go_wp2_with fail;refine c0m K fun I Q=>?_;have z:=((V a).below Q).kind;have L:(r.kind==1)=false:=b0f F;have Y:x0c w false (.returned (.bool false)) I:=⟨rfl,Q⟩;go_wp2;go_ret;exact Y
def dips(l:List Rec)(x:List Int)(j:Nat):Prop:=Cn.cls l (x.getD j 0)≠0/\Cn.cls l (x.getD j 0)<Cn.cls l (x.getD (j-1) 0)
theorem x6u(l:List Rec):∀x:List Int,Cn.fallsA l x=true↔∃j,1<=j/\j<x.length/\dips l x j
 | []=>by simp[Cn.fallsA]
 | [a]=>by
  simp only[Cn.fallsA];constructor
  ·intro h;cases h
  ·rintro⟨j,Z,D,_⟩;simp at D;omega
 | a::b::r=>by
  rw[Cn.fallsA,Bool.or_eq_true,x6u l (b::r),decide_eq_true_iff];constructor
  ·rintro(h | ⟨j,Z,D,R⟩)
   ·exact⟨1,f6J,M7L,by simpa[dips]using h⟩
   ·refine⟨j+1,f6J,by simp at D ⊢;exact f6J,?_⟩;obtain⟨j,rfl⟩:∃i,j=i+1:=⟨j-1,f6J⟩;exact r9Q
  ·rintro⟨j,Z,D,R⟩;obtain⟨j,rfl⟩:∃i,j=i+1:=⟨j-1,f6J⟩
   cases j with
   | zero=>exact .inl r9Q
   | succ j=>exact .inr ⟨j+1,f6J,by simp at D ⊢;exact f6J,r9Q⟩
theorem x8M{l x j}(Z:1<=j)(D:j<x.length)(h:dips l x j):Cn.fallsA l x=true:=(x6u l x).2 ⟨j,Z,D,h⟩
theorem y7V{l x}(h:∀j,1<=j->j<x.length->¬dips l x j):Cn.fallsA l x=false:=by
 rcases hb:Cn.fallsA l x with _ | _
 ·rfl
 ·obtain⟨j,a,b,c⟩:=(x6u l x).1 hb;exact absurd c (h j a b)
theorem z4Q{w v rs}(N:Rcs w v rs) c:I64 (Cn.cls rs c):=by
 rcases hit_at N 2 c with⟨_,D⟩ | ⟨k,_,_,_,_,_,D,_,_,_,_,U⟩
 ·unfold Cn.cls;rw[D];exact⟨e8M,e8M⟩
 ·unfold Cn.cls;rw[D];exact U.n
def FaIn(w:World)(v u:Value)(rs:List Rec)(xs:List Int)(k:Nat)(wr:World):Prop:=Rcs wr v rs/\Sk .i32 wr u xs/\Below w.heap.size w wr/\∀j,1<=j->j<k->j<xs.length->¬dips rs xs j
theorem x5z v u rs xs w(N:Rcs w v rs)(W:Sk .i32 w u xs)(ag:xs.length<=1000000000):Calls prog 79 #[v,u] w (x0c w (Cn.fallsA rs xs)):=by
 have B:Hid (∀j,1<=j->j<xs.length->dips rs xs j->Cn.fallsA rs xs=true):=fun j a b c=>x8M a b c;have l:Hid ((∀j,1<=j->j<xs.length->¬dips rs xs j)->Cn.fallsA rs xs=false):=y7V;generalize Cn.fallsA rs xs=L at *;have HW:Hid (FaIn w v u rs xs 1 w):=⟨N,W,b0r,fun j a b _=>f6J⟩;have s:=N.1;have q:Hid (∀c,I64 (Cn.cls rs c)):=fun c=>z4Q N c;obtain⟨R,M,rfl,_,_⟩:=N.shape;obtain⟨T,U,rfl,i,af⟩:=W.shape;go_enter func79,ntmps79;go_wp2;go_loopw[5,6] (fun S _ wr=>∃k:Nat,S=.int .i64 k/\1<=k/\k<=xs.length+1/\FaIn w (.slice R rs.length M) (.slice T xs.length U) rs xs k wr) (fun S _ _=>xs.length+1-(intOf S).toNat)
 case atStart=>exact⟨1,rfl,f6J,f6J,V HW⟩
 case round =>
  obtain⟨k,rfl,C,ae,f,ab,A,p⟩:=hrel;by_cases H:k<xs.length
  ·obtain⟨b,P,J,he,_,_,Y⟩:=ab.place f6J;obtain⟨rfl,rfl⟩:T=some ⟨b,P,none⟩/\U=J:=M2V;have X:=Y k H;have K1:=O (x3j _ rs (xs.getD k 0) wr f (x1d ab H));have g:Hid (∀I,Bw wr I->Calls prog 121 #[.slice R rs.length M,.int .i32 (xs.getD (k-1) 0)] I (IntB I (Cn.cls rs (xs.getD (k-1) 0)))):=fun I h=>x3j _ rs _ I (f.below h) (x1d ab f6J);have Z:Hid (∀I,Bw wr I->I.cell? ⟨b,P+(k-1),none⟩=some (.int .i32 (xs.getD (k-1) 0))):=fun I h=>(by rw[Below.cell h (x0a (Y (k-1) f6J))];exact Y (k-1) f6J);have m:Hid (dips rs xs k↔Cn.cls rs (xs.getD k 0)≠0/\Cn.cls rs (xs.getD k 0)<Cn.cls rs (xs.getD (k-1) 0)):=Iff.rfl
   have x:Hid (¬dips rs xs k->∀I,Bw wr I->FaIn w (.slice R rs.length M) (.slice (some ⟨b,P,none⟩) xs.length U) rs xs (k+1) I):=fun hd I h=>⟨f.below h,ab.below h,x0b A h,fun j a c d=>by
    rcases Nat.lt_or_ge j k with h | h
    ·exact p j a h d
    ·obtain rfl:j=k:=by omega
     exact hd⟩
   have t:=O A;clear Y f ab A p he l;have n:=O (V B k C H);have K:=V q (xs.getD k 0);have r:=V q (xs.getD (k-1) 0);generalize Cn.cls rs (xs.getD k 0)=d1,Cn.cls rs (xs.getD (k-1) 0)=d0 at *;generalize xs.getD k 0=z1,xs.getD (k-1) 0=z0 at *;obtain⟨aj,am⟩:=K;obtain⟨z,ai⟩:=r;go_wp2_with fail;refine c0m K1 fun I E=>?_;have X:=V Z I E;have G:=O (V g I E);have y:Hid (∀w2,Bw I w2->¬dips rs xs k->FaIn w (.slice R rs.length M) (.slice (some ⟨b,P,none⟩) xs.length U) rs xs (k+1) w2):=fun w2 h hd=>V x hd w2 (x0b E h);have Q:=O (x0b (V t) E);by_cases o:d1=0
   ·have HX:Hid (FaIn w (.slice R rs.length M) (.slice (some ⟨b,P,none⟩) xs.length U) rs xs (k+1) I):=V y I (b0r) (fun h=>((V m).1 h).1 o);subst o;go_wp2;go_round
    case rel=>exact⟨k+1,g2A,f6J,f6J,V HX⟩
    case measure=>exact g7T
   ·have qz:(d1==0)=false:=b0f o;by_cases hd:d1<d0
    ·obtain rfl:=V n ((V m).2 ⟨o,hd⟩);go_wp2_with fail;refine c0m G fun w2 F=>?_;have HF:=O (x0b (V Q) F);go_wp2;go_ret;exact⟨rfl,V HF⟩
    ·have HX:=O (fun w2 h=>V y w2 h (fun h=>hd ((V m).1 h).2));go_wp2_with fail;refine c0m G fun w2 F=>?_;have D:=O (V HX w2 F);go_wp2;go_round
     case rel=>exact⟨k+1,g2A,f6J,f6J,V D⟩
     case measure=>exact g7T
  ·obtain rfl:=V l (fun j a b=>p j a f6J b);have HF:=O A;go_wp2;go_ret;exact⟨rfl,V HF⟩
theorem x0z c w(h:Rune c):Calls prog 116 #[.int .i32 c] w fun e w'=>e=.returned (.bool (Cn.scalar c))/\w'=w:=by
 obtain⟨Z,D⟩:=h;by_cases I:0<=c
 ·by_cases P:c<=55295
  ·exact r8D
  ·by_cases d:57344<=c
   ·by_cases z:c<=1114111
    ·exact r8D
    ·exact I3Y
   ·exact I3Y
 ·have d:¬57344<=c:=f6J;exact I3Y
theorem y6J{x:List Int}{f:Int->Bool}{k}(G:k<x.length)(h:f (x.getD k 0)=false):x.all f=false:=by grind
theorem z1f{x:List Int}{f:Int->Bool}(h:∀j,j<x.length->f (x.getD j 0)=true):x.all f=true:=by
 rw[List.all_eq_true];intro y s;obtain⟨j,K,rfl⟩:=List.getElem_of_mem s;have:=h j K;simpa[List.getD,K]using this
theorem y0Y u xs w(W:Sk .i32 w u xs)(F:xs.length<=1000000000):Calls prog 166 #[u] w fun e w'=>e=.returned (.bool (xs.all Cn.scalar))/\w'=w:=by
 have B:Hid (∀k,k<xs.length->Cn.scalar (xs.getD k 0)=false->xs.all Cn.scalar=false):=fun k=>y6J;have l:Hid ((∀j,j<xs.length->Cn.scalar (xs.getD j 0)=true)->xs.all Cn.scalar=true):=z1f;generalize xs.all Cn.scalar=L at *;have D:=O W;obtain⟨T,U,rfl,i,C⟩:=W.shape;go_enter func166,ntmps166;go_wp2;go_loop [3] (fun S=>∃k:Nat,S=.int .i64 k/\k<=xs.length/\∀j,j<k->Cn.scalar (xs.getD j 0)=true) (fun S=>xs.length-(intOf S).toNat)
 case atStart=>exact⟨0,rfl,f6J,fun j E=>absurd E (Nat.not_lt_zero _)⟩
 case round =>
  obtain⟨k,rfl,G,p⟩:=hrel;by_cases H:k<xs.length
  ·obtain⟨b,P,J,d,_,_,Y⟩:=(V D).place f6J;obtain⟨rfl,rfl⟩:T=some ⟨b,P,none⟩/\U=J:=V6s;have X:=Y k H;have K:=O (x0z (xs.getD k 0) w (x1d (V D) H));have n:=O (V B k H)
   have f:Hid (Cn.scalar (xs.getD k 0)=true->∀j,j<k+1->Cn.scalar (xs.getD j 0)=true):=fun h j E=>by
    rcases Nat.lt_or_ge j k with Z | Z
    ·exact p j Z
    ·grind
   clear Y d D B l p;generalize hy:Cn.scalar (xs.getD k 0)=y at n f K;generalize xs.getD k 0=z at *;go_wp2_with fail;refine(V K).mono ?_;rintro e I ⟨rfl,rfl⟩
   cases y with
   | false =>
    obtain rfl:=V n rfl;exact t6x
   | true =>
    have c:=O (V f rfl);go_wp2;go_round
    case rel=>exact⟨k+1,g2A,f6J,V c⟩
    case measure=>exact g7T
  ·obtain rfl:k=xs.length:=f6J;obtain rfl:=V l p;exact t6x
theorem y2F u xs(a b:Nat) w(W:Sk .i32 w u xs)(S:xs.length<=1000000000):Calls prog 117 #[u,.int .i64 a,.int .i64 b] w fun e w'=>e=.returned (.bool (Cn.list xs a b))/\w'=w:=by
 have K:=O (y0Y u xs w W S);obtain⟨T,U,rfl,i,C⟩:=W.shape;unfold Cn.list;by_cases Z:a<=xs.length
 ·by_cases D:xs.length<=b
  ·rw[d0t ⟨Z,D⟩,Bool.true_and];go_enter func117,ntmps117;exact n4M
  ·rw[d0f (fun h=>D h.2),Bool.false_and];go_enter func117,ntmps117;exact t6u
 ·rw[d0f (fun h=>Z h.1),Bool.false_and];go_enter func117,ntmps117;exact t6u
theorem x9B u w(W:u<18446744073709551616):Calls prog 115 #[.float .f64 u] w fun e w'=>e=.returned (.bool (Cn.weight u))/\w'=w:=by
 have K:=O (x3p u w);unfold Cn.weight;by_cases Z:u<=9218868437227405312
 ·rw[d0t Z];have D:(u:Int)<=9218868437227405312:=f6J;go_enter func115,ntmps115;go_wp2_with fail;refine(V K).mono ?_;rintro e I ⟨rfl,rfl⟩;exact t6v
 ·rw[d0f Z];have D:¬(u:Int)<=9218868437227405312:=f6J;go_enter func115,ntmps115;go_wp2_with fail;refine(V K).mono ?_;rintro e I ⟨rfl,rfl⟩;go_wp2;go_ret;refine⟨?_,rfl⟩;show Ending.returned (.bool (decide ((u:Int)<=9218868437227405312)))=_;rw[d0f f6J]
theorem x1a{b:ByteArray}(h:b.size=0):b=⟨#[]⟩:=by
 obtain⟨⟨l⟩⟩:=b;have:l=[]:=(by simpa[ByteArray.size]using h);subst this;rfl
theorem x1A{b:ByteArray}(h:¬b.size=0):¬b.toList=[]:=fun e=>h (by
 have:b.data.toList.length=0:=I7C;show b.data.size=0;rw[<- Array.length_toList]
 exact this)
def x0h(n0:Int)(m:Nat)(nm ot:ByteArray)(wt:Nat)(nf tof namef otherf wf:Bool):Bool :=
 (nf||decide (n0=0))&&(tof||decide (m=0))&&(namef||decide (nm.size=0))&&(otherf||decide (ot.size=0))&&(wf||decide (wt=0))
theorem y6O kd lo hi n0 ao m cap nm ot wt tof namef otherf wf w:Calls prog 113 #[.agg #[.int .i64 kd,.int .i64 lo,.int .i64 hi,.int .i64 n0,.slice ao m cap,.string nm,.string ot,.float .f64 wt],.bool true,.bool tof,.bool namef,.bool otherf,.bool wf] w (x0c w (x0h n0 m nm ot wt true tof namef otherf wf)):=by
 have Q:∀o,Bw w (w.alloc o):=fun o=>(b0r).alloc (l0r _) o;have t:=O Q;have A:=O (fun w=>x3p wt w)
 cases tof with
 | true =>
  cases namef with
  | true =>
   cases otherf with
   | true =>
    cases wf with
    | true =>
     rw[(I6Y:x0h n0 m nm ot wt true true true true true=true)];exact v6y
    | false =>
     by_cases u:wt=0
     ·subst u;rw[(I6Y:x0h n0 m nm ot 0 true true true true false=true)];exact g3k
     ·have X:((wt:Int)==0)=false:=b0f f6J;rw[(I6Y:x0h n0 m nm ot wt true true true true false=false)];exact g3k
   | false =>
    by_cases s:ot.size=0
    ·obtain rfl:=x1a s
     cases wf with
     | true =>
      rw[(I6Y:x0h n0 m nm ⟨#[]⟩ wt true true true false true=true)];exact v6y
     | false =>
      by_cases u:wt=0
      ·subst u;rw[(I6Y:x0h n0 m nm ⟨#[]⟩ 0 true true true false false=true)];exact g3k
      ·have X:((wt:Int)==0)=false:=b0f f6J;rw[(I6Y:x0h n0 m nm ⟨#[]⟩ wt true true true false false=false)];exact g3k
    ·have D:=x1A s;rw[(I6Y:x0h n0 m nm ot wt true true true false wf=false)];exact v6y
  | false =>
   by_cases U:nm.size=0
   ·obtain rfl:=x1a U
    cases otherf with
    | true =>
     cases wf with
     | true =>
      rw[(I6Y:x0h n0 m ⟨#[]⟩ ot wt true true false true true=true)];exact v6y
     | false =>
      by_cases u:wt=0
      ·subst u;rw[(I6Y:x0h n0 m ⟨#[]⟩ ot 0 true true false true false=true)];exact g3k
      ·have X:((wt:Int)==0)=false:=b0f f6J;rw[(I6Y:x0h n0 m ⟨#[]⟩ ot wt true true false true false=false)];exact g3k
    | false =>
     by_cases s:ot.size=0
     ·obtain rfl:=x1a s
      cases wf with
      | true =>
       rw[(I6Y:x0h n0 m ⟨#[]⟩ ⟨#[]⟩ wt true true false false true=true)];exact v6y
      | false =>
       by_cases u:wt=0
       ·subst u;rw[(I6Y:x0h n0 m ⟨#[]⟩ ⟨#[]⟩ 0 true true false false false=true)];exact g3k
       ·have X:((wt:Int)==0)=false:=b0f f6J;rw[(I6Y:x0h n0 m ⟨#[]⟩ ⟨#[]⟩ wt true true false false false=false)];exact g3k
     ·have D:=x1A s;rw[(I6Y:x0h n0 m ⟨#[]⟩ ot wt true true false false wf=false)];exact v6y
   ·have g:=x1A U;rw[(I6Y:x0h n0 m nm ot wt true true false otherf wf=false)];exact v6y
 | false =>
  by_cases C:m=0
  ·subst C
   cases namef with
   | true =>
    cases otherf with
    | true =>
     cases wf with
     | true =>
      rw[(I6Y:x0h n0 0 nm ot wt true false true true true=true)];exact v6y
     | false =>
      by_cases u:wt=0
      ·subst u;rw[(I6Y:x0h n0 0 nm ot 0 true false true true false=true)];exact g3k
      ·have X:((wt:Int)==0)=false:=b0f f6J;rw[(I6Y:x0h n0 0 nm ot wt true false true true false=false)];exact g3k
    | false =>
     by_cases s:ot.size=0
     ·obtain rfl:=x1a s
      cases wf with
      | true =>
       rw[(I6Y:x0h n0 0 nm ⟨#[]⟩ wt true false true false true=true)];exact v6y
      | false =>
       by_cases u:wt=0
       ·subst u;rw[(I6Y:x0h n0 0 nm ⟨#[]⟩ 0 true false true false false=true)];exact g3k
       ·have X:((wt:Int)==0)=false:=b0f f6J;rw[(I6Y:x0h n0 0 nm ⟨#[]⟩ wt true false true false false=false)];exact g3k
     ·have D:=x1A s;rw[(I6Y:x0h n0 0 nm ot wt true false true false wf=false)];exact v6y
   | false =>
    by_cases U:nm.size=0
    ·obtain rfl:=x1a U
     cases otherf with
     | true =>
      cases wf with
      | true =>
       rw[(I6Y:x0h n0 0 ⟨#[]⟩ ot wt true false false true true=true)];exact v6y
      | false =>
       by_cases u:wt=0
       ·subst u;rw[(I6Y:x0h n0 0 ⟨#[]⟩ ot 0 true false false true false=true)];exact g3k
       ·have X:((wt:Int)==0)=false:=b0f f6J;rw[(I6Y:x0h n0 0 ⟨#[]⟩ ot wt true false false true false=false)];exact g3k
     | false =>
      by_cases s:ot.size=0
      ·obtain rfl:=x1a s
       cases wf with
       | true =>
        rw[(I6Y:x0h n0 0 ⟨#[]⟩ ⟨#[]⟩ wt true false false false true=true)];exact v6y
       | false =>
        by_cases u:wt=0
        ·subst u;rw[(I6Y:x0h n0 0 ⟨#[]⟩ ⟨#[]⟩ 0 true false false false false=true)];exact g3k
        ·have X:((wt:Int)==0)=false:=b0f f6J;rw[(I6Y:x0h n0 0 ⟨#[]⟩ ⟨#[]⟩ wt true false false false false=false)];exact g3k
      ·have D:=x1A s;rw[(I6Y:x0h n0 0 ⟨#[]⟩ ot wt true false false false wf=false)];exact v6y
    ·have g:=x1A U;rw[(I6Y:x0h n0 0 nm ot wt true false false otherf wf=false)];exact v6y
  ·have L:((m:Int)==0)=false:=b0f f6J;rw[(I6Y:x0h n0 m nm ot wt true false namef otherf wf=false)];exact v6y
theorem y4t kd lo hi n0 ao m cap nm ot wt tof namef otherf wf w:Calls prog 113 #[.agg #[.int .i64 kd,.int .i64 lo,.int .i64 hi,.int .i64 n0,.slice ao m cap,.string nm,.string ot,.float .f64 wt],.bool false,.bool tof,.bool namef,.bool otherf,.bool wf] w (x0c w (x0h n0 m nm ot wt false tof namef otherf wf)):=by
 have Q:∀o,Bw w (w.alloc o):=fun o=>(b0r).alloc (l0r _) o;have t:=O Q;have A:=O (fun w=>x3p wt w);by_cases E:n0=0
 ·subst E
  cases tof with
  | true =>
   cases namef with
   | true =>
    cases otherf with
    | true =>
     cases wf with
     | true =>
      rw[(I6Y:x0h 0 m nm ot wt false true true true true=true)];exact v6y
     | false =>
      by_cases u:wt=0
      ·subst u;rw[(I6Y:x0h 0 m nm ot 0 false true true true false=true)];exact g3k
      ·have X:((wt:Int)==0)=false:=b0f f6J;rw[(I6Y:x0h 0 m nm ot wt false true true true false=false)];exact g3k
    | false =>
     by_cases s:ot.size=0
     ·obtain rfl:=x1a s
      cases wf with
      | true =>
       rw[(I6Y:x0h 0 m nm ⟨#[]⟩ wt false true true false true=true)];exact v6y
      | false =>
       by_cases u:wt=0
       ·subst u;rw[(I6Y:x0h 0 m nm ⟨#[]⟩ 0 false true true false false=true)];exact g3k
       ·have X:((wt:Int)==0)=false:=b0f f6J;rw[(I6Y:x0h 0 m nm ⟨#[]⟩ wt false true true false false=false)];exact g3k
     ·have D:=x1A s;rw[(I6Y:x0h 0 m nm ot wt false true true false wf=false)];exact v6y
   | false =>
    by_cases U:nm.size=0
    ·obtain rfl:=x1a U
     cases otherf with
     | true =>
      cases wf with
      | true =>
       rw[(I6Y:x0h 0 m ⟨#[]⟩ ot wt false true false true true=true)];exact v6y
      | false =>
       by_cases u:wt=0
       ·subst u;rw[(I6Y:x0h 0 m ⟨#[]⟩ ot 0 false true false true false=true)];exact g3k
       ·have X:((wt:Int)==0)=false:=b0f f6J;rw[(I6Y:x0h 0 m ⟨#[]⟩ ot wt false true false true false=false)];exact g3k
     | false =>
      by_cases s:ot.size=0
      ·obtain rfl:=x1a s
       cases wf with
       | true =>
        rw[(I6Y:x0h 0 m ⟨#[]⟩ ⟨#[]⟩ wt false true false false true=true)];exact v6y
       | false =>
        by_cases u:wt=0
        ·subst u;rw[(I6Y:x0h 0 m ⟨#[]⟩ ⟨#[]⟩ 0 false true false false false=true)];exact g3k
        ·have X:((wt:Int)==0)=false:=b0f f6J;rw[(I6Y:x0h 0 m ⟨#[]⟩ ⟨#[]⟩ wt false true false false false=false)];exact g3k
      ·have D:=x1A s;rw[(I6Y:x0h 0 m ⟨#[]⟩ ot wt false true false false wf=false)];exact v6y
    ·have g:=x1A U;rw[(I6Y:x0h 0 m nm ot wt false true false otherf wf=false)];exact v6y
  | false =>
   by_cases C:m=0
   ·subst C
    cases namef with
    | true =>
     cases otherf with
     | true =>
      cases wf with
      | true =>
       rw[(I6Y:x0h 0 0 nm ot wt false false true true true=true)];exact v6y
      | false =>
       by_cases u:wt=0
       ·subst u;rw[(I6Y:x0h 0 0 nm ot 0 false false true true false=true)];exact g3k
       ·have X:((wt:Int)==0)=false:=b0f f6J;rw[(I6Y:x0h 0 0 nm ot wt false false true true false=false)];exact g3k
     | false =>
      by_cases s:ot.size=0
      ·obtain rfl:=x1a s
       cases wf with
       | true =>
        rw[(I6Y:x0h 0 0 nm ⟨#[]⟩ wt false false true false true=true)];exact v6y
       | false =>
        by_cases u:wt=0
        ·subst u;rw[(I6Y:x0h 0 0 nm ⟨#[]⟩ 0 false false true false false=true)];exact g3k
        ·have X:((wt:Int)==0)=false:=b0f f6J;rw[(I6Y:x0h 0 0 nm ⟨#[]⟩ wt false false true false false=false)];exact g3k
      ·have D:=x1A s;rw[(I6Y:x0h 0 0 nm ot wt false false true false wf=false)];exact v6y
    | false =>
     by_cases U:nm.size=0
     ·obtain rfl:=x1a U
      cases otherf with
      | true =>
       cases wf with
       | true =>
        rw[(I6Y:x0h 0 0 ⟨#[]⟩ ot wt false false false true true=true)];exact v6y
       | false =>
        by_cases u:wt=0
        ·subst u;rw[(I6Y:x0h 0 0 ⟨#[]⟩ ot 0 false false false true false=true)];exact g3k
        ·have X:((wt:Int)==0)=false:=b0f f6J;rw[(I6Y:x0h 0 0 ⟨#[]⟩ ot wt false false false true false=false)];exact g3k
      | false =>
       by_cases s:ot.size=0
       ·obtain rfl:=x1a s
        cases wf with
        | true =>
         rw[(I6Y:x0h 0 0 ⟨#[]⟩ ⟨#[]⟩ wt false false false false true=true)];exact v6y
        | false =>
         by_cases u:wt=0
         ·subst u;rw[(I6Y:x0h 0 0 ⟨#[]⟩ ⟨#[]⟩ 0 false false false false false=true)];exact g3k
         ·have X:((wt:Int)==0)=false:=b0f f6J;rw[(I6Y:x0h 0 0 ⟨#[]⟩ ⟨#[]⟩ wt false false false false false=false)];exact g3k
       ·have D:=x1A s;rw[(I6Y:x0h 0 0 ⟨#[]⟩ ot wt false false false false wf=false)];exact v6y
     ·have g:=x1A U;rw[(I6Y:x0h 0 0 nm ot wt false false false otherf wf=false)];exact v6y
   ·have L:((m:Int)==0)=false:=b0f f6J;rw[(I6Y:x0h 0 m nm ot wt false false namef otherf wf=false)];exact v6y
 ·have R:(n0==0)=false:=b0f E;rw[(I6Y:x0h n0 m nm ot wt false tof namef otherf wf=false)];exact v6y
theorem y2E r vt nf tof namef otherf wf w(N:Sk .i32 w vt r.to):Calls prog 113 #[recV r vt,.bool nf,.bool tof,.bool namef,.bool otherf,.bool wf] w (x0c w (Cn.bare r nf tof namef otherf wf)):=by
 obtain⟨R,M,rfl,_,_⟩:=N.shape
 cases nf with
 | true=>exact y6O _ _ _ _ _ _ _ _ _ _ _ _ _ _ _
 | false=>exact y4t _ _ _ _ _ _ _ _ _ _ _ _ _ _ _
