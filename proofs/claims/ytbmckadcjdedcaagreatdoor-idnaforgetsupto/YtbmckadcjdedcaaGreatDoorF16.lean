import Derived.Test.YtbmckadcjdedcaaGreatDoorF3
import Derived.Deep.AppendLies
import Derived.Laws.AppendOwnNone
set_option maxHeartbeats 8000000
set_option maxRecDepth 8000
namespace Go.Proofs.YtbmckadcjdedcaaGreatDoor
open Go.Proofs.Tryz
open Go.RowKit
section
variable{p:Prop}
theorem I8X(h:p:=by go_wp2;go_ret;exact⟨rfl,V B _⟩):p:=h
theorem I7C(h:p:=by rw[<- ByteArray.toList_eq,e];rfl):p:=h
theorem f6s(h:p:=by go_enter func113,ntmps113;go_wp2_with fail;refine(V A _).mono ?_;rintro e Q ⟨rfl,rfl⟩;go_wp2;go_ret;exact⟨rfl,V B _⟩):p:=h
theorem r8B(h:p:=by go_enter func73,ntmps73;exact I8X):p:=h
theorem R4R(h:p:=by go_enter func74,ntmps74;exact t6u):p:=h
theorem f6K(h:p:=by go_enter func75,ntmps75;exact t6u):p:=h
theorem v0D(h:p:=by go_enter func77,ntmps77;exact t6u):p:=h
theorem I6Y(h:p:=by simp[x0h, *]<;>rfl):p:=h
theorem t6w(h:p:=by go_wp2;go_ret;exact⟨rfl,rfl⟩):p:=h
theorem r9Q(h:p:=by simpa[dips]using R):p:=h
theorem U3c(h:p:=by go_enter func113,ntmps113;go_wp2;go_ret;exact⟨rfl,V B _⟩):p:=h
theorem m4T(h:p:=by
 obtain rfl:=V L aI;clear L K;go_wp2_with(at_builtin;refine wpList_append_lies _ rfl (.tmp 21) (.tmp 23) 40 rfl w0.heap.size 21 i0 (.int .i32 0) 1 4 underlying40 hi aF p t rfl e8Y _ _ _ rfl (D.alloc _) ⟨w1.heap.size,0,none⟩ 1 1 [.int .i32 c] rfl rfl (cell_one_new _ _ _) (x0J .i32 _) f6J T7X f6J P8P (w1.heap.size+1) M7O ?_)
 all_goals try(go_ret2;exact⟨_,rfl,x2i E _,.inr ⟨e8Y,rfl⟩⟩)
 intro g F w9 x C m _;have o:w.grownBy w9 I.ownBlock:=x1M (x2i (E.alloc aw _) _) C (.inl rfl);have J:Ok .i32 21 w9 w0.heap.size (.slice (some ⟨g,0,none⟩) (out.length+1) F) (out++[c]):=Ok.of (fun z hz=>g0m) P8P x M7O M7O
 have Y:(Value.slice (some ⟨g,0,none⟩) (out.length+1) F).ownBlock=I.ownBlock\/∃g',(Value.slice (some ⟨g,0,none⟩) (out.length+1) F).ownBlock=some g'/\w.heap.size<=g':=W6S
 have T:x7v w w0.heap.size I ([],2) (.returned (.tuple #[.slice none 0 0,.int .i64 2])) w9:=⟨_,rfl,o,.inr ⟨e8Y,rfl⟩⟩;clear x C m J Y o D r G E A;go_wp2;go_ret2;exact T):p:=h
theorem v8s(h:p:=by have U:Cn.scalar c=false:=(by unfold Cn.scalar;exact P8P);rw[U];go_enter func116,ntmps116;exact t6w):p:=h
theorem P0C(h:p:=by
 obtain rfl:=V K aI;clear L K;go_wp2_with(at_builtin;refine wpList_append_lies _ rfl (.tmp 21) (.tmp 23) 40 rfl w0.heap.size 21 i0 (.int .i32 0) 1 4 underlying40 hi aF p t rfl e8Y _ _ _ rfl (D.alloc _) ⟨w1.heap.size,0,none⟩ 1 1 [.int .i32 c] rfl rfl (cell_one_new _ _ _) (x0J .i32 _) f6J T7X f6J P8P (w1.heap.size+1) (by simp) ?_);intro g F w9 x C m _;have o:w.grownBy w9 I.ownBlock:=x1M (x2i (E.alloc aw _) _) C (.inl rfl);have J:Ok .i32 21 w9 w0.heap.size (.slice (some ⟨g,0,none⟩) (out.length+1) F) (out++[c]):=Ok.of (fun z hz=>g0m) P8P x (by simp) (by simp)
 have Y:(Value.slice (some ⟨g,0,none⟩) (out.length+1) F).ownBlock=I.ownBlock\/∃g',(Value.slice (some ⟨g,0,none⟩) (out.length+1) F).ownBlock=some g'/\w.heap.size<=g':=W6S
 have T:x7v w w0.heap.size I (out++[c],0) (.returned (.tuple #[.slice (some ⟨g,0,none⟩) (out.length+1) F,.int .i64 0])) w9:=⟨_,rfl,o,.inl ⟨rfl,J,Y⟩⟩;clear x C m J Y o D r G E A;go_wp2;go_ret2;exact T):p:=h
theorem I0c(h:p:=by have U:Cn.scalar c=true:=(by unfold Cn.scalar;exact P8P);rw[U];go_enter func116,ntmps116;exact t6w):p:=h
theorem g0m(h:p:=by rcases List.mem_append.1 hz with hz|hz;exact G.1 z hz;(simp at hz;subst hz;simp[IntKind.min,IntKind.max,IntKind.signed,IntKind.bits];omega)):p:=h
theorem n8b(h:p:=by intro j hj;obtain⟨b,P,ar,he,_,_,aC⟩:=v.place f6J;obtain⟨rfl,rfl⟩:wo=some ⟨b,P,none⟩/\aP=ar:=M2T;exact⟨b,P,rfl,aC j hj⟩):p:=h
theorem W6S(h:p:=by
 rcases m with h|h
 ·exact .inl h.symm
 ·exact .inr ⟨g,rfl,f6J⟩):p:=h
theorem M3P(h:p:=by
 generalize B.getD k 0=z at *;go_wp2;go_round
 case rel=>exact⟨k+1,g2D,f6J,V aZ⟩
 case measure=>exact g7Y):p:=h
theorem w6E(h:p:=by go_wp2;go_ret2;exact T):p:=h
theorem F5C(h:p:=by obtain⟨j,hj,he⟩:=List.getElem_of_mem h;exact V l j hj (by simp[List.getD,hj,he])):p:=h
theorem m7A(h:p:=by
 rcases Nat.lt_or_ge j k with h|h
 ·exact V l j h
 ·obtain rfl:j=k:=f6J;exact ae):p:=h
theorem P1z(h:p:=by exact⟨0,rfl,f6J,fun j hj=>absurd hj (Nat.not_lt_zero _)⟩):p:=h
theorem p6H(h:p:=by rw[<- ae];simp[List.getD,aJ]):p:=h
end
theorem x2i{w w1}(h:Bw w w1) r:w.grownBy w1 r:=⟨h.os,h.tape,h.output,h.size,fun k G _=>h.block k G⟩
theorem x1M{w w1 w2:World}{r r'}(h:w.grownBy w1 r)(k:w1.grownBy w2 r')(hr:r'=r\/∃g,r'=some g/\w.heap.size<=g):w.grownBy w2 r:=by
 refine⟨k.os.trans h.os,k.tape.trans h.tape,k.output.trans h.output,Nat.le_trans h.size k.size,fun x J F=>?_⟩;rw[k.block x (Nat.lt_of_lt_of_le J h.size) ?_,h.block x J F];rcases hr with rfl|⟨g,rfl,C⟩
 ·exact F
 ·grind
theorem cell_one_new(w:World) e v:∀j u,[v][j]?=some u->(w.alloc (.cells #[v] e)).cell? ((⟨w.heap.size,0,none⟩:Addr).add j)=some u:=by
 intro j u K
 match j,K with
 | 0,K=>simp at K;subst K;simp[World.cell?,World.alloc,Addr.add,-World.alloc_eq]
 | j+1,K=>simp at K
theorem x5j{w ops rest o}{a Q}(T:o.guard=none)(s x:Operand)
  (y:o.op=.call { callee:=.builtin .append,args:=#[s,x],argTypes:=#[40,40] }) v zs (U:a.eval s=.slice none 0 0) (J:a.eval x=v) (N:Sk .i32 w v zs) (S:zs.length<=1000)
  (h:∀v' w',Ok .i32 21 w' w.heap.size v' zs->Bw w w'->wpList prog ops Q rest (a.put o.dst v') w'):wpList prog ops Q (o::rest) a w:=by
 obtain⟨i,hi,f,p,t⟩:=info_parts Tryz.info21;rcases N.2.src with⟨E,rfl⟩|⟨r,M,rfl,B⟩
 ·obtain rfl:zs=[]:=f3L;exact wpList_append_own_none T s x 40 y w.heap.size 21 i 1 underlying40 hi _ _ _ U (World.ownsRow_nil _ _ _ _) J (h _ _ (Ok.nil _ _ _ _) (b0r))
 ·refine wpList_append_own _ T s x 40 y w.heap.size 21 i (.int .i32 0) 1 4 underlying40 hi f p t rfl e8P _ _ _ U (World.ownsRow_nil _ _ _ _) r _ M (zs.map (Value.int .i32)) J M7M B (x0S .i32 zs) (by simp[maxLen];exact f6J) P8P (l0r _) ?_;intro v' w' L C _;exact h v' w' (Ok.of N.1 f6J L M7M M7M) (x1H (e:=21) (l0r _) (World.ownsRow_nil _ _ _ _) (b0r) C)
def x7v(w:World)(B:Nat)(vo:Value)(r:List Int×Int)(e:Ending)(w':World):Prop :=
 ∃v,e=.returned (.tuple #[v,.int .i64 r.2])/\w.grownBy w' vo.ownBlock/\((r.2=0/\Ok .i32 21 w' B v r.1/\(v.ownBlock=vo.ownBlock\/∃g,v.ownBlock=some g/\w.heap.size<=g))\/(r.2≠0/\v=.slice none 0 0))
def WIn(w:World)(B:Nat)(vout vx vd:Value)(xs down:List Int)(rs:List Rec)(f:Nat)(res:List Int×Int)(k:Nat)(vo:Value)(wr:World):Prop :=
 ∃outk,Ok .i32 21 wr B vo outk/\outk.length<=32/\(xs.drop k).foldl (Cn.stepW rs f down) (outk,0)=res/\Ok .i32 21 wr w.heap.size vx xs/\Ok .i32 21 wr w.heap.size vd down /\
  (∀g,vo.ownBlock=some g->vx.ownBlock≠some g/\vd.ownBlock≠some g)/\w.grownBy wr vout.ownBlock/\(vo.ownBlock=vout.ownBlock\/∃g,vo.ownBlock=some g/\w.heap.size<=g)
theorem WIn.next{w wr w' B}{I H L n v':Value}{xs down rs f res}{k outk}(G:k<xs.length)
  (D:outk.length<=32) (R:(xs.drop k).foldl (Cn.stepW rs f down) (outk,0)=res) (J:Ok .i32 21 wr w.heap.size H xs) (hd:Ok .i32 21 wr w.heap.size L down)
  (F:∀g,n.ownBlock=some g->H.ownBlock≠some g/\L.ownBlock≠some g) (C:w.grownBy wr I.ownBlock) (N:n.ownBlock=I.ownBlock\/∃g,n.ownBlock=some g/\w.heap.size<=g)
  (m:wr.grownBy w' n.ownBlock) (M:(Cn.walk rs f down (xs.getD k 0) outk).2=0) (X:Ok .i32 21 w' B v' (Cn.walk rs f down (xs.getD k 0) outk).1) (E:v'.ownBlock=n.ownBlock\/∃g,v'.ownBlock=some g/\wr.heap.size<=g) :
  WIn w B I H L xs down rs f res (k+1) v' w':=by
 have A:∀g,g<wr.heap.size->n.ownBlock≠some g->w'.heap[g]?=wr.heap[g]?:=fun g a b=>m.block g a (fun e=>b e.symm);refine⟨(Cn.walk rs f down (xs.getD k 0) outk).1,X,Cn.x9U _ _ _ _ _ D,?_,J.keep (fun g h=>A g (J.2.2.lt g h).2 (fun e=>(F g e).1 h)),hd.keep (fun g h=>A g (hd.2.2.lt g h).2 (fun e=>(F g e).2 h)),fun g h=>?_,x1M C m ?_,?_⟩
 ·rw[<- R,Cn.x6v G];congr 1;exact Prod.ext rfl M.symm
 ·rcases E with e|⟨S,e,Q⟩
  ·exact F g (e ▸ h)
  ·rw[e]at h;obtain rfl:=Option.some.inj h;exact⟨fun K=>by have:=(J.2.2.lt S K).2;exact f6J,fun K=>by have:=(hd.2.2.lt S K).2;exact f6J⟩
 ·exact N
 ·rcases E with e|⟨S,e,Q⟩
  ·grind
  ·exact .inr ⟨S,e,Nat.le_trans C.size Q⟩
theorem WIn.start{w wr B vout vx vd xs down out}{rs f}(y:Ok .i32 21 w B vout out)(S:out.length<=32)(J:Ok .i32 21 wr w.heap.size vx xs)(hd:Ok .i32 21 wr w.heap.size vd down)(Y:Bw w wr) :
  WIn w B vout vx vd xs down rs f (xs.foldl (Cn.stepW rs f down) (out,0)) 0 vout wr:=by
 refine⟨out,y.below Y,S,s4M,J,hd,fun g h=>?_,x2i Y _,.inl rfl⟩;have H:=(y.2.2.lt g h).2;exact⟨fun e=>by have:=(J.2.2.lt g e).1;exact f6J,fun e=>by have:=(hd.2.2.lt g e).1;exact f6J⟩
theorem y2Q w0 vl rs(hR:∀W,Bw w0 W->Rcs W vl rs):∀(f:Nat) (B:List Int) (c:Int) (out:List Int) (w:World) (aB I:Value),f+B.length=16->Rune c->Bw w0 w->Sk .i32 w aB B->Ok .i32 21 w w0.heap.size I out->out.length<=32 ->
  Calls prog 120 #[vl,.int .i32 c,aB,I] w (x7v w w0.heap.size I (Cn.walk rs f B c out)):=by
 intro f
 induction f with
 | zero =>
  intro B c out w aB I bE hc A ab G aW;obtain⟨i0,hi,aF,p,t⟩:=info_parts Tryz.info21;have hB:=A.size;have K1:=O (x2I vl rs c w (hR w A) hc);have bF:=(hR w A).1;obtain⟨lo,bB,rfl,_,_⟩:=(hR w A).shape;obtain⟨c0,c1⟩:=hc;obtain⟨wo,aP,rfl,bH,bI⟩:=ab.shape;by_cases i:Cn.opn rs c=[]
  ·have az:=Cn.x0Y i 0 B out;rw[i]at K1;have L:Hid (32<=out.length->Cn.walk rs 0 B c out=([],2)):=fun h=>(by rw[az,if_pos h]);have K:Hid (¬32<=out.length->Cn.walk rs 0 B c out=(out++[c],0)):=fun h=>(by rw[az,if_neg h]);generalize Cn.walk rs 0 B c out=ay at *;clear az;go_enter func120,ntmps120;go_wp2_with fail;refine(V K1).mono ?_;rintro e w1 ⟨vx,rfl,af,E⟩;obtain⟨xo,Z,rfl,_,_⟩:=af.sk.shape;have r:=G.below E;have D:=r.row;have M:([]:List Int).length=0:=rfl;rw[M];have aw:=E.size;clear K1 af ab M;by_cases aI:32<=out.length
   ·exact m4T
   ·exact P0C
  ·have bL:0<(Cn.opn rs c).length:=List.length_pos_iff.2 i;have S:Hid (c∈B->Cn.walk rs 0 B c out=([],72)):=fun h=>Cn.x2v i 0 h out;have Q:Hid (¬c∈B->Cn.walk rs 0 B c out=([],73)):=fun h=>Cn.x7p i h out;generalize Cn.walk rs 0 B c out=ay at *;clear i;generalize Cn.opn rs c=xs at *;go_enter func120,ntmps120;go_wp2_with fail;refine(V K1).mono ?_;rintro e w1 ⟨vx,rfl,af,E⟩;obtain⟨xo,Z,rfl,bJ,bK⟩:=af.sk.shape;have aw:=E.size;have qx:((xs.length:Int)==0)=false:=b0f f6J;have v:=ab.below E
   have aj:Hid (∀j,j<B.length->∃b P,wo=some ⟨b,P,none⟩/\w1.cell? ⟨b,P+j,none⟩=some (.int .i32 (B.getD j 0))):=n8b
   have am:=O af;have aq:=O v;have U:=O E;have N:=O G;clear K1 af ab v E G;go_wp2;go_loop [11] (fun iv=>∃k:Nat,iv=.int .i64 k/\k<=B.length/\∀j,j<k->B.getD j 0≠c) (fun iv=>B.length-(intOf iv).toNat)
   case atStart=>exact P1z
   case round =>
    obtain⟨k,rfl,hk,aM⟩:=hrel;have l:=O aM;clear aM;by_cases aJ:k<B.length
    ·obtain⟨b,P,rfl,y⟩:=V aj k aJ;by_cases ae:B.getD k 0=c
     ·have n:c∈B:=p6H;obtain rfl:=V S n;rw[ae]at y;have qc:(c==c)=true:=beq_self_eq_true _;have T:x7v w w0.heap.size I ([],72) (.returned (.tuple #[.slice none 0 0,.int .i64 72])) w1:=⟨_,rfl,x2i (V U) _,.inr ⟨e8Y,rfl⟩⟩;clear aj S l ae n am aq U N;clear Q;exact w6E
     ·have qc:(B.getD k 0==c)=false:=b0f ae
      have aZ:Hid (∀j,j<k+1->B.getD j 0≠c):=fun j hj=>m7A
      clear aj S l ae am aq U N;clear Q;exact M3P
    ·obtain rfl:k=B.length:=by omega
     have aL:¬c∈B:=fun h=>F5C
     obtain rfl:=V Q aL;have bt:B.length=16:=f6J;have bM:((B.length:Int)==16)=true:=(by rw[bt];rfl);have T:x7v w w0.heap.size I ([],73) (.returned (.tuple #[.slice none 0 0,.int .i64 73])) w1:=⟨_,rfl,x2i (V U) _,.inr ⟨e8Y,rfl⟩⟩;clear aj S l Q aL am aq U N bt;exact w6E
 | succ f ih =>
  intro B c out w aB I bE hc A ab G aW;obtain⟨i0,hi,aF,p,t⟩:=info_parts Tryz.info21;have hB:=A.size;have K1:=O (x2I vl rs c w (hR w A) hc);have bF:=(hR w A).1;obtain⟨lo,bB,rfl,_,_⟩:=(hR w A).shape;have IH:=O ih;obtain⟨c0,c1⟩:=hc;obtain⟨wo,aP,rfl,bH,bI⟩:=ab.shape;by_cases i:Cn.opn rs c=[]
  ·have az:=Cn.x0Y i (f+1) B out;rw[i]at K1;have L:Hid (32<=out.length->Cn.walk rs (f+1) B c out=([],2)):=fun h=>(by rw[az,if_pos h]);have K:Hid (¬32<=out.length->Cn.walk rs (f+1) B c out=(out++[c],0)):=fun h=>(by rw[az,if_neg h]);generalize Cn.walk rs (f+1) B c out=ay at *;clear az;clear IH ih;go_enter func120,ntmps120;go_wp2_with fail;refine(V K1).mono ?_;rintro e w1 ⟨vx,rfl,af,E⟩;obtain⟨xo,Z,rfl,_,_⟩:=af.sk.shape;have r:=G.below E;have D:=r.row;have M:([]:List Int).length=0:=rfl;rw[M];have aw:=E.size;clear K1 af ab M;by_cases aI:32<=out.length
   ·exact m4T
   ·exact P0C
  ·have bL:0<(Cn.opn rs c).length:=List.length_pos_iff.2 i;have S:Hid (c∈B->Cn.walk rs (f+1) B c out=([],72)):=fun h=>Cn.x2v i (f+1) h out;have aQ:Hid (¬c∈B->Cn.walk rs (f+1) B c out=(Cn.opn rs c).foldl (Cn.stepW rs f (B++[c])) (out,0)):=fun h=>Cn.x7q i f h out;generalize Cn.walk rs (f+1) B c out=ay at *;clear i;clear ih;generalize Cn.opn rs c=xs at *;go_enter func120,ntmps120;go_wp2_with fail;refine(V K1).mono ?_;rintro e w1 ⟨vx,rfl,af,E⟩;obtain⟨xo,Z,rfl,bJ,bK⟩:=af.sk.shape;have aw:=E.size;have qx:((xs.length:Int)==0)=false:=b0f f6J;have v:=ab.below E
   have aj:Hid (∀j,j<B.length->∃b P,wo=some ⟨b,P,none⟩/\w1.cell? ⟨b,P+j,none⟩=some (.int .i32 (B.getD j 0))):=n8b
   have am:=O af;have aq:=O v;have U:=O E;have N:=O G;clear K1 af ab v E G;go_wp2;go_loop [11] (fun iv=>∃k:Nat,iv=.int .i64 k/\k<=B.length/\∀j,j<k->B.getD j 0≠c) (fun iv=>B.length-(intOf iv).toNat)
   case atStart=>exact P1z
   case round =>
    obtain⟨k,rfl,hk,aM⟩:=hrel;have l:=O aM;clear aM;by_cases aJ:k<B.length
    ·obtain⟨b,P,rfl,y⟩:=V aj k aJ;by_cases ae:B.getD k 0=c
     ·have n:c∈B:=p6H;obtain rfl:=V S n;rw[ae]at y;have qc:(c==c)=true:=beq_self_eq_true _;have T:x7v w w0.heap.size I ([],72) (.returned (.tuple #[.slice none 0 0,.int .i64 72])) w1:=⟨_,rfl,x2i (V U) _,.inr ⟨e8Y,rfl⟩⟩;clear aj S l ae n am aq U N;clear aQ IH;exact w6E
     ·have qc:(B.getD k 0==c)=false:=b0f ae
      have aZ:Hid (∀j,j<k+1->B.getD j 0≠c):=fun j hj=>m7A
      clear aj S l ae am aq U N;clear aQ IH;exact M3P
    ·obtain rfl:k=B.length:=by omega
     have aL:¬c∈B:=fun h=>F5C
     obtain rfl:=V aQ aL;have bM:((B.length:Int)==16)=false:=b0f f6J;clear S aQ l aL aj;have bp:=(V aq);have bD:B.length<=1000:=f6J;have bN:B.length<=15:=f6J;go_wp2_with(at_builtin;refine x5j rfl (.tmp 44) (.tmp 45) rfl _ B rfl rfl bp bD ?_);intro bP w2 ag ba;have s:=ag.row;have bG:=ba.size;clear bp aq;go_wp2_with(at_builtin;refine wpList_append_lies _ rfl (.tmp 47) (.tmp 49) 40 rfl w1.heap.size 21 i0 (.int .i32 0) 1 4 underlying40 hi aF p t rfl e8Y _ _ _ rfl (s.alloc _) ⟨w2.heap.size,0,none⟩ 1 1 [.int .i32 c] rfl rfl (cell_one_new _ _ _) (x0J .i32 _) f6J T7X f6J P8P (w2.heap.size+1) (by simp) ?_);intro g aH w3 aO bw m bA;have aV:Fit .i32 (B++[c]):=Fit.snoc ag.1 (x0T ⟨c0,c1⟩);have bC:Ok .i32 21 w3 w1.heap.size (.slice (some ⟨g,0,none⟩) (B.length+1) aH) (B++[c]):=Ok.of aV P8P aO (by simp) (by simp);have be:Bw w1 w3:=x0p bG s ba bw;have HW:=O (WIn.start (rs:=rs) (f:=f) (V N) aW ((V am).below be) (bC.lower aw) (x0b (V U) be));have bj:f+(B++[c]).length=16:=P8P;have bn:Hid (∀k,k<xs.length->Rune (xs.getD k 0)):=fun k hk=>x1c (V am).sk hk;have bh:Hid (∀wr,w.grownBy wr I.ownBlock->Bw w0 wr):=fun wr hg=>A.grown hg hB (fun k hk=>((V N).2.2.lt k hk).1);clear ag ba s aO bw m bA aV bC be am U A;have aU:Hid (B.length+1=(B++[c]).length):=(by show B.length+1=_;simp);generalize xs.foldl (Cn.stepW rs f (B++[c])) (out,0)=ay at *;generalize B++[c]=H at *;go_wp2;go_loopw[3,13,14] (fun vo iv _ wr=>∃k:Nat,iv=.int .i64 k/\k<=xs.length/\WIn w w0.heap.size I (.slice xo xs.length Z) (.slice (some ⟨g,0,none⟩) (B.length+1) aH) xs H rs f ay k vo wr) (fun _ iv _ _=>xs.length-(intOf iv).toNat)
     case atStart=>exact⟨0,rfl,f6J,V HW⟩
     case round =>
      obtain⟨k2,rfl,bO,ai,aT,aS,R,aA,ag,bm,aD,aN⟩:=hrel;clear HW;by_cases X:k2<xs.length
      ·obtain⟨b,P,ar,he,_,_,aC⟩:=aA.sk.place f6J;obtain⟨rfl,rfl⟩:xo=some ⟨b,P,none⟩/\Z=ar:=(by simpa using he);have y:=aC k2 X;have KC:=O (V IH H (xs.getD k2 0) ai wr _ _ bj (V bn k2 X) (V bh wr aD) ag.sk aT aS);have u:Hid (∀w' v',wr.grownBy w' u3.ownBlock->(Cn.walk rs f H (xs.getD k2 0) ai).2=0->Ok .i32 21 w' w0.heap.size v' (Cn.walk rs f H (xs.getD k2 0) ai).1->(v'.ownBlock=u3.ownBlock\/∃g,v'.ownBlock=some g/\wr.heap.size<=g)->WIn w w0.heap.size I (.slice (some ⟨b,P,none⟩) xs.length Z) (.slice (some ⟨g,0,none⟩) (B.length+1) aH) xs H rs f ay (k2+1) v' w'):=fun w' v' a b c d=>WIn.next X aS R aA ag bm aD aN a b c d
       have aG:Hid (∀w',wr.grownBy w' u3.ownBlock->(Cn.walk rs f H (xs.getD k2 0) ai).2≠0->x7v w w0.heap.size I ay (.returned (.tuple #[.slice none 0 0,.int .i64 (Cn.walk rs f H (xs.getD k2 0) ai).2])) w'):=fun w' hg hn=>by
        rw[Cn.x6v X,Cn.x1K _ _ _ _ _ hn]at R;rw[<- R];exact⟨_,rfl,x1M aD hg aN,.inr ⟨hn,rfl⟩⟩
       clear R aA ag bm aD aN aT aS aC he IH bn bh aU N bj;generalize Cn.walk rs f H (xs.getD k2 0) ai=q at *;generalize xs.getD k2 0=z at *;obtain⟨q1,q2⟩:=q;go_wp2_with fail;refine(V KC).mono ?_;rintro e w5 ⟨v5,rfl,aR,h5⟩;clear KC;rcases h5 with⟨bu,aY,aX⟩|⟨aK,rfl⟩
       ·have HN:=O (V u w5 v5 aR bu aY aX);clear u aG aR aY aX;obtain rfl:q2=0:=bu;go_wp2;go_round
        case rel=>exact⟨k2+1,g2D,f6J,V HN⟩
        case measure=>exact g7Y
       ·have T:=O (V aG w5 aR aK);have hq:(q2==0)=false:=b0f aK;clear u aG aR aK;go_wp2;go_ret2;exact V T
      ·obtain rfl:k2=xs.length:=f6J;rw[List.drop_length,List.foldl_nil]at R;have T:Hid (x7v w w0.heap.size I ay (.returned (.tuple #[u3,.int .i64 0])) wr):=(by rw[<- R];exact⟨_,rfl,aD,.inl ⟨rfl,aT,aN⟩⟩);clear R aA ag bm aD aN aT aS IH bn bh aU N bj;go_wp2;go_ret2;exact V T
theorem x6X:z7s:=by
 intro v rs c w N I;have A:=O (y2Q w v rs (fun W h=>N.below h) 16 [] c [] w (.slice none 0 0) (.slice none 0 0) rfl I (b0r) (Sk.nil _ _) (Ok.nil _ _ _ _) M7K);have L:=O (Cn.y4t rs 16 [] c []);have B:Hid (∀l,w.grownBy l (Value.slice none 0 0).ownBlock->Bw w l):=fun l h=>(b0r).grown h (l0r _) (fun k e=>by cases e);rw[show Cn.full rs c=Cn.walk rs 16 [] c []from rfl];generalize Cn.walk rs 16 [] c []=q at *;obtain⟨C,x⟩:=q;obtain⟨n,J,rfl,_,_⟩:=N.shape;go_enter func78,ntmps78;go_wp2_with fail;refine(V A).mono ?_;rintro e M ⟨D,rfl,F,p⟩
 have T:Hid (x7t w (C,x) (.returned (.tuple #[D,.int .i64 x])) M):=by
  rcases p with⟨_,X,_⟩|⟨E,rfl⟩
  ·exact⟨_,rfl,X,V B M F⟩
  ·obtain rfl:C=[]:=V L E;exact⟨_,rfl,Ok.nil _ _ _ _,V B M F⟩
 go_wp2;go_ret2;exact V T
theorem y9Y c w(h:Rune c):Calls prog 74 #[.int .i32 c] w fun e w'=>e=.returned (.bool (Cn.jl c))/\w'=w:=by
 obtain⟨Z,D⟩:=h;unfold Cn.jl;by_cases L:4352<=c
 ·by_cases P:c<=4370
  ·rw[d0t ⟨L,P⟩];exact R4R
  ·rw[d0f (fun h=>P h.2)];exact R4R
 ·rw[d0f (fun h=>L h.1)];exact R4R
theorem z0a c w(h:Rune c):Calls prog 75 #[.int .i32 c] w fun e w'=>e=.returned (.bool (Cn.jv c))/\w'=w:=by
 obtain⟨Z,D⟩:=h;unfold Cn.jv;by_cases L:4449<=c
 ·by_cases P:c<=4469
  ·rw[d0t ⟨L,P⟩];exact f6K
  ·rw[d0f (fun h=>P h.2)];exact f6K
 ·rw[d0f (fun h=>L h.1)];exact f6K
theorem y9Z c w(h:Rune c):Calls prog 77 #[.int .i32 c] w fun e w'=>e=.returned (.bool (Cn.jt c))/\w'=w:=by
 obtain⟨Z,D⟩:=h;unfold Cn.jt;by_cases L:4520<=c
 ·by_cases P:c<=4546
  ·rw[d0t ⟨L,P⟩];exact v0D
  ·rw[d0f (fun h=>P h.2)];exact v0D
 ·rw[d0f (fun h=>L h.1)];exact v0D
theorem x4t r vt lo hi w(X:RecFit r)(m:I64 lo)(E:I64 hi):Calls prog 73 #[recV r vt,.int .i64 lo,.int .i64 hi] w (x0c w (Cn.covers r lo hi)):=by
 have Y:∀o,Bw w (w.alloc o):=fun o=>(b0r).alloc (l0r _) o;have B:=O Y;obtain⟨t,i⟩:=m;obtain⟨C,J⟩:=E;obtain⟨p,D⟩:=X.lo;obtain⟨u,y⟩:=X.hi;unfold Cn.covers recV;by_cases L:r.lo<=hi
 ·by_cases P:lo<=r.hi
  ·rw[d0t ⟨L,P⟩];exact r8B
  ·rw[d0f (fun h=>P h.2)];exact r8B
 ·rw[d0f (fun h=>L h.1)];exact r8B
theorem y1g v rs c w(N:Rcs w v rs)(I:Rune c):Calls prog 44 #[v,.int .i32 c] w (x0c w (Cn.plain rs c)):=by
 have K:=O (x2H v rs 1 c w N w5o I);obtain⟨l,j⟩:=I;rcases hit_at N 1 c with⟨Z,D⟩|⟨k,b,P,M,Z,J,D,rfl,S,z,u,X⟩
 ·have t:Cn.plain rs c=false:=(by unfold Cn.plain;rw[D]);rw[t];rw[Z]at K;obtain⟨R,M,rfl,_,_⟩:=N.shape;go_enter func44,ntmps44;go_wp2_with fail;refine c0m K fun Q Y=>?_;have T:x0c w false (.returned (.bool false)) Q:=⟨rfl,Y⟩;go_wp2;go_ret;exact T
 ·have t:Cn.plain rs c=decide ((rs.getD k Cn.none).kind=1):=(by unfold Cn.plain;rw[D]);rw[t];rw[Z]at K;have a:=O u;have s:=N.1;generalize rs.getD k Cn.none=r at *;by_cases U:r.kind=1
  ·rw[d0t U];go_enter func44,ntmps44;go_wp2_with fail;refine c0m K fun Q Y=>?_;have x:=((V a).below Y).kind;rw[U]at x;have T:x0c w true (.returned (.bool true)) Q:=⟨rfl,Y⟩;go_wp2;go_ret;exact T
  ·rw[d0f U];go_enter func44,ntmps44;go_wp2_with fail;refine c0m K fun Q Y=>?_;have x:=((V a).below Y).kind;have C:(r.kind==1)=false:=b0f U;have T:x0c w false (.returned (.bool false)) Q:=⟨rfl,Y⟩;go_wp2;go_ret;exact T
def dips(l:List Rec)(x:List Int)(j:Nat):Prop:=Cn.cls l (x.getD j 0)≠0/\Cn.cls l (x.getD j 0)<Cn.cls l (x.getD (j-1) 0)
theorem x6r(l:List Rec):∀x:List Int,Cn.fallsA l x=true↔∃j,1<=j/\j<x.length/\dips l x j
 | []=>by simp[Cn.fallsA]
 | [a]=>by
  simp only[Cn.fallsA];constructor
  ·intro h;cases h
  ·rintro⟨j,Z,D,_⟩;simp at D;omega
 | a::b::r=>by
  rw[Cn.fallsA,Bool.or_eq_true,x6r l (b::r),decide_eq_true_iff];constructor
  ·rintro(h|⟨j,Z,D,R⟩)
   ·exact⟨1,f6J,M7L,by simpa[dips]using h⟩
   ·refine⟨j+1,f6J,by simp at D ⊢;exact f6J,?_⟩;obtain⟨j,rfl⟩:∃i,j=i+1:=⟨j-1,f6J⟩;exact r9Q
  ·rintro⟨j,Z,D,R⟩;obtain⟨j,rfl⟩:∃i,j=i+1:=⟨j-1,f6J⟩
   cases j with
   | zero=>exact .inl r9Q
   | succ j=>exact .inr ⟨j+1,f6J,by simp at D ⊢;exact f6J,r9Q⟩
theorem x8Q{l x j}(Z:1<=j)(D:j<x.length)(h:dips l x j):Cn.fallsA l x=true:=(x6r l x).2 ⟨j,Z,D,h⟩
theorem y8a{l x}(h:∀j,1<=j->j<x.length->¬dips l x j):Cn.fallsA l x=false:=by
 rcases hb:Cn.fallsA l x with _|_
 ·rfl
 ·obtain⟨j,a,b,c⟩:=(x6r l x).1 hb;exact absurd c (h j a b)
theorem z4U{w v rs}(N:Rcs w v rs) c:I64 (Cn.cls rs c):=by
 rcases hit_at N 2 c with⟨_,D⟩|⟨k,_,_,_,_,_,D,_,_,_,_,X⟩
 ·unfold Cn.cls;rw[D];exact⟨e8M,e8M⟩
 ·unfold Cn.cls;rw[D];exact X.n
def FaIn(w:World)(v u:Value)(rs:List Rec)(xs:List Int)(k:Nat)(wr:World):Prop:=Rcs wr v rs/\Sk .i32 wr u xs/\Below w.heap.size w wr/\∀j,1<=j->j<k->j<xs.length->¬dips rs xs j
theorem x5v v u rs xs w(N:Rcs w v rs)(W:Sk .i32 w u xs)(aj:xs.length<=1000000000):Calls prog 79 #[v,u] w (x0c w (Cn.fallsA rs xs)):=by
 have I:Hid (∀j,1<=j->j<xs.length->dips rs xs j->Cn.fallsA rs xs=true):=fun j a b c=>x8Q a b c;have l:Hid ((∀j,1<=j->j<xs.length->¬dips rs xs j)->Cn.fallsA rs xs=false):=y8a;generalize Cn.fallsA rs xs=aw at *;have Y:Hid (FaIn w v u rs xs 1 w):=⟨N,W,b0r,fun j a b _=>f6J⟩;have s:=N.1;have x:Hid (∀c,I64 (Cn.cls rs c)):=fun c=>z4U N c;obtain⟨R,M,rfl,_,_⟩:=N.shape;obtain⟨g,m,rfl,p,ai⟩:=W.shape;go_enter func79,ntmps79;go_wp2;go_loopw[5,6] (fun Z _ wr=>∃k:Nat,Z=.int .i64 k/\1<=k/\k<=xs.length+1/\FaIn w (.slice R rs.length M) (.slice g xs.length m) rs xs k wr) (fun Z _ _=>xs.length+1-(intOf Z).toNat)
 case atStart=>exact⟨1,rfl,f6J,f6J,V Y⟩
 case round =>
  obtain⟨k,rfl,L,ag,f,ab,A,X⟩:=hrel;by_cases H:k<xs.length
  ·obtain⟨b,P,J,he,_,_,C⟩:=ab.place f6J;obtain⟨rfl,rfl⟩:g=some ⟨b,P,none⟩/\m=J:=M2S;have y:=C k H;have K1:=O (x3m _ rs (xs.getD k 0) wr f (x1c ab H));have K2:Hid (∀Q,Bw wr Q->Calls prog 121 #[.slice R rs.length M,.int .i32 (xs.getD (k-1) 0)] Q (IntB Q (Cn.cls rs (xs.getD (k-1) 0)))):=fun Q h=>x3m _ rs _ Q (f.below h) (x1c ab f6J);have ae:Hid (∀Q,Bw wr Q->Q.cell? ⟨b,P+(k-1),none⟩=some (.int .i32 (xs.getD (k-1) 0))):=fun Q h=>(by rw[Below.cell h (x0a (C (k-1) f6J))];exact C (k-1) f6J);have q:Hid (dips rs xs k↔Cn.cls rs (xs.getD k 0)≠0/\Cn.cls rs (xs.getD k 0)<Cn.cls rs (xs.getD (k-1) 0)):=Iff.rfl
   have af:Hid (¬dips rs xs k->∀Q,Bw wr Q->FaIn w (.slice R rs.length M) (.slice (some ⟨b,P,none⟩) xs.length m) rs xs (k+1) Q):=fun hd Q h=>⟨f.below h,ab.below h,x0b A h,fun j a c d=>by
    rcases Nat.lt_or_ge j k with h|h
    ·exact X j a h d
    ·obtain rfl:j=k:=by omega
     exact hd⟩
   have B:=O A;clear C f ab A X he l;have n:=O (V I k L H);have K:=V x (xs.getD k 0);have i:=V x (xs.getD (k-1) 0);generalize Cn.cls rs (xs.getD k 0)=d1,Cn.cls rs (xs.getD (k-1) 0)=d0 at *;generalize xs.getD k 0=z1,xs.getD (k-1) 0=t at *;obtain⟨aq,ar⟩:=K;obtain⟨z,am⟩:=i;go_wp2_with fail;refine c0m K1 fun Q E=>?_;have y:=V ae Q E;have G:=O (V K2 Q E);have S:Hid (∀w2,Bw Q w2->¬dips rs xs k->FaIn w (.slice R rs.length M) (.slice (some ⟨b,P,none⟩) xs.length m) rs xs (k+1) w2):=fun w2 h hd=>V af hd w2 (x0b E h);have U:=O (x0b (V B) E);by_cases o:d1=0
   ·have r:Hid (FaIn w (.slice R rs.length M) (.slice (some ⟨b,P,none⟩) xs.length m) rs xs (k+1) Q):=V S Q (b0r) (fun h=>((V q).1 h).1 o);subst o;go_wp2;go_round
    case rel=>exact⟨k+1,g2A,f6J,f6J,V r⟩
    case measure=>exact g7T
   ·have qz:(d1==0)=false:=b0f o;by_cases hd:d1<d0
    ·obtain rfl:=V n ((V q).2 ⟨o,hd⟩);go_wp2_with fail;refine c0m G fun w2 F=>?_;have T:=O (x0b (V U) F);go_wp2;go_ret;exact⟨rfl,V T⟩
    ·have r:=O (fun w2 h=>V S w2 h (fun h=>hd ((V q).1 h).2));go_wp2_with fail;refine c0m G fun w2 F=>?_;have D:=O (V r w2 F);go_wp2;go_round
     case rel=>exact⟨k+1,g2A,f6J,f6J,V D⟩
     case measure=>exact g7T
  ·obtain rfl:=V l (fun j a b=>X j a f6J b);have T:=O A;exact i9r
theorem x0A c w(h:Rune c):Calls prog 116 #[.int .i32 c] w fun e w'=>e=.returned (.bool (Cn.scalar c))/\w'=w:=by
 obtain⟨Z,D⟩:=h;by_cases L:0<=c
 ·by_cases P:c<=55295
  ·exact I0c
  ·by_cases t:57344<=c
   ·by_cases M:c<=1114111
    ·exact I0c
    ·exact v8s
   ·exact v8s
 ·have t:¬57344<=c:=f6J;exact v8s
theorem y6U{x:List Int}{f:Int->Bool}{k}(G:k<x.length)(h:f (x.getD k 0)=false):x.all f=false:=by grind
theorem z1i{x:List Int}{f:Int->Bool}(h:∀j,j<x.length->f (x.getD j 0)=true):x.all f=true:=by
 rw[List.all_eq_true];intro y U;obtain⟨j,K,rfl⟩:=List.getElem_of_mem U;have:=h j K;simpa[List.getD,K]using this
theorem y1i u xs w(W:Sk .i32 w u xs)(S:xs.length<=1000000000):Calls prog 166 #[u] w fun e w'=>e=.returned (.bool (xs.all Cn.scalar))/\w'=w:=by
 have I:Hid (∀k,k<xs.length->Cn.scalar (xs.getD k 0)=false->xs.all Cn.scalar=false):=fun k=>y6U;have l:Hid ((∀j,j<xs.length->Cn.scalar (xs.getD j 0)=true)->xs.all Cn.scalar=true):=z1i;generalize xs.all Cn.scalar=B at *;have c:=O W;obtain⟨g,m,rfl,p,E⟩:=W.shape;go_enter func166,ntmps166;go_wp2;go_loop [3] (fun Z=>∃k:Nat,Z=.int .i64 k/\k<=xs.length/\∀j,j<k->Cn.scalar (xs.getD j 0)=true) (fun Z=>xs.length-(intOf Z).toNat)
 case atStart=>exact⟨0,rfl,f6J,fun j L=>absurd L (Nat.not_lt_zero _)⟩
 case round =>
  obtain⟨k,rfl,G,X⟩:=hrel;by_cases H:k<xs.length
  ·obtain⟨b,P,J,d,_,_,C⟩:=(V c).place f6J;obtain⟨rfl,rfl⟩:g=some ⟨b,P,none⟩/\m=J:=V6s;have F:=C k H;have K:=O (x0A (xs.getD k 0) w (x1c (V c) H));have n:=O (V I k H)
   have f:Hid (Cn.scalar (xs.getD k 0)=true->∀j,j<k+1->Cn.scalar (xs.getD j 0)=true):=fun h j L=>by
    rcases Nat.lt_or_ge j k with D|D
    ·exact X j D
    ·grind
   clear C d c I l X;generalize hy:Cn.scalar (xs.getD k 0)=y at n f K;generalize xs.getD k 0=z at *;go_wp2_with fail;refine(V K).mono ?_;rintro e Q ⟨rfl,rfl⟩
   cases y with
   | false =>
    obtain rfl:=V n rfl;exact t6x
   | true =>
    have U:=O (V f rfl);go_wp2;go_round
    case rel=>exact⟨k+1,g2A,f6J,V U⟩
    case measure=>exact g7T
  ·obtain rfl:k=xs.length:=f6J;obtain rfl:=V l X;exact t6x
theorem y2N u xs(a b:Nat) w(W:Sk .i32 w u xs)(S:xs.length<=1000000000):Calls prog 117 #[u,.int .i64 a,.int .i64 b] w fun e w'=>e=.returned (.bool (Cn.list xs a b))/\w'=w:=by
 have K:=O (y1i u xs w W S);obtain⟨g,m,rfl,p,E⟩:=W.shape;unfold Cn.list;by_cases Z:a<=xs.length
 ·by_cases D:xs.length<=b
  ·rw[d0t ⟨Z,D⟩,Bool.true_and];go_enter func117,ntmps117;exact P3m
  ·rw[d0f (fun h=>D h.2),Bool.false_and];go_enter func117,ntmps117;exact t6u
 ·rw[d0f (fun h=>Z h.1),Bool.false_and];go_enter func117,ntmps117;exact t6u
theorem x9F u w(W:u<18446744073709551616):Calls prog 115 #[.float .f64 u] w fun e w'=>e=.returned (.bool (Cn.weight u))/\w'=w:=by
 have K:=O (x3s u w);unfold Cn.weight;by_cases Z:u<=9218868437227405312
 ·rw[d0t Z];have D:(u:Int)<=9218868437227405312:=f6J;go_enter func115,ntmps115;go_wp2_with fail;refine(V K).mono ?_;rintro e Q ⟨rfl,rfl⟩;exact t6v
 ·rw[d0f Z];have D:¬(u:Int)<=9218868437227405312:=f6J;go_enter func115,ntmps115;go_wp2_with fail;refine(V K).mono ?_;rintro e Q ⟨rfl,rfl⟩;go_wp2;go_ret;refine⟨?_,rfl⟩;show Ending.returned (.bool (decide ((u:Int)<=9218868437227405312)))=_;rw[d0f f6J]
theorem x0Z{b:ByteArray}(h:b.size=0):b=⟨#[]⟩:=by
 obtain⟨⟨l⟩⟩:=b;have:l=[]:=(by simpa[ByteArray.size]using h);subst this;rfl
theorem x1A{b:ByteArray}(h:¬b.size=0):¬b.toList=[]:=fun e=>h (by
 have:b.data.toList.length=0:=I7C;show b.data.size=0;rw[<- Array.length_toList]
 exact this)
def x0h(n0:Int)(m:Nat)(nm ot:ByteArray)(wt:Nat)(nf tof namef otherf wf:Bool):Bool :=
 (nf||decide (n0=0))&&(tof||decide (m=0))&&(namef||decide (nm.size=0))&&(otherf||decide (ot.size=0))&&(wf||decide (wt=0))
theorem y6Y kd lo hi n0 ao m cap nm ot wt tof namef otherf wf w:Calls prog 113 #[.agg #[.int .i64 kd,.int .i64 lo,.int .i64 hi,.int .i64 n0,.slice ao m cap,.string nm,.string ot,.float .f64 wt],.bool true,.bool tof,.bool namef,.bool otherf,.bool wf] w (x0c w (x0h n0 m nm ot wt true tof namef otherf wf)):=by
 have Y:∀o,Bw w (w.alloc o):=fun o=>(b0r).alloc (l0r _) o;have B:=O Y;have A:=O (fun w=>x3s wt w)
 cases tof with
 | true =>
  cases namef with
  | true =>
   cases otherf with
   | true =>
    cases wf with
    | true =>
     rw[(I6Y:x0h n0 m nm ot wt true true true true true=true)];exact U3c
    | false =>
     by_cases T:wt=0
     ·subst T;rw[(I6Y:x0h n0 m nm ot 0 true true true true false=true)];exact f6s
     ·have N:((wt:Int)==0)=false:=b0f f6J;rw[(I6Y:x0h n0 m nm ot wt true true true true false=false)];exact f6s
   | false =>
    by_cases q:ot.size=0
    ·obtain rfl:=x0Z q
     cases wf with
     | true =>
      rw[(I6Y:x0h n0 m nm ⟨#[]⟩ wt true true true false true=true)];exact U3c
     | false =>
      by_cases T:wt=0
      ·subst T;rw[(I6Y:x0h n0 m nm ⟨#[]⟩ 0 true true true false false=true)];exact f6s
      ·have N:((wt:Int)==0)=false:=b0f f6J;rw[(I6Y:x0h n0 m nm ⟨#[]⟩ wt true true true false false=false)];exact f6s
    ·have D:=x1A q;rw[(I6Y:x0h n0 m nm ot wt true true true false wf=false)];exact U3c
  | false =>
   by_cases K:nm.size=0
   ·obtain rfl:=x0Z K
    cases otherf with
    | true =>
     cases wf with
     | true =>
      rw[(I6Y:x0h n0 m ⟨#[]⟩ ot wt true true false true true=true)];exact U3c
     | false =>
      by_cases T:wt=0
      ·subst T;rw[(I6Y:x0h n0 m ⟨#[]⟩ ot 0 true true false true false=true)];exact f6s
      ·have N:((wt:Int)==0)=false:=b0f f6J;rw[(I6Y:x0h n0 m ⟨#[]⟩ ot wt true true false true false=false)];exact f6s
    | false =>
     by_cases q:ot.size=0
     ·obtain rfl:=x0Z q
      cases wf with
      | true =>
       rw[(I6Y:x0h n0 m ⟨#[]⟩ ⟨#[]⟩ wt true true false false true=true)];exact U3c
      | false =>
       by_cases T:wt=0
       ·subst T;rw[(I6Y:x0h n0 m ⟨#[]⟩ ⟨#[]⟩ 0 true true false false false=true)];exact f6s
       ·have N:((wt:Int)==0)=false:=b0f f6J;rw[(I6Y:x0h n0 m ⟨#[]⟩ ⟨#[]⟩ wt true true false false false=false)];exact f6s
     ·have D:=x1A q;rw[(I6Y:x0h n0 m ⟨#[]⟩ ot wt true true false false wf=false)];exact U3c
   ·have x:=x1A K;rw[(I6Y:x0h n0 m nm ot wt true true false otherf wf=false)];exact U3c
 | false =>
  by_cases j:m=0
  ·subst j
   cases namef with
   | true =>
    cases otherf with
    | true =>
     cases wf with
     | true =>
      rw[(I6Y:x0h n0 0 nm ot wt true false true true true=true)];exact U3c
     | false =>
      by_cases T:wt=0
      ·subst T;rw[(I6Y:x0h n0 0 nm ot 0 true false true true false=true)];exact f6s
      ·have N:((wt:Int)==0)=false:=b0f f6J;rw[(I6Y:x0h n0 0 nm ot wt true false true true false=false)];exact f6s
    | false =>
     by_cases q:ot.size=0
     ·obtain rfl:=x0Z q
      cases wf with
      | true =>
       rw[(I6Y:x0h n0 0 nm ⟨#[]⟩ wt true false true false true=true)];exact U3c
      | false =>
       by_cases T:wt=0
       ·subst T;rw[(I6Y:x0h n0 0 nm ⟨#[]⟩ 0 true false true false false=true)];exact f6s
       ·have N:((wt:Int)==0)=false:=b0f f6J;rw[(I6Y:x0h n0 0 nm ⟨#[]⟩ wt true false true false false=false)];exact f6s
     ·have D:=x1A q;rw[(I6Y:x0h n0 0 nm ot wt true false true false wf=false)];exact U3c
   | false =>
    by_cases K:nm.size=0
    ·obtain rfl:=x0Z K
     cases otherf with
     | true =>
      cases wf with
      | true =>
       rw[(I6Y:x0h n0 0 ⟨#[]⟩ ot wt true false false true true=true)];exact U3c
      | false =>
       by_cases T:wt=0
       ·subst T;rw[(I6Y:x0h n0 0 ⟨#[]⟩ ot 0 true false false true false=true)];exact f6s
       ·have N:((wt:Int)==0)=false:=b0f f6J;rw[(I6Y:x0h n0 0 ⟨#[]⟩ ot wt true false false true false=false)];exact f6s
     | false =>
      by_cases q:ot.size=0
      ·obtain rfl:=x0Z q
       cases wf with
       | true =>
        rw[(I6Y:x0h n0 0 ⟨#[]⟩ ⟨#[]⟩ wt true false false false true=true)];exact U3c
       | false =>
        by_cases T:wt=0
        ·subst T;rw[(I6Y:x0h n0 0 ⟨#[]⟩ ⟨#[]⟩ 0 true false false false false=true)];exact f6s
        ·have N:((wt:Int)==0)=false:=b0f f6J;rw[(I6Y:x0h n0 0 ⟨#[]⟩ ⟨#[]⟩ wt true false false false false=false)];exact f6s
      ·have D:=x1A q;rw[(I6Y:x0h n0 0 ⟨#[]⟩ ot wt true false false false wf=false)];exact U3c
    ·have x:=x1A K;rw[(I6Y:x0h n0 0 nm ot wt true false false otherf wf=false)];exact U3c
  ·have C:((m:Int)==0)=false:=b0f f6J;rw[(I6Y:x0h n0 m nm ot wt true false namef otherf wf=false)];exact U3c
theorem y4F kd lo hi n0 ao m cap nm ot wt tof namef otherf wf w:Calls prog 113 #[.agg #[.int .i64 kd,.int .i64 lo,.int .i64 hi,.int .i64 n0,.slice ao m cap,.string nm,.string ot,.float .f64 wt],.bool false,.bool tof,.bool namef,.bool otherf,.bool wf] w (x0c w (x0h n0 m nm ot wt false tof namef otherf wf)):=by
 have Y:∀o,Bw w (w.alloc o):=fun o=>(b0r).alloc (l0r _) o;have B:=O Y;have A:=O (fun w=>x3s wt w);by_cases l:n0=0
 ·subst l
  cases tof with
  | true =>
   cases namef with
   | true =>
    cases otherf with
    | true =>
     cases wf with
     | true =>
      rw[(I6Y:x0h 0 m nm ot wt false true true true true=true)];exact U3c
     | false =>
      by_cases T:wt=0
      ·subst T;rw[(I6Y:x0h 0 m nm ot 0 false true true true false=true)];exact f6s
      ·have N:((wt:Int)==0)=false:=b0f f6J;rw[(I6Y:x0h 0 m nm ot wt false true true true false=false)];exact f6s
    | false =>
     by_cases q:ot.size=0
     ·obtain rfl:=x0Z q
      cases wf with
      | true =>
       rw[(I6Y:x0h 0 m nm ⟨#[]⟩ wt false true true false true=true)];exact U3c
      | false =>
       by_cases T:wt=0
       ·subst T;rw[(I6Y:x0h 0 m nm ⟨#[]⟩ 0 false true true false false=true)];exact f6s
       ·have N:((wt:Int)==0)=false:=b0f f6J;rw[(I6Y:x0h 0 m nm ⟨#[]⟩ wt false true true false false=false)];exact f6s
     ·have D:=x1A q;rw[(I6Y:x0h 0 m nm ot wt false true true false wf=false)];exact U3c
   | false =>
    by_cases K:nm.size=0
    ·obtain rfl:=x0Z K
     cases otherf with
     | true =>
      cases wf with
      | true =>
       rw[(I6Y:x0h 0 m ⟨#[]⟩ ot wt false true false true true=true)];exact U3c
      | false =>
       by_cases T:wt=0
       ·subst T;rw[(I6Y:x0h 0 m ⟨#[]⟩ ot 0 false true false true false=true)];exact f6s
       ·have N:((wt:Int)==0)=false:=b0f f6J;rw[(I6Y:x0h 0 m ⟨#[]⟩ ot wt false true false true false=false)];exact f6s
     | false =>
      by_cases q:ot.size=0
      ·obtain rfl:=x0Z q
       cases wf with
       | true =>
        rw[(I6Y:x0h 0 m ⟨#[]⟩ ⟨#[]⟩ wt false true false false true=true)];exact U3c
       | false =>
        by_cases T:wt=0
        ·subst T;rw[(I6Y:x0h 0 m ⟨#[]⟩ ⟨#[]⟩ 0 false true false false false=true)];exact f6s
        ·have N:((wt:Int)==0)=false:=b0f f6J;rw[(I6Y:x0h 0 m ⟨#[]⟩ ⟨#[]⟩ wt false true false false false=false)];exact f6s
      ·have D:=x1A q;rw[(I6Y:x0h 0 m ⟨#[]⟩ ot wt false true false false wf=false)];exact U3c
    ·have x:=x1A K;rw[(I6Y:x0h 0 m nm ot wt false true false otherf wf=false)];exact U3c
  | false =>
   by_cases j:m=0
   ·subst j
    cases namef with
    | true =>
     cases otherf with
     | true =>
      cases wf with
      | true =>
       rw[(I6Y:x0h 0 0 nm ot wt false false true true true=true)];exact U3c
      | false =>
       by_cases T:wt=0
       ·subst T;rw[(I6Y:x0h 0 0 nm ot 0 false false true true false=true)];exact f6s
       ·have N:((wt:Int)==0)=false:=b0f f6J;rw[(I6Y:x0h 0 0 nm ot wt false false true true false=false)];exact f6s
     | false =>
      by_cases q:ot.size=0
      ·obtain rfl:=x0Z q
       cases wf with
       | true =>
        rw[(I6Y:x0h 0 0 nm ⟨#[]⟩ wt false false true false true=true)];exact U3c
       | false =>
        by_cases T:wt=0
        ·subst T;rw[(I6Y:x0h 0 0 nm ⟨#[]⟩ 0 false false true false false=true)];exact f6s
        ·have N:((wt:Int)==0)=false:=b0f f6J;rw[(I6Y:x0h 0 0 nm ⟨#[]⟩ wt false false true false false=false)];exact f6s
      ·have D:=x1A q;rw[(I6Y:x0h 0 0 nm ot wt false false true false wf=false)];exact U3c
    | false =>
     by_cases K:nm.size=0
     ·obtain rfl:=x0Z K
      cases otherf with
      | true =>
       cases wf with
       | true =>
        rw[(I6Y:x0h 0 0 ⟨#[]⟩ ot wt false false false true true=true)];exact U3c
       | false =>
        by_cases T:wt=0
        ·subst T;rw[(I6Y:x0h 0 0 ⟨#[]⟩ ot 0 false false false true false=true)];exact f6s
        ·have N:((wt:Int)==0)=false:=b0f f6J;rw[(I6Y:x0h 0 0 ⟨#[]⟩ ot wt false false false true false=false)];exact f6s
      | false =>
       by_cases q:ot.size=0
       ·obtain rfl:=x0Z q
        cases wf with
        | true =>
         rw[(I6Y:x0h 0 0 ⟨#[]⟩ ⟨#[]⟩ wt false false false false true=true)];exact U3c
        | false =>
         by_cases T:wt=0
         ·subst T;rw[(I6Y:x0h 0 0 ⟨#[]⟩ ⟨#[]⟩ 0 false false false false false=true)];exact f6s
         ·have N:((wt:Int)==0)=false:=b0f f6J;rw[(I6Y:x0h 0 0 ⟨#[]⟩ ⟨#[]⟩ wt false false false false false=false)];exact f6s
       ·have D:=x1A q;rw[(I6Y:x0h 0 0 ⟨#[]⟩ ot wt false false false false wf=false)];exact U3c
     ·have x:=x1A K;rw[(I6Y:x0h 0 0 nm ot wt false false false otherf wf=false)];exact U3c
   ·have C:((m:Int)==0)=false:=b0f f6J;rw[(I6Y:x0h 0 m nm ot wt false false namef otherf wf=false)];exact U3c
 ·have n:(n0==0)=false:=b0f l;rw[(I6Y:x0h n0 m nm ot wt false tof namef otherf wf=false)];exact U3c
theorem y2M r vt nf tof namef otherf wf w(N:Sk .i32 w vt r.to):Calls prog 113 #[recV r vt,.bool nf,.bool tof,.bool namef,.bool otherf,.bool wf] w (x0c w (Cn.bare r nf tof namef otherf wf)):=by
 obtain⟨R,M,rfl,_,_⟩:=N.shape
 cases nf with
 | true=>exact y6Y _ _ _ _ _ _ _ _ _ _ _ _ _ _ _
 | false=>exact y4F _ _ _ _ _ _ _ _ _ _ _ _ _ _ _
