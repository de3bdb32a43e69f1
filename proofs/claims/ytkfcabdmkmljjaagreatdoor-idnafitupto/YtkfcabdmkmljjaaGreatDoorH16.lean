/- Lemmas. -/
import Derived.Test.YtkfcabdmkmljjaaGreatDoorH3
import Derived.Deep.AppendLies
import Derived.Laws.AppendOwnNone
set_option maxHeartbeats 16000000
set_option maxRecDepth 8000
namespace Go.Proofs.YtkfcabdmkmljjaaGreatDoor
open Go.Proofs.Tryz
open Go.RowKit
section
variable{p:Prop}
theorem U7e(h:p:=by go_enter func81,ntmps81;go_wp2;go_ret;exact⟨rfl,V x _⟩):p:=h
theorem I7C(h:p:=by rw[<- ByteArray.toList_eq,e];rfl):p:=h
theorem N8C(h:p:=by
 obtain rfl:A=false:=n.symm.trans (by simp[bareB, *]);clear n;go_enter func122,ntmps122;go_wp2_with fail
 try(refine(V C _).mono ?_;rintro e Q ⟨rfl,rfl⟩;go_wp2)
 go_ret;exact⟨rfl,V x _⟩):p:=h
theorem M9P(h:p:=by go_enter func82,ntmps82;exact t6u):p:=h
theorem e3i(h:p:=by go_enter func83,ntmps83;exact t6u):p:=h
theorem W0F(h:p:=by go_enter func85,ntmps85;exact t6u):p:=h
theorem t6w(h:p:=by go_wp2;go_ret;exact⟨rfl,rfl⟩):p:=h
theorem p0K(h:p:=by simpa[dips]using J):p:=h
theorem f2D(h:p:=by have L:Cn.scalar c=false:=(by unfold Cn.scalar;exact P8P);rw[L];go_enter func125,ntmps125;exact t6w):p:=h
theorem s7u(h:p:=by have L:Cn.scalar c=true:=(by unfold Cn.scalar;exact P8P);rw[L];go_enter func125,ntmps125;exact t6w):p:=h
theorem w6X(h:p:=by exact⟨0,rfl,f6J,fun j X=>absurd X (Nat.not_lt_zero _)⟩):p:=h
theorem G9C(h:p:=by rcases List.mem_append.1 hz with hz | hz;exact L.1 z hz;(simp at hz;subst hz;simp[IntKind.min,IntKind.max,IntKind.signed,IntKind.bits];omega)):p:=h
theorem g6Y(h:p:=by
 rcases A with h | h
 ·exact .inl h.symm
 ·exact .inr ⟨g,rfl,f6J⟩):p:=h
theorem i1G(h:p:=by clear t i A y aj aH ae af L F T;go_wp2;go_ret2;exact U):p:=h
end
theorem x4O{w w1}(h:Bw w w1) r:w.grownBy w1 r:=⟨h.os,h.tape,h.output,h.size,fun k G _=>h.block k G⟩
theorem x3b{w w1 w2:World}{r r'}(h:w.grownBy w1 r)(k:w1.grownBy w2 r')(hr:r'=r\/∃g,r'=some g/\w.heap.size<=g):w.grownBy w2 r:=by
 refine⟨k.os.trans h.os,k.tape.trans h.tape,k.output.trans h.output,Nat.le_trans h.size k.size,fun x A t=>?_⟩;rw[k.block x (Nat.lt_of_lt_of_le A h.size) ?_,h.block x A t];rcases hr with rfl | ⟨g,rfl,C⟩
 ·exact t
 ·grind
theorem cell_one_new(w:World) e v:∀j u,[v][j]?=some u->(w.alloc (.cells #[v] e)).cell? ((⟨w.heap.size,0,none⟩:Addr).add j)=some u:=by
 intro j u X
 match j,X with
 | 0,X=>simp at X;subst X;simp[World.cell?,World.alloc,Addr.add,-World.alloc_eq]
 | j+1,X=>simp at X
theorem x5l{w ops rest o}{a Q}(T:o.guard=none)(s x:Operand)
  (X:o.op=.call { callee:=.builtin .append,args:=#[s,x],argTypes:=#[36,36] }) v zs (L:a.eval s=.slice none 0 0) (A:a.eval x=v) (N:Sk .i32 w v zs) (S:zs.length<=1000)
  (h:∀v' w',Ok .i32 21 w' w.heap.size v' zs->Bw w w'->wpList prog ops Q rest (a.put o.dst v') w'):wpList prog ops Q (o::rest) a w:=by
 obtain⟨r,hi,d,Y,R⟩:=info_parts Tryz.info21;rcases N.2.src with⟨F,rfl⟩ | ⟨C,M,rfl,g⟩
 ·obtain rfl:zs=[]:=(by simpa using F);exact wpList_append_own_none T s x 36 X w.heap.size 21 r 1 underlying36 hi _ _ _ L (World.ownsRow_nil _ _ _ _) A (h _ _ (Ok.nil _ _ _ _) (b0r))
 ·refine wpList_append_own _ T s x 36 X w.heap.size 21 r (.int .i32 0) 1 4 underlying36 hi d Y R rfl e8P _ _ _ L (World.ownsRow_nil _ _ _ _) C _ M (zs.map (Value.int .i32)) A M7M g (x0O .i32 zs) (by simp[maxLen];exact f6J) P8P (l0r _) ?_;intro v' w' J B _;exact h v' w' (Ok.of N.1 f6J J M7M M7M) (x1A (e:=21) (l0r _) (World.ownsRow_nil _ _ _ _) (b0r) B)
def y2c(w:World)(B:Nat)(vo:Value)(r:List Int×Int)(e:Ending)(w':World):Prop :=
 ∃v,e=.returned (.tuple #[v,.int .i64 r.2])/\w.grownBy w' vo.ownBlock/\((r.2=0/\Ok .i32 21 w' B v r.1/\(v.ownBlock=vo.ownBlock\/∃g,v.ownBlock=some g/\w.heap.size<=g))\/(r.2≠0/\v=.slice none 0 0))
def WIn(w:World)(B:Nat)(vout vx vd:Value)(xs down:List Int)(rs:List Rec)(f:Nat)(res:List Int×Int)(k:Nat)(vo:Value)(wr:World):Prop :=
 ∃outk,Ok .i32 21 wr B vo outk/\outk.length<=32/\(xs.drop k).foldl (Cn.stepW rs f down) (outk,0)=res/\Ok .i32 21 wr w.heap.size vx xs/\Ok .i32 21 wr w.heap.size vd down /\
  (∀g,vo.ownBlock=some g->vx.ownBlock≠some g/\vd.ownBlock≠some g)/\w.grownBy wr vout.ownBlock/\(vo.ownBlock=vout.ownBlock\/∃g,vo.ownBlock=some g/\w.heap.size<=g)
theorem WIn.next{w wr w' B}{E z I H v':Value}{xs down rs f res}{k outk}(G:k<xs.length)
  (D:outk.length<=32) (L:(xs.drop k).foldl (Cn.stepW rs f down) (outk,0)=res) (A:Ok .i32 21 wr w.heap.size z xs) (hd:Ok .i32 21 wr w.heap.size I down)
  (t:∀g,H.ownBlock=some g->z.ownBlock≠some g/\I.ownBlock≠some g) (C:w.grownBy wr E.ownBlock) (N:H.ownBlock=E.ownBlock\/∃g,H.ownBlock=some g/\w.heap.size<=g)
  (K:wr.grownBy w' H.ownBlock) (J:(Cn.walk rs f down (xs.getD k 0) outk).2=0) (o:Ok .i32 21 w' B v' (Cn.walk rs f down (xs.getD k 0) outk).1) (X:v'.ownBlock=H.ownBlock\/∃g,v'.ownBlock=some g/\wr.heap.size<=g) :
  WIn w B E z I xs down rs f res (k+1) v' w':=by
 have F:∀g,g<wr.heap.size->H.ownBlock≠some g->w'.heap[g]?=wr.heap[g]?:=fun g a b=>K.block g a (fun e=>b e.symm);refine⟨(Cn.walk rs f down (xs.getD k 0) outk).1,o,Cn.y0l _ _ _ _ _ D,?_,A.keep (fun g h=>F g (A.2.2.lt g h).2 (fun e=>(t g e).1 h)),hd.keep (fun g h=>F g (hd.2.2.lt g h).2 (fun e=>(t g e).2 h)),fun g h=>?_,x3b C K ?_,?_⟩
 ·rw[<- L,Cn.x6G G];congr 1;exact Prod.ext rfl J.symm
 ·rcases X with e | ⟨S,e,U⟩
  ·exact t g (e ▸ h)
  ·rw[e]at h;obtain rfl:=Option.some.inj h;exact⟨fun Y=>by have:=(A.2.2.lt S Y).2;exact f6J,fun Y=>by have:=(hd.2.2.lt S Y).2;exact f6J⟩
 ·exact N
 ·rcases X with e | ⟨S,e,U⟩
  ·grind
  ·exact .inr ⟨S,e,Nat.le_trans C.size U⟩
theorem WIn.start{w wr B vout vx vd xs down out}{rs f}(X:Ok .i32 21 w B vout out)(S:out.length<=32)(A:Ok .i32 21 wr w.heap.size vx xs)(hd:Ok .i32 21 wr w.heap.size vd down)(Y:Bw w wr) :
  WIn w B vout vx vd xs down rs f (xs.foldl (Cn.stepW rs f down) (out,0)) 0 vout wr:=by
 refine⟨out,X.below Y,S,s4M,A,hd,fun g h=>?_,x4O Y _,.inl rfl⟩;have E:=(X.2.2.lt g h).2;exact⟨fun e=>by have:=(A.2.2.lt g e).1;exact f6J,fun e=>by have:=(hd.2.2.lt g e).1;exact f6J⟩
def z5E(w0:World)(vl:Value)(rs:List Rec)(f:Nat):Prop:=∀(way:List Int) (c:Int) (out:List Int) (w:World) (vway vout:Value),f+way.length=16->Rune c->Below w0.heap.size w0 w->Sk .i32 w vway way->Ok .i32 21 w w0.heap.size vout out->out.length<=32 ->
  Calls prog 129 #[vl,.int .i32 c,vway,vout] w (y2c w w0.heap.size vout (Cn.walk rs f way c out))
theorem x7p w0 vl rs(hR:∀W,Bw w0 W->Rcs W vl rs)(f:Nat)(Z:Hid (∀m,f=m+1->z5E w0 vl rs m)):z5E w0 vl rs f:=by
 intro B c out w bK E bM hc T am L bA;obtain⟨i0,hi,be,bh,bj⟩:=info_parts Tryz.info21;have hB:=T.size;have K1:=O (x3L vl rs c w (hR w T) hc);have bO:=(hR w T).1;obtain⟨lo,bJ,rfl,_,_⟩:=(hR w T).shape;obtain⟨c0,c1⟩:=hc;obtain⟨wo,bE,rfl,bP,bQ⟩:=am.shape;by_cases n:Cn.opn rs c=[]
 ·have aZ:=Cn.x1f n f B out;rw[n]at K1;have Q:Hid (32<=out.length->Cn.walk rs f B c out=([],2)):=fun h=>(by rw[aZ,if_pos h]);have aA:Hid (¬32<=out.length->Cn.walk rs f B c out=(out++[c],0)):=fun h=>(by rw[aZ,if_neg h]);generalize Cn.walk rs f B c out=R at *;clear aZ;clear Z;go_enter func129,ntmps129;go_wp2_with fail;refine(V K1).mono ?_;rintro e w1 ⟨vx,rfl,ar,F⟩;obtain⟨xo,v,rfl,_,_⟩:=ar.sk.shape;have af:=L.below F;have ae:=af.row;have aI:([]:List Int).length=0:=rfl;rw[aI];have aN:=F.size;clear K1 ar am aI;by_cases bp:32<=out.length
  ·obtain rfl:=V Q bp;clear Q aA;go_wp2_with(at_builtin;refine wpList_append_lies _ rfl (.tmp 21) (.tmp 23) 36 rfl w0.heap.size 21 i0 (.int .i32 0) 1 4 underlying36 hi be bh bj rfl e8Q _ _ _ rfl (ae.alloc _) ⟨w1.heap.size,0,none⟩ 1 1 [.int .i32 c] rfl rfl (cell_one_new _ _ _) (x1k .i32 _) f6J T7X f6J P8P (w1.heap.size+1) M7N ?_)
   all_goals try(go_ret2;exact⟨_,rfl,x4O F _,.inr ⟨e8Q,rfl⟩⟩)
   intro g x w9 t i A _;have aH:w.grownBy w9 E.ownBlock:=x3b (x4O (F.alloc aN _) _) i (.inl rfl);have y:Ok .i32 21 w9 w0.heap.size (.slice (some ⟨g,0,none⟩) (out.length+1) x) (out++[c]):=Ok.of (fun z hz=>G9C) P8P t M7N M7N
   have aj:(Value.slice (some ⟨g,0,none⟩) (out.length+1) x).ownBlock=E.ownBlock\/∃g',(Value.slice (some ⟨g,0,none⟩) (out.length+1) x).ownBlock=some g'/\w.heap.size<=g':=g6Y
   have U:y2c w w0.heap.size E ([],2) (.returned (.tuple #[.slice none 0 0,.int .i64 2])) w9:=⟨_,rfl,aH,.inr ⟨e8Q,rfl⟩⟩;exact i1G
  ·obtain rfl:=V aA bp;clear Q aA;go_wp2_with(at_builtin;refine wpList_append_lies _ rfl (.tmp 21) (.tmp 23) 36 rfl w0.heap.size 21 i0 (.int .i32 0) 1 4 underlying36 hi be bh bj rfl e8Q _ _ _ rfl (ae.alloc _) ⟨w1.heap.size,0,none⟩ 1 1 [.int .i32 c] rfl rfl (cell_one_new _ _ _) (x1k .i32 _) f6J T7X f6J P8P (w1.heap.size+1) M7N ?_);intro g x w9 t i A _;have aH:w.grownBy w9 E.ownBlock:=x3b (x4O (F.alloc aN _) _) i (.inl rfl);have y:Ok .i32 21 w9 w0.heap.size (.slice (some ⟨g,0,none⟩) (out.length+1) x) (out++[c]):=Ok.of (fun z hz=>G9C) P8P t M7N M7N
   have aj:(Value.slice (some ⟨g,0,none⟩) (out.length+1) x).ownBlock=E.ownBlock\/∃g',(Value.slice (some ⟨g,0,none⟩) (out.length+1) x).ownBlock=some g'/\w.heap.size<=g':=g6Y
   have U:y2c w w0.heap.size E (out++[c],0) (.returned (.tuple #[.slice (some ⟨g,0,none⟩) (out.length+1) x,.int .i64 0])) w9:=⟨_,rfl,aH,.inl ⟨rfl,y,aj⟩⟩;exact i1G
 ·have bT:0<(Cn.opn rs c).length:=List.length_pos_iff.2 n;have C:Hid (c∈B->Cn.walk rs f B c out=([],72)):=fun h=>Cn.x2Y n f h out;have az:Hid (∀m,f=m+1->¬c∈B->Cn.walk rs f B c out=(Cn.opn rs c).foldl (Cn.stepW rs m (B++[c])) (out,0)):=fun m e h=>(by subst e;exact Cn.x7F n m h out);have ab:Hid (f=0->¬c∈B->Cn.walk rs f B c out=([],73)):=fun e h=>(by subst e;exact Cn.x7E n h out);generalize Cn.walk rs f B c out=R at *;clear n;generalize Cn.opn rs c=X at *;go_enter func129,ntmps129;go_wp2_with fail;refine(V K1).mono ?_;rintro e w1 ⟨vx,rfl,ar,F⟩;obtain⟨xo,v,rfl,bR,bS⟩:=ar.sk.shape;have aN:=F.size;have qx:((X.length:Int)==0)=false:=b0f f6J;have ag:=am.below F
  have aC:Hid (∀j,j<B.length->∃b P,wo=some ⟨b,P,none⟩/\w1.cell? ⟨b,P+j,none⟩=some (.int .i32 (B.getD j 0))):=by
   intro j hj;obtain⟨b,P,aD,he,_,_,Y⟩:=ag.place f6J;obtain⟨rfl,rfl⟩:wo=some ⟨b,P,none⟩/\bE=aD:=(by simpa using he);exact⟨b,P,rfl,Y j hj⟩
  have J:=O ar;have aB:=O ag;have l:=O F;have M:=O L;clear K1 ar am ag F L;go_wp2;go_loop [11] (fun iv=>∃k:Nat,iv=.int .i64 k/\k<=B.length/\∀j,j<k->B.getD j 0≠c) (fun iv=>B.length-(intOf iv).toNat)
  case atStart=>exact⟨0,rfl,f6J,fun j hj=>absurd hj (Nat.not_lt_zero _)⟩
  case round =>
   obtain⟨k,rfl,hk,bC⟩:=hrel;have H:=O bC;clear bC;by_cases bB:k<B.length
   ·obtain⟨b,P,rfl,aG⟩:=V aC k bB;by_cases K:B.getD k 0=c
    ·have aR:c∈B:=(by rw[<- K];simp[List.getD,bB]);obtain rfl:=V C aR;rw[K]at aG;have qc:(c==c)=true:=beq_self_eq_true _;have U:y2c w w0.heap.size E ([],72) (.returned (.tuple #[.slice none 0 0,.int .i64 72])) w1:=⟨_,rfl,x4O (V l) _,.inr ⟨e8Q,rfl⟩⟩;clear aC C H K aR J aB l M;clear az ab Z;go_wp2;go_ret2;exact U
    ·have qc:(B.getD k 0==c)=false:=b0f K
     have bF:Hid (∀j,j<k+1->B.getD j 0≠c):=fun j hj=>by
      rcases Nat.lt_or_ge j k with h | h
      ·exact V H j h
      ·obtain rfl:j=k:=f6J;exact K
     clear aC C H K J aB l M;clear az ab Z;generalize B.getD k 0=z at *;go_wp2;go_round
     case rel=>exact⟨k+1,g2D,f6J,V bF⟩
     case measure=>exact g7W
   ·obtain rfl:k=B.length:=by omega
    have aL:¬c∈B:=fun h=>by
     obtain⟨j,hj,he⟩:=List.getElem_of_mem h;exact V H j hj (by simp[List.getD,hj,he])
    rcases f with _ | f
    ·obtain rfl:=V ab rfl aL;have bn:B.length=16:=f6J;have bI:((B.length:Int)==16)=true:=(by rw[bn];rfl);have U:y2c w w0.heap.size E ([],73) (.returned (.tuple #[.slice none 0 0,.int .i64 73])) w1:=⟨_,rfl,x4O (V l) _,.inr ⟨e8Q,rfl⟩⟩;clear aC C H ab az Z aL J aB l M bn;go_wp2;go_ret2;exact U
    ·obtain rfl:=V az f rfl aL;replace Z:=O (V Z f rfl);have bI:((B.length:Int)==16)=false:=b0f f6J;clear C az ab H aL aC;have bm:=(V aB);have bG:B.length<=1000:=f6J;have bL:B.length<=15:=f6J;go_wp2_with(at_builtin;refine x5l rfl (.tmp 44) (.tmp 45) rfl _ B rfl rfl bm bG ?_);intro bU w2 S aU;have s:=S.row;have bH:=aU.size;clear bm aB;go_wp2_with(at_builtin;refine wpList_append_lies _ rfl (.tmp 47) (.tmp 49) 36 rfl w1.heap.size 21 i0 (.int .i32 0) 1 4 underlying36 hi be bh bj rfl e8Q _ _ _ rfl (s.alloc _) ⟨w2.heap.size,0,none⟩ 1 1 [.int .i32 c] rfl rfl (cell_one_new _ _ _) (x1k .i32 _) f6J T7X f6J P8P (w2.heap.size+1) M7N ?_);intro g aF w3 aK bu A bw;have aQ:Fit .i32 (B++[c]):=Fit.snoc S.1 (x1j ⟨c0,c1⟩);have bD:Ok .i32 21 w3 w1.heap.size (.slice (some ⟨g,0,none⟩) (B.length+1) aF) (B++[c]):=Ok.of aQ P8P aK M7N M7N;have aV:Bw w1 w3:=x0z bH s aU bu;have HW:=O (WIn.start (rs:=rs) (f:=f) (V M) bA ((V J).below aV) (bD.lower aN) (bthen (V l) aV));have aX:f+(B++[c]).length=16:=P8P;have ba:Hid (∀k,k<X.length->Rune (X.getD k 0)):=fun k hk=>x0R (V J).sk hk;have aW:Hid (∀wr,w.grownBy wr E.ownBlock->Bw w0 wr):=fun wr hg=>T.grown hg hB (fun k hk=>((V M).2.2.lt k hk).1);clear S aU s aK bu A bw aQ bD aV J l T;have aP:Hid (B.length+1=(B++[c]).length):=(by show B.length+1=_;exact M7N);generalize X.foldl (Cn.stepW rs f (B++[c])) (out,0)=R at *;generalize B++[c]=G at *;go_wp2;go_loopw[3,13,14] (fun vo iv _ wr=>∃k:Nat,iv=.int .i64 k/\k<=X.length/\WIn w w0.heap.size E (.slice xo X.length v) (.slice (some ⟨g,0,none⟩) (B.length+1) aF) X G rs f R k vo wr) (fun _ iv _ _=>X.length-(intOf iv).toNat)
     case atStart=>exact⟨0,rfl,f6J,V HW⟩
     case round =>
      obtain⟨o,rfl,bN,D,aO,aM,I,aq,S,aY,N,r⟩:=hrel;clear HW;by_cases ai:o<X.length
      ·obtain⟨b,P,aD,he,_,_,Y⟩:=aq.sk.place f6J;obtain⟨rfl,rfl⟩:xo=some ⟨b,P,none⟩/\v=aD:=(by simpa using he);have aG:=Y o ai;have KC:=O (V Z G (X.getD o 0) D wr _ _ aX (V ba o ai) (V aW wr N) S.sk aO aM);have u:Hid (∀w' v',wr.grownBy w' u3.ownBlock->(Cn.walk rs f G (X.getD o 0) D).2=0->Ok .i32 21 w' w0.heap.size v' (Cn.walk rs f G (X.getD o 0) D).1->(v'.ownBlock=u3.ownBlock\/∃g,v'.ownBlock=some g/\wr.heap.size<=g)->WIn w w0.heap.size E (.slice (some ⟨b,P,none⟩) X.length v) (.slice (some ⟨g,0,none⟩) (B.length+1) aF) X G rs f R (o+1) v' w'):=fun w' v' a b c d=>WIn.next ai aM I aq S aY N r a b c d
       have aw:Hid (∀w',wr.grownBy w' u3.ownBlock->(Cn.walk rs f G (X.getD o 0) D).2≠0->y2c w w0.heap.size E R (.returned (.tuple #[.slice none 0 0,.int .i64 (Cn.walk rs f G (X.getD o 0) D).2])) w'):=fun w' hg hn=>by
        rw[Cn.x6G ai,Cn.x1I _ _ _ _ _ hn]at I;rw[<- I];exact⟨_,rfl,x3b N hg r,.inr ⟨hn,rfl⟩⟩
       clear I aq S aY N r aO aM Y he Z ba aW aP M aX;generalize Cn.walk rs f G (X.getD o 0) D=q at *;generalize X.getD o 0=z at *;obtain⟨q1,q2⟩:=q;go_wp2_with fail;refine(V KC).mono ?_;rintro e w5 ⟨v5,rfl,p,h5⟩;clear KC;rcases h5 with⟨bt,aT,aS⟩ | ⟨aJ,rfl⟩
       ·have HN:=O (V u w5 v5 p bt aT aS);clear u aw p aT aS;obtain rfl:q2=0:=bt;go_wp2;go_round
        case rel=>exact⟨o+1,g2D,f6J,V HN⟩
        case measure=>exact g7W
       ·have U:=O (V aw w5 p aJ);have hq:(q2==0)=false:=b0f aJ;clear u aw p aJ;go_wp2;go_ret2;exact V U
      ·obtain rfl:o=X.length:=f6J;rw[List.drop_length,List.foldl_nil]at I;have U:Hid (y2c w w0.heap.size E R (.returned (.tuple #[u3,.int .i64 0])) wr):=(by rw[<- I];exact⟨_,rfl,N,.inl ⟨rfl,aO,r⟩⟩);clear I aq S aY N r aO aM Z ba aW aP M aX;go_wp2;go_ret2;exact V U
theorem x7o w0 vl rs(I:∀W,Bw w0 W->Rcs W vl rs):∀f,z5E w0 vl rs f
 | 0=>x7p w0 vl rs I 0 fun _ e=>f6J
 | f+1=>x7p w0 vl rs I (f+1) fun m e=>(f6J:f=m) ▸ x7o w0 vl rs I f
theorem x7m:z8K:=by
 intro v rs c w N I;have b:=O (x7o w v rs (fun W h=>N.below h) 16 [] c [] w (.slice none 0 0) (.slice none 0 0) rfl I (b0r) (Sk.nil _ _) (Ok.nil _ _ _ _) M7K);have D:=O (Cn.y4R rs 16 [] c []);have x:Hid (∀a,w.grownBy a (Value.slice none 0 0).ownBlock->Bw w a):=fun a h=>(b0r).grown h (l0r _) (fun k e=>by cases e);rw[show Cn.full rs c=Cn.walk rs 16 [] c []from rfl];generalize Cn.walk rs 16 [] c []=q at *;obtain⟨C,s⟩:=q;obtain⟨H,E,rfl,_,_⟩:=N.shape;go_enter func86,ntmps86;go_wp2_with fail;refine(V b).mono ?_;rintro e B ⟨A,rfl,p,K⟩
 have U:Hid (x7J w (C,s) (.returned (.tuple #[A,.int .i64 s])) B):=by
  rcases K with⟨_,o,_⟩ | ⟨F,rfl⟩
  ·exact⟨_,rfl,o,V x B p⟩
  ·obtain rfl:C=[]:=V D F;exact⟨_,rfl,Ok.nil _ _ _ _,V x B p⟩
 go_wp2;go_ret2;exact V U
theorem z0K c w(h:Rune c):Calls prog 82 #[.int .i32 c] w fun e w'=>e=.returned (.bool (Cn.jl c))/\w'=w:=by
 obtain⟨Z,D⟩:=h;unfold Cn.jl;by_cases d:4352<=c
 ·by_cases P:c<=4370
  ·rw[d0t ⟨d,P⟩];exact M9P
  ·rw[d0f (fun h=>P h.2)];exact M9P
 ·rw[d0f (fun h=>d h.1)];exact M9P
theorem z0M c w(h:Rune c):Calls prog 83 #[.int .i32 c] w fun e w'=>e=.returned (.bool (Cn.jv c))/\w'=w:=by
 obtain⟨Z,D⟩:=h;unfold Cn.jv;by_cases d:4449<=c
 ·by_cases P:c<=4469
  ·rw[d0t ⟨d,P⟩];exact e3i
  ·rw[d0f (fun h=>P h.2)];exact e3i
 ·rw[d0f (fun h=>d h.1)];exact e3i
theorem z0L c w(h:Rune c):Calls prog 85 #[.int .i32 c] w fun e w'=>e=.returned (.bool (Cn.jt c))/\w'=w:=by
 obtain⟨Z,D⟩:=h;unfold Cn.jt;by_cases d:4520<=c
 ·by_cases P:c<=4546
  ·rw[d0t ⟨d,P⟩];exact W0F
  ·rw[d0f (fun h=>P h.2)];exact W0F
 ·rw[d0f (fun h=>d h.1)];exact W0F
theorem x4q r vt lo hi w(z:RecFit r)(N:I64 lo)(J:I64 hi):Calls prog 81 #[recV r vt,.int .i64 lo,.int .i64 hi] w (x0g w (Cn.covers r lo hi)):=by
 have Y:∀o,Bw w (w.alloc o):=fun o=>(b0r).alloc (l0r _) o;have x:=O Y;obtain⟨b,v⟩:=N;obtain⟨m,i⟩:=J;obtain⟨R,B⟩:=z.lo;obtain⟨a,s⟩:=z.hi;unfold Cn.covers recV;by_cases d:r.lo<=hi
 ·by_cases P:lo<=r.hi
  ·rw[d0t ⟨d,P⟩];exact U7e
  ·rw[d0f (fun h=>P h.2)];exact U7e
 ·rw[d0f (fun h=>d h.1)];exact U7e
theorem y1A v rs c w(N:Rcs w v rs)(I:Rune c):Calls prog 48 #[v,.int .i32 c] w (x0g w (Cn.plain rs c)):=by
 have K:=O (x2s v rs 1 c w N w5o I);obtain⟨X,y⟩:=I;rcases hit_at N 1 c with⟨Z,D⟩ | ⟨k,b,P,M,Z,x,D,rfl,S,o,u,z⟩
 ·have F:Cn.plain rs c=false:=(by unfold Cn.plain;rw[D]);rw[F];rw[Z]at K;obtain⟨B,M,rfl,_,_⟩:=N.shape;go_enter func48,ntmps48;go_wp2_with fail;refine c0m K fun Q Y=>?_;have U:x0g w false (.returned (.bool false)) Q:=⟨rfl,Y⟩;go_wp2;go_ret;exact U
 ·have F:Cn.plain rs c=decide ((rs.getD k Cn.none).kind=1):=(by unfold Cn.plain;rw[D]);rw[F];rw[Z]at K;have L:=O u;have d:=N.1;generalize rs.getD k Cn.none=r at *;by_cases t:r.kind=1
  ·rw[d0t t];go_enter func48,ntmps48;go_wp2_with fail;refine c0m K fun Q Y=>?_;have g:=((V L).below Y).kind;rw[t]at g;have U:x0g w true (.returned (.bool true)) Q:=⟨rfl,Y⟩;go_wp2;go_ret;exact U
  ·rw[d0f t];go_enter func48,ntmps48;go_wp2_with fail;refine c0m K fun Q Y=>?_;have g:=((V L).below Y).kind;have C:(r.kind==1)=false:=b0f t;have U:x0g w false (.returned (.bool false)) Q:=⟨rfl,Y⟩;go_wp2;go_ret;exact U
def dips(l:List Rec)(x:List Int)(j:Nat):Prop:=Cn.cls l (x.getD j 0)≠0/\Cn.cls l (x.getD j 0)<Cn.cls l (x.getD (j-1) 0)
theorem x6C(l:List Rec):∀x:List Int,Cn.fallsA l x=true↔∃j,1<=j/\j<x.length/\dips l x j
 | []=>by simp[Cn.fallsA]
 | [a]=>by
  simp only[Cn.fallsA];constructor
  ·intro h;cases h
  ·rintro⟨j,Z,D,_⟩;simp at D;omega
 | a::b::r=>by
  rw[Cn.fallsA,Bool.or_eq_true,x6C l (b::r),decide_eq_true_iff];constructor
  ·rintro(h | ⟨j,Z,D,J⟩)
   ·exact⟨1,f6J,M7L,by simpa[dips]using h⟩
   ·refine⟨j+1,f6J,by simp at D ⊢;exact f6J,?_⟩;obtain⟨j,rfl⟩:∃i,j=i+1:=⟨j-1,f6J⟩;exact p0K
  ·rintro⟨j,Z,D,J⟩;obtain⟨j,rfl⟩:∃i,j=i+1:=⟨j-1,f6J⟩
   cases j with
   | zero=>exact .inl p0K
   | succ j=>exact .inr ⟨j+1,f6J,by simp at D ⊢;exact f6J,p0K⟩
theorem x9j{l x j}(Z:1<=j)(D:j<x.length)(h:dips l x j):Cn.fallsA l x=true:=(x6C l x).2 ⟨j,Z,D,h⟩
theorem y8D{l x}(h:∀j,1<=j->j<x.length->¬dips l x j):Cn.fallsA l x=false:=by
 rcases hb:Cn.fallsA l x with _ | _
 ·rfl
 ·obtain⟨j,a,b,c⟩:=(x6C l x).1 hb;exact absurd c (h j a b)
theorem z6d{w v rs}(N:Rcs w v rs) c:I64 (Cn.cls rs c):=by
 rcases hit_at N 2 c with⟨_,D⟩ | ⟨k,_,_,_,_,_,D,_,_,_,_,z⟩
 ·unfold Cn.cls;rw[D];exact⟨e8M,e8M⟩
 ·unfold Cn.cls;rw[D];exact z.n
def FaIn(w:World)(v u:Value)(rs:List Rec)(xs:List Int)(k:Nat)(wr:World):Prop:=Rcs wr v rs/\Sk .i32 wr u xs/\Below w.heap.size w wr/\∀j,1<=j->j<k->j<xs.length->¬dips rs xs j
theorem x5C v u rs xs w(hv:Rcs w v rs)(W:Sk .i32 w u xs)(z:xs.length<=1000000000):Calls prog 87 #[v,u] w (x0g w (Cn.fallsA rs xs)):=by
 have C:Hid (∀j,1<=j->j<xs.length->dips rs xs j->Cn.fallsA rs xs=true):=fun j a b c=>x9j a b c;have ab:Hid ((∀j,1<=j->j<xs.length->¬dips rs xs j)->Cn.fallsA rs xs=false):=y8D;generalize Cn.fallsA rs xs=ar at *;have R:Hid (FaIn w v u rs xs 1 w):=⟨hv,W,b0r,fun j a b _=>f6J⟩;have af:=hv.1;have g:Hid (∀c,I64 (Cn.cls rs c)):=fun c=>z6d hv c;obtain⟨B,M,rfl,_,_⟩:=hv.shape;obtain⟨p,m,rfl,s,ai⟩:=W.shape;go_enter func87,ntmps87;go_wp2;go_loopw[5,6] (fun Z _ wr=>∃k:Nat,Z=.int .i64 k/\1<=k/\k<=xs.length+1/\FaIn w (.slice B rs.length M) (.slice p xs.length m) rs xs k wr) (fun Z _ _=>xs.length+1-(intOf Z).toNat)
 case atStart=>exact⟨1,rfl,f6J,f6J,V R⟩
 case round =>
  obtain⟨k,rfl,I,ag,G,f,T,J⟩:=hrel;by_cases E:k<xs.length
  ·obtain⟨b,P,A,q,_,_,Y⟩:=f.place f6J;obtain⟨rfl,rfl⟩:p=some ⟨b,P,none⟩/\m=A:=W3O;have K:=Y k E;have i:=O (x2T _ rs (xs.getD k 0) wr G (x0R f E));have K2:Hid (∀Q,Bw wr Q->Calls prog 130 #[.slice B rs.length M,.int .i32 (xs.getD (k-1) 0)] Q (IntB Q (Cn.cls rs (xs.getD (k-1) 0)))):=fun Q h=>x2T _ rs _ Q (G.below h) (x0R f f6J);have ae:Hid (∀Q,Bw wr Q->Q.cell? ⟨b,P+(k-1),none⟩=some (.int .i32 (xs.getD (k-1) 0))):=fun Q h=>(by rw[Below.cell h (x0a (Y (k-1) f6J))];exact Y (k-1) f6J);have X:Hid (dips rs xs k↔Cn.cls rs (xs.getD k 0)≠0/\Cn.cls rs (xs.getD k 0)<Cn.cls rs (xs.getD (k-1) 0)):=Iff.rfl
   have S:Hid (¬dips rs xs k->∀Q,Bw wr Q->FaIn w (.slice B rs.length M) (.slice (some ⟨b,P,none⟩) xs.length m) rs xs (k+1) Q):=fun hd Q h=>⟨G.below h,f.below h,bthen T h,fun j a c d=>by
    rcases Nat.lt_or_ge j k with h | h
    ·exact J j a h d
    ·obtain rfl:j=k:=by omega
     exact hd⟩
   have x:=O T;clear Y G f T J q ab;have n:=O (V C k I E);have D:=V g (xs.getD k 0);have r:=V g (xs.getD (k-1) 0);generalize Cn.cls rs (xs.getD k 0)=d1,Cn.cls rs (xs.getD (k-1) 0)=d0 at *;generalize xs.getD k 0=z1,xs.getD (k-1) 0=z0 at *;obtain⟨am,aq⟩:=D;obtain⟨y,aj⟩:=r;go_wp2_with fail;refine c0m i fun Q F=>?_;have K:=V ae Q F;have K3:=O (V K2 Q F);have N:Hid (∀t,Bw Q t->¬dips rs xs k->FaIn w (.slice B rs.length M) (.slice (some ⟨b,P,none⟩) xs.length m) rs xs (k+1) t):=fun t h hd=>V S hd t (bthen F h);have l:=O (bthen (V x) F);by_cases hz:d1=0
   ·have L:Hid (FaIn w (.slice B rs.length M) (.slice (some ⟨b,P,none⟩) xs.length m) rs xs (k+1) Q):=V N Q (b0r) (fun h=>((V X).1 h).1 hz);subst hz;go_wp2;go_round
    case rel=>exact⟨k+1,g2A,f6J,f6J,V L⟩
    case measure=>exact g7T
   ·have qz:(d1==0)=false:=b0f hz;by_cases hd:d1<d0
    ·obtain rfl:=V n ((V X).2 ⟨hz,hd⟩);go_wp2_with fail;refine c0m K3 fun t H=>?_;have U:=O (bthen (V l) H);go_wp2;go_ret;exact⟨rfl,V U⟩
    ·have L:=O (fun t h=>V N t h (fun h=>hd ((V X).1 h).2));go_wp2_with fail;refine c0m K3 fun t H=>?_;have o:=O (V L t H);go_wp2;go_round
     case rel=>exact⟨k+1,g2A,f6J,f6J,V o⟩
     case measure=>exact g7T
  ·obtain rfl:=V ab (fun j a b=>J j a f6J b);have U:=O T;exact t3L
theorem x0B c w(h:Rune c):Calls prog 125 #[.int .i32 c] w fun e w'=>e=.returned (.bool (Cn.scalar c))/\w'=w:=by
 obtain⟨Z,D⟩:=h;by_cases d:0<=c
 ·by_cases P:c<=55295
  ·exact s7u
  ·by_cases f:57344<=c
   ·by_cases X:c<=1114111
    ·exact s7u
    ·exact f2D
   ·exact f2D
 ·have f:¬57344<=c:=f6J;exact f2D
theorem y7x{x:List Int}{f:Int->Bool}{k}(G:k<x.length)(h:f (x.getD k 0)=false):x.all f=false:=by grind
theorem z2b{x:List Int}{f:Int->Bool}(h:∀j,j<x.length->f (x.getD j 0)=true):x.all f=true:=by
 rw[List.all_eq_true];intro y hy;obtain⟨j,X,rfl⟩:=List.getElem_of_mem hy;have:=h j X;simpa[List.getD,X]using this
theorem y1C u xs w(W:Sk .i32 w u xs)(S:xs.length<=1000000000):Calls prog 177 #[u] w fun e w'=>e=.returned (.bool (xs.all Cn.scalar))/\w'=w:=by
 have C:Hid (∀k,k<xs.length->Cn.scalar (xs.getD k 0)=false->xs.all Cn.scalar=false):=fun k=>y7x;have H:Hid ((∀j,j<xs.length->Cn.scalar (xs.getD j 0)=true)->xs.all Cn.scalar=true):=z2b;generalize xs.all Cn.scalar=R at *;have r:=O W;obtain⟨p,m,rfl,s,B⟩:=W.shape;go_enter func177,ntmps177;go_wp2;go_loop [3] (fun Z=>∃k:Nat,Z=.int .i64 k/\k<=xs.length/\∀j,j<k->Cn.scalar (xs.getD j 0)=true) (fun Z=>xs.length-(intOf Z).toNat)
 case atStart=>exact w6X
 case round =>
  obtain⟨k,rfl,G,J⟩:=hrel;by_cases E:k<xs.length
  ·obtain⟨b,P,A,q,_,_,Y⟩:=(V r).place f6J;obtain⟨rfl,rfl⟩:p=some ⟨b,P,none⟩/\m=A:=W3O;have F:=Y k E;have K:=O (x0B (xs.getD k 0) w (x0R (V r) E));have n:=O (V C k E)
   have f:Hid (Cn.scalar (xs.getD k 0)=true->∀j,j<k+1->Cn.scalar (xs.getD j 0)=true):=fun h j X=>by
    rcases Nat.lt_or_ge j k with t | t
    ·exact J j t
    ·grind
   clear Y q r C H J;generalize hy:Cn.scalar (xs.getD k 0)=y at n f K;generalize xs.getD k 0=z at *;go_wp2_with fail;refine(V K).mono ?_;rintro e Q ⟨rfl,rfl⟩
   cases y with
   | false =>
    obtain rfl:=V n rfl;exact t6x
   | true =>
    have c:=O (V f rfl);go_wp2;go_round
    case rel=>exact⟨k+1,g2A,f6J,V c⟩
    case measure=>exact g7T
  ·obtain rfl:k=xs.length:=f6J;obtain rfl:=V H J;exact t6x
theorem y3e u xs(a b:Nat) w(W:Sk .i32 w u xs)(S:xs.length<=1000000000):Calls prog 126 #[u,.int .i64 a,.int .i64 b] w fun e w'=>e=.returned (.bool (Cn.list xs a b))/\w'=w:=by
 have K:=O (y1C u xs w W S);obtain⟨p,m,rfl,s,B⟩:=W.shape;unfold Cn.list;by_cases Z:a<=xs.length
 ·by_cases D:xs.length<=b
  ·rw[d0t ⟨Z,D⟩,Bool.true_and];go_enter func126,ntmps126;exact P3m
  ·rw[d0f (fun h=>D h.2),Bool.false_and];go_enter func126,ntmps126;exact t6u
 ·rw[d0f (fun h=>Z h.1),Bool.false_and];go_enter func126,ntmps126;exact t6u
theorem x9W u w(W:u<18446744073709551616):Calls prog 124 #[.float .f64 u] w fun e w'=>e=.returned (.bool (Cn.weight u))/\w'=w:=by
 have K:=O (x3W u w);unfold Cn.weight;by_cases Z:u<=9218868437227405312
 ·rw[d0t Z];have D:(u:Int)<=9218868437227405312:=f6J;go_enter func124,ntmps124;go_wp2_with fail;refine(V K).mono ?_;rintro e Q ⟨rfl,rfl⟩;exact t6v
 ·rw[d0f Z];have D:¬(u:Int)<=9218868437227405312:=f6J;go_enter func124,ntmps124;go_wp2_with fail;refine(V K).mono ?_;rintro e Q ⟨rfl,rfl⟩;go_wp2;go_ret;refine⟨?_,rfl⟩;show Ending.returned (.bool (decide ((u:Int)<=9218868437227405312)))=_;rw[d0f f6J]
theorem y3U{b:ByteArray}(h:b.size=0):b=⟨#[]⟩:=by
 obtain⟨⟨l⟩⟩:=b;have:l=[]:=(by simpa[ByteArray.size]using h);subst this;rfl
theorem y9H{b:ByteArray}(h:¬b.size=0):¬b.toList=[]:=fun e=>h (by
 have:b.data.toList.length=0:=I7C;show b.data.size=0;rw[<- Array.length_toList]
 exact this)
def bareB(n0:Int)(m:Nat)(nm ot:ByteArray)(wt:Nat)(nf tof namef otherf wf:Bool):Bool :=
 (nf||decide (n0=0))&&(tof||decide (m=0))&&(namef||decide (nm.size=0))&&(otherf||decide (ot.size=0))&&(wf||decide (wt=0))
theorem way3(b:Bool)(c:Prop):b=true\/(b=false/\c)\/(b=false/\¬c):=by cases b<;>simp[Classical.em]
theorem z2g kd lo hi n0 ao m cap nm ot wt nf tof namef otherf wf w:Calls prog 122 #[.agg #[.int .i64 kd,.int .i64 lo,.int .i64 hi,.int .i64 n0,.slice ao m cap,.string nm,.string ot,.float .f64 wt],.bool nf,.bool tof,.bool namef,.bool otherf,.bool wf] w (x0g w (bareB n0 m nm ot wt nf tof namef otherf wf)):=by
 have x:Hid (∀o,Bw w (w.alloc o)):=fun o=>(b0r).alloc (l0r _) o;have C:=O (fun w=>x3W wt w);obtain⟨A,n⟩:∃A,bareB n0 m nm ot wt nf tof namef otherf wf=A:=⟨_,rfl⟩;rw[n]
 all_goals
  rcases way3 nf (n0=0)with rfl | ⟨rfl,c⟩ | ⟨rfl,c⟩;rotate_left 2
  ·have q:(n0==0)=false:=b0f c;exact N8C
  rotate_left;subst c
 all_goals
  rcases way3 tof (m=0)with rfl | ⟨rfl,c⟩ | ⟨rfl,c⟩;rotate_left 2
  ·have q:((m:Int)==0)=false:=b0f f6J;exact N8C
  rotate_left;subst c
 all_goals
  rcases way3 namef (nm.size=0)with rfl | ⟨rfl,c⟩ | ⟨rfl,c⟩;rotate_left 2
  ·have q:=y9H c;exact N8C
  rotate_left;obtain rfl:=y3U c
 all_goals
  rcases way3 otherf (ot.size=0)with rfl | ⟨rfl,c⟩ | ⟨rfl,c⟩;rotate_left 2
  ·have q:=y9H c;exact N8C
  rotate_left;obtain rfl:=y3U c
 all_goals
  rcases way3 wf (wt=0)with rfl | ⟨rfl,c⟩ | ⟨rfl,c⟩;rotate_left 2
  ·have q:((wt:Int)==0)=false:=b0f f6J;exact N8C
  rotate_left;subst c
 all_goals
  obtain rfl:A=true:=n.symm.trans (by simp[bareB, *]);clear n;go_enter func122,ntmps122;go_wp2_with fail
  try(refine(V C _).mono ?_;rintro e Q ⟨rfl,rfl⟩;go_wp2)
  go_ret;exact⟨rfl,V x _⟩
theorem y3d(r:Rec) vt nf tof namef otherf wf w(N:Sk .i32 w vt r.to):Calls prog 122 #[recV r vt,.bool nf,.bool tof,.bool namef,.bool otherf,.bool wf] w (x0g w (Cn.bare r nf tof namef otherf wf)):=by
 obtain⟨B,M,rfl,_,_⟩:=N.shape;exact z2g _ _ _ _ _ _ _ _ _ _ _ _ _ _ _ _
