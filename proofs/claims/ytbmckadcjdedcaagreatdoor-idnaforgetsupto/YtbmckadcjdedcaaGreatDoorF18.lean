import Derived.Test.YtbmckadcjdedcaaGreatDoorF17
import Derived.BigQuiet
import Derived.Deep.QuietTactic
import Derived.Deep.DeepCutAuto
import Derived.Laws.BitsLemmas
set_option maxHeartbeats 4000000
set_option maxRecDepth 8000
namespace Go.Proofs.YtbmckadcjdedcaaGreatDoor
open Go.Proofs.Tryz
open Go.RowKit
section
variable{p:Prop}
theorem u7C(h:p:=by rw[Y.cell (x0a h.1)];exact h.1):p:=h
theorem S5z(h:p:=by exact⟨by first| rfl | exact k,congrArg Value.bool (V L)⟩):p:=h
theorem N7P(h:p:=by
 have KC:=O (V KP c wr ⟨f6J,f6J⟩);clear R KP g f T Y;generalize sp c=y at *;go_wp2_with fail;refine c0m KC fun w2 F=>?_;have K:=O ((V K).on F);clear KC F z m y2 N C B L y7
 cases y with
 | true =>
   obtain rfl:=V HH rfl;clear HH HX;go_wp2;go_ret;exact⟨rfl,(V K).2⟩
 | false =>
   have v:=O (V HX rfl);clear HH HX;go_wp2
   go_roundw
   case rel=>exact⟨k+1,c+M,g2A,g2A,f6J,f6J,f6J,by rw[(f6J:64-(k+1)=r)];exact V v,V K⟩
   case measure=>exact g7V):p:=h
theorem M7T(h:p:=by rw[Y.cell (x0a h.2)];exact h.2):p:=h
theorem V4H(h:p:=by go_wp2;go_ret;exact⟨rfl,V i⟩):p:=h
theorem M3V(h:p:=by
 clear l K;obtain⟨k,c,rfl,rfl,hk,k0,k1,R,X⟩:=hrel;have K:=O X;obtain⟨z,m,y2,N,C,B,L,y7⟩:=X.1;clear X;by_cases ai:k<64
 · by_cases E:c<=hi1
   · obtain⟨r,hr⟩:∃r,64-k=r+1:=⟨63-k,f6J⟩
     rw[hr]at R;have HH:=O (fun h=>(V g M hi1 r c E h).symm.trans R);have HX:=O (fun h=>(V f M hi1 r c E h).symm.trans R);exact N7P
   · obtain rfl:=(V T M hi1 (64-k) c f6J).symm.trans R
     exact n9v
 · obtain rfl:k=64:=by omega
   obtain rfl:=(V Y M hi1 c).symm.trans R;exact n9v):p:=h
theorem S5A(h:p:=by exact⟨by first| rfl | exact k,congrArg Value.bool (V L)⟩):p:=h
theorem t0A(h:p:=by rw[Y.cell (x0a h.3)];exact h.3):p:=h
theorem w7I(h:p:=by
 clear l K;obtain⟨k,c,rfl,rfl,hk,k0,k1,R,X⟩:=hrel;have K:=O X;obtain⟨z,m,y2,N,C,B,L,y7⟩:=X.1;clear X;by_cases ai:k<64
 · by_cases E:c<=hi2
   · obtain⟨r,hr⟩:∃r,64-k=r+1:=⟨63-k,f6J⟩
     rw[hr]at R;have HH:=O (fun h=>(V g M hi2 r c E h).symm.trans R);have HX:=O (fun h=>(V f M hi2 r c E h).symm.trans R);exact N7P
   · obtain rfl:=(V T M hi2 (64-k) c f6J).symm.trans R
     exact n9w
 · obtain rfl:k=64:=by omega
   obtain rfl:=(V Y M hi2 c).symm.trans R;exact n9w):p:=h
theorem r0r(h:p:=by go_wp2;go_ret;exact⟨rfl,V B⟩):p:=h
theorem f5X(h:p:=by first| rfl | trivial):p:=h
theorem n9v(h:p:=by clear R KP g f T Y z m y2 N C B L y7;go_wp2;go_ret;exact⟨rfl,(V K).2⟩):p:=h
theorem w6u(h:p:=by rw[Y.cell (x0a h.4)];exact h.4):p:=h
theorem F5r(h:p:=by have h1:=o0d ((V X).symm.trans h);rw[V Q h,x1e h1.1 f6J,d0t J,Bool.true_and]):p:=h
theorem n9w(h:p:=by clear R KP g f T Y z m y2 N C B L y7;go_wp2;go_ret;exact⟨rfl,(V K).2⟩):p:=h
theorem R5i(h:p:=by exact⟨0,lo1+d*M,rfl,rfl,f6J,f6J,f6J,V l,V K⟩):p:=h
theorem V4J(h:p:=by go_wp2;go_ret;exact⟨rfl,V i⟩):p:=h
theorem u2z(h:p:=by rcases C with rfl|rfl<;>rfl):p:=h
theorem w6Y(h:p:=by rcases C with rfl|rfl<;>exact⟨f6J,f6J⟩):p:=h
theorem W6G(h:p:=by rw[V Q h,d0f J,Bool.false_and]):p:=h
theorem u2A(h:p:=by rcases C with rfl|rfl<;>rfl):p:=h
theorem W6H(h:p:=by rw[V Q h,d0f J,Bool.false_and]):p:=h
theorem v4X(h:p:=by rcases C with rfl<;>rfl):p:=h
theorem U0g(h:p:=by rw[V X,d0t ⟨j,K,q⟩]):p:=h
theorem W3x(h:p:=by rw[V X,d0f c]):p:=h
theorem u9x(h:p:=by rcases C with rfl<;>exact⟨f6J,f6J⟩):p:=h
end
namespace Cn
theorem z1N{k}(h:fam k=10):k=15:=by
  unfold fam at h;split at h
  · omega
  · omega
theorem y4U{b s hi c k}(h:¬c<=hi):clashA b s hi k c=false:=by
  cases k with
  | zero=>rfl
  | succ k=>rw[clashA,if_neg h]
theorem y4V{b s hi c k}(h:c<=hi)(U:speaks b c=true):clashA b s hi (k+1) c=true:=by
  rw[clashA,if_pos h,U];rfl
theorem y1V{b s hi c k}(h:c<=hi)(U:speaks b c=false):clashA b s hi (k+1) c=clashA b s hi k (c+s):=by
  rw[clashA,if_pos h,U];rfl
end Cn
theorem bytes_beq(a b:ByteArray):(a.toList==b.toList)=decide (a=b):=by
  have h:a.toList=b.toList↔a=b:=⟨fun h=>by
    rw[ByteArray.toList_eq,ByteArray.toList_eq]at h;obtain⟨⟨x⟩⟩:=a;obtain⟨⟨y⟩⟩:=b
    simpa using h,fun h=>by rw[h]⟩
  by_cases e:a=b
  · grind
  · grind
structure BoxAt(w:World)(b:Nat)(kd lo hi n:Int)(vt:Value)(nm ot:ByteArray)(wt:Nat):Prop where
  kind:w.cell? ⟨b,0,none⟩=some (.int .i64 kd)
  lo:w.cell? ⟨b,1,none⟩=some (.int .i64 lo)
  hi:w.cell? ⟨b,2,none⟩=some (.int .i64 hi)
  n:w.cell? ⟨b,3,none⟩=some (.int .i64 n)
  tq:w.cell? ⟨b,4,none⟩=some vt
  name:w.cell? ⟨b,5,none⟩=some (.string nm)
  other:w.cell? ⟨b,6,none⟩=some (.string ot)
  wt:w.cell? ⟨b,7,none⟩=some (.float .f64 wt)
theorem BoxAt.keep{w w' b kd lo hi n vt}{nm ot wt}(h:BoxAt w b kd lo hi n vt nm ot wt)(Y:Bw w w'):BoxAt w' b kd lo hi n vt nm ot wt :=
  ⟨u7C,M7T,t0A,w6u,by rw[Y.cell (x0a h.5)];exact h.5,by rw[Y.cell (x0a h.6)];exact h.6,by rw[Y.cell (x0a h.7)];exact h.7,by rw[Y.cell (x0a h.8)];exact h.8⟩
theorem y1S(w:World) kd lo hi n vt nm ot wt:BoxAt (w.alloc (.cells #[.int .i64 kd,.int .i64 lo,.int .i64 hi,.int .i64 n,vt,.string nm,.string ot,.float .f64 wt] 67)) w.heap.size kd lo hi n vt nm ot wt:=by
  refine⟨?_,?_,?_,?_,?_,?_,?_,?_⟩<;>simp[World.cell?,World.alloc,-World.alloc_eq]
def boxO(kd lo hi n:Int)(vt:Value)(nm ot:ByteArray)(wt:Nat):Obj:=.cells #[.int .i64 kd,.int .i64 lo,.int .i64 hi,.int .i64 n,vt,.string nm,.string ot,.float .f64 wt] 67
theorem z4P w k1 l1 h1 n1 v1 a1 b1 t1 k2 l2 h2 n2 v2 a2 b2 t2 :
    ∃W,(w.alloc (boxO k1 l1 h1 n1 v1 a1 b1 t1)).alloc (boxO k2 l2 h2 n2 v2 a2 b2 t2)=W/\BoxAt W w.heap.size k1 l1 h1 n1 v1 a1 b1 t1/\BoxAt W (w.heap.size+1) k2 l2 h2 n2 v2 a2 b2 t2/\Bw w W:=by
  refine⟨_,rfl,(y1S w k1 l1 h1 n1 v1 a1 b1 t1).keep ((b0r).alloc (l0r _) _),?_,((b0r).alloc (l0r _) _).alloc M7K _⟩;have:=y1S (w.alloc (boxO k1 l1 h1 n1 v1 a1 b1 t1)) k2 l2 h2 n2 v2 a2 b2 t2;simpa[boxO]using this
def ClIn(w:World)(b:Nat)(k2 l2 h2 n2:Int)(v2:Value)(a2 b2:ByteArray)(t2:Nat)(W:World):Prop:=BoxAt W b k2 l2 h2 n2 v2 a2 b2 t2/\Below w.heap.size w W
theorem ClIn.on{w b k2 l2 h2 n2 v2}{a2 b2 t2 W W'}(h:ClIn w b k2 l2 h2 n2 v2 a2 b2 t2 W)(Y:Bw W W'):ClIn w b k2 l2 h2 n2 v2 a2 b2 t2 W':=⟨h.1.keep Y,x0b h.2 Y⟩
theorem y1f:z3B:=by
  intro a b va vb w fa fb aC aD ra rb;have o:∀k w,Hid (I64 k)->Hid (Calls prog 72 #[.int .i64 k] w fun e w'=>e=.returned (.int .i64 (Cn.fam k))/\w'=w):=fun k w h=>x0l k w (V h);have KS:=O (fun w=>x6Y a va w fa);have KP:=O (fun c w hc=>x4u b vb c w fb hc);obtain⟨ab,R⟩:∃ab,Cn.clash a b=ab:=⟨_,rfl⟩;have t:=R;unfold Cn.clash at t;rw[R];clear R;have Z:=fun h=>Cn.x0n (r:=a) ra h;have h2:=fun h=>Cn.x0n (r:=b) rb h;have h3:=Cn.right_step ra;obtain⟨ao,ca,rfl,_,_⟩:=aC.shape;obtain⟨bo,P,rfl,_,_⟩:=aD.shape;have g:Hid (∀s hi k c,c<=hi->Cn.speaks b c=true->Cn.clashA b s hi (k+1) c=true):=fun s hi k c h hs=>Cn.y4V h hs;have f:Hid (∀s hi k c,c<=hi->Cn.speaks b c=false->Cn.clashA b s hi (k+1) c=Cn.clashA b s hi k (c+s)):=fun s hi k c h hs=>Cn.y1V h hs;have T:Hid (∀s hi k c,¬c<=hi->Cn.clashA b s hi k c=false):=fun s hi k c h=>Cn.y4U h;have Y:Hid (∀s hi c,Cn.clashA b s hi 0 c=false):=fun s hi c=>rfl;have ae:b.kind=15->Cn.fam b.kind=10:=fun h=>(by rw[h];rfl);have Q:Cn.fam a.kind=10->a.kind=15:=Cn.z1N;have aq:=fa.kind;have ar:=fb.kind;clear aC aD ra rb fa fb;generalize Cn.clashA b=cA,Cn.speaks b=sp,Cn.step a=M at *;unfold recV at *;generalize a.kind=kind1,a.lo=lo1,a.hi=hi1,a.n=n1 at *;generalize a.name=name1,a.other=other1,a.wt=wt1,b.kind=G at *;generalize b.lo=lo2,b.hi=hi2,b.n=n2 at *;generalize b.name=name2,b.other=other2,b.wt=af at *;generalize a.to.length=tl1,b.to.length=D at *;have F1:=O aq;have J:=O ar;clear aq ar;generalize Cn.fam=fam at *;obtain⟨w0,I,H,am,ay⟩:=z4P w kind1 lo1 hi1 n1 (.slice ao tl1 ca) name1 other1 wt1 G lo2 hi2 n2 (.slice bo D P) name2 other2 af;unfold boxO at I;have U:=O H;have i:=O am;have aj:=O ay;clear ay;obtain⟨x,u,S,p,x4,x5,x6,x7⟩:=H;obtain⟨z,m,y2,N,C,B,L,y7⟩:=am;by_cases hf:fam kind1=fam G;rotate_left
  · rw[if_pos hf]at t
    subst t;have q:(fam kind1 != fam G)=true:=(by simp[hf]);clear Z h2 h3 ae Q g f T Y KS KP hf;go_enter func71,ntmps71;go_wp2_with fail;go_quiet(first| (go_at_call 72;refine Calls.quiet_of_same (V (o _ _ ?_));with_reducible (first| exact F1 | exact J)));go_wp2;go_ret;exact⟨rfl,x0b (V aj) (x0k ⟨_,rfl⟩)⟩
  rw[if_neg (by simpa using hf)]at t;have q:(fam kind1 != fam G)=false:=(by simp[hf]);by_cases j:kind1=15
  · rw[if_pos j]at t
    have aB:(kind1==15)=true:=(by simp[j]);clear j hf;have e1:=bytes_beq name1 name2;have e2:=bytes_beq other1 other2;have e3:=bytes_beq name1 other2;have e4:=bytes_beq other1 name2
    have az:ab=((decide (name1=name2)&&decide (other1=other2))||(decide (name1=other2)&&decide (other1=name2))):=by
      rw[<- t];by_cases c1:name1=name2<;>by_cases c2:other1=other2<;>by_cases c3:name1=other2<;>by_cases c4:other1=name2<;>simp_all
    clear t Z h2 h3 ae Q g f T Y KS KP;generalize decide (name1=name2)=c1,decide (other1=other2)=c2,decide (name1=other2)=c3,decide (other1=name2)=c4 at *;subst az;cases c1<;>cases c2<;>cases c3<;>cases c4<;>
    (go_enter func71,ntmps71
     go_wp2_with fail;go_quiet(first| (go_at_call 72;refine Calls.quiet_of_same (V (o _ _ ?_));with_reducible (first| exact F1 | exact J)));go_wp2;go_ret
     exact⟨rfl,x0b (V aj) (x0k ⟨_,rfl⟩)⟩)
  rw[if_neg j]at t;have aB:(kind1==15)=false:=b0f j;have aw:G≠15:=fun h=>j (Q (hf.trans (ae h)));obtain⟨a0,a1,a2⟩:=Z j;obtain⟨b0,b1,b2⟩:=h2 aw;obtain⟨s0,s1⟩:=h3;clear Z h2 ae Q aw j hf;have aI:∃mx,max lo1 lo2=mx/\0<=mx/\mx<=1114111/\lo1<=mx:=⟨_,rfl,f6J,f6J,f6J⟩;obtain⟨mx,aG,m0,m1,m2⟩:=aI;have aH:∃mn,min hi1 hi2=mn/\0<=mn/\mn<=1114111:=⟨_,rfl,f6J,f6J⟩;obtain⟨mn,aF,n0,n9⟩:=aH;rw[aG,aF]at t
  obtain⟨c0,ag,c1,c2,t⟩:∃c0:Int,(if lo1<mx then lo1+(mx-lo1+M-1) / M*M else lo1)=c0/\0<=c0/\c0<=1114200/\cA M mn 64 c0=ab:=by
    refine⟨_,rfl,?_,?_,t⟩
    · split
      · have:=Int.ediv_nonneg (a:=mx-lo1+M-1) (b:=M) f6J f6J
        have:=Int.mul_nonneg this (f6J:0<=M);omega
      · omega
    · split
      · have:=Int.ediv_mul_le (mx-lo1+M-1) (f6J:M≠0)
        omega
      · omega
  have l:=O t;clear t;have A:Hid (∀W,Bw w0 W->Calls prog 118 #[.agg #[.int .i64 kind1,.int .i64 lo1,.int .i64 hi1,.int .i64 n1,.slice ao tl1 ca,.string name1,.string other1,.float .f64 wt1]] W (fun e W'=>e=.returned (.int .i64 M)/\BoxAt W' w.heap.size kind1 lo1 hi1 n1 (.slice ao tl1 ca) name1 other1 wt1/\ClIn w (w.heap.size+1) G lo2 hi2 n2 (.slice bo D P) name2 other2 af W')):=fun W hb=>(V KS W).mono (fun e W' ⟨Z,h2⟩=>⟨Z,(V U).keep (x0b hb h2),(V i).keep (x0b hb h2),x0b (V aj) (x0b hb h2)⟩);clear KS U i aj;rcases Int.lt_or_le lo1 lo2 with g1|g1
  · obtain rfl:lo2=mx:=by omega
    rw[if_pos g1]at ag;obtain⟨d,hd⟩:∃d,(lo2-lo1+M-1).tdiv M=d:=⟨_,rfl⟩;have aA:(lo2-lo1+M-1) / M=d:=(by rw[<- hd,Int.tdiv_eq_ediv_of_nonneg f6J]);have e0:=Int.mul_nonneg (Int.ediv_nonneg (a:=lo2-lo1+M-1) (b:=M) f6J f6J) (f6J:0<=M);have e1:=Int.ediv_mul_le (lo2-lo1+M-1) (f6J:M≠0);have e8:=Int.ediv_nonneg (a:=lo2-lo1+M-1) (b:=M) f6J f6J;have e9:=Int.ediv_le_self (a:=lo2-lo1+M-1) M f6J;rw[aA]at ag e0 e1 e8 e9;obtain rfl:=ag;have e2:(M==0)=false:=b0f f6J;clear aA;rcases Int.lt_or_le hi2 hi1 with g2|g2
    · obtain rfl:hi2=mn:=by omega
      go_enter func71,ntmps71;go_wp2_with fail;go_quiet(first| (go_at_call 72;refine Calls.quiet_of_same (V (o _ _ ?_));with_reducible (first| exact F1 | exact J)));go_wp2_with fail;go_quiet(fail);clear o F1 J;go_wp2_with fail;refine((V A) _ (x0k ⟨_,rfl⟩)).mono ?_;rintro e1 w1 ⟨rfl,H,X⟩;have K:=O X;clear A X x u S p x4 x5 x6 x7 z m y2 N C B L y7 I;obtain⟨x,u,S,p,x4,x5,x6,x7⟩:=H;go_wp2_with fail;go_quiet(fail);have K:=O ((V K).on (x0k ⟨nq,rfl⟩));go_wp2;clear x u S p x4 x5 x6 x7;go_loopw[8,9] (fun cv kv wr=>∃(k:Nat) (c:Int),cv=.int .i64 c/\kv=.int .i64 k/\k<=64/\0<=c/\c<=1114200/\cA M hi2 (64-k) c=ab/\ClIn w (w.heap.size+1) G lo2 hi2 n2 (.slice bo D P) name2 other2 af wr) (fun _ kv _=>64-(intOf kv).toNat)
      case atStart=>exact R5i
      case round =>exact w7I
    · obtain rfl:hi1=mn:=by omega
      go_enter func71,ntmps71;go_wp2_with fail;go_quiet(first| (go_at_call 72;refine Calls.quiet_of_same (V (o _ _ ?_));with_reducible (first| exact F1 | exact J)));go_wp2_with fail;go_quiet(fail);clear o F1 J;go_wp2_with fail;refine((V A) _ (x0k ⟨_,rfl⟩)).mono ?_;rintro e1 w1 ⟨rfl,H,X⟩;have K:=O X;clear A X x u S p x4 x5 x6 x7 z m y2 N C B L y7 I;obtain⟨x,u,S,p,x4,x5,x6,x7⟩:=H;go_wp2_with fail;go_quiet(fail);have K:=O ((V K).on (x0k ⟨nq,rfl⟩));go_wp2;clear x u S p x4 x5 x6 x7;go_loopw[8,9] (fun cv kv wr=>∃(k:Nat) (c:Int),cv=.int .i64 c/\kv=.int .i64 k/\k<=64/\0<=c/\c<=1114200/\cA M hi1 (64-k) c=ab/\ClIn w (w.heap.size+1) G lo2 hi2 n2 (.slice bo D P) name2 other2 af wr) (fun _ kv _=>64-(intOf kv).toNat)
      case atStart=>exact R5i
      case round =>exact M3V
  · obtain rfl:lo1=mx:=by omega
    rw[if_neg f6J]at ag;obtain rfl:=ag;rcases Int.lt_or_le hi2 hi1 with g2|g2
    · obtain rfl:hi2=mn:=by omega
      go_enter func71,ntmps71;go_wp2_with fail;go_quiet(first| (go_at_call 72;refine Calls.quiet_of_same (V (o _ _ ?_));with_reducible (first| exact F1 | exact J)));go_wp2_with fail;go_quiet(fail);clear o F1 J;go_wp2_with fail;refine((V A) _ (x0k ⟨_,rfl⟩)).mono ?_;rintro e1 w1 ⟨rfl,H,X⟩;have K:=O X;clear A X x u S p x4 x5 x6 x7 z m y2 N C B L y7 I;obtain⟨x,u,S,p,x4,x5,x6,x7⟩:=H;go_wp2;clear x u S p x4 x5 x6 x7;go_loopw[8,9] (fun cv kv wr=>∃(k:Nat) (c:Int),cv=.int .i64 c/\kv=.int .i64 k/\k<=64/\0<=c/\c<=1114200/\cA M hi2 (64-k) c=ab/\ClIn w (w.heap.size+1) G lo2 hi2 n2 (.slice bo D P) name2 other2 af wr) (fun _ kv _=>64-(intOf kv).toNat)
      case atStart=>exact⟨0,_,rfl,rfl,f6J,f6J,f6J,V l,V K⟩
      case round =>exact w7I
    · obtain rfl:hi1=mn:=by omega
      go_enter func71,ntmps71;go_wp2_with fail;go_quiet(first| (go_at_call 72;refine Calls.quiet_of_same (V (o _ _ ?_));with_reducible (first| exact F1 | exact J)));go_wp2_with fail;go_quiet(fail);clear o F1 J;go_wp2_with fail;refine((V A) _ (x0k ⟨_,rfl⟩)).mono ?_;rintro e1 w1 ⟨rfl,H,X⟩;have K:=O X;clear A X x u S p x4 x5 x6 x7 z m y2 N C B L y7 I;obtain⟨x,u,S,p,x4,x5,x6,x7⟩:=H;go_wp2;clear x u S p x4 x5 x6 x7;go_loopw[8,9] (fun cv kv wr=>∃(k:Nat) (c:Int),cv=.int .i64 c/\kv=.int .i64 k/\k<=64/\0<=c/\c<=1114200/\cA M hi1 (64-k) c=ab/\ClIn w (w.heap.size+1) G lo2 hi2 n2 (.slice bo D P) name2 other2 af wr) (fun _ kv _=>64-(intOf kv).toNat)
      case atStart=>exact⟨0,_,rfl,rfl,f6J,f6J,f6J,V l,V K⟩
      case round =>exact M3V
theorem x0L w kd lo hi n vt nm ot wt:∃W,w.alloc (.cells #[.int .i64 kd,.int .i64 lo,.int .i64 hi,.int .i64 n,vt,.string nm,.string ot,.float .f64 wt] 67)=W/\BoxAt W w.heap.size kd lo hi n vt nm ot wt/\Bw w W :=
 ⟨_,rfl,y1S w kd lo hi n vt nm ot wt,(b0r).alloc (l0r _) _⟩
def ansG(x:Bool):Int:=if x=true then 0 else 61
theorem x0P x:Rune (wrap32 x):=by
 unfold wrap32 Rune;omega
theorem x1e{x}(A:0<=x)(Z:x<=1114111):wrap32 (bits BinOp.and IntKind.i64 x 2097151)=x:=by
 have B:(2:Int)^63=9223372036854775808:=e8N;have h:=bits_mask .i64 63 e8N (fun n A Z=>by rw[B]at Z;exact s7C) 21 e8N x f6J (by rw[B];exact f6J);have e:((2:Int)^21-1)=2097151:=e8N;have f:((2:Int)^21)=2097152:=e8N;rw[e,f]at h;rw[h];unfold wrap32;omega
