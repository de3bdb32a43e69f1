/- Lemmas. -/
import Derived.Test.YtbmckadcjdedcaaGreatDoorK17
import Derived.BigQuiet
import Derived.Deep.QuietTactic
import Derived.Deep.DeepCutAuto
import Derived.Laws.BitsLemmas
set_option maxHeartbeats 4000000
set_option maxRecDepth 8000
namespace Go.Proofs.YtbmckadcjdedcaaGreatDoor
open Go.Proofs.Tryz
open Go.RowKit
section
variable{p:Prop}
theorem v5D(h:p:=by rw[Q.cell (x0a h.1)];exact h.1):p:=h
theorem I3h(h:p:=by exact⟨by first| rfl | exact k,congrArg Value.bool (V x)⟩):p:=h
theorem E9L(h:p:=by
 have KC:=O (V KP c wr ⟨f6J,f6J⟩);clear B KP H f Y HZ;generalize sp c=y at *;go_wp2_with fail;refine c0m KC fun w2 F=>?_;have S:=O ((V S).on F);clear KC F y0 m t y3 L K o N
 cases y with
 | true =>
   obtain rfl:=V HH rfl;clear HH HX;go_wp2;go_ret;exact⟨rfl,(V S).2⟩
 | false =>
   have G:=O (V HX rfl);clear HH HX;go_wp2
   go_roundw
   case rel=>exact⟨k+1,c+M,g2A,g2A,f6J,f6J,f6J,by rw[(f6J:64-(k+1)=r)];exact V G,V S⟩
   case measure=>exact g7V):p:=h
theorem w8b(h:p:=by rw[Q.cell (x0a h.2)];exact h.2):p:=h
theorem V4H(h:p:=by go_wp2;go_ret;exact⟨rfl,V i⟩):p:=h
theorem G0q(h:p:=by
 clear C S;obtain⟨k,c,rfl,rfl,hk,k0,k1,B,A⟩:=hrel;have S:=O A;obtain⟨y0,m,t,y3,L,K,o,N⟩:=A.1;clear A;by_cases aq:k<64
 · by_cases v:c<=hi1
   · obtain⟨r,hr⟩:∃r,64-k=r+1:=⟨63-k,f6J⟩
     rw[hr]at B;have HH:=O (fun h=>(V H M hi1 r c v h).symm.trans B);have HX:=O (fun h=>(V f M hi1 r c v h).symm.trans B);exact E9L
   · obtain rfl:=(V Y M hi1 (64-k) c f6J).symm.trans B
     exact S2F
 · obtain rfl:k=64:=by omega
   obtain rfl:=(V HZ M hi1 c).symm.trans B;exact S2F):p:=h
theorem I3i(h:p:=by exact⟨by first| rfl | exact k,congrArg Value.bool (V x)⟩):p:=h
theorem m0N(h:p:=by rw[Q.cell (x0a h.3)];exact h.3):p:=h
theorem F5Q(h:p:=by
 clear C S;obtain⟨k,c,rfl,rfl,hk,k0,k1,B,A⟩:=hrel;have S:=O A;obtain⟨y0,m,t,y3,L,K,o,N⟩:=A.1;clear A;by_cases aq:k<64
 · by_cases v:c<=hi2
   · obtain⟨r,hr⟩:∃r,64-k=r+1:=⟨63-k,f6J⟩
     rw[hr]at B;have HH:=O (fun h=>(V H M hi2 r c v h).symm.trans B);have HX:=O (fun h=>(V f M hi2 r c v h).symm.trans B);exact E9L
   · obtain rfl:=(V Y M hi2 (64-k) c f6J).symm.trans B
     exact S2G
 · obtain rfl:k=64:=by omega
   obtain rfl:=(V HZ M hi2 c).symm.trans B;exact S2G):p:=h
theorem w4J(h:p:=by go_wp2;go_ret;exact⟨rfl,V t⟩):p:=h
theorem S2F(h:p:=by clear B KP H f Y HZ y0 m t y3 L K o N;go_wp2;go_ret;exact⟨rfl,(V S).2⟩):p:=h
theorem W4O(h:p:=by rw[Q.cell (x0a h.4)];exact h.4):p:=h
theorem U0M(h:p:=by rcases B with rfl | rfl<;>rfl):p:=h
theorem S2G(h:p:=by clear B KP H f Y HZ y0 m t y3 L K o N;go_wp2;go_ret;exact⟨rfl,(V S).2⟩):p:=h
theorem F5a(h:p:=by
 go_wp2_with fail;refine c1m (V K _ (V t)) fun w2 F=>?_;obtain⟨y0,y1,y2,y3,y4,y5,y6,y7⟩:=(V Y).keep F;have i:=O (x0b (V t) F);clear K Y t F x0 x1 X x3 x4 x5 x6 x7
 cases b1 with
 | false =>
  clear A;exact V4H
 | true =>
  go_wp2_with fail;refine(V A _ (V i)).mono ?_;rintro e w3 ⟨rfl,rfl⟩;clear A
  cases l1 with
  | false =>exact V4H
  | true =>exact V4H):p:=h
theorem U7I(h:p:=by rcases B with rfl | rfl<;>exact⟨f6J,f6J⟩):p:=h
theorem t5g(h:p:=by rcases B with rfl<;>rfl):p:=h
theorem f9L(h:p:=by exact⟨0,lo1+d*M,rfl,rfl,f6J,f6J,f6J,V C,V S⟩):p:=h
theorem G9F(h:p:=by have Z:=o0d ((V y).symm.trans h);rw[V I h,x1f Z.1 f6J,d0t J,Bool.true_and]):p:=h
theorem f5Y(h:p:=by first| rfl | trivial):p:=h
theorem s6D(h:p:=by rw[V y,d0t ⟨c1,U,s⟩]):p:=h
theorem g2F(h:p:=by rw[V I h,d0f J,Bool.false_and]):p:=h
theorem E8R(h:p:=by simp[List.getD,hk]):p:=h
theorem U1n(h:p:=by rw[V y,d0f c]):p:=h
theorem f5Z(h:p:=by first| rfl | trivial):p:=h
theorem E8r(h:p:=by rcases B with rfl<;>exact⟨f6J,f6J⟩):p:=h
theorem U7J(h:p:=by rcases B with rfl | rfl<;>exact⟨f6J,f6J⟩):p:=h
end
namespace Cn
theorem z1I{k}(h:fam k=10):k=15:=by
  unfold fam at h;split at h
  · omega
  · omega
theorem y4I{b s hi c k}(h:¬c<=hi):clashA b s hi k c=false:=by
  cases k with
  | zero=>rfl
  | succ k=>rw[clashA,if_neg h]
theorem y4J{b s hi c k}(h:c<=hi)(X:speaks b c=true):clashA b s hi (k+1) c=true:=by
  rw[clashA,if_pos h,X];rfl
theorem y1K{b s hi c k}(h:c<=hi)(X:speaks b c=false):clashA b s hi (k+1) c=clashA b s hi k (c+s):=by
  rw[clashA,if_pos h,X];rfl
end Cn
theorem bytes_beq(a b:ByteArray):(a.toList==b.toList)=decide (a=b):=by
  have h:a.toList=b.toList↔a=b:=⟨fun h=>by
    rw[ByteArray.toList_eq,ByteArray.toList_eq]at h;obtain⟨⟨x⟩⟩:=a;obtain⟨⟨y⟩⟩:=b
    simpa using h,fun h=>by rw[h]⟩
  by_cases e:a=b
  · grind
  · grind
structure BoxAt(w:World)(b:Nat)(kd lo hi n:Int)(vt:Value)(nm ot:ByteArray)(wt:Nat):Prop where
  kind:w.cell? ⟨b,0,none⟩=some (.int .i64 kd)
  lo:w.cell? ⟨b,1,none⟩=some (.int .i64 lo)
  hi:w.cell? ⟨b,2,none⟩=some (.int .i64 hi)
  n:w.cell? ⟨b,3,none⟩=some (.int .i64 n)
  tq:w.cell? ⟨b,4,none⟩=some vt
  name:w.cell? ⟨b,5,none⟩=some (.string nm)
  other:w.cell? ⟨b,6,none⟩=some (.string ot)
  wt:w.cell? ⟨b,7,none⟩=some (.float .f64 wt)
theorem BoxAt.keep{w w' b kd lo hi n vt}{nm ot wt}(h:BoxAt w b kd lo hi n vt nm ot wt)(Q:Bw w w'):BoxAt w' b kd lo hi n vt nm ot wt :=
  ⟨v5D,w8b,m0N,W4O,by rw[Q.cell (x0a h.5)];exact h.5,by rw[Q.cell (x0a h.6)];exact h.6,by rw[Q.cell (x0a h.7)];exact h.7,by rw[Q.cell (x0a h.8)];exact h.8⟩
theorem y1H(w:World) kd lo hi n vt nm ot wt:BoxAt (w.alloc (.cells #[.int .i64 kd,.int .i64 lo,.int .i64 hi,.int .i64 n,vt,.string nm,.string ot,.float .f64 wt] 67)) w.heap.size kd lo hi n vt nm ot wt:=by
  refine⟨?_,?_,?_,?_,?_,?_,?_,?_⟩<;>simp[World.cell?,World.alloc,-World.alloc_eq]
def boxO(kd lo hi n:Int)(vt:Value)(nm ot:ByteArray)(wt:Nat):Obj:=.cells #[.int .i64 kd,.int .i64 lo,.int .i64 hi,.int .i64 n,vt,.string nm,.string ot,.float .f64 wt] 67
theorem z4K w k1 l1 h1 n1 v1 a1 b1 t1 k2 l2 h2 n2 v2 a2 b2 t2 :
    ∃W,(w.alloc (boxO k1 l1 h1 n1 v1 a1 b1 t1)).alloc (boxO k2 l2 h2 n2 v2 a2 b2 t2)=W/\BoxAt W w.heap.size k1 l1 h1 n1 v1 a1 b1 t1/\BoxAt W (w.heap.size+1) k2 l2 h2 n2 v2 a2 b2 t2/\Bw w W:=by
  refine⟨_,rfl,(y1H w k1 l1 h1 n1 v1 a1 b1 t1).keep ((b0r).alloc (l0r _) _),?_,((b0r).alloc (l0r _) _).alloc M7K _⟩;have:=y1H (w.alloc (boxO k1 l1 h1 n1 v1 a1 b1 t1)) k2 l2 h2 n2 v2 a2 b2 t2;simpa[boxO]using this
def ClIn(w:World)(b:Nat)(k2 l2 h2 n2:Int)(v2:Value)(a2 b2:ByteArray)(t2:Nat)(W:World):Prop:=BoxAt W b k2 l2 h2 n2 v2 a2 b2 t2/\Below w.heap.size w W
theorem ClIn.on{w b k2 l2 h2 n2 v2}{a2 b2 t2 W W'}(h:ClIn w b k2 l2 h2 n2 v2 a2 b2 t2 W)(Q:Bw W W'):ClIn w b k2 l2 h2 n2 v2 a2 b2 t2 W':=⟨h.1.keep Q,x0b h.2 Q⟩
theorem y0V:z3w:=by
  intro a b va vb w fa fb aG aH ra rb;have KF:∀k w,Hid (I64 k)->Hid (Calls prog 72 #[.int .i64 k] w fun e w'=>e=.returned (.int .i64 (Cn.fam k))/\w'=w):=fun k w h=>x0l k w (V h);have KS:=O (fun w=>x6Y a va w fa);have KP:=O (fun c w hc=>x4u b vb c w fb hc);obtain⟨af,B⟩:∃af,Cn.clash a b=af:=⟨_,rfl⟩;have E:=B;unfold Cn.clash at E;rw[B];clear B;have Z:=fun h=>Cn.x0o (r:=a) ra h;have h2:=fun h=>Cn.x0o (r:=b) rb h;have h3:=Cn.right_step ra;obtain⟨ao,ca,rfl,_,_⟩:=aG.shape;obtain⟨bo,P,rfl,_,_⟩:=aH.shape;have H:Hid (∀s hi k c,c<=hi->Cn.speaks b c=true->Cn.clashA b s hi (k+1) c=true):=fun s hi k c h hs=>Cn.y4J h hs;have f:Hid (∀s hi k c,c<=hi->Cn.speaks b c=false->Cn.clashA b s hi (k+1) c=Cn.clashA b s hi k (c+s)):=fun s hi k c h hs=>Cn.y1K h hs;have Y:Hid (∀s hi k c,¬c<=hi->Cn.clashA b s hi k c=false):=fun s hi k c h=>Cn.y4I h;have HZ:Hid (∀s hi c,Cn.clashA b s hi 0 c=false):=fun s hi c=>rfl;have ag:b.kind=15->Cn.fam b.kind=10:=fun h=>(by rw[h];rfl);have ab:Cn.fam a.kind=10->a.kind=15:=Cn.z1I;have ay:=fa.kind;have az:=fb.kind;clear aG aH ra rb fa fb;generalize Cn.clashA b=cA,Cn.speaks b=sp,Cn.step a=M at *;unfold recV at *;generalize a.kind=kind1,a.lo=lo1,a.hi=hi1,a.n=n1 at *;generalize a.name=name1,a.other=other1,a.wt=wt1,b.kind=I at *;generalize b.lo=lo2,b.hi=hi2,b.n=n2 at *;generalize b.name=name2,b.other=other2,b.wt=aj at *;generalize a.to.length=tl1,b.to.length=ai at *;have F1:=O ay;have F2:=O az;clear ay az;generalize Cn.fam=fam at *;obtain⟨w0,T,J,aw,aB⟩:=z4K w kind1 lo1 hi1 n1 (.slice ao tl1 ca) name1 other1 wt1 I lo2 hi2 n2 (.slice bo ai P) name2 other2 aj;unfold boxO at T;have ar:=O J;have i:=O aw;have D:=O aB;clear aB;obtain⟨z,u,X,g,x,j,p,Q⟩:=J;obtain⟨y0,m,t,y3,L,K,o,N⟩:=aw;by_cases U:fam kind1=fam I;rotate_left
  · rw[if_pos U]at E
    subst E;have q:(fam kind1 != fam I)=true:=M1U;clear Z h2 h3 ag ab H f Y HZ KS KP U;go_enter func71,ntmps71;go_wp2_with fail;go_quiet(first| (go_at_call 72;refine Calls.quiet_of_same (V (KF _ _ ?_));with_reducible (first| exact F1 | exact F2)));go_wp2;go_ret;exact⟨rfl,x0b (V D) (x0k ⟨_,rfl⟩)⟩
  rw[if_neg (by simpa using U)]at E;have q:(fam kind1 != fam I)=false:=M1U;by_cases R:kind1=15
  · rw[if_pos R]at E
    have aF:(kind1==15)=true:=(by simp[R]);clear R U;have e1:=bytes_beq name1 name2;have e2:=bytes_beq other1 other2;have e3:=bytes_beq name1 other2;have e4:=bytes_beq other1 name2
    have aC:af=((decide (name1=name2)&&decide (other1=other2))||(decide (name1=other2)&&decide (other1=name2))):=by
      rw[<- E];by_cases c1:name1=name2<;>by_cases c2:other1=other2<;>by_cases c3:name1=other2<;>by_cases c4:other1=name2<;>simp_all
    clear E Z h2 h3 ag ab H f Y HZ KS KP;generalize decide (name1=name2)=c1,decide (other1=other2)=c2,decide (name1=other2)=c3,decide (other1=name2)=c4 at *;subst aC;cases c1<;>cases c2<;>cases c3<;>cases c4<;>
    (go_enter func71,ntmps71
     go_wp2_with fail;go_quiet(first| (go_at_call 72;refine Calls.quiet_of_same (V (KF _ _ ?_));with_reducible (first| exact F1 | exact F2)));go_wp2;go_ret
     exact⟨rfl,x0b (V D) (x0k ⟨_,rfl⟩)⟩)
  rw[if_neg R]at E;have aF:(kind1==15)=false:=b0f R;have aA:I≠15:=fun h=>R (ab (U.trans (ag h)));obtain⟨a0,a1,a2⟩:=Z R;obtain⟨b0,b1,b2⟩:=h2 aA;obtain⟨s0,s1⟩:=h3;clear Z h2 ag ab aA R U;have aL:∃mx,max lo1 lo2=mx/\0<=mx/\mx<=1114111/\lo1<=mx:=⟨_,rfl,f6J,f6J,f6J⟩;obtain⟨mx,aJ,m0,m1,m2⟩:=aL;have aK:∃mn,min hi1 hi2=mn/\0<=mn/\mn<=1114111:=⟨_,rfl,f6J,f6J⟩;obtain⟨mn,aI,n0,n9⟩:=aK;rw[aJ,aI]at E
  obtain⟨c0,am,c1,c2,E⟩:∃c0:Int,(if lo1<mx then lo1+(mx-lo1+M-1) / M*M else lo1)=c0/\0<=c0/\c0<=1114200/\cA M mn 64 c0=af:=by
    refine⟨_,rfl,?_,?_,E⟩
    · split
      · have:=Int.ediv_nonneg (a:=mx-lo1+M-1) (b:=M) f6J f6J
        have:=Int.mul_nonneg this (f6J:0<=M);omega
      · omega
    · split
      · have:=Int.ediv_mul_le (mx-lo1+M-1) (f6J:M≠0)
        omega
      · omega
  have C:=O E;clear E;have ae:Hid (∀W,Bw w0 W->Calls prog 118 #[.agg #[.int .i64 kind1,.int .i64 lo1,.int .i64 hi1,.int .i64 n1,.slice ao tl1 ca,.string name1,.string other1,.float .f64 wt1]] W (fun e W'=>e=.returned (.int .i64 M)/\BoxAt W' w.heap.size kind1 lo1 hi1 n1 (.slice ao tl1 ca) name1 other1 wt1/\ClIn w (w.heap.size+1) I lo2 hi2 n2 (.slice bo ai P) name2 other2 aj W')):=fun W hb=>(V KS W).mono (fun e W' ⟨Z,h2⟩=>⟨Z,(V ar).keep (x0b hb h2),(V i).keep (x0b hb h2),x0b (V D) (x0b hb h2)⟩);clear KS ar i D;rcases Int.lt_or_le lo1 lo2 with g1 | g1
  · obtain rfl:lo2=mx:=by omega
    rw[if_pos g1]at am;obtain⟨d,hd⟩:∃d,(lo2-lo1+M-1).tdiv M=d:=⟨_,rfl⟩;have aD:(lo2-lo1+M-1) / M=d:=(by rw[<- hd,Int.tdiv_eq_ediv_of_nonneg f6J]);have e0:=Int.mul_nonneg (Int.ediv_nonneg (a:=lo2-lo1+M-1) (b:=M) f6J f6J) (f6J:0<=M);have e1:=Int.ediv_mul_le (lo2-lo1+M-1) (f6J:M≠0);have e8:=Int.ediv_nonneg (a:=lo2-lo1+M-1) (b:=M) f6J f6J;have e9:=Int.ediv_le_self (a:=lo2-lo1+M-1) M f6J;rw[aD]at am e0 e1 e8 e9;obtain rfl:=am;have e2:(M==0)=false:=b0f f6J;clear aD;rcases Int.lt_or_le hi2 hi1 with g2 | g2
    · obtain rfl:hi2=mn:=by omega
      go_enter func71,ntmps71;go_wp2_with fail;go_quiet(first| (go_at_call 72;refine Calls.quiet_of_same (V (KF _ _ ?_));with_reducible (first| exact F1 | exact F2)));go_wp2_with fail;go_quiet(fail);clear KF F1 F2;go_wp2_with fail;refine((V ae) _ (x0k ⟨_,rfl⟩)).mono ?_;rintro e1 w1 ⟨rfl,J,A⟩;have S:=O A;clear ae A z u X g x j p Q y0 m t y3 L K o N T;obtain⟨z,u,X,g,x,j,p,Q⟩:=J;go_wp2_with fail;go_quiet(fail);have S:=O ((V S).on (x0k ⟨nq,rfl⟩));go_wp2;clear z u X g x j p Q;go_loopw[8,9] (fun cv l wr=>∃(k:Nat) (c:Int),cv=.int .i64 c/\l=.int .i64 k/\k<=64/\0<=c/\c<=1114200/\cA M hi2 (64-k) c=af/\ClIn w (w.heap.size+1) I lo2 hi2 n2 (.slice bo ai P) name2 other2 aj wr) (fun _ l _=>64-(intOf l).toNat)
      case atStart=>exact f9L
      case round =>exact F5Q
    · obtain rfl:hi1=mn:=by omega
      go_enter func71,ntmps71;go_wp2_with fail;go_quiet(first| (go_at_call 72;refine Calls.quiet_of_same (V (KF _ _ ?_));with_reducible (first| exact F1 | exact F2)));go_wp2_with fail;go_quiet(fail);clear KF F1 F2;go_wp2_with fail;refine((V ae) _ (x0k ⟨_,rfl⟩)).mono ?_;rintro e1 w1 ⟨rfl,J,A⟩;have S:=O A;clear ae A z u X g x j p Q y0 m t y3 L K o N T;obtain⟨z,u,X,g,x,j,p,Q⟩:=J;go_wp2_with fail;go_quiet(fail);have S:=O ((V S).on (x0k ⟨nq,rfl⟩));go_wp2;clear z u X g x j p Q;go_loopw[8,9] (fun cv l wr=>∃(k:Nat) (c:Int),cv=.int .i64 c/\l=.int .i64 k/\k<=64/\0<=c/\c<=1114200/\cA M hi1 (64-k) c=af/\ClIn w (w.heap.size+1) I lo2 hi2 n2 (.slice bo ai P) name2 other2 aj wr) (fun _ l _=>64-(intOf l).toNat)
      case atStart=>exact f9L
      case round =>exact G0q
  · obtain rfl:lo1=mx:=by omega
    rw[if_neg f6J]at am;obtain rfl:=am;rcases Int.lt_or_le hi2 hi1 with g2 | g2
    · obtain rfl:hi2=mn:=by omega
      go_enter func71,ntmps71;go_wp2_with fail;go_quiet(first| (go_at_call 72;refine Calls.quiet_of_same (V (KF _ _ ?_));with_reducible (first| exact F1 | exact F2)));go_wp2_with fail;go_quiet(fail);clear KF F1 F2;go_wp2_with fail;refine((V ae) _ (x0k ⟨_,rfl⟩)).mono ?_;rintro e1 w1 ⟨rfl,J,A⟩;have S:=O A;clear ae A z u X g x j p Q y0 m t y3 L K o N T;obtain⟨z,u,X,g,x,j,p,Q⟩:=J;go_wp2;clear z u X g x j p Q;go_loopw[8,9] (fun cv l wr=>∃(k:Nat) (c:Int),cv=.int .i64 c/\l=.int .i64 k/\k<=64/\0<=c/\c<=1114200/\cA M hi2 (64-k) c=af/\ClIn w (w.heap.size+1) I lo2 hi2 n2 (.slice bo ai P) name2 other2 aj wr) (fun _ l _=>64-(intOf l).toNat)
      case atStart=>exact⟨0,_,rfl,rfl,f6J,f6J,f6J,V C,V S⟩
      case round =>exact F5Q
    · obtain rfl:hi1=mn:=by omega
      go_enter func71,ntmps71;go_wp2_with fail;go_quiet(first| (go_at_call 72;refine Calls.quiet_of_same (V (KF _ _ ?_));with_reducible (first| exact F1 | exact F2)));go_wp2_with fail;go_quiet(fail);clear KF F1 F2;go_wp2_with fail;refine((V ae) _ (x0k ⟨_,rfl⟩)).mono ?_;rintro e1 w1 ⟨rfl,J,A⟩;have S:=O A;clear ae A z u X g x j p Q y0 m t y3 L K o N T;obtain⟨z,u,X,g,x,j,p,Q⟩:=J;go_wp2;clear z u X g x j p Q;go_loopw[8,9] (fun cv l wr=>∃(k:Nat) (c:Int),cv=.int .i64 c/\l=.int .i64 k/\k<=64/\0<=c/\c<=1114200/\cA M hi1 (64-k) c=af/\ClIn w (w.heap.size+1) I lo2 hi2 n2 (.slice bo ai P) name2 other2 aj wr) (fun _ l _=>64-(intOf l).toNat)
      case atStart=>exact⟨0,_,rfl,rfl,f6J,f6J,f6J,V C,V S⟩
      case round =>exact G0q
theorem x0O w kd lo hi n vt nm ot wt:∃W,w.alloc (.cells #[.int .i64 kd,.int .i64 lo,.int .i64 hi,.int .i64 n,vt,.string nm,.string ot,.float .f64 wt] 67)=W/\BoxAt W w.heap.size kd lo hi n vt nm ot wt/\Bw w W :=
 ⟨_,rfl,y1H w kd lo hi n vt nm ot wt,(b0r).alloc (l0r _) _⟩
def ansG(x:Bool):Int:=if x=true then 0 else 61
theorem x0R x:Rune (wrap32 x):=by
 unfold wrap32 Rune;omega
theorem x1f{x}(A:0<=x)(Z:x<=1114111):wrap32 (bits BinOp.and IntKind.i64 x 2097151)=x:=by
 have B:(2:Int)^63=9223372036854775808:=e8N;have h:=bits_mask .i64 63 e8N (fun n A Z=>by rw[B]at Z;exact s7C) 21 e8N x f6J (by rw[B];exact f6J);have e:((2:Int)^21-1)=2097151:=e8N;have f:((2:Int)^21)=2097152:=e8N;rw[e,f]at h;rw[h];unfold wrap32;omega
