/- Rv7 Rwp7 -/
import Derived.Test.YtbmckadcjdedcaaGreatDoorD17
import Derived.BigQuiet
import Derived.Deep.QuietTactic
import Derived.Deep.DeepCutAuto
import Derived.Laws.BitsLemmas
set_option maxHeartbeats 4000000
set_option maxRecDepth 8000
namespace Go.Proofs.YtbmckadcjdedcaaGreatDoor
open Go.Proofs.Tryz
open Go.RowKit
section
variable{p:Prop}
theorem F6z(h:p:=by rw[C.cell (x0a h.1)];exact h.1):p:=h
theorem W7b(h:p:=by
 have Z:=O (V KP c wr ⟨f6J,f6J⟩);clear R KP C HN T HZ;generalize sp c=y at *;go_wp2_with fail;refine c0m Z fun w2 F=>?_;have S:=O ((V S).on F);clear Z F y0 t y2 i B L I J
 cases y with
 | true =>
   obtain rfl:=V HH rfl;clear HH HX;go_wp2;go_ret;exact⟨rfl,(V S).2⟩
 | false =>
   have v:=O (V HX rfl);clear HH HX;go_wp2
   go_roundw
   case rel=>exact⟨k+1,c+m,g2A,g2A,f6J,f6J,f6J,by rw[(f6J:64-(k+1)=r)];exact V v,V S⟩
   case measure=>exact g7V):p:=h
theorem U0Y(h:p:=by rw[C.cell (x0a h.2)];exact h.2):p:=h
theorem p1o(h:p:=by go_wp2;go_ret;exact⟨rfl,V d⟩):p:=h
theorem T8l(h:p:=by
 clear U S;obtain⟨k,c,rfl,rfl,hk,k0,k1,R,X⟩:=hrel;have S:=O X;obtain⟨y0,t,y2,i,B,L,I,J⟩:=X.1;clear X;by_cases aq:k<64
 · by_cases H:c<=hi1
   · obtain⟨r,hr⟩:∃r,64-k=r+1:=⟨63-k,f6J⟩
     rw[hr]at R;have HH:=O (fun h=>(V C m hi1 r c H h).symm.trans R);have HX:=O (fun h=>(V HN m hi1 r c H h).symm.trans R);exact W7b
   · obtain rfl:=(V T m hi1 (64-k) c f6J).symm.trans R
     exact E7a
 · obtain rfl:k=64:=by omega
   obtain rfl:=(V HZ m hi1 c).symm.trans R;exact E7a):p:=h
theorem m7Z(h:p:=by exact⟨V5R,congrArg Value.bool (V x)⟩):p:=h
theorem u7e(h:p:=by rw[C.cell (x0a h.3)];exact h.3):p:=h
theorem g7X(h:p:=by
 clear U S;obtain⟨k,c,rfl,rfl,hk,k0,k1,R,X⟩:=hrel;have S:=O X;obtain⟨y0,t,y2,i,B,L,I,J⟩:=X.1;clear X;by_cases aq:k<64
 · by_cases H:c<=hi2
   · obtain⟨r,hr⟩:∃r,64-k=r+1:=⟨63-k,f6J⟩
     rw[hr]at R;have HH:=O (fun h=>(V C m hi2 r c H h).symm.trans R);have HX:=O (fun h=>(V HN m hi2 r c H h).symm.trans R);exact W7b
   · obtain rfl:=(V T m hi2 (64-k) c f6J).symm.trans R
     exact E7b
 · obtain rfl:k=64:=by omega
   obtain rfl:=(V HZ m hi2 c).symm.trans R;exact E7b):p:=h
theorem I6P(h:p:=by have h1:=o0d ((V y).symm.trans h);rw[V Q h,x1e h1.1 f6J,d0t K,Bool.true_and]):p:=h
theorem E7a(h:p:=by clear R KP C HN T HZ y0 t y2 i B L I J;go_wp2;go_ret;exact⟨rfl,(V S).2⟩):p:=h
theorem m8a(h:p:=by exact⟨V5R,congrArg Value.bool (V x)⟩):p:=h
theorem R3s(h:p:=by rw[C.cell (x0a h.4)];exact h.4):p:=h
theorem m2q(h:p:=by go_wp2;go_ret;exact⟨rfl,V HB⟩):p:=h
theorem E7b(h:p:=by clear R KP C HN T HZ y0 t y2 i B L I J;go_wp2;go_ret;exact⟨rfl,(V S).2⟩):p:=h
theorem n3U(h:p:=by rcases A with rfl | rfl<;>rfl):p:=h
theorem m8G(h:p:=by
 go_wp2_with fail;refine c1m (V I _ (V HB)) fun w2 F=>?_;obtain⟨y0,y1,y2,y3,y4,y5,y6,y7⟩:=(V C).keep F;have d:=O (x0b (V HB) F);clear I C HB F x0 x1 x2 x3 x4 x5 x6 x7
 cases b1 with
 | false =>
  clear B;exact p1o
 | true =>
  go_wp2_with fail;refine(V B _ (V d)).mono ?_;rintro e w3 ⟨rfl,rfl⟩;clear B
  cases l1 with
  | false =>exact p1o
  | true =>exact p1o):p:=h
theorem G9c(h:p:=by rcases A with rfl | rfl<;>exact⟨f6J,f6J⟩):p:=h
theorem s0d(h:p:=by rw[V Q h,d0f K,Bool.false_and]):p:=h
theorem N4s(h:p:=by exact⟨0,lo1+d*m,rfl,rfl,f6J,f6J,f6J,V U,V S⟩):p:=h
theorem n2X(h:p:=by rw[V y,d0t ⟨o,z,s⟩]):p:=h
theorem s0e(h:p:=by rw[V Q h,d0f K,Bool.false_and]):p:=h
theorem M0Y(h:p:=by rcases A with rfl<;>rfl):p:=h
theorem U1m(h:p:=by rw[V y,d0f c]):p:=h
theorem n2Y(h:p:=by rw[V y,d0t ⟨o,z,s⟩]):p:=h
theorem V5R(h:p:=by first| rfl | exact P):p:=h
theorem i7Y(h:p:=by rcases A with rfl<;>exact⟨f6J,f6J⟩):p:=h
theorem E5z(h:p:=by exact⟨f6c,false,rfl,V j⟩):p:=h
theorem G9n(h:p:=by rcases A with rfl | rfl<;>exact⟨f6J,f6J⟩):p:=h
end
namespace Cn
theorem z1k{k:Int}(h:fam k=10):k=15:=by
  unfold fam at h;split at h
  · omega
  · omega
theorem y4t{b:Rec}{s hi c:Int}{k:Nat}(h:¬c<=hi):clashA b s hi k c=false:=by
  cases k with
  | zero=>rfl
  | succ k=>rw[clashA,if_neg h]
theorem y4u{b:Rec}{s hi c:Int}{k:Nat}(h:c<=hi)(X:speaks b c=true):clashA b s hi (k+1) c=true:=by
  rw[clashA,if_pos h,X];rfl
theorem y1F{b:Rec}{s hi c:Int}{k:Nat}(h:c<=hi)(X:speaks b c=false):clashA b s hi (k+1) c=clashA b s hi k (c+s):=by
  rw[clashA,if_pos h,X];rfl
end Cn
theorem bytes_beq(a b:ByteArray):(a.toList==b.toList)=decide (a=b):=by
  have h:a.toList=b.toList↔a=b:=⟨fun h=>by
    rw[ByteArray.toList_eq,ByteArray.toList_eq]at h;obtain⟨⟨x⟩⟩:=a;obtain⟨⟨y⟩⟩:=b
    simpa using h,fun h=>by rw[h]⟩
  by_cases e:a=b
  · grind
  · grind
structure BoxAt(w:World)(b:Nat)(kd lo hi n:Int)(vt:Value)(nm ot:ByteArray)(wt:Nat):Prop where
  kind:w.cell? ⟨b,0,none⟩=some (.int .i64 kd)
  lo:w.cell? ⟨b,1,none⟩=some (.int .i64 lo)
  hi:w.cell? ⟨b,2,none⟩=some (.int .i64 hi)
  n:w.cell? ⟨b,3,none⟩=some (.int .i64 n)
  tq:w.cell? ⟨b,4,none⟩=some vt
  name:w.cell? ⟨b,5,none⟩=some (.string nm)
  other:w.cell? ⟨b,6,none⟩=some (.string ot)
  wt:w.cell? ⟨b,7,none⟩=some (.float .f64 wt)
theorem BoxAt.keep{w w':World}{b:Nat}{J lo hi n:Int}{vt:Value}{Z M:ByteArray}{wt:Nat}(h:BoxAt w b J lo hi n vt Z M wt)(C:Bw w w'):BoxAt w' b J lo hi n vt Z M wt :=
  ⟨F6z,U0Y,u7e,R3s,by rw[C.cell (x0a h.5)];exact h.5,by rw[C.cell (x0a h.6)];exact h.6,by rw[C.cell (x0a h.7)];exact h.7,by rw[C.cell (x0a h.8)];exact h.8⟩
theorem y1C(w:World)(J lo hi n:Int)(vt:Value)(Z M:ByteArray)(wt:Nat):BoxAt (w.alloc (.cells #[.int .i64 J,.int .i64 lo,.int .i64 hi,.int .i64 n,vt,.string Z,.string M,.float .f64 wt] 67)) w.heap.size J lo hi n vt Z M wt:=by
  refine⟨?_,?_,?_,?_,?_,?_,?_,?_⟩<;>simp[World.cell?,World.alloc,-World.alloc_eq]
def boxO(kd lo hi n:Int)(vt:Value)(nm ot:ByteArray)(wt:Nat):Obj:=.cells #[.int .i64 kd,.int .i64 lo,.int .i64 hi,.int .i64 n,vt,.string nm,.string ot,.float .f64 wt] 67
theorem z4h(w:World)(M v D t:Int)(H:Value)(A b1:ByteArray)(y:Nat)(k2 n Z E:Int)(R:Value)(J m:ByteArray)(S:Nat) :
    ∃W,(w.alloc (boxO M v D t H A b1 y)).alloc (boxO k2 n Z E R J m S)=W/\BoxAt W w.heap.size M v D t H A b1 y/\BoxAt W (w.heap.size+1) k2 n Z E R J m S/\Bw w W:=by
  refine⟨_,rfl,(y1C w M v D t H A b1 y).keep ((b0r).alloc (l0r _) _),?_,((b0r).alloc (l0r _) _).alloc M7K _⟩;have:=y1C (w.alloc (boxO M v D t H A b1 y)) k2 n Z E R J m S;simpa[boxO]using this
def ClIn(w:World)(b:Nat)(k2 l2 h2 n2:Int)(v2:Value)(a2 b2:ByteArray)(t2:Nat)(W:World):Prop:=BoxAt W b k2 l2 h2 n2 v2 a2 b2 t2/\Below w.heap.size w W
theorem ClIn.on{w:World}{b:Nat}{k2 n Z E:Int}{R:Value}{J m:ByteArray}{S:Nat}{W Q:World}(h:ClIn w b k2 n Z E R J m S W)(C:Bw W Q):ClIn w b k2 n Z E R J m S Q:=⟨h.1.keep C,x0b h.2 C⟩
theorem y0Q:z2V:=by
  intro a b va vb w fa fb aG aH ra rb;have D:∀k w,Hid (I64 k)->Hid (Calls prog 72 #[.int .i64 k] w fun e w'=>e=.returned (.int .i64 (Cn.fam k))/\w'=w):=fun k w h=>x0l k w (V h);have KS:=O (fun w=>x6S a va w fa);have KP:=O (fun c w hc=>x4p b vb c w fb hc);obtain⟨af,R⟩:∃af,Cn.clash a b=af:=⟨_,rfl⟩;have ab:=R;unfold Cn.clash at ab;rw[R];clear R;have h1:=fun h=>Cn.x0o (r:=a) ra h;have h2:=fun h=>Cn.x0o (r:=b) rb h;have h3:=Cn.right_step ra;obtain⟨ao,ca,rfl,_,_⟩:=aG.shape;obtain⟨bo,Y,rfl,_,_⟩:=aH.shape;have C:Hid (∀s hi k c,c<=hi->Cn.speaks b c=true->Cn.clashA b s hi (k+1) c=true):=fun s hi k c h hs=>Cn.y4u h hs;have HN:Hid (∀s hi k c,c<=hi->Cn.speaks b c=false->Cn.clashA b s hi (k+1) c=Cn.clashA b s hi k (c+s)):=fun s hi k c h hs=>Cn.y1F h hs;have T:Hid (∀s hi k c,¬c<=hi->Cn.clashA b s hi k c=false):=fun s hi k c h=>Cn.y4t h;have HZ:Hid (∀s hi c,Cn.clashA b s hi 0 c=false):=fun s hi c=>rfl;have ag:b.kind=15->Cn.fam b.kind=10:=fun h=>(by rw[h];rfl);have Q:Cn.fam a.kind=10->a.kind=15:=Cn.z1k;have ay:=fa.kind;have az:=fb.kind;clear aG aH ra rb fa fb;generalize Cn.clashA b=cA,Cn.speaks b=sp,Cn.step a=m at *;unfold recV at *;generalize a.kind=kind1,a.lo=lo1,a.hi=hi1,a.n=n1 at *;generalize a.name=name1,a.other=other1,a.wt=wt1,b.kind=A at *;generalize b.lo=lo2,b.hi=hi2,b.n=n2 at *;generalize b.name=name2,b.other=other2,b.wt=aj at *;generalize a.to.length=tl1,b.to.length=ai at *;have F1:=O ay;have M:=O az;clear ay az;generalize Cn.fam=fam at *;obtain⟨w0,P,G,aw,aB⟩:=z4h w kind1 lo1 hi1 n1 (.slice ao tl1 ca) name1 other1 wt1 A lo2 hi2 n2 (.slice bo ai Y) name2 other2 aj;unfold boxO at P;have l:=O G;have ar:=O aw;have o:=O aB;clear aB;obtain⟨x,u,p,x3,x4,j,g,K⟩:=G;obtain⟨y0,t,y2,i,B,L,I,J⟩:=aw;by_cases z:fam kind1=fam A;rotate_left
  · rw[if_pos z]at ab
    subst ab;have q:(fam kind1 != fam A)=true:=p1I;clear h1 h2 h3 ag Q C HN T HZ KS KP z;go_enter func71,ntmps71;go_wp2_with fail;go_quiet(first| (go_at_call 72;refine Calls.quiet_of_same (V (D _ _ ?_));with_reducible (first| exact F1 | exact M)));go_wp2;go_ret;exact⟨rfl,x0b (V o) (x0k ⟨_,rfl⟩)⟩
  rw[if_neg T8N]at ab;have q:(fam kind1 != fam A)=false:=p1I;by_cases f:kind1=15
  · rw[if_pos f]at ab
    have aF:(kind1==15)=true:=(by simp[f]);clear f z;have N:=bytes_beq name1 name2;have e2:=bytes_beq other1 other2;have e3:=bytes_beq name1 other2;have e4:=bytes_beq other1 name2
    have aC:af=((decide (name1=name2)&&decide (other1=other2))||(decide (name1=other2)&&decide (other1=name2))):=by
      rw[<- ab];by_cases c1:name1=name2<;>by_cases c2:other1=other2<;>by_cases c3:name1=other2<;>by_cases c4:other1=name2<;>simp_all
    clear ab h1 h2 h3 ag Q C HN T HZ KS KP;generalize decide (name1=name2)=c1,decide (other1=other2)=c2,decide (name1=other2)=c3,decide (other1=name2)=c4 at *;subst aC;cases c1<;>cases c2<;>cases c3<;>cases c4<;>
    (go_enter func71,ntmps71
     go_wp2_with fail;go_quiet(first| (go_at_call 72;refine Calls.quiet_of_same (V (D _ _ ?_));with_reducible (first| exact F1 | exact M)));go_wp2;go_ret
     exact⟨rfl,x0b (V o) (x0k ⟨_,rfl⟩)⟩)
  rw[if_neg f]at ab;have aF:(kind1==15)=false:=b0f f;have aA:A≠15:=fun h=>f (Q (z.trans (ag h)));obtain⟨a0,a1,a2⟩:=h1 f;obtain⟨b0,b1,b2⟩:=h2 aA;obtain⟨s0,s1⟩:=h3;clear h1 h2 ag Q aA f z;have aL:∃mx,max lo1 lo2=mx/\0<=mx/\mx<=1114111/\lo1<=mx:=⟨_,rfl,f6J,f6J,f6J⟩;obtain⟨mx,aJ,m0,m1,m2⟩:=aL;have aK:∃mn,min hi1 hi2=mn/\0<=mn/\mn<=1114111:=⟨_,rfl,f6J,f6J⟩;obtain⟨mn,aI,n0,n9⟩:=aK;rw[aJ,aI]at ab
  obtain⟨c0,am,c1,c2,ab⟩:∃c0:Int,(if lo1<mx then lo1+(mx-lo1+m-1) / m*m else lo1)=c0/\0<=c0/\c0<=1114200/\cA m mn 64 c0=af:=by
    refine⟨_,rfl,?_,?_,ab⟩
    · split
      · have:=Int.ediv_nonneg (a:=mx-lo1+m-1) (b:=m) f6J f6J
        have:=Int.mul_nonneg this (f6J:0<=m);omega
      · omega
    · split
      · have:=Int.ediv_mul_le (mx-lo1+m-1) (f6J:m≠0)
        omega
      · omega
  have U:=O ab;clear ab;have ae:Hid (∀W,Bw w0 W->Calls prog 118 #[.agg #[.int .i64 kind1,.int .i64 lo1,.int .i64 hi1,.int .i64 n1,.slice ao tl1 ca,.string name1,.string other1,.float .f64 wt1]] W (fun e W'=>e=.returned (.int .i64 m)/\BoxAt W' w.heap.size kind1 lo1 hi1 n1 (.slice ao tl1 ca) name1 other1 wt1/\ClIn w (w.heap.size+1) A lo2 hi2 n2 (.slice bo ai Y) name2 other2 aj W')):=fun W hb=>(V KS W).mono (fun e W' ⟨h1,h2⟩=>⟨h1,(V l).keep (x0b hb h2),(V ar).keep (x0b hb h2),x0b (V o) (x0b hb h2)⟩);clear KS l ar o;rcases Int.lt_or_le lo1 lo2 with g1 | g1
  · obtain rfl:lo2=mx:=by omega
    rw[if_pos g1]at am;obtain⟨d,hd⟩:∃d,(lo2-lo1+m-1).tdiv m=d:=⟨_,rfl⟩;have aD:(lo2-lo1+m-1) / m=d:=(by rw[<- hd,Int.tdiv_eq_ediv_of_nonneg f6J]);have e0:=Int.mul_nonneg (Int.ediv_nonneg (a:=lo2-lo1+m-1) (b:=m) f6J f6J) (f6J:0<=m);have N:=Int.ediv_mul_le (lo2-lo1+m-1) (f6J:m≠0);have e8:=Int.ediv_nonneg (a:=lo2-lo1+m-1) (b:=m) f6J f6J;have e9:=Int.ediv_le_self (a:=lo2-lo1+m-1) m f6J;rw[aD]at am e0 N e8 e9;obtain rfl:=am;have e2:(m==0)=false:=b0f f6J;clear aD;rcases Int.lt_or_le hi2 hi1 with g2 | g2
    · obtain rfl:hi2=mn:=by omega
      go_enter func71,ntmps71;go_wp2_with fail;go_quiet(first| (go_at_call 72;refine Calls.quiet_of_same (V (D _ _ ?_));with_reducible (first| exact F1 | exact M)));go_wp2_with fail;go_quiet(fail);clear D F1 M;go_wp2_with fail;refine((V ae) _ (x0k ⟨_,rfl⟩)).mono ?_;rintro N w1 ⟨rfl,G,X⟩;have S:=O X;clear ae X x u p x3 x4 j g K y0 t y2 i B L I J P;obtain⟨x,u,p,x3,x4,j,g,K⟩:=G;go_wp2_with fail;go_quiet(fail);have S:=O ((V S).on (x0k ⟨nq,rfl⟩));go_wp2;clear x u p x3 x4 j g K;go_loopw[8,9] (fun E kv wr=>∃(k:Nat) (c:Int),E=.int .i64 c/\kv=.int .i64 k/\k<=64/\0<=c/\c<=1114200/\cA m hi2 (64-k) c=af/\ClIn w (w.heap.size+1) A lo2 hi2 n2 (.slice bo ai Y) name2 other2 aj wr) (fun _ kv _=>64-(intOf kv).toNat)
      case atStart=>exact N4s
      case round =>exact g7X
    · obtain rfl:hi1=mn:=by omega
      go_enter func71,ntmps71;go_wp2_with fail;go_quiet(first| (go_at_call 72;refine Calls.quiet_of_same (V (D _ _ ?_));with_reducible (first| exact F1 | exact M)));go_wp2_with fail;go_quiet(fail);clear D F1 M;go_wp2_with fail;refine((V ae) _ (x0k ⟨_,rfl⟩)).mono ?_;rintro N w1 ⟨rfl,G,X⟩;have S:=O X;clear ae X x u p x3 x4 j g K y0 t y2 i B L I J P;obtain⟨x,u,p,x3,x4,j,g,K⟩:=G;go_wp2_with fail;go_quiet(fail);have S:=O ((V S).on (x0k ⟨nq,rfl⟩));go_wp2;clear x u p x3 x4 j g K;go_loopw[8,9] (fun E kv wr=>∃(k:Nat) (c:Int),E=.int .i64 c/\kv=.int .i64 k/\k<=64/\0<=c/\c<=1114200/\cA m hi1 (64-k) c=af/\ClIn w (w.heap.size+1) A lo2 hi2 n2 (.slice bo ai Y) name2 other2 aj wr) (fun _ kv _=>64-(intOf kv).toNat)
      case atStart=>exact N4s
      case round =>exact T8l
  · obtain rfl:lo1=mx:=by omega
    rw[if_neg f6J]at am;obtain rfl:=am;rcases Int.lt_or_le hi2 hi1 with g2 | g2
    · obtain rfl:hi2=mn:=by omega
      go_enter func71,ntmps71;go_wp2_with fail;go_quiet(first| (go_at_call 72;refine Calls.quiet_of_same (V (D _ _ ?_));with_reducible (first| exact F1 | exact M)));go_wp2_with fail;go_quiet(fail);clear D F1 M;go_wp2_with fail;refine((V ae) _ (x0k ⟨_,rfl⟩)).mono ?_;rintro N w1 ⟨rfl,G,X⟩;have S:=O X;clear ae X x u p x3 x4 j g K y0 t y2 i B L I J P;obtain⟨x,u,p,x3,x4,j,g,K⟩:=G;go_wp2;clear x u p x3 x4 j g K;go_loopw[8,9] (fun E kv wr=>∃(k:Nat) (c:Int),E=.int .i64 c/\kv=.int .i64 k/\k<=64/\0<=c/\c<=1114200/\cA m hi2 (64-k) c=af/\ClIn w (w.heap.size+1) A lo2 hi2 n2 (.slice bo ai Y) name2 other2 aj wr) (fun _ kv _=>64-(intOf kv).toNat)
      case atStart=>exact⟨0,_,rfl,rfl,f6J,f6J,f6J,V U,V S⟩
      case round =>exact g7X
    · obtain rfl:hi1=mn:=by omega
      go_enter func71,ntmps71;go_wp2_with fail;go_quiet(first| (go_at_call 72;refine Calls.quiet_of_same (V (D _ _ ?_));with_reducible (first| exact F1 | exact M)));go_wp2_with fail;go_quiet(fail);clear D F1 M;go_wp2_with fail;refine((V ae) _ (x0k ⟨_,rfl⟩)).mono ?_;rintro N w1 ⟨rfl,G,X⟩;have S:=O X;clear ae X x u p x3 x4 j g K y0 t y2 i B L I J P;obtain⟨x,u,p,x3,x4,j,g,K⟩:=G;go_wp2;clear x u p x3 x4 j g K;go_loopw[8,9] (fun E kv wr=>∃(k:Nat) (c:Int),E=.int .i64 c/\kv=.int .i64 k/\k<=64/\0<=c/\c<=1114200/\cA m hi1 (64-k) c=af/\ClIn w (w.heap.size+1) A lo2 hi2 n2 (.slice bo ai Y) name2 other2 aj wr) (fun _ kv _=>64-(intOf kv).toNat)
      case atStart=>exact⟨0,_,rfl,rfl,f6J,f6J,f6J,V U,V S⟩
      case round =>exact T8l
theorem x0L(w:World)(J lo hi n:Int)(vt:Value)(Z M:ByteArray)(wt:Nat):∃W,w.alloc (.cells #[.int .i64 J,.int .i64 lo,.int .i64 hi,.int .i64 n,vt,.string Z,.string M,.float .f64 wt] 67)=W/\BoxAt W w.heap.size J lo hi n vt Z M wt/\Bw w W :=
 ⟨_,rfl,y1C w J lo hi n vt Z M wt,(b0r).alloc (l0r _) _⟩
def ansG(x:Bool):Int:=if x=true then 0 else 61
theorem x0O(x:Int):Rune (wrap32 x):=by
 unfold wrap32 Rune;omega
theorem x1e{x:Int}(T:0<=x)(D:x<=1114111):wrap32 (bits BinOp.and IntKind.i64 x 2097151)=x:=by
 have A:(2:Int)^63=9223372036854775808:=e8N;have h:=bits_mask .i64 63 e8N (fun n T D=>by rw[A]at D;exact s7C) 21 e8N x f6J (by rw[A];exact f6J);have e:((2:Int)^21-1)=2097151:=e8N;have f:((2:Int)^21)=2097152:=e8N;rw[e,f]at h;rw[h];unfold wrap32;omega
