/- Lemmas. -/
import Derived.Test.YtkfcabdmkmljjaaGreatDoorF44
set_option maxHeartbeats 8000000
set_option maxRecDepth 20000
namespace Go.Proofs.YtkfcabdmkmljjaaGreatDoor
open Go.Proofs.Tryz
open Go.RowKit
open Ti
namespace Id
abbrev Flo(g o:Int):Prop:=Lb.flg o 1=Lb.flg g 1/\Lb.flg o 2=Lb.flg g 2/\Lb.flg o 4=Lb.flg g 4/\Lb.flg o 8=Lb.flg g 8/\(bits .and .i64 o 32==32)=(bits .and .i64 g 32==32)
theorem z0k(f:Nat)(C:f<64):∃g o:Nat,g<64/\o<64/\bits .andNot .i64 (f:Int) 16=(g:Int)/\bits .or .i64 (g:Int) 16=(o:Int)/\Flo g o:=by
 have h:∀a:Fin 64,a.val|||16<64/\bits .andNot .i64 ((a.val:Nat):Int) 16=((a.val&&&47:Nat):Int)/\bits .or .i64 ((a.val&&&47:Nat):Int) 16=((a.val|||16:Nat):Int)/\Flo ((a.val&&&47:Nat):Int) ((a.val|||16:Nat):Int):=M3j;obtain⟨Z,D,J,F⟩:=h ⟨f,C⟩;exact⟨f&&&47,f|||16,Nat.lt_of_le_of_lt Nat.and_le_left C,Z,D,J,F⟩
theorem q0k{q:Lb.Of}{g o:Int}(h:Flo g o){dec c}(I:q.st c≠4):Lb.nb q o dec c=Lb.nb q g dec c:=by
 have Y:∀fl,Lb.bst q fl dec c=decide (q.st c≠1):=fun fl=>(by unfold Lb.bst;simp[I]);have L:Lb.std o c=Lb.std g c:=(by unfold Lb.std;rw[h.2.2.2.1]);unfold Lb.nb;rw[Y,Y,L]
theorem z7z{q:Lb.Of}{g o:Int}(h:Flo g o){dec}(X:List Int)(t:∀c∈X,q.st c≠4):Lb.num q o dec X=Lb.num q g dec X:=by
 have e:∀fl,Lb.num q fl dec X=(X.map (Lb.nb q fl dec)).foldl (·|||·) 0:=fun fl=>(by rw[List.foldl_map];rfl);have A:X.map (Lb.nb q o dec)=X.map (Lb.nb q g dec):=List.map_congr_left fun c I=>q0k h (t c I);rw[e,e,A]
theorem z6d{rs}{g o:Int}(h:Flo g o){X rtl dec}(t:∀c∈X,Cn.vget rs 1 c≠4):Cn.x5C rs o X rtl dec=Cn.x5C rs g X rtl dec:=by
 have F:Lb.num (Cn.of18 rs X) o dec X=Lb.num (Cn.of18 rs X) g dec X:=z7z h X t;unfold Cn.x5C Lb.err Lb.chk Lb.hd;rw[F,h.1,h.2.1,h.2.2.1]
theorem z3U{mp mp' nc hr}{ck B:List Int->Bool->Bool->Nat}{zs}(o:mp' (Utf.dec 0 zs).1=mp (Utf.dec 0 zs).1)(I:∀X∈(proc mp nc hr ck zs).1,∀r d,B X r d=ck X r d):proc mp' nc hr B zs=proc mp nc hr ck zs:=by
 have e:cut mp' nc zs=cut mp nc zs:=(by unfold cut;rw[o]);unfold proc at I ⊢;rw[e];split
 ·rfl
 ·rename_i h0
  rw[if_neg h0]at I;split
  ·rfl
  ·rename_i h1
   rw[if_neg h1]at I
   have:∀b,acc B b (cut mp nc zs).1=acc ck b (cut mp nc zs).1:=fun b=>by
    unfold acc;congr 1;refine List.map_congr_left fun x A=>?_;unfold wrong wr;split
    ·exact I _ (List.mem_map.2 ⟨x,A,rfl⟩) _ _
    ·rfl
   rw[this]
theorem z3L{rs}{g o:Int}{zs}(h:Flo g o)(hd:∀c∈(Utf.dec 0 zs).1,Cn.vget rs 1 c≠4)(S:∀y∈(Cn.proc19 rs g zs).1,∀c∈y,Cn.vget rs 1 c≠4):Cn.proc19 rs o zs=Cn.proc19 rs g zs:=by
 unfold Cn.proc19 at *;refine z3U ?_ fun X t r d=>z6d h (S X t);unfold Cn.map19 x0I;congr 1;refine List.map_congr_left fun c I=>?_;have:=hd c I;unfold Cn.y1m;simp[this]
theorem z2c{rs}{g:Int}{zs vd}(S:zs.length<=16384)(hd:(Utf.dec 0 zs).2.2≠0):(toA vd (Cn.proc19 rs g zs)).2=1:=by
 rw[y3H S hd];exact congrArg Prod.snd (if_pos rfl:toA vd ([],1)=([],1))
theorem y4e{P:Int->Prop}{L:List (List Int)}{x}(h:∀k,k<(L++[x]).length->∀c∈(L++[x]).getD k [],P c):(∀c∈x,P c)/\∀y∈L,∀c∈y,P c:=by
 refine⟨fun c I=>h L.length M7M c (by simpa[List.getD]using I),fun y g c I=>?_⟩;obtain⟨k,G,rfl⟩:=List.mem_iff_getElem.1 g;exact h k P8P c (by simpa[List.getD,G,List.getElem?_append_left G]using I)
end Id
theorem y6H{W w':World}{B C:Nat}{v v':Value}{xss:List (List Int)}{us:List Value}{u:Value}{x:List Int}(Z:us.length=xss.length)(hr:W.ownsRow B 36 1 v xss.length us)(J:∀i,i<xss.length->Ok .i32 21 W B (us.getD i undef) (xss.getD i []))
  (A:Ok .i32 21 W C u x) (Q:w'.ownsRow B 36 1 v' (xss.length+1) (us++[u])) (H:W.grownBy w' v.ownBlock) (S:xss.length<=900000000):Rws w' v' (xss++[x]):=by
 have G:∀C u l,Ok .i32 21 W C u l->Ok .i32 21 w' C u l:=fun C u l h=>⟨h.1,h.2.1,h.2.2.kept H (x3P e8P h.2.2 hr)⟩;refine⟨us++[u],by simp[Z],Ow.sv (e:=36) (B:=B) ⟨P8P,by rw[show(us++[u]).length=xss.length+1 by simp[Z]];exact Q⟩,fun i hi=>?_⟩;rw[List.length_append,List.length_singleton]at hi;by_cases E:i<xss.length
 ·have:=(G _ _ _ (J i E)).sk;unfold List.getD at this ⊢;rwa [List.getElem?_append_left f6J,List.getElem?_append_left E]
 ·obtain rfl:i=xss.length:=f6J;have:=(G _ _ _ A).sk;unfold List.getD;rw[List.getElem?_append_right f6J,List.getElem?_append_right f6J,Z];exact W2K
theorem old_law19 v rs0 s0 fl w(hg:Glob w)(hv:Rcs w v rs0):Calls prog 7 #[v,.string s0,.int .i64 fl] w (y4Q w true):=by
 obtain⟨j0,hj,bB,bC,bD⟩:=info_parts Tryz.infoY36;have K1:=O (x6f v rs0 w hg hv);obtain⟨ao,bR,rfl,_,ce⟩:=hv.shape;have HG:=O hg;have K:∀r∈rs0.take 150,RecFit r:=fun r hr=>hv.2.1 _ (List.mem_of_mem_take hr);clear hg hv;generalize rs0.take 150=rs,rs0.length=L at *;obtain⟨s,hs⟩:∃s,s0.extract 0 (min (s0.size:Int) 400).toNat=s:=⟨_,rfl⟩;have cL:s.size<=400:=(by rw[<- hs,ByteArray.size_extract];exact f6J);obtain⟨f,hf,cf⟩:=Id.z5K fl;obtain⟨g,o,cG,cJ,cH,cK,bA⟩:=Id.z0k f hf;have HF:=O bA;clear bA;go_enter func7,ntmps7;go_wp2_with fail;refine(V K1).mono ?_;rintro e1 w1 ⟨b1,h1⟩;have R:=O b1;clear K1 b1;rcases h1 with⟨bT,rfl⟩ | ⟨h0,p,v2,bL,rfl,F,r2,p2⟩
 ·have K2:=O (z1t w1 ((V HG).on (V R)));clear bT HF;go_wp2_with fail;refine c0m K2 fun w2 b2=>?_;have bM:=O (bthen (V R) b2);clear K2 b2;go_wp2;go_ret;exact⟨rfl,V bM⟩
 ·obtain⟨a2,cw,bU⟩:∃a c,v2=.slice a bL.length c:=by
   rcases r2.1.2 with⟨h,h0⟩ | ⟨g,bR,cB,e,_⟩
   ·exact N2v
   ·exact m4S
  subst bU;have h6:=x2K h0;have HI:∀k:Int,IdC p k (Cn.map19 rs k) (Cn.nfc19 rs) (Cn.x5G rs) (Cn.x5C rs k) w1:=fun k=>x5H ((V HG).on (V R)) F h0 K k;have KP:Hid (∀W,Bw w1 W->∀q,EngAt W q (g:Int) p->Calls prog 17 #[.pointer (some ⟨q,0,none⟩),.string s] W (y1Z W (Cn.proc19 rs g (nums s)))):=fun W U q Y=>x1h (x5H ((V HG).on (bthen (V R) U)) (F.below U) h0 K g) Y s
  have KA:∀k:Nat,Hid (∀W,Bw w1 W->∀q,EngAt W q (k:Int) p->Calls prog 11 #[.pointer (some ⟨q,0,none⟩),.string s] W (x6s W (Id.toA (bits .and .i64 (k:Int) 32==32) (Cn.proc19 rs k (nums s))))):=fun k W U q Y=>by
   have hI:=x5H ((V HG).on (bthen (V R) U)) (F.below U) h0 K (k:Int);exact z8o hI Y (x1h hI Y s)
  have KU:∀k:Nat,Hid (∀W,Bw w1 W->∀q,EngAt W q (k:Int) p->Calls prog 12 #[.pointer (some ⟨q,0,none⟩),.string s] W (x6s W (Id.toU (Cn.proc19 rs k (nums s)) (nums s)))):=fun k W U q Y=>by
   have hI:=x5H ((V HG).on (bthen (V R) U)) (F.below U) h0 K (k:Int);exact E7f
  have KS:Hid (∀W,Bw w1 W->∀c,Rune c->Calls prog 16 #[.pointer (some ⟨p,0,none⟩),.int .i32 c] W (x1e W (Cn.vget rs 1 c))):=fun W U c hc=>x3N c W (F.below U) h6 hc;have KD:Hid (∀W,Calls prog 19 #[.string s] W (x0K W (Utf.dec 0 (nums s)))):=fun W=>decC s W f6J;have HQ:Hid ((∀k,k<((Cn.proc19 rs g (nums s)).1++[(Utf.dec 0 (nums s)).1]).length->∀c∈((Cn.proc19 rs g (nums s)).1++[(Utf.dec 0 (nums s)).1]).getD k [],Cn.vget rs 1 c≠4)->Cn.proc19 rs o (nums s)=Cn.proc19 rs g (nums s)):=fun h=>Id.z3L (V HF) (Id.y4e h).1 (Id.y4e h).2;have aF:Hid ((Utf.dec 0 (nums s)).2.2≠0->(Id.toA (bits .and .i64 (g:Int) 32==32) (Cn.proc19 rs g (nums s))).2=1):=fun hd=>Id.z2c (by rw[nums_length];exact f6J) hd;have bE:=(Id.Way.len (ways19 (HI g) s));have K3:=O (y6e p g f6J f6J w1);have K4:=O fun W=>y6e p o f6J f6J W;have bj:=KA g;have aK:=KA o;have bm:=KU g;have bn:=KU o;rw[(V HF).2.2.2.2]at aK;clear KA KU HI F r2 h0 h6 HG p2 K HF;generalize(bits .and .i64 (g:Int) 32==32)=vd,Cn.proc19 rs g (nums s)=r,Cn.proc19 rs o (nums s)=ro,Utf.dec 0 (nums s)=dd at *;obtain⟨d1,d2,d3⟩:=dd;obtain⟨E,n⟩:=r;simp only at bE;generalize bL.length=rl at *;go_wp2_with fail;refine(V K3).mono ?_;rintro e3 w3 ⟨q,rfl,Y,b3⟩;have HE:=O Y;have aR:=O b3;have aP:=O (bthen (V R) b3);clear K3 Y b3 R;go_wp2_with fail;refine(V K4 w3).mono ?_;rintro e4 w4 ⟨q',rfl,bt,b4⟩;have aV:=O bt;have aG:=O ((V HE).on b4);have x:=O (bthen (V aR) b4);have aQ:=O (bthen (V aP) b4);clear K4 bt b4 HE aR aP;have K5:=O (V KD w4);go_wp2_with fail;refine(V K5).mono ?_;rintro e5 w5 ⟨v5,rfl,aN,b5⟩;have K6:=O (V KP w5 (bthen (V x) b5) q ((V aG).on b5));obtain⟨y,ar,rfl,_,_⟩:=aN.sk.shape;have aT:=O b5;have aJ:=O aN;have bI:=b5.size;clear K5 KD KP b5 aN;simp only at aJ HQ aF ⊢;go_wp2_with fail;refine(V K6).mono ?_;rintro e6 w6 ⟨b6,v6,rfl,bG⟩;have aU:=O (bthen (V aT) b6);have aX:=O ((V aJ).below b6);have bJ:=b6.size;obtain⟨bQ,bS,rfl⟩:=bG.shape19;obtain⟨us,u1,u2,u3,_⟩:=bG;simp only at u1 u2 u3;have HU:=O u2
  have HR:Hid (∀v8 w8,w8.ownsRow w5.heap.size 36 1 v8 (E.length+1) (us++[.slice y d1.length ar])->(w6.alloc (.cells #[.slice y d1.length ar] 36)).grownBy w8 (Value.slice bQ E.length bS).ownBlock->Rws w8 v8 (E++[d1])/\Bw w4 w8):=fun v8 w8 B A=>by
   have ha:∀C u l,Ok .i32 21 w6 C u l->Ok .i32 21 (w6.alloc (.cells #[.slice y d1.length ar] 36)) C u l:=fun C u l h=>⟨h.1,h.2.1,h.2.2.alloc _⟩;refine⟨y6H u1 (u2.alloc _) (fun i hi=>ha _ _ _ (u3 i hi)) (ha _ _ _ (V aX)) B A f6J,?_⟩;exact((V aU).alloc f6J _).grown A P8P fun k hk=>by have:=(u2.lt k hk).1;exact f6J
  clear K6 b6 aT aJ aU aX u3;go_wp2_with(at_builtin;refine wpList_append_own _ rfl (.tmp 81) (.tmp 83) 44 rfl w5.heap.size 36 j0 (.slice none 0 0) 1 24 underlying44 hj bB bC bD rfl e8R _ _ _ rfl ((V HU).alloc _) ⟨w6.heap.size,0,none⟩ 1 1 [.slice y d1.length ar] rfl rfl (cell_one_new _ _ _) (x2i _ _ _) T7X f6J P8P ?_);intro v8 w8 B A _;obtain⟨R8,b8⟩:=V HR v8 w8 B A;have aB:=O (bthen (V aQ) b8);have aj:=O (bthen (V x) b8);have aW:=O ((V aG).on b8);have aA:=O ((V aV).on b8);clear HR HU u2 u1 B A b8 aQ x aG aV bI bJ hj bB bC bD;obtain⟨Z,hZ⟩:∃Z,E++[d1]=Z:=⟨_,rfl⟩;have bX:E.length+1=Z.length:=(by rw[<- hZ];exact M7P);simp only[hZ]at R8 HQ;obtain⟨b,bK,cz,vs,bV,cD,cE,hc,bH⟩:=R8.place f6J;subst bV;have HC:Hid (∀wr,Bw w8 wr->∀i,i<Z.length->wr.cell? ⟨b,bK+i,none⟩=some (vs.getD i undef)/\Sk .i32 wr (vs.getD i undef) (Z.getD i [])):=fun wr hb i hi=>⟨by rw[hb.cell (x0a (hc i hi))];exact hc i hi,(bH i hi).below hb⟩;clear R8 hc bH hZ bE bX;go_wp2;go_loopw[19,20] (fun iv _ wr=>∃i:Nat,iv=.int .i64 i/\i<=Z.length/\(∀k,k<i->∀c∈Z.getD k [],Cn.vget rs 1 c≠4)/\Bw w8 wr) (fun iv _ _=>Z.length-(intOf iv).toNat)
  case atStart=>exact⟨0,rfl,f6J,fun k hk=>absurd hk (Nat.not_lt_zero _),b0r⟩
  case round =>
   obtain⟨i,rfl,hi,aM,ab⟩:=hrel;have m:=O aM;have aD:=O ab;by_cases bF:i<Z.length
   ·obtain⟨c1,s1⟩:=V HC wr ab i bF;obtain⟨ai,ci,aO,_,_⟩:=s1.shape
    have HX:Hid (∀W,Bw w8 W->W.cell? ⟨b,bK+i,none⟩=some (.slice ai (Z.getD i []).length ci)/\Sk .i32 W (.slice ai (Z.getD i []).length ci) (Z.getD i [])):=fun W U=>by
     have:=V HC W U i bF;rwa [aO]at this
    have bO:Hid ((∀c∈Z.getD i [],Cn.vget rs 1 c≠4)->∀k,k<i+1->∀c∈Z.getD k [],Cn.vget rs 1 c≠4):=fun h k hk=>by
     rcases Nat.lt_or_ge k i with h' | h'
     ·exact V m k h'
     ·obtain rfl:k=i:=f6J;exact h
    rw[aO]at c1;have bN:=O c1;clear s1 aO aM ab c1 m;generalize Z.getD i []=X at *;go_wp2;go_loopw[20] (fun jv wj=>∃j:Nat,jv=.int .i64 j/\j<=X.length/\(∀c∈X.take j,Cn.vget rs 1 c≠4)/\Bw w8 wj) (fun jv _=>X.length-(intOf jv).toNat)
    case atStart=>exact⟨0,rfl,f6J,M7P,V aD⟩
    case round =>
     clear aD bN;obtain⟨j,rfl,cI,aL,M⟩:=hrel;obtain⟨c1,s1⟩:=V HX wr M;have J:=O aL;have aC:=O M;by_cases aw:j<X.length
     ·obtain⟨bi,oi,cj,he,_,_,bu⟩:=s1.place f6J;obtain⟨rfl,_,rfl⟩:=Value.slice.inj he;have c2:=bu j aw;have K9:=O (fun W U=>V KS W U (X.getD j 0) (x0V s1 aw))
      have bP:Hid (Cn.vget rs 1 (X.getD j 0)≠4->∀c∈X.take (j+1),Cn.vget rs 1 c≠4):=fun h c hc=>by
       rw[List.take_succ_eq_append_getElem aw]at hc;rcases List.mem_append.1 hc with hc | hc
       ·exact V J c hc
       ·obtain rfl:=List.mem_singleton.1 hc;simpa[List.getD,aw]using h
      clear bu s1 he aL M J;generalize X.getD j 0=c at *;have aY:=O (V K9 wr (bthen (V aj) (V aC)));clear K9;go_wp2_with fail;refine c0m aY fun cM bw=>?_;have d:=O (bthen (V aC) (x0i bw));clear aY bw;by_cases h4:Cn.vget rs 1 c=4
      ·rw[h4];have HR:=O (bthen (V aB) (V d));go_wp2;go_ret;exact⟨rfl,V HR⟩
      ·have cC:(Cn.vget rs 1 c==4)=false:=b0f h4;have aI:=O (V bP h4);generalize Cn.vget rs 1 c=z at *;go_wp2
       go_roundw
       case rel=>exact⟨j+1,g2C,f6J,V aI,V d⟩
       case measure=>exact g7W
     ·obtain rfl:j=X.length:=f6J;have aI:=O (V bO (by have:=V J;rwa [List.take_length]at this));clear s1 aL M J;go_wp2;go_round
      case rel=>exact⟨i+1,g2C,f6J,V aI,V aC⟩
      case measure=>exact g7W
   ·obtain rfl:i=Z.length:=f6J;obtain rfl:=V HQ (V m);have ae:=O (bthen (V aj) ab);have aS:=O (bthen (V aB) ab);have aH:=O ((V aW).on ab);have I:=O ((V aA).on ab);clear HQ m aM ab aD HC KS aj aB aW aA;have aZ:=O (V bj wr (V ae) q (V aH));generalize Id.toA vd (E,n)=aa,Id.toU (E,n) (nums s)=uu at *;obtain⟨a1,a3⟩:=aa;obtain⟨z1,z3⟩:=uu;simp only at aF;go_wp2_with fail;refine c0m aZ fun bY S=>?_;have ba:=O (V aK bY (bthen (V ae) S) q' ((V I).on S));have t:=O (bthen (V ae) S);have T:=O (bthen (V aS) S);have Q:=O ((V aH).on S);have am:=O ((V I).on S);clear aZ bj aK S ae aS aH I;go_wp2_with fail;refine c0m ba fun bZ G=>?_;have be:=O (V bm bZ (bthen (V t) G) q ((V Q).on G));have D:=O (bthen (V t) G);have ay:=O (bthen (V T) G);have H:=O ((V am).on G);clear ba bm G t T Q am;go_wp2_with fail;refine c0m be fun cd aq=>?_;have bh:=O (V bn cd (bthen (V D) aq) q' ((V H).on aq));have N:=O (bthen (V ay) aq);clear be bn aq D ay H;go_wp2_with fail;refine c0m bh fun cN bp=>?_;have P:=O (bthen (V N) bp);clear bh bp N;simp only;generalize strOfNums a1=sa,strOfNums z1=sz at *;by_cases hd:d3=0
    ·subst hd;exact E1D
    ·have cF:(d3==0)=false:=b0f hd;obtain rfl:=V aF hd;exact E1D
