/- Uo9 Uf9 Ug9 CcP7 Uh9 Un9 CcS7 CcU7 -/
import Derived.Test.YtbmckadcjdedcaaGreatDoorD8
import Derived.Test.YtbmckadcjdedcaaGreatDoorD15
import Derived.Test.YtbmckadcjdedcaaGreatDoorD20
import Derived.Laws.Externs
import Derived.Laws.FloatArith
set_option maxHeartbeats 16000000
set_option maxRecDepth 20000
namespace Go.Proofs.YtbmckadcjdedcaaGreatDoor
open Go.Proofs.Tryz
open Go.RowKit Go.MapKept Go.WideMaps
open Go.ChangeMaps (setBlock)
section
variable{p:Prop}
theorem n1o(h:p:=by
 unfold Conv.floatToFloat;rw[if_neg e8M];split
 ·exact t5f
 ·exact⟨_,0,rfl⟩
 ·dsimp only;split
  ·exact t5f
  ·exact⟨_,0,rfl⟩):p:=h
theorem e7r(h:p:=by rcases G with e | e | e<;>(rw[e];decide)):p:=h
theorem u1E(h:p:=by obtain⟨u,n,h⟩:=S;refine⟨u,n,?_⟩;rw[<- h];simp[convert,run_underlying X,run_underlying hd]):p:=h
theorem t5f(h:p:=by
 rw[Sem.run_bind,run_choose_drew];split
 ·exact⟨_,0,rfl⟩
 ·exact⟨_,1,rfl⟩):p:=h
theorem u6y(h:p:=by rw[ltG]at *;simp at *;exact f6J):p:=h
theorem M5Z(h:p:=by
 go_roundw
 case rel=>exact⟨k+1,by go_num,f6J,aq⟩
 case measure=>exact g8a):p:=h
theorem n9Y(h:p:=by show((w.heap.push _).push _)[w.heap.size]?=_;rw[Array.getElem?_push,Array.getElem?_push];simp):p:=h
theorem I7o(h:p:=by go_wp2;go_ret;exact V HF):p:=h
theorem W9E(h:p:=by(intro w hSw;obtain⟨s0,s1,d,s3,s4,s5,s6,s7,s8,s9⟩:=hSw;go_simp)):p:=h
theorem E6n(h:p:=by rw[A.cell (x0a h)];exact h):p:=h
theorem t9J(h:p:=by(intro w hSw;obtain⟨s0,s1,d,s3,s4,s5,s6,s7,s8⟩:=hSw;go_simp)):p:=h
theorem s5q(h:p:=by show 0<8;exact f6J):p:=h
theorem T7f(h:p:=by show 0<3;exact f6J):p:=h
theorem M5r(h:p:=by first| exact A | simpa using A):p:=h
theorem G0Z(h:p:=by show 1<8;exact f6J):p:=h
theorem m6Q(h:p:=by first| rfl | exact aA):p:=h
theorem V3Y(h:p:=by show 2<8;exact f6J):p:=h
theorem e8d(h:p:=by show 3<8;exact f6J):p:=h
theorem e2Z(h:p:=by show 4<8;exact f6J):p:=h
theorem i3Z(h:p:=by show 5<8;exact f6J):p:=h
theorem F4N(h:p:=by show 6<8;exact f6J):p:=h
theorem U3A(h:p:=by show 7<8;exact f6J):p:=h
theorem w8r(h:p:=by simp[is78]):p:=h
theorem T7E(h:p:=by simp[is6]):p:=h
end
def KP(v:Value):Prop:=∃a b,v=pk2 a b/\Rune a/\Rune b
theorem ulawP:KeyLaw prog 208:=deep_law_laid x5R (m:=3) e8N (o0d f4x) f4x f4x
theorem y6O:prog.cellsOf 208=2:=f4x
theorem y8o:prog.keyType 208=true:=f4x
theorem y4Z{a b:Int}(L:Rune a)(C:Rune b)(D:Nat):prog.keyLits (D+2) 208 [.int .i32 a,.int .i32 b]=some [.int .i32 a,.int .i32 b]:=by
 rw[Program.keyLits.eq_def];simp only[underlying208,y6O];rw[if_pos ⟨rfl,M7K⟩];simp[List.mapM_cons,x3o L D,x3o C D,y6M]
theorem z9e{v:Value}(h:KP v):∃l,keyOf prog 208 v=some l:=by
 obtain⟨a,b,rfl,L,C⟩:=h
 have z:(pk2 a b).formed prog 208=true:=by
  simp[pk2,Value.formed,underlying208,y6O]
 obtain⟨n,E⟩:∃n,prog.types.size+1=n+2:=⟨prog.types.size-1,m4z⟩;refine⟨.string (keyBytes [.int .i32 a,.int .i32 b]),?_⟩;unfold keyOf;simp only[underlying208,y8o,z,Bool.and_self,if_true,E];show(prog.keyLits (n+2) 208 [.int .i32 a,.int .i32 b]).map _=_;rw[y4Z L C n];rfl
theorem klP:KL 208 KP:=KL.of ulawP fun _ h=>z9e h
def KR(v:Value):Prop:=∃a,v=.int .i32 a
theorem klR:KL 21 KR:=by
 have G:∀v,KR v->IsKey (.int .i32) v:=fun v h=>(by obtain⟨a,rfl⟩:=h;exact rfl);refine⟨fun w C v h=>run_checkKey underlying21 (G v h) C 9999,fun w x h A B=>?_,fun w v h=>?_⟩
 ·rcases findNow_spec (G x h) A 0 (fun e q=>G _ (B e q))with⟨D,Z⟩ | ⟨j,e,D,Z,R⟩
  ·exact .inl ⟨run_findKey underlying21 D,Z⟩
  ·rw[Nat.zero_add]at D;exact .inr ⟨j,e,run_findKey underlying21 D,Z,R⟩
 ·exact run_keyThatStays (G v h)
def KN(v:Value):Prop:=∃a b,v=pk a b/\Sh a/\Sh b
theorem ulawN:KeyLaw prog 211:=deep_law_laid x5R (m:=3) e8N (o0d f4x) f4x f4x
theorem y6K:prog.cellsOf 211=2:=f4x
theorem y8m:prog.keyType 211=true:=f4x
theorem y4X{a b:ByteArray}(L:Sh a)(C:Sh b)(D:Nat):prog.keyLits (D+2) 211 [.string a,.string b]=some [.string a.data.toList,.string b.data.toList]:=by
 rw[Program.keyLits.eq_def];simp only[underlying211,y6K];rw[if_pos ⟨rfl,M7K⟩];simp[List.mapM_cons,x2x L D,x2x C D,y6N]
theorem z8b{v:Value}(h:KN v):∃l,keyOf prog 211 v=some l:=by
 obtain⟨a,b,rfl,L,C⟩:=h
 have z:(pk a b).formed prog 211=true:=by
  simp[pk,Value.formed,underlying211,y6K]
 obtain⟨n,E⟩:∃n,prog.types.size+1=n+2:=⟨prog.types.size-1,m4z⟩;refine⟨.string (keyBytes [.string a.data.toList,.string b.data.toList]),?_⟩;unfold keyOf;simp only[underlying211,y8m,z,Bool.and_self,if_true,E];show(prog.keyLits (n+2) 211 [.string a,.string b]).map _=_;rw[y4X L C n];rfl
theorem klN:KL 211 KN:=KL.of ulawN fun _ h=>z8b h
namespace Cn
def x2K(l:List Rec)(a b:Int):Option Int:=(l.reverse.find? (isP a b)).map (·.lo)
def secOf(l:List Rec)(b:Int):Nat:=l.countP fun r=>decide (r.kind=7/\r.to.getD 1 0=b)
theorem x6P(l:List Rec)(r:Rec)(a b:Int):x2K (l++[r]) a b=if isP a b r=true then some r.lo else x2K l a b:=by
 unfold x2K;rw[List.reverse_append,List.reverse_cons,List.reverse_nil,List.nil_append,List.singleton_append,List.find?_cons];by_cases h:isP a b r=true
 ·rw[h,if_pos rfl];rfl
 ·grind
theorem x8n(l:List Rec)(r:Rec)(b:Int):secOf (l++[r]) b=secOf l b+if r.kind=7/\r.to.getD 1 0=b then 1 else 0:=by
 unfold secOf;rw[List.countP_append,List.countP_singleton];by_cases h:r.kind=7/\r.to.getD 1 0=b
 ·grind
 ·grind
theorem z2A(l:List Rec)(b:Int):secOf l b<=l.length:=List.countP_le_length
end Cn
def x3u(l:List Rec)(v:Value):Option Value :=
 match v with
 | .agg ⟨[.int .i32 a,.int .i32 b]⟩=>(Cn.x2K l a b).map (Value.int .i32)
 | _=>none
def secC(l:List Rec)(v:Value):Option Value :=
 match v with
 | .int .i32 b=>if Cn.secOf l b=0 then none else some (.int .i64 (Cn.secOf l b:Nat))
 | _=>none
theorem y3G(l:List Rec)(a b:Int):x3u l (pk2 a b)=(Cn.x2K l a b).map (Value.int .i32):=rfl
theorem x6O{l:List Rec}{r:Rec}{v:Value}(h:∀a b,v=pk2 a b->¬(r.kind=7/\r.to.getD 0 0=a/\r.to.getD 1 0=b)):x3u (l++[r]) v=x3u l v:=by
 unfold x3u;split
 ·rename_i a b
  rw[Cn.x6P,if_neg];intro A;exact h a b rfl (o0d A)
 ·rfl
theorem x8m{l:List Rec}{r:Rec}{v:Value}(h:∀b,v=.int .i32 b->¬(r.kind=7/\r.to.getD 1 0=b)):secC (l++[r]) v=secC l v:=by
 unfold secC;split
 ·rename_i b
  rw[Cn.x8n,if_neg (h b rfl),Nat.add_zero]
 ·rfl
theorem y9e(v:Value):x3u [] v=none:=by
 unfold x3u;split<;>rfl
theorem z2z(v:Value):secC [] v=none:=by
 unfold secC;split<;>rfl
open Go.RowKit Go.Sort Go.Shelf
open Ti
def encG(x:Tri.Rg):List Value:=[.int .i64 (Tri.lo x),.int .i64 (Tri.hi x),.int .i64 (Tri.vl x)]
theorem z1h(x:Tri.Rg):(encG x).length=3:=rfl
theorem z1i(x:Tri.Rg):∀v∈encG x,v.oneCell'=true:=by
 intro v N;simp only[encG,List.mem_cons,List.mem_nil_iff,or_false]at N;rcases N with rfl | rfl | rfl<;>rfl
def loG(x y:Tri.Rg):Int:=Lib.compareInt (Tri.lo x) (Tri.lo y)
theorem ltG(x y:Tri.Rg):ltOf loG x y=decide (Tri.lo x<Tri.lo y):=by
 unfold ltOf loG Lib.compareInt;by_cases D:Tri.lo x<Tri.lo y
 ·simp[D]
 ·grind
theorem swoG:SWO (ltOf loG):={
 irrefl:=fun x=>by rw[ltG];exact M7L
 trans:=fun x y z D Z=>u6y
 ntrans:=fun x y z D Z=>u6y }
theorem y6H(x y:Tri.Rg)(W:World):Calls prog 186 #[.agg (encG x).toArray,.agg (encG y).toArray] W fun e w'=>e=.returned (.int .i64 (loG x y))/\∃q A,w'=grow (W.drewN q) A:=by
 have K:=O (fun W=>x2U (Tri.lo x) (Tri.lo y) W);have e:Lib.compareInt (Tri.lo x) (Tri.lo y)=loG x y:=rfl;rw[e]at K;show Calls prog 186 #[.agg #[.int .i64 (Tri.lo x),.int .i64 (Tri.hi x),.int .i64 (Tri.vl x)],.agg #[.int .i64 (Tri.lo y),.int .i64 (Tri.hi y),.int .i64 (Tri.vl y)]] W _;go_enter func186,ntmps186;exact u6L
theorem x8h(xs:List Tri.Rg)(i j:Nat)(hi:i<xs.length)(K:j<3):(Ti.rcells xs)[i*3+j]?=some ((encG (xs.getD i (0,0,0)))[j]!):=by
 obtain⟨T,D,Z⟩:=Ti.x1v xs i hi;have S:=Ti.x1P xs;have e:∀k,k<(Ti.rcells xs).length->(Ti.rcells xs)[k]?=some ((Ti.rcells xs).getD k undef):=fun k G=>w8a
 match j,K with
 | 0,_=>rw[Nat.add_zero,e _ f6J,T];rfl
 | 1,_=>rw[e _ f6J,D];rfl
 | 2,_=>rw[e _ f6J,Z];rfl
theorem Or4.holds[Inhabited Tri.Rg]{w:World}{B g cap:Nat}{xs:List Tri.Rg}(h:Or4 w B (.slice (some ⟨g,0,none⟩) xs.length cap) xs):HoldsK encG 3 w g 0 xs.toArray:=by
 intro j K;rw[size_flatK]at K;have M:j<xs.length*3:=R6d;rw[get_flatK _ _ _ _ K];have hd:j / 3<xs.length:=f6J
 have e:=h.2.2.cells (g:=g) rfl j _ (by
  have:=x8h xs (j / 3) (j%3) hd f6J;rw[(f6J:j / 3*3+j%3=j)]at this
  exact this)
 rw[addr_add,Nat.zero_add]at e;have A:xs.toArray[j / 3]! = xs.getD (j / 3) (0,0,0):=(by grind);rw[A,Nat.zero_add];refine⟨e,?_⟩;rcases h.2.2.2 with⟨N,_⟩ | ⟨c,J,P,N,_,t,_⟩
 ·simp at N
 ·exact F7P
theorem y2D[Inhabited Tri.Rg]{w:World}{blk n:Nat}{d:Array Tri.Rg}{b:Array Obj}:w.grownBy (sortWorldK encG 3 w blk 0 n d b) (some blk):=by
 refine⟨rfl,rfl,rfl,?_,fun k G F=>?_⟩
 ·show w.heap.size<=((putRowK encG 3 (Sort.ahead w n) blk 0 d).heap++b).size;rw[Array.size_append];have:(putRowK encG 3 (Sort.ahead w n) blk 0 d).heap.size=w.heap.size:=r2O;omega
 ·show((putRowK encG 3 (Sort.ahead w n) blk 0 d).heap++b)[k]?=_;have X:(putRowK encG 3 (Sort.ahead w n) blk 0 d).heap.size=w.heap.size:=r2O;exact i1T
theorem z1C(p:Option Addr)(cap:Nat)(k:Value)(w:World):Calls prog 269 #[.slice p 0 cap,.int .i64 0,.int .i64 0,k] w fun e w'=>e=.returned (.tuple #[])/\w'=w:=by
 go_enter func269,ntmps269;exact f0B
theorem z2l(p:Option Addr)(cap:Nat)(B:Int)(k:Value)(w:World):Calls prog 237 #[.slice p 0 cap,.int .i64 0,.int .i64 0,.int .i64 B,k] w fun e w'=>e=.returned (.tuple #[])/\w'=w:=by
 have hi:=fun W=>z1C p cap k W;go_enter func237,ntmps237;go_wp2;refine wp_loop_rounds 1 ?_;rw[rounds_succ];go_wp2_with(go_at_call 269;refine(hi _).mono ?_;rintro e w' ⟨rfl,rfl⟩)
 exact m8y
theorem y9Q(p:Option Addr)(cap:Nat)(k:Value)(w:World):Calls prog 185 #[.slice p 0 cap,k] w fun e w'=>e=.returned (.tuple #[])/\w'=w:=by
 have S:∀W,Calls prog 171 #[.int .u64 0] W fun e w'=>e=.returned (.int .i64 0)/\w'=W:=fun W =>
  Any.bits_Len (SlLaysF0.n15.bits (P:=prog) (ρ:=Tryz.lays185_ren) { Tryz.lays185 with }) 0 W f6J f6J
 have A:=fun B W=>z2l p cap B k W;go_enter func185,ntmps185;go_wp2_with(first| (go_at_call 171;refine(S _).mono ?_;rintro e w' ⟨rfl,rfl⟩)|(go_at_call 237;refine(A _ _).mono ?_;rintro e w' ⟨rfl,rfl⟩));go_end0;exact⟨rfl,rfl⟩
def SortG(w:World)(v:Value)(xs:List Tri.Rg)(e:Ending)(w':World):Prop:=e=.returned (.tuple #[])/\∃ys:List Tri.Rg,ys.Perm xs/\(ys.Pairwise fun a b=>Tri.lo a<=Tri.lo b)/\Sr w' v ys/\w.grownBy w' v.ownBlock
theorem y1d(w:World)(B:Nat)(v:Value)(xs:List Tri.Rg)(h:Or4 w B v xs)(S:xs.length<=5000000000):Calls prog 185 #[v,.func (.func 186) #[] #[]] w (SortG w v xs):=by
 have k:Inhabited Tri.Rg:=⟨(0,0,0)⟩;have Z:=h.sr;rcases h.2.2.2 with⟨rfl,T⟩ | ⟨g,M,P,rfl,Y,t,E,m,I,s⟩
 ·obtain rfl:xs=[]:=List.eq_nil_of_length_eq_zero T;refine(y9Q none 0 _ w).mono ?_;rintro e R ⟨rfl,rfl⟩;exact⟨rfl,[],List.Perm.refl _,.nil,Z,⟨rfl,rfl,rfl,l0r _,fun _ _ _=>rfl⟩⟩
 ·have H:=(h.2.2.lt g rfl).2;have u:=Or4.holds h;have q:∀D w,(callFunc 186 D).run prog w=.ok (.enter 186 D) w:=enters_of func186 f4z rfl;have Q:CmpLays prog 186 #[] encG 3 loG g 0 xs.toArray.size w:=fun _ _ _ _ x y=>y6H x y _;have l:∀w,(isAgg 259).run prog w=.ok true w:=Tryz.isAgg259;have o:∀w,(Go.sizeOf 259).run prog w=.ok 3 w:=Tryz.sizeOf259;have K:=AnyQ.slices_SortFunc Tryz.lays185 3 l o encG z1h z1i loG swoG 186 #[] g 0 M xs.toArray w q Q u H P8P;change Calls prog 185 #[.slice (some ⟨g,0,none⟩) xs.length M,_] w _ at K;refine K.mono ?_;rintro e R ⟨rfl,F,n,b,⟨r,_,a⟩,X,rfl⟩;have f:F.size=xs.length:=by simpa using r
  have C:F.toList.Perm xs:=N2s
  have d:SWK encG 3 w g 0 F (sortWorldK encG 3 w g 0 n F b):=⟨n,b,rfl⟩;have G:=d.holds H u r;have A:F.toList.length=xs.length:=f6J;refine⟨rfl,F.toList,C,?_,⟨fun x J=>h.1 x (C.mem_iff.1 J),?_,by rw[A];exact h.2.1,.inr ⟨g,0,M,by rw[A],by rw[A];exact E,M7Q,fun i hi=>?_⟩⟩,y2D⟩
  ·rw[List.pairwise_iff_getElem];intro i j hi U p;have:=X i j (Nat.zero_le _) p (by simp at U ⊢;exact f6J);rw[ltG,decide_eq_false_iff_not]at this;rw[getElem!_pos F j (by simpa using U),getElem!_pos F i w3A]at this;simp only[Array.getElem_toList];omega
  ·rw[Ti.x1P]
  ·rw[A]at hi;have W:i / 3<F.size:=f6J;have:=(G.cell (i:=i / 3) (c:=i%3) W f6J).1;rw[Nat.zero_add,(f6J:i / 3*3+i%3=i)]at this;rw[Nat.zero_add,this,getElem!_pos F _ W];have L:=x8h F.toList (i / 3) (i%3) (by rw[A];exact f6J) f6J;rw[(f6J:i / 3*3+i%3=i)]at L;rw[List.getD,L];simp[List.getD,W]
open Go.RowKit
open Ti
def x6b(w0:World)(xs:List Tri.Rg)(e:Ending)(w':World):Prop:=∃a m,e=.returned (.pointer (some a))/\m.Perm xs/\(m.Pairwise fun x y=>Tri.lo x<=Tri.lo y)/\T4 w' w0.heap.size (.pointer (some a)) m 0/\Below w0.heap.size w0 w'
theorem y6G(U w:World)(v:Value)(xs:List Tri.Rg)(C:Bw U w)(h:Or4 w U.heap.size v xs)(S:xs.length<=5000000000)(N:∀m:List Tri.Rg,m.Perm xs->(m.Pairwise fun x y=>Tri.lo x<=Tri.lo y)->Tri.Val 0 m):Calls prog 138 #[v] w (x6b U xs):=by
 have i:=O (y1d w U.heap.size v xs h S);have W:Hid (∀R,w.grownBy R v.ownBlock->Bw U R):=fun R Y=>C.grown Y C.size (fun k G=>(h.2.2.lt k G).1);have j:=O N;obtain⟨s,M,rfl,_,_⟩:=h.sr.shape;go_enter func138,ntmps138;go_wp2_with fail;refine(V i).mono ?_;rintro b Q ⟨rfl,ys,A,H,Z,Y⟩;have E:=V W Q Y;have t:=V j ys A H;have P:=O (z3b _ ys 0 Q Z ⟨f6J,f6J⟩);have I:(Tri.check 0 ys).2=0:=Tri.x3Y.2 ⟨t,f6J,f6J⟩;have D:=O I;have B:=O A;have J:=O H;have l:=O E;go_wp2_with fail;refine(V P).mono ?_;rintro f X ⟨F,⟨_,a,rfl,r⟩ | ⟨L,_⟩⟩
 ·have T:x6b U xs (.returned (.pointer (some a))) X:=⟨a,ys,rfl,V B,V J,r.lower (V l).size,x0b (V l) F⟩;exact U7G
 ·exact absurd (V D) L
open Go.ChangeMaps (setBlock)
theorem Rsh.shape{U W:World}{v:Value}{xs:List Sp}(h:Rsh U W v xs):∃ao cap,v=.slice ao xs.length cap/\xs.length<=cap/\cap<=9223372036854775807:=by
 rcases h.1.2 with⟨rfl,T⟩ | ⟨g,cap,P,rfl,_,_,E,m,_⟩
 ·exact⟨none,0,by rw[T],f6J,f6J⟩
 ·exact⟨_,cap,rfl,E,M7M⟩
theorem x6q(p:Rec->Bool)(l:List Rec)(r:Rec):(l++[r]).filter p=l.filter p++(if p r then[r]else[]):=by
 rw[List.filter_append];cases h:p r<;>simp[h]
def is6(r:Rec):Bool:=decide (r.kind=6)
def is78(r:Rec):Bool:=decide (r.kind=7\/r.kind=8)
def Made(w0 wr:World)(l:List Rec)(k:Nat):Prop:=∃(cv ov:Value) (cxs oxs:List Sp),NI w0 wr (Cn.firstP (l.take k)) cv ov cxs oxs/\cxs.map (·.1)=(l.take k).filter is6/\oxs.map (·.1)=(l.take k).filter is78
theorem Made.next{U wr:World}{l:List Rec}{k:Nat}{r:Rec}{cv ov:Value}{u E cxs' oxs':List Sp}{c:Int->Int->Option Int}(S:l.take (k+1)=l.take k++[r])
  (h:NI U wr c cv ov cxs' oxs') (I:c=Cn.firstP (l.take k++[r])) (N:u.map (·.1)=(l.take k).filter is6) (f:E.map (·.1)=(l.take k).filter is78)
  (D:cxs'.map (·.1)=u.map (·.1)++(if is6 r then[r]else[])) (Z:oxs'.map (·.1)=E.map (·.1)++(if is78 r then[r]else[])):Made U wr l (k+1):=by
 subst I;exact⟨cv,ov,cxs',oxs',by rw[S];exact h,by rw[S,x6q,D,N],by rw[S,x6q,Z,f]⟩
theorem y3y{l:List Rec}{k:Nat}{u E:List Sp}(N:u.map (·.1)=(l.take k).filter is6)(f:E.map (·.1)=(l.take k).filter is78)(S:l.length<=4096):u.length<=4096/\E.length<=4096:=by
 have D:=congrArg List.length N;have Z:=congrArg List.length f;rw[List.length_map]at D Z;have i:=List.length_filter_le is6 (l.take k);have U:=List.length_filter_le is78 (l.take k);have M:(l.take k).length<=l.length:=P8P;omega
theorem x3c(W:World)(r:Rec)(s:Option Addr)(L:Nat)(n:Nat)(E:W.heap.size=n):∀j u,(encR (r,s,r.to.length,L))[j]?=some u->(W.alloc (.cells #[.int .i64 r.kind,.int .i64 r.lo,.int .i64 r.hi,.int .i64 r.n,.slice s r.to.length L,.string r.name,.string r.other,.float .f64 r.wt] 67)).cell? ((⟨n,0,none⟩:Addr).add j)=some u:=x5U W n E r (.slice s r.to.length L)
theorem x1h{W:World}{r L j:Nat}{v:Value}(o:Obj)(h:L≠r)(I:W.cell? ⟨L,j,none⟩=some v):(setBlock W r o).cell? ⟨L,j,none⟩=some v:=by
 rw[World.cell?_of_block (x1Z W o h)];exact I
theorem x5S{xs:List Int}{i:Nat}(h:i<xs.length):xs.getD i 0∈xs:=p8I
def y6h(w0:World)(l:List Rec)(e:Ending)(w':World):Prop:=∃cv ov cs os,e=.returned (xV cv ov (.map (some (w0.heap.size+1))))/\Idx l w' cv ov cs os/\PAt w' (w0.heap.size+1) (Cn.firstP l)/\Below w0.heap.size w0 w'
def nw(w0:World):World:=((w0.alloc (.cells #[.slice none 0 0,.slice none 0 0,.map none] 125)).alloc (.map #[] 0)).alloc (.cells #[.slice none 0 0,.slice none 0 0,.map (some (w0.heap.size+1))] 125)
theorem nw_ni(U:World):NI U (nw U) (fun _ _=>none) (.slice none 0 0) (.slice none 0 0) [] []:=by
 have e:(nw U).heap=((U.heap.push (.cells #[.slice none 0 0,.slice none 0 0,.map none] 125 (0,0))).push (.map #[] 0)).push (.cells #[.slice none 0 0,.slice none 0 0,.map (some (U.heap.size+1))] 125 (0,0)):=rfl;refine⟨?_,⟨#[],0,?_,z8k⟩,?_,⟨World.ownsRow_nil _ _ _ _,fun _ h=>m5l⟩,⟨World.ownsRow_nil _ _ _ _,fun _ h=>m5l⟩,fun g h=>by simp[Value.ownBlock]at h,?_⟩
 ·rw[e,Array.getElem?_push,Array.getElem?_push,Array.getElem?_push];simp;omega
 ·rw[e,Array.getElem?_push,Array.getElem?_push];simp
 ·rw[e,Array.getElem?_push];simp
 ·exact(((b0r).alloc (l0r _) _).alloc M7N _).alloc P8P _
theorem y0B(v:Value)(l:List Rec)(U:World)(hv:Rcs U v l)(bU:(Cn.check6 l).2=0):Calls prog 83 #[v] U (y6h U l):=by
 obtain⟨i1,hj,bm,bn,bp⟩:=info_parts Tryz.info67;have dB:=@run_makeMap prog;obtain⟨hl,az⟩:=Cn.x1I bU
 have bN:Hid (∀i,i<l.length->(l.getD i Cn.none).kind=7->(l.getD i Cn.none).to.length=2/\Rune ((l.getD i Cn.none).to.getD 0 0)/\Rune ((l.getD i Cn.none).to.getD 1 0)):=fun i hi h7=>by
  have hm:l.getD i Cn.none∈l:=(by simp[List.getD,hi]);have bS:=(Cn.x0A (az _ hm) h7).2.2;obtain⟨⟨g1,g2⟩,g3⟩:=Cn.x0t bS;refine⟨f6J,?_,?_⟩
  ·have:=g3 ((l.getD i Cn.none).to.getD 0 0) (x5S f6J);have:=o0d this;unfold Rune;omega
  ·have:=g3 ((l.getD i Cn.none).to.getD 1 0) (x5S f6J);have:=o0d this;unfold Rune;omega
 have aK:=O (fun i hi=>hv.fit (i:=i) hi);have HV:=O hv
 have aB:Hid (∀k,k<l.length->l.take (k+1)=l.take k++[l.getD k Cn.none]):=fun k hk=>by
  rw[List.take_add_one];simp[List.getD,hk]
 have bO:Hid (∀k,k<l.length->(l.take k).length=k):=fun k hk=>P8P;have bt:Hid (∀R,Made U R l l.length->Made U R l l.length):=fun _ h=>h;have aL:=O (nw_ni U);have aW:=O bU;have cX:=O az;obtain⟨ao,dv,rfl,dx,dy⟩:=hv.shape;clear hv bU az;go_enter func83,ntmps83;go_wp2;go_loopw[4,5,6,7,12] (fun _ _ _ _ i wr=>∃k:Nat,i=.int .i64 k/\k<=l.length/\Hid (Made U wr l k)) (fun _ _ _ _ i _=>l.length-(intOf i).toNat)
 case atStart=>exact⟨0,rfl,f6J,⟨_,_,[],[],V aL,by simp,by simp⟩⟩
 case round =>
  clear aL;obtain⟨k,rfl,hk,N⟩:=hrel;by_cases aR:k<l.length
  ·obtain⟨cv,ov,u,E,z,e1,e2⟩:=V N;obtain⟨de,dj⟩:=y3y e1 e2 hl;obtain⟨b,dl,dp,ev,_,_,aH⟩:=(V HV).place f6J;simp only[Value.slice.injEq]at ev;obtain⟨rfl,_,rfl⟩:=ev;have aF:=aH k aR;have cI:=aF.below z.bel;obtain⟨vt,bX,T⟩:=aF.to;have bC:=V aK k aR;have cM:=V aB k aR;have cN:=V bO k aR;have h7:=V bN k aR;obtain⟨s,L,rfl,_,_⟩:=T.shape;have x4:wr.cell? ⟨b,dl+k*8+4,none⟩=some (.slice s (l.getD k Cn.none).to.length L):=(by rw[z.bel.cell (x0a bX)];exact bX);obtain⟨x0,x1,x2,x3,_,x5,x6,x7⟩:=cI;generalize l.getD k Cn.none=r at *;have cg:=O T;have cK:Sk .i32 U (sval (r,s,r.to.length,L)) r.to/\RecFit r:=⟨T,bC⟩;have G:=O cK;have da:Bw wr (wr.alloc (.cells #[.int .i64 r.kind,.int .i64 r.lo,.int .i64 r.hi,.int .i64 r.n,.slice s r.to.length L,.string r.name,.string r.other,.float .f64 r.wt] 67)):=(b0r).alloc (l0r _) _;have bE:=z.below da;have aA:(wr.alloc (.cells #[.int .i64 r.kind,.int .i64 r.lo,.int .i64 r.hi,.int .i64 r.n,.slice s r.to.length L,.string r.name,.string r.other,.float .f64 r.wt] 67)).heap.size=wr.heap.size+1:=(by simp);have ae:=O (fun W c cv' ov' cxs' oxs' (h:NI U W c cv' ov' cxs' oxs') hc h1 h2=>Made.next (wr:=W) (c:=c) (cv:=cv') (ov:=ov') (cxs':=cxs') (oxs':=oxs') cM h hc e1 e2 h1 h2);have dw:=z.bel.size;obtain⟨ab,D,rfl,dq,dr⟩:=z.hc.shape;obtain⟨P,B,rfl,dt,du⟩:=z.ho.shape;have dz:∀W a m,(store a (.float .f64 r.wt) m).run prog W=stored prog W a (.float .f64 r.wt) m:=fun W a m=>run_store prog W a _ m rfl;have aj:=O (x8H (r,s,r.to.length,L));have ag:=O bE;clear aF aH bX T bC cM z e1 e2 cK N aK aB bO bN HV aW cX bt bE;by_cases k6:r.kind=6
   ·have H:=ag;clear h7;obtain⟨kd,lo,hi,I,C,Z,M,X⟩:=r;dsimp only at *;subst k6;have y0:(wr.alloc (.cells #[.int .i64 6,.int .i64 lo,.int .i64 hi,.int .i64 I,.slice s C.length L,.string Z,.string M,.float .f64 X] 67)).cell? ⟨U.heap.size+1+1,0,none⟩=some (.slice ab u.length D):=cell_of (j:=0) (V H).hx T7f;have af:Hid (∀o,((wr.alloc (.cells #[.int .i64 6,.int .i64 lo,.int .i64 hi,.int .i64 I,.slice s C.length L,.string Z,.string M,.float .f64 X] 67)).alloc o).ownsRow U.heap.size 67 8 (.slice ab u.length D) u.length (u.flatMap encR)):=fun o=>(V H).hc.1.alloc o;have t:=O (x3c (wr.alloc (.cells #[.int .i64 6,.int .i64 lo,.int .i64 hi,.int .i64 I,.slice s C.length L,.string Z,.string M,.float .f64 X] 67)) (⟨6,lo,hi,I,C,Z,M,X⟩:Rec) s L (wr.heap.size+1) m6Q);have Q:=O (fun o v' w1 a b c=>(V H).classes (o:=o) (v':=v') (w1:=w1) (V G) a b c);have aO:=(V H).bel.size;clear H G ag;go_wp2_with(at_builtin;refine wpList_append_own_at _ rfl (.tmp 22) (.tmp 24) 23 rfl U.heap.size 67 i1 (.agg #[.int .i64 0,.int .i64 0,.int .i64 0,.int .i64 0,.slice none 0 0,.string ⟨#[]⟩,.string ⟨#[]⟩,.float .f64 0]) 8 96 underlying23 hj bm bn bp rfl (by decide) _ _ _ rfl (V af _) ⟨wr.heap.size+1,0,none⟩ 1 1 (encR ((⟨6,lo,hi,I,C,Z,M,X⟩:Rec),s,C.length,L)) rfl rfl (V t) (V aj) T7X f6J P8P ?_);intro v' w9 Y ar _ A;obtain⟨x,ai⟩:=V Q _ v' w9 Y ar M5r;have aq:Hid (Made U (w9.setCell ⟨U.heap.size+1+1,0,none⟩ v') l (k+1)):=V ae _ _ _ _ _ _ ai (Cn.x2W (by simp)).symm T7E w8r;obtain⟨bQ,aM,rfl,_,_⟩:=ai.hc.shape;have z0:w9.cell? ⟨U.heap.size+1+1,0,none⟩=some (.slice ab u.length D):=cell_of (j:=0) x T7f;have zf:=x0e (j:=0) x;clear af t Q Y ar A x ai ae aj y0;generalize(u++[((⟨6,lo,hi,I,C,Z,M,X⟩:Rec),s,C.length,L)]).length=m9 at *;go_wp2
    exact M5Z
   ·have q6:(r.kind==6)=false:=b0f k6;by_cases k7:r.kind=7
    ·obtain⟨bG,cG,cH⟩:=h7 k7;clear q6 h7;obtain⟨kd,lo,hi,I,C,Z,M,X⟩:=r;dsimp only at *;subst k7
     have bA:(wr.alloc (.cells #[.int .i64 7,.int .i64 lo,.int .i64 hi,.int .i64 I,.slice s C.length L,.string Z,.string M,.float .f64 X] 67)).heap[wr.heap.size]?=some (.cells #[.int .i64 7,.int .i64 lo,.int .i64 hi,.int .i64 I,.slice s C.length L,.string Z,.string M,.float .f64 X] 67 (0,0)):=by
      show(wr.heap.push _)[wr.heap.size]?=_;simp
     have bI:Hid (∀W:World,W.heap[wr.heap.size]?=some (.cells #[.int .i64 7,.int .i64 lo,.int .i64 hi,.int .i64 I,.slice s C.length L,.string Z,.string M,.float .f64 X] 67 (0,0))->W.cell? ⟨wr.heap.size,0,none⟩=some (.int .i64 7)/\W.cell? ⟨wr.heap.size,1,none⟩=some (.int .i64 lo)/\W.cell? ⟨wr.heap.size,2,none⟩=some (.int .i64 hi)/\W.cell? ⟨wr.heap.size,3,none⟩=some (.int .i64 I)/\W.cell? ⟨wr.heap.size,4,none⟩=some (.slice s C.length L)/\W.cell? ⟨wr.heap.size,5,none⟩=some (.string Z)/\W.cell? ⟨wr.heap.size,6,none⟩=some (.string M)/\W.cell? ⟨wr.heap.size,7,none⟩=some (.float .f64 X)):=fun W hW=>⟨cell_of (j:=0) hW (by show 0<8;exact f6J),cell_of (j:=1) hW (by show 1<8;exact f6J),cell_of (j:=2) hW (by show 2<8;exact f6J),cell_of (j:=3) hW e8d,cell_of (j:=4) hW e2Z,cell_of (j:=5) hW i3Z,cell_of (j:=6) hW F4N,cell_of (j:=7) hW U3A⟩;have bH:Hid (∀W:World,Below (wr.alloc (.cells #[.int .i64 7,.int .i64 lo,.int .i64 hi,.int .i64 I,.slice s C.length L,.string Z,.string M,.float .f64 X] 67)).heap.size (wr.alloc (.cells #[.int .i64 7,.int .i64 lo,.int .i64 hi,.int .i64 I,.slice s C.length L,.string Z,.string M,.float .f64 X] 67)) W->W.heap[wr.heap.size]?=some (.cells #[.int .i64 7,.int .i64 lo,.int .i64 hi,.int .i64 I,.slice s C.length L,.string Z,.string M,.float .f64 X] 67 (0,0))):=fun W hW=>(by rw[hW.block _ (by rw[aA];exact f6J)];exact bA);have am:Hid (∀W:World,Below (wr.alloc (.cells #[.int .i64 7,.int .i64 lo,.int .i64 hi,.int .i64 I,.slice s C.length L,.string Z,.string M,.float .f64 X] 67)).heap.size (wr.alloc (.cells #[.int .i64 7,.int .i64 lo,.int .i64 hi,.int .i64 I,.slice s C.length L,.string Z,.string M,.float .f64 X] 67)) W->NI U W (Cn.firstP (l.take k)) (.slice ab u.length D) (.slice P E.length B) u E):=fun W hW=>(V ag).below hW
     have HS:Hid (∀W:World,Below (wr.alloc (.cells #[.int .i64 7,.int .i64 lo,.int .i64 hi,.int .i64 I,.slice s C.length L,.string Z,.string M,.float .f64 X] 67)).heap.size (wr.alloc (.cells #[.int .i64 7,.int .i64 lo,.int .i64 hi,.int .i64 I,.slice s C.length L,.string Z,.string M,.float .f64 X] 67)) W->(W.cell? ⟨wr.heap.size,0,none⟩=some (.int .i64 7)/\W.cell? ⟨wr.heap.size,1,none⟩=some (.int .i64 lo)/\W.cell? ⟨wr.heap.size,2,none⟩=some (.int .i64 hi)/\W.cell? ⟨wr.heap.size,3,none⟩=some (.int .i64 I)/\W.cell? ⟨wr.heap.size,4,none⟩=some (.slice s C.length L)/\W.cell? ⟨wr.heap.size,5,none⟩=some (.string Z)/\W.cell? ⟨wr.heap.size,6,none⟩=some (.string M)/\W.cell? ⟨wr.heap.size,7,none⟩=some (.float .f64 X)/\W.cell? ⟨U.heap.size+1+1,2,none⟩=some (.map (some (U.heap.size+1)))/\Hid (Below (wr.alloc (.cells #[.int .i64 7,.int .i64 lo,.int .i64 hi,.int .i64 I,.slice s C.length L,.string Z,.string M,.float .f64 X] 67)).heap.size (wr.alloc (.cells #[.int .i64 7,.int .i64 lo,.int .i64 hi,.int .i64 I,.slice s C.length L,.string Z,.string M,.float .f64 X] 67)) W))):=fun W hW=>by
      obtain⟨s0,s1,d,s3,s4,s5,s6,s7⟩:=V bI W (V bH W hW);exact⟨s0,s1,d,s3,s4,s5,s6,s7,cell_of (j:=2) (V am W hW).hx U4w,hW⟩
     have aY:Hid (∀W:World,Bw U W->Calls prog 126 #[.agg #[.int .i64 7,.int .i64 lo,.int .i64 hi,.int .i64 I,.slice s C.length L,.string Z,.string M,.float .f64 X]] W (fun e R=>e=.returned (pk2 (C.getD 0 0) (C.getD 1 0))/\Bw W R)):=fun W hW=>x8e (⟨7,lo,hi,I,C,Z,M,X⟩:Rec) _ W ((V cg).below hW) bG;have bM:Hid (∀W:World,Below (wr.alloc (.cells #[.int .i64 7,.int .i64 lo,.int .i64 hi,.int .i64 I,.slice s C.length L,.string Z,.string M,.float .f64 X] 67)).heap.size (wr.alloc (.cells #[.int .i64 7,.int .i64 lo,.int .i64 hi,.int .i64 I,.slice s C.length L,.string Z,.string M,.float .f64 X] 67)) W->(Instr.lookup 123 (.map (some (U.heap.size+1))) (pk2 (C.getD 0 0) (C.getD 1 0)) true).run prog W=.ok (.tuple #[.int .i64 ((Cn.firstP (l.take k) (C.getD 0 0) (C.getD 1 0)).getD 0),.bool (Cn.firstP (l.take k) (C.getD 0 0) (C.getD 1 0)).isSome]) W):=fun W hW=>(look_ok (V am W hW).hm cG cH).1;have bL:Hid ((Cn.firstP (l.take k) (C.getD 0 0) (C.getD 1 0)).isSome=true->Cn.firstP (l.take k++[(⟨7,lo,hi,I,C,Z,M,X⟩:Rec)])=Cn.firstP (l.take k)):=fun h=>Cn.y0i (r:=(⟨7,lo,hi,I,C,Z,M,X⟩:Rec)) h
     have bP:Hid ((Cn.firstP (l.take k) (C.getD 0 0) (C.getD 1 0)).isSome=false->∀W:World,Below (wr.alloc (.cells #[.int .i64 7,.int .i64 lo,.int .i64 hi,.int .i64 I,.slice s C.length L,.string Z,.string M,.float .f64 X] 67)).heap.size (wr.alloc (.cells #[.int .i64 7,.int .i64 lo,.int .i64 hi,.int .i64 I,.slice s C.length L,.string Z,.string M,.float .f64 X] 67)) W->∃aZ aG,(Instr.mapUpdate 123 (.map (some (U.heap.size+1))) (pk2 (C.getD 0 0) (C.getD 1 0)) (.int .i64 (k:Int))).run prog W=.ok () (setBlock W (U.heap.size+1) (.map aZ aG))/\NI U (setBlock W (U.heap.size+1) (.map aZ aG)) (Cn.firstP (l.take k++[(⟨7,lo,hi,I,C,Z,M,X⟩:Rec)])) (.slice ab u.length D) (.slice P E.length B) u E):=fun h W hW=>by
      have hn:Cn.firstP (l.take k) (C.getD 0 0) (C.getD 1 0)=none:=(by simpa using h);obtain⟨aZ,cZ,g1,g2⟩:=y5K (V am W hW).hm cG cH hn (k:Int);have cP:=(V am W hW).upd g2;have e5:=Cn.y4O (r:=(⟨7,lo,hi,I,C,Z,M,X⟩:Rec)) (l:=l.take k) rfl hn;rw[cN]at e5;refine⟨aZ,cZ,g1,?_⟩;rw[e5];exact cP
     have aX:Hid (∀W:World,Below (wr.alloc (.cells #[.int .i64 7,.int .i64 lo,.int .i64 hi,.int .i64 I,.slice s C.length L,.string Z,.string M,.float .f64 X] 67)).heap.size (wr.alloc (.cells #[.int .i64 7,.int .i64 lo,.int .i64 hi,.int .i64 I,.slice s C.length L,.string Z,.string M,.float .f64 X] 67)) W->Bw U W):=fun W hW=>(V am W hW).bel;clear bA cg bG cN;generalize(Cn.firstP (l.take k) (C.getD 0 0) (C.getD 1 0)).getD 0=zf,(Cn.firstP (l.take k) (C.getD 0 0) (C.getD 1 0)).isSome=kn at *;generalize C.getD 0 0=pa,C.getD 1 0=pb at *;unfold pk2 at *;have aP:Below (wr.alloc (.cells #[.int .i64 7,.int .i64 lo,.int .i64 hi,.int .i64 I,.slice s C.length L,.string Z,.string M,.float .f64 X] 67)).heap.size (wr.alloc (.cells #[.int .i64 7,.int .i64 lo,.int .i64 hi,.int .i64 I,.slice s C.length L,.string Z,.string M,.float .f64 X] 67)) (wr.alloc (.cells #[.int .i64 7,.int .i64 lo,.int .i64 hi,.int .i64 I,.slice s C.length L,.string Z,.string M,.float .f64 X] 67)).drew:=x0k ⟨1,rfl⟩;have y:=O (V HS _ aP);have cx:=O (V aY _ (V aX _ aP));go_wp2;refine wp_region_held_drew (S:=fun R=>R.cell? ⟨wr.heap.size,0,none⟩=some (.int .i64 7)/\R.cell? ⟨wr.heap.size,1,none⟩=some (.int .i64 lo)/\R.cell? ⟨wr.heap.size,2,none⟩=some (.int .i64 hi)/\R.cell? ⟨wr.heap.size,3,none⟩=some (.int .i64 I)/\R.cell? ⟨wr.heap.size,4,none⟩=some (.slice s C.length L)/\R.cell? ⟨wr.heap.size,5,none⟩=some (.string Z)/\R.cell? ⟨wr.heap.size,6,none⟩=some (.string M)/\R.cell? ⟨wr.heap.size,7,none⟩=some (.float .f64 X)/\R.cell? ⟨U.heap.size+1+1,2,none⟩=some (.map (some (U.heap.size+1)))/\Hid (Below (wr.alloc (.cells #[.int .i64 7,.int .i64 lo,.int .i64 hi,.int .i64 I,.slice s C.length L,.string Z,.string M,.float .f64 X] 67)).heap.size (wr.alloc (.cells #[.int .i64 7,.int .i64 lo,.int .i64 hi,.int .i64 I,.slice s C.length L,.string Z,.string M,.float .f64 X] 67)) R)) f4A (V y) (fun hHeld=>?_);refine tk9 0 (.pointer (some ⟨U.heap.size+1+1,2,none⟩)) ?_ (hy:=W9E);refine tk9 1 (.map (some (U.heap.size+1))) ?_ (hy:=W9E);refine tk9 2 (.agg #[.int .i64 7,.int .i64 lo,.int .i64 hi,.int .i64 I,.slice s C.length L,.string Z,.string M,.float .f64 X]) ?_ (hy:=W9E);refine rd9 3 fun K hK=>?_;go_simp;refine c0m cx fun W2 be=>?_;have aN:Below (wr.alloc (.cells #[.int .i64 7,.int .i64 lo,.int .i64 hi,.int .i64 I,.slice s C.length L,.string Z,.string M,.float .f64 X] 67)).heap.size (wr.alloc (.cells #[.int .i64 7,.int .i64 lo,.int .i64 hi,.int .i64 I,.slice s C.length L,.string Z,.string M,.float .f64 X] 67)) W2:=x0b aP be;have bJ:=O (V HS W2 aN);refine hK.out _ _ ?_ (fun hHeld=>?_)
     ·exact V bJ
     clear hK K
     try simp only[Act.put,sa9,sb9,sc9]
     refine tk9 4 (.tuple #[.int .i64 zf,.bool kn]) ?_ (hy:=by(intro w hSw;obtain⟨s0,s1,d,s3,s4,s5,s6,s7,s8,s9⟩:=hSw;have dA:=V bM w (V s9);go_simp));refine tk9 5 (.tuple #[.int .i64 zf,.bool kn]) ?_;refine tk9 6 (.int .i64 zf) ?_;refine tk9 7 (.bool kn) ?_;refine tk9 8 (.int .i64 zf) ?_;refine tk9 9 (.bool kn) ?_;refine wpAnyH_done f4A ?_ _;obtain⟨t0,t1,t2,t3,t4,t5,t6,t7,t8,_⟩:=V bJ;clear bJ y cx hHeld;cases kn
     ·obtain cO:=V bP rfl;have bh:Below (wr.alloc (.cells #[.int .i64 7,.int .i64 lo,.int .i64 hi,.int .i64 I,.slice s C.length L,.string Z,.string M,.float .f64 X] 67)).heap.size (wr.alloc (.cells #[.int .i64 7,.int .i64 lo,.int .i64 hi,.int .i64 I,.slice s C.length L,.string Z,.string M,.float .f64 X] 67)) W2.drew:=x0b aN (x0k ⟨1,rfl⟩)
      have y:Hid (W2.drew.cell? ⟨wr.heap.size,0,none⟩=some (.int .i64 7)/\W2.drew.cell? ⟨wr.heap.size,1,none⟩=some (.int .i64 lo)/\W2.drew.cell? ⟨wr.heap.size,2,none⟩=some (.int .i64 hi)/\W2.drew.cell? ⟨wr.heap.size,3,none⟩=some (.int .i64 I)/\W2.drew.cell? ⟨wr.heap.size,4,none⟩=some (.slice s C.length L)/\W2.drew.cell? ⟨wr.heap.size,5,none⟩=some (.string Z)/\W2.drew.cell? ⟨wr.heap.size,6,none⟩=some (.string M)/\W2.drew.cell? ⟨wr.heap.size,7,none⟩=some (.float .f64 X)/\W2.drew.cell? ⟨U.heap.size+1+1,2,none⟩=some (.map (some (U.heap.size+1)))):=by
       obtain⟨s0,s1,d,s3,s4,s5,s6,s7,s8,_⟩:=V HS _ bh;exact⟨s0,s1,d,s3,s4,s5,s6,s7,s8⟩
      have cz:=O (V aY _ (V aX _ bh));have bw:=O cO;clear cO;go_wp2;refine wp_region_held_drew (S:=fun R=>R.cell? ⟨wr.heap.size,0,none⟩=some (.int .i64 7)/\R.cell? ⟨wr.heap.size,1,none⟩=some (.int .i64 lo)/\R.cell? ⟨wr.heap.size,2,none⟩=some (.int .i64 hi)/\R.cell? ⟨wr.heap.size,3,none⟩=some (.int .i64 I)/\R.cell? ⟨wr.heap.size,4,none⟩=some (.slice s C.length L)/\R.cell? ⟨wr.heap.size,5,none⟩=some (.string Z)/\R.cell? ⟨wr.heap.size,6,none⟩=some (.string M)/\R.cell? ⟨wr.heap.size,7,none⟩=some (.float .f64 X)/\R.cell? ⟨U.heap.size+1+1,2,none⟩=some (.map (some (U.heap.size+1)))) f4A (V y) (fun hHeld=>?_);refine tk9 0 (.pointer (some ⟨U.heap.size+1+1,2,none⟩)) ?_ (hy:=t9J);refine tk9 1 (.map (some (U.heap.size+1))) ?_ (hy:=t9J);refine tk9 2 (.agg #[.int .i64 7,.int .i64 lo,.int .i64 hi,.int .i64 I,.slice s C.length L,.string Z,.string M,.float .f64 X]) ?_ (hy:=t9J);refine tk9 4 (.int .i64 (k:Int)) ?_;refine rd9 3 fun K hK=>?_;go_simp;refine c0m cz fun q db=>?_;have ba:Below (wr.alloc (.cells #[.int .i64 7,.int .i64 lo,.int .i64 hi,.int .i64 I,.slice s C.length L,.string Z,.string M,.float .f64 X] 67)).heap.size (wr.alloc (.cells #[.int .i64 7,.int .i64 lo,.int .i64 hi,.int .i64 I,.slice s C.length L,.string Z,.string M,.float .f64 X] 67)) q:=x0b bh db;obtain⟨ay,aw,dk,bF⟩:=V bw q ba;have bu:=O bF
      have cd:Hid (q.cell? ⟨wr.heap.size,0,none⟩=some (.int .i64 7)/\q.cell? ⟨wr.heap.size,1,none⟩=some (.int .i64 lo)/\q.cell? ⟨wr.heap.size,2,none⟩=some (.int .i64 hi)/\q.cell? ⟨wr.heap.size,3,none⟩=some (.int .i64 I)/\q.cell? ⟨wr.heap.size,4,none⟩=some (.slice s C.length L)/\q.cell? ⟨wr.heap.size,5,none⟩=some (.string Z)/\q.cell? ⟨wr.heap.size,6,none⟩=some (.string M)/\q.cell? ⟨wr.heap.size,7,none⟩=some (.float .f64 X)/\q.cell? ⟨U.heap.size+1+1,2,none⟩=some (.map (some (U.heap.size+1)))):=by
       obtain⟨s0,s1,d,s3,s4,s5,s6,s7,s8,_⟩:=V HS _ ba;exact⟨s0,s1,d,s3,s4,s5,s6,s7,s8⟩
      have bK:Hid ((setBlock q (U.heap.size+1) (.map ay aw)).cell? ⟨wr.heap.size,0,none⟩=some (.int .i64 7)/\(setBlock q (U.heap.size+1) (.map ay aw)).cell? ⟨wr.heap.size,1,none⟩=some (.int .i64 lo)/\(setBlock q (U.heap.size+1) (.map ay aw)).cell? ⟨wr.heap.size,2,none⟩=some (.int .i64 hi)/\(setBlock q (U.heap.size+1) (.map ay aw)).cell? ⟨wr.heap.size,3,none⟩=some (.int .i64 I)/\(setBlock q (U.heap.size+1) (.map ay aw)).cell? ⟨wr.heap.size,4,none⟩=some (.slice s C.length L)/\(setBlock q (U.heap.size+1) (.map ay aw)).cell? ⟨wr.heap.size,5,none⟩=some (.string Z)/\(setBlock q (U.heap.size+1) (.map ay aw)).cell? ⟨wr.heap.size,6,none⟩=some (.string M)/\(setBlock q (U.heap.size+1) (.map ay aw)).cell? ⟨wr.heap.size,7,none⟩=some (.float .f64 X)/\(setBlock q (U.heap.size+1) (.map ay aw)).cell? ⟨U.heap.size+1+1,2,none⟩=some (.map (some (U.heap.size+1)))):=by
       obtain⟨s0,s1,d,s3,s4,s5,s6,s7,s8,_⟩:=V HS _ ba;have F:wr.heap.size≠U.heap.size+1:=(by have:=x0B (V ag).hx;rw[aA]at this;exact f6J);have cD:U.heap.size+2≠U.heap.size+1:=f6J;exact⟨x1h _ F s0,x1h _ F s1,x1h _ F d,x1h _ F s3,x1h _ F s4,x1h _ F s5,x1h _ F s6,x1h _ F s7,x1h _ cD s8⟩
      clear bF;refine hK.out _ _ ?_ (fun hHeld=>?_)
      ·exact V cd
      clear hK K
      try simp only[Act.put,sa9,sb9,sc9]
      refine rd9 5 fun K hK=>?_;go_simp;refine hK.out _ _ ?_ (fun hHeld=>?_)
      ·exact V bK
      clear hK K
      try simp only[Act.put,sa9,sb9,sc9]
      refine wpAnyH_done f4A ?_ _;obtain⟨u0,u1,u2,u3,u4,u5,u6,u7,u8⟩:=V bK;have H:=bu;clear bK cd y cz hHeld bw bP bL bM HS bI bH am aY aX t0 t1 t2 t3 t4 t5 t6 t7 t8 bu dk ba bh aN aP;generalize setBlock q (U.heap.size+1) (.map ay aw)=W5 at *;have y0:W5.cell? ⟨U.heap.size+1+1,1,none⟩=some (.slice P E.length B):=cell_of (j:=1) (V H).hx f2P;have af:Hid (∀o,(W5.alloc o).ownsRow U.heap.size 67 8 (.slice P E.length B) E.length (E.flatMap encR)):=fun o=>(V H).ho.1.alloc o;have t:=O (x3c W5 (⟨7,lo,hi,I,C,Z,M,X⟩:Rec) s L (W5.heap.size) m6Q);have Q:=O (fun o v' w1 a b c=>(V H).opens (o:=o) (v':=v') (w1:=w1) (V G) a b c);have aO:=(V H).bel.size;clear H G ag;go_wp2_with(at_builtin;refine wpList_append_own_at _ rfl (.tmp 45) (.tmp 47) 23 rfl U.heap.size 67 i1 (.agg #[.int .i64 0,.int .i64 0,.int .i64 0,.int .i64 0,.slice none 0 0,.string ⟨#[]⟩,.string ⟨#[]⟩,.float .f64 0]) 8 96 underlying23 hj bm bn bp rfl (by decide) _ _ _ rfl (V af _) ⟨W5.heap.size,0,none⟩ 1 1 (encR ((⟨7,lo,hi,I,C,Z,M,X⟩:Rec),s,C.length,L)) rfl rfl (V t) (V aj) T7X f6J P8P ?_);intro v' w9 Y ar _ A;obtain⟨x,ai⟩:=V Q _ v' w9 Y ar M5r;have aq:Hid (Made U (w9.setCell ⟨U.heap.size+1+1,1,none⟩ v') l (k+1)):=V ae _ _ _ _ _ _ ai rfl T7E w8r;obtain⟨bQ,aM,rfl,_,_⟩:=ai.ho.shape;have z0:w9.cell? ⟨U.heap.size+1+1,1,none⟩=some (.slice P E.length B):=cell_of (j:=1) x f2P;have zf:=x0e (j:=1) x;clear af t Q Y ar A x ai ae aj y0;generalize(E++[((⟨7,lo,hi,I,C,Z,M,X⟩:Rec),s,C.length,L)]).length=m9 at *;go_wp2
      exact M5Z
     ·have dh:=V bL rfl;have H:=O (V am W2 aN);clear bP bL bM HS bI bH am aY aX aN aP;have y0:W2.cell? ⟨U.heap.size+1+1,1,none⟩=some (.slice P E.length B):=cell_of (j:=1) (V H).hx f2P;have af:Hid (∀o,(W2.alloc o).ownsRow U.heap.size 67 8 (.slice P E.length B) E.length (E.flatMap encR)):=fun o=>(V H).ho.1.alloc o;have t:=O (x3c W2 (⟨7,lo,hi,I,C,Z,M,X⟩:Rec) s L (W2.heap.size) m6Q);have Q:=O (fun o v' w1 a b c=>(V H).opens (o:=o) (v':=v') (w1:=w1) (V G) a b c);have aO:=(V H).bel.size;clear H G ag;go_wp2_with(at_builtin;refine wpList_append_own_at _ rfl (.tmp 45) (.tmp 47) 23 rfl U.heap.size 67 i1 (.agg #[.int .i64 0,.int .i64 0,.int .i64 0,.int .i64 0,.slice none 0 0,.string ⟨#[]⟩,.string ⟨#[]⟩,.float .f64 0]) 8 96 underlying23 hj bm bn bp rfl (by decide) _ _ _ rfl (V af _) ⟨W2.heap.size,0,none⟩ 1 1 (encR ((⟨7,lo,hi,I,C,Z,M,X⟩:Rec),s,C.length,L)) rfl rfl (V t) (V aj) T7X f6J P8P ?_);intro v' w9 Y ar _ A;obtain⟨x,ai⟩:=V Q _ v' w9 Y ar M5r;have aq:Hid (Made U (w9.setCell ⟨U.heap.size+1+1,1,none⟩ v') l (k+1)):=V ae _ _ _ _ _ _ ai dh.symm T7E w8r;obtain⟨bQ,aM,rfl,_,_⟩:=ai.ho.shape;have z0:w9.cell? ⟨U.heap.size+1+1,1,none⟩=some (.slice P E.length B):=cell_of (j:=1) x f2P;have zf:=x0e (j:=1) x;clear af t Q Y ar A x ai ae aj y0;generalize(E++[((⟨7,lo,hi,I,C,Z,M,X⟩:Rec),s,C.length,L)]).length=m9 at *;go_wp2
      exact M5Z
    ·have q7:(r.kind==7)=false:=b0f k7;clear h7;by_cases k8:r.kind=8
     ·have H:=ag;clear q6 q7;obtain⟨kd,lo,hi,I,C,Z,M,X⟩:=r;dsimp only at *;subst k8;have y0:(wr.alloc (.cells #[.int .i64 8,.int .i64 lo,.int .i64 hi,.int .i64 I,.slice s C.length L,.string Z,.string M,.float .f64 X] 67)).cell? ⟨U.heap.size+1+1,1,none⟩=some (.slice P E.length B):=cell_of (j:=1) (V H).hx f2P;have af:Hid (∀o,((wr.alloc (.cells #[.int .i64 8,.int .i64 lo,.int .i64 hi,.int .i64 I,.slice s C.length L,.string Z,.string M,.float .f64 X] 67)).alloc o).ownsRow U.heap.size 67 8 (.slice P E.length B) E.length (E.flatMap encR)):=fun o=>(V H).ho.1.alloc o;have t:=O (x3c (wr.alloc (.cells #[.int .i64 8,.int .i64 lo,.int .i64 hi,.int .i64 I,.slice s C.length L,.string Z,.string M,.float .f64 X] 67)) (⟨8,lo,hi,I,C,Z,M,X⟩:Rec) s L (wr.heap.size+1) m6Q);have Q:=O (fun o v' w1 a b c=>(V H).opens (o:=o) (v':=v') (w1:=w1) (V G) a b c);have aO:=(V H).bel.size;clear H G ag;go_wp2_with(at_builtin;refine wpList_append_own_at _ rfl (.tmp 53) (.tmp 55) 23 rfl U.heap.size 67 i1 (.agg #[.int .i64 0,.int .i64 0,.int .i64 0,.int .i64 0,.slice none 0 0,.string ⟨#[]⟩,.string ⟨#[]⟩,.float .f64 0]) 8 96 underlying23 hj bm bn bp rfl (by decide) _ _ _ rfl (V af _) ⟨wr.heap.size+1,0,none⟩ 1 1 (encR ((⟨8,lo,hi,I,C,Z,M,X⟩:Rec),s,C.length,L)) rfl rfl (V t) (V aj) T7X f6J P8P ?_);intro v' w9 Y ar _ A;obtain⟨x,ai⟩:=V Q _ v' w9 Y ar M5r;have aq:Hid (Made U (w9.setCell ⟨U.heap.size+1+1,1,none⟩ v') l (k+1)):=V ae _ _ _ _ _ _ ai (Cn.x2W (by simp)).symm T7E w8r;obtain⟨bQ,aM,rfl,_,_⟩:=ai.ho.shape;have z0:w9.cell? ⟨U.heap.size+1+1,1,none⟩=some (.slice P E.length B):=cell_of (j:=1) x f2P;have zf:=x0e (j:=1) x;clear af t Q Y ar A x ai ae aj y0;generalize(E++[((⟨8,lo,hi,I,C,Z,M,X⟩:Rec),s,C.length,L)]).length=m9 at *;go_wp2
      exact M5Z
     ·have q8:(r.kind==8)=false:=b0f k8;have aq:Hid (Made U (wr.alloc (.cells #[.int .i64 r.kind,.int .i64 r.lo,.int .i64 r.hi,.int .i64 r.n,.slice s r.to.length L,.string r.name,.string r.other,.float .f64 r.wt] 67)) l (k+1)):=V ae _ _ _ _ u E (V ag) (Cn.x2W f6J).symm (by simp[is6,k6]) (by simp[is78,k7,k8]);clear ae ag G aj;go_wp2
      exact M5Z
  ·obtain rfl:k=l.length:=f6J;obtain⟨cv,ov,u,E,z,e1,e2⟩:=V N;obtain⟨de,dj⟩:=y3y e1 e2 hl;rw[List.take_length]at z e1 e2;have K1:=O (y3P U wr cv u z.hc f6J);obtain⟨ab,D,rfl,_,_⟩:=z.hc.shape;obtain⟨P,B,rfl,_,_⟩:=z.ho.shape;have y0:wr.cell? ⟨U.heap.size+1+1,0,none⟩=some (.slice ab u.length D):=cell_of (j:=0) z.hx T7f;have aQ:=z.far z.hc;have bB:∀g,(Value.slice ab u.length D).ownBlock=some g->g<wr.heap.size:=fun g hg=>(z.hc.1.lt g hg).2;have aU:=O aQ;have cV:=O bB;clear aQ bB;have aV:=O (z.far z.ho);have aL:=O z;clear N aK aB bO bN HV bt z;go_wp2_with fail;refine(V K1).mono ?_;rintro e w1 ⟨rfl,bY,cE,aA,cQ,aC⟩;have z:=V aL;have k1:∀g,g<wr.heap.size->(Value.slice ab u.length D).ownBlock≠some g->w1.heap[g]?=wr.heap[g]?:=fun g a b=>aC.block g a (fun e=>b e.symm);have aI:w1.heap[U.heap.size+2]?=some (.cells #[.slice ab u.length D,.slice P E.length B,.map (some (U.heap.size+1))] 125 (0,0)):=(by rw[k1 _ (x0B z.hx) (fun e=>(V aU _ e).2.2 rfl)];exact z.hx);have aT:w1.heap[U.heap.size]?=some (.cells #[.slice none 0 0,.slice none 0 0,.map none] 125 (0,0)):=(by rw[k1 _ (x0B z.hr) (fun e=>(V aU _ e).1 rfl)];exact z.hr);obtain⟨es,cl,hm,di⟩:=z.hm;have aS:w1.heap[U.heap.size+1]?=some (.map es cl):=(by rw[k1 _ (x0B hm) (fun e=>(V aU _ e).2.1 rfl)];exact hm);have bT:Rsh U w1 (.slice P E.length B) E:=z.ho.keep fun g hg=>k1 g (z.ho.1.lt g hg).2 (fun e=>z.ap g e hg);have bR:Bw U w1:=z.bel.trans ⟨aC.os,aC.tape,aC.output,aC.size,fun g hg=>k1 g (by have:=z.bel.size;exact f6J) (fun e=>by have:=(z.hc.1.lt g e).1;exact f6J)⟩;have K2:=O (y3P U w1 _ E bT f6J);have y1:w1.cell? ⟨U.heap.size+1+1,1,none⟩=some (.slice P E.length B):=cell_of (j:=1) aI f2P;have cB:=z.ap;have cw:=O cQ;have ce:=O cE;have ci:=O aA;have bZ:=O cB;have cL:=aC.size;clear K1 y0 cE aA cQ aC k1 hm z aL cB;go_wp2_with fail;refine(V K2).mono ?_;rintro e w2 ⟨rfl,cS,cF,cJ,cR,aD⟩;have k2:∀g,g<w1.heap.size->(Value.slice P E.length B).ownBlock≠some g->w2.heap[g]?=w1.heap[g]?:=fun g a b=>aD.block g a (fun e=>b e.symm);have aJ:w2.heap[U.heap.size+2]?=some (.cells #[.slice ab u.length D,.slice P E.length B,.map (some (U.heap.size+1))] 125 (0,0)):=(by rw[k2 _ (x0B aI) (fun e=>(V aV _ e).2.2 rfl)];exact aI);have J:w2.heap[U.heap.size]?=some (.cells #[.slice none 0 0,.slice none 0 0,.map none] 125 (0,0)):=(by rw[k2 _ (x0B aT) (fun e=>(V aV _ e).1 rfl)];exact aT);have bD:w2.heap[U.heap.size+1]?=some (.map es cl):=(by rw[k2 _ (x0B aS) (fun e=>(V aV _ e).2.1 rfl)];exact aS);have be:Bw U w2:=bR.trans ⟨aD.os,aD.tape,aD.output,aD.size,fun g hg=>k2 g (by have:=bR.size;exact f6J) (fun e=>by have:=(bT.1.lt g e).1;exact f6J)⟩;have cC:Rsx U w2 (.slice ab u.length D) bY:=(V cw).keep aD.size fun g hg=>k2 g (by have:=V cV g hg;have:=cL;exact f6J) (fun e=>V bZ g hg e);have z0:w2.cell? ⟨U.heap.size+1+1,0,none⟩=some (.slice ab u.length D):=cell_of (j:=0) aJ T7f;have z1:w2.cell? ⟨U.heap.size+1+1,1,none⟩=some (.slice P E.length B):=cell_of (j:=1) aJ f2P;have z2:w2.cell? ⟨U.heap.size+1+1,2,none⟩=some (.map (some (U.heap.size+1))):=cell_of (j:=2) aJ U4w;have r0:w2.cell? ⟨U.heap.size,0,none⟩=some (.slice none 0 0):=cell_of (j:=0) J T7f;have r1:w2.cell? ⟨U.heap.size,1,none⟩=some (.slice none 0 0):=cell_of (j:=1) J f2P;have r2:w2.cell? ⟨U.heap.size,2,none⟩=some (.map none):=cell_of (j:=2) J U4w;have f0:=x0e (j:=0) J;have f1:=x0e (j:=1) J;have f2:=x0e (j:=2) J;have cY:=O cR;have cU:=O cC;have cf:=O cF;have cj:=O cJ;have cT:=O be;have cW:=O J;have aq:=O bD;clear K2 y1 k2 aI aT aS aD cw bZ bT bR cR cC cF cJ be J bD aJ;go_wp2;have g1:(w2.setCell ⟨U.heap.size,0,none⟩ (.slice ab u.length D)).heap[U.heap.size]?=some (.cells #[.slice ab u.length D,.slice none 0 0,.map none] 125 (0,0)):=(by rw[x0f (V cW)];rfl);have g2:((w2.setCell ⟨U.heap.size,0,none⟩ (.slice ab u.length D)).setCell ⟨U.heap.size,1,none⟩ (.slice P E.length B)).heap[U.heap.size]?=some (.cells #[.slice ab u.length D,.slice P E.length B,.map none] 125 (0,0)):=(by rw[x0f g1];rfl);have g3:(((w2.setCell ⟨U.heap.size,0,none⟩ (.slice ab u.length D)).setCell ⟨U.heap.size,1,none⟩ (.slice P E.length B)).setCell ⟨U.heap.size,2,none⟩ (.map (some (U.heap.size+1)))).heap[U.heap.size]?=some (.cells #[.slice ab u.length D,.slice P E.length B,.map (some (U.heap.size+1))] 125 (0,0)):=(by rw[x0f g2];rfl);have bj:∀g,g≠U.heap.size->(((w2.setCell ⟨U.heap.size,0,none⟩ (.slice ab u.length D)).setCell ⟨U.heap.size,1,none⟩ (.slice P E.length B)).setCell ⟨U.heap.size,2,none⟩ (.map (some (U.heap.size+1)))).heap[g]?=w2.heap[g]?:=fun g h=>(by rw[x0g _ h,x0g _ h,x0g _ h]);have x:Bw U (((w2.setCell ⟨U.heap.size,0,none⟩ (.slice ab u.length D)).setCell ⟨U.heap.size,1,none⟩ (.slice P E.length B)).setCell ⟨U.heap.size,2,none⟩ (.map (some (U.heap.size+1)))):=x0d (x0d (x0d (V cT) (l0r _) _) (l0r _) _) (l0r _) _;have bV:w2.heap.size<=(((w2.setCell ⟨U.heap.size,0,none⟩ (.slice ab u.length D)).setCell ⟨U.heap.size,1,none⟩ (.slice P E.length B)).setCell ⟨U.heap.size,2,none⟩ (.map (some (U.heap.size+1)))).heap.size:=(by rw[x1a,x1a,x1a];exact l0r _);generalize(((w2.setCell ⟨U.heap.size,0,none⟩ (.slice ab u.length D)).setCell ⟨U.heap.size,1,none⟩ (.slice P E.length B)).setCell ⟨U.heap.size,2,none⟩ (.map (some (U.heap.size+1))))=w9 at *;have c0:w9.cell? ⟨U.heap.size,0,none⟩=some (.slice ab u.length D):=cell_of (j:=0) g3 T7f;have c1:w9.cell? ⟨U.heap.size,1,none⟩=some (.slice P E.length B):=cell_of (j:=1) g3 f2P;have c2:w9.cell? ⟨U.heap.size,2,none⟩=some (.map (some (U.heap.size+1))):=cell_of (j:=2) g3 U4w;have a1:=(V cU).keep bV (fun g hg=>bj g (V aU g hg).1);have a2:=(V cY).keep bV (fun g hg=>bj g (V aV g hg).1);have l1:bY.length<=1000000000:=(by have:=(V ce).length_eq;exact f6J);have l2:cS.length<=1000000000:=(by have:=(V cf).length_eq;exact f6J);obtain⟨o1,m1⟩:=Cn.x3C (f:=2) (.inl rfl) (cs:=bY.map (·.1)) (p:=is6) (V aW) (fun r=>⟨fun h=>by rw[o0d h];decide,fun h=>d0t (Cn.y7A h)⟩) (e1 ▸ (V ce).map _) (List.pairwise_map.2 (V ci));obtain⟨o2,m2⟩:=Cn.x3C (f:=3) (.inr rfl) (cs:=cS.map (·.1)) (p:=is78) (V aW) (fun r=>⟨fun h=>by rcases o0d h with e | e<;>(rw[e];decide),fun h=>d0t (Cn.fam_three' h)⟩) (e2 ▸ (V cf).map _) (List.pairwise_map.2 (V cj));have HF:y6h U l (.returned (.agg #[.slice ab u.length D,.slice P E.length B,.map (some (U.heap.size+1))])) w9:=⟨_,_,_,_,rfl,⟨a1.rcs x l1,a2.rcs x l2,o1,o2,m1,m2,V aW⟩,⟨es,cl,by rw[bj _ f6J];exact V aq,di⟩,x⟩;clear a1 a2 o1 o2 m1 m2 g3 bj x bV;refine bodyPost_ret (show _=Result.ok (.agg #[.slice ab u.length D,.slice P E.length B,.map (some (U.heap.size+1))]) w9 by simp[results,Tryz.results83,go_sem,c0,c1,c2]) rfl ?_;exact HF
open Ti
namespace Cn
theorem y4M{f:Int}{rs:List Rec}{k:Nat}(G:k<rs.length):famOf f (rs.take (k+1))=famOf f (rs.take k)++(if fam (rs.getD k none).kind=f then[rs.getD k none]else[]):=by
 have e:rs.take (k+1)=rs.take k++[rs.getD k none]:=f0h;rw[e];unfold famOf;rw[List.filter_append];congr 1;generalize rs.getD k none=x;by_cases h:fam x.kind=f
 ·grind
 ·grind
end Cn
def FamB(w:World)(rs:List Rec)(f:Int)(e:Ending)(w':World):Prop:=∃v xs,e=.returned v/\xs.map (·.1)=Cn.famOf f rs/\Rsh w w' v xs/\Below w.heap.size w w'
theorem Rsh.lowerB{U w w':World}{v:Value}{xs:List Sp}(h:Rsh U w v xs)(C:Bw w w'):Rsh U w' v xs:=⟨x8k h.1 C,h.2⟩
theorem x5k(v:Value)(rs:List Rec)(B:Int)(w:World)(hg:Glob w)(N:Rcs w v rs)(G:I64 B):Calls prog 135 #[v,.int .i64 B] w (FamB w rs (Cn.fam B)):=by
 obtain⟨i1,hj,aB,aC,aD⟩:=info_parts Tryz.info67;have aI:=N.1;have KF:Hid (∀W c,Bw w W->I64 c->Calls prog 134 #[.int .i64 c] W (IntB W (Cn.fam c))):=fun W c h I=>x1n c W (hg.on h) I
 have Y:Hid (∀k,k<rs.length->∃b P M,v=.slice (some ⟨b,P,none⟩) rs.length M/\RecAt w b (P+k*8) (rs.getD k Cn.none)/\RecFit (rs.getD k Cn.none)):=fun k G=>by
  obtain⟨b,P,M,he,_,_,I⟩:=N.place f6J;exact⟨b,P,M,he,I k G,N.fit G⟩
 have ar:Hid (∀k,k<rs.length->Cn.famOf (Cn.fam B) (rs.take (k+1))=Cn.famOf (Cn.fam B) (rs.take k)++(if Cn.fam (rs.getD k Cn.none).kind=Cn.fam B then[rs.getD k Cn.none]else[])):=fun k G=>Cn.y4M G;obtain⟨ao,M,aA,_,_⟩:=N.shape;obtain⟨aF,aG⟩:=G;have aw:Hid (∀W,Bw w W->Calls prog 134 #[.int .i64 B] W (IntB W (Cn.fam B))):=fun W h=>V KF W B h ⟨aF,aG⟩;subst aA;generalize Cn.fam B=f at *;go_enter func135,ntmps135;go_wp2;go_loopw[5,7,10] (fun ov _ S wr=>∃k:Nat,S=.int .i64 k/\k<=rs.length/\∃xs,xs.map (·.1)=Cn.famOf f (rs.take k)/\xs.length<=k/\Rsh w wr ov xs/\Bw w wr) (fun _ _ S _=>rs.length-(intOf S).toNat)
 case atStart=>exact⟨0,rfl,f6J,[],rfl,by simp,⟨World.ownsRow_nil _ _ _ _,fun x hx=>by cases hx⟩,b0r⟩
 case round =>
  obtain⟨k,rfl,G,xs,ag,aN,D,A⟩:=hrel;by_cases H:k<rs.length
  ·obtain⟨b,P,aH,he,hA,ab⟩:=V Y k H;obtain⟨e1,e2,e3⟩:=Value.slice.inj he;subst e1;have aK:=O (V ar k H);obtain⟨y0,y1,y2,y3,⟨va,y4,ai⟩,y5,y6,y7⟩:=hA;obtain⟨s,L,rfl,_,_⟩:=ai.shape;have hold:∀j u,w.cell? ⟨b,P+k*8+j,none⟩=some u->wr.cell? ⟨b,P+k*8+j,none⟩=some u:=fun j u h=>E6n;have x0:wr.cell? ⟨b,P+k*8,none⟩=_:=hold 0 _ y0;have x1:=hold 1 _ y1;have x2:=hold 2 _ y2;have x3:=hold 3 _ y3;have x4:=hold 4 _ y4;have x5:=hold 5 _ y5;have x6:=hold 6 _ y6;have x7:=hold 7 _ y7;have aq:Hid (Sk .i32 w (sval (rs.getD k Cn.none,s,(rs.getD k Cn.none).to.length,L)) (rs.getD k Cn.none).to/\RecFit (rs.getD k Cn.none)):=⟨ai,ab⟩;have az:=ab.kind;generalize rs.getD k Cn.none=r at *;have aM:∀W a m,(store a (.float .f64 r.wt) m).run prog W=stored prog W a (.float .f64 r.wt) m:=fun W a m=>run_store prog W a _ m rfl;obtain⟨W1,aL,T,E⟩:=x0L wr r.kind r.lo r.hi r.n (.slice s r.to.length L) r.name r.other r.wt;have K1:=O (V KF W1 r.kind (x0b A E) az);have aj:=O T;obtain⟨z0,z1,z2,z3,z4,z5,z6,z7⟩:=T;have l:=O (x0b A E);have i:=O (D.lowerB E);have t:Hid (∀W:World,∀j u,(encR (r,s,r.to.length,L))[j]?=some u->(W.alloc (.cells #[.int .i64 r.kind,.int .i64 r.lo,.int .i64 r.hi,.int .i64 r.n,.slice s r.to.length L,.string r.name,.string r.other,.float .f64 r.wt] 67)).cell? ((⟨W.heap.size,0,none⟩:Addr).add j)=some u):=fun W=>x3c W r s L W.heap.size rfl;have p:=O (x8H (r,s,r.to.length,L));go_wp2_with fail;refine c0m K1 fun w2 F=>?_;have d:=O (x0b (V l) F);have J:=O ((V i).lowerB F);have K:=O ((V aj).keep F);have K2:=O (V aw w2 (V d));go_wp2_with fail;refine c0m K2 fun w3 U=>?_;have z:=x0b (V d) U;have C:=(V J).lowerB U;obtain⟨z0,z1,z2,z3,z4,z5,z6,z7⟩:=(V K).keep U;generalize Cn.fam r.kind=fk at *;by_cases hf:fk=f
   ·subst hf;have ae:Hid ((xs++[(r,s,r.to.length,L)]).map (·.1)=Cn.famOf fk (rs.take (k+1))):=by grind
    have Q:Hid (∀v' q o,q.ownsRow w.heap.size 67 8 v' (xs.length+1) (xs.flatMap encR++encR (r,s,r.to.length,L))->(w3.alloc o).grownBy q u5.ownBlock->Rsh w q v' (xs++[(r,s,r.to.length,L)])/\Bw w q):=fun v' q o af R=>by
     have ha:=z.alloc z.size o;refine⟨⟨by simpa using af,fun y hy=>?_⟩,ha.grown R ha.size (fun g hg=>(C.1.lt g hg).1)⟩;rcases List.mem_append.1 hy with hy | hy
     ·exact C.2 y hy
     ·simp only[List.mem_singleton]at hy;subst hy;exact V aq
    have Z:Hid (∀o,(w3.alloc o).ownsRow w.heap.size 67 8 u5 xs.length (xs.flatMap encR)):=fun o=>C.1.alloc o;have aJ:=z.size;have am:=O (V t w3);go_wp2_with(at_builtin;refine wpList_append_own _ rfl (.tmp 20) (.tmp 22) 23 rfl w.heap.size 67 i1 (.agg #[.int .i64 0,.int .i64 0,.int .i64 0,.int .i64 0,.slice none 0 0,.string ⟨#[]⟩,.string ⟨#[]⟩,.float .f64 0]) 8 96 underlying23 hj aB aC aD rfl e8Q _ _ _ rfl (V Z _) ⟨w3.heap.size,0,none⟩ 1 1 (encR (r,s,r.to.length,L)) rfl rfl (V am) (V p) T7X f6J P8P ?_);intro v' q af R _;obtain⟨X,ay⟩:=V Q v' q _ af R;go_wp2
    go_roundw
    case rel=>exact⟨k+1,g2D,f6J,_,V ae,P8P,X,ay⟩
    case measure=>exact g7V
   ·have df:(fk==f)=false:=b0f hf;have ae:Hid (xs.map (·.1)=Cn.famOf f (rs.take (k+1))):=(by grind);go_wp2
    go_roundw
    case rel=>exact⟨k+1,g2D,f6J,xs,V ae,f6J,C,z⟩
    case measure=>exact g7V
  ·obtain rfl:k=rs.length:=f6J;rw[List.take_of_length_le (l0r _)]at ag;have HF:Hid (FamB w rs f (.returned u5) wr):=⟨u5,xs,rfl,ag,D,A⟩;exact I7o
def isNaNB(b:Nat):Bool:=FloatKind.f64.format.order b b != some Ordering.eq
theorem y5Y(b:Nat)(w:World):Calls prog 188 #[.float .f64 b] w fun e w'=>e=.returned (.bool (isNaNB b))/\w'=w:=by
 go_enter func188,ntmps188;exact t6u
theorem z0l(n:Int)(w:World):(callFunc 240 #[.int .u64 n]).run prog w=.ok (.value (.float .f64 n.toNat)) w:=by
 rw[run_callFunc_extern (e:=Extern.MathFloatBits.float64frombits) func240 f4x f4x f4x f4x];rfl
theorem y5Z(n:Int)(w:World):Calls prog 189 #[.int .u64 n] w fun e w'=>e=.returned (.float .f64 n.toNat)/\w'=w:=by
 have h:=z0l n;go_enter func189,ntmps189;exact t6u
theorem to32(b:Nat)(w:World):∃u n,(convert 65 265 (.float .f64 b)).run prog w=.ok (.float .f32 u) (w.drewN n):=by
 have X:=underlying65;have hd:=underlying265
 have S:∃u n,(Conv.floatToFloat .f64 b .f32).run prog w=.ok (.float .f32 u) (w.drewN n):=n1o
 exact u1E
theorem to64(b:Nat)(w:World):∃u n,(convert 265 65 (.float .f32 b)).run prog w=.ok (.float .f64 u) (w.drewN n):=by
 have X:=underlying265;have hd:=underlying65
 have S:∃u n,(Conv.floatToFloat .f32 b .f64).run prog w=.ok (.float .f64 u) (w.drewN n):=n1o
 exact u1E
theorem y2i(b:Nat)(w:World):Calls prog 139 #[.float .f64 b] w fun e w'=>∃u n,e=.returned (.float .f64 u)/\w'=w.drewN n:=by
 have i:=O (y5Y b w);have j:=O (fun w=>y5Z 9221120237041090560 w);obtain⟨u1,B,D⟩:=to32 b w;obtain⟨u2,E,Z⟩:=to64 u1 (w.drewN B);generalize isNaNB b=t at *
 cases t with
 | true =>
  go_enter func139,ntmps139;go_wp2_with fail;refine(V i).mono ?_;rintro e w ⟨rfl,rfl⟩;go_wp2_with fail;refine(V j _).mono ?_;rintro e w ⟨rfl,rfl⟩;go_wp2;go_ret;exact⟨_,0,rfl,rfl⟩
 | false =>
  go_enter func139,ntmps139;go_wp2_with fail;refine(V i).mono ?_;rintro e w ⟨rfl,rfl⟩;go_wp2;go_ret;exact⟨_,B+E,rfl,by first| rfl|(simp[World.drewN];omega)⟩
end Go.Proofs.YtbmckadcjdedcaaGreatDoor
namespace Go.Proofs.YtbmckadcjdedcaaGreatDoor.Cn
open Go.Proofs.Tryz
def bad7(l:List Rec)(i:Nat)(r:Rec):Bool:=decide ((firstP l (r.to.getD 0 0) (r.to.getD 1 0)).getD 0<(i:Int))||wpair l r.lo (r.to.getD 0 0) (r.to.getD 1 0)
theorem x5V(l:List Rec)(i:Nat)(r:Rec):record l i r=if fam r.kind≠2/\fam r.kind≠3 then 0
 else if covers r 0 127 then 70
 else if touches r=true then 71
 else if r.kind=7/\makes (r.to.getD 0 0) (r.to.getD 1 0)=true then 71
 else if fam r.kind=2 then 0
 else if(full l r.lo).2≠0 then(full l r.lo).2
 else if fallsA l (full l r.lo).1 then 75
 else if r.kind=7/\pair l i r=false then 74
 else 0:=rfl
theorem y2s{l:List Rec}{i:Nat}{r:Rec}(F:r.kind≠6)(x:r.kind≠7)(L:r.kind≠8):record l i r=0:=by
 rw[x5V];rw[if_pos ⟨fun h=>F (y7A h),fun h=>by rcases fam_three' h with e | e<;>contradiction⟩]
theorem y5A{l:List Rec}{i:Nat}{r:Rec}(hr:right r=0)(G:r.kind=6\/r.kind=7\/r.kind=8)(S:r.lo<128):record l i r=70:=by
 have z:fam r.kind=2\/fam r.kind=3:=e7r;have f:r.kind≠15:=f6J;have X:=x0o hr f;rw[x5V];rw[if_neg (fun h=>f6J),if_pos (show covers r 0 127=true from d0t ⟨f6J,f6J⟩)]
theorem x2z{l:List Rec}{i:Nat}{r:Rec}(G:r.kind=6\/r.kind=7\/r.kind=8)(S:¬r.lo<128)(K:(touches r||(decide (r.kind=7)&&makes (r.to.getD 0 0) (r.to.getD 1 0)))=true):record l i r=71:=by
 have z:fam r.kind=2\/fam r.kind=3:=e7r;rw[x5V];rw[if_neg (fun h=>f6J),if_neg (show ¬covers r 0 127=true from fun h=>by have:=o0d h;exact f6J)];by_cases D:touches r=true
 ·rw[if_pos D]
 ·grind
theorem x3P{l:List Rec}{i:Nat}{r:Rec}(G:r.kind=6\/r.kind=7\/r.kind=8)(S:¬r.lo<128)(K:(touches r||(decide (r.kind=7)&&makes (r.to.getD 0 0) (r.to.getD 1 0)))=false) :
  record l i r=if r.kind=6 then 0 else if wfull l r.lo≠0 then wfull l r.lo else if r.kind=7/\pair l i r=false then 74 else 0:=by
 have z:fam r.kind=2\/fam r.kind=3:=(by rcases G with e | e | e<;>(rw[e];decide));rw[Bool.or_eq_false_iff]at K;rw[x5V];rw[if_neg (fun h=>f6J),if_neg (show ¬covers r 0 127=true from fun h=>by have:=o0d h;exact f6J),if_neg (show ¬touches r=true by rw[K.1];exact M7N)]
 rw[if_neg (fun h=>by
  have h2:=K.2;rw[Bool.and_eq_false_iff]at h2;rcases h2 with h2 | h2
  ·grind
  ·have R:makes (r.to.getD 0 0) (r.to.getD 1 0)=true:=h.2
   rw[h2]at R;cases R)]
 rcases G with e | e | e
 ·rw[e,if_pos (by decide:fam 6=2),if_pos rfl]
 ·rw[if_neg (show ¬fam r.kind=2 by rw[e];exact e8N),if_neg (f6J:¬r.kind=6)];unfold wfull;by_cases D:(full l r.lo).2≠0
  ·omega
  ·grind
 ·rw[if_neg (show ¬fam r.kind=2 by rw[e];exact e8N),if_neg (f6J:¬r.kind=6)];unfold wfull;by_cases D:(full l r.lo).2≠0
  ·rw[if_pos D,if_pos D,if_pos D]
  ·grind
theorem z2j{l:List Rec}{i:Nat}(hi:i<l.length)(x:(l.getD i none).kind=7):pair l i (l.getD i none)=!bad7 l i (l.getD i none):=by
 rw[pair_w];unfold bad7;have h:=y7F hi x;cases hA:(l.take i).any fun k=>decide (k.kind=7/\k.to.getD 0 0=(l.getD i none).to.getD 0 0/\k.to.getD 1 0=(l.getD i none).to.getD 1 0)
 ·grind
 ·grind
end Go.Proofs.YtbmckadcjdedcaaGreatDoor.Cn
namespace Go.Proofs.YtbmckadcjdedcaaGreatDoor
open Go.Proofs.Tryz
open Go.RowKit
theorem z0u(p P s:Option Addr)(cl A F E f q v i:Nat)(J lo hi I:Int)(D:List Int)(Z M:ByteArray)(wt:Nat)(w:World)(W:J≠6)(B:J≠7)(C:J≠8) :
  Calls prog 84 #[xV (.slice p cl A) (.slice P F E) (.map (some v)),.int .i64 (i:Int),recV ⟨J,lo,hi,I,D,Z,M,wt⟩ (.slice s f q)] w (IntB w 0):=by
 have R:(J==6)=false:=b0f W;have G:(J != 6)=true:=(by simp[W]);have Q:(J==7)=false:=b0f B;have K:(J==8)=false:=b0f C;have T:IntB w 0 (.returned (.int .i64 0)) ((w.alloc (.cells #[.slice p cl A,.slice P F E,.map (some v)] 125)).alloc (.cells #[.int .i64 J,.int .i64 lo,.int .i64 hi,.int .i64 I,.slice s f q,.string Z,.string M,.float .f64 wt] 67)):=⟨rfl,((b0r).alloc (l0r _) _).alloc M7K _⟩;unfold xV recV;go_enter func84,ntmps84;go_wp2;go_ret;exact T
theorem z2R(p P s:Option Addr)(cl A F E f q v i:Nat)(J lo hi I:Int)(D:List Int)(Z M:ByteArray)(wt:Nat)(w:World)(G:J=6\/J=7\/J=8)(S:lo<128) :
  Calls prog 84 #[xV (.slice p cl A) (.slice P F E) (.map (some v)),.int .i64 (i:Int),recV ⟨J,lo,hi,I,D,Z,M,wt⟩ (.slice s f q)] w (IntB w 70):=by
 unfold xV recV;rcases G with rfl | rfl | rfl
 all_goals
  have T:∀W,Bw w W->IntB w 70 (.returned (.int .i64 70)) W:=fun W h=>⟨rfl,h⟩;go_enter func84,ntmps84;go_wp2;go_ret;exact T _ (((b0r).alloc (l0r _) _).alloc M7K _)
