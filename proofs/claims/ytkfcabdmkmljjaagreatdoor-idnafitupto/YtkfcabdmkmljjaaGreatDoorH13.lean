/- Lemmas. -/
import Derived.Test.YtkfcabdmkmljjaaGreatDoorH8
import Derived.Test.YtkfcabdmkmljjaaGreatDoorH15
import Derived.Test.YtkfcabdmkmljjaaGreatDoorH18
import Derived.Laws.Externs
import Derived.Laws.FloatArith
set_option maxHeartbeats 16000000
set_option maxRecDepth 20000
namespace Go.Proofs.YtkfcabdmkmljjaaGreatDoor
open Go.Proofs.Tryz
open Go.RowKit Go.MapKept Go.WideMaps
open Go.ChangeMaps (setBlock)
section
variable{p:Prop}
theorem n1o(h:p:=by
 unfold Conv.floatToFloat;rw[if_neg e8M];split
 ·exact t5f
 ·exact⟨_,0,rfl⟩
 ·dsimp only;split
  ·exact t5f
  ·exact⟨_,0,rfl⟩):p:=h
theorem e7r(h:p:=by rcases G with e | e | e<;>(rw[e];decide)):p:=h
theorem r1a(h:p:=by obtain⟨u,n,h⟩:=S;refine⟨u,n,?_⟩;rw[<- h];simp[convert,run_underlying L,run_underlying hd]):p:=h
theorem t5f(h:p:=by
 rw[Sem.run_bind,run_choose_drew];split
 ·exact⟨_,0,rfl⟩
 ·exact⟨_,1,rfl⟩):p:=h
theorem u6y(h:p:=by rw[ltG]at *;simp at *;exact f6J):p:=h
theorem I4K(h:p:=by(intro w hSw;obtain⟨hS,s9⟩:=(congrFun aB _).mpr hSw;obtain⟨sb,s8⟩:=(congrFun I _).mpr hS;obtain⟨s0,s1,s2,s3,s4,s5,s6,s7⟩:=cells8 sb;go_simp)):p:=h
theorem m3v(h:p:=by
 go_roundw
 case rel=>exact⟨k+1,by go_num,f6J,G⟩
 case measure=>exact g7W):p:=h
theorem I7o(h:p:=by go_wp2;go_ret;exact V HF):p:=h
theorem t4s(h:p:=by(intro w hSw;obtain⟨sb,s8⟩:=(congrFun I _).mpr hSw;obtain⟨s0,s1,s2,s3,s4,s5,s6,s7⟩:=cells8 sb;go_simp)):p:=h
theorem I3R(h:p:=by rw[T.cell (x0a h)];exact h):p:=h
theorem f2R(h:p:=by show 1<3;exact f6J):p:=h
theorem e0f(h:p:=by first| exact T | simpa using T):p:=h
theorem T6N(h:p:=by first| rfl | exact aC):p:=h
theorem w8r(h:p:=by simp[is78]):p:=h
theorem T7E(h:p:=by simp[is6]):p:=h
end
def KP(v:Value):Prop:=∃a b,v=pk2 a b/\Rune a/\Rune b
theorem ulawP:KeyLaw prog 235:=deep_law_laid x6e (m:=3) e8N (o0d f4x) f4x f4x
theorem y7V:prog.cellsOf 235=2:=f4x
theorem y9y:prog.keyType 235=true:=f4x
theorem y5V{a b}(g:Rune a)(Y:Rune b) D:prog.keyLits (D+2) 235 [.int .i32 a,.int .i32 b]=some [.int .i32 a,.int .i32 b]:=by
 rw[Program.keyLits.eq_def];simp only[underlying235,y7V];rw[if_pos ⟨rfl,M7K⟩];simp[List.mapM_cons,x3e g D,x3e Y D,y7T]
theorem q1l{v}(h:KP v):∃l,keyOf prog 235 v=some l:=by
 obtain⟨a,b,rfl,g,Y⟩:=h
 have z:(pk2 a b).formed prog 235=true:=by
  simp[pk2,Value.formed,underlying235,y7V]
 obtain⟨n,F⟩:∃n,prog.types.size+1=n+2:=⟨prog.types.size-1,m4z⟩;refine⟨.string (keyBytes [.int .i32 a,.int .i32 b]),?_⟩;unfold keyOf;simp only[underlying235,y9y,z,Bool.and_self,if_true,F];show(prog.keyLits (n+2) 235 [.int .i32 a,.int .i32 b]).map _=_;rw[y5V g Y n];rfl
theorem klP:KL 235 KP:=KL.of ulawP fun _ h=>q1l h
def KR(v:Value):Prop:=∃a,v=.int .i32 a
theorem klR:KL 21 KR:=by
 have G:∀v,KR v->IsKey (.int .i32) v:=fun v h=>(by obtain⟨a,rfl⟩:=h;exact rfl);refine⟨fun w C v h=>run_checkKey underlying21 (G v h) C 9999,fun w x h d B=>?_,fun w v h=>?_⟩
 ·rcases findNow_spec (G x h) d 0 (fun e q=>G _ (B e q))with⟨Z,D⟩ | ⟨j,e,Z,D,J⟩
  ·exact .inl ⟨run_findKey underlying21 Z,D⟩
  ·rw[Nat.zero_add]at Z;exact .inr ⟨j,e,run_findKey underlying21 Z,D,J⟩
 ·exact run_keyThatStays (G v h)
def KN(v:Value):Prop:=∃a b,v=pk a b/\Sh a/\Sh b
theorem ulawN:KeyLaw prog 238:=deep_law_laid x6e (m:=3) e8N (o0d f4x) f4x f4x
theorem y7R:prog.cellsOf 238=2:=f4x
theorem y9w:prog.keyType 238=true:=f4x
theorem y5T{a b}(g:Sh a)(Y:Sh b) D:prog.keyLits (D+2) 238 [.string a,.string b]=some [.string a.data.toList,.string b.data.toList]:=by
 rw[Program.keyLits.eq_def];simp only[underlying238,y7R];rw[if_pos ⟨rfl,M7K⟩];simp[List.mapM_cons,x2p g D,x2p Y D,y7U]
theorem q0l{v}(h:KN v):∃l,keyOf prog 238 v=some l:=by
 obtain⟨a,b,rfl,g,Y⟩:=h
 have z:(pk a b).formed prog 238=true:=by
  simp[pk,Value.formed,underlying238,y7R]
 obtain⟨n,F⟩:∃n,prog.types.size+1=n+2:=⟨prog.types.size-1,m4z⟩;refine⟨.string (keyBytes [.string a.data.toList,.string b.data.toList]),?_⟩;unfold keyOf;simp only[underlying238,y9w,z,Bool.and_self,if_true,F];show(prog.keyLits (n+2) 238 [.string a,.string b]).map _=_;rw[y5T g Y n];rfl
theorem klN:KL 238 KN:=KL.of ulawN fun _ h=>q0l h
namespace Cn
def x2z(l:List Rec)(a b:Int):Option Int:=(l.reverse.find? (isP a b)).map (·.lo)
def secOf(l:List Rec)(b:Int):Nat:=l.countP fun r=>decide (r.kind=7/\r.to.getD 1 0=b)
theorem x7j l r a b:x2z (l++[r]) a b=if isP a b r=true then some r.lo else x2z l a b:=by
 unfold x2z;rw[List.reverse_append,List.reverse_cons,List.reverse_nil,List.nil_append,List.singleton_append,List.find?_cons];by_cases h:isP a b r=true
 ·rw[h,if_pos rfl];rfl
 ·grind
theorem x8O l r b:secOf (l++[r]) b=secOf l b+if r.kind=7/\r.to.getD 1 0=b then 1 else 0:=by
 unfold secOf;rw[List.countP_append,List.countP_singleton];by_cases h:r.kind=7/\r.to.getD 1 0=b
 ·grind
 ·grind
theorem z4m l b:secOf l b<=l.length:=List.countP_le_length
end Cn
def x3n(l:List Rec)(v:Value):Option Value :=
 match v with
 | .agg ⟨[.int .i32 a,.int .i32 b]⟩=>(Cn.x2z l a b).map (Value.int .i32)
 | _=>none
def secC(l:List Rec)(v:Value):Option Value :=
 match v with
 | .int .i32 b=>if Cn.secOf l b=0 then none else some (.int .i64 (Cn.secOf l b:Nat))
 | _=>none
theorem y4B l a b:x3n l (pk2 a b)=(Cn.x2z l a b).map (Value.int .i32):=rfl
theorem x7i{l r v}(h:∀a b,v=pk2 a b->¬(r.kind=7/\r.to.getD 0 0=a/\r.to.getD 1 0=b)):x3n (l++[r]) v=x3n l v:=by
 unfold x3n;split
 ·rename_i a b
  rw[Cn.x7j,if_neg];intro s;exact h a b rfl (o0d s)
 ·rfl
theorem x8N{l r v}(h:∀b,v=.int .i32 b->¬(r.kind=7/\r.to.getD 1 0=b)):secC (l++[r]) v=secC l v:=by
 unfold secC;split
 ·rename_i b
  rw[Cn.x8O,if_neg (h b rfl),Nat.add_zero]
 ·rfl
theorem z0r v:x3n [] v=none:=by
 unfold x3n;split<;>rfl
theorem z4l v:secC [] v=none:=by
 unfold secC;split<;>rfl
open Go.RowKit Go.Sort Go.Shelf
open Ti
def encG(x:Tri.Rg):List Value:=[.int .i64 (Tri.lo x),.int .i64 (Tri.hi x),.int .i64 (Tri.vl x)]
theorem z2J(x:Tri.Rg):(encG x).length=3:=rfl
theorem z2K(x:Tri.Rg):∀v∈encG x,v.oneCell'=true:=by
 intro v N;simp only[encG,List.mem_cons,List.mem_nil_iff,or_false]at N;rcases N with rfl | rfl | rfl<;>rfl
def loG(x y:Tri.Rg):Int:=Lib.compareInt (Tri.lo x) (Tri.lo y)
theorem ltG(x y:Tri.Rg):ltOf loG x y=decide (Tri.lo x<Tri.lo y):=by
 unfold ltOf loG Lib.compareInt;by_cases Z:Tri.lo x<Tri.lo y
 ·simp[Z]
 ·grind
theorem swoG:SWO (ltOf loG):={
 irrefl:=fun x=>by rw[ltG];exact M7L
 trans:=fun x y z Z D=>u6y
 ntrans:=fun x y z Z D=>u6y }
theorem y7N(x y:Tri.Rg) W:Calls prog 197 #[.agg (encG x).toArray,.agg (encG y).toArray] W fun e w'=>e=.returned (.int .i64 (loG x y))/\∃q A,w'=grow (W.drewN q) A:=by
 have K:=O (fun W=>x2J (Tri.lo x) (Tri.lo y) W);have e:Lib.compareInt (Tri.lo x) (Tri.lo y)=loG x y:=rfl;rw[e]at K;show Calls prog 197 #[.agg #[.int .i64 (Tri.lo x),.int .i64 (Tri.hi x),.int .i64 (Tri.vl x)],.agg #[.int .i64 (Tri.lo y),.int .i64 (Tri.hi y),.int .i64 (Tri.vl y)]] W _;go_enter func197,ntmps197;exact u6L
theorem x8H(xs:List Tri.Rg) i j(hi:i<xs.length)(X:j<3):(Ti.rcells xs)[i*3+j]?=some ((encG (xs.getD i (0,0,0)))[j]!):=by
 obtain⟨R,Z,D⟩:=Ti.x1s xs i hi;have S:=Ti.x1K xs;have e:∀k,k<(Ti.rcells xs).length->(Ti.rcells xs)[k]?=some ((Ti.rcells xs).getD k undef):=fun k G=>w8a
 match j,X with
 | 0,_=>rw[Nat.add_zero,e _ f6J,R];rfl
 | 1,_=>rw[e _ f6J,Z];rfl
 | 2,_=>rw[e _ f6J,D];rfl
theorem Or4.holds[Inhabited Tri.Rg]{w B g cap}{xs:List Tri.Rg}(h:Or4 w B (.slice (some ⟨g,0,none⟩) xs.length cap) xs):HoldsK encG 3 w g 0 xs.toArray:=by
 intro j X;rw[size_flatK]at X;have W:j<xs.length*3:=R1Z;rw[get_flatK _ _ _ _ X];have hd:j / 3<xs.length:=f6J
 have e:=h.2.2.cells (g:=g) rfl j _ (by
  have:=x8H xs (j / 3) (j%3) hd f6J;rw[(f6J:j / 3*3+j%3=j)]at this
  exact this)
 rw[addr_add,Nat.zero_add]at e;have C:xs.toArray[j / 3]! = xs.getD (j / 3) (0,0,0):=(by grind);rw[C,Nat.zero_add];refine⟨e,?_⟩;rcases h.2.2.2 with⟨N,_⟩ | ⟨S,A,Q,N,_,H,_⟩
 ·simp at N
 ·exact e7z
theorem y3n[Inhabited Tri.Rg]{w:World}{blk n}{d:Array Tri.Rg}{u:Array Obj}:w.grownBy (sortWorldK encG 3 w blk 0 n d u) (some blk):=by
 refine⟨rfl,rfl,rfl,?_,fun k G t=>?_⟩
 ·show w.heap.size<=((putRowK encG 3 (Sort.ahead w n) blk 0 d).heap++u).size;rw[Array.size_append];have:(putRowK encG 3 (Sort.ahead w n) blk 0 d).heap.size=w.heap.size:=r2O;omega
 ·show((putRowK encG 3 (Sort.ahead w n) blk 0 d).heap++u)[k]?=_;have L:(putRowK encG 3 (Sort.ahead w n) blk 0 d).heap.size=w.heap.size:=r2O;exact P5b
theorem z3k p cap fv w:Calls prog 274 #[.slice p 0 cap,.int .i64 0,.int .i64 0,fv] w fun e w'=>e=.returned (.tuple #[])/\w'=w:=by
 go_enter func274,ntmps274;exact f0B
theorem z3T p cap lim fv w:Calls prog 246 #[.slice p 0 cap,.int .i64 0,.int .i64 0,.int .i64 lim,fv] w fun e w'=>e=.returned (.tuple #[])/\w'=w:=by
 have hi:=fun W=>z3k p cap fv W;go_enter func246,ntmps246;go_wp2;refine wp_loop_rounds 1 ?_;rw[rounds_succ];go_wp2_with(go_at_call 274;refine(hi _).mono ?_;rintro e w' ⟨rfl,rfl⟩)
 exact m8y
theorem z1e p cap fv w:Calls prog 196 #[.slice p 0 cap,fv] w fun e w'=>e=.returned (.tuple #[])/\w'=w:=by
 have S:∀W,Calls prog 182 #[.int .u64 0] W fun e w'=>e=.returned (.int .i64 0)/\w'=W:=fun W =>
  Any.bits_Len (SlLaysF0.n15.bits (P:=prog) (ρ:=Tryz.lays196_ren) { Tryz.lays196 with }) 0 W f6J f6J
 have s:=fun A W=>z3T p cap A fv W;go_enter func196,ntmps196;go_wp2_with(first| (go_at_call 182;refine(S _).mono ?_;rintro e w' ⟨rfl,rfl⟩)|(go_at_call 246;refine(s _ _).mono ?_;rintro e w' ⟨rfl,rfl⟩));go_end0;exact⟨rfl,rfl⟩
def SortG(w:World)(v:Value)(xs:List Tri.Rg)(e:Ending)(w':World):Prop:=e=.returned (.tuple #[])/\∃ys:List Tri.Rg,ys.Perm xs/\(ys.Pairwise fun a b=>Tri.lo a<=Tri.lo b)/\Sr w' v ys/\w.grownBy w' v.ownBlock
theorem y1M w B v(xs:List Tri.Rg)(h:Or4 w B v xs)(S:xs.length<=5000000000):Calls prog 196 #[v,.func (.func 197) #[] #[]] w (SortG w v xs):=by
 have q:Inhabited Tri.Rg:=⟨(0,0,0)⟩;have Z:=h.sr;rcases h.2.2.2 with⟨rfl,R⟩ | ⟨g,M,Q,rfl,C,H,F,G,f,U⟩
 ·obtain rfl:xs=[]:=List.eq_nil_of_length_eq_zero R;refine(z1e none 0 _ w).mono ?_;rintro e a ⟨rfl,rfl⟩;exact⟨rfl,[],List.Perm.refl _,.nil,Z,⟨rfl,rfl,rfl,l0r _,fun _ _ _=>rfl⟩⟩
 ·have E:=(h.2.2.lt g rfl).2;have z:=Or4.holds h;have m:∀D w,(callFunc 197 D).run prog w=.ok (.enter 197 D) w:=enters_of func197 f4A rfl;have Y:CmpLays prog 197 #[] encG 3 loG g 0 xs.toArray.size w:=fun _ _ _ _ x y=>y7N x y _;have l:∀w,(isAgg 272).run prog w=.ok true w:=Tryz.isAgg272;have o:∀w,(Go.sizeOf 272).run prog w=.ok 3 w:=Tryz.sizeOf272;have K:=AnyQ.slices_SortFunc Tryz.lays196 3 l o encG z2J z2K loG swoG 197 #[] g 0 M xs.toArray w m Y z E P8P;change Calls prog 196 #[.slice (some ⟨g,0,none⟩) xs.length M,_] w _ at K;refine K.mono ?_;rintro e a ⟨rfl,I,n,u,⟨J,_,r⟩,L,rfl⟩;have k:I.size=xs.length:=by simpa using J
  have W:I.toList.Perm xs:=by
   have P:I.extract 0 xs.toArray.size=I:=(by grind);rw[P]at r;exact I2B
  have d:SWK encG 3 w g 0 I (sortWorldK encG 3 w g 0 n I u):=⟨n,u,rfl⟩;have T:=d.holds E z J;have N:I.toList.length=xs.length:=f6J;refine⟨rfl,I.toList,W,?_,⟨fun x A=>h.1 x (W.mem_iff.1 A),?_,by rw[N];exact h.2.1,.inr ⟨g,0,M,by rw[N],by rw[N];exact F,by unfold maxLen at G;exact f6J,fun i hi=>?_⟩⟩,y3n⟩
  ·rw[List.pairwise_iff_getElem];intro i j hi X p;have:=L i j (Nat.zero_le _) p (by simp at X ⊢;exact f6J);rw[ltG,decide_eq_false_iff_not]at this;exact T7t
  ·rw[Ti.x1K]
  ·rw[N]at hi;have b:i / 3<I.size:=f6J;have:=(T.cell (i:=i / 3) (c:=i%3) b f6J).1;rw[Nat.zero_add,(f6J:i / 3*3+i%3=i)]at this;rw[Nat.zero_add,this,getElem!_pos I _ b];have s:=x8H I.toList (i / 3) (i%3) (by rw[N];exact f6J) f6J;rw[(f6J:i / 3*3+i%3=i)]at s;rw[List.getD,s];simp[List.getD,b]
open Go.RowKit
open Ti
def x6q(w0:World)(xs:List Tri.Rg)(e:Ending)(w':World):Prop:=∃a m,e=.returned (.pointer (some a))/\m.Perm xs/\(m.Pairwise fun x y=>Tri.lo x<=Tri.lo y)/\T4 w' w0.heap.size (.pointer (some a)) m 0/\Below w0.heap.size w0 w'
theorem y7M w0 w v(xs:List Tri.Rg)(Y:Bw w0 w)(h:Or4 w w0.heap.size v xs)(S:xs.length<=5000000000)(N:∀m:List Tri.Rg,m.Perm xs->(m.Pairwise fun x y=>Tri.lo x<=Tri.lo y)->Tri.Val 0 m):Calls prog 147 #[v] w (x6q w0 xs):=by
 have i:=O (y1M w w0.heap.size v xs h S);have W:Hid (∀T,w.grownBy T v.ownBlock->Bw w0 T):=fun T C=>Y.grown C Y.size (fun k G=>(h.2.2.lt k G).1);have R:=O N;obtain⟨B,M,rfl,_,_⟩:=h.sr.shape;go_enter func147,ntmps147;go_wp2_with fail;refine(V i).mono ?_;rintro P Q ⟨rfl,ys,s,A,Z,C⟩;have F:=V W Q C;have z:=V R ys s A;have j:=O (z4R _ ys 0 Q Z ⟨f6J,f6J⟩);have L:(Tri.check 0 ys).2=0:=Tri.x3X.2 ⟨z,f6J,f6J⟩;have I:=O L;have X:=O s;have D:=O A;have l:=O F;go_wp2_with fail;refine(V j).mono ?_;rintro E t ⟨H,⟨_,a,rfl,u⟩ | ⟨J,_⟩⟩
 ·have U:x6q w0 xs (.returned (.pointer (some a))) t:=⟨a,ys,rfl,V X,V D,u.lower (V l).size,bthen (V l) H⟩;exact m2G
 ·exact absurd (V I) J
open Go.ChangeMaps (setBlock)
theorem Rsh.shape{f W:World}{v:Value}{xs:List Sp}(h:Rsh f W v xs):∃ao cap,v=.slice ao xs.length cap/\xs.length<=cap/\cap<=9223372036854775807:=by
 rcases h.1.2 with⟨rfl,R⟩ | ⟨g,cap,Q,rfl,_,_,F,G,_⟩
 ·exact⟨none,0,by rw[R],f6J,f6J⟩
 ·exact⟨_,cap,rfl,F,V3H⟩
theorem x6F(p:Rec->Bool)(l:List Rec)(r:Rec):(l++[r]).filter p=l.filter p++(if p r then[r]else[]):=by
 rw[List.filter_append];cases h:p r<;>simp[h]
def is6(r:Rec):Bool:=decide (r.kind=6)
def is78(r:Rec):Bool:=decide (r.kind=7\/r.kind=8)
def Made(w0 wr:World)(l:List Rec)(k:Nat):Prop:=∃(cv ov:Value) (cxs oxs:List Sp),NI w0 wr (Cn.firstP (l.take k)) cv ov cxs oxs/\cxs.map (·.1)=(l.take k).filter is6/\oxs.map (·.1)=(l.take k).filter is78
theorem Made.next{f wr:World}{l:List Rec}{k:Nat}{r:Rec}{cv ov:Value}{L B cxs' oxs':List Sp}{c:Int->Int->Option Int}(J:l.take (k+1)=l.take k++[r])
  (h:NI f wr c cv ov cxs' oxs') (I:c=Cn.firstP (l.take k++[r])) (P:L.map (·.1)=(l.take k).filter is6) (E:B.map (·.1)=(l.take k).filter is78)
  (Z:cxs'.map (·.1)=L.map (·.1)++(if is6 r then[r]else[])) (D:oxs'.map (·.1)=B.map (·.1)++(if is78 r then[r]else[])):Made f wr l (k+1):=by
 subst I;exact⟨cv,ov,cxs',oxs',by rw[J];exact h,by rw[J,x6F,Z,P],by rw[J,x6F,D,E]⟩
theorem y4u{l:List Rec}{k:Nat}{L B:List Sp}(P:L.map (·.1)=(l.take k).filter is6)(E:B.map (·.1)=(l.take k).filter is78)(S:l.length<=4096):L.length<=4096/\B.length<=4096:=by
 have Z:=congrArg List.length P;have D:=congrArg List.length E;rw[List.length_map]at Z D;have i:=List.length_filter_le is6 (l.take k);have A:=List.length_filter_le is78 (l.take k);have M:(l.take k).length<=l.length:=P8P;omega
theorem x2R(W:World)(r:Rec)(A:Option Addr)(J:Nat)(n:Nat)(F:W.heap.size=n):∀j u,(encR (r,A,r.to.length,J))[j]?=some u->(W.alloc (.cells #[.int .i64 r.kind,.int .i64 r.lo,.int .i64 r.hi,.int .i64 r.n,.slice A r.to.length J,.string r.name,.string r.other,.float .f64 r.wt] 60)).cell? ((⟨n,0,none⟩:Addr).add j)=some u:=x6h W n F r (.slice A r.to.length J)
theorem y7Q{W:World}{r L j:Nat}{v:Value}(o:Obj)(h:L≠r)(I:W.cell? ⟨L,j,none⟩=some v):(setBlock W r o).cell? ⟨L,j,none⟩=some v:=by
 rw[World.cell?_of_block (x1F W o h)];exact I
theorem x6f{xs:List Int}{i:Nat}(h:i<xs.length):xs.getD i 0∈xs:=p8I
def y7j(w0:World)(l:List Rec)(e:Ending)(w':World):Prop:=∃cv ov cs os,e=.returned (xV cv ov (.map (some (w0.heap.size+1))))/\Idx l w' cv ov cs os/\PAt w' (w0.heap.size+1) (Cn.firstP l)/\Below w0.heap.size w0 w'
def nw(w0:World):World:=((w0.alloc (.cells #[.slice none 0 0,.slice none 0 0,.map none] 168)).alloc (.map #[] 0)).alloc (.cells #[.slice none 0 0,.slice none 0 0,.map (some (w0.heap.size+1))] 168)
theorem nw_ni(f:World):NI f (nw f) (fun _ _=>none) (.slice none 0 0) (.slice none 0 0) [] []:=by
 have e:(nw f).heap=((f.heap.push (.cells #[.slice none 0 0,.slice none 0 0,.map none] 168 (0,0))).push (.map #[] 0)).push (.cells #[.slice none 0 0,.slice none 0 0,.map (some (f.heap.size+1))] 168 (0,0)):=rfl;refine⟨?_,⟨#[],0,?_,q0v⟩,?_,⟨World.ownsRow_nil _ _ _ _,fun _ h=>m5l⟩,⟨World.ownsRow_nil _ _ _ _,fun _ h=>m5l⟩,fun g h=>by simp[Value.ownBlock]at h,?_⟩
 ·rw[e,Array.getElem?_push,Array.getElem?_push,Array.getElem?_push];simp;omega
 ·rw[e,Array.getElem?_push,Array.getElem?_push];simp
 ·rw[e,Array.getElem?_push];simp
 ·exact r5O
theorem y1j(v:Value)(l:List Rec)(w0:World)(hv:Rcs w0 v l)(bP:(Cn.check6 l).2=0):Calls prog 91 #[v] w0 (y7j w0 l):=by
 obtain⟨i1,hj,ba,be,bh⟩:=info_parts Tryz.info60;have dx:=@run_makeMap prog;obtain⟨hl,aA⟩:=Cn.x1H bP
 have bH:Hid (∀i,i<l.length->(l.getD i Cn.none).kind=7->(l.getD i Cn.none).to.length=2/\Rune ((l.getD i Cn.none).to.getD 0 0)/\Rune ((l.getD i Cn.none).to.getD 1 0)):=fun i hi h7=>by
  have hm:l.getD i Cn.none∈l:=(by simp[List.getD,hi]);have bN:=(Cn.x0C (aA _ hm) h7).2.2;obtain⟨⟨g1,g2⟩,g3⟩:=Cn.x0v bN;refine⟨f6J,?_,?_⟩
  ·have:=g3 ((l.getD i Cn.none).to.getD 0 0) (x6f f6J);have:=o0d this;unfold Rune;omega
  ·have:=g3 ((l.getD i Cn.none).to.getD 1 0) (x6f f6J);have:=o0d this;unfold Rune;omega
 have X:=O (fun i hi=>hv.fit (i:=i) hi);have HV:=O hv
 have aD:Hid (∀k,k<l.length->l.take (k+1)=l.take k++[l.getD k Cn.none]):=fun k hk=>by
  rw[List.take_add_one];simp[List.getD,hk]
 have bI:Hid (∀k,k<l.length->(l.take k).length=k):=fun k hk=>P8P;have bj:Hid (∀w',Made w0 w' l l.length->Made w0 w' l l.length):=fun _ h=>h;have aK:=O (nw_ni w0);have aT:=O bP;have cT:=O aA;obtain⟨ao,dq,rfl,dt,du⟩:=hv.shape;clear hv bP aA;go_enter func91,ntmps91;go_wp2;go_loopw[4,5,6,7,12] (fun _ _ _ _ i wr=>∃k:Nat,i=.int .i64 k/\k<=l.length/\Hid (Made w0 wr l k)) (fun _ _ _ _ i _=>l.length-(intOf i).toNat)
 case atStart=>exact⟨0,rfl,f6J,⟨_,_,[],[],V aK,by simp,by simp⟩⟩
 case round =>
  clear aK;obtain⟨k,rfl,hk,N⟩:=hrel;by_cases aO:k<l.length
  ·obtain⟨cv,ov,L,B,H,e1,e2⟩:=V N;obtain⟨cX,db⟩:=y4u e1 e2 hl;obtain⟨b,dh,di,ev,_,_,q⟩:=(V HV).place f6J;simp only[Value.slice.injEq]at ev;obtain⟨rfl,_,rfl⟩:=ev;have aH:=q k aO;have cF:=aH.below H.bel;obtain⟨vt,bR,aI⟩:=aH.to;have bt:=V X k aO;have cI:=V aD k aO;have cJ:=V bI k aO;have h7:=V bH k aO;obtain⟨A,J,rfl,_,_⟩:=aI.shape;have x4:wr.cell? ⟨b,dh+k*8+4,none⟩=some (.slice A (l.getD k Cn.none).to.length J):=(by rw[H.bel.cell (x0a bR)];exact bR);obtain⟨x0,x1,x2,x3,_,x5,x6,x7⟩:=cF;generalize l.getD k Cn.none=r at *;have bX:=O aI;have az:Hid (Sk .i32 w0 (sval (r,A,r.to.length,J)) r.to/\RecFit r):=⟨aI,bt⟩;obtain⟨Q,hQ⟩:∃Q,(wr.alloc (.cells #[.int .i64 r.kind,.int .i64 r.lo,.int .i64 r.hi,.int .i64 r.n,.slice A r.to.length J,.string r.name,.string r.other,.float .f64 r.wt] 60))=Q:=⟨_,rfl⟩
   have U:Hid (Q.heap[wr.heap.size]?=some (.cells #[.int .i64 r.kind,.int .i64 r.lo,.int .i64 r.hi,.int .i64 r.n,.slice A r.to.length J,.string r.name,.string r.other,.float .f64 r.wt] 60 (0,0))):=by
    rw[<- hQ];show(wr.heap.push _)[wr.heap.size]?=_;simp
   have aC:Q.heap.size=wr.heap.size+1:=(by rw[<- hQ];simp);have ai:=O (H.below (hQ ▸ (b0r).alloc (l0r _) _));have u:=O (fun W c cv' ov' cxs' oxs' (h:NI w0 W c cv' ov' cxs' oxs') hc h1 h2=>Made.next (wr:=W) (c:=c) (cv:=cv') (ov:=ov') (cxs':=cxs') (oxs':=oxs') cI h hc e1 e2 h1 h2);have dr:=H.bel.size;obtain⟨s,Z,rfl,dj,dk⟩:=H.hc.shape;obtain⟨P,D,rfl,dl,dp⟩:=H.ho.shape;have dv:∀W a m,(store a (.float .f64 r.wt) m).run prog W=stored prog W a (.float .f64 r.wt) m:=fun W a m=>run_store prog W a _ m rfl;have am:=O (x9h (r,A,r.to.length,J));clear aH q bR aI bt cI H e1 e2 N X aD bI bH HV aT cT bj;by_cases k6:r.kind=6
   ·have F:=ai;clear h7;obtain⟨kd,lo,hi,nn,Y,y,M,wt⟩:=r;dsimp only at *;subst k6;have y0:Q.cell? ⟨w0.heap.size+1+1,0,none⟩=some (.slice s L.length Z):=cell_of (j:=0) (V F).hx T7d;have ag:Hid (∀o,(Q.alloc o).ownsRow w0.heap.size 60 8 (.slice s L.length Z) L.length (L.flatMap encR)):=fun o=>(V F).hc.1.alloc o;have af:=O (x2R Q (⟨6,lo,hi,nn,Y,y,M,wt⟩:Rec) A J (wr.heap.size+1) T6N);have ab:=O (fun o v' w1 a b c=>(V F).classes (o:=o) (v':=v') (w1:=w1) (V az) a b c);have aL:=(V F).bel.size;clear F az ai U;subst hQ;go_wp2_with(at_builtin;refine wpList_append_own_at _ rfl (.tmp 22) (.tmp 24) 22 rfl w0.heap.size 60 i1 (.agg #[.int .i64 0,.int .i64 0,.int .i64 0,.int .i64 0,.slice none 0 0,.string ⟨#[]⟩,.string ⟨#[]⟩,.float .f64 0]) 8 96 underlying22 hj ba be bh rfl (by decide) _ _ _ rfl (V ag _) ⟨wr.heap.size+1,0,none⟩ 1 1 (encR ((⟨6,lo,hi,nn,Y,y,M,wt⟩:Rec),A,Y.length,J)) rfl rfl (V af) (V am) T7X f6J P8P ?_);intro v' w9 t ar _ T;obtain⟨ae,aj⟩:=V ab _ v' w9 t ar e0f;have G:Hid (Made w0 (w9.setCell ⟨w0.heap.size+1+1,0,none⟩ v') l (k+1)):=V u _ _ _ _ _ _ aj (Cn.x2L (by simp)).symm T7E w8r;obtain⟨bK,x,rfl,_,_⟩:=aj.hc.shape;have z0:w9.cell? ⟨w0.heap.size+1+1,0,none⟩=some (.slice s L.length Z):=cell_of (j:=0) ae T7d;have zf:=x0d (j:=0) ae;clear ag af ab t ar T ae aj u am y0;generalize(L++[((⟨6,lo,hi,nn,Y,y,M,wt⟩:Rec),A,Y.length,J)]).length=m9 at *;go_wp2
    exact m3v
   ·have q6:(r.kind==6)=false:=b0f k6;by_cases k7:r.kind=7
    ·obtain⟨bA,cD,cE⟩:=h7 k7;clear q6 h7;obtain⟨kd,lo,hi,nn,Y,y,M,wt⟩:=r;dsimp only at *;subst k7;obtain⟨SQ,I⟩:∃SQ:World->Prop,(fun W:World=>W.heap[wr.heap.size]?=some (.cells #[.int .i64 7,.int .i64 lo,.int .i64 hi,.int .i64 nn,.slice A Y.length J,.string y,.string M,.float .f64 wt] 60 (0,0))/\W.cell? ⟨w0.heap.size+1+1,2,none⟩=some (.map (some (w0.heap.size+1))))=SQ:=⟨_,rfl⟩;obtain⟨SP,aB⟩:∃SP:World->Prop,(fun W:World=>SQ W/\Hid (Bw Q W))=SP:=⟨_,rfl⟩;have aq:Hid (∀W:World,Bw Q W->NI w0 W (Cn.firstP (l.take k)) (.slice s L.length Z) (.slice P B.length D) L B):=fun W R=>(V ai).below R
     have HS:Hid (∀W:World,Bw Q W->SP W):=fun W R=>by
      rw[<- aB,<- I];exact⟨⟨(R.block _ f6J).trans (V U),cell_of (j:=2) (V aq W R).hx (by show 2<3;exact f6J)⟩,R⟩
     have aV:Hid (∀W:World,Bw w0 W->Calls prog 135 #[.agg #[.int .i64 7,.int .i64 lo,.int .i64 hi,.int .i64 nn,.slice A Y.length J,.string y,.string M,.float .f64 wt]] W (fun e w'=>e=.returned (pk2 (Y.getD 0 0) (Y.getD 1 0))/\Bw W w')):=fun W R=>x8E (⟨7,lo,hi,nn,Y,y,M,wt⟩:Rec) _ W ((V bX).below R) bA;have bG:Hid (∀W:World,Bw Q W->(Instr.lookup 166 (.map (some (w0.heap.size+1))) (pk2 (Y.getD 0 0) (Y.getD 1 0)) true).run prog W=.ok (.tuple #[.int .i64 ((Cn.firstP (l.take k) (Y.getD 0 0) (Y.getD 1 0)).getD 0),.bool (Cn.firstP (l.take k) (Y.getD 0 0) (Y.getD 1 0)).isSome]) W):=fun W R=>(look_ok (V aq W R).hm cD cE).1;have bF:Hid ((Cn.firstP (l.take k) (Y.getD 0 0) (Y.getD 1 0)).isSome=true->Cn.firstP (l.take k++[(⟨7,lo,hi,nn,Y,y,M,wt⟩:Rec)])=Cn.firstP (l.take k)):=fun h=>Cn.y0M (r:=(⟨7,lo,hi,nn,Y,y,M,wt⟩:Rec)) h
     have bJ:Hid ((Cn.firstP (l.take k) (Y.getD 0 0) (Y.getD 1 0)).isSome=false->∀W:World,Bw Q W->∃aW z,(Instr.mapUpdate 166 (.map (some (w0.heap.size+1))) (pk2 (Y.getD 0 0) (Y.getD 1 0)) (.int .i64 (k:Int))).run prog W=.ok () (setBlock W (w0.heap.size+1) (.map aW z))/\NI w0 (setBlock W (w0.heap.size+1) (.map aW z)) (Cn.firstP (l.take k++[(⟨7,lo,hi,nn,Y,y,M,wt⟩:Rec)])) (.slice s L.length Z) (.slice P B.length D) L B):=fun h W R=>by
      have hn:Cn.firstP (l.take k) (Y.getD 0 0) (Y.getD 1 0)=none:=(by simpa using h);obtain⟨aW,cV,g1,g2⟩:=y6K (V aq W R).hm cD cE hn (k:Int);have cL:=(V aq W R).upd g2;have e5:=Cn.y5K (r:=(⟨7,lo,hi,nn,Y,y,M,wt⟩:Rec)) (l:=l.take k) rfl hn;rw[cJ]at e5;refine⟨aW,cV,g1,?_⟩;rw[e5];exact cL
     have aU:Hid (∀W:World,Bw Q W->Bw w0 W):=fun W R=>(V aq W R).bel;clear U bX bA cJ;generalize(Cn.firstP (l.take k) (Y.getD 0 0) (Y.getD 1 0)).getD 0=zf,(Cn.firstP (l.take k) (Y.getD 0 0) (Y.getD 1 0)).isSome=kn at *;generalize Y.getD 0 0=pa,Y.getD 1 0=pb at *;unfold pk2 at *;have aM:Bw Q Q.drew:=x0i ⟨1,rfl⟩;have E:=O (V HS _ aM);have ce:=O (V aV _ (V aU _ aM));subst hQ;go_wp2;refine wp_region_held_drew (S:=fun w'=>SP w') f4B (V E) (fun hHeld=>?_);refine tk9 0 (.pointer (some ⟨w0.heap.size+1+1,2,none⟩)) ?_ (hy:=I4K);refine tk9 1 (.map (some (w0.heap.size+1))) ?_ (hy:=I4K);refine tk9 2 (.agg #[.int .i64 7,.int .i64 lo,.int .i64 hi,.int .i64 nn,.slice A Y.length J,.string y,.string M,.float .f64 wt]) ?_ (hy:=I4K);refine rd9 3 fun K hK=>?_;go_simp;refine c0m ce fun W2 aX=>?_;have d:=bthen aM aX;have bC:=O (V HS W2 d);refine hK.out _ _ ?_ (fun hHeld=>?_)
     ·exact V bC
     clear hK K
     try simp only[Act.put,sa9,sb9,sc9]
     refine tk9 4 (.tuple #[.int .i64 zf,.bool kn]) ?_ (hy:=by(intro w hSw;obtain⟨hS,s9⟩:=(congrFun aB _).mpr hSw;obtain⟨sb,s8⟩:=(congrFun I _).mpr hS;obtain⟨s0,s1,s2,s3,s4,s5,s6,s7⟩:=cells8 sb;have dw:=V bG w (V s9);go_simp));refine tk9 5 (.tuple #[.int .i64 zf,.bool kn]) ?_;refine tk9 6 (.int .i64 zf) ?_;refine tk9 7 (.bool kn) ?_;refine tk9 8 (.int .i64 zf) ?_;refine tk9 9 (.bool kn) ?_;refine wpAnyH_done f4B ?_ _;obtain⟨tb,t8⟩:=(congrFun I _).mpr ((congrFun aB _).mpr (V bC)).1;obtain⟨t0,t1,t2,t3,t4,t5,t6,t7⟩:=cells8 tb;clear bC E ce hHeld;cases kn
     ·obtain cK:=V bJ rfl;have aY:=bthen d (x0i ⟨1,rfl⟩);have E:=O ((congrFun aB _).mpr (V HS _ aY)).1;have cf:=O (V aV _ (V aU _ aY));have bn:=O cK;clear cK;go_wp2;refine wp_region_held_drew (S:=fun w'=>SQ w') f4B (V E) (fun hHeld=>?_);refine tk9 0 (.pointer (some ⟨w0.heap.size+1+1,2,none⟩)) ?_ (hy:=t4s);refine tk9 1 (.map (some (w0.heap.size+1))) ?_ (hy:=t4s);refine tk9 2 (.agg #[.int .i64 7,.int .i64 lo,.int .i64 hi,.int .i64 nn,.slice A Y.length J,.string y,.string M,.float .f64 wt]) ?_ (hy:=t4s);refine tk9 4 (.int .i64 (k:Int)) ?_;refine rd9 3 fun K hK=>?_;go_simp;refine c0m cf fun W3 cW=>?_;have bL:=bthen aY cW;obtain⟨cj,ci,de,bw⟩:=V bn W3 bL;have bm:=O bw;have bD:=O ((congrFun aB _).mpr (V HS _ bL)).1
      have bE:Hid (SQ (setBlock W3 (w0.heap.size+1) (.map cj ci))):=by
       have da:=x0D (V ai).hx;rw[aC]at da;obtain⟨sb,s8⟩:=(congrFun I _).mpr (V bD);rw[<- I];exact⟨(x1F _ _ f6J).trans sb,y7Q _ f6J s8⟩
      clear bw;refine hK.out _ _ ?_ (fun hHeld=>?_)
      ·exact V bD
      clear hK K
      try simp only[Act.put,sa9,sb9,sc9]
      refine rd9 5 fun K hK=>?_;go_simp;refine hK.out _ _ ?_ (fun hHeld=>?_)
      ·exact V bE
      clear hK K
      try simp only[Act.put,sa9,sb9,sc9]
      refine wpAnyH_done f4B ?_ _;obtain⟨ub,u8⟩:=(congrFun I _).mpr (V bE);obtain⟨u0,u1,u2,u3,u4,u5,u6,u7⟩:=cells8 ub;have F:=bm;clear ub tb bE bD E cf hHeld bn bJ bF bG HS aq aV aU t0 t1 t2 t3 t4 t5 t6 t7 t8 bm de bL aY d aM;generalize setBlock W3 (w0.heap.size+1) (.map cj ci)=W5 at *;have y0:W5.cell? ⟨w0.heap.size+1+1,1,none⟩=some (.slice P B.length D):=cell_of (j:=1) (V F).hx f2R;have ag:Hid (∀o,(W5.alloc o).ownsRow w0.heap.size 60 8 (.slice P B.length D) B.length (B.flatMap encR)):=fun o=>(V F).ho.1.alloc o;have af:=O (x2R W5 (⟨7,lo,hi,nn,Y,y,M,wt⟩:Rec) A J (W5.heap.size) T6N);have ab:=O (fun o v' w1 a b c=>(V F).opens (o:=o) (v':=v') (w1:=w1) (V az) a b c);have aL:=(V F).bel.size;clear F az ai;go_wp2_with(at_builtin;refine wpList_append_own_at _ rfl (.tmp 45) (.tmp 47) 22 rfl w0.heap.size 60 i1 (.agg #[.int .i64 0,.int .i64 0,.int .i64 0,.int .i64 0,.slice none 0 0,.string ⟨#[]⟩,.string ⟨#[]⟩,.float .f64 0]) 8 96 underlying22 hj ba be bh rfl (by decide) _ _ _ rfl (V ag _) ⟨W5.heap.size,0,none⟩ 1 1 (encR ((⟨7,lo,hi,nn,Y,y,M,wt⟩:Rec),A,Y.length,J)) rfl rfl (V af) (V am) T7X f6J P8P ?_);intro v' w9 t ar _ T;obtain⟨ae,aj⟩:=V ab _ v' w9 t ar e0f;have G:Hid (Made w0 (w9.setCell ⟨w0.heap.size+1+1,1,none⟩ v') l (k+1)):=V u _ _ _ _ _ _ aj rfl T7E w8r;obtain⟨bK,x,rfl,_,_⟩:=aj.ho.shape;have z0:w9.cell? ⟨w0.heap.size+1+1,1,none⟩=some (.slice P B.length D):=cell_of (j:=1) ae f2R;have zf:=x0d (j:=1) ae;clear ag af ab t ar T ae aj u am y0;generalize(B++[((⟨7,lo,hi,nn,Y,y,M,wt⟩:Rec),A,Y.length,J)]).length=m9 at *;go_wp2
      exact m3v
     ·have cY:=V bF rfl;have F:=O (V aq W2 d);clear tb bJ bF bG HS aq aV aU d aM;have y0:W2.cell? ⟨w0.heap.size+1+1,1,none⟩=some (.slice P B.length D):=cell_of (j:=1) (V F).hx f2R;have ag:Hid (∀o,(W2.alloc o).ownsRow w0.heap.size 60 8 (.slice P B.length D) B.length (B.flatMap encR)):=fun o=>(V F).ho.1.alloc o;have af:=O (x2R W2 (⟨7,lo,hi,nn,Y,y,M,wt⟩:Rec) A J (W2.heap.size) T6N);have ab:=O (fun o v' w1 a b c=>(V F).opens (o:=o) (v':=v') (w1:=w1) (V az) a b c);have aL:=(V F).bel.size;clear F az ai;go_wp2_with(at_builtin;refine wpList_append_own_at _ rfl (.tmp 45) (.tmp 47) 22 rfl w0.heap.size 60 i1 (.agg #[.int .i64 0,.int .i64 0,.int .i64 0,.int .i64 0,.slice none 0 0,.string ⟨#[]⟩,.string ⟨#[]⟩,.float .f64 0]) 8 96 underlying22 hj ba be bh rfl (by decide) _ _ _ rfl (V ag _) ⟨W2.heap.size,0,none⟩ 1 1 (encR ((⟨7,lo,hi,nn,Y,y,M,wt⟩:Rec),A,Y.length,J)) rfl rfl (V af) (V am) T7X f6J P8P ?_);intro v' w9 t ar _ T;obtain⟨ae,aj⟩:=V ab _ v' w9 t ar e0f;have G:Hid (Made w0 (w9.setCell ⟨w0.heap.size+1+1,1,none⟩ v') l (k+1)):=V u _ _ _ _ _ _ aj cY.symm T7E w8r;obtain⟨bK,x,rfl,_,_⟩:=aj.ho.shape;have z0:w9.cell? ⟨w0.heap.size+1+1,1,none⟩=some (.slice P B.length D):=cell_of (j:=1) ae f2R;have zf:=x0d (j:=1) ae;clear ag af ab t ar T ae aj u am y0;generalize(B++[((⟨7,lo,hi,nn,Y,y,M,wt⟩:Rec),A,Y.length,J)]).length=m9 at *;go_wp2
      exact m3v
    ·have q7:(r.kind==7)=false:=b0f k7;clear h7;by_cases k8:r.kind=8
     ·have F:=ai;clear q6 q7;obtain⟨kd,lo,hi,nn,Y,y,M,wt⟩:=r;dsimp only at *;subst k8;have y0:Q.cell? ⟨w0.heap.size+1+1,1,none⟩=some (.slice P B.length D):=cell_of (j:=1) (V F).hx f2R;have ag:Hid (∀o,(Q.alloc o).ownsRow w0.heap.size 60 8 (.slice P B.length D) B.length (B.flatMap encR)):=fun o=>(V F).ho.1.alloc o;have af:=O (x2R Q (⟨8,lo,hi,nn,Y,y,M,wt⟩:Rec) A J (wr.heap.size+1) T6N);have ab:=O (fun o v' w1 a b c=>(V F).opens (o:=o) (v':=v') (w1:=w1) (V az) a b c);have aL:=(V F).bel.size;clear F az ai U;subst hQ;go_wp2_with(at_builtin;refine wpList_append_own_at _ rfl (.tmp 53) (.tmp 55) 22 rfl w0.heap.size 60 i1 (.agg #[.int .i64 0,.int .i64 0,.int .i64 0,.int .i64 0,.slice none 0 0,.string ⟨#[]⟩,.string ⟨#[]⟩,.float .f64 0]) 8 96 underlying22 hj ba be bh rfl (by decide) _ _ _ rfl (V ag _) ⟨wr.heap.size+1,0,none⟩ 1 1 (encR ((⟨8,lo,hi,nn,Y,y,M,wt⟩:Rec),A,Y.length,J)) rfl rfl (V af) (V am) T7X f6J P8P ?_);intro v' w9 t ar _ T;obtain⟨ae,aj⟩:=V ab _ v' w9 t ar e0f;have G:Hid (Made w0 (w9.setCell ⟨w0.heap.size+1+1,1,none⟩ v') l (k+1)):=V u _ _ _ _ _ _ aj (Cn.x2L (by simp)).symm T7E w8r;obtain⟨bK,x,rfl,_,_⟩:=aj.ho.shape;have z0:w9.cell? ⟨w0.heap.size+1+1,1,none⟩=some (.slice P B.length D):=cell_of (j:=1) ae f2R;have zf:=x0d (j:=1) ae;clear ag af ab t ar T ae aj u am y0;generalize(B++[((⟨8,lo,hi,nn,Y,y,M,wt⟩:Rec),A,Y.length,J)]).length=m9 at *;go_wp2
      exact m3v
     ·have q8:(r.kind==8)=false:=b0f k8;have G:Hid (Made w0 Q l (k+1)):=V u _ _ _ _ L B (V ai) (Cn.x2L f6J).symm (by simp[is6,k6]) (by simp[is78,k7,k8]);clear u ai az am U;subst hQ;go_wp2
      exact m3v
  ·obtain rfl:k=l.length:=f6J;obtain⟨cv,ov,L,B,H,e1,e2⟩:=V N;obtain⟨cX,db⟩:=y4u e1 e2 hl;rw[List.take_length]at H e1 e2;have K1:=O (y4O w0 wr cv L H.hc f6J);obtain⟨s,Z,rfl,_,_⟩:=H.hc.shape;obtain⟨P,D,rfl,_,_⟩:=H.ho.shape;have y0:wr.cell? ⟨w0.heap.size+1+1,0,none⟩=some (.slice s L.length Z):=cell_of (j:=0) H.hx T7d;have aN:=H.far H.hc;have bp:∀g,(Value.slice s L.length Z).ownBlock=some g->g<wr.heap.size:=fun g C=>(H.hc.1.lt g C).2;have aR:=O aN;have cR:=O bp;clear aN bp;have aS:=O (H.far H.ho);have aK:=O H;clear N X aD bI bH HV bj H;go_wp2_with fail;refine(V K1).mono ?_;rintro e w1 ⟨rfl,bS,cB,aC,cM,aF⟩;have H:=V aK;have k1:∀g,g<wr.heap.size->(Value.slice s L.length Z).ownBlock≠some g->w1.heap[g]?=wr.heap[g]?:=fun g a b=>aF.block g a (fun e=>b e.symm);have aJ:w1.heap[w0.heap.size+2]?=some (.cells #[.slice s L.length Z,.slice P B.length D,.map (some (w0.heap.size+1))] 168 (0,0)):=(by rw[k1 _ (x0D H.hx) (fun e=>(V aR _ e).2.2 rfl)];exact H.hx);have aQ:w1.heap[w0.heap.size]?=some (.cells #[.slice none 0 0,.slice none 0 0,.map none] 168 (0,0)):=(by rw[k1 _ (x0D H.hr) (fun e=>(V aR _ e).1 rfl)];exact H.hr);obtain⟨es,cl,hm,cZ⟩:=H.hm;have aP:w1.heap[w0.heap.size+1]?=some (.map es cl):=(by rw[k1 _ (x0D hm) (fun e=>(V aR _ e).2.1 rfl)];exact hm);have bO:Rsh w0 w1 (.slice P B.length D) B:=H.ho.keep fun g C=>k1 g (H.ho.1.lt g C).2 (fun e=>H.ap g e C);have bM:Bw w0 w1:=H.bel.trans ⟨aF.os,aF.tape,aF.output,aF.size,fun g C=>k1 g (by have:=H.bel.size;exact f6J) (fun e=>by have:=(H.hc.1.lt g e).1;exact f6J)⟩;have K2:=O (y4O w0 w1 _ B bO f6J);have y1:w1.cell? ⟨w0.heap.size+1+1,1,none⟩=some (.slice P B.length D):=cell_of (j:=1) aJ f2R;have cw:=H.ap;have cd:=O cM;have bU:=O cB;have bY:=O aC;have bT:=O cw;have cH:=aF.size;clear K1 y0 cB aC cM aF k1 hm H aK cw;go_wp2_with fail;refine(V K2).mono ?_;rintro e w2 ⟨rfl,cO,cC,cG,cN,aG⟩;have k2:∀g,g<w1.heap.size->(Value.slice P B.length D).ownBlock≠some g->w2.heap[g]?=w1.heap[g]?:=fun g a b=>aG.block g a (fun e=>b e.symm);have bB:w2.heap[w0.heap.size+2]?=some (.cells #[.slice s L.length Z,.slice P B.length D,.map (some (w0.heap.size+1))] 168 (0,0)):=(by rw[k2 _ (x0D aJ) (fun e=>(V aS _ e).2.2 rfl)];exact aJ);have aw:w2.heap[w0.heap.size]?=some (.cells #[.slice none 0 0,.slice none 0 0,.map none] 168 (0,0)):=(by rw[k2 _ (x0D aQ) (fun e=>(V aS _ e).1 rfl)];exact aQ);have bu:w2.heap[w0.heap.size+1]?=some (.map es cl):=(by rw[k2 _ (x0D aP) (fun e=>(V aS _ e).2.1 rfl)];exact aP);have aX:Bw w0 w2:=bM.trans ⟨aG.os,aG.tape,aG.output,aG.size,fun g C=>k2 g (by have:=bM.size;exact f6J) (fun e=>by have:=(bO.1.lt g e).1;exact f6J)⟩;have cz:Rsx w0 w2 (.slice s L.length Z) bS:=(V cd).keep aG.size fun g C=>k2 g (by have:=V cR g C;have:=cH;exact f6J) (fun e=>V bT g C e);obtain⟨z0,z1,z2⟩:=cells3 bB;obtain⟨r0,r1,r2⟩:=cells3 aw;have f0:=x0d (j:=0) aw;have f1:=x0d (j:=1) aw;have f2:=x0d (j:=2) aw;have cU:=O cN;have cQ:=O cz;have bV:=O cC;have bZ:=O cG;have cP:=O aX;have cS:=O aw;have G:=O bu;clear K2 y1 k2 aJ aQ aP aG cd bT bO bM cN cz cC cG aX aw bu bB;go_wp2;obtain⟨w9,h9,g3,aZ,bQ,ae⟩:=set3 (.slice s L.length Z) (.slice P B.length D) (.map (some (w0.heap.size+1))) (V cS);rw[h9];obtain⟨c0,c1,c2⟩:=cells3 g3;replace ae:=ae _ _ (l0r _) (V cP);have a1:=(V cQ).keep bQ (fun g C=>aZ g (V aR g C).1);have a2:=(V cU).keep bQ (fun g C=>aZ g (V aS g C).1);have l1:bS.length<=1000000000:=(by have:=(V bU).length_eq;exact f6J);have l2:cO.length<=1000000000:=(by have:=(V bV).length_eq;exact f6J);obtain⟨o1,m1⟩:=Cn.x3v (f:=2) (.inl rfl) (cs:=bS.map (·.1)) (p:=is6) (V aT) (fun r=>⟨fun h=>by rw[o0d h];decide,fun h=>d0t (Cn.y8F h)⟩) (e1 ▸ (V bU).map _) (List.pairwise_map.2 (V bY));obtain⟨o2,m2⟩:=Cn.x3v (f:=3) (.inr rfl) (cs:=cO.map (·.1)) (p:=is78) (V aT) (fun r=>⟨fun h=>by rcases o0d h with e | e<;>(rw[e];decide),fun h=>d0t (Cn.fam_three' h)⟩) (e2 ▸ (V bV).map _) (List.pairwise_map.2 (V bZ));have HF:y7j w0 l (.returned (.agg #[.slice s L.length Z,.slice P B.length D,.map (some (w0.heap.size+1))])) w9:=⟨_,_,_,_,rfl,⟨a1.rcs ae l1,a2.rcs ae l2,o1,o2,m1,m2,V aT⟩,⟨es,cl,by rw[aZ _ f6J];exact V G,cZ⟩,ae⟩;clear a1 a2 o1 o2 m1 m2 g3 aZ ae bQ h9;refine bodyPost_ret (show _=Result.ok (.agg #[.slice s L.length Z,.slice P B.length D,.map (some (w0.heap.size+1))]) w9 by simp[results,Tryz.results91,go_sem,c0,c1,c2]) rfl ?_;exact HF
open Ti
namespace Cn
theorem y5I{f}{rs:List Rec}{k}(G:k<rs.length):famOf f (rs.take (k+1))=famOf f (rs.take k)++(if fam (rs.getD k none).kind=f then[rs.getD k none]else[]):=by
 have e:rs.take (k+1)=rs.take k++[rs.getD k none]:=f0h;rw[e];unfold famOf;rw[List.filter_append];congr 1;generalize rs.getD k none=x;by_cases h:fam x.kind=f
 ·grind
 ·grind
end Cn
def FamB(w:World)(rs:List Rec)(f:Int)(e:Ending)(w':World):Prop:=∃v xs,e=.returned v/\xs.map (·.1)=Cn.famOf f rs/\Rsh w w' v xs/\Below w.heap.size w w'
theorem Rsh.lowerB{w0 w w' v}{xs:List Sp}(h:Rsh w0 w v xs)(Y:Bw w w'):Rsh w0 w' v xs:=⟨x8L h.1 Y,h.2⟩
theorem x5w v rs kind w(hg:Glob w)(N:Rcs w v rs)(G:I64 kind):Calls prog 144 #[v,.int .i64 kind] w (FamB w rs (Cn.fam kind)):=by
 obtain⟨i1,hj,aD,aF,aG⟩:=info_parts Tryz.info60;have d:=N.1;have KF:Hid (∀W c,Bw w W->I64 c->Calls prog 143 #[.int .i64 c] W (IntB W (Cn.fam c))):=fun W c h hc=>x1g c W (hg.on h) hc
 have D:Hid (∀k,k<rs.length->∃b P M,v=.slice (some ⟨b,P,none⟩) rs.length M/\RecAt w b (P+k*8) (rs.getD k Cn.none)/\RecFit (rs.getD k Cn.none)):=fun k G=>by
  obtain⟨b,P,M,q,_,_,hc⟩:=N.place f6J;exact⟨b,P,M,q,hc k G,N.fit G⟩
 have ar:Hid (∀k,k<rs.length->Cn.famOf (Cn.fam kind) (rs.take (k+1))=Cn.famOf (Cn.fam kind) (rs.take k)++(if Cn.fam (rs.getD k Cn.none).kind=Cn.fam kind then[rs.getD k Cn.none]else[])):=fun k G=>Cn.y5I G;obtain⟨ao,M,aC,_,_⟩:=N.shape;obtain⟨aH,aI⟩:=G;have aw:Hid (∀W,Bw w W->Calls prog 143 #[.int .i64 kind] W (IntB W (Cn.fam kind))):=fun W h=>V KF W kind h ⟨aH,aI⟩;subst aC;generalize Cn.fam kind=f at *;go_enter func144,ntmps144;go_wp2;go_loopw[5,7,10] (fun ov _ Z wr=>∃k:Nat,Z=.int .i64 k/\k<=rs.length/\∃X,X.map (·.1)=Cn.famOf f (rs.take k)/\X.length<=k/\Rsh w wr ov X/\Bw w wr) (fun _ _ Z _=>rs.length-(intOf Z).toNat)
 case atStart=>exact⟨0,rfl,f6J,[],rfl,M7N,⟨World.ownsRow_nil _ _ _ _,fun x hx=>by cases hx⟩,b0r⟩
 case round =>
  obtain⟨k,rfl,G,X,C,aO,L,T⟩:=hrel;by_cases E:k<rs.length
  ·obtain⟨b,P,aJ,q,hA,s⟩:=V D k E;obtain⟨e1,e2,e3⟩:=Value.slice.inj q;subst e1;have aL:=O (V ar k E);obtain⟨y0,y1,y2,y3,⟨va,y4,t⟩,y5,y6,y7⟩:=hA;obtain⟨A,J,rfl,_,_⟩:=t.shape;have hold:∀j u,w.cell? ⟨b,P+k*8+j,none⟩=some u->wr.cell? ⟨b,P+k*8+j,none⟩=some u:=fun j u h=>I3R;have x0:wr.cell? ⟨b,P+k*8,none⟩=_:=hold 0 _ y0;have x1:=hold 1 _ y1;have x2:=hold 2 _ y2;have x3:=hold 3 _ y3;have x4:=hold 4 _ y4;have x5:=hold 5 _ y5;have x6:=hold 6 _ y6;have x7:=hold 7 _ y7;have aq:Hid (Sk .i32 w (sval (rs.getD k Cn.none,A,(rs.getD k Cn.none).to.length,J)) (rs.getD k Cn.none).to/\RecFit (rs.getD k Cn.none)):=⟨t,s⟩;have aB:=s.kind;generalize rs.getD k Cn.none=r at *;have aN:∀W a m,(store a (.float .f64 r.wt) m).run prog W=stored prog W a (.float .f64 r.wt) m:=fun W a m=>run_store prog W a _ m rfl;obtain⟨W1,aM,Y,F⟩:=x0J wr r.kind r.lo r.hi r.n (.slice A r.to.length J) r.name r.other r.wt;have K1:=O (V KF W1 r.kind (bthen T F) aB);have U:=O Y;obtain⟨z0,z1,z2,z3,z4,z5,z6,z7⟩:=Y;have l:=O (bthen T F);have S:=O (L.lowerB F);have ag:Hid (∀W:World,∀j u,(encR (r,A,r.to.length,J))[j]?=some u->(W.alloc (.cells #[.int .i64 r.kind,.int .i64 r.lo,.int .i64 r.hi,.int .i64 r.n,.slice A r.to.length J,.string r.name,.string r.other,.float .f64 r.wt] 60)).cell? ((⟨W.heap.size,0,none⟩:Addr).add j)=some u):=fun W=>x2R W r A J W.heap.size rfl;have ai:=O (x9h (r,A,r.to.length,J));go_wp2_with fail;refine c0m K1 fun w2 H=>?_;have af:=O (bthen (V l) H);have am:=O ((V S).lowerB H);have Q:=O ((V U).keep H);have K2:=O (V aw w2 (V af));go_wp2_with fail;refine c0m K2 fun w3 ab=>?_;have p:=bthen (V af) ab;have K:=(V am).lowerB ab;obtain⟨z0,z1,z2,z3,z4,z5,z6,z7⟩:=(V Q).keep ab;generalize Cn.fam r.kind=fk at *;by_cases z:fk=f
   ·subst z;have I:Hid ((X++[(r,A,r.to.length,J)]).map (·.1)=Cn.famOf fk (rs.take (k+1))):=by grind
    have B:Hid (∀v' w9 o,w9.ownsRow w.heap.size 60 8 v' (X.length+1) (X.flatMap encR++encR (r,A,r.to.length,J))->(w3.alloc o).grownBy w9 u5.ownBlock->Rsh w w9 v' (X++[(r,A,r.to.length,J)])/\Bw w w9):=fun v' w9 o ae i=>by
     have ha:=p.alloc p.size o;refine⟨⟨by simpa using ae,fun y hy=>?_⟩,ha.grown i ha.size (fun g hg=>(K.1.lt g hg).1)⟩;rcases List.mem_append.1 hy with hy | hy
     ·exact K.2 y hy
     ·simp only[List.mem_singleton]at hy;subst hy;exact V aq
    have aj:Hid (∀o,(w3.alloc o).ownsRow w.heap.size 60 8 u5 X.length (X.flatMap encR)):=fun o=>K.1.alloc o;have aK:=p.size;have R:=O (V ag w3);go_wp2_with(at_builtin;refine wpList_append_own _ rfl (.tmp 20) (.tmp 22) 22 rfl w.heap.size 60 i1 (.agg #[.int .i64 0,.int .i64 0,.int .i64 0,.int .i64 0,.slice none 0 0,.string ⟨#[]⟩,.string ⟨#[]⟩,.float .f64 0]) 8 96 underlying22 hj aD aF aG rfl e8Q _ _ _ rfl (V aj _) ⟨w3.heap.size,0,none⟩ 1 1 (encR (r,A,r.to.length,J)) rfl rfl (V R) (V ai) T7X f6J P8P ?_);intro v' w9 ae i _;obtain⟨aA,az⟩:=V B v' w9 _ ae i;go_wp2
    go_roundw
    case rel=>exact⟨k+1,g2D,f6J,_,V I,P8P,aA,az⟩
    case measure=>exact g7W
   ·have df:(fk==f)=false:=b0f z;have I:Hid (X.map (·.1)=Cn.famOf f (rs.take (k+1))):=(by grind);go_wp2
    go_roundw
    case rel=>exact⟨k+1,g2D,f6J,X,V I,f6J,K,p⟩
    case measure=>exact g7W
  ·obtain rfl:k=rs.length:=f6J;rw[List.take_of_length_le (l0r _)]at C;have HF:Hid (FamB w rs f (.returned u5) wr):=⟨u5,X,rfl,C,L,T⟩;exact I7o
def isNaNB(b:Nat):Bool:=FloatKind.f64.format.order b b != some Ordering.eq
theorem y7a b w:Calls prog 199 #[.float .f64 b] w fun e w'=>e=.returned (.bool (isNaNB b))/\w'=w:=by
 go_enter func199,ntmps199;exact t6u
theorem z1z n w:(callFunc 249 #[.int .u64 n]).run prog w=.ok (.value (.float .f64 n.toNat)) w:=by
 rw[run_callFunc_extern (e:=Extern.MathFloatBits.float64frombits) func249 f4x f4x f4x f4x];rfl
theorem y7b n w:Calls prog 200 #[.int .u64 n] w fun e w'=>e=.returned (.float .f64 n.toNat)/\w'=w:=by
 have h:=z1z n;go_enter func200,ntmps200;exact t6u
theorem to32 b w:∃u n,(convert 58 278 (.float .f64 b)).run prog w=.ok (.float .f32 u) (w.drewN n):=by
 have L:=underlying58;have hd:=underlying278
 have S:∃u n,(Conv.floatToFloat .f64 b .f32).run prog w=.ok (.float .f32 u) (w.drewN n):=n1o
 exact r1a
theorem to64 b w:∃u n,(convert 278 58 (.float .f32 b)).run prog w=.ok (.float .f64 u) (w.drewN n):=by
 have L:=underlying278;have hd:=underlying58
 have S:∃u n,(Conv.floatToFloat .f32 b .f64).run prog w=.ok (.float .f64 u) (w.drewN n):=n1o
 exact r1a
theorem y2R b w:Calls prog 149 #[.float .f64 b] w fun e w'=>∃u n,e=.returned (.float .f64 u)/\w'=w.drewN n:=by
 have i:=O (y7a b w);have j:=O (fun w=>y7b 9221120237041090560 w);obtain⟨u1,T,Z⟩:=to32 b w;obtain⟨u2,a,D⟩:=to64 u1 (w.drewN T);generalize isNaNB b=t at *
 cases t with
 | true =>
  go_enter func149,ntmps149;go_wp2_with fail;refine(V i).mono ?_;rintro e w ⟨rfl,rfl⟩;go_wp2_with fail;refine(V j _).mono ?_;rintro e w ⟨rfl,rfl⟩;go_wp2;go_ret;exact⟨_,0,rfl,rfl⟩
 | false =>
  go_enter func149,ntmps149;go_wp2_with fail;refine(V i).mono ?_;rintro e w ⟨rfl,rfl⟩;go_wp2;go_ret;exact⟨_,T+a,rfl,by first| rfl|(simp[World.drewN];omega)⟩
end Go.Proofs.YtkfcabdmkmljjaaGreatDoor
namespace Go.Proofs.YtkfcabdmkmljjaaGreatDoor.Cn
open Go.Proofs.Tryz
def bad7(l:List Rec)(i:Nat)(r:Rec):Bool:=decide ((firstP l (r.to.getD 0 0) (r.to.getD 1 0)).getD 0<(i:Int))||wpair l r.lo (r.to.getD 0 0) (r.to.getD 1 0)
theorem x6i l i r:record l i r=if fam r.kind≠2/\fam r.kind≠3 then 0
 else if covers r 0 127 then 70
 else if touches r=true then 71
 else if r.kind=7/\makes (r.to.getD 0 0) (r.to.getD 1 0)=true then 71
 else if fam r.kind=2 then 0
 else if(full l r.lo).2≠0 then(full l r.lo).2
 else if fallsA l (full l r.lo).1 then 75
 else if r.kind=7/\pair l i r=false then 74
 else 0:=rfl
theorem y3c{l i r}(y:r.kind≠6)(x:r.kind≠7)(n:r.kind≠8):record l i r=0:=by
 rw[x6i];rw[if_pos ⟨fun h=>y (y8F h),fun h=>by rcases fam_three' h with e | e<;>contradiction⟩]
theorem y6A{l i r}(hr:right r=0)(G:r.kind=6\/r.kind=7\/r.kind=8)(S:r.lo<128):record l i r=70:=by
 have z:fam r.kind=2\/fam r.kind=3:=e7r;have X:r.kind≠15:=f6J;have L:=x0p hr X;rw[x6i];rw[if_neg (fun h=>f6J),if_pos (show covers r 0 127=true from d0t ⟨f6J,f6J⟩)]
theorem x2r{l i r}(G:r.kind=6\/r.kind=7\/r.kind=8)(S:¬r.lo<128)(p:(touches r||(decide (r.kind=7)&&makes (r.to.getD 0 0) (r.to.getD 1 0)))=true):record l i r=71:=by
 have z:fam r.kind=2\/fam r.kind=3:=e7r;rw[x6i];rw[if_neg (fun h=>f6J),if_neg (show ¬covers r 0 127=true from fun h=>by have:=o0d h;exact f6J)];by_cases Z:touches r=true
 ·rw[if_pos Z]
 ·grind
theorem x3K{l i r}(G:r.kind=6\/r.kind=7\/r.kind=8)(S:¬r.lo<128)(p:(touches r||(decide (r.kind=7)&&makes (r.to.getD 0 0) (r.to.getD 1 0)))=false) :
  record l i r=if r.kind=6 then 0 else if wfull l r.lo≠0 then wfull l r.lo else if r.kind=7/\pair l i r=false then 74 else 0:=by
 have z:fam r.kind=2\/fam r.kind=3:=(by rcases G with e | e | e<;>(rw[e];decide));rw[Bool.or_eq_false_iff]at p;rw[x6i];rw[if_neg (fun h=>f6J),if_neg (show ¬covers r 0 127=true from fun h=>by have:=o0d h;exact f6J),if_neg (show ¬touches r=true by rw[p.1];exact M7M)]
 rw[if_neg (fun h=>by
  have h2:=p.2;rw[Bool.and_eq_false_iff]at h2;rcases h2 with h2 | h2
  ·grind
  ·have J:makes (r.to.getD 0 0) (r.to.getD 1 0)=true:=h.2
   rw[h2]at J;cases J)]
 rcases G with e | e | e
 ·rw[e,if_pos (e8N:fam 6=2),if_pos rfl]
 ·rw[if_neg (show ¬fam r.kind=2 by rw[e];exact e8N),if_neg (f6J:¬r.kind=6)];unfold wfull;by_cases Z:(full l r.lo).2≠0
  ·omega
  ·grind
 ·rw[if_neg (show ¬fam r.kind=2 by rw[e];exact e8N),if_neg (f6J:¬r.kind=6)];unfold wfull;by_cases Z:(full l r.lo).2≠0
  ·rw[if_pos Z,if_pos Z,if_pos Z]
  ·grind
theorem z3R{l i}(hi:i<l.length)(x:(l.getD i none).kind=7):pair l i (l.getD i none)=!bad7 l i (l.getD i none):=by
 rw[pair_w];unfold bad7;have h:=y8K hi x;cases hA:(l.take i).any fun k=>decide (k.kind=7/\k.to.getD 0 0=(l.getD i none).to.getD 0 0/\k.to.getD 1 0=(l.getD i none).to.getD 1 0)
 ·grind
 ·grind
end Go.Proofs.YtkfcabdmkmljjaaGreatDoor.Cn
namespace Go.Proofs.YtkfcabdmkmljjaaGreatDoor
open Go.Proofs.Tryz
open Go.RowKit
theorem z1N cao oao tao(cl B E C D J o i:Nat) kd lo hi nn tz nm ot wt w(R:kd≠6)(A:kd≠7)(X:kd≠8) :
  Calls prog 92 #[xV (.slice cao cl B) (.slice oao E C) (.map (some o)),.int .i64 (i:Int),recV ⟨kd,lo,hi,nn,tz,nm,ot,wt⟩ (.slice tao D J)] w (IntB w 0):=by
 have T:(kd==6)=false:=b0f R;have F:(kd != 6)=true:=(by simp[R]);have c:(kd==7)=false:=b0f A;have Q:(kd==8)=false:=b0f X;have U:IntB w 0 (.returned (.int .i64 0)) ((w.alloc (.cells #[.slice cao cl B,.slice oao E C,.map (some o)] 168)).alloc (.cells #[.int .i64 kd,.int .i64 lo,.int .i64 hi,.int .i64 nn,.slice tao D J,.string nm,.string ot,.float .f64 wt] 60)):=⟨rfl,((b0r).alloc (l0r _) _).alloc M7K _⟩;unfold xV recV;go_enter func92,ntmps92;go_wp2;go_ret;exact U
theorem z4I cao oao tao(cl B E C D J o i:Nat) kd lo hi nn tz nm ot wt w(G:kd=6\/kd=7\/kd=8)(S:lo<128) :
  Calls prog 92 #[xV (.slice cao cl B) (.slice oao E C) (.map (some o)),.int .i64 (i:Int),recV ⟨kd,lo,hi,nn,tz,nm,ot,wt⟩ (.slice tao D J)] w (IntB w 70):=by
 unfold xV recV;rcases G with rfl | rfl | rfl
 all_goals
  have U:∀W,Bw w W->IntB w 70 (.returned (.int .i64 70)) W:=fun W h=>⟨rfl,h⟩;go_enter func92,ntmps92;go_wp2;go_ret;exact U _ (((b0r).alloc (l0r _) _).alloc M7K _)
