/- Lemmas. -/
import Derived.Test.YtkfcabdmkmljjaaGreatDoorG8
import Derived.Test.YtkfcabdmkmljjaaGreatDoorG15
import Derived.Test.YtkfcabdmkmljjaaGreatDoorG18
import Derived.Laws.Externs
import Derived.Laws.FloatArith
set_option maxHeartbeats 16000000
set_option maxRecDepth 20000
namespace Go.Proofs.YtkfcabdmkmljjaaGreatDoor
open Go.Proofs.Tryz
open Go.RowKit Go.MapKept Go.WideMaps
open Go.ChangeMaps (setBlock)
section
variable{p:Prop}
theorem n1o(h:p:=by
 unfold Conv.floatToFloat;rw[if_neg e8M];split
 ·exact t5f
 ·exact⟨_,0,rfl⟩
 ·dsimp only;split
  ·exact t5f
  ·exact⟨_,0,rfl⟩):p:=h
theorem e7r(h:p:=by rcases G with e | e | e<;>(rw[e];decide)):p:=h
theorem r1a(h:p:=by obtain⟨u,n,h⟩:=S;refine⟨u,n,?_⟩;rw[<- h];simp[convert,run_underlying L,run_underlying hd]):p:=h
theorem t5f(h:p:=by
 rw[Sem.run_bind,run_choose_drew];split
 ·exact⟨_,0,rfl⟩
 ·exact⟨_,1,rfl⟩):p:=h
theorem u6y(h:p:=by rw[ltG]at *;simp at *;exact f6J):p:=h
theorem e7i(h:p:=by(intro w hSw;obtain⟨hS,s9⟩:=(congrFun I _).mpr hSw;obtain⟨sb,s8⟩:=(congrFun G _).mpr hS;obtain⟨s0,s1,s2,s3,s4,s5,s6,s7⟩:=cells8 sb;go_simp)):p:=h
theorem W1o(h:p:=by
 go_roundw
 case rel=>exact⟨k+1,by go_num,f6J,am⟩
 case measure=>exact g7W):p:=h
theorem I7o(h:p:=by go_wp2;go_ret;exact V HF):p:=h
theorem G0x(h:p:=by(intro w hSw;obtain⟨sb,s8⟩:=(congrFun G _).mpr hSw;obtain⟨s0,s1,s2,s3,s4,s5,s6,s7⟩:=cells8 sb;go_simp)):p:=h
theorem I3R(h:p:=by rw[T.cell (x0a h)];exact h):p:=h
theorem f2R(h:p:=by show 1<3;exact f6J):p:=h
theorem e0f(h:p:=by first| exact T | simpa using T):p:=h
theorem R2P(h:p:=by first| rfl | exact aw):p:=h
theorem w8r(h:p:=by simp[is78]):p:=h
theorem T7E(h:p:=by simp[is6]):p:=h
end
def KP(v:Value):Prop:=∃a b,v=pk2 a b/\Rune a/\Rune b
theorem ulawP:KeyLaw prog 235:=deep_law_laid x6h (m:=3) e8N (o0d f4x) f4x f4x
theorem y8l:prog.cellsOf 235=2:=f4x
theorem y9J:prog.keyType 235=true:=f4x
theorem y6j{a b}(d:Rune a)(Y:Rune b) D:prog.keyLits (D+2) 235 [.int .i32 a,.int .i32 b]=some [.int .i32 a,.int .i32 b]:=by
 rw[Program.keyLits.eq_def];simp only[underlying235,y8l];rw[if_pos ⟨rfl,M7K⟩];simp[List.mapM_cons,x3c d D,x3c Y D,y8j]
theorem q1D{v}(h:KP v):∃l,keyOf prog 235 v=some l:=by
 obtain⟨a,b,rfl,d,Y⟩:=h
 have o:(pk2 a b).formed prog 235=true:=by
  simp[pk2,Value.formed,underlying235,y8l]
 obtain⟨n,F⟩:∃n,prog.types.size+1=n+2:=⟨prog.types.size-1,m4z⟩;refine⟨.string (keyBytes [.int .i32 a,.int .i32 b]),?_⟩;unfold keyOf;simp only[underlying235,y9J,o,Bool.and_self,if_true,F];show(prog.keyLits (n+2) 235 [.int .i32 a,.int .i32 b]).map _=_;rw[y6j d Y n];rfl
theorem klP:KL 235 KP:=KL.of ulawP fun _ h=>q1D h
def KR(v:Value):Prop:=∃a,v=.int .i32 a
theorem klR:KL 21 KR:=by
 have G:∀v,KR v->IsKey (.int .i32) v:=fun v h=>(by obtain⟨a,rfl⟩:=h;exact rfl);refine⟨fun w C v h=>run_checkKey underlying21 (G v h) C 9999,fun w x h U B=>?_,fun w v h=>?_⟩
 ·rcases findNow_spec (G x h) U 0 (fun e P=>G _ (B e P))with⟨Z,D⟩ | ⟨j,e,Z,D,J⟩
  ·exact .inl ⟨run_findKey underlying21 Z,D⟩
  ·rw[Nat.zero_add]at Z;exact .inr ⟨j,e,run_findKey underlying21 Z,D,J⟩
 ·exact run_keyThatStays (G v h)
def KN(v:Value):Prop:=∃a b,v=pk a b/\Sh a/\Sh b
theorem ulawN:KeyLaw prog 238:=deep_law_laid x6h (m:=3) e8N (o0d f4x) f4x f4x
theorem y8h:prog.cellsOf 238=2:=f4x
theorem y9H:prog.keyType 238=true:=f4x
theorem y6h{a b}(d:Sh a)(Y:Sh b) D:prog.keyLits (D+2) 238 [.string a,.string b]=some [.string a.data.toList,.string b.data.toList]:=by
 rw[Program.keyLits.eq_def];simp only[underlying238,y8h];rw[if_pos ⟨rfl,M7K⟩];simp[List.mapM_cons,x2r d D,x2r Y D,y8k]
theorem q0E{v}(h:KN v):∃l,keyOf prog 238 v=some l:=by
 obtain⟨a,b,rfl,d,Y⟩:=h
 have o:(pk a b).formed prog 238=true:=by
  simp[pk,Value.formed,underlying238,y8h]
 obtain⟨n,F⟩:∃n,prog.types.size+1=n+2:=⟨prog.types.size-1,m4z⟩;refine⟨.string (keyBytes [.string a.data.toList,.string b.data.toList]),?_⟩;unfold keyOf;simp only[underlying238,y9H,o,Bool.and_self,if_true,F];show(prog.keyLits (n+2) 238 [.string a,.string b]).map _=_;rw[y6h d Y n];rfl
theorem klN:KL 238 KN:=KL.of ulawN fun _ h=>q0E h
namespace Cn
def x1T(l:List Rec)(a b:Int):Option Int:=(l.reverse.find? (isP a b)).map (·.lo)
def secOf(l:List Rec)(b:Int):Nat:=l.countP fun r=>decide (r.kind=7/\r.to.getD 1 0=b)
theorem x7o l r a b:x1T (l++[r]) a b=if isP a b r=true then some r.lo else x1T l a b:=by
 unfold x1T;rw[List.reverse_append,List.reverse_cons,List.reverse_nil,List.nil_append,List.singleton_append,List.find?_cons];by_cases h:isP a b r=true
 ·rw[h,if_pos rfl];rfl
 ·grind
theorem x8U l r b:secOf (l++[r]) b=secOf l b+if r.kind=7/\r.to.getD 1 0=b then 1 else 0:=by
 unfold secOf;rw[List.countP_append,List.countP_singleton];by_cases h:r.kind=7/\r.to.getD 1 0=b
 ·grind
 ·grind
theorem z4B l b:secOf l b<=l.length:=List.countP_le_length
end Cn
def x3m(l:List Rec)(v:Value):Option Value :=
 match v with
 | .agg ⟨[.int .i32 a,.int .i32 b]⟩=>(Cn.x1T l a b).map (Value.int .i32)
 | _=>none
def secC(l:List Rec)(v:Value):Option Value :=
 match v with
 | .int .i32 b=>if Cn.secOf l b=0 then none else some (.int .i64 (Cn.secOf l b:Nat))
 | _=>none
theorem y4R l a b:x3m l (pk2 a b)=(Cn.x1T l a b).map (Value.int .i32):=rfl
theorem x7n{l r v}(h:∀a b,v=pk2 a b->¬(r.kind=7/\r.to.getD 0 0=a/\r.to.getD 1 0=b)):x3m (l++[r]) v=x3m l v:=by
 unfold x3m;split
 ·rename_i a b
  rw[Cn.x7o,if_neg];intro s;exact h a b rfl (o0d s)
 ·rfl
theorem x8T{l r v}(h:∀b,v=.int .i32 b->¬(r.kind=7/\r.to.getD 1 0=b)):secC (l++[r]) v=secC l v:=by
 unfold secC;split
 ·rename_i b
  rw[Cn.x8U,if_neg (h b rfl),Nat.add_zero]
 ·rfl
theorem z0C v:x3m [] v=none:=by
 unfold x3m;split<;>rfl
theorem z4A v:secC [] v=none:=by
 unfold secC;split<;>rfl
open Go.RowKit Go.Sort Go.Shelf
open Ti
def encG(x:Tri.Rg):List Value:=[.int .i64 (Tri.lo x),.int .i64 (Tri.hi x),.int .i64 (Tri.vl x)]
theorem z2W(x:Tri.Rg):(encG x).length=3:=rfl
theorem z2X(x:Tri.Rg):∀v∈encG x,v.oneCell'=true:=by
 intro v N;simp only[encG,List.mem_cons,List.mem_nil_iff,or_false]at N;rcases N with rfl | rfl | rfl<;>rfl
def loG(x y:Tri.Rg):Int:=Lib.compareInt (Tri.lo x) (Tri.lo y)
theorem ltG(x y:Tri.Rg):ltOf loG x y=decide (Tri.lo x<Tri.lo y):=by
 unfold ltOf loG Lib.compareInt;by_cases Z:Tri.lo x<Tri.lo y
 ·simp[Z]
 ·grind
theorem swoG:SWO (ltOf loG):={
 irrefl:=fun x=>by rw[ltG];exact M7L
 trans:=fun x y z Z D=>u6y
 ntrans:=fun x y z Z D=>u6y }
theorem y8d(x y:Tri.Rg) W:Calls prog 197 #[.agg (encG x).toArray,.agg (encG y).toArray] W fun e w'=>e=.returned (.int .i64 (loG x y))/\∃q A,w'=grow (W.drewN q) A:=by
 have K:=O (fun W=>x2G (Tri.lo x) (Tri.lo y) W);have e:Lib.compareInt (Tri.lo x) (Tri.lo y)=loG x y:=rfl;rw[e]at K;show Calls prog 197 #[.agg #[.int .i64 (Tri.lo x),.int .i64 (Tri.hi x),.int .i64 (Tri.vl x)],.agg #[.int .i64 (Tri.lo y),.int .i64 (Tri.hi y),.int .i64 (Tri.vl y)]] W _;go_enter func197,ntmps197;exact u6L
theorem x8N(xs:List Tri.Rg) i j(hi:i<xs.length)(X:j<3):(Ti.rcells xs)[i*3+j]?=some ((encG (xs.getD i (0,0,0)))[j]!):=by
 obtain⟨R,Z,D⟩:=Ti.x1t xs i hi;have S:=Ti.x1J xs;have e:∀k,k<(Ti.rcells xs).length->(Ti.rcells xs)[k]?=some ((Ti.rcells xs).getD k undef):=fun k G=>w8a
 match j,X with
 | 0,_=>rw[Nat.add_zero,e _ f6J,R];rfl
 | 1,_=>rw[e _ f6J,Z];rfl
 | 2,_=>rw[e _ f6J,D];rfl
theorem Or4.holds[Inhabited Tri.Rg]{w B g cap}{xs:List Tri.Rg}(h:Or4 w B (.slice (some ⟨g,0,none⟩) xs.length cap) xs):HoldsK encG 3 w g 0 xs.toArray:=by
 intro j X;rw[size_flatK]at X;have I:j<xs.length*3:=R1Z;rw[get_flatK _ _ _ _ X];have hd:j / 3<xs.length:=f6J
 have e:=h.2.2.cells (g:=g) rfl j _ (by
  have:=x8N xs (j / 3) (j%3) hd f6J;rw[(f6J:j / 3*3+j%3=j)]at this
  exact this)
 rw[addr_add,Nat.zero_add]at e;have A:xs.toArray[j / 3]! = xs.getD (j / 3) (0,0,0):=(by grind);rw[A,Nat.zero_add];refine⟨e,?_⟩;rcases h.2.2.2 with⟨N,_⟩ | ⟨S,t,P,N,_,H,_⟩
 ·simp at N
 ·exact e7z
theorem y3A[Inhabited Tri.Rg]{w:World}{blk n}{d:Array Tri.Rg}{m:Array Obj}:w.grownBy (sortWorldK encG 3 w blk 0 n d m) (some blk):=by
 refine⟨rfl,rfl,rfl,?_,fun k G y=>?_⟩
 ·show w.heap.size<=((putRowK encG 3 (Sort.ahead w n) blk 0 d).heap++m).size;rw[Array.size_append];have:(putRowK encG 3 (Sort.ahead w n) blk 0 d).heap.size=w.heap.size:=r2O;omega
 ·show((putRowK encG 3 (Sort.ahead w n) blk 0 d).heap++m)[k]?=_;have L:(putRowK encG 3 (Sort.ahead w n) blk 0 d).heap.size=w.heap.size:=r2O;exact V4f
theorem z3y p cap fv w:Calls prog 274 #[.slice p 0 cap,.int .i64 0,.int .i64 0,fv] w fun e w'=>e=.returned (.tuple #[])/\w'=w:=by
 go_enter func274,ntmps274;exact f0B
theorem z4i p cap lim fv w:Calls prog 246 #[.slice p 0 cap,.int .i64 0,.int .i64 0,.int .i64 lim,fv] w fun e w'=>e=.returned (.tuple #[])/\w'=w:=by
 have hi:=fun W=>z3y p cap fv W;go_enter func246,ntmps246;go_wp2;refine wp_loop_rounds 1 ?_;rw[rounds_succ];go_wp2_with(go_at_call 274;refine(hi _).mono ?_;rintro e w' ⟨rfl,rfl⟩)
 exact m8y
theorem z1r p cap fv w:Calls prog 196 #[.slice p 0 cap,fv] w fun e w'=>e=.returned (.tuple #[])/\w'=w:=by
 have S:∀W,Calls prog 182 #[.int .u64 0] W fun e w'=>e=.returned (.int .i64 0)/\w'=W:=fun W =>
  Any.bits_Len (SlLaysF0.n15.bits (P:=prog) (ρ:=Tryz.lays196_ren) { Tryz.lays196 with }) 0 W f6J f6J
 have s:=fun A W=>z4i p cap A fv W;go_enter func196,ntmps196;go_wp2_with(first| (go_at_call 182;refine(S _).mono ?_;rintro e w' ⟨rfl,rfl⟩)|(go_at_call 246;refine(s _ _).mono ?_;rintro e w' ⟨rfl,rfl⟩));go_end0;exact⟨rfl,rfl⟩
def SortG(w:World)(v:Value)(xs:List Tri.Rg)(e:Ending)(w':World):Prop:=e=.returned (.tuple #[])/\∃ys:List Tri.Rg,ys.Perm xs/\(ys.Pairwise fun a b=>Tri.lo a<=Tri.lo b)/\Sr w' v ys/\w.grownBy w' v.ownBlock
theorem y1Y w B v(xs:List Tri.Rg)(h:Or4 w B v xs)(S:xs.length<=5000000000):Calls prog 196 #[v,.func (.func 197) #[] #[]] w (SortG w v xs):=by
 have k:Inhabited Tri.Rg:=⟨(0,0,0)⟩;have Z:=h.sr;rcases h.2.2.2 with⟨rfl,R⟩ | ⟨g,M,P,rfl,C,H,F,W,f,U⟩
 ·obtain rfl:xs=[]:=List.eq_nil_of_length_eq_zero R;refine(z1r none 0 _ w).mono ?_;rintro e o ⟨rfl,rfl⟩;exact⟨rfl,[],List.Perm.refl _,.nil,Z,⟨rfl,rfl,rfl,l0r _,fun _ _ _=>rfl⟩⟩
 ·have E:=(h.2.2.lt g rfl).2;have d:=Or4.holds h;have q:∀p w,(callFunc 197 p).run prog w=.ok (.enter 197 p) w:=enters_of func197 f4A rfl;have I:CmpLays prog 197 #[] encG 3 loG g 0 xs.toArray.size w:=fun _ _ _ _ x y=>y8d x y _;have b:∀w,(isAgg 272).run prog w=.ok true w:=Tryz.isAgg272;have l:∀w,(Go.sizeOf 272).run prog w=.ok 3 w:=Tryz.sizeOf272;have K:=AnyQ.slices_SortFunc Tryz.lays196 3 b l encG z2W z2X loG swoG 197 #[] g 0 M xs.toArray w q I d E P8P;change Calls prog 196 #[.slice (some ⟨g,0,none⟩) xs.length M,_] w _ at K;refine K.mono ?_;rintro e o ⟨rfl,D,n,m,⟨G,_,a⟩,L,rfl⟩;have Y:D.size=xs.length:=by simpa using G
  have N:D.toList.Perm xs:=t6L
  have T:SWK encG 3 w g 0 D (sortWorldK encG 3 w g 0 n D m):=⟨n,m,rfl⟩;have r:=T.holds E d G;have z:D.toList.length=xs.length:=f6J;refine⟨rfl,D.toList,N,?_,⟨fun x A=>h.1 x (N.mem_iff.1 A),?_,by rw[z];exact h.2.1,.inr ⟨g,0,M,by rw[z],by rw[z];exact F,m4e,fun i hi=>?_⟩⟩,y3A⟩
  ·rw[List.pairwise_iff_getElem];intro i j hi X J;have:=L i j (Nat.zero_le _) J (by simp at X ⊢;exact f6J);rw[ltG,decide_eq_false_iff_not]at this;exact i5k
  ·rw[Ti.x1J]
  ·rw[z]at hi;have Q:i / 3<D.size:=f6J;have:=(r.cell (i:=i / 3) (c:=i%3) Q f6J).1;rw[Nat.zero_add,(f6J:i / 3*3+i%3=i)]at this;rw[Nat.zero_add,this,getElem!_pos D _ Q];have s:=x8N D.toList (i / 3) (i%3) (by rw[z];exact f6J) f6J;rw[(f6J:i / 3*3+i%3=i)]at s;rw[List.getD,s];simp[List.getD,Q]
open Go.RowKit
open Ti
def x6t(w0:World)(xs:List Tri.Rg)(e:Ending)(w':World):Prop:=∃a m,e=.returned (.pointer (some a))/\m.Perm xs/\(m.Pairwise fun x y=>Tri.lo x<=Tri.lo y)/\T4 w' w0.heap.size (.pointer (some a)) m 0/\Below w0.heap.size w0 w'
theorem y8c w0 w v(xs:List Tri.Rg)(Y:Bw w0 w)(h:Or4 w w0.heap.size v xs)(S:xs.length<=5000000000)(N:∀m:List Tri.Rg,m.Perm xs->(m.Pairwise fun x y=>Tri.lo x<=Tri.lo y)->Tri.Val 0 m):Calls prog 147 #[v] w (x6t w0 xs):=by
 have q:=O (y1Y w w0.heap.size v xs h S);have z:Hid (∀o,w.grownBy o v.ownBlock->Bw w0 o):=fun o C=>Y.grown C Y.size (fun k G=>(h.2.2.lt k G).1);have B:=O N;obtain⟨J,M,rfl,_,_⟩:=h.sr.shape;go_enter func147,ntmps147;go_wp2_with fail;refine(V q).mono ?_;rintro t Q ⟨rfl,ys,s,D,Z,C⟩;have F:=V z Q C;have I:=V B ys s D;have g:=O (z5h _ ys 0 Q Z ⟨f6J,f6J⟩);have n:(Tri.check 0 ys).2=0:=Tri.x3W.2 ⟨I,f6J,f6J⟩;have c:=O n;have A:=O s;have K:=O D;have L:=O F;go_wp2_with fail;refine(V g).mono ?_;rintro E T ⟨H,⟨_,a,rfl,b⟩ | ⟨W,_⟩⟩
 ·have U:x6t w0 xs (.returned (.pointer (some a))) T:=⟨a,ys,rfl,V A,V K,b.lower (V L).size,bthen (V L) H⟩;exact m2G
 ·exact absurd (V c) W
open Go.ChangeMaps (setBlock)
theorem Rsh.shape{f W:World}{v:Value}{xs:List Sp}(h:Rsh f W v xs):∃ao cap,v=.slice ao xs.length cap/\xs.length<=cap/\cap<=9223372036854775807:=by
 rcases h.1.2 with⟨rfl,R⟩ | ⟨g,cap,P,rfl,_,_,F,A,_⟩
 ·exact⟨none,0,by rw[R],f6J,f6J⟩
 ·exact⟨_,cap,rfl,F,by unfold maxLen at A;exact f6J⟩
theorem x6K(p:Rec->Bool)(l:List Rec)(r:Rec):(l++[r]).filter p=l.filter p++(if p r then[r]else[]):=by
 rw[List.filter_append];cases h:p r<;>simp[h]
def is6(r:Rec):Bool:=decide (r.kind=6)
def is78(r:Rec):Bool:=decide (r.kind=7\/r.kind=8)
def Made(w0 wr:World)(l:List Rec)(k:Nat):Prop:=∃(cv ov:Value) (cxs oxs:List Sp),NI w0 wr (Cn.firstP (l.take k)) cv ov cxs oxs/\cxs.map (·.1)=(l.take k).filter is6/\oxs.map (·.1)=(l.take k).filter is78
theorem Made.next{f wr:World}{l:List Rec}{k:Nat}{r:Rec}{cv ov:Value}{R M cxs' oxs':List Sp}{c:Int->Int->Option Int}(Q:l.take (k+1)=l.take k++[r])
  (h:NI f wr c cv ov cxs' oxs') (I:c=Cn.firstP (l.take k++[r])) (t:R.map (·.1)=(l.take k).filter is6) (E:M.map (·.1)=(l.take k).filter is78)
  (Z:cxs'.map (·.1)=R.map (·.1)++(if is6 r then[r]else[])) (D:oxs'.map (·.1)=M.map (·.1)++(if is78 r then[r]else[])):Made f wr l (k+1):=by
 subst I;exact⟨cv,ov,cxs',oxs',by rw[Q];exact h,by rw[Q,x6K,Z,t],by rw[Q,x6K,D,E]⟩
theorem y4J{l:List Rec}{k:Nat}{R M:List Sp}(t:R.map (·.1)=(l.take k).filter is6)(E:M.map (·.1)=(l.take k).filter is78)(S:l.length<=4096):R.length<=4096/\M.length<=4096:=by
 have Z:=congrArg List.length t;have D:=congrArg List.length E;rw[List.length_map]at Z D;have i:=List.length_filter_le is6 (l.take k);have A:=List.length_filter_le is78 (l.take k);have Q:(l.take k).length<=l.length:=P8P;omega
theorem x2O(W:World)(r:Rec)(d:Option Addr)(J:Nat)(n:Nat)(F:W.heap.size=n):∀j u,(encR (r,d,r.to.length,J))[j]?=some u->(W.alloc (.cells #[.int .i64 r.kind,.int .i64 r.lo,.int .i64 r.hi,.int .i64 r.n,.slice d r.to.length J,.string r.name,.string r.other,.float .f64 r.wt] 60)).cell? ((⟨n,0,none⟩:Addr).add j)=some u:=x6k W n F r (.slice d r.to.length J)
theorem y8g{W:World}{r L j:Nat}{v:Value}(o:Obj)(h:L≠r)(I:W.cell? ⟨L,j,none⟩=some v):(setBlock W r o).cell? ⟨L,j,none⟩=some v:=by
 rw[World.cell?_of_block (x1E W o h)];exact I
theorem x6i{xs:List Int}{i:Nat}(h:i<xs.length):xs.getD i 0∈xs:=p8I
def y7x(w0:World)(l:List Rec)(e:Ending)(w':World):Prop:=∃cv ov cs os,e=.returned (xV cv ov (.map (some (w0.heap.size+1))))/\Idx l w' cv ov cs os/\PAt w' (w0.heap.size+1) (Cn.firstP l)/\Below w0.heap.size w0 w'
def nw(w0:World):World:=((w0.alloc (.cells #[.slice none 0 0,.slice none 0 0,.map none] 168)).alloc (.map #[] 0)).alloc (.cells #[.slice none 0 0,.slice none 0 0,.map (some (w0.heap.size+1))] 168)
theorem nw_ni(f:World):NI f (nw f) (fun _ _=>none) (.slice none 0 0) (.slice none 0 0) [] []:=by
 have e:(nw f).heap=((f.heap.push (.cells #[.slice none 0 0,.slice none 0 0,.map none] 168 (0,0))).push (.map #[] 0)).push (.cells #[.slice none 0 0,.slice none 0 0,.map (some (f.heap.size+1))] 168 (0,0)):=rfl;refine⟨?_,⟨#[],0,?_,q0O⟩,?_,⟨World.ownsRow_nil _ _ _ _,fun _ h=>m5l⟩,⟨World.ownsRow_nil _ _ _ _,fun _ h=>m5l⟩,fun g h=>by simp[Value.ownBlock]at h,?_⟩
 ·rw[e,Array.getElem?_push,Array.getElem?_push,Array.getElem?_push];simp;omega
 ·rw[e,Array.getElem?_push,Array.getElem?_push];simp
 ·rw[e,Array.getElem?_push];simp
 ·exact g8O
theorem y1v(v:Value)(l:List Rec)(w0:World)(hv:Rcs w0 v l)(bN:(Cn.check6 l).2=0):Calls prog 91 #[v] w0 (y7x w0 l):=by
 obtain⟨i1,hj,aY,aZ,ba⟩:=info_parts Tryz.info60;have dv:=@run_makeMap prog;obtain⟨hl,N⟩:=Cn.x1G bN
 have bF:Hid (∀i,i<l.length->(l.getD i Cn.none).kind=7->(l.getD i Cn.none).to.length=2/\Rune ((l.getD i Cn.none).to.getD 0 0)/\Rune ((l.getD i Cn.none).to.getD 1 0)):=fun i hi h7=>by
  have hm:l.getD i Cn.none∈l:=(by simp[List.getD,hi]);have bL:=(Cn.x0C (N _ hm) h7).2.2;obtain⟨⟨g1,g2⟩,g3⟩:=Cn.x0v bL;refine⟨f6J,?_,?_⟩
  ·have:=g3 ((l.getD i Cn.none).to.getD 0 0) (x6i f6J);have:=o0d this;unfold Rune;omega
  ·have:=g3 ((l.getD i Cn.none).to.getD 1 0) (x6i f6J);have:=o0d this;unfold Rune;omega
 have y:=O (fun i hi=>hv.fit (i:=i) hi);have HV:=O hv
 have ay:Hid (∀k,k<l.length->l.take (k+1)=l.take k++[l.getD k Cn.none]):=fun k hk=>by
  rw[List.take_add_one];simp[List.getD,hk]
 have bG:Hid (∀k,k<l.length->(l.take k).length=k):=fun k hk=>P8P;have be:Hid (∀w',Made w0 w' l l.length->Made w0 w' l l.length):=fun _ h=>h;have aH:=O (nw_ni w0);have aR:=O bN;have cR:=O N;obtain⟨ao,dl,rfl,dq,dr⟩:=hv.shape;clear hv bN N;go_enter func91,ntmps91;go_wp2;go_loopw[4,5,6,7,12] (fun _ _ _ _ i wr=>∃k:Nat,i=.int .i64 k/\k<=l.length/\Hid (Made w0 wr l k)) (fun _ _ _ _ i _=>l.length-(intOf i).toNat)
 case atStart=>exact⟨0,rfl,f6J,⟨_,_,[],[],V aH,by simp,by simp⟩⟩
 case round =>
  clear aH;obtain⟨k,rfl,hk,L⟩:=hrel;by_cases aM:k<l.length
  ·obtain⟨cv,ov,R,M,H,e1,e2⟩:=V L;obtain⟨cV,cZ⟩:=y4J e1 e2 hl;obtain⟨b,db,de,ev,_,_,aD⟩:=(V HV).place f6J;simp only[Value.slice.injEq]at ev;obtain⟨rfl,_,rfl⟩:=ev;have aB:=aD k aM;have cD:=aB.below H.bel;obtain⟨vt,bP,aF⟩:=aB.to;have bn:=V y k aM;have cG:=V ay k aM;have cH:=V bG k aM;have h7:=V bF k aM;obtain⟨d,J,rfl,_,_⟩:=aF.shape;have x4:wr.cell? ⟨b,db+k*8+4,none⟩=some (.slice d (l.getD k Cn.none).to.length J):=(by rw[H.bel.cell (x0a bP)];exact bP);obtain⟨x0,x1,x2,x3,_,x5,x6,x7⟩:=cD;generalize l.getD k Cn.none=r at *;have bU:=O aF;have ar:Hid (Sk .i32 w0 (sval (r,d,r.to.length,J)) r.to/\RecFit r):=⟨aF,bn⟩;obtain⟨Q,hQ⟩:∃Q,(wr.alloc (.cells #[.int .i64 r.kind,.int .i64 r.lo,.int .i64 r.hi,.int .i64 r.n,.slice d r.to.length J,.string r.name,.string r.other,.float .f64 r.wt] 60))=Q:=⟨_,rfl⟩
   have aG:Hid (Q.heap[wr.heap.size]?=some (.cells #[.int .i64 r.kind,.int .i64 r.lo,.int .i64 r.hi,.int .i64 r.n,.slice d r.to.length J,.string r.name,.string r.other,.float .f64 r.wt] 60 (0,0))):=by
    rw[<- hQ];show(wr.heap.push _)[wr.heap.size]?=_;simp
   have aw:Q.heap.size=wr.heap.size+1:=(by rw[<- hQ];simp);have x:=O (H.below (hQ ▸ (b0r).alloc (l0r _) _));have s:=O (fun W c cv' ov' cxs' oxs' (h:NI w0 W c cv' ov' cxs' oxs') hc h1 h2=>Made.next (wr:=W) (c:=c) (cv:=cv') (ov:=ov') (cxs':=cxs') (oxs':=oxs') cG h hc e1 e2 h1 h2);have dp:=H.bel.size;obtain⟨af,D,rfl,dh,di⟩:=H.hc.shape;obtain⟨Z,B,rfl,dj,dk⟩:=H.ho.shape;have dt:∀W a m,(store a (.float .f64 r.wt) m).run prog W=stored prog W a (.float .f64 r.wt) m:=fun W a m=>run_store prog W a _ m rfl;have ai:=O (x9p (r,d,r.to.length,J));clear aB aD bP aF bn cG H e1 e2 L y ay bG bF HV aR cR be;by_cases k6:r.kind=6
   ·have F:=x;clear h7;obtain⟨kd,lo,hi,E,Y,nm,ot,X⟩:=r;dsimp only at *;subst k6;have y0:Q.cell? ⟨w0.heap.size+1+1,0,none⟩=some (.slice af R.length D):=cell_of (j:=0) (V F).hx T7d;have ae:Hid (∀o,(Q.alloc o).ownsRow w0.heap.size 60 8 (.slice af R.length D) R.length (R.flatMap encR)):=fun o=>(V F).hc.1.alloc o;have z:=O (x2O Q (⟨6,lo,hi,E,Y,nm,ot,X⟩:Rec) d J (wr.heap.size+1) R2P);have A:=O (fun o v' w1 a b c=>(V F).classes (o:=o) (v':=v') (w1:=w1) (V ar) a b c);have aJ:=(V F).bel.size;clear F ar x aG;subst hQ;go_wp2_with(at_builtin;refine wpList_append_own_at _ rfl (.tmp 22) (.tmp 24) 22 rfl w0.heap.size 60 i1 (.agg #[.int .i64 0,.int .i64 0,.int .i64 0,.int .i64 0,.slice none 0 0,.string ⟨#[]⟩,.string ⟨#[]⟩,.float .f64 0]) 8 96 underlying22 hj aY aZ ba rfl (by decide) _ _ _ rfl (V ae _) ⟨wr.heap.size+1,0,none⟩ 1 1 (encR ((⟨6,lo,hi,E,Y,nm,ot,X⟩:Rec),d,Y.length,J)) rfl rfl (V z) (V ai) T7X f6J P8P ?_);intro v' w9 P q _ T;obtain⟨ab,ag⟩:=V A _ v' w9 P q e0f;have am:Hid (Made w0 (w9.setCell ⟨w0.heap.size+1+1,0,none⟩ v') l (k+1)):=V s _ _ _ _ _ _ ag (Cn.x2I (by simp)).symm T7E w8r;obtain⟨bI,aI,rfl,_,_⟩:=ag.hc.shape;have z0:w9.cell? ⟨w0.heap.size+1+1,0,none⟩=some (.slice af R.length D):=cell_of (j:=0) ab T7d;have zf:=x0d (j:=0) ab;clear ae z A P q T ab ag s ai y0;generalize(R++[((⟨6,lo,hi,E,Y,nm,ot,X⟩:Rec),d,Y.length,J)]).length=m9 at *;go_wp2
    exact W1o
   ·have q6:(r.kind==6)=false:=b0f k6;by_cases k7:r.kind=7
    ·obtain⟨bu,cB,cC⟩:=h7 k7;clear q6 h7;obtain⟨kd,lo,hi,E,Y,nm,ot,X⟩:=r;dsimp only at *;subst k7;obtain⟨SQ,G⟩:∃SQ:World->Prop,(fun W:World=>W.heap[wr.heap.size]?=some (.cells #[.int .i64 7,.int .i64 lo,.int .i64 hi,.int .i64 E,.slice d Y.length J,.string nm,.string ot,.float .f64 X] 60 (0,0))/\W.cell? ⟨w0.heap.size+1+1,2,none⟩=some (.map (some (w0.heap.size+1))))=SQ:=⟨_,rfl⟩;obtain⟨SP,I⟩:∃SP:World->Prop,(fun W:World=>SQ W/\Hid (Bw Q W))=SP:=⟨_,rfl⟩;have aj:Hid (∀W:World,Bw Q W->NI w0 W (Cn.firstP (l.take k)) (.slice af R.length D) (.slice Z M.length B) R M):=fun W hW=>(V x).below hW
     have HS:Hid (∀W:World,Bw Q W->SP W):=fun W hW=>by
      rw[<- I,<- G];exact⟨⟨(hW.block _ f6J).trans (V aG),cell_of (j:=2) (V aj W hW).hx (by show 2<3;exact f6J)⟩,hW⟩
     have aT:Hid (∀W:World,Bw w0 W->Calls prog 135 #[.agg #[.int .i64 7,.int .i64 lo,.int .i64 hi,.int .i64 E,.slice d Y.length J,.string nm,.string ot,.float .f64 X]] W (fun e w'=>e=.returned (pk2 (Y.getD 0 0) (Y.getD 1 0))/\Bw W w')):=fun W hW=>x8K (⟨7,lo,hi,E,Y,nm,ot,X⟩:Rec) _ W ((V bU).below hW) bu;have bE:Hid (∀W:World,Bw Q W->(Instr.lookup 166 (.map (some (w0.heap.size+1))) (pk2 (Y.getD 0 0) (Y.getD 1 0)) true).run prog W=.ok (.tuple #[.int .i64 ((Cn.firstP (l.take k) (Y.getD 0 0) (Y.getD 1 0)).getD 0),.bool (Cn.firstP (l.take k) (Y.getD 0 0) (Y.getD 1 0)).isSome]) W):=fun W hW=>(look_ok (V aj W hW).hm cB cC).1;have bD:Hid ((Cn.firstP (l.take k) (Y.getD 0 0) (Y.getD 1 0)).isSome=true->Cn.firstP (l.take k++[(⟨7,lo,hi,E,Y,nm,ot,X⟩:Rec)])=Cn.firstP (l.take k)):=fun h=>Cn.y0X (r:=(⟨7,lo,hi,E,Y,nm,ot,X⟩:Rec)) h
     have bH:Hid ((Cn.firstP (l.take k) (Y.getD 0 0) (Y.getD 1 0)).isSome=false->∀W:World,Bw Q W->∃aU aC,(Instr.mapUpdate 166 (.map (some (w0.heap.size+1))) (pk2 (Y.getD 0 0) (Y.getD 1 0)) (.int .i64 (k:Int))).run prog W=.ok () (setBlock W (w0.heap.size+1) (.map aU aC))/\NI w0 (setBlock W (w0.heap.size+1) (.map aU aC)) (Cn.firstP (l.take k++[(⟨7,lo,hi,E,Y,nm,ot,X⟩:Rec)])) (.slice af R.length D) (.slice Z M.length B) R M):=fun h W hW=>by
      have hn:Cn.firstP (l.take k) (Y.getD 0 0) (Y.getD 1 0)=none:=(by simpa using h);obtain⟨aU,cT,g1,g2⟩:=y6X (V aj W hW).hm cB cC hn (k:Int);have cJ:=(V aj W hW).upd g2;have e5:=Cn.y5Y (r:=(⟨7,lo,hi,E,Y,nm,ot,X⟩:Rec)) (l:=l.take k) rfl hn;rw[cH]at e5;refine⟨aU,cT,g1,?_⟩;rw[e5];exact cJ
     have aS:Hid (∀W:World,Bw Q W->Bw w0 W):=fun W hW=>(V aj W hW).bel;clear aG bU bu cH;generalize(Cn.firstP (l.take k) (Y.getD 0 0) (Y.getD 1 0)).getD 0=zf,(Cn.firstP (l.take k) (Y.getD 0 0) (Y.getD 1 0)).isSome=kn at *;generalize Y.getD 0 0=pa,Y.getD 1 0=pb at *;unfold pk2 at *;have aK:Bw Q Q.drew:=x0i ⟨1,rfl⟩;have t:=O (V HS _ aK);have bZ:=O (V aT _ (V aS _ aK));subst hQ;go_wp2;refine wp_region_held_drew (S:=fun w'=>SP w') f4B (V t) (fun hHeld=>?_);refine tk9 0 (.pointer (some ⟨w0.heap.size+1+1,2,none⟩)) ?_ (hy:=e7i);refine tk9 1 (.map (some (w0.heap.size+1))) ?_ (hy:=e7i);refine tk9 2 (.agg #[.int .i64 7,.int .i64 lo,.int .i64 hi,.int .i64 E,.slice d Y.length J,.string nm,.string ot,.float .f64 X]) ?_ (hy:=e7i);refine rd9 3 fun K hK=>?_;go_simp;refine c0m bZ fun W2 aV=>?_;have u:=bthen aK aV;have bA:=O (V HS W2 u);refine hK.out _ _ ?_ (fun hHeld=>?_)
     ·exact V bA
     clear hK K
     try simp only[Act.put,sa9,sb9,sc9]
     refine tk9 4 (.tuple #[.int .i64 zf,.bool kn]) ?_ (hy:=by(intro w hSw;obtain⟨hS,s9⟩:=(congrFun I _).mpr hSw;obtain⟨sb,s8⟩:=(congrFun G _).mpr hS;obtain⟨s0,s1,s2,s3,s4,s5,s6,s7⟩:=cells8 sb;have du:=V bE w (V s9);go_simp));refine tk9 5 (.tuple #[.int .i64 zf,.bool kn]) ?_;refine tk9 6 (.int .i64 zf) ?_;refine tk9 7 (.bool kn) ?_;refine tk9 8 (.int .i64 zf) ?_;refine tk9 9 (.bool kn) ?_;refine wpAnyH_done f4B ?_ _;obtain⟨tb,t8⟩:=(congrFun G _).mpr ((congrFun I _).mpr (V bA)).1;obtain⟨t0,t1,t2,t3,t4,t5,t6,t7⟩:=cells8 tb;clear bA t bZ hHeld;cases kn
     ·obtain cI:=V bH rfl;have aW:=bthen u (x0i ⟨1,rfl⟩);have t:=O ((congrFun I _).mpr (V HS _ aW)).1;have cd:=O (V aT _ (V aS _ aW));have bj:=O cI;clear cI;go_wp2;refine wp_region_held_drew (S:=fun w'=>SQ w') f4B (V t) (fun hHeld=>?_);refine tk9 0 (.pointer (some ⟨w0.heap.size+1+1,2,none⟩)) ?_ (hy:=G0x);refine tk9 1 (.map (some (w0.heap.size+1))) ?_ (hy:=G0x);refine tk9 2 (.agg #[.int .i64 7,.int .i64 lo,.int .i64 hi,.int .i64 E,.slice d Y.length J,.string nm,.string ot,.float .f64 X]) ?_ (hy:=G0x);refine tk9 4 (.int .i64 (k:Int)) ?_;refine rd9 3 fun K hK=>?_;go_simp;refine c0m cd fun W3 cU=>?_;have bJ:=bthen aW cU;obtain⟨cf,ce,da,bt⟩:=V bj W3 bJ;have bh:=O bt;have bB:=O ((congrFun I _).mpr (V HS _ bJ)).1
      have bC:Hid (SQ (setBlock W3 (w0.heap.size+1) (.map cf ce))):=by
       have cY:=x0D (V x).hx;rw[aw]at cY;obtain⟨sb,s8⟩:=(congrFun G _).mpr (V bB);rw[<- G];exact⟨(x1E _ _ f6J).trans sb,y8g _ f6J s8⟩
      clear bt;refine hK.out _ _ ?_ (fun hHeld=>?_)
      ·exact V bB
      clear hK K
      try simp only[Act.put,sa9,sb9,sc9]
      refine rd9 5 fun K hK=>?_;go_simp;refine hK.out _ _ ?_ (fun hHeld=>?_)
      ·exact V bC
      clear hK K
      try simp only[Act.put,sa9,sb9,sc9]
      refine wpAnyH_done f4B ?_ _;obtain⟨ub,u8⟩:=(congrFun G _).mpr (V bC);obtain⟨u0,u1,u2,u3,u4,u5,u6,u7⟩:=cells8 ub;have F:=bh;clear ub tb bC bB t cd hHeld bj bH bD bE HS aj aT aS t0 t1 t2 t3 t4 t5 t6 t7 t8 bh da bJ aW u aK;generalize setBlock W3 (w0.heap.size+1) (.map cf ce)=W5 at *;have y0:W5.cell? ⟨w0.heap.size+1+1,1,none⟩=some (.slice Z M.length B):=cell_of (j:=1) (V F).hx f2R;have ae:Hid (∀o,(W5.alloc o).ownsRow w0.heap.size 60 8 (.slice Z M.length B) M.length (M.flatMap encR)):=fun o=>(V F).ho.1.alloc o;have z:=O (x2O W5 (⟨7,lo,hi,E,Y,nm,ot,X⟩:Rec) d J (W5.heap.size) R2P);have A:=O (fun o v' w1 a b c=>(V F).opens (o:=o) (v':=v') (w1:=w1) (V ar) a b c);have aJ:=(V F).bel.size;clear F ar x;go_wp2_with(at_builtin;refine wpList_append_own_at _ rfl (.tmp 45) (.tmp 47) 22 rfl w0.heap.size 60 i1 (.agg #[.int .i64 0,.int .i64 0,.int .i64 0,.int .i64 0,.slice none 0 0,.string ⟨#[]⟩,.string ⟨#[]⟩,.float .f64 0]) 8 96 underlying22 hj aY aZ ba rfl (by decide) _ _ _ rfl (V ae _) ⟨W5.heap.size,0,none⟩ 1 1 (encR ((⟨7,lo,hi,E,Y,nm,ot,X⟩:Rec),d,Y.length,J)) rfl rfl (V z) (V ai) T7X f6J P8P ?_);intro v' w9 P q _ T;obtain⟨ab,ag⟩:=V A _ v' w9 P q e0f;have am:Hid (Made w0 (w9.setCell ⟨w0.heap.size+1+1,1,none⟩ v') l (k+1)):=V s _ _ _ _ _ _ ag rfl T7E w8r;obtain⟨bI,aI,rfl,_,_⟩:=ag.ho.shape;have z0:w9.cell? ⟨w0.heap.size+1+1,1,none⟩=some (.slice Z M.length B):=cell_of (j:=1) ab f2R;have zf:=x0d (j:=1) ab;clear ae z A P q T ab ag s ai y0;generalize(M++[((⟨7,lo,hi,E,Y,nm,ot,X⟩:Rec),d,Y.length,J)]).length=m9 at *;go_wp2
      exact W1o
     ·have cW:=V bD rfl;have F:=O (V aj W2 u);clear tb bH bD bE HS aj aT aS u aK;have y0:W2.cell? ⟨w0.heap.size+1+1,1,none⟩=some (.slice Z M.length B):=cell_of (j:=1) (V F).hx f2R;have ae:Hid (∀o,(W2.alloc o).ownsRow w0.heap.size 60 8 (.slice Z M.length B) M.length (M.flatMap encR)):=fun o=>(V F).ho.1.alloc o;have z:=O (x2O W2 (⟨7,lo,hi,E,Y,nm,ot,X⟩:Rec) d J (W2.heap.size) R2P);have A:=O (fun o v' w1 a b c=>(V F).opens (o:=o) (v':=v') (w1:=w1) (V ar) a b c);have aJ:=(V F).bel.size;clear F ar x;go_wp2_with(at_builtin;refine wpList_append_own_at _ rfl (.tmp 45) (.tmp 47) 22 rfl w0.heap.size 60 i1 (.agg #[.int .i64 0,.int .i64 0,.int .i64 0,.int .i64 0,.slice none 0 0,.string ⟨#[]⟩,.string ⟨#[]⟩,.float .f64 0]) 8 96 underlying22 hj aY aZ ba rfl (by decide) _ _ _ rfl (V ae _) ⟨W2.heap.size,0,none⟩ 1 1 (encR ((⟨7,lo,hi,E,Y,nm,ot,X⟩:Rec),d,Y.length,J)) rfl rfl (V z) (V ai) T7X f6J P8P ?_);intro v' w9 P q _ T;obtain⟨ab,ag⟩:=V A _ v' w9 P q e0f;have am:Hid (Made w0 (w9.setCell ⟨w0.heap.size+1+1,1,none⟩ v') l (k+1)):=V s _ _ _ _ _ _ ag cW.symm T7E w8r;obtain⟨bI,aI,rfl,_,_⟩:=ag.ho.shape;have z0:w9.cell? ⟨w0.heap.size+1+1,1,none⟩=some (.slice Z M.length B):=cell_of (j:=1) ab f2R;have zf:=x0d (j:=1) ab;clear ae z A P q T ab ag s ai y0;generalize(M++[((⟨7,lo,hi,E,Y,nm,ot,X⟩:Rec),d,Y.length,J)]).length=m9 at *;go_wp2
      exact W1o
    ·have q7:(r.kind==7)=false:=b0f k7;clear h7;by_cases k8:r.kind=8
     ·have F:=x;clear q6 q7;obtain⟨kd,lo,hi,E,Y,nm,ot,X⟩:=r;dsimp only at *;subst k8;have y0:Q.cell? ⟨w0.heap.size+1+1,1,none⟩=some (.slice Z M.length B):=cell_of (j:=1) (V F).hx f2R;have ae:Hid (∀o,(Q.alloc o).ownsRow w0.heap.size 60 8 (.slice Z M.length B) M.length (M.flatMap encR)):=fun o=>(V F).ho.1.alloc o;have z:=O (x2O Q (⟨8,lo,hi,E,Y,nm,ot,X⟩:Rec) d J (wr.heap.size+1) R2P);have A:=O (fun o v' w1 a b c=>(V F).opens (o:=o) (v':=v') (w1:=w1) (V ar) a b c);have aJ:=(V F).bel.size;clear F ar x aG;subst hQ;go_wp2_with(at_builtin;refine wpList_append_own_at _ rfl (.tmp 53) (.tmp 55) 22 rfl w0.heap.size 60 i1 (.agg #[.int .i64 0,.int .i64 0,.int .i64 0,.int .i64 0,.slice none 0 0,.string ⟨#[]⟩,.string ⟨#[]⟩,.float .f64 0]) 8 96 underlying22 hj aY aZ ba rfl (by decide) _ _ _ rfl (V ae _) ⟨wr.heap.size+1,0,none⟩ 1 1 (encR ((⟨8,lo,hi,E,Y,nm,ot,X⟩:Rec),d,Y.length,J)) rfl rfl (V z) (V ai) T7X f6J P8P ?_);intro v' w9 P q _ T;obtain⟨ab,ag⟩:=V A _ v' w9 P q e0f;have am:Hid (Made w0 (w9.setCell ⟨w0.heap.size+1+1,1,none⟩ v') l (k+1)):=V s _ _ _ _ _ _ ag (Cn.x2I (by simp)).symm T7E w8r;obtain⟨bI,aI,rfl,_,_⟩:=ag.ho.shape;have z0:w9.cell? ⟨w0.heap.size+1+1,1,none⟩=some (.slice Z M.length B):=cell_of (j:=1) ab f2R;have zf:=x0d (j:=1) ab;clear ae z A P q T ab ag s ai y0;generalize(M++[((⟨8,lo,hi,E,Y,nm,ot,X⟩:Rec),d,Y.length,J)]).length=m9 at *;go_wp2
      exact W1o
     ·have q8:(r.kind==8)=false:=b0f k8;have am:Hid (Made w0 Q l (k+1)):=V s _ _ _ _ R M (V x) (Cn.x2I f6J).symm (by simp[is6,k6]) (by simp[is78,k7,k8]);clear s x ar ai aG;subst hQ;go_wp2
      exact W1o
  ·obtain rfl:k=l.length:=f6J;obtain⟨cv,ov,R,M,H,e1,e2⟩:=V L;obtain⟨cV,cZ⟩:=y4J e1 e2 hl;rw[List.take_length]at H e1 e2;have K1:=O (y5c w0 wr cv R H.hc f6J);obtain⟨af,D,rfl,_,_⟩:=H.hc.shape;obtain⟨Z,B,rfl,_,_⟩:=H.ho.shape;have y0:wr.cell? ⟨w0.heap.size+1+1,0,none⟩=some (.slice af R.length D):=cell_of (j:=0) H.hx T7d;have aL:=H.far H.hc;have bm:∀g,(Value.slice af R.length D).ownBlock=some g->g<wr.heap.size:=fun g C=>(H.hc.1.lt g C).2;have aP:=O aL;have cP:=O bm;clear aL bm;have aQ:=O (H.far H.ho);have aH:=O H;clear L y ay bG bF HV be H;go_wp2_with fail;refine(V K1).mono ?_;rintro e w1 ⟨rfl,bQ,cw,aw,cK,az⟩;have H:=V aH;have k1:∀g,g<wr.heap.size->(Value.slice af R.length D).ownBlock≠some g->w1.heap[g]?=wr.heap[g]?:=fun g a b=>az.block g a (fun e=>b e.symm);have U:w1.heap[w0.heap.size+2]?=some (.cells #[.slice af R.length D,.slice Z M.length B,.map (some (w0.heap.size+1))] 168 (0,0)):=(by rw[k1 _ (x0D H.hx) (fun e=>(V aP _ e).2.2 rfl)];exact H.hx);have aO:w1.heap[w0.heap.size]?=some (.cells #[.slice none 0 0,.slice none 0 0,.map none] 168 (0,0)):=(by rw[k1 _ (x0D H.hr) (fun e=>(V aP _ e).1 rfl)];exact H.hr);obtain⟨es,cl,hm,cX⟩:=H.hm;have aN:w1.heap[w0.heap.size+1]?=some (.map es cl):=(by rw[k1 _ (x0D hm) (fun e=>(V aP _ e).2.1 rfl)];exact hm);have bM:Rsh w0 w1 (.slice Z M.length B) M:=H.ho.keep fun g C=>k1 g (H.ho.1.lt g C).2 (fun e=>H.ap g e C);have bK:Bw w0 w1:=H.bel.trans ⟨az.os,az.tape,az.output,az.size,fun g C=>k1 g (by have:=H.bel.size;exact f6J) (fun e=>by have:=(H.hc.1.lt g e).1;exact f6J)⟩;have K2:=O (y5c w0 w1 _ M bM f6J);have y1:w1.cell? ⟨w0.heap.size+1+1,1,none⟩=some (.slice Z M.length B):=cell_of (j:=1) U f2R;have ci:=H.ap;have bY:=O cK;have bS:=O cw;have bV:=O aw;have bR:=O ci;have cF:=az.size;clear K1 y0 cw aw cK az k1 hm H aH ci;go_wp2_with fail;refine(V K2).mono ?_;rintro e w2 ⟨rfl,cM,cz,cE,cL,aA⟩;have k2:∀g,g<w1.heap.size->(Value.slice Z M.length B).ownBlock≠some g->w2.heap[g]?=w1.heap[g]?:=fun g a b=>aA.block g a (fun e=>b e.symm);have bw:w2.heap[w0.heap.size+2]?=some (.cells #[.slice af R.length D,.slice Z M.length B,.map (some (w0.heap.size+1))] 168 (0,0)):=(by rw[k2 _ (x0D U) (fun e=>(V aQ _ e).2.2 rfl)];exact U);have aq:w2.heap[w0.heap.size]?=some (.cells #[.slice none 0 0,.slice none 0 0,.map none] 168 (0,0)):=(by rw[k2 _ (x0D aO) (fun e=>(V aQ _ e).1 rfl)];exact aO);have bp:w2.heap[w0.heap.size+1]?=some (.map es cl):=(by rw[k2 _ (x0D aN) (fun e=>(V aQ _ e).2.1 rfl)];exact aN);have aV:Bw w0 w2:=bK.trans ⟨aA.os,aA.tape,aA.output,aA.size,fun g C=>k2 g (by have:=bK.size;exact f6J) (fun e=>by have:=(bM.1.lt g e).1;exact f6J)⟩;have cj:Rsx w0 w2 (.slice af R.length D) bQ:=(V bY).keep aA.size fun g C=>k2 g (by have:=V cP g C;have:=cF;exact f6J) (fun e=>V bR g C e);obtain⟨z0,z1,z2⟩:=cells3 bw;obtain⟨r0,r1,r2⟩:=cells3 aq;have f0:=x0d (j:=0) aq;have f1:=x0d (j:=1) aq;have f2:=x0d (j:=2) aq;have cS:=O cL;have cO:=O cj;have bT:=O cz;have bX:=O cE;have cN:=O aV;have cQ:=O aq;have am:=O bp;clear K2 y1 k2 U aO aN aA bY bR bM bK cL cj cz cE aV aq bp bw;go_wp2;obtain⟨w9,h9,g3,aX,bO,ab⟩:=set3 (.slice af R.length D) (.slice Z M.length B) (.map (some (w0.heap.size+1))) (V cQ);rw[h9];obtain⟨c0,c1,c2⟩:=cells3 g3;replace ab:=ab _ _ (l0r _) (V cN);have a1:=(V cO).keep bO (fun g C=>aX g (V aP g C).1);have a2:=(V cS).keep bO (fun g C=>aX g (V aQ g C).1);have l1:bQ.length<=1000000000:=(by have:=(V bS).length_eq;exact f6J);have l2:cM.length<=1000000000:=(by have:=(V bT).length_eq;exact f6J);obtain⟨o1,m1⟩:=Cn.x3u (f:=2) (.inl rfl) (cs:=bQ.map (·.1)) (p:=is6) (V aR) (fun r=>⟨fun h=>by rw[o0d h];decide,fun h=>d0t (Cn.y8S h)⟩) (e1 ▸ (V bS).map _) (List.pairwise_map.2 (V bV));obtain⟨o2,m2⟩:=Cn.x3u (f:=3) (.inr rfl) (cs:=cM.map (·.1)) (p:=is78) (V aR) (fun r=>⟨fun h=>by rcases o0d h with e | e<;>(rw[e];decide),fun h=>d0t (Cn.fam_three' h)⟩) (e2 ▸ (V bT).map _) (List.pairwise_map.2 (V bX));have HF:y7x w0 l (.returned (.agg #[.slice af R.length D,.slice Z M.length B,.map (some (w0.heap.size+1))])) w9:=⟨_,_,_,_,rfl,⟨a1.rcs ab l1,a2.rcs ab l2,o1,o2,m1,m2,V aR⟩,⟨es,cl,by rw[aX _ f6J];exact V am,cX⟩,ab⟩;clear a1 a2 o1 o2 m1 m2 g3 aX ab bO h9;refine bodyPost_ret (show _=Result.ok (.agg #[.slice af R.length D,.slice Z M.length B,.map (some (w0.heap.size+1))]) w9 by simp[results,Tryz.results91,go_sem,c0,c1,c2]) rfl ?_;exact HF
open Ti
namespace Cn
theorem y5W{f}{rs:List Rec}{k}(G:k<rs.length):famOf f (rs.take (k+1))=famOf f (rs.take k)++(if fam (rs.getD k none).kind=f then[rs.getD k none]else[]):=by
 have e:rs.take (k+1)=rs.take k++[rs.getD k none]:=f0h;rw[e];unfold famOf;rw[List.filter_append];congr 1;generalize rs.getD k none=x;by_cases h:fam x.kind=f
 ·grind
 ·grind
end Cn
def FamB(w:World)(rs:List Rec)(f:Int)(e:Ending)(w':World):Prop:=∃v xs,e=.returned v/\xs.map (·.1)=Cn.famOf f rs/\Rsh w w' v xs/\Below w.heap.size w w'
theorem Rsh.lowerB{w0 w w' v}{xs:List Sp}(h:Rsh w0 w v xs)(Y:Bw w w'):Rsh w0 w' v xs:=⟨x8R h.1 Y,h.2⟩
theorem x5w v rs kind w(hg:Glob w)(N:Rcs w v rs)(G:I64 kind):Calls prog 144 #[v,.int .i64 kind] w (FamB w rs (Cn.fam kind)):=by
 obtain⟨i1,hj,p,aC,aD⟩:=info_parts Tryz.info60;have aI:=N.1;have KF:Hid (∀W c,Bw w W->I64 c->Calls prog 143 #[.int .i64 c] W (IntB W (Cn.fam c))):=fun W c h hc=>x1f c W (hg.on h) hc
 have D:Hid (∀k,k<rs.length->∃b R M,v=.slice (some ⟨b,R,none⟩) rs.length M/\RecAt w b (R+k*8) (rs.getD k Cn.none)/\RecFit (rs.getD k Cn.none)):=fun k G=>by
  obtain⟨b,R,M,he,_,_,hc⟩:=N.place f6J;exact⟨b,R,M,he,hc k G,N.fit G⟩
 have ar:Hid (∀k,k<rs.length->Cn.famOf (Cn.fam kind) (rs.take (k+1))=Cn.famOf (Cn.fam kind) (rs.take k)++(if Cn.fam (rs.getD k Cn.none).kind=Cn.fam kind then[rs.getD k Cn.none]else[])):=fun k G=>Cn.y5W G;obtain⟨ao,M,aB,_,_⟩:=N.shape;obtain⟨aF,aG⟩:=G;have aw:Hid (∀W,Bw w W->Calls prog 143 #[.int .i64 kind] W (IntB W (Cn.fam kind))):=fun W h=>V KF W kind h ⟨aF,aG⟩;subst aB;generalize Cn.fam kind=f at *;go_enter func144,ntmps144;go_wp2;go_loopw[5,7,10] (fun ov _ iv wr=>∃k:Nat,iv=.int .i64 k/\k<=rs.length/\∃X,X.map (·.1)=Cn.famOf f (rs.take k)/\X.length<=k/\Rsh w wr ov X/\Bw w wr) (fun _ _ iv _=>rs.length-(intOf iv).toNat)
 case atStart=>exact⟨0,rfl,f6J,[],rfl,by simp,⟨World.ownsRow_nil _ _ _ _,fun x hx=>by cases hx⟩,b0r⟩
 case round =>
  obtain⟨k,rfl,G,X,aj,aN,I,T⟩:=hrel;by_cases E:k<rs.length
  ·obtain⟨b,R,aH,he,hA,s⟩:=V D k E;obtain⟨e1,e2,e3⟩:=Value.slice.inj he;subst e1;have aK:=O (V ar k E);obtain⟨y0,y1,y2,y3,⟨va,y4,L⟩,y5,y6,y7⟩:=hA;obtain⟨d,J,rfl,_,_⟩:=L.shape;have hold:∀j u,w.cell? ⟨b,R+k*8+j,none⟩=some u->wr.cell? ⟨b,R+k*8+j,none⟩=some u:=fun j u h=>I3R;have x0:wr.cell? ⟨b,R+k*8,none⟩=_:=hold 0 _ y0;have x1:=hold 1 _ y1;have x2:=hold 2 _ y2;have x3:=hold 3 _ y3;have x4:=hold 4 _ y4;have x5:=hold 5 _ y5;have x6:=hold 6 _ y6;have x7:=hold 7 _ y7;have l:Hid (Sk .i32 w (sval (rs.getD k Cn.none,d,(rs.getD k Cn.none).to.length,J)) (rs.getD k Cn.none).to/\RecFit (rs.getD k Cn.none)):=⟨L,s⟩;have aA:=s.kind;generalize rs.getD k Cn.none=r at *;have aM:∀W a m,(store a (.float .f64 r.wt) m).run prog W=stored prog W a (.float .f64 r.wt) m:=fun W a m=>run_store prog W a _ m rfl;obtain⟨W1,aL,Y,F⟩:=x0M wr r.kind r.lo r.hi r.n (.slice d r.to.length J) r.name r.other r.wt;have K1:=O (V KF W1 r.kind (bthen T F) aA);have U:=O Y;obtain⟨z0,z1,z2,z3,z4,z5,z6,z7⟩:=Y;have am:=O (bthen T F);have S:=O (I.lowerB F);have z:Hid (∀W:World,∀j u,(encR (r,d,r.to.length,J))[j]?=some u->(W.alloc (.cells #[.int .i64 r.kind,.int .i64 r.lo,.int .i64 r.hi,.int .i64 r.n,.slice d r.to.length J,.string r.name,.string r.other,.float .f64 r.wt] 60)).cell? ((⟨W.heap.size,0,none⟩:Addr).add j)=some u):=fun W=>x2O W r d J W.heap.size rfl;have K:=O (x9p (r,d,r.to.length,J));go_wp2_with fail;refine c0m K1 fun w2 ae=>?_;have i:=O (bthen (V am) ae);have Z:=O ((V S).lowerB ae);have ag:=O ((V U).keep ae);have K2:=O (V aw w2 (V i));go_wp2_with fail;refine c0m K2 fun B t=>?_;have ab:=bthen (V i) t;have H:=(V Z).lowerB t;obtain⟨z0,z1,z2,z3,z4,z5,z6,z7⟩:=(V ag).keep t;generalize Cn.fam r.kind=P at *;by_cases hf:P=f
   ·subst hf;have C:Hid ((X++[(r,d,r.to.length,J)]).map (·.1)=Cn.famOf P (rs.take (k+1))):=by grind
    have A:Hid (∀Q w9 o,w9.ownsRow w.heap.size 60 8 Q (X.length+1) (X.flatMap encR++encR (r,d,r.to.length,J))->(B.alloc o).grownBy w9 u5.ownBlock->Rsh w w9 Q (X++[(r,d,r.to.length,J)])/\Bw w w9):=fun Q w9 o af q=>by
     have ha:=ab.alloc ab.size o;refine⟨⟨by simpa using af,fun y hy=>?_⟩,ha.grown q ha.size (fun g hg=>(H.1.lt g hg).1)⟩;rcases List.mem_append.1 hy with hy | hy
     ·exact H.2 y hy
     ·simp only[List.mem_singleton]at hy;subst hy;exact V l
    have ai:Hid (∀o,(B.alloc o).ownsRow w.heap.size 60 8 u5 X.length (X.flatMap encR)):=fun o=>H.1.alloc o;have aJ:=ab.size;have aq:=O (V z B);go_wp2_with(at_builtin;refine wpList_append_own _ rfl (.tmp 20) (.tmp 22) 22 rfl w.heap.size 60 i1 (.agg #[.int .i64 0,.int .i64 0,.int .i64 0,.int .i64 0,.slice none 0 0,.string ⟨#[]⟩,.string ⟨#[]⟩,.float .f64 0]) 8 96 underlying22 hj p aC aD rfl e8Q _ _ _ rfl (V ai _) ⟨B.heap.size,0,none⟩ 1 1 (encR (r,d,r.to.length,J)) rfl rfl (V aq) (V K) T7X f6J P8P ?_);intro Q w9 af q _;obtain⟨az,ay⟩:=V A Q w9 _ af q;go_wp2
    go_roundw
    case rel=>exact⟨k+1,g2E,f6J,_,V C,P8P,az,ay⟩
    case measure=>exact g7W
   ·have df:(P==f)=false:=b0f hf;have C:Hid (X.map (·.1)=Cn.famOf f (rs.take (k+1))):=(by grind);go_wp2
    go_roundw
    case rel=>exact⟨k+1,g2E,f6J,X,V C,f6J,H,ab⟩
    case measure=>exact g7W
  ·obtain rfl:k=rs.length:=f6J;rw[List.take_of_length_le (l0r _)]at aj;have HF:Hid (FamB w rs f (.returned u5) wr):=⟨u5,X,rfl,aj,I,T⟩;exact I7o
def isNaNB(b:Nat):Bool:=FloatKind.f64.format.order b b != some Ordering.eq
theorem y7o b w:Calls prog 199 #[.float .f64 b] w fun e w'=>e=.returned (.bool (isNaNB b))/\w'=w:=by
 go_enter func199,ntmps199;exact t6u
theorem z1K n w:(callFunc 249 #[.int .u64 n]).run prog w=.ok (.value (.float .f64 n.toNat)) w:=by
 rw[run_callFunc_extern (e:=Extern.MathFloatBits.float64frombits) func249 f4x f4x f4x f4x];rfl
theorem y7p n w:Calls prog 200 #[.int .u64 n] w fun e w'=>e=.returned (.float .f64 n.toNat)/\w'=w:=by
 have h:=z1K n;go_enter func200,ntmps200;exact t6u
theorem to32 b w:∃u n,(convert 58 278 (.float .f64 b)).run prog w=.ok (.float .f32 u) (w.drewN n):=by
 have L:=underlying58;have hd:=underlying278
 have S:∃u n,(Conv.floatToFloat .f64 b .f32).run prog w=.ok (.float .f32 u) (w.drewN n):=n1o
 exact r1a
theorem to64 b w:∃u n,(convert 278 58 (.float .f32 b)).run prog w=.ok (.float .f64 u) (w.drewN n):=by
 have L:=underlying278;have hd:=underlying58
 have S:∃u n,(Conv.floatToFloat .f32 b .f64).run prog w=.ok (.float .f64 u) (w.drewN n):=n1o
 exact r1a
theorem y3e b w:Calls prog 149 #[.float .f64 b] w fun e w'=>∃u n,e=.returned (.float .f64 u)/\w'=w.drewN n:=by
 have q:=O (y7o b w);have g:=O (fun w=>y7p 9221120237041090560 w);obtain⟨u1,U,Z⟩:=to32 b w;obtain⟨u2,d,D⟩:=to64 u1 (w.drewN U);generalize isNaNB b=t at *
 cases t with
 | true =>
  go_enter func149,ntmps149;go_wp2_with fail;refine(V q).mono ?_;rintro e w ⟨rfl,rfl⟩;go_wp2_with fail;refine(V g _).mono ?_;rintro e w ⟨rfl,rfl⟩;go_wp2;go_ret;exact⟨_,0,rfl,rfl⟩
 | false =>
  go_enter func149,ntmps149;go_wp2_with fail;refine(V q).mono ?_;rintro e w ⟨rfl,rfl⟩;go_wp2;go_ret;exact⟨_,U+d,rfl,by first| rfl|(simp[World.drewN];omega)⟩
end Go.Proofs.YtkfcabdmkmljjaaGreatDoor
namespace Go.Proofs.YtkfcabdmkmljjaaGreatDoor.Cn
open Go.Proofs.Tryz
def bad7(l:List Rec)(i:Nat)(r:Rec):Bool:=decide ((firstP l (r.to.getD 0 0) (r.to.getD 1 0)).getD 0<(i:Int))||wpair l r.lo (r.to.getD 0 0) (r.to.getD 1 0)
theorem x6l l i r:record l i r=if fam r.kind≠2/\fam r.kind≠3 then 0
 else if covers r 0 127 then 70
 else if touches r=true then 71
 else if r.kind=7/\makes (r.to.getD 0 0) (r.to.getD 1 0)=true then 71
 else if fam r.kind=2 then 0
 else if(full l r.lo).2≠0 then(full l r.lo).2
 else if fallsA l (full l r.lo).1 then 75
 else if r.kind=7/\pair l i r=false then 74
 else 0:=rfl
theorem y3p{l i r}(q:r.kind≠6)(y:r.kind≠7)(W:r.kind≠8):record l i r=0:=by
 rw[x6l];rw[if_pos ⟨fun h=>q (y8S h),fun h=>by rcases fam_three' h with e | e<;>contradiction⟩]
theorem y6N{l i r}(hr:right r=0)(G:r.kind=6\/r.kind=7\/r.kind=8)(S:r.lo<128):record l i r=70:=by
 have o:fam r.kind=2\/fam r.kind=3:=e7r;have j:r.kind≠15:=f6J;have L:=x0p hr j;rw[x6l];rw[if_neg (fun h=>f6J),if_pos (show covers r 0 127=true from d0t ⟨f6J,f6J⟩)]
theorem x2s{l i r}(G:r.kind=6\/r.kind=7\/r.kind=8)(S:¬r.lo<128)(U:(touches r||(decide (r.kind=7)&&makes (r.to.getD 0 0) (r.to.getD 1 0)))=true):record l i r=71:=by
 have o:fam r.kind=2\/fam r.kind=3:=e7r;rw[x6l];rw[if_neg (fun h=>f6J),if_neg (show ¬covers r 0 127=true from fun h=>by have:=o0d h;exact f6J)];by_cases Z:touches r=true
 ·rw[if_pos Z]
 ·grind
theorem x3I{l i r}(G:r.kind=6\/r.kind=7\/r.kind=8)(S:¬r.lo<128)(U:(touches r||(decide (r.kind=7)&&makes (r.to.getD 0 0) (r.to.getD 1 0)))=false) :
  record l i r=if r.kind=6 then 0 else if wfull l r.lo≠0 then wfull l r.lo else if r.kind=7/\pair l i r=false then 74 else 0:=by
 have o:fam r.kind=2\/fam r.kind=3:=(by rcases G with e | e | e<;>(rw[e];decide));rw[Bool.or_eq_false_iff]at U;rw[x6l];rw[if_neg (fun h=>f6J),if_neg (show ¬covers r 0 127=true from fun h=>by have:=o0d h;exact f6J),if_neg (show ¬touches r=true by rw[U.1];exact M7N)]
 rw[if_neg (fun h=>by
  have h2:=U.2;rw[Bool.and_eq_false_iff]at h2;rcases h2 with h2 | h2
  ·grind
  ·have J:makes (r.to.getD 0 0) (r.to.getD 1 0)=true:=h.2
   rw[h2]at J;cases J)]
 rcases G with e | e | e
 ·rw[e,if_pos (e8N:fam 6=2),if_pos rfl]
 ·rw[if_neg (show ¬fam r.kind=2 by rw[e];exact e8N),if_neg (f6J:¬r.kind=6)];unfold wfull;by_cases Z:(full l r.lo).2≠0
  ·omega
  ·grind
 ·rw[if_neg (show ¬fam r.kind=2 by rw[e];exact e8N),if_neg (f6J:¬r.kind=6)];unfold wfull;by_cases Z:(full l r.lo).2≠0
  ·rw[if_pos Z,if_pos Z,if_pos Z]
  ·grind
theorem z4g{l i}(hi:i<l.length)(y:(l.getD i none).kind=7):pair l i (l.getD i none)=!bad7 l i (l.getD i none):=by
 rw[pair_w];unfold bad7;have h:=y8X hi y;cases hA:(l.take i).any fun k=>decide (k.kind=7/\k.to.getD 0 0=(l.getD i none).to.getD 0 0/\k.to.getD 1 0=(l.getD i none).to.getD 1 0)
 ·grind
 ·grind
end Go.Proofs.YtkfcabdmkmljjaaGreatDoor.Cn
namespace Go.Proofs.YtkfcabdmkmljjaaGreatDoor
open Go.Proofs.Tryz
open Go.RowKit
theorem z1Y cao oao tao(cl C E D a K A i:Nat) kd lo hi nn tz nm ot wt w(R:kd≠6)(B:kd≠7)(M:kd≠8) :
  Calls prog 92 #[xV (.slice cao cl C) (.slice oao E D) (.map (some A)),.int .i64 (i:Int),recV ⟨kd,lo,hi,nn,tz,nm,ot,wt⟩ (.slice tao a K)] w (IntB w 0):=by
 have N:(kd==6)=false:=b0f R;have F:(kd != 6)=true:=W9W;have m:(kd==7)=false:=b0f B;have c:(kd==8)=false:=b0f M;have U:IntB w 0 (.returned (.int .i64 0)) ((w.alloc (.cells #[.slice cao cl C,.slice oao E D,.map (some A)] 168)).alloc (.cells #[.int .i64 kd,.int .i64 lo,.int .i64 hi,.int .i64 nn,.slice tao a K,.string nm,.string ot,.float .f64 wt] 60)):=⟨rfl,((b0r).alloc (l0r _) _).alloc M7K _⟩;unfold xV recV;go_enter func92,ntmps92;go_wp2;go_ret;exact U
theorem z4X cao oao tao(cl C E D a K A i:Nat) kd lo hi nn tz nm ot wt w(G:kd=6\/kd=7\/kd=8)(S:lo<128) :
  Calls prog 92 #[xV (.slice cao cl C) (.slice oao E D) (.map (some A)),.int .i64 (i:Int),recV ⟨kd,lo,hi,nn,tz,nm,ot,wt⟩ (.slice tao a K)] w (IntB w 70):=by
 unfold xV recV;rcases G with rfl | rfl | rfl
 all_goals
  have U:∀W,Bw w W->IntB w 70 (.returned (.int .i64 70)) W:=fun W h=>⟨rfl,h⟩;go_enter func92,ntmps92;go_wp2;go_ret;exact U _ (((b0r).alloc (l0r _) _).alloc M7K _)
