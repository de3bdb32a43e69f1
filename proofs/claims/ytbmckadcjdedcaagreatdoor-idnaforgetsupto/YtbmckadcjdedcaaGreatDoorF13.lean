import Derived.Test.YtbmckadcjdedcaaGreatDoorF8
import Derived.Test.YtbmckadcjdedcaaGreatDoorF15
import Derived.Test.YtbmckadcjdedcaaGreatDoorF20
import Derived.Laws.Externs
import Derived.Laws.FloatArith
set_option maxHeartbeats 16000000
set_option maxRecDepth 20000
namespace Go.Proofs.YtbmckadcjdedcaaGreatDoor
open Go.Proofs.Tryz
open Go.RowKit Go.MapKept Go.WideMaps
open Go.ChangeMaps (setBlock)
section
variable{p:Prop}
theorem n1o(h:p:=by
 unfold Conv.floatToFloat;rw[if_neg e8M];split
 ·exact t5f
 ·exact⟨_,0,rfl⟩
 ·dsimp only;split
  ·exact t5f
  ·exact⟨_,0,rfl⟩):p:=h
theorem e7r(h:p:=by rcases G with e|e|e<;>(rw[e];decide)):p:=h
theorem m9k(h:p:=by obtain⟨u,n,h⟩:=S;refine⟨u,n,?_⟩;rw[<- h];simp[convert,run_underlying U,run_underlying hd]):p:=h
theorem t5f(h:p:=by
 rw[Sem.run_bind,run_choose_drew];split
 ·exact⟨_,0,rfl⟩
 ·exact⟨_,1,rfl⟩):p:=h
theorem u6y(h:p:=by rw[ltG]at *;simp at *;exact f6J):p:=h
theorem g3F(h:p:=by
 go_roundw
 case rel=>exact⟨k+1,by go_num,f6J,ag⟩
 case measure=>exact g7Y):p:=h
theorem n9Y(h:p:=by show((w.heap.push _).push _)[w.heap.size]?=_;rw[Array.getElem?_push,Array.getElem?_push];simp):p:=h
theorem w3S(h:p:=by(intro w hSw;obtain⟨s0,s1,s,s3,s4,s5,s6,s7,s8,s9⟩:=hSw;go_simp)):p:=h
theorem f0x(h:p:=by(intro w hSw;obtain⟨s0,s1,s,s3,s4,s5,s6,s7,s8⟩:=hSw;go_simp)):p:=h
theorem s5q(h:p:=by show 0<8;exact f6J):p:=h
theorem T7f(h:p:=by show 0<3;exact f6J):p:=h
theorem p8U(h:p:=by first| exact y | simpa using y):p:=h
theorem G0Z(h:p:=by show 1<8;exact f6J):p:=h
theorem E1l(h:p:=by first| rfl | exact aq):p:=h
theorem V3Y(h:p:=by show 2<8;exact f6J):p:=h
theorem e8d(h:p:=by show 3<8;exact f6J):p:=h
theorem e2U(h:p:=by show 4<8;exact f6J):p:=h
theorem i3Y(h:p:=by show 5<8;exact f6J):p:=h
theorem F4N(h:p:=by show 6<8;exact f6J):p:=h
theorem U3M(h:p:=by show 7<8;exact f6J):p:=h
theorem w8s(h:p:=by simp[is78]):p:=h
theorem T7F(h:p:=by simp[is6]):p:=h
end
def KP(v:Value):Prop:=∃a b,v=pk2 a b/\Rune a/\Rune b
theorem ulawP:KeyLaw prog 208:=deep_law_laid x5W (m:=3) e8N (o0d f4x) f4x f4x
theorem y7q:prog.cellsOf 208=2:=f4x
theorem y8R:prog.keyType 208=true:=f4x
theorem y5z{a b}(g:Rune a)(Y:Rune b) D:prog.keyLits (D+2) 208 [.int .i32 a,.int .i32 b]=some [.int .i32 a,.int .i32 b]:=by
 rw[Program.keyLits.eq_def];simp only[underlying208,y7q];rw[if_pos ⟨rfl,M7K⟩];simp[List.mapM_cons,x3v g D,x3v Y D,y7o]
theorem z9O{v}(h:KP v):∃l,keyOf prog 208 v=some l:=by
 obtain⟨a,b,rfl,g,Y⟩:=h
 have X:(pk2 a b).formed prog 208=true:=by
  simp[pk2,Value.formed,underlying208,y7q]
 obtain⟨n,E⟩:∃n,prog.types.size+1=n+2:=⟨prog.types.size-1,m4z⟩;refine⟨.string (keyBytes [.int .i32 a,.int .i32 b]),?_⟩;unfold keyOf;simp only[underlying208,y8R,X,Bool.and_self,if_true,E];show(prog.keyLits (n+2) 208 [.int .i32 a,.int .i32 b]).map _=_;rw[y5z g Y n];rfl
theorem klP:KL 208 KP:=KL.of ulawP fun _ h=>z9O h
def KR(v:Value):Prop:=∃a,v=.int .i32 a
theorem klR:KL 21 KR:=by
 have G:∀v,KR v->IsKey (.int .i32) v:=fun v h=>(by obtain⟨a,rfl⟩:=h;exact rfl);refine⟨fun w C v h=>run_checkKey underlying21 (G v h) C 9999,fun w x h A B=>?_,fun w v h=>?_⟩
 ·rcases findNow_spec (G x h) A 0 (fun e d=>G _ (B e d))with⟨Z,D⟩|⟨j,e,Z,D,R⟩
  ·exact .inl ⟨run_findKey underlying21 Z,D⟩
  ·rw[Nat.zero_add]at Z;exact .inr ⟨j,e,run_findKey underlying21 Z,D,R⟩
 ·exact run_keyThatStays (G v h)
def KN(v:Value):Prop:=∃a b,v=pk a b/\Sh a/\Sh b
theorem ulawN:KeyLaw prog 211:=deep_law_laid x5W (m:=3) e8N (o0d f4x) f4x f4x
theorem y7m:prog.cellsOf 211=2:=f4x
theorem y8P:prog.keyType 211=true:=f4x
theorem y5x{a b}(g:Sh a)(Y:Sh b) D:prog.keyLits (D+2) 211 [.string a,.string b]=some [.string a.data.toList,.string b.data.toList]:=by
 rw[Program.keyLits.eq_def];simp only[underlying211,y7m];rw[if_pos ⟨rfl,M7K⟩];simp[List.mapM_cons,x2E g D,x2E Y D,y7p]
theorem z8J{v}(h:KN v):∃l,keyOf prog 211 v=some l:=by
 obtain⟨a,b,rfl,g,Y⟩:=h
 have X:(pk a b).formed prog 211=true:=by
  simp[pk,Value.formed,underlying211,y7m]
 obtain⟨n,E⟩:∃n,prog.types.size+1=n+2:=⟨prog.types.size-1,m4z⟩;refine⟨.string (keyBytes [.string a.data.toList,.string b.data.toList]),?_⟩;unfold keyOf;simp only[underlying211,y8P,X,Bool.and_self,if_true,E];show(prog.keyLits (n+2) 211 [.string a,.string b]).map _=_;rw[y5x g Y n];rfl
theorem klN:KL 211 KN:=KL.of ulawN fun _ h=>z8J h
namespace Cn
def x2c(l:List Rec)(a b:Int):Option Int:=(l.reverse.find? (isP a b)).map (·.lo)
def secOf(l:List Rec)(b:Int):Nat:=l.countP fun r=>decide (r.kind=7/\r.to.getD 1 0=b)
theorem x6V l r a b:x2c (l++[r]) a b=if isP a b r=true then some r.lo else x2c l a b:=by
 unfold x2c;rw[List.reverse_append,List.reverse_cons,List.reverse_nil,List.nil_append,List.singleton_append,List.find?_cons];by_cases h:isP a b r=true
 ·rw[h,if_pos rfl];rfl
 ·grind
theorem x8w l r b:secOf (l++[r]) b=secOf l b+if r.kind=7/\r.to.getD 1 0=b then 1 else 0:=by
 unfold secOf;rw[List.countP_append,List.countP_singleton];by_cases h:r.kind=7/\r.to.getD 1 0=b
 ·grind
 ·grind
theorem z3g l b:secOf l b<=l.length:=List.countP_le_length
end Cn
def x3B(l:List Rec)(v:Value):Option Value :=
 match v with
 | .agg ⟨[.int .i32 a,.int .i32 b]⟩=>(Cn.x2c l a b).map (Value.int .i32)
 | _=>none
def secC(l:List Rec)(v:Value):Option Value :=
 match v with
 | .int .i32 b=>if Cn.secOf l b=0 then none else some (.int .i64 (Cn.secOf l b:Nat))
 | _=>none
theorem y4h l a b:x3B l (pk2 a b)=(Cn.x2c l a b).map (Value.int .i32):=rfl
theorem x6U{l r v}(h:∀a b,v=pk2 a b->¬(r.kind=7/\r.to.getD 0 0=a/\r.to.getD 1 0=b)):x3B (l++[r]) v=x3B l v:=by
 unfold x3B;split
 ·rename_i a b
  rw[Cn.x6V,if_neg];intro L;exact h a b rfl (o0d L)
 ·rfl
theorem x8v{l r v}(h:∀b,v=.int .i32 b->¬(r.kind=7/\r.to.getD 1 0=b)):secC (l++[r]) v=secC l v:=by
 unfold secC;split
 ·rename_i b
  rw[Cn.x8w,if_neg (h b rfl),Nat.add_zero]
 ·rfl
theorem y9F v:x3B [] v=none:=by
 unfold x3B;split<;>rfl
theorem z3f v:secC [] v=none:=by
 unfold secC;split<;>rfl
open Go.RowKit Go.Sort Go.Shelf
open Ti
def encG(x:Tri.Rg):List Value:=[.int .i64 (Tri.lo x),.int .i64 (Tri.hi x),.int .i64 (Tri.vl x)]
theorem z1K(x:Tri.Rg):(encG x).length=3:=rfl
theorem z1L(x:Tri.Rg):∀v∈encG x,v.oneCell'=true:=by
 intro v N;simp only[encG,List.mem_cons,List.mem_nil_iff,or_false]at N;rcases N with rfl|rfl|rfl<;>rfl
def loG(x y:Tri.Rg):Int:=Lib.compareInt (Tri.lo x) (Tri.lo y)
theorem ltG(x y:Tri.Rg):ltOf loG x y=decide (Tri.lo x<Tri.lo y):=by
 unfold ltOf loG Lib.compareInt;by_cases Z:Tri.lo x<Tri.lo y
 ·simp[Z]
 ·grind
theorem swoG:SWO (ltOf loG):={
 irrefl:=fun x=>by rw[ltG];exact M7L
 trans:=fun x y z Z D=>u6y
 ntrans:=fun x y z Z D=>u6y }
theorem y7j(x y:Tri.Rg) W:Calls prog 186 #[.agg (encG x).toArray,.agg (encG y).toArray] W fun e w'=>e=.returned (.int .i64 (loG x y))/\∃q A,w'=grow (W.drewN q) A:=by
 have K:=O (fun W=>x2Z (Tri.lo x) (Tri.lo y) W);have e:Lib.compareInt (Tri.lo x) (Tri.lo y)=loG x y:=rfl;rw[e]at K;show Calls prog 186 #[.agg #[.int .i64 (Tri.lo x),.int .i64 (Tri.hi x),.int .i64 (Tri.vl x)],.agg #[.int .i64 (Tri.lo y),.int .i64 (Tri.hi y),.int .i64 (Tri.vl y)]] W _;go_enter func186,ntmps186;exact u6L
theorem x8q(xs:List Tri.Rg) i j(hi:i<xs.length)(K:j<3):(Ti.rcells xs)[i*3+j]?=some ((encG (xs.getD i (0,0,0)))[j]!):=by
 obtain⟨A,Z,D⟩:=Ti.x1v xs i hi;have S:=Ti.x1R xs;have e:∀k,k<(Ti.rcells xs).length->(Ti.rcells xs)[k]?=some ((Ti.rcells xs).getD k undef):=fun k G=>w8a
 match j,K with
 | 0,_=>rw[Nat.add_zero,e _ f6J,A];rfl
 | 1,_=>rw[e _ f6J,Z];rfl
 | 2,_=>rw[e _ f6J,D];rfl
theorem Or4.holds[Inhabited Tri.Rg]{w B g cap}{xs:List Tri.Rg}(h:Or4 w B (.slice (some ⟨g,0,none⟩) xs.length cap) xs):HoldsK encG 3 w g 0 xs.toArray:=by
 intro j K;rw[size_flatK]at K;have W:j<xs.length*3:=R6c;rw[get_flatK _ _ _ _ K];have hd:j / 3<xs.length:=f6J
 have e:=h.2.2.cells (g:=g) rfl j _ (by
  have:=x8q xs (j / 3) (j%3) hd f6J;rw[(f6J:j / 3*3+j%3=j)]at this
  exact this)
 rw[addr_add,Nat.zero_add]at e;have A:xs.toArray[j / 3]! = xs.getD (j / 3) (0,0,0):=(by grind);rw[A,Nat.zero_add];refine⟨e,?_⟩;rcases h.2.2.2 with⟨N,_⟩|⟨S,J,T,N,_,a,_⟩
 ·simp at N
 ·exact m0L
theorem y2X[Inhabited Tri.Rg]{w:World}{blk n}{d:Array Tri.Rg}{Y:Array Obj}:w.grownBy (sortWorldK encG 3 w blk 0 n d Y) (some blk):=by
 refine⟨rfl,rfl,rfl,?_,fun k G F=>?_⟩
 ·show w.heap.size<=((putRowK encG 3 (Sort.ahead w n) blk 0 d).heap++Y).size;rw[Array.size_append];have:(putRowK encG 3 (Sort.ahead w n) blk 0 d).heap.size=w.heap.size:=r2O;omega
 ·show((putRowK encG 3 (Sort.ahead w n) blk 0 d).heap++Y)[k]?=_;have U:(putRowK encG 3 (Sort.ahead w n) blk 0 d).heap.size=w.heap.size:=r2O;exact i1T
theorem z2f p cap fv w:Calls prog 269 #[.slice p 0 cap,.int .i64 0,.int .i64 0,fv] w fun e w'=>e=.returned (.tuple #[])/\w'=w:=by
 go_enter func269,ntmps269;exact f0B
theorem z2R p cap lim fv w:Calls prog 237 #[.slice p 0 cap,.int .i64 0,.int .i64 0,.int .i64 lim,fv] w fun e w'=>e=.returned (.tuple #[])/\w'=w:=by
 have hi:=fun W=>z2f p cap fv W;go_enter func237,ntmps237;go_wp2;refine wp_loop_rounds 1 ?_;rw[rounds_succ];go_wp2_with(go_at_call 269;refine(hi _).mono ?_;rintro e w' ⟨rfl,rfl⟩)
 exact m8y
theorem z0r p cap fv w:Calls prog 185 #[.slice p 0 cap,fv] w fun e w'=>e=.returned (.tuple #[])/\w'=w:=by
 have S:∀W,Calls prog 171 #[.int .u64 0] W fun e w'=>e=.returned (.int .i64 0)/\w'=W:=fun W =>
  Any.bits_Len (SlLaysF0.n15.bits (P:=prog) (ρ:=Tryz.lays185_ren) { Tryz.lays185 with }) 0 W f6J f6J
 have L:=fun A W=>z2R p cap A fv W;go_enter func185,ntmps185;go_wp2_with(first| (go_at_call 171;refine(S _).mono ?_;rintro e w' ⟨rfl,rfl⟩)|(go_at_call 237;refine(L _ _).mono ?_;rintro e w' ⟨rfl,rfl⟩));go_end0;exact⟨rfl,rfl⟩
def SortG(w:World)(v:Value)(xs:List Tri.Rg)(e:Ending)(w':World):Prop:=e=.returned (.tuple #[])/\∃ys:List Tri.Rg,ys.Perm xs/\(ys.Pairwise fun a b=>Tri.lo a<=Tri.lo b)/\Sr w' v ys/\w.grownBy w' v.ownBlock
theorem y1s w B v(xs:List Tri.Rg)(h:Or4 w B v xs)(S:xs.length<=5000000000):Calls prog 185 #[v,.func (.func 186) #[] #[]] w (SortG w v xs):=by
 have k:Inhabited Tri.Rg:=⟨(0,0,0)⟩;have s:=h.sr;rcases h.2.2.2 with⟨rfl,A⟩|⟨g,M,T,rfl,C,a,E,t,q,Q⟩
 ·obtain rfl:xs=[]:=List.eq_nil_of_length_eq_zero A;refine(z0r none 0 _ w).mono ?_;rintro e l ⟨rfl,rfl⟩;exact⟨rfl,[],List.Perm.refl _,.nil,s,⟨rfl,rfl,rfl,l0r _,fun _ _ _=>rfl⟩⟩
 ·have H:=(h.2.2.lt g rfl).2;have d:=Or4.holds h;have D:∀F w,(callFunc 186 F).run prog w=.ok (.enter 186 F) w:=enters_of func186 f4z rfl;have W:CmpLays prog 186 #[] encG 3 loG g 0 xs.toArray.size w:=fun _ _ _ _ x y=>y7j x y _;have o:∀w,(isAgg 259).run prog w=.ok true w:=Tryz.isAgg259;have p:∀w,(Go.sizeOf 259).run prog w=.ok 3 w:=Tryz.sizeOf259;have K:=AnyQ.slices_SortFunc Tryz.lays185 3 o p encG z1K z1L loG swoG 186 #[] g 0 M xs.toArray w D W d H P8P;change Calls prog 185 #[.slice (some ⟨g,0,none⟩) xs.length M,_] w _ at K;refine K.mono ?_;rintro e l ⟨rfl,L,n,Y,⟨R,_,b⟩,U,rfl⟩;have f:L.size=xs.length:=by simpa using R
  have N:L.toList.Perm xs:=v4h
  have Z:SWK encG 3 w g 0 L (sortWorldK encG 3 w g 0 n L Y):=⟨n,Y,rfl⟩;have G:=Z.holds H d R;have z:L.toList.length=xs.length:=f6J;refine⟨rfl,L.toList,N,?_,⟨fun x J=>h.1 x (N.mem_iff.1 J),?_,by rw[z];exact h.2.1,.inr ⟨g,0,M,by rw[z],by rw[z];exact E,v9z,fun i hi=>?_⟩⟩,y2X⟩
  ·rw[List.pairwise_iff_getElem];intro i j hi r I;have:=U i j (Nat.zero_le _) I (by simp at r ⊢;exact f6J);rw[ltG,decide_eq_false_iff_not]at this;rw[getElem!_pos L j (by simpa using r),getElem!_pos L i w3D]at this;simp only[Array.getElem_toList];omega
  ·rw[Ti.x1R]
  ·rw[z]at hi;have X:i / 3<L.size:=f6J;have:=(G.cell (i:=i / 3) (c:=i%3) X f6J).1;rw[Nat.zero_add,(f6J:i / 3*3+i%3=i)]at this;rw[Nat.zero_add,this,getElem!_pos L _ X];have m:=x8q L.toList (i / 3) (i%3) (by rw[z];exact f6J) f6J;rw[(f6J:i / 3*3+i%3=i)]at m;rw[List.getD,m];simp[List.getD,X]
open Go.RowKit
open Ti
def x6g(w0:World)(xs:List Tri.Rg)(e:Ending)(w':World):Prop:=∃a m,e=.returned (.pointer (some a))/\m.Perm xs/\(m.Pairwise fun x y=>Tri.lo x<=Tri.lo y)/\T4 w' w0.heap.size (.pointer (some a)) m 0/\Below w0.heap.size w0 w'
theorem y7i w0 w v(xs:List Tri.Rg)(Y:Bw w0 w)(h:Or4 w w0.heap.size v xs)(S:xs.length<=5000000000)(N:∀m:List Tri.Rg,m.Perm xs->(m.Pairwise fun x y=>Tri.lo x<=Tri.lo y)->Tri.Val 0 m):Calls prog 138 #[v] w (x6g w0 xs):=by
 have H:=O (y1s w w0.heap.size v xs h S);have W:Hid (∀l,w.grownBy l v.ownBlock->Bw w0 l):=fun l C=>Y.grown C Y.size (fun k G=>(h.2.2.lt k G).1);have r:=O N;obtain⟨R,M,rfl,_,_⟩:=h.sr.shape;go_enter func138,ntmps138;go_wp2_with fail;refine(V H).mono ?_;rintro P Q ⟨rfl,ys,L,D,s,C⟩;have E:=V W Q C;have I:=V r ys L D;have o:=O (z3H _ ys 0 Q s ⟨f6J,f6J⟩);have n:(Tri.check 0 ys).2=0:=Tri.x4d.2 ⟨I,f6J,f6J⟩;have t:=O n;have A:=O L;have J:=O D;have U:=O E;go_wp2_with fail;refine(V o).mono ?_;rintro f d ⟨F,⟨_,a,rfl,p⟩|⟨X,_⟩⟩
 ·have T:x6g w0 xs (.returned (.pointer (some a))) d:=⟨a,ys,rfl,V A,V J,p.lower (V U).size,x0b (V U) F⟩;exact U7G
 ·exact absurd (V t) X
open Go.ChangeMaps (setBlock)
theorem Rsh.shape{w0 W v}{xs:List Sp}(h:Rsh w0 W v xs):∃ao cap,v=.slice ao xs.length cap/\xs.length<=cap/\cap<=9223372036854775807:=by
 rcases h.1.2 with⟨rfl,A⟩|⟨g,cap,T,rfl,_,_,E,t,_⟩
 ·exact⟨none,0,T7E,f6J,f6J⟩
 ·exact⟨_,cap,rfl,E,v9x⟩
theorem x6t(p:Rec->Bool) l r:(l++[r]).filter p=l.filter p++(if p r then[r]else[]):=by
 rw[List.filter_append];cases h:p r<;>simp[h]
def is6(r:Rec):Bool:=decide (r.kind=6)
def is78(r:Rec):Bool:=decide (r.kind=7\/r.kind=8)
def Made(w0 wr:World)(l:List Rec)(k:Nat):Prop:=∃(cv ov:Value) (cxs oxs:List Sp),NI w0 wr (Cn.firstP (l.take k)) cv ov cxs oxs/\cxs.map (·.1)=(l.take k).filter is6/\oxs.map (·.1)=(l.take k).filter is78
theorem Made.next{w0 wr l k r}{cv ov}{U E cxs' oxs':List Sp}{c:Int->Int->Option Int}(s:l.take (k+1)=l.take k++[r])
  (h:NI w0 wr c cv ov cxs' oxs') (I:c=Cn.firstP (l.take k++[r])) (P:U.map (·.1)=(l.take k).filter is6) (f:E.map (·.1)=(l.take k).filter is78)
  (Z:cxs'.map (·.1)=U.map (·.1)++(if is6 r then[r]else[])) (D:oxs'.map (·.1)=E.map (·.1)++(if is78 r then[r]else[])):Made w0 wr l (k+1):=by
 subst I;exact⟨cv,ov,cxs',oxs',by rw[s];exact h,by rw[s,x6t,Z,P],by rw[s,x6t,D,f]⟩
theorem y4a{l:List Rec}{k}{U E:List Sp}(P:U.map (·.1)=(l.take k).filter is6)(f:E.map (·.1)=(l.take k).filter is78)(S:l.length<=4096):U.length<=4096/\E.length<=4096:=by
 have Z:=congrArg List.length P;have D:=congrArg List.length f;rw[List.length_map]at Z D;have J:=List.length_filter_le is6 (l.take k);have I:=List.length_filter_le is78 (l.take k);have M:(l.take k).length<=l.length:=P8P;omega
theorem x3j(W:World) r tao tcap n(E:W.heap.size=n):∀j u,(encR (r,tao,r.to.length,tcap))[j]?=some u->(W.alloc (.cells #[.int .i64 r.kind,.int .i64 r.lo,.int .i64 r.hi,.int .i64 r.n,.slice tao r.to.length tcap,.string r.name,.string r.other,.float .f64 r.wt] 67)).cell? ((⟨n,0,none⟩:Addr).add j)=some u:=x5Z W n E r (.slice tao r.to.length tcap)
theorem x1h{W r L j v} o(h:L≠r)(I:W.cell? ⟨L,j,none⟩=some v):(setBlock W r o).cell? ⟨L,j,none⟩=some v:=by
 rw[World.cell?_of_block (x2e W o h)];exact I
theorem x5X{xs:List Int}{i}(h:i<xs.length):xs.getD i 0∈xs:=p8I
def y6M(w0:World)(l:List Rec)(e:Ending)(w':World):Prop:=∃cv ov cs os,e=.returned (xV cv ov (.map (some (w0.heap.size+1))))/\Idx l w' cv ov cs os/\PAt w' (w0.heap.size+1) (Cn.firstP l)/\Below w0.heap.size w0 w'
def nw(w0:World):World:=((w0.alloc (.cells #[.slice none 0 0,.slice none 0 0,.map none] 125)).alloc (.map #[] 0)).alloc (.cells #[.slice none 0 0,.slice none 0 0,.map (some (w0.heap.size+1))] 125)
theorem nw_ni w0:NI w0 (nw w0) (fun _ _=>none) (.slice none 0 0) (.slice none 0 0) [] []:=by
 have e:(nw w0).heap=((w0.heap.push (.cells #[.slice none 0 0,.slice none 0 0,.map none] 125 (0,0))).push (.map #[] 0)).push (.cells #[.slice none 0 0,.slice none 0 0,.map (some (w0.heap.size+1))] 125 (0,0)):=rfl;refine⟨?_,⟨#[],0,?_,z8T⟩,?_,⟨World.ownsRow_nil _ _ _ _,fun _ h=>m5l⟩,⟨World.ownsRow_nil _ _ _ _,fun _ h=>m5l⟩,fun g h=>by simp[Value.ownBlock]at h,?_⟩
 ·rw[e,Array.getElem?_push,Array.getElem?_push,Array.getElem?_push];simp;omega
 ·rw[e,Array.getElem?_push,Array.getElem?_push];simp
 ·rw[e,Array.getElem?_push];simp
 ·exact(((b0r).alloc (l0r _) _).alloc M7M _).alloc P8P _
theorem y0P v l w0(hv:Rcs w0 v l)(bQ:(Cn.check6 l).2=0):Calls prog 83 #[v] w0 (y6M w0 l):=by
 obtain⟨i1,hj,ba,be,bh⟩:=info_parts Tryz.info67;have dx:=@run_makeMap prog;obtain⟨hl,T⟩:=Cn.x1J bQ
 have bJ:Hid (∀i,i<l.length->(l.getD i Cn.none).kind=7->(l.getD i Cn.none).to.length=2/\Rune ((l.getD i Cn.none).to.getD 0 0)/\Rune ((l.getD i Cn.none).to.getD 1 0)):=fun i hi h7=>by
  have hm:l.getD i Cn.none∈l:=(by simp[List.getD,hi]);have bO:=(Cn.x0s (T _ hm) h7).2.2;obtain⟨⟨g1,g2⟩,g3⟩:=Cn.x0u bO;refine⟨f6J,?_,?_⟩
  ·have:=g3 ((l.getD i Cn.none).to.getD 0 0) (x5X f6J);have:=o0d this;unfold Rune;omega
  ·have:=g3 ((l.getD i Cn.none).to.getD 1 0) (x5X f6J);have:=o0d this;unfold Rune;omega
 have aG:=O (fun i hi=>hv.fit (i:=i) hi);have HV:=O hv
 have ay:Hid (∀k,k<l.length->l.take (k+1)=l.take k++[l.getD k Cn.none]):=fun k hk=>by
  rw[List.take_add_one];exact E9b
 have bK:Hid (∀k,k<l.length->(l.take k).length=k):=fun k hk=>P8P;have bj:Hid (∀w',Made w0 w' l l.length->Made w0 w' l l.length):=fun _ h=>h;have aH:=O (nw_ni w0);have aS:=O bQ;have cT:=O T;obtain⟨ao,dq,rfl,dt,du⟩:=hv.shape;clear hv bQ T;go_enter func83,ntmps83;go_wp2;go_loopw[4,5,6,7,12] (fun _ _ _ _ i wr=>∃k:Nat,i=.int .i64 k/\k<=l.length/\Hid (Made w0 wr l k)) (fun _ _ _ _ i _=>l.length-(intOf i).toNat)
 case atStart=>exact⟨0,rfl,f6J,⟨_,_,[],[],V aH,by simp,by simp⟩⟩
 case round =>
  clear aH;obtain⟨k,rfl,hk,am⟩:=hrel;by_cases aN:k<l.length
  ·obtain⟨cv,ov,U,E,Y,e1,e2⟩:=V am;obtain⟨cY,db⟩:=y4a e1 e2 hl;obtain⟨b,dh,di,ev,_,_,aB⟩:=(V HV).place f6J;simp only[Value.slice.injEq]at ev;obtain⟨rfl,_,rfl⟩:=ev;have N:=aB k aN;have cE:=N.below Y.bel;obtain⟨vt,bS,aC⟩:=N.to;have bu:=V aG k aN;have cI:=V ay k aN;have cJ:=V bK k aN;have h7:=V bJ k aN;obtain⟨B,L,rfl,_,_⟩:=aC.shape;have x4:wr.cell? ⟨b,dh+k*8+4,none⟩=some (.slice B (l.getD k Cn.none).to.length L):=(by rw[Y.bel.cell (x0a bS)];exact bS);obtain⟨x0,x1,x2,x3,_,x5,x6,x7⟩:=cE;generalize l.getD k Cn.none=r at *;have bZ:=O aC;have cG:Sk .i32 w0 (sval (r,B,r.to.length,L)) r.to/\RecFit r:=⟨aC,bu⟩;have q:=O cG;have cW:Bw wr (wr.alloc (.cells #[.int .i64 r.kind,.int .i64 r.lo,.int .i64 r.hi,.int .i64 r.n,.slice B r.to.length L,.string r.name,.string r.other,.float .f64 r.wt] 67)):=(b0r).alloc (l0r _) _;have bA:=Y.below cW;have aq:(wr.alloc (.cells #[.int .i64 r.kind,.int .i64 r.lo,.int .i64 r.hi,.int .i64 r.n,.slice B r.to.length L,.string r.name,.string r.other,.float .f64 r.wt] 67)).heap.size=wr.heap.size+1:=(by simp);have u:=O (fun W c cv' ov' cxs' oxs' (h:NI w0 W c cv' ov' cxs' oxs') hc h1 h2=>Made.next (wr:=W) (c:=c) (cv:=cv') (ov:=ov') (cxs':=cxs') (oxs':=oxs') cI h hc e1 e2 h1 h2);have dr:=Y.bel.size;obtain⟨P,Z,rfl,dj,dk⟩:=Y.hc.shape;obtain⟨M,D,rfl,dl,dp⟩:=Y.ho.shape;have dv:∀W a m,(store a (.float .f64 r.wt) m).run prog W=stored prog W a (.float .f64 r.wt) m:=fun W a m=>run_store prog W a _ m rfl;have ae:=O (x8O (r,B,r.to.length,L));have ab:=O bA;clear N aB bS aC bu cI Y e1 e2 cG am aG ay bK bJ HV aS cT bj bA;by_cases k6:r.kind=6
   ·have I:=ab;clear h7;obtain⟨kd,lo,hi,nn,A,nm,R,J⟩:=r;dsimp only at *;subst k6;have y0:(wr.alloc (.cells #[.int .i64 6,.int .i64 lo,.int .i64 hi,.int .i64 nn,.slice B A.length L,.string nm,.string R,.float .f64 J] 67)).cell? ⟨w0.heap.size+1+1,0,none⟩=some (.slice P U.length Z):=cell_of (j:=0) (V I).hx T7f;have z:Hid (∀o,((wr.alloc (.cells #[.int .i64 6,.int .i64 lo,.int .i64 hi,.int .i64 nn,.slice B A.length L,.string nm,.string R,.float .f64 J] 67)).alloc o).ownsRow w0.heap.size 67 8 (.slice P U.length Z) U.length (U.flatMap encR)):=fun o=>(V I).hc.1.alloc o;have t:=O (x3j (wr.alloc (.cells #[.int .i64 6,.int .i64 lo,.int .i64 hi,.int .i64 nn,.slice B A.length L,.string nm,.string R,.float .f64 J] 67)) (⟨6,lo,hi,nn,A,nm,R,J⟩:Rec) B L (wr.heap.size+1) E1l);have Q:=O (fun o v' w1 a b c=>(V I).classes (o:=o) (v':=v') (w1:=w1) (V q) a b c);have aK:=(V I).bel.size;clear I q ab;go_wp2_with(at_builtin;refine wpList_append_own_at _ rfl (.tmp 22) (.tmp 24) 23 rfl w0.heap.size 67 i1 (.agg #[.int .i64 0,.int .i64 0,.int .i64 0,.int .i64 0,.slice none 0 0,.string ⟨#[]⟩,.string ⟨#[]⟩,.float .f64 0]) 8 96 underlying23 hj ba be bh rfl (by decide) _ _ _ rfl (V z _) ⟨wr.heap.size+1,0,none⟩ 1 1 (encR ((⟨6,lo,hi,nn,A,nm,R,J⟩:Rec),B,A.length,L)) rfl rfl (V t) (V ae) T7X f6J P8P ?_);intro v' w9 x C _ y;obtain⟨d,F⟩:=V Q _ v' w9 x C p8U;have ag:Hid (Made w0 (w9.setCell ⟨w0.heap.size+1+1,0,none⟩ v') l (k+1)):=V u _ _ _ _ _ _ F (Cn.x3b (by simp)).symm T7F w8s;obtain⟨bM,aI,rfl,_,_⟩:=F.hc.shape;have z0:w9.cell? ⟨w0.heap.size+1+1,0,none⟩=some (.slice P U.length Z):=cell_of (j:=0) d T7f;have zf:=x0e (j:=0) d;clear z t Q x C y d F u ae y0;generalize(U++[((⟨6,lo,hi,nn,A,nm,R,J⟩:Rec),B,A.length,L)]).length=m9 at *;go_wp2
    exact g3F
   ·have q6:(r.kind==6)=false:=b0f k6;by_cases k7:r.kind=7
    ·obtain⟨bC,cC,cD⟩:=h7 k7;clear q6 h7;obtain⟨kd,lo,hi,nn,A,nm,R,J⟩:=r;dsimp only at *;subst k7
     have bp:(wr.alloc (.cells #[.int .i64 7,.int .i64 lo,.int .i64 hi,.int .i64 nn,.slice B A.length L,.string nm,.string R,.float .f64 J] 67)).heap[wr.heap.size]?=some (.cells #[.int .i64 7,.int .i64 lo,.int .i64 hi,.int .i64 nn,.slice B A.length L,.string nm,.string R,.float .f64 J] 67 (0,0)):=by
      show(wr.heap.push _)[wr.heap.size]?=_;simp
     have bE:Hid (∀W:World,W.heap[wr.heap.size]?=some (.cells #[.int .i64 7,.int .i64 lo,.int .i64 hi,.int .i64 nn,.slice B A.length L,.string nm,.string R,.float .f64 J] 67 (0,0))->W.cell? ⟨wr.heap.size,0,none⟩=some (.int .i64 7)/\W.cell? ⟨wr.heap.size,1,none⟩=some (.int .i64 lo)/\W.cell? ⟨wr.heap.size,2,none⟩=some (.int .i64 hi)/\W.cell? ⟨wr.heap.size,3,none⟩=some (.int .i64 nn)/\W.cell? ⟨wr.heap.size,4,none⟩=some (.slice B A.length L)/\W.cell? ⟨wr.heap.size,5,none⟩=some (.string nm)/\W.cell? ⟨wr.heap.size,6,none⟩=some (.string R)/\W.cell? ⟨wr.heap.size,7,none⟩=some (.float .f64 J)):=fun W hW=>⟨cell_of (j:=0) hW (by show 0<8;exact f6J),cell_of (j:=1) hW (by show 1<8;exact f6J),cell_of (j:=2) hW (by show 2<8;exact f6J),cell_of (j:=3) hW e8d,cell_of (j:=4) hW e2U,cell_of (j:=5) hW i3Y,cell_of (j:=6) hW F4N,cell_of (j:=7) hW U3M⟩;have bD:Hid (∀W:World,Below (wr.alloc (.cells #[.int .i64 7,.int .i64 lo,.int .i64 hi,.int .i64 nn,.slice B A.length L,.string nm,.string R,.float .f64 J] 67)).heap.size (wr.alloc (.cells #[.int .i64 7,.int .i64 lo,.int .i64 hi,.int .i64 nn,.slice B A.length L,.string nm,.string R,.float .f64 J] 67)) W->W.heap[wr.heap.size]?=some (.cells #[.int .i64 7,.int .i64 lo,.int .i64 hi,.int .i64 nn,.slice B A.length L,.string nm,.string R,.float .f64 J] 67 (0,0))):=fun W hW=>(by rw[hW.block _ (by rw[aq];exact f6J)];exact bp);have G:Hid (∀W:World,Below (wr.alloc (.cells #[.int .i64 7,.int .i64 lo,.int .i64 hi,.int .i64 nn,.slice B A.length L,.string nm,.string R,.float .f64 J] 67)).heap.size (wr.alloc (.cells #[.int .i64 7,.int .i64 lo,.int .i64 hi,.int .i64 nn,.slice B A.length L,.string nm,.string R,.float .f64 J] 67)) W->NI w0 W (Cn.firstP (l.take k)) (.slice P U.length Z) (.slice M E.length D) U E):=fun W hW=>(V ab).below hW
     have HS:Hid (∀W:World,Below (wr.alloc (.cells #[.int .i64 7,.int .i64 lo,.int .i64 hi,.int .i64 nn,.slice B A.length L,.string nm,.string R,.float .f64 J] 67)).heap.size (wr.alloc (.cells #[.int .i64 7,.int .i64 lo,.int .i64 hi,.int .i64 nn,.slice B A.length L,.string nm,.string R,.float .f64 J] 67)) W->(W.cell? ⟨wr.heap.size,0,none⟩=some (.int .i64 7)/\W.cell? ⟨wr.heap.size,1,none⟩=some (.int .i64 lo)/\W.cell? ⟨wr.heap.size,2,none⟩=some (.int .i64 hi)/\W.cell? ⟨wr.heap.size,3,none⟩=some (.int .i64 nn)/\W.cell? ⟨wr.heap.size,4,none⟩=some (.slice B A.length L)/\W.cell? ⟨wr.heap.size,5,none⟩=some (.string nm)/\W.cell? ⟨wr.heap.size,6,none⟩=some (.string R)/\W.cell? ⟨wr.heap.size,7,none⟩=some (.float .f64 J)/\W.cell? ⟨w0.heap.size+1+1,2,none⟩=some (.map (some (w0.heap.size+1)))/\Hid (Below (wr.alloc (.cells #[.int .i64 7,.int .i64 lo,.int .i64 hi,.int .i64 nn,.slice B A.length L,.string nm,.string R,.float .f64 J] 67)).heap.size (wr.alloc (.cells #[.int .i64 7,.int .i64 lo,.int .i64 hi,.int .i64 nn,.slice B A.length L,.string nm,.string R,.float .f64 J] 67)) W))):=fun W hW=>by
      obtain⟨s0,s1,s,s3,s4,s5,s6,s7⟩:=V bE W (V bD W hW);exact⟨s0,s1,s,s3,s4,s5,s6,s7,cell_of (j:=2) (V G W hW).hx U4w,hW⟩
     have aU:Hid (∀W:World,Bw w0 W->Calls prog 126 #[.agg #[.int .i64 7,.int .i64 lo,.int .i64 hi,.int .i64 nn,.slice B A.length L,.string nm,.string R,.float .f64 J]] W (fun e w'=>e=.returned (pk2 (A.getD 0 0) (A.getD 1 0))/\Bw W w')):=fun W hW=>x8n (⟨7,lo,hi,nn,A,nm,R,J⟩:Rec) _ W ((V bZ).below hW) bC;have bI:Hid (∀W:World,Below (wr.alloc (.cells #[.int .i64 7,.int .i64 lo,.int .i64 hi,.int .i64 nn,.slice B A.length L,.string nm,.string R,.float .f64 J] 67)).heap.size (wr.alloc (.cells #[.int .i64 7,.int .i64 lo,.int .i64 hi,.int .i64 nn,.slice B A.length L,.string nm,.string R,.float .f64 J] 67)) W->(Instr.lookup 123 (.map (some (w0.heap.size+1))) (pk2 (A.getD 0 0) (A.getD 1 0)) true).run prog W=.ok (.tuple #[.int .i64 ((Cn.firstP (l.take k) (A.getD 0 0) (A.getD 1 0)).getD 0),.bool (Cn.firstP (l.take k) (A.getD 0 0) (A.getD 1 0)).isSome]) W):=fun W hW=>(look_ok (V G W hW).hm cC cD).1;have bH:Hid ((Cn.firstP (l.take k) (A.getD 0 0) (A.getD 1 0)).isSome=true->Cn.firstP (l.take k++[(⟨7,lo,hi,nn,A,nm,R,J⟩:Rec)])=Cn.firstP (l.take k)):=fun h=>Cn.y0u (r:=(⟨7,lo,hi,nn,A,nm,R,J⟩:Rec)) h
     have bL:Hid ((Cn.firstP (l.take k) (A.getD 0 0) (A.getD 1 0)).isSome=false->∀W:World,Below (wr.alloc (.cells #[.int .i64 7,.int .i64 lo,.int .i64 hi,.int .i64 nn,.slice B A.length L,.string nm,.string R,.float .f64 J] 67)).heap.size (wr.alloc (.cells #[.int .i64 7,.int .i64 lo,.int .i64 hi,.int .i64 nn,.slice B A.length L,.string nm,.string R,.float .f64 J] 67)) W->∃aV H,(Instr.mapUpdate 123 (.map (some (w0.heap.size+1))) (pk2 (A.getD 0 0) (A.getD 1 0)) (.int .i64 (k:Int))).run prog W=.ok () (setBlock W (w0.heap.size+1) (.map aV H))/\NI w0 (setBlock W (w0.heap.size+1) (.map aV H)) (Cn.firstP (l.take k++[(⟨7,lo,hi,nn,A,nm,R,J⟩:Rec)])) (.slice P U.length Z) (.slice M E.length D) U E):=fun h W hW=>by
      have hn:Cn.firstP (l.take k) (A.getD 0 0) (A.getD 1 0)=none:=(by simpa using h);obtain⟨aV,cV,g1,g2⟩:=y6m (V G W hW).hm cC cD hn (k:Int);have cL:=(V G W hW).upd g2;have e5:=Cn.y5p (r:=(⟨7,lo,hi,nn,A,nm,R,J⟩:Rec)) (l:=l.take k) rfl hn;rw[cJ]at e5;refine⟨aV,cV,g1,?_⟩;rw[e5];exact cL
     have aT:Hid (∀W:World,Below (wr.alloc (.cells #[.int .i64 7,.int .i64 lo,.int .i64 hi,.int .i64 nn,.slice B A.length L,.string nm,.string R,.float .f64 J] 67)).heap.size (wr.alloc (.cells #[.int .i64 7,.int .i64 lo,.int .i64 hi,.int .i64 nn,.slice B A.length L,.string nm,.string R,.float .f64 J] 67)) W->Bw w0 W):=fun W hW=>(V G W hW).bel;clear bp bZ bC cJ;generalize(Cn.firstP (l.take k) (A.getD 0 0) (A.getD 1 0)).getD 0=zf,(Cn.firstP (l.take k) (A.getD 0 0) (A.getD 1 0)).isSome=kn at *;generalize A.getD 0 0=pa,A.getD 1 0=pb at *;unfold pk2 at *;have aL:Below (wr.alloc (.cells #[.int .i64 7,.int .i64 lo,.int .i64 hi,.int .i64 nn,.slice B A.length L,.string nm,.string R,.float .f64 J] 67)).heap.size (wr.alloc (.cells #[.int .i64 7,.int .i64 lo,.int .i64 hi,.int .i64 nn,.slice B A.length L,.string nm,.string R,.float .f64 J] 67)) (wr.alloc (.cells #[.int .i64 7,.int .i64 lo,.int .i64 hi,.int .i64 nn,.slice B A.length L,.string nm,.string R,.float .f64 J] 67)).drew:=x0k ⟨1,rfl⟩;have ar:=O (V HS _ aL);have cg:=O (V aU _ (V aT _ aL));go_wp2;refine wp_region_held_drew (S:=fun w'=>w'.cell? ⟨wr.heap.size,0,none⟩=some (.int .i64 7)/\w'.cell? ⟨wr.heap.size,1,none⟩=some (.int .i64 lo)/\w'.cell? ⟨wr.heap.size,2,none⟩=some (.int .i64 hi)/\w'.cell? ⟨wr.heap.size,3,none⟩=some (.int .i64 nn)/\w'.cell? ⟨wr.heap.size,4,none⟩=some (.slice B A.length L)/\w'.cell? ⟨wr.heap.size,5,none⟩=some (.string nm)/\w'.cell? ⟨wr.heap.size,6,none⟩=some (.string R)/\w'.cell? ⟨wr.heap.size,7,none⟩=some (.float .f64 J)/\w'.cell? ⟨w0.heap.size+1+1,2,none⟩=some (.map (some (w0.heap.size+1)))/\Hid (Below (wr.alloc (.cells #[.int .i64 7,.int .i64 lo,.int .i64 hi,.int .i64 nn,.slice B A.length L,.string nm,.string R,.float .f64 J] 67)).heap.size (wr.alloc (.cells #[.int .i64 7,.int .i64 lo,.int .i64 hi,.int .i64 nn,.slice B A.length L,.string nm,.string R,.float .f64 J] 67)) w')) f4A (V ar) (fun hHeld=>?_);refine tk9 0 (.pointer (some ⟨w0.heap.size+1+1,2,none⟩)) ?_ (hy:=w3S);refine tk9 1 (.map (some (w0.heap.size+1))) ?_ (hy:=w3S);refine tk9 2 (.agg #[.int .i64 7,.int .i64 lo,.int .i64 hi,.int .i64 nn,.slice B A.length L,.string nm,.string R,.float .f64 J]) ?_ (hy:=w3S);refine rd9 3 fun K hK=>?_;go_simp;refine c0m cg fun X aX=>?_;have aJ:Below (wr.alloc (.cells #[.int .i64 7,.int .i64 lo,.int .i64 hi,.int .i64 nn,.slice B A.length L,.string nm,.string R,.float .f64 J] 67)).heap.size (wr.alloc (.cells #[.int .i64 7,.int .i64 lo,.int .i64 hi,.int .i64 nn,.slice B A.length L,.string nm,.string R,.float .f64 J] 67)) X:=x0b aL aX;have bF:=O (V HS X aJ);refine hK.out _ _ ?_ (fun hHeld=>?_)
     ·exact V bF
     clear hK K
     try simp only[Act.put,sa9,sb9,sc9]
     refine tk9 4 (.tuple #[.int .i64 zf,.bool kn]) ?_ (hy:=by(intro w hSw;obtain⟨s0,s1,s,s3,s4,s5,s6,s7,s8,s9⟩:=hSw;have dw:=V bI w (V s9);go_simp));refine tk9 5 (.tuple #[.int .i64 zf,.bool kn]) ?_;refine tk9 6 (.int .i64 zf) ?_;refine tk9 7 (.bool kn) ?_;refine tk9 8 (.int .i64 zf) ?_;refine tk9 9 (.bool kn) ?_;refine wpAnyH_done f4A ?_ _;obtain⟨t0,t1,t2,t3,t4,t5,t6,t7,t8,_⟩:=V bF;clear bF ar cg hHeld;cases kn
     ·obtain cK:=V bL rfl;have aY:Below (wr.alloc (.cells #[.int .i64 7,.int .i64 lo,.int .i64 hi,.int .i64 nn,.slice B A.length L,.string nm,.string R,.float .f64 J] 67)).heap.size (wr.alloc (.cells #[.int .i64 7,.int .i64 lo,.int .i64 hi,.int .i64 nn,.slice B A.length L,.string nm,.string R,.float .f64 J] 67)) X.drew:=x0b aJ (x0k ⟨1,rfl⟩)
      have ar:Hid (X.drew.cell? ⟨wr.heap.size,0,none⟩=some (.int .i64 7)/\X.drew.cell? ⟨wr.heap.size,1,none⟩=some (.int .i64 lo)/\X.drew.cell? ⟨wr.heap.size,2,none⟩=some (.int .i64 hi)/\X.drew.cell? ⟨wr.heap.size,3,none⟩=some (.int .i64 nn)/\X.drew.cell? ⟨wr.heap.size,4,none⟩=some (.slice B A.length L)/\X.drew.cell? ⟨wr.heap.size,5,none⟩=some (.string nm)/\X.drew.cell? ⟨wr.heap.size,6,none⟩=some (.string R)/\X.drew.cell? ⟨wr.heap.size,7,none⟩=some (.float .f64 J)/\X.drew.cell? ⟨w0.heap.size+1+1,2,none⟩=some (.map (some (w0.heap.size+1)))):=by
       obtain⟨s0,s1,s,s3,s4,s5,s6,s7,s8,_⟩:=V HS _ aY;exact⟨s0,s1,s,s3,s4,s5,s6,s7,s8⟩
      have ci:=O (V aU _ (V aT _ aY));have bn:=O cK;clear cK;go_wp2;refine wp_region_held_drew (S:=fun w'=>w'.cell? ⟨wr.heap.size,0,none⟩=some (.int .i64 7)/\w'.cell? ⟨wr.heap.size,1,none⟩=some (.int .i64 lo)/\w'.cell? ⟨wr.heap.size,2,none⟩=some (.int .i64 hi)/\w'.cell? ⟨wr.heap.size,3,none⟩=some (.int .i64 nn)/\w'.cell? ⟨wr.heap.size,4,none⟩=some (.slice B A.length L)/\w'.cell? ⟨wr.heap.size,5,none⟩=some (.string nm)/\w'.cell? ⟨wr.heap.size,6,none⟩=some (.string R)/\w'.cell? ⟨wr.heap.size,7,none⟩=some (.float .f64 J)/\w'.cell? ⟨w0.heap.size+1+1,2,none⟩=some (.map (some (w0.heap.size+1)))) f4A (V ar) (fun hHeld=>?_);refine tk9 0 (.pointer (some ⟨w0.heap.size+1+1,2,none⟩)) ?_ (hy:=f0x);refine tk9 1 (.map (some (w0.heap.size+1))) ?_ (hy:=f0x);refine tk9 2 (.agg #[.int .i64 7,.int .i64 lo,.int .i64 hi,.int .i64 nn,.slice B A.length L,.string nm,.string R,.float .f64 J]) ?_ (hy:=f0x);refine tk9 4 (.int .i64 (k:Int)) ?_;refine rd9 3 fun K hK=>?_;go_simp;refine c0m ci fun W3 cX=>?_;have aW:Below (wr.alloc (.cells #[.int .i64 7,.int .i64 lo,.int .i64 hi,.int .i64 nn,.slice B A.length L,.string nm,.string R,.float .f64 J] 67)).heap.size (wr.alloc (.cells #[.int .i64 7,.int .i64 lo,.int .i64 hi,.int .i64 nn,.slice B A.length L,.string nm,.string R,.float .f64 J] 67)) W3:=x0b aY cX;obtain⟨aj,ai,de,bB⟩:=V bn W3 aW;have bm:=O bB
      have bV:Hid (W3.cell? ⟨wr.heap.size,0,none⟩=some (.int .i64 7)/\W3.cell? ⟨wr.heap.size,1,none⟩=some (.int .i64 lo)/\W3.cell? ⟨wr.heap.size,2,none⟩=some (.int .i64 hi)/\W3.cell? ⟨wr.heap.size,3,none⟩=some (.int .i64 nn)/\W3.cell? ⟨wr.heap.size,4,none⟩=some (.slice B A.length L)/\W3.cell? ⟨wr.heap.size,5,none⟩=some (.string nm)/\W3.cell? ⟨wr.heap.size,6,none⟩=some (.string R)/\W3.cell? ⟨wr.heap.size,7,none⟩=some (.float .f64 J)/\W3.cell? ⟨w0.heap.size+1+1,2,none⟩=some (.map (some (w0.heap.size+1)))):=by
       obtain⟨s0,s1,s,s3,s4,s5,s6,s7,s8,_⟩:=V HS _ aW;exact⟨s0,s1,s,s3,s4,s5,s6,s7,s8⟩
      have bG:Hid ((setBlock W3 (w0.heap.size+1) (.map aj ai)).cell? ⟨wr.heap.size,0,none⟩=some (.int .i64 7)/\(setBlock W3 (w0.heap.size+1) (.map aj ai)).cell? ⟨wr.heap.size,1,none⟩=some (.int .i64 lo)/\(setBlock W3 (w0.heap.size+1) (.map aj ai)).cell? ⟨wr.heap.size,2,none⟩=some (.int .i64 hi)/\(setBlock W3 (w0.heap.size+1) (.map aj ai)).cell? ⟨wr.heap.size,3,none⟩=some (.int .i64 nn)/\(setBlock W3 (w0.heap.size+1) (.map aj ai)).cell? ⟨wr.heap.size,4,none⟩=some (.slice B A.length L)/\(setBlock W3 (w0.heap.size+1) (.map aj ai)).cell? ⟨wr.heap.size,5,none⟩=some (.string nm)/\(setBlock W3 (w0.heap.size+1) (.map aj ai)).cell? ⟨wr.heap.size,6,none⟩=some (.string R)/\(setBlock W3 (w0.heap.size+1) (.map aj ai)).cell? ⟨wr.heap.size,7,none⟩=some (.float .f64 J)/\(setBlock W3 (w0.heap.size+1) (.map aj ai)).cell? ⟨w0.heap.size+1+1,2,none⟩=some (.map (some (w0.heap.size+1)))):=by
       obtain⟨s0,s1,s,s3,s4,s5,s6,s7,s8,_⟩:=V HS _ aW;have aw:wr.heap.size≠w0.heap.size+1:=(by have:=x0B (V ab).hx;rw[aq]at this;exact f6J);have cx:w0.heap.size+2≠w0.heap.size+1:=f6J;exact⟨x1h _ aw s0,x1h _ aw s1,x1h _ aw s,x1h _ aw s3,x1h _ aw s4,x1h _ aw s5,x1h _ aw s6,x1h _ aw s7,x1h _ cx s8⟩
      clear bB;refine hK.out _ _ ?_ (fun hHeld=>?_)
      ·exact V bV
      clear hK K
      try simp only[Act.put,sa9,sb9,sc9]
      refine rd9 5 fun K hK=>?_;go_simp;refine hK.out _ _ ?_ (fun hHeld=>?_)
      ·exact V bG
      clear hK K
      try simp only[Act.put,sa9,sb9,sc9]
      refine wpAnyH_done f4A ?_ _;obtain⟨u0,u1,u2,u3,u4,u5,u6,u7,u8⟩:=V bG;have I:=bm;clear bG bV ar ci hHeld bn bL bH bI HS bE bD G aU aT t0 t1 t2 t3 t4 t5 t6 t7 t8 bm de aW aY aJ aL;generalize setBlock W3 (w0.heap.size+1) (.map aj ai)=W5 at *;have y0:W5.cell? ⟨w0.heap.size+1+1,1,none⟩=some (.slice M E.length D):=cell_of (j:=1) (V I).hx f2P;have z:Hid (∀o,(W5.alloc o).ownsRow w0.heap.size 67 8 (.slice M E.length D) E.length (E.flatMap encR)):=fun o=>(V I).ho.1.alloc o;have t:=O (x3j W5 (⟨7,lo,hi,nn,A,nm,R,J⟩:Rec) B L (W5.heap.size) E1l);have Q:=O (fun o v' w1 a b c=>(V I).opens (o:=o) (v':=v') (w1:=w1) (V q) a b c);have aK:=(V I).bel.size;clear I q ab;go_wp2_with(at_builtin;refine wpList_append_own_at _ rfl (.tmp 45) (.tmp 47) 23 rfl w0.heap.size 67 i1 (.agg #[.int .i64 0,.int .i64 0,.int .i64 0,.int .i64 0,.slice none 0 0,.string ⟨#[]⟩,.string ⟨#[]⟩,.float .f64 0]) 8 96 underlying23 hj ba be bh rfl (by decide) _ _ _ rfl (V z _) ⟨W5.heap.size,0,none⟩ 1 1 (encR ((⟨7,lo,hi,nn,A,nm,R,J⟩:Rec),B,A.length,L)) rfl rfl (V t) (V ae) T7X f6J P8P ?_);intro v' w9 x C _ y;obtain⟨d,F⟩:=V Q _ v' w9 x C p8U;have ag:Hid (Made w0 (w9.setCell ⟨w0.heap.size+1+1,1,none⟩ v') l (k+1)):=V u _ _ _ _ _ _ F rfl T7F w8s;obtain⟨bM,aI,rfl,_,_⟩:=F.ho.shape;have z0:w9.cell? ⟨w0.heap.size+1+1,1,none⟩=some (.slice M E.length D):=cell_of (j:=1) d f2P;have zf:=x0e (j:=1) d;clear z t Q x C y d F u ae y0;generalize(E++[((⟨7,lo,hi,nn,A,nm,R,J⟩:Rec),B,A.length,L)]).length=m9 at *;go_wp2
      exact g3F
     ·have cZ:=V bH rfl;have I:=O (V G X aJ);clear bL bH bI HS bE bD G aU aT aJ aL;have y0:X.cell? ⟨w0.heap.size+1+1,1,none⟩=some (.slice M E.length D):=cell_of (j:=1) (V I).hx f2P;have z:Hid (∀o,(X.alloc o).ownsRow w0.heap.size 67 8 (.slice M E.length D) E.length (E.flatMap encR)):=fun o=>(V I).ho.1.alloc o;have t:=O (x3j X (⟨7,lo,hi,nn,A,nm,R,J⟩:Rec) B L (X.heap.size) E1l);have Q:=O (fun o v' w1 a b c=>(V I).opens (o:=o) (v':=v') (w1:=w1) (V q) a b c);have aK:=(V I).bel.size;clear I q ab;go_wp2_with(at_builtin;refine wpList_append_own_at _ rfl (.tmp 45) (.tmp 47) 23 rfl w0.heap.size 67 i1 (.agg #[.int .i64 0,.int .i64 0,.int .i64 0,.int .i64 0,.slice none 0 0,.string ⟨#[]⟩,.string ⟨#[]⟩,.float .f64 0]) 8 96 underlying23 hj ba be bh rfl (by decide) _ _ _ rfl (V z _) ⟨X.heap.size,0,none⟩ 1 1 (encR ((⟨7,lo,hi,nn,A,nm,R,J⟩:Rec),B,A.length,L)) rfl rfl (V t) (V ae) T7X f6J P8P ?_);intro v' w9 x C _ y;obtain⟨d,F⟩:=V Q _ v' w9 x C p8U;have ag:Hid (Made w0 (w9.setCell ⟨w0.heap.size+1+1,1,none⟩ v') l (k+1)):=V u _ _ _ _ _ _ F cZ.symm T7F w8s;obtain⟨bM,aI,rfl,_,_⟩:=F.ho.shape;have z0:w9.cell? ⟨w0.heap.size+1+1,1,none⟩=some (.slice M E.length D):=cell_of (j:=1) d f2P;have zf:=x0e (j:=1) d;clear z t Q x C y d F u ae y0;generalize(E++[((⟨7,lo,hi,nn,A,nm,R,J⟩:Rec),B,A.length,L)]).length=m9 at *;go_wp2
      exact g3F
    ·have q7:(r.kind==7)=false:=b0f k7;clear h7;by_cases k8:r.kind=8
     ·have I:=ab;clear q6 q7;obtain⟨kd,lo,hi,nn,A,nm,R,J⟩:=r;dsimp only at *;subst k8;have y0:(wr.alloc (.cells #[.int .i64 8,.int .i64 lo,.int .i64 hi,.int .i64 nn,.slice B A.length L,.string nm,.string R,.float .f64 J] 67)).cell? ⟨w0.heap.size+1+1,1,none⟩=some (.slice M E.length D):=cell_of (j:=1) (V I).hx f2P;have z:Hid (∀o,((wr.alloc (.cells #[.int .i64 8,.int .i64 lo,.int .i64 hi,.int .i64 nn,.slice B A.length L,.string nm,.string R,.float .f64 J] 67)).alloc o).ownsRow w0.heap.size 67 8 (.slice M E.length D) E.length (E.flatMap encR)):=fun o=>(V I).ho.1.alloc o;have t:=O (x3j (wr.alloc (.cells #[.int .i64 8,.int .i64 lo,.int .i64 hi,.int .i64 nn,.slice B A.length L,.string nm,.string R,.float .f64 J] 67)) (⟨8,lo,hi,nn,A,nm,R,J⟩:Rec) B L (wr.heap.size+1) E1l);have Q:=O (fun o v' w1 a b c=>(V I).opens (o:=o) (v':=v') (w1:=w1) (V q) a b c);have aK:=(V I).bel.size;clear I q ab;go_wp2_with(at_builtin;refine wpList_append_own_at _ rfl (.tmp 53) (.tmp 55) 23 rfl w0.heap.size 67 i1 (.agg #[.int .i64 0,.int .i64 0,.int .i64 0,.int .i64 0,.slice none 0 0,.string ⟨#[]⟩,.string ⟨#[]⟩,.float .f64 0]) 8 96 underlying23 hj ba be bh rfl (by decide) _ _ _ rfl (V z _) ⟨wr.heap.size+1,0,none⟩ 1 1 (encR ((⟨8,lo,hi,nn,A,nm,R,J⟩:Rec),B,A.length,L)) rfl rfl (V t) (V ae) T7X f6J P8P ?_);intro v' w9 x C _ y;obtain⟨d,F⟩:=V Q _ v' w9 x C p8U;have ag:Hid (Made w0 (w9.setCell ⟨w0.heap.size+1+1,1,none⟩ v') l (k+1)):=V u _ _ _ _ _ _ F (Cn.x3b (by simp)).symm T7F w8s;obtain⟨bM,aI,rfl,_,_⟩:=F.ho.shape;have z0:w9.cell? ⟨w0.heap.size+1+1,1,none⟩=some (.slice M E.length D):=cell_of (j:=1) d f2P;have zf:=x0e (j:=1) d;clear z t Q x C y d F u ae y0;generalize(E++[((⟨8,lo,hi,nn,A,nm,R,J⟩:Rec),B,A.length,L)]).length=m9 at *;go_wp2
      exact g3F
     ·have q8:(r.kind==8)=false:=b0f k8;have ag:Hid (Made w0 (wr.alloc (.cells #[.int .i64 r.kind,.int .i64 r.lo,.int .i64 r.hi,.int .i64 r.n,.slice B r.to.length L,.string r.name,.string r.other,.float .f64 r.wt] 67)) l (k+1)):=V u _ _ _ _ U E (V ab) (Cn.x3b f6J).symm (by simp[is6,k6]) (by simp[is78,k7,k8]);clear u ab q ae;go_wp2
      exact g3F
  ·obtain rfl:k=l.length:=f6J;obtain⟨cv,ov,U,E,Y,e1,e2⟩:=V am;obtain⟨cY,db⟩:=y4a e1 e2 hl;rw[List.take_length]at Y e1 e2;have K1:=O (y4p w0 wr cv U Y.hc f6J);obtain⟨P,Z,rfl,_,_⟩:=Y.hc.shape;obtain⟨M,D,rfl,_,_⟩:=Y.ho.shape;have y0:wr.cell? ⟨w0.heap.size+1+1,0,none⟩=some (.slice P U.length Z):=cell_of (j:=0) Y.hx T7f;have aM:=Y.far Y.hc;have bt:∀g,(Value.slice P U.length Z).ownBlock=some g->g<wr.heap.size:=fun g hg=>(Y.hc.1.lt g hg).2;have aQ:=O aM;have cR:=O bt;clear aM bt;have aR:=O (Y.far Y.ho);have aH:=O Y;clear am aG ay bK bJ HV bj Y;go_wp2_with fail;refine(V K1).mono ?_;rintro e w1 ⟨rfl,bT,cz,aq,cM,az⟩;have Y:=V aH;have k1:∀g,g<wr.heap.size->(Value.slice P U.length Z).ownBlock≠some g->w1.heap[g]?=wr.heap[g]?:=fun g a b=>az.block g a (fun e=>b e.symm);have aD:w1.heap[w0.heap.size+2]?=some (.cells #[.slice P U.length Z,.slice M E.length D,.map (some (w0.heap.size+1))] 125 (0,0)):=(by rw[k1 _ (x0B Y.hx) (fun e=>(V aQ _ e).2.2 rfl)];exact Y.hx);have aP:w1.heap[w0.heap.size]?=some (.cells #[.slice none 0 0,.slice none 0 0,.map none] 125 (0,0)):=(by rw[k1 _ (x0B Y.hr) (fun e=>(V aQ _ e).1 rfl)];exact Y.hr);obtain⟨es,cl,hm,da⟩:=Y.hm;have aO:w1.heap[w0.heap.size+1]?=some (.map es cl):=(by rw[k1 _ (x0B hm) (fun e=>(V aQ _ e).2.1 rfl)];exact hm);have bP:Rsh w0 w1 (.slice M E.length D) E:=Y.ho.keep fun g hg=>k1 g (Y.ho.1.lt g hg).2 (fun e=>Y.ap g e hg);have bN:Bw w0 w1:=Y.bel.trans ⟨az.os,az.tape,az.output,az.size,fun g hg=>k1 g (by have:=Y.bel.size;exact f6J) (fun e=>by have:=(Y.hc.1.lt g e).1;exact f6J)⟩;have K2:=O (y4p w0 w1 _ E bP f6J);have y1:w1.cell? ⟨w0.heap.size+1+1,1,none⟩=some (.slice M E.length D):=cell_of (j:=1) aD f2P;have cj:=Y.ap;have cf:=O cM;have bX:=O cz;have cd:=O aq;have bU:=O cj;have cH:=az.size;clear K1 y0 cz aq cM az k1 hm Y aH cj;go_wp2_with fail;refine(V K2).mono ?_;rintro e w2 ⟨rfl,cO,cB,cF,cN,aA⟩;have k2:∀g,g<w1.heap.size->(Value.slice M E.length D).ownBlock≠some g->w2.heap[g]?=w1.heap[g]?:=fun g a b=>aA.block g a (fun e=>b e.symm);have aF:w2.heap[w0.heap.size+2]?=some (.cells #[.slice P U.length Z,.slice M E.length D,.map (some (w0.heap.size+1))] 125 (0,0)):=(by rw[k2 _ (x0B aD) (fun e=>(V aR _ e).2.2 rfl)];exact aD);have af:w2.heap[w0.heap.size]?=some (.cells #[.slice none 0 0,.slice none 0 0,.map none] 125 (0,0)):=(by rw[k2 _ (x0B aP) (fun e=>(V aR _ e).1 rfl)];exact aP);have bw:w2.heap[w0.heap.size+1]?=some (.map es cl):=(by rw[k2 _ (x0B aO) (fun e=>(V aR _ e).2.1 rfl)];exact aO);have aX:Bw w0 w2:=bN.trans ⟨aA.os,aA.tape,aA.output,aA.size,fun g hg=>k2 g (by have:=bN.size;exact f6J) (fun e=>by have:=(bP.1.lt g e).1;exact f6J)⟩;have cw:Rsx w0 w2 (.slice P U.length Z) bT:=(V cf).keep aA.size fun g hg=>k2 g (by have:=V cR g hg;have:=cH;exact f6J) (fun e=>V bU g hg e);have z0:w2.cell? ⟨w0.heap.size+1+1,0,none⟩=some (.slice P U.length Z):=cell_of (j:=0) aF T7f;have z1:w2.cell? ⟨w0.heap.size+1+1,1,none⟩=some (.slice M E.length D):=cell_of (j:=1) aF f2P;have z2:w2.cell? ⟨w0.heap.size+1+1,2,none⟩=some (.map (some (w0.heap.size+1))):=cell_of (j:=2) aF U4w;have r0:w2.cell? ⟨w0.heap.size,0,none⟩=some (.slice none 0 0):=cell_of (j:=0) af T7f;have r1:w2.cell? ⟨w0.heap.size,1,none⟩=some (.slice none 0 0):=cell_of (j:=1) af f2P;have r2:w2.cell? ⟨w0.heap.size,2,none⟩=some (.map none):=cell_of (j:=2) af U4w;have f0:=x0e (j:=0) af;have f1:=x0e (j:=1) af;have f2:=x0e (j:=2) af;have cU:=O cN;have cQ:=O cw;have bY:=O cB;have ce:=O cF;have cP:=O aX;have cS:=O af;have ag:=O bw;clear K2 y1 k2 aD aP aO aA cf bU bP bN cN cw cB cF aX af bw aF;go_wp2;have g1:(w2.setCell ⟨w0.heap.size,0,none⟩ (.slice P U.length Z)).heap[w0.heap.size]?=some (.cells #[.slice P U.length Z,.slice none 0 0,.map none] 125 (0,0)):=(by rw[x0f (V cS)];rfl);have g2:((w2.setCell ⟨w0.heap.size,0,none⟩ (.slice P U.length Z)).setCell ⟨w0.heap.size,1,none⟩ (.slice M E.length D)).heap[w0.heap.size]?=some (.cells #[.slice P U.length Z,.slice M E.length D,.map none] 125 (0,0)):=(by rw[x0f g1];rfl);have g3:(((w2.setCell ⟨w0.heap.size,0,none⟩ (.slice P U.length Z)).setCell ⟨w0.heap.size,1,none⟩ (.slice M E.length D)).setCell ⟨w0.heap.size,2,none⟩ (.map (some (w0.heap.size+1)))).heap[w0.heap.size]?=some (.cells #[.slice P U.length Z,.slice M E.length D,.map (some (w0.heap.size+1))] 125 (0,0)):=(by rw[x0f g2];rfl);have aZ:∀g,g≠w0.heap.size->(((w2.setCell ⟨w0.heap.size,0,none⟩ (.slice P U.length Z)).setCell ⟨w0.heap.size,1,none⟩ (.slice M E.length D)).setCell ⟨w0.heap.size,2,none⟩ (.map (some (w0.heap.size+1)))).heap[g]?=w2.heap[g]?:=fun g h=>(by rw[x0g _ h,x0g _ h,x0g _ h]);have d:Bw w0 (((w2.setCell ⟨w0.heap.size,0,none⟩ (.slice P U.length Z)).setCell ⟨w0.heap.size,1,none⟩ (.slice M E.length D)).setCell ⟨w0.heap.size,2,none⟩ (.map (some (w0.heap.size+1)))):=x0d (x0d (x0d (V cP) (l0r _) _) (l0r _) _) (l0r _) _;have bR:w2.heap.size<=(((w2.setCell ⟨w0.heap.size,0,none⟩ (.slice P U.length Z)).setCell ⟨w0.heap.size,1,none⟩ (.slice M E.length D)).setCell ⟨w0.heap.size,2,none⟩ (.map (some (w0.heap.size+1)))).heap.size:=(by rw[x1a,x1a,x1a];exact l0r _);generalize(((w2.setCell ⟨w0.heap.size,0,none⟩ (.slice P U.length Z)).setCell ⟨w0.heap.size,1,none⟩ (.slice M E.length D)).setCell ⟨w0.heap.size,2,none⟩ (.map (some (w0.heap.size+1))))=w9 at *;have c0:w9.cell? ⟨w0.heap.size,0,none⟩=some (.slice P U.length Z):=cell_of (j:=0) g3 T7f;have c1:w9.cell? ⟨w0.heap.size,1,none⟩=some (.slice M E.length D):=cell_of (j:=1) g3 f2P;have c2:w9.cell? ⟨w0.heap.size,2,none⟩=some (.map (some (w0.heap.size+1))):=cell_of (j:=2) g3 U4w;have a1:=(V cQ).keep bR (fun g hg=>aZ g (V aQ g hg).1);have a2:=(V cU).keep bR (fun g hg=>aZ g (V aR g hg).1);have l1:bT.length<=1000000000:=(by have:=(V bX).length_eq;exact f6J);have l2:cO.length<=1000000000:=(by have:=(V bY).length_eq;exact f6J);obtain⟨o1,m1⟩:=Cn.x3J (f:=2) (.inl rfl) (cs:=bT.map (·.1)) (p:=is6) (V aS) (fun r=>⟨fun h=>by rw[o0d h];decide,fun h=>d0t (Cn.y8c h)⟩) (e1 ▸ (V bX).map _) (List.pairwise_map.2 (V cd));obtain⟨o2,m2⟩:=Cn.x3J (f:=3) (.inr rfl) (cs:=cO.map (·.1)) (p:=is78) (V aS) (fun r=>⟨fun h=>by rcases o0d h with e|e<;>(rw[e];decide),fun h=>d0t (Cn.fam_three' h)⟩) (e2 ▸ (V bY).map _) (List.pairwise_map.2 (V ce));have HF:y6M w0 l (.returned (.agg #[.slice P U.length Z,.slice M E.length D,.map (some (w0.heap.size+1))])) w9:=⟨_,_,_,_,rfl,⟨a1.rcs d l1,a2.rcs d l2,o1,o2,m1,m2,V aS⟩,⟨es,cl,by rw[aZ _ f6J];exact V ag,da⟩,d⟩;clear a1 a2 o1 o2 m1 m2 g3 aZ d bR;refine bodyPost_ret (show _=Result.ok (.agg #[.slice P U.length Z,.slice M E.length D,.map (some (w0.heap.size+1))]) w9 by simp[results,Tryz.results83,go_sem,c0,c1,c2]) rfl ?_;exact HF
open Ti
namespace Cn
theorem y5n{f}{rs:List Rec}{k}(G:k<rs.length):famOf f (rs.take (k+1))=famOf f (rs.take k)++(if fam (rs.getD k none).kind=f then[rs.getD k none]else[]):=by
 have e:rs.take (k+1)=rs.take k++[rs.getD k none]:=f0h;rw[e];unfold famOf;rw[List.filter_append];congr 1;generalize rs.getD k none=x;by_cases h:fam x.kind=f
 ·grind
 ·grind
end Cn
def FamB(w:World)(rs:List Rec)(f:Int)(e:Ending)(w':World):Prop:=∃v xs,e=.returned v/\xs.map (·.1)=Cn.famOf f rs/\Rsh w w' v xs/\Below w.heap.size w w'
theorem Rsh.lowerB{w0 w w' v}{xs:List Sp}(h:Rsh w0 w v xs)(Y:Bw w w'):Rsh w0 w' v xs:=⟨x8t h.1 Y,h.2⟩
theorem x5q v rs kind w(hg:Glob w)(N:Rcs w v rs)(hk:I64 kind):Calls prog 135 #[v,.int .i64 kind] w (FamB w rs (Cn.fam kind)):=by
 obtain⟨i1,hj,J,R,aC⟩:=info_parts Tryz.info67;have aH:=N.1;have KF:Hid (∀W c,Bw w W->I64 c->Calls prog 134 #[.int .i64 c] W (IntB W (Cn.fam c))):=fun W c h hc=>x1n c W (hg.on h) hc
 have af:Hid (∀k,k<rs.length->∃b P M,v=.slice (some ⟨b,P,none⟩) rs.length M/\RecAt w b (P+k*8) (rs.getD k Cn.none)/\RecFit (rs.getD k Cn.none)):=fun k hk=>by
  obtain⟨b,P,M,d,_,_,hc⟩:=N.place f6J;exact⟨b,P,M,d,hc k hk,N.fit hk⟩
 have T:Hid (∀k,k<rs.length->Cn.famOf (Cn.fam kind) (rs.take (k+1))=Cn.famOf (Cn.fam kind) (rs.take k)++(if Cn.fam (rs.getD k Cn.none).kind=Cn.fam kind then[rs.getD k Cn.none]else[])):=fun k hk=>Cn.y5n hk;obtain⟨ao,M,aB,_,_⟩:=N.shape;obtain⟨aD,aF⟩:=hk;have aw:Hid (∀W,Bw w W->Calls prog 134 #[.int .i64 kind] W (IntB W (Cn.fam kind))):=fun W h=>V KF W kind h ⟨aD,aF⟩;subst aB;generalize Cn.fam kind=f at *;go_enter func135,ntmps135;go_wp2;go_loopw[5,7,10] (fun ov _ iv wr=>∃k:Nat,iv=.int .i64 k/\k<=rs.length/\∃xs,xs.map (·.1)=Cn.famOf f (rs.take k)/\xs.length<=k/\Rsh w wr ov xs/\Bw w wr) (fun _ _ iv _=>rs.length-(intOf iv).toNat)
 case atStart=>exact⟨0,rfl,f6J,[],rfl,by simp,⟨World.ownsRow_nil _ _ _ _,fun x hx=>by cases hx⟩,b0r⟩
 case round =>
  obtain⟨k,rfl,hk,xs,aj,aM,H,A⟩:=hrel;by_cases ai:k<rs.length
  ·obtain⟨b,P,aG,d,hA,l⟩:=V af k ai;obtain⟨e1,e2,e3⟩:=Value.slice.inj d;subst e1;have aJ:=O (V T k ai);obtain⟨y0,y1,y2,y3,⟨va,y4,Z⟩,y5,y6,y7⟩:=hA;obtain⟨B,L,rfl,_,_⟩:=Z.shape;have hold:∀j u,w.cell? ⟨b,P+k*8+j,none⟩=some u->wr.cell? ⟨b,P+k*8+j,none⟩=some u:=fun j u h=>(by rw[A.cell (x0a h)];exact h);have x0:wr.cell? ⟨b,P+k*8,none⟩=_:=hold 0 _ y0;have x1:=hold 1 _ y1;have x2:=hold 2 _ y2;have x3:=hold 3 _ y3;have x4:=hold 4 _ y4;have x5:=hold 5 _ y5;have x6:=hold 6 _ y6;have x7:=hold 7 _ y7;have q:Hid (Sk .i32 w (sval (rs.getD k Cn.none,B,(rs.getD k Cn.none).to.length,L)) (rs.getD k Cn.none).to/\RecFit (rs.getD k Cn.none)):=⟨Z,l⟩;have aA:=l.kind;generalize rs.getD k Cn.none=r at *;have aL:∀W a m,(store a (.float .f64 r.wt) m).run prog W=stored prog W a (.float .f64 r.wt) m:=fun W a m=>run_store prog W a _ m rfl;obtain⟨W1,aK,ag,E⟩:=x0L wr r.kind r.lo r.hi r.n (.slice B r.to.length L) r.name r.other r.wt;have K1:=O (V KF W1 r.kind (x0b A E) aA);have Y:=O ag;obtain⟨z0,z1,z2,z3,z4,z5,z6,z7⟩:=ag;have U:=O (x0b A E);have aq:=O (H.lowerB E);have t:Hid (∀W:World,∀j u,(encR (r,B,r.to.length,L))[j]?=some u->(W.alloc (.cells #[.int .i64 r.kind,.int .i64 r.lo,.int .i64 r.hi,.int .i64 r.n,.slice B r.to.length L,.string r.name,.string r.other,.float .f64 r.wt] 67)).cell? ((⟨W.heap.size,0,none⟩:Addr).add j)=some u):=fun W=>x3j W r B L W.heap.size rfl;have S:=O (x8O (r,B,r.to.length,L));go_wp2_with fail;refine c0m K1 fun w2 F=>?_;have i:=O (x0b (V U) F);have ar:=O ((V aq).lowerB F);have K:=O ((V Y).keep F);have K2:=O (V aw w2 (V i));go_wp2_with fail;refine c0m K2 fun w3 s=>?_;have p:=x0b (V i) s;have G:=(V ar).lowerB s;obtain⟨z0,z1,z2,z3,z4,z5,z6,z7⟩:=(V K).keep s;generalize Cn.fam r.kind=I at *;by_cases X:I=f
   ·subst X;have ab:Hid ((xs++[(r,B,r.to.length,L)]).map (·.1)=Cn.famOf I (rs.take (k+1))):=by grind
    have Q:Hid (∀v' D o,D.ownsRow w.heap.size 67 8 v' (xs.length+1) (xs.flatMap encR++encR (r,B,r.to.length,L))->(w3.alloc o).grownBy D u5.ownBlock->Rsh w D v' (xs++[(r,B,r.to.length,L)])/\Bw w D):=fun v' D o ae C=>by
     have ha:=p.alloc p.size o;refine⟨⟨by simpa using ae,fun y hy=>?_⟩,ha.grown C ha.size (fun g hg=>(G.1.lt g hg).1)⟩;rcases List.mem_append.1 hy with hy|hy
     ·exact G.2 y hy
     ·simp only[List.mem_singleton]at hy;subst hy;exact V q
    have z:Hid (∀o,(w3.alloc o).ownsRow w.heap.size 67 8 u5 xs.length (xs.flatMap encR)):=fun o=>G.1.alloc o;have aI:=p.size;have am:=O (V t w3);go_wp2_with(at_builtin;refine wpList_append_own _ rfl (.tmp 20) (.tmp 22) 23 rfl w.heap.size 67 i1 (.agg #[.int .i64 0,.int .i64 0,.int .i64 0,.int .i64 0,.slice none 0 0,.string ⟨#[]⟩,.string ⟨#[]⟩,.float .f64 0]) 8 96 underlying23 hj J R aC rfl e8P _ _ _ rfl (V z _) ⟨w3.heap.size,0,none⟩ 1 1 (encR (r,B,r.to.length,L)) rfl rfl (V am) (V S) T7X f6J P8P ?_);intro v' D ae C _;obtain⟨az,ay⟩:=V Q v' D _ ae C;go_wp2
    go_roundw
    case rel=>exact⟨k+1,g2D,f6J,_,V ab,P8P,az,ay⟩
    case measure=>exact g7W
   ·have df:(I==f)=false:=b0f X;have ab:Hid (xs.map (·.1)=Cn.famOf f (rs.take (k+1))):=(by grind);go_wp2
    go_roundw
    case rel=>exact⟨k+1,g2D,f6J,xs,V ab,f6J,G,p⟩
    case measure=>exact g7W
  ·obtain rfl:k=rs.length:=f6J;rw[List.take_of_length_le (l0r _)]at aj;have HF:Hid (FamB w rs f (.returned u5) wr):=⟨u5,xs,rfl,aj,H,A⟩;go_wp2;go_ret;exact V HF
def isNaNB(b:Nat):Bool:=FloatKind.f64.format.order b b != some Ordering.eq
theorem y6D b w:Calls prog 188 #[.float .f64 b] w fun e w'=>e=.returned (.bool (isNaNB b))/\w'=w:=by
 go_enter func188,ntmps188;exact t6u
theorem z0L n w:(callFunc 240 #[.int .u64 n]).run prog w=.ok (.value (.float .f64 n.toNat)) w:=by
 rw[run_callFunc_extern (e:=Extern.MathFloatBits.float64frombits) func240 f4x f4x f4x f4x];rfl
theorem y6E n w:Calls prog 189 #[.int .u64 n] w fun e w'=>e=.returned (.float .f64 n.toNat)/\w'=w:=by
 have h:=z0L n;go_enter func189,ntmps189;exact t6u
theorem to32 b w:∃u n,(convert 65 265 (.float .f64 b)).run prog w=.ok (.float .f32 u) (w.drewN n):=by
 have U:=underlying65;have hd:=underlying265
 have S:∃u n,(Conv.floatToFloat .f64 b .f32).run prog w=.ok (.float .f32 u) (w.drewN n):=n1o
 exact m9k
theorem to64 b w:∃u n,(convert 265 65 (.float .f32 b)).run prog w=.ok (.float .f64 u) (w.drewN n):=by
 have U:=underlying265;have hd:=underlying65
 have S:∃u n,(Conv.floatToFloat .f32 b .f64).run prog w=.ok (.float .f64 u) (w.drewN n):=n1o
 exact m9k
theorem y2z b w:Calls prog 139 #[.float .f64 b] w fun e w'=>∃u n,e=.returned (.float .f64 u)/\w'=w.drewN n:=by
 have H:=O (y6D b w);have o:=O (fun w=>y6E 9221120237041090560 w);obtain⟨u1,S,Z⟩:=to32 b w;obtain⟨u2,z,D⟩:=to64 u1 (w.drewN S);generalize isNaNB b=t at *
 cases t with
 | true =>
  go_enter func139,ntmps139;go_wp2_with fail;refine(V H).mono ?_;rintro e w ⟨rfl,rfl⟩;go_wp2_with fail;refine(V o _).mono ?_;rintro e w ⟨rfl,rfl⟩;go_wp2;go_ret;exact⟨_,0,rfl,rfl⟩
 | false =>
  go_enter func139,ntmps139;go_wp2_with fail;refine(V H).mono ?_;rintro e w ⟨rfl,rfl⟩;go_wp2;go_ret;exact⟨_,S+z,rfl,by first| rfl|(simp[World.drewN];omega)⟩
end Go.Proofs.YtbmckadcjdedcaaGreatDoor
namespace Go.Proofs.YtbmckadcjdedcaaGreatDoor.Cn
open Go.Proofs.Tryz
def bad7(l:List Rec)(i:Nat)(r:Rec):Bool:=decide ((firstP l (r.to.getD 0 0) (r.to.getD 1 0)).getD 0<(i:Int))||wpair l r.lo (r.to.getD 0 0) (r.to.getD 1 0)
theorem x6a l i r:record l i r=if fam r.kind≠2/\fam r.kind≠3 then 0
 else if covers r 0 127 then 70
 else if touches r=true then 71
 else if r.kind=7/\makes (r.to.getD 0 0) (r.to.getD 1 0)=true then 71
 else if fam r.kind=2 then 0
 else if(full l r.lo).2≠0 then(full l r.lo).2
 else if fallsA l (full l r.lo).1 then 75
 else if r.kind=7/\pair l i r=false then 74
 else 0:=rfl
theorem y2L{l i r}(F:r.kind≠6)(o:r.kind≠7)(E:r.kind≠8):record l i r=0:=by
 rw[x6a];rw[if_pos ⟨fun h=>F (y8c h),fun h=>by rcases fam_three' h with e|e<;>contradiction⟩]
theorem y6c{l i r}(hr:right r=0)(G:r.kind=6\/r.kind=7\/r.kind=8)(S:r.lo<128):record l i r=70:=by
 have X:fam r.kind=2\/fam r.kind=3:=e7r;have j:r.kind≠15:=f6J;have U:=x0n hr j;rw[x6a];rw[if_neg (fun h=>f6J),if_pos (show covers r 0 127=true from d0t ⟨f6J,f6J⟩)]
theorem x2G{l i r}(G:r.kind=6\/r.kind=7\/r.kind=8)(S:¬r.lo<128)(Q:(touches r||(decide (r.kind=7)&&makes (r.to.getD 0 0) (r.to.getD 1 0)))=true):record l i r=71:=by
 have X:fam r.kind=2\/fam r.kind=3:=e7r;rw[x6a];rw[if_neg (fun h=>f6J),if_neg (show ¬covers r 0 127=true from fun h=>by have:=o0d h;exact f6J)];by_cases Z:touches r=true
 ·rw[if_pos Z]
 ·grind
theorem x3W{l i r}(G:r.kind=6\/r.kind=7\/r.kind=8)(S:¬r.lo<128)(Q:(touches r||(decide (r.kind=7)&&makes (r.to.getD 0 0) (r.to.getD 1 0)))=false) :
  record l i r=if r.kind=6 then 0 else if wfull l r.lo≠0 then wfull l r.lo else if r.kind=7/\pair l i r=false then 74 else 0:=by
 have X:fam r.kind=2\/fam r.kind=3:=(by rcases G with e|e|e<;>(rw[e];decide));rw[Bool.or_eq_false_iff]at Q;rw[x6a];rw[if_neg (fun h=>f6J),if_neg (show ¬covers r 0 127=true from fun h=>by have:=o0d h;exact f6J),if_neg (show ¬touches r=true by rw[Q.1];exact M7M)]
 rw[if_neg (fun h=>by
  have h2:=Q.2;rw[Bool.and_eq_false_iff]at h2;rcases h2 with h2|h2
  ·grind
  ·have R:makes (r.to.getD 0 0) (r.to.getD 1 0)=true:=h.2
   rw[h2]at R;cases R)]
 rcases G with e|e|e
 ·rw[e,if_pos (e8N:fam 6=2),if_pos rfl]
 ·rw[if_neg (show ¬fam r.kind=2 by rw[e];exact e8N),if_neg (f6J:¬r.kind=6)];unfold wfull;by_cases Z:(full l r.lo).2≠0
  ·omega
  ·grind
 ·rw[if_neg (show ¬fam r.kind=2 by rw[e];exact e8N),if_neg (f6J:¬r.kind=6)];unfold wfull;by_cases Z:(full l r.lo).2≠0
  ·rw[if_pos Z,if_pos Z,if_pos Z]
  ·grind
theorem z2O{l i}(hi:i<l.length)(o:(l.getD i none).kind=7):pair l i (l.getD i none)=!bad7 l i (l.getD i none):=by
 rw[pair_w];unfold bad7;have h:=y8h hi o;cases hA:(l.take i).any fun k=>decide (k.kind=7/\k.to.getD 0 0=(l.getD i none).to.getD 0 0/\k.to.getD 1 0=(l.getD i none).to.getD 1 0)
 ·grind
 ·grind
end Go.Proofs.YtbmckadcjdedcaaGreatDoor.Cn
namespace Go.Proofs.YtbmckadcjdedcaaGreatDoor
open Go.Proofs.Tryz
open Go.RowKit
theorem z0U cao oao tao(cl B D C z Y y i:Nat) kd lo hi nn tz nm ot wt w(W:kd≠6)(A:kd≠7)(S:kd≠8) :
  Calls prog 84 #[xV (.slice cao cl B) (.slice oao D C) (.map (some y)),.int .i64 (i:Int),recV ⟨kd,lo,hi,nn,tz,nm,ot,wt⟩ (.slice tao z Y)] w (IntB w 0):=by
 have R:(kd==6)=false:=b0f W;have F:(kd != 6)=true:=(by simp[W]);have E:(kd==7)=false:=b0f A;have K:(kd==8)=false:=b0f S;have T:IntB w 0 (.returned (.int .i64 0)) ((w.alloc (.cells #[.slice cao cl B,.slice oao D C,.map (some y)] 125)).alloc (.cells #[.int .i64 kd,.int .i64 lo,.int .i64 hi,.int .i64 nn,.slice tao z Y,.string nm,.string ot,.float .f64 wt] 67)):=⟨rfl,((b0r).alloc (l0r _) _).alloc M7K _⟩;unfold xV recV;go_enter func84,ntmps84;go_wp2;go_ret;exact T
theorem z3x cao oao tao(cl B D C z Y y i:Nat) kd lo hi nn tz nm ot wt w(G:kd=6\/kd=7\/kd=8)(S:lo<128) :
  Calls prog 84 #[xV (.slice cao cl B) (.slice oao D C) (.map (some y)),.int .i64 (i:Int),recV ⟨kd,lo,hi,nn,tz,nm,ot,wt⟩ (.slice tao z Y)] w (IntB w 70):=by
 unfold xV recV;rcases G with rfl|rfl|rfl
 all_goals
  have T:∀W,Bw w W->IntB w 70 (.returned (.int .i64 70)) W:=fun W h=>⟨rfl,h⟩;go_enter func84,ntmps84;go_wp2;go_ret;exact T _ (((b0r).alloc (l0r _) _).alloc M7K _)
