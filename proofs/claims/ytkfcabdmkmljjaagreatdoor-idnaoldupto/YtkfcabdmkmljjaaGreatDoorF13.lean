/- Lemmas. -/
import Derived.Test.YtkfcabdmkmljjaaGreatDoorF8
import Derived.Test.YtkfcabdmkmljjaaGreatDoorF15
import Derived.Test.YtkfcabdmkmljjaaGreatDoorF18
import Derived.Laws.Externs
import Derived.Laws.FloatArith
set_option maxHeartbeats 16000000
set_option maxRecDepth 20000
namespace Go.Proofs.YtkfcabdmkmljjaaGreatDoor
open Go.Proofs.Tryz
open Go.RowKit Go.MapKept Go.WideMaps
open Go.ChangeMaps (setBlock)
section
variable{p:Prop}
theorem n1o(h:p:=by
 unfold Conv.floatToFloat;rw[if_neg e8M];split
 ·exact t5g
 ·exact⟨_,0,rfl⟩
 ·dsimp only;split
  ·exact t5g
  ·exact⟨_,0,rfl⟩):p:=h
theorem e7r(h:p:=by rcases G with e | e | e<;>(rw[e];decide)):p:=h
theorem r1a(h:p:=by obtain⟨u,n,h⟩:=S;refine⟨u,n,?_⟩;rw[<- h];simp[convert,run_underlying L,run_underlying hd]):p:=h
theorem t5g(h:p:=by
 rw[Sem.run_bind,run_choose_drew];split
 ·exact⟨_,0,rfl⟩
 ·exact⟨_,1,rfl⟩):p:=h
theorem u6y(h:p:=by rw[ltG]at *;simp at *;exact f6J):p:=h
theorem n3r(h:p:=by(intro w hSw;obtain⟨hS,s9⟩:=(congrFun G _).mpr hSw;obtain⟨sb,s8⟩:=(congrFun I _).mpr hS;obtain⟨s0,s1,s2,s3,s4,s5,s6,s7⟩:=cells8 sb;go_simp)):p:=h
theorem N7Y(h:p:=by
 go_roundw
 case rel=>exact⟨k+1,g2E,f6J,X⟩
 case measure=>exact g7W):p:=h
theorem I7o(h:p:=by go_wp2;go_ret;exact V HF):p:=h
theorem t4s(h:p:=by(intro w hSw;obtain⟨sb,s8⟩:=(congrFun I _).mpr hSw;obtain⟨s0,s1,s2,s3,s4,s5,s6,s7⟩:=cells8 sb;go_simp)):p:=h
theorem f2Q(h:p:=by show 1<3;exact f6J):p:=h
theorem v5o(h:p:=by first| exact z | simpa using z):p:=h
theorem e7i(h:p:=by first| rfl | exact N):p:=h
theorem w8r(h:p:=by simp[is78]):p:=h
theorem T7E(h:p:=by simp[is6]):p:=h
end
def KP(v:Value):Prop:=∃a b,v=pk2 a b/\Rune a/\Rune b
theorem ulawP:KeyLaw prog 235:=deep_law_laid x6e (m:=3) e8N (o0d f4x) f4x f4x
theorem y7S:prog.cellsOf 235=2:=f4x
theorem y9A:prog.keyType 235=true:=f4x
theorem y5P{a b}(E:Rune a)(Y:Rune b) D:prog.keyLits (D+2) 235 [.int .i32 a,.int .i32 b]=some [.int .i32 a,.int .i32 b]:=by
 rw[Program.keyLits.eq_def];simp only[underlying235,y7S];rw[if_pos ⟨rfl,M7K⟩];simp[List.mapM_cons,x3f E D,x3f Y D,y7Q]
theorem q1l{v}(h:KP v):∃l,keyOf prog 235 v=some l:=by
 obtain⟨a,b,rfl,E,Y⟩:=h
 have C:(pk2 a b).formed prog 235=true:=by
  simp[pk2,Value.formed,underlying235,y7S]
 obtain⟨n,F⟩:∃n,prog.types.size+1=n+2:=⟨prog.types.size-1,m4z⟩;refine⟨.string (keyBytes [.int .i32 a,.int .i32 b]),?_⟩;unfold keyOf;simp only[underlying235,y9A,C,Bool.and_self,if_true,F];show(prog.keyLits (n+2) 235 [.int .i32 a,.int .i32 b]).map _=_;rw[y5P E Y n];rfl
theorem klP:KL 235 KP:=KL.of ulawP fun _ h=>q1l h
def KR(v:Value):Prop:=∃a,v=.int .i32 a
theorem klR:KL 21 KR:=by
 have G:∀v,KR v->IsKey (.int .i32) v:=fun v h=>(by obtain⟨a,rfl⟩:=h;exact rfl);refine⟨fun w C v h=>run_checkKey underlying21 (G v h) C 9999,fun w x h p B=>?_,fun w v h=>?_⟩
 ·rcases findNow_spec (G x h) p 0 (fun e s=>G _ (B e s))with⟨Z,D⟩ | ⟨j,e,Z,D,J⟩
  ·exact .inl ⟨run_findKey underlying21 Z,D⟩
  ·rw[Nat.zero_add]at Z;exact .inr ⟨j,e,run_findKey underlying21 Z,D,J⟩
 ·exact run_keyThatStays (G v h)
def KN(v:Value):Prop:=∃a b,v=pk a b/\Sh a/\Sh b
theorem ulawN:KeyLaw prog 238:=deep_law_laid x6e (m:=3) e8N (o0d f4x) f4x f4x
theorem y7O:prog.cellsOf 238=2:=f4x
theorem y9y:prog.keyType 238=true:=f4x
theorem y5N{a b}(E:Sh a)(Y:Sh b) D:prog.keyLits (D+2) 238 [.string a,.string b]=some [.string a.data.toList,.string b.data.toList]:=by
 rw[Program.keyLits.eq_def];simp only[underlying238,y7O];rw[if_pos ⟨rfl,M7K⟩];simp[List.mapM_cons,x2s E D,x2s Y D,y7R]
theorem q0p{v}(h:KN v):∃l,keyOf prog 238 v=some l:=by
 obtain⟨a,b,rfl,E,Y⟩:=h
 have C:(pk a b).formed prog 238=true:=by
  simp[pk,Value.formed,underlying238,y7O]
 obtain⟨n,F⟩:∃n,prog.types.size+1=n+2:=⟨prog.types.size-1,m4z⟩;refine⟨.string (keyBytes [.string a.data.toList,.string b.data.toList]),?_⟩;unfold keyOf;simp only[underlying238,y9y,C,Bool.and_self,if_true,F];show(prog.keyLits (n+2) 238 [.string a,.string b]).map _=_;rw[y5N E Y n];rfl
theorem klN:KL 238 KN:=KL.of ulawN fun _ h=>q0p h
namespace Cn
def x2D(l:List Rec)(a b:Int):Option Int:=(l.reverse.find? (isP a b)).map (·.lo)
def secOf(l:List Rec)(b:Int):Nat:=l.countP fun r=>decide (r.kind=7/\r.to.getD 1 0=b)
theorem x7i l r a b:x2D (l++[r]) a b=if isP a b r=true then some r.lo else x2D l a b:=by
 unfold x2D;rw[List.reverse_append,List.reverse_cons,List.reverse_nil,List.nil_append,List.singleton_append,List.find?_cons];by_cases h:isP a b r=true
 ·rw[h,if_pos rfl];rfl
 ·grind
theorem x8K l r b:secOf (l++[r]) b=secOf l b+if r.kind=7/\r.to.getD 1 0=b then 1 else 0:=by
 unfold secOf;rw[List.countP_append,List.countP_singleton];by_cases h:r.kind=7/\r.to.getD 1 0=b
 ·grind
 ·grind
theorem z4o l b:secOf l b<=l.length:=List.countP_le_length
end Cn
def x3p(l:List Rec)(v:Value):Option Value :=
 match v with
 | .agg ⟨[.int .i32 a,.int .i32 b]⟩=>(Cn.x2D l a b).map (Value.int .i32)
 | _=>none
def secC(l:List Rec)(v:Value):Option Value :=
 match v with
 | .int .i32 b=>if Cn.secOf l b=0 then none else some (.int .i64 (Cn.secOf l b:Nat))
 | _=>none
theorem y4x l a b:x3p l (pk2 a b)=(Cn.x2D l a b).map (Value.int .i32):=rfl
theorem x7h{l r v}(h:∀a b,v=pk2 a b->¬(r.kind=7/\r.to.getD 0 0=a/\r.to.getD 1 0=b)):x3p (l++[r]) v=x3p l v:=by
 unfold x3p;split
 ·rename_i a b
  rw[Cn.x7i,if_neg];intro s;exact h a b rfl (o0d s)
 ·rfl
theorem x8J{l r v}(h:∀b,v=.int .i32 b->¬(r.kind=7/\r.to.getD 1 0=b)):secC (l++[r]) v=secC l v:=by
 unfold secC;split
 ·rename_i b
  rw[Cn.x8K,if_neg (h b rfl),Nat.add_zero]
 ·rfl
theorem z0t v:x3p [] v=none:=by
 unfold x3p;split<;>rfl
theorem z4n v:secC [] v=none:=by
 unfold secC;split<;>rfl
open Go.RowKit Go.Sort Go.Shelf
open Ti
def encG(x:Tri.Rg):List Value:=[.int .i64 (Tri.lo x),.int .i64 (Tri.hi x),.int .i64 (Tri.vl x)]
theorem z2G(x:Tri.Rg):(encG x).length=3:=rfl
theorem z2H(x:Tri.Rg):∀v∈encG x,v.oneCell'=true:=by
 intro v N;simp only[encG,List.mem_cons,List.mem_nil_iff,or_false]at N;rcases N with rfl | rfl | rfl<;>rfl
def loG(x y:Tri.Rg):Int:=Lib.compareInt (Tri.lo x) (Tri.lo y)
theorem ltG(x y:Tri.Rg):ltOf loG x y=decide (Tri.lo x<Tri.lo y):=by
 unfold ltOf loG Lib.compareInt;by_cases Z:Tri.lo x<Tri.lo y
 ·simp[Z]
 ·grind
theorem swoG:SWO (ltOf loG):={
 irrefl:=fun x=>by rw[ltG];exact M7L
 trans:=fun x y z Z D=>u6y
 ntrans:=fun x y z Z D=>u6y }
theorem y7J(x y:Tri.Rg) W:Calls prog 197 #[.agg (encG x).toArray,.agg (encG y).toArray] W fun e w'=>e=.returned (.int .i64 (loG x y))/\∃q A,w'=grow (W.drewN q) A:=by
 have K:=O (fun W=>x2M (Tri.lo x) (Tri.lo y) W);have e:Lib.compareInt (Tri.lo x) (Tri.lo y)=loG x y:=rfl;rw[e]at K;show Calls prog 197 #[.agg #[.int .i64 (Tri.lo x),.int .i64 (Tri.hi x),.int .i64 (Tri.vl x)],.agg #[.int .i64 (Tri.lo y),.int .i64 (Tri.hi y),.int .i64 (Tri.vl y)]] W _;go_enter func197,ntmps197;exact u6L
theorem x8D(xs:List Tri.Rg) i j(hi:i<xs.length)(R:j<3):(Ti.rcells xs)[i*3+j]?=some ((encG (xs.getD i (0,0,0)))[j]!):=by
 obtain⟨U,Z,D⟩:=Ti.x1u xs i hi;have S:=Ti.x1I xs;have e:∀k,k<(Ti.rcells xs).length->(Ti.rcells xs)[k]?=some ((Ti.rcells xs).getD k undef):=fun k G=>w8a
 match j,R with
 | 0,_=>rw[Nat.add_zero,e _ f6J,U];rfl
 | 1,_=>rw[e _ f6J,Z];rfl
 | 2,_=>rw[e _ f6J,D];rfl
theorem Or4.holds[Inhabited Tri.Rg]{w B g cap}{xs:List Tri.Rg}(h:Or4 w B (.slice (some ⟨g,0,none⟩) xs.length cap) xs):HoldsK encG 3 w g 0 xs.toArray:=by
 intro j R;rw[size_flatK]at R;have W:j<xs.length*3:=s4P;rw[get_flatK _ _ _ _ R];have hd:j / 3<xs.length:=f6J
 have e:=h.2.2.cells (g:=g) rfl j _ (by
  have:=x8D xs (j / 3) (j%3) hd f6J;rw[(f6J:j / 3*3+j%3=j)]at this
  exact this)
 rw[addr_add,Nat.zero_add]at e;have C:xs.toArray[j / 3]! = xs.getD (j / 3) (0,0,0):=(by grind);rw[C,Nat.zero_add];refine⟨e,?_⟩;rcases h.2.2.2 with⟨N,_⟩ | ⟨S,A,t,N,_,X,_⟩
 ·simp at N
 ·exact g6k
theorem y3m[Inhabited Tri.Rg]{w:World}{blk n}{d:Array Tri.Rg}{s:Array Obj}:w.grownBy (sortWorldK encG 3 w blk 0 n d s) (some blk):=by
 refine⟨rfl,rfl,rfl,?_,fun k G y=>?_⟩
 ·show w.heap.size<=((putRowK encG 3 (Sort.ahead w n) blk 0 d).heap++s).size;rw[Array.size_append];have:(putRowK encG 3 (Sort.ahead w n) blk 0 d).heap.size=w.heap.size:=r2O;omega
 ·show((putRowK encG 3 (Sort.ahead w n) blk 0 d).heap++s)[k]?=_;have L:(putRowK encG 3 (Sort.ahead w n) blk 0 d).heap.size=w.heap.size:=r2O;exact V4f
theorem z3h p cap fv w:Calls prog 274 #[.slice p 0 cap,.int .i64 0,.int .i64 0,fv] w fun e w'=>e=.returned (.tuple #[])/\w'=w:=by
 go_enter func274,ntmps274;exact f0B
theorem z3R p cap lim fv w:Calls prog 246 #[.slice p 0 cap,.int .i64 0,.int .i64 0,.int .i64 lim,fv] w fun e w'=>e=.returned (.tuple #[])/\w'=w:=by
 have hi:=fun W=>z3h p cap fv W;go_enter func246,ntmps246;go_wp2;refine wp_loop_rounds 1 ?_;rw[rounds_succ];go_wp2_with(go_at_call 274;refine(hi _).mono ?_;rintro e w' ⟨rfl,rfl⟩)
 exact m8y
theorem z1d p cap fv w:Calls prog 196 #[.slice p 0 cap,fv] w fun e w'=>e=.returned (.tuple #[])/\w'=w:=by
 have S:∀W,Calls prog 182 #[.int .u64 0] W fun e w'=>e=.returned (.int .i64 0)/\w'=W:=fun W =>
  Any.bits_Len (SlLaysF0.n15.bits (P:=prog) (ρ:=Tryz.lays196_ren) { Tryz.lays196 with }) 0 W f6J f6J
 have s:=fun A W=>z3R p cap A fv W;go_enter func196,ntmps196;go_wp2_with(first| (go_at_call 182;refine(S _).mono ?_;rintro e w' ⟨rfl,rfl⟩)|(go_at_call 246;refine(s _ _).mono ?_;rintro e w' ⟨rfl,rfl⟩));go_end0;exact⟨rfl,rfl⟩
def SortG(w:World)(v:Value)(xs:List Tri.Rg)(e:Ending)(w':World):Prop:=e=.returned (.tuple #[])/\∃ys:List Tri.Rg,ys.Perm xs/\(ys.Pairwise fun a b=>Tri.lo a<=Tri.lo b)/\Sr w' v ys/\w.grownBy w' v.ownBlock
theorem y1K w B v(xs:List Tri.Rg)(h:Or4 w B v xs)(S:xs.length<=5000000000):Calls prog 196 #[v,.func (.func 197) #[] #[]] w (SortG w v xs):=by
 have z:Inhabited Tri.Rg:=⟨(0,0,0)⟩;have p:=h.sr;rcases h.2.2.2 with⟨rfl,U⟩ | ⟨g,M,t,rfl,H,X,F,G,f,T⟩
 ·obtain rfl:xs=[]:=List.eq_nil_of_length_eq_zero U;refine(z1d none 0 _ w).mono ?_;rintro e C ⟨rfl,rfl⟩;exact⟨rfl,[],List.Perm.refl _,.nil,p,⟨rfl,rfl,rfl,l0r _,fun _ _ _=>rfl⟩⟩
 ·have E:=(h.2.2.lt g rfl).2;have u:=Or4.holds h;have D:∀o w,(callFunc 197 o).run prog w=.ok (.enter 197 o) w:=enters_of func197 f4A rfl;have Y:CmpLays prog 197 #[] encG 3 loG g 0 xs.toArray.size w:=fun _ _ _ _ x y=>y7J x y _;have m:∀w,(isAgg 272).run prog w=.ok true w:=Tryz.isAgg272;have q:∀w,(Go.sizeOf 272).run prog w=.ok 3 w:=Tryz.sizeOf272;have K:=AnyQ.slices_SortFunc Tryz.lays196 3 m q encG z2G z2H loG swoG 197 #[] g 0 M xs.toArray w D Y u E P8P;change Calls prog 196 #[.slice (some ⟨g,0,none⟩) xs.length M,_] w _ at K;refine K.mono ?_;rintro e C ⟨rfl,J,n,s,⟨W,_,k⟩,L,rfl⟩;have b:J.size=xs.length:=by simpa using W
  have Q:J.toList.Perm xs:=by
   have P:J.extract 0 xs.toArray.size=J:=(by grind);rw[P]at k;simpa using k
  have Z:SWK encG 3 w g 0 J (sortWorldK encG 3 w g 0 n J s):=⟨n,s,rfl⟩;have l:=Z.holds E u W;have N:J.toList.length=xs.length:=f6J;refine⟨rfl,J.toList,Q,?_,⟨fun x A=>h.1 x (Q.mem_iff.1 A),?_,by rw[N];exact h.2.1,.inr ⟨g,0,M,by rw[N],by rw[N];exact F,by unfold maxLen at G;exact f6J,fun i hi=>?_⟩⟩,y3m⟩
  ·rw[List.pairwise_iff_getElem];intro i j hi R I;have:=L i j (Nat.zero_le _) I (by simp at R ⊢;exact f6J);rw[ltG,decide_eq_false_iff_not]at this;exact s7A
  ·rw[Ti.x1I]
  ·rw[N]at hi;have a:i / 3<J.size:=f6J;have:=(l.cell (i:=i / 3) (c:=i%3) a f6J).1;rw[Nat.zero_add,(f6J:i / 3*3+i%3=i)]at this;rw[Nat.zero_add,this,getElem!_pos J _ a];have d:=x8D J.toList (i / 3) (i%3) (by rw[N];exact f6J) f6J;rw[(f6J:i / 3*3+i%3=i)]at d;rw[List.getD,d];simp[List.getD,a]
open Go.RowKit
open Ti
def x6p(w0:World)(xs:List Tri.Rg)(e:Ending)(w':World):Prop:=∃a m,e=.returned (.pointer (some a))/\m.Perm xs/\(m.Pairwise fun x y=>Tri.lo x<=Tri.lo y)/\T4 w' w0.heap.size (.pointer (some a)) m 0/\Below w0.heap.size w0 w'
theorem y7I w0 w v(xs:List Tri.Rg)(Y:Bw w0 w)(h:Or4 w w0.heap.size v xs)(S:xs.length<=5000000000)(N:∀m:List Tri.Rg,m.Perm xs->(m.Pairwise fun x y=>Tri.lo x<=Tri.lo y)->Tri.Val 0 m):Calls prog 147 #[v] w (x6p w0 xs):=by
 have l:=O (y1K w w0.heap.size v xs h S);have o:Hid (∀C,w.grownBy C v.ownBlock->Bw w0 C):=fun C H=>Y.grown H Y.size (fun k G=>(h.2.2.lt k G).1);have B:=O N;obtain⟨J,M,rfl,_,_⟩:=h.sr.shape;go_enter func147,ntmps147;go_wp2_with fail;refine(V l).mono ?_;rintro P Q ⟨rfl,ys,s,A,p,H⟩;have F:=V o Q H;have q:=V B ys s A;have j:=O (z4S _ ys 0 Q p ⟨f6J,f6J⟩);have n:(Tri.check 0 ys).2=0:=Tri.x3X.2 ⟨q,f6J,f6J⟩;have E:=O n;have Z:=O s;have D:=O A;have R:=O F;go_wp2_with fail;refine(V j).mono ?_;rintro z u ⟨t,⟨_,a,rfl,I⟩ | ⟨X,_⟩⟩
 ·have T:x6p w0 xs (.returned (.pointer (some a))) u:=⟨a,ys,rfl,V Z,V D,I.lower (V R).size,bthen (V R) t⟩;exact U7G
 ·exact absurd (V E) X
open Go.ChangeMaps (setBlock)
theorem Rsh.shape{f W:World}{v:Value}{xs:List Sp}(h:Rsh f W v xs):∃ao cap,v=.slice ao xs.length cap/\xs.length<=cap/\cap<=9223372036854775807:=by
 rcases h.1.2 with⟨rfl,U⟩ | ⟨g,cap,t,rfl,_,_,F,G,_⟩
 ·exact⟨none,0,by rw[U],f6J,f6J⟩
 ·exact⟨_,cap,rfl,F,V3H⟩
theorem x6G(p:Rec->Bool)(l:List Rec)(r:Rec):(l++[r]).filter p=l.filter p++(if p r then[r]else[]):=by
 rw[List.filter_append];cases h:p r<;>simp[h]
def is6(r:Rec):Bool:=decide (r.kind=6)
def is78(r:Rec):Bool:=decide (r.kind=7\/r.kind=8)
def Made(w0 wr:World)(l:List Rec)(k:Nat):Prop:=∃(cv ov:Value) (cxs oxs:List Sp),NI w0 wr (Cn.firstP (l.take k)) cv ov cxs oxs/\cxs.map (·.1)=(l.take k).filter is6/\oxs.map (·.1)=(l.take k).filter is78
theorem Made.next{f wr:World}{l:List Rec}{k:Nat}{r:Rec}{cv ov:Value}{F C cxs' oxs':List Sp}{c:Int->Int->Option Int}(s:l.take (k+1)=l.take k++[r])
  (h:NI f wr c cv ov cxs' oxs') (I:c=Cn.firstP (l.take k++[r])) (P:F.map (·.1)=(l.take k).filter is6) (z:C.map (·.1)=(l.take k).filter is78)
  (Z:cxs'.map (·.1)=F.map (·.1)++(if is6 r then[r]else[])) (D:oxs'.map (·.1)=C.map (·.1)++(if is78 r then[r]else[])):Made f wr l (k+1):=by
 subst I;exact⟨cv,ov,cxs',oxs',by rw[s];exact h,by rw[s,x6G,Z,P],by rw[s,x6G,D,z]⟩
theorem y4q{l:List Rec}{k:Nat}{F C:List Sp}(P:F.map (·.1)=(l.take k).filter is6)(z:C.map (·.1)=(l.take k).filter is78)(S:l.length<=4096):F.length<=4096/\C.length<=4096:=by
 have Z:=congrArg List.length P;have D:=congrArg List.length z;rw[List.length_map]at Z D;have a:=List.length_filter_le is6 (l.take k);have A:=List.length_filter_le is78 (l.take k);have K:(l.take k).length<=l.length:=P8P;omega
theorem x2T(W:World)(r:Rec)(d:Option Addr)(J:Nat)(n:Nat)(F:W.heap.size=n):∀j u,(encR (r,d,r.to.length,J))[j]?=some u->(W.alloc (.cells #[.int .i64 r.kind,.int .i64 r.lo,.int .i64 r.hi,.int .i64 r.n,.slice d r.to.length J,.string r.name,.string r.other,.float .f64 r.wt] 60)).cell? ((⟨n,0,none⟩:Addr).add j)=some u:=x6i W n F r (.slice d r.to.length J)
theorem y7N{W:World}{r L j:Nat}{v:Value}(o:Obj)(h:L≠r)(I:W.cell? ⟨L,j,none⟩=some v):(setBlock W r o).cell? ⟨L,j,none⟩=some v:=by
 rw[World.cell?_of_block (x1D W o h)];exact I
theorem x6g{xs:List Int}{i:Nat}(h:i<xs.length):xs.getD i 0∈xs:=p8I
def y7g(w0:World)(l:List Rec)(e:Ending)(w':World):Prop:=∃cv ov cs os,e=.returned (xV cv ov (.map (some (w0.heap.size+1))))/\Idx l w' cv ov cs os/\PAt w' (w0.heap.size+1) (Cn.firstP l)/\Below w0.heap.size w0 w'
def nw(w0:World):World:=((w0.alloc (.cells #[.slice none 0 0,.slice none 0 0,.map none] 168)).alloc (.map #[] 0)).alloc (.cells #[.slice none 0 0,.slice none 0 0,.map (some (w0.heap.size+1))] 168)
theorem nw_ni(f:World):NI f (nw f) (fun _ _=>none) (.slice none 0 0) (.slice none 0 0) [] []:=by
 have e:(nw f).heap=((f.heap.push (.cells #[.slice none 0 0,.slice none 0 0,.map none] 168 (0,0))).push (.map #[] 0)).push (.cells #[.slice none 0 0,.slice none 0 0,.map (some (f.heap.size+1))] 168 (0,0)):=rfl;refine⟨?_,⟨#[],0,?_,q0y⟩,?_,⟨World.ownsRow_nil _ _ _ _,fun _ h=>m5l⟩,⟨World.ownsRow_nil _ _ _ _,fun _ h=>m5l⟩,fun g h=>by simp[Value.ownBlock]at h,?_⟩
 ·rw[e,Array.getElem?_push,Array.getElem?_push,Array.getElem?_push];simp;omega
 ·rw[e,Array.getElem?_push,Array.getElem?_push];simp
 ·rw[e,Array.getElem?_push];simp
 ·exact r5O
theorem y1h(v:Value)(l:List Rec)(w0:World)(hv:Rcs w0 v l)(bR:(Cn.check6 l).2=0):Calls prog 91 #[v] w0 (y7g w0 l):=by
 obtain⟨i1,hj,bh,bj,bm⟩:=info_parts Tryz.info60;have dB:=@run_makeMap prog;obtain⟨hl,aA⟩:=Cn.x1F bR
 have bJ:Hid (∀i,i<l.length->(l.getD i Cn.none).kind=7->(l.getD i Cn.none).to.length=2/\Rune ((l.getD i Cn.none).to.getD 0 0)/\Rune ((l.getD i Cn.none).to.getD 1 0)):=fun i hi h7=>by
  have hm:l.getD i Cn.none∈l:=(by simp[List.getD,hi]);have bP:=(Cn.x0E (aA _ hm) h7).2.2;obtain⟨⟨g1,g2⟩,g3⟩:=Cn.x0x bP;refine⟨f6J,?_,?_⟩
  ·have:=g3 ((l.getD i Cn.none).to.getD 0 0) (x6g f6J);have:=o0d this;unfold Rune;omega
  ·have:=g3 ((l.getD i Cn.none).to.getD 1 0) (x6g f6J);have:=o0d this;unfold Rune;omega
 have aK:=O (fun i hi=>hv.fit (i:=i) hi);have HV:=O hv
 have aB:Hid (∀k,k<l.length->l.take (k+1)=l.take k++[l.getD k Cn.none]):=fun k hk=>by
  rw[List.take_add_one];simp[List.getD,hk]
 have bK:Hid (∀k,k<l.length->(l.take k).length=k):=fun k hk=>P8P;have bn:Hid (∀w',Made w0 w' l l.length->Made w0 w' l l.length):=fun _ h=>h;have aL:=O (nw_ni w0);have aV:=O bR;have cX:=O aA;obtain⟨ao,dv,rfl,dx,dy⟩:=hv.shape;clear hv bR aA;go_enter func91,ntmps91;go_wp2;go_loopw[4,5,6,7,12] (fun _ _ _ _ i wr=>∃k:Nat,i=.int .i64 k/\k<=l.length/\Hid (Made w0 wr l k)) (fun _ _ _ _ i _=>l.length-(intOf i).toNat)
 case atStart=>exact⟨0,rfl,f6J,⟨_,_,[],[],V aL,by simp,by simp⟩⟩
 case round =>
  clear aL;obtain⟨k,rfl,hk,ay⟩:=hrel;by_cases aQ:k<l.length
  ·obtain⟨cv,ov,F,C,L,e1,e2⟩:=V ay;obtain⟨db,dj⟩:=y4q e1 e2 hl;obtain⟨b,dl,dp,ev,_,_,aH⟩:=(V HV).place f6J;simp only[Value.slice.injEq]at ev;obtain⟨rfl,_,rfl⟩:=ev;have aF:=aH k aQ;have cJ:=aF.below L.bel;obtain⟨vt,bT,aI⟩:=aF.to;have bw:=V aK k aQ;have cM:=V aB k aQ;have cN:=V bK k aQ;have h7:=V bJ k aQ;obtain⟨d,J,rfl,_,_⟩:=aI.shape;have x4:wr.cell? ⟨b,dl+k*8+4,none⟩=some (.slice d (l.getD k Cn.none).to.length J):=(by rw[L.bel.cell (x0a bT)];exact bT);obtain⟨x0,x1,x2,x3,_,x5,x6,x7⟩:=cJ;generalize l.getD k Cn.none=r at *;have bZ:=O aI;have q:Hid (Sk .i32 w0 (sval (r,d,r.to.length,J)) r.to/\RecFit r):=⟨aI,bw⟩;obtain⟨Q,hQ⟩:∃Q,(wr.alloc (.cells #[.int .i64 r.kind,.int .i64 r.lo,.int .i64 r.hi,.int .i64 r.n,.slice d r.to.length J,.string r.name,.string r.other,.float .f64 r.wt] 60))=Q:=⟨_,rfl⟩
   have T:Hid (Q.heap[wr.heap.size]?=some (.cells #[.int .i64 r.kind,.int .i64 r.lo,.int .i64 r.hi,.int .i64 r.n,.slice d r.to.length J,.string r.name,.string r.other,.float .f64 r.wt] 60 (0,0))):=by
    rw[<- hQ];show(wr.heap.push _)[wr.heap.size]?=_;simp
   have N:Q.heap.size=wr.heap.size+1:=(by rw[<- hQ];simp);have E:=O (L.below (hQ ▸ (b0r).alloc (l0r _) _));have u:=O (fun W c cv' ov' cxs' oxs' (h:NI w0 W c cv' ov' cxs' oxs') hc h1 h2=>Made.next (wr:=W) (c:=c) (cv:=cv') (ov:=ov') (cxs':=cxs') (oxs':=oxs') cM h hc e1 e2 h1 h2);have dw:=L.bel.size;obtain⟨aj,Z,rfl,dq,dr⟩:=L.hc.shape;obtain⟨P,B,rfl,dt,du⟩:=L.ho.shape;have dz:∀W a m,(store a (.float .f64 r.wt) m).run prog W=stored prog W a (.float .f64 r.wt) m:=fun W a m=>run_store prog W a _ m rfl;have aq:=O (x9d (r,d,r.to.length,J));clear aF aH bT aI bw cM L e1 e2 ay aK aB bK bJ HV aV cX bn;by_cases k6:r.kind=6
   ·have A:=E;clear h7;obtain⟨kd,lo,hi,nn,Y,R,M,wt⟩:=r;dsimp only at *;subst k6;have y0:Q.cell? ⟨w0.heap.size+1+1,0,none⟩=some (.slice aj F.length Z):=cell_of (j:=0) (V A).hx T7d;have ae:Hid (∀o,(Q.alloc o).ownsRow w0.heap.size 60 8 (.slice aj F.length Z) F.length (F.flatMap encR)):=fun o=>(V A).hc.1.alloc o;have D:=O (x2T Q (⟨6,lo,hi,nn,Y,R,M,wt⟩:Rec) d J (wr.heap.size+1) e7i);have y:=O (fun o v' w1 a b c=>(V A).classes (o:=o) (v':=v') (w1:=w1) (V q) a b c);have aN:=(V A).bel.size;clear A q E T;subst hQ;go_wp2_with(at_builtin;refine wpList_append_own_at _ rfl (.tmp 22) (.tmp 24) 22 rfl w0.heap.size 60 i1 (.agg #[.int .i64 0,.int .i64 0,.int .i64 0,.int .i64 0,.slice none 0 0,.string ⟨#[]⟩,.string ⟨#[]⟩,.float .f64 0]) 8 96 underlying22 hj bh bj bm rfl (by decide) _ _ _ rfl (V ae _) ⟨wr.heap.size+1,0,none⟩ 1 1 (encR ((⟨6,lo,hi,nn,Y,R,M,wt⟩:Rec),d,Y.length,J)) rfl rfl (V D) (V aq) T7X f6J P8P ?_);intro v' w9 s ar _ z;obtain⟨ab,am⟩:=V y _ v' w9 s ar v5o;have X:Hid (Made w0 (w9.setCell ⟨w0.heap.size+1+1,0,none⟩ v') l (k+1)):=V u _ _ _ _ _ _ am (Cn.x2O (by simp)).symm T7E w8r;obtain⟨bM,t,rfl,_,_⟩:=am.hc.shape;have z0:w9.cell? ⟨w0.heap.size+1+1,0,none⟩=some (.slice aj F.length Z):=cell_of (j:=0) ab T7d;have zf:=x0d (j:=0) ab;clear ae D y s ar z ab am u aq y0;generalize(F++[((⟨6,lo,hi,nn,Y,R,M,wt⟩:Rec),d,Y.length,J)]).length=m9 at *;go_wp2
    exact N7Y
   ·have q6:(r.kind==6)=false:=b0f k6;by_cases k7:r.kind=7
    ·obtain⟨bC,cH,cI⟩:=h7 k7;clear q6 h7;obtain⟨kd,lo,hi,nn,Y,R,M,wt⟩:=r;dsimp only at *;subst k7;obtain⟨SQ,I⟩:∃SQ:World->Prop,(fun W:World=>W.heap[wr.heap.size]?=some (.cells #[.int .i64 7,.int .i64 lo,.int .i64 hi,.int .i64 nn,.slice d Y.length J,.string R,.string M,.float .f64 wt] 60 (0,0))/\W.cell? ⟨w0.heap.size+1+1,2,none⟩=some (.map (some (w0.heap.size+1))))=SQ:=⟨_,rfl⟩;obtain⟨SP,G⟩:∃SP:World->Prop,(fun W:World=>SQ W/\Hid (Bw Q W))=SP:=⟨_,rfl⟩;have H:Hid (∀W:World,Bw Q W->NI w0 W (Cn.firstP (l.take k)) (.slice aj F.length Z) (.slice P C.length B) F C):=fun W U=>(V E).below U
     have HS:Hid (∀W:World,Bw Q W->SP W):=fun W U=>by
      rw[<- G,<- I];exact⟨⟨(U.block _ f6J).trans (V T),cell_of (j:=2) (V H W U).hx (by show 2<3;exact f6J)⟩,U⟩
     have aX:Hid (∀W:World,Bw w0 W->Calls prog 135 #[.agg #[.int .i64 7,.int .i64 lo,.int .i64 hi,.int .i64 nn,.slice d Y.length J,.string R,.string M,.float .f64 wt]] W (fun e w'=>e=.returned (pk2 (Y.getD 0 0) (Y.getD 1 0))/\Bw W w')):=fun W U=>x8A (⟨7,lo,hi,nn,Y,R,M,wt⟩:Rec) _ W ((V bZ).below U) bC;have bI:Hid (∀W:World,Bw Q W->(Instr.lookup 166 (.map (some (w0.heap.size+1))) (pk2 (Y.getD 0 0) (Y.getD 1 0)) true).run prog W=.ok (.tuple #[.int .i64 ((Cn.firstP (l.take k) (Y.getD 0 0) (Y.getD 1 0)).getD 0),.bool (Cn.firstP (l.take k) (Y.getD 0 0) (Y.getD 1 0)).isSome]) W):=fun W U=>(look_ok (V H W U).hm cH cI).1;have bH:Hid ((Cn.firstP (l.take k) (Y.getD 0 0) (Y.getD 1 0)).isSome=true->Cn.firstP (l.take k++[(⟨7,lo,hi,nn,Y,R,M,wt⟩:Rec)])=Cn.firstP (l.take k)):=fun h=>Cn.y0L (r:=(⟨7,lo,hi,nn,Y,R,M,wt⟩:Rec)) h
     have bL:Hid ((Cn.firstP (l.take k) (Y.getD 0 0) (Y.getD 1 0)).isSome=false->∀W:World,Bw Q W->∃aY aG,(Instr.mapUpdate 166 (.map (some (w0.heap.size+1))) (pk2 (Y.getD 0 0) (Y.getD 1 0)) (.int .i64 (k:Int))).run prog W=.ok () (setBlock W (w0.heap.size+1) (.map aY aG))/\NI w0 (setBlock W (w0.heap.size+1) (.map aY aG)) (Cn.firstP (l.take k++[(⟨7,lo,hi,nn,Y,R,M,wt⟩:Rec)])) (.slice aj F.length Z) (.slice P C.length B) F C):=fun h W U=>by
      have hn:Cn.firstP (l.take k) (Y.getD 0 0) (Y.getD 1 0)=none:=(by simpa using h);obtain⟨aY,cZ,g1,g2⟩:=y6G (V H W U).hm cH cI hn (k:Int);have cP:=(V H W U).upd g2;have e5:=Cn.y5F (r:=(⟨7,lo,hi,nn,Y,R,M,wt⟩:Rec)) (l:=l.take k) rfl hn;rw[cN]at e5;refine⟨aY,cZ,g1,?_⟩;rw[e5];exact cP
     have aW:Hid (∀W:World,Bw Q W->Bw w0 W):=fun W U=>(V H W U).bel;clear T bZ bC cN;generalize(Cn.firstP (l.take k) (Y.getD 0 0) (Y.getD 1 0)).getD 0=zf,(Cn.firstP (l.take k) (Y.getD 0 0) (Y.getD 1 0)).isSome=kn at *;generalize Y.getD 0 0=pa,Y.getD 1 0=pb at *;unfold pk2 at *;have aO:Bw Q Q.drew:=x0i ⟨1,rfl⟩;have x:=O (V HS _ aO);have cj:=O (V aX _ (V aW _ aO));subst hQ;go_wp2;refine wp_region_held_drew (S:=fun w'=>SP w') f4B (V x) (fun hHeld=>?_);refine tk9 0 (.pointer (some ⟨w0.heap.size+1+1,2,none⟩)) ?_ (hy:=n3r);refine tk9 1 (.map (some (w0.heap.size+1))) ?_ (hy:=n3r);refine tk9 2 (.agg #[.int .i64 7,.int .i64 lo,.int .i64 hi,.int .i64 nn,.slice d Y.length J,.string R,.string M,.float .f64 wt]) ?_ (hy:=n3r);refine rd9 3 fun K hK=>?_;go_simp;refine c0m cj fun W2 aZ=>?_;have aM:=bthen aO aZ;have bE:=O (V HS W2 aM);refine hK.out _ _ ?_ (fun hHeld=>?_)
     ·exact V bE
     clear hK K
     try simp only[Act.put,sa9,sb9,sc9]
     refine tk9 4 (.tuple #[.int .i64 zf,.bool kn]) ?_ (hy:=by(intro w hSw;obtain⟨hS,s9⟩:=(congrFun G _).mpr hSw;obtain⟨sb,s8⟩:=(congrFun I _).mpr hS;obtain⟨s0,s1,s2,s3,s4,s5,s6,s7⟩:=cells8 sb;have dA:=V bI w (V s9);go_simp));refine tk9 5 (.tuple #[.int .i64 zf,.bool kn]) ?_;refine tk9 6 (.int .i64 zf) ?_;refine tk9 7 (.bool kn) ?_;refine tk9 8 (.int .i64 zf) ?_;refine tk9 9 (.bool kn) ?_;refine wpAnyH_done f4B ?_ _;obtain⟨tb,t8⟩:=(congrFun I _).mpr ((congrFun G _).mpr (V bE)).1;obtain⟨t0,t1,t2,t3,t4,t5,t6,t7⟩:=cells8 tb;clear bE x cj hHeld;cases kn
     ·obtain cO:=V bL rfl;have ba:=bthen aM (x0i ⟨1,rfl⟩);have x:=O ((congrFun G _).mpr (V HS _ ba)).1;have cw:=O (V aX _ (V aW _ ba));have bt:=O cO;clear cO;go_wp2;refine wp_region_held_drew (S:=fun w'=>SQ w') f4B (V x) (fun hHeld=>?_);refine tk9 0 (.pointer (some ⟨w0.heap.size+1+1,2,none⟩)) ?_ (hy:=t4s);refine tk9 1 (.map (some (w0.heap.size+1))) ?_ (hy:=t4s);refine tk9 2 (.agg #[.int .i64 7,.int .i64 lo,.int .i64 hi,.int .i64 nn,.slice d Y.length J,.string R,.string M,.float .f64 wt]) ?_ (hy:=t4s);refine tk9 4 (.int .i64 (k:Int)) ?_;refine rd9 3 fun K hK=>?_;go_simp;refine c0m cw fun W3 da=>?_;have bN:=bthen ba da;obtain⟨cC,cB,dk,bB⟩:=V bt W3 bN;have bp:=O bB;have bF:=O ((congrFun G _).mpr (V HS _ bN)).1
      have bG:Hid (SQ (setBlock W3 (w0.heap.size+1) (.map cC cB))):=by
       have di:=x0G (V E).hx;rw[N]at di;obtain⟨sb,s8⟩:=(congrFun I _).mpr (V bF);rw[<- I];exact⟨(x1D _ _ f6J).trans sb,y7N _ f6J s8⟩
      clear bB;refine hK.out _ _ ?_ (fun hHeld=>?_)
      ·exact V bF
      clear hK K
      try simp only[Act.put,sa9,sb9,sc9]
      refine rd9 5 fun K hK=>?_;go_simp;refine hK.out _ _ ?_ (fun hHeld=>?_)
      ·exact V bG
      clear hK K
      try simp only[Act.put,sa9,sb9,sc9]
      refine wpAnyH_done f4B ?_ _;obtain⟨ub,u8⟩:=(congrFun I _).mpr (V bG);obtain⟨u0,u1,u2,u3,u4,u5,u6,u7⟩:=cells8 ub;have A:=bp;clear ub tb bG bF x cw hHeld bt bL bH bI HS H aX aW t0 t1 t2 t3 t4 t5 t6 t7 t8 bp dk bN ba aM aO;generalize setBlock W3 (w0.heap.size+1) (.map cC cB)=W5 at *;have y0:W5.cell? ⟨w0.heap.size+1+1,1,none⟩=some (.slice P C.length B):=cell_of (j:=1) (V A).hx f2Q;have ae:Hid (∀o,(W5.alloc o).ownsRow w0.heap.size 60 8 (.slice P C.length B) C.length (C.flatMap encR)):=fun o=>(V A).ho.1.alloc o;have D:=O (x2T W5 (⟨7,lo,hi,nn,Y,R,M,wt⟩:Rec) d J (W5.heap.size) e7i);have y:=O (fun o v' w1 a b c=>(V A).opens (o:=o) (v':=v') (w1:=w1) (V q) a b c);have aN:=(V A).bel.size;clear A q E;go_wp2_with(at_builtin;refine wpList_append_own_at _ rfl (.tmp 45) (.tmp 47) 22 rfl w0.heap.size 60 i1 (.agg #[.int .i64 0,.int .i64 0,.int .i64 0,.int .i64 0,.slice none 0 0,.string ⟨#[]⟩,.string ⟨#[]⟩,.float .f64 0]) 8 96 underlying22 hj bh bj bm rfl (by decide) _ _ _ rfl (V ae _) ⟨W5.heap.size,0,none⟩ 1 1 (encR ((⟨7,lo,hi,nn,Y,R,M,wt⟩:Rec),d,Y.length,J)) rfl rfl (V D) (V aq) T7X f6J P8P ?_);intro v' w9 s ar _ z;obtain⟨ab,am⟩:=V y _ v' w9 s ar v5o;have X:Hid (Made w0 (w9.setCell ⟨w0.heap.size+1+1,1,none⟩ v') l (k+1)):=V u _ _ _ _ _ _ am rfl T7E w8r;obtain⟨bM,t,rfl,_,_⟩:=am.ho.shape;have z0:w9.cell? ⟨w0.heap.size+1+1,1,none⟩=some (.slice P C.length B):=cell_of (j:=1) ab f2Q;have zf:=x0d (j:=1) ab;clear ae D y s ar z ab am u aq y0;generalize(C++[((⟨7,lo,hi,nn,Y,R,M,wt⟩:Rec),d,Y.length,J)]).length=m9 at *;go_wp2
      exact N7Y
     ·have de:=V bH rfl;have A:=O (V H W2 aM);clear tb bL bH bI HS H aX aW aM aO;have y0:W2.cell? ⟨w0.heap.size+1+1,1,none⟩=some (.slice P C.length B):=cell_of (j:=1) (V A).hx f2Q;have ae:Hid (∀o,(W2.alloc o).ownsRow w0.heap.size 60 8 (.slice P C.length B) C.length (C.flatMap encR)):=fun o=>(V A).ho.1.alloc o;have D:=O (x2T W2 (⟨7,lo,hi,nn,Y,R,M,wt⟩:Rec) d J (W2.heap.size) e7i);have y:=O (fun o v' w1 a b c=>(V A).opens (o:=o) (v':=v') (w1:=w1) (V q) a b c);have aN:=(V A).bel.size;clear A q E;go_wp2_with(at_builtin;refine wpList_append_own_at _ rfl (.tmp 45) (.tmp 47) 22 rfl w0.heap.size 60 i1 (.agg #[.int .i64 0,.int .i64 0,.int .i64 0,.int .i64 0,.slice none 0 0,.string ⟨#[]⟩,.string ⟨#[]⟩,.float .f64 0]) 8 96 underlying22 hj bh bj bm rfl (by decide) _ _ _ rfl (V ae _) ⟨W2.heap.size,0,none⟩ 1 1 (encR ((⟨7,lo,hi,nn,Y,R,M,wt⟩:Rec),d,Y.length,J)) rfl rfl (V D) (V aq) T7X f6J P8P ?_);intro v' w9 s ar _ z;obtain⟨ab,am⟩:=V y _ v' w9 s ar v5o;have X:Hid (Made w0 (w9.setCell ⟨w0.heap.size+1+1,1,none⟩ v') l (k+1)):=V u _ _ _ _ _ _ am de.symm T7E w8r;obtain⟨bM,t,rfl,_,_⟩:=am.ho.shape;have z0:w9.cell? ⟨w0.heap.size+1+1,1,none⟩=some (.slice P C.length B):=cell_of (j:=1) ab f2Q;have zf:=x0d (j:=1) ab;clear ae D y s ar z ab am u aq y0;generalize(C++[((⟨7,lo,hi,nn,Y,R,M,wt⟩:Rec),d,Y.length,J)]).length=m9 at *;go_wp2
      exact N7Y
    ·have q7:(r.kind==7)=false:=b0f k7;clear h7;by_cases k8:r.kind=8
     ·have A:=E;clear q6 q7;obtain⟨kd,lo,hi,nn,Y,R,M,wt⟩:=r;dsimp only at *;subst k8;have y0:Q.cell? ⟨w0.heap.size+1+1,1,none⟩=some (.slice P C.length B):=cell_of (j:=1) (V A).hx f2Q;have ae:Hid (∀o,(Q.alloc o).ownsRow w0.heap.size 60 8 (.slice P C.length B) C.length (C.flatMap encR)):=fun o=>(V A).ho.1.alloc o;have D:=O (x2T Q (⟨8,lo,hi,nn,Y,R,M,wt⟩:Rec) d J (wr.heap.size+1) e7i);have y:=O (fun o v' w1 a b c=>(V A).opens (o:=o) (v':=v') (w1:=w1) (V q) a b c);have aN:=(V A).bel.size;clear A q E T;subst hQ;go_wp2_with(at_builtin;refine wpList_append_own_at _ rfl (.tmp 53) (.tmp 55) 22 rfl w0.heap.size 60 i1 (.agg #[.int .i64 0,.int .i64 0,.int .i64 0,.int .i64 0,.slice none 0 0,.string ⟨#[]⟩,.string ⟨#[]⟩,.float .f64 0]) 8 96 underlying22 hj bh bj bm rfl (by decide) _ _ _ rfl (V ae _) ⟨wr.heap.size+1,0,none⟩ 1 1 (encR ((⟨8,lo,hi,nn,Y,R,M,wt⟩:Rec),d,Y.length,J)) rfl rfl (V D) (V aq) T7X f6J P8P ?_);intro v' w9 s ar _ z;obtain⟨ab,am⟩:=V y _ v' w9 s ar v5o;have X:Hid (Made w0 (w9.setCell ⟨w0.heap.size+1+1,1,none⟩ v') l (k+1)):=V u _ _ _ _ _ _ am (Cn.x2O (by simp)).symm T7E w8r;obtain⟨bM,t,rfl,_,_⟩:=am.ho.shape;have z0:w9.cell? ⟨w0.heap.size+1+1,1,none⟩=some (.slice P C.length B):=cell_of (j:=1) ab f2Q;have zf:=x0d (j:=1) ab;clear ae D y s ar z ab am u aq y0;generalize(C++[((⟨8,lo,hi,nn,Y,R,M,wt⟩:Rec),d,Y.length,J)]).length=m9 at *;go_wp2
      exact N7Y
     ·have q8:(r.kind==8)=false:=b0f k8;have X:Hid (Made w0 Q l (k+1)):=V u _ _ _ _ F C (V E) (Cn.x2O f6J).symm (by simp[is6,k6]) (by simp[is78,k7,k8]);clear u E q aq T;subst hQ;go_wp2
      exact N7Y
  ·obtain rfl:k=l.length:=f6J;obtain⟨cv,ov,F,C,L,e1,e2⟩:=V ay;obtain⟨db,dj⟩:=y4q e1 e2 hl;rw[List.take_length]at L e1 e2;have K1:=O (y4H w0 wr cv F L.hc f6J);obtain⟨aj,Z,rfl,_,_⟩:=L.hc.shape;obtain⟨P,B,rfl,_,_⟩:=L.ho.shape;have y0:wr.cell? ⟨w0.heap.size+1+1,0,none⟩=some (.slice aj F.length Z):=cell_of (j:=0) L.hx T7d;have aP:=L.far L.hc;have bu:∀g,(Value.slice aj F.length Z).ownBlock=some g->g<wr.heap.size:=fun g hg=>(L.hc.1.lt g hg).2;have aT:=O aP;have cV:=O bu;clear aP bu;have aU:=O (L.far L.ho);have aL:=O L;clear ay aK aB bK bJ HV bn L;go_wp2_with fail;refine(V K1).mono ?_;rintro e w1 ⟨rfl,bU,cF,N,cQ,aC⟩;have L:=V aL;have k1:∀g,g<wr.heap.size->(Value.slice aj F.length Z).ownBlock≠some g->w1.heap[g]?=wr.heap[g]?:=fun g a b=>aC.block g a (fun e=>b e.symm);have aJ:w1.heap[w0.heap.size+2]?=some (.cells #[.slice aj F.length Z,.slice P C.length B,.map (some (w0.heap.size+1))] 168 (0,0)):=(by rw[k1 _ (x0G L.hx) (fun e=>(V aT _ e).2.2 rfl)];exact L.hx);have aS:w1.heap[w0.heap.size]?=some (.cells #[.slice none 0 0,.slice none 0 0,.map none] 168 (0,0)):=(by rw[k1 _ (x0G L.hr) (fun e=>(V aT _ e).1 rfl)];exact L.hr);obtain⟨es,cl,hm,dh⟩:=L.hm;have aR:w1.heap[w0.heap.size+1]?=some (.map es cl):=(by rw[k1 _ (x0G hm) (fun e=>(V aT _ e).2.1 rfl)];exact hm);have bQ:Rsh w0 w1 (.slice P C.length B) C:=L.ho.keep fun g hg=>k1 g (L.ho.1.lt g hg).2 (fun e=>L.ap g e hg);have bO:Bw w0 w1:=L.bel.trans ⟨aC.os,aC.tape,aC.output,aC.size,fun g hg=>k1 g (by have:=L.bel.size;exact f6J) (fun e=>by have:=(L.hc.1.lt g e).1;exact f6J)⟩;have K2:=O (y4H w0 w1 _ C bQ f6J);have y1:w1.cell? ⟨w0.heap.size+1+1,1,none⟩=some (.slice P C.length B):=cell_of (j:=1) aJ f2Q;have cD:=L.ap;have cf:=O cQ;have bX:=O cF;have cd:=O N;have bV:=O cD;have cL:=aC.size;clear K1 y0 cF N cQ aC k1 hm L aL cD;go_wp2_with fail;refine(V K2).mono ?_;rintro e w2 ⟨rfl,cS,cG,cK,cR,aD⟩;have k2:∀g,g<w1.heap.size->(Value.slice P C.length B).ownBlock≠some g->w2.heap[g]?=w1.heap[g]?:=fun g a b=>aD.block g a (fun e=>b e.symm);have bD:w2.heap[w0.heap.size+2]?=some (.cells #[.slice aj F.length Z,.slice P C.length B,.map (some (w0.heap.size+1))] 168 (0,0)):=(by rw[k2 _ (x0G aJ) (fun e=>(V aU _ e).2.2 rfl)];exact aJ);have aw:w2.heap[w0.heap.size]?=some (.cells #[.slice none 0 0,.slice none 0 0,.map none] 168 (0,0)):=(by rw[k2 _ (x0G aS) (fun e=>(V aU _ e).1 rfl)];exact aS);have bA:w2.heap[w0.heap.size+1]?=some (.map es cl):=(by rw[k2 _ (x0G aR) (fun e=>(V aU _ e).2.1 rfl)];exact aR);have aZ:Bw w0 w2:=bO.trans ⟨aD.os,aD.tape,aD.output,aD.size,fun g hg=>k2 g (by have:=bO.size;exact f6J) (fun e=>by have:=(bQ.1.lt g e).1;exact f6J)⟩;have cE:Rsx w0 w2 (.slice aj F.length Z) bU:=(V cf).keep aD.size fun g hg=>k2 g (by have:=V cV g hg;have:=cL;exact f6J) (fun e=>V bV g hg e);obtain⟨z0,z1,z2⟩:=cells3 bD;obtain⟨r0,r1,r2⟩:=cells3 aw;have f0:=x0d (j:=0) aw;have f1:=x0d (j:=1) aw;have f2:=x0d (j:=2) aw;have cY:=O cR;have cU:=O cE;have bY:=O cG;have ce:=O cK;have cT:=O aZ;have cW:=O aw;have X:=O bA;clear K2 y1 k2 aJ aS aR aD cf bV bQ bO cR cE cG cK aZ aw bA bD;go_wp2;obtain⟨w9,h9,g3,be,bS,ab⟩:=set3 (.slice aj F.length Z) (.slice P C.length B) (.map (some (w0.heap.size+1))) (V cW);rw[h9];obtain⟨c0,c1,c2⟩:=cells3 g3;replace ab:=ab _ _ (l0r _) (V cT);have a1:=(V cU).keep bS (fun g hg=>be g (V aT g hg).1);have a2:=(V cY).keep bS (fun g hg=>be g (V aU g hg).1);have l1:bU.length<=1000000000:=(by have:=(V bX).length_eq;exact f6J);have l2:cS.length<=1000000000:=(by have:=(V bY).length_eq;exact f6J);obtain⟨o1,m1⟩:=Cn.x3x (f:=2) (.inl rfl) (cs:=bU.map (·.1)) (p:=is6) (V aV) (fun r=>⟨fun h=>by rw[o0d h];decide,fun h=>d0t (Cn.y8D h)⟩) (e1 ▸ (V bX).map _) (List.pairwise_map.2 (V cd));obtain⟨o2,m2⟩:=Cn.x3x (f:=3) (.inr rfl) (cs:=cS.map (·.1)) (p:=is78) (V aV) (fun r=>⟨fun h=>by rcases o0d h with e | e<;>(rw[e];decide),fun h=>d0t (Cn.fam_three' h)⟩) (e2 ▸ (V bY).map _) (List.pairwise_map.2 (V ce));have HF:y7g w0 l (.returned (.agg #[.slice aj F.length Z,.slice P C.length B,.map (some (w0.heap.size+1))])) w9:=⟨_,_,_,_,rfl,⟨a1.rcs ab l1,a2.rcs ab l2,o1,o2,m1,m2,V aV⟩,⟨es,cl,by rw[be _ f6J];exact V X,dh⟩,ab⟩;clear a1 a2 o1 o2 m1 m2 g3 be ab bS h9;refine bodyPost_ret (show _=Result.ok (.agg #[.slice aj F.length Z,.slice P C.length B,.map (some (w0.heap.size+1))]) w9 by simp[results,Tryz.results91,go_sem,c0,c1,c2]) rfl ?_;exact HF
open Ti
namespace Cn
theorem y5D{f}{rs:List Rec}{k}(G:k<rs.length):famOf f (rs.take (k+1))=famOf f (rs.take k)++(if fam (rs.getD k none).kind=f then[rs.getD k none]else[]):=by
 have e:rs.take (k+1)=rs.take k++[rs.getD k none]:=f0h;rw[e];unfold famOf;rw[List.filter_append];congr 1;generalize rs.getD k none=x;by_cases h:fam x.kind=f
 ·grind
 ·grind
end Cn
def FamB(w:World)(rs:List Rec)(f:Int)(e:Ending)(w':World):Prop:=∃v xs,e=.returned v/\xs.map (·.1)=Cn.famOf f rs/\Rsh w w' v xs/\Below w.heap.size w w'
theorem Rsh.lowerB{w0 w w' v}{xs:List Sp}(h:Rsh w0 w v xs)(Y:Bw w w'):Rsh w0 w' v xs:=⟨x8H h.1 Y,h.2⟩
theorem x5r v rs kind w(hg:Glob w)(hv:Rcs w v rs)(hk:I64 kind):Calls prog 144 #[v,.int .i64 kind] w (FamB w rs (Cn.fam kind)):=by
 obtain⟨i1,hj,aD,aF,aG⟩:=info_parts Tryz.info60;have aK:=hv.1;have KF:Hid (∀W c,Bw w W->I64 c->Calls prog 143 #[.int .i64 c] W (IntB W (Cn.fam c))):=fun W c h hc=>x1m c W (hg.on h) hc
 have U:Hid (∀k,k<rs.length->∃b P M,v=.slice (some ⟨b,P,none⟩) rs.length M/\RecAt w b (P+k*8) (rs.getD k Cn.none)/\RecFit (rs.getD k Cn.none)):=fun k hk=>by
  obtain⟨b,P,M,s,_,_,hc⟩:=hv.place f6J;exact⟨b,P,M,s,hc k hk,hv.fit hk⟩
 have Z:Hid (∀k,k<rs.length->Cn.famOf (Cn.fam kind) (rs.take (k+1))=Cn.famOf (Cn.fam kind) (rs.take k)++(if Cn.fam (rs.getD k Cn.none).kind=Cn.fam kind then[rs.getD k Cn.none]else[])):=fun k hk=>Cn.y5D hk;obtain⟨ao,M,aC,_,_⟩:=hv.shape;obtain⟨aH,aI⟩:=hk;have ay:Hid (∀W,Bw w W->Calls prog 143 #[.int .i64 kind] W (IntB W (Cn.fam kind))):=fun W h=>V KF W kind h ⟨aH,aI⟩;subst aC;generalize Cn.fam kind=f at *;go_enter func144,ntmps144;go_wp2;go_loopw[5,7,10] (fun ov _ iv wr=>∃k:Nat,iv=.int .i64 k/\k<=rs.length/\∃D,D.map (·.1)=Cn.famOf f (rs.take k)/\D.length<=k/\Rsh w wr ov D/\Bw w wr) (fun _ _ iv _=>rs.length-(intOf iv).toNat)
 case atStart=>exact⟨0,rfl,f6J,[],rfl,M7P,⟨World.ownsRow_nil _ _ _ _,fun x hx=>by cases hx⟩,b0r⟩
 case round =>
  obtain⟨k,rfl,hk,D,ar,aO,L,C⟩:=hrel;by_cases E:k<rs.length
  ·obtain⟨b,P,aJ,s,hA,ab⟩:=V U k E;obtain⟨e1,e2,e3⟩:=Value.slice.inj s;subst e1;have aL:=O (V Z k E);obtain⟨y0,y1,y2,y3,⟨va,y4,Q⟩,y5,y6,y7⟩:=hA;obtain⟨d,J,rfl,_,_⟩:=Q.shape;have hold:∀j u,w.cell? ⟨b,P+k*8+j,none⟩=some u->wr.cell? ⟨b,P+k*8+j,none⟩=some u:=fun j u h=>(by rw[C.cell (x0a h)];exact h);have x0:wr.cell? ⟨b,P+k*8,none⟩=_:=hold 0 _ y0;have x1:=hold 1 _ y1;have x2:=hold 2 _ y2;have x3:=hold 3 _ y3;have x4:=hold 4 _ y4;have x5:=hold 5 _ y5;have x6:=hold 6 _ y6;have x7:=hold 7 _ y7;have q:Hid (Sk .i32 w (sval (rs.getD k Cn.none,d,(rs.getD k Cn.none).to.length,J)) (rs.getD k Cn.none).to/\RecFit (rs.getD k Cn.none)):=⟨Q,ab⟩;have aB:=ab.kind;generalize rs.getD k Cn.none=r at *;have aN:∀W a m,(store a (.float .f64 r.wt) m).run prog W=stored prog W a (.float .f64 r.wt) m:=fun W a m=>run_store prog W a _ m rfl;obtain⟨W1,aM,Y,F⟩:=x0N wr r.kind r.lo r.hi r.n (.slice d r.to.length J) r.name r.other r.wt;have K1:=O (V KF W1 r.kind (bthen C F) aB);have T:=O Y;obtain⟨z0,z1,z2,z3,z4,z5,z6,z7⟩:=Y;have R:=O (bthen C F);have S:=O (L.lowerB F);have am:Hid (∀W:World,∀j u,(encR (r,d,r.to.length,J))[j]?=some u->(W.alloc (.cells #[.int .i64 r.kind,.int .i64 r.lo,.int .i64 r.hi,.int .i64 r.n,.slice d r.to.length J,.string r.name,.string r.other,.float .f64 r.wt] 60)).cell? ((⟨W.heap.size,0,none⟩:Addr).add j)=some u):=fun W=>x2T W r d J W.heap.size rfl;have A:=O (x9d (r,d,r.to.length,J));go_wp2_with fail;refine c0m K1 fun w2 t=>?_;have X:=O (bthen (V R) t);have i:=O ((V S).lowerB t);have N:=O ((V T).keep t);have K2:=O (V ay w2 (V X));go_wp2_with fail;refine c0m K2 fun B aj=>?_;have z:=bthen (V X) aj;have K:=(V i).lowerB aj;obtain⟨z0,z1,z2,z3,z4,z5,z6,z7⟩:=(V N).keep aj;generalize Cn.fam r.kind=fk at *;by_cases hf:fk=f
   ·subst hf;have G:Hid ((D++[(r,d,r.to.length,J)]).map (·.1)=Cn.famOf fk (rs.take (k+1))):=by grind
    have ae:Hid (∀v' w9 o,w9.ownsRow w.heap.size 60 8 v' (D.length+1) (D.flatMap encR++encR (r,d,r.to.length,J))->(B.alloc o).grownBy w9 u5.ownBlock->Rsh w w9 v' (D++[(r,d,r.to.length,J)])/\Bw w w9):=fun v' w9 o H p=>by
     have ha:=z.alloc z.size o;refine⟨⟨by simpa using H,fun y hy=>?_⟩,ha.grown p ha.size (fun g hg=>(K.1.lt g hg).1)⟩;rcases List.mem_append.1 hy with hy | hy
     ·exact K.2 y hy
     ·simp only[List.mem_singleton]at hy;subst hy;exact V q
    have aq:Hid (∀o,(B.alloc o).ownsRow w.heap.size 60 8 u5 D.length (D.flatMap encR)):=fun o=>K.1.alloc o;have l:=z.size;have aw:=O (V am B);go_wp2_with(at_builtin;refine wpList_append_own _ rfl (.tmp 20) (.tmp 22) 22 rfl w.heap.size 60 i1 (.agg #[.int .i64 0,.int .i64 0,.int .i64 0,.int .i64 0,.slice none 0 0,.string ⟨#[]⟩,.string ⟨#[]⟩,.float .f64 0]) 8 96 underlying22 hj aD aF aG rfl e8R _ _ _ rfl (V aq _) ⟨B.heap.size,0,none⟩ 1 1 (encR (r,d,r.to.length,J)) rfl rfl (V aw) (V A) T7X f6J P8P ?_);intro v' w9 H p _;obtain⟨aA,I⟩:=V ae v' w9 _ H p;go_wp2
    go_roundw
    case rel=>exact⟨k+1,g2C,f6J,_,V G,P8P,aA,I⟩
    case measure=>exact g7W
   ·have df:(fk==f)=false:=b0f hf;have G:Hid (D.map (·.1)=Cn.famOf f (rs.take (k+1))):=(by grind);go_wp2
    go_roundw
    case rel=>exact⟨k+1,g2C,f6J,D,V G,f6J,K,z⟩
    case measure=>exact g7W
  ·obtain rfl:k=rs.length:=f6J;rw[List.take_of_length_le (l0r _)]at ar;have HF:Hid (FamB w rs f (.returned u5) wr):=⟨u5,D,rfl,ar,L,C⟩;exact I7o
def isNaNB(b:Nat):Bool:=FloatKind.f64.format.order b b != some Ordering.eq
theorem y6X b w:Calls prog 199 #[.float .f64 b] w fun e w'=>e=.returned (.bool (isNaNB b))/\w'=w:=by
 go_enter func199,ntmps199;exact t6u
theorem z1x n w:(callFunc 249 #[.int .u64 n]).run prog w=.ok (.value (.float .f64 n.toNat)) w:=by
 rw[run_callFunc_extern (e:=Extern.MathFloatBits.float64frombits) func249 f4x f4x f4x f4x];rfl
theorem y6Y n w:Calls prog 200 #[.int .u64 n] w fun e w'=>e=.returned (.float .f64 n.toNat)/\w'=w:=by
 have h:=z1x n;go_enter func200,ntmps200;exact t6u
theorem to32 b w:∃u n,(convert 58 278 (.float .f64 b)).run prog w=.ok (.float .f32 u) (w.drewN n):=by
 have L:=underlying58;have hd:=underlying278
 have S:∃u n,(Conv.floatToFloat .f64 b .f32).run prog w=.ok (.float .f32 u) (w.drewN n):=n1o
 exact r1a
theorem to64 b w:∃u n,(convert 278 58 (.float .f32 b)).run prog w=.ok (.float .f64 u) (w.drewN n):=by
 have L:=underlying278;have hd:=underlying58
 have S:∃u n,(Conv.floatToFloat .f32 b .f64).run prog w=.ok (.float .f64 u) (w.drewN n):=n1o
 exact r1a
theorem y2R b w:Calls prog 149 #[.float .f64 b] w fun e w'=>∃u n,e=.returned (.float .f64 u)/\w'=w.drewN n:=by
 have l:=O (y6X b w);have j:=O (fun w=>y6Y 9221120237041090560 w);obtain⟨u1,J,Z⟩:=to32 b w;obtain⟨u2,q,D⟩:=to64 u1 (w.drewN J);generalize isNaNB b=t at *
 cases t with
 | true =>
  go_enter func149,ntmps149;go_wp2_with fail;refine(V l).mono ?_;rintro e w ⟨rfl,rfl⟩;go_wp2_with fail;refine(V j _).mono ?_;rintro e w ⟨rfl,rfl⟩;go_wp2;go_ret;exact⟨_,0,rfl,rfl⟩
 | false =>
  go_enter func149,ntmps149;go_wp2_with fail;refine(V l).mono ?_;rintro e w ⟨rfl,rfl⟩;go_wp2;go_ret;exact⟨_,J+q,rfl,by first| rfl|(simp[World.drewN];omega)⟩
end Go.Proofs.YtkfcabdmkmljjaaGreatDoor
namespace Go.Proofs.YtkfcabdmkmljjaaGreatDoor.Cn
open Go.Proofs.Tryz
def bad7(l:List Rec)(i:Nat)(r:Rec):Bool:=decide ((firstP l (r.to.getD 0 0) (r.to.getD 1 0)).getD 0<(i:Int))||wpair l r.lo (r.to.getD 0 0) (r.to.getD 1 0)
theorem x6j l i r:record l i r=if fam r.kind≠2/\fam r.kind≠3 then 0
 else if covers r 0 127 then 70
 else if touches r=true then 71
 else if r.kind=7/\makes (r.to.getD 0 0) (r.to.getD 1 0)=true then 71
 else if fam r.kind=2 then 0
 else if(full l r.lo).2≠0 then(full l r.lo).2
 else if fallsA l (full l r.lo).1 then 75
 else if r.kind=7/\pair l i r=false then 74
 else 0:=rfl
theorem y3b{l i r}(q:r.kind≠6)(y:r.kind≠7)(W:r.kind≠8):record l i r=0:=by
 rw[x6j];rw[if_pos ⟨fun h=>q (y8D h),fun h=>by rcases fam_three' h with e | e<;>contradiction⟩]
theorem y6w{l i r}(hr:right r=0)(G:r.kind=6\/r.kind=7\/r.kind=8)(S:r.lo<128):record l i r=70:=by
 have C:fam r.kind=2\/fam r.kind=3:=e7r;have j:r.kind≠15:=f6J;have L:=x0q hr j;rw[x6j];rw[if_neg (fun h=>f6J),if_pos (show covers r 0 127=true from d0t ⟨f6J,f6J⟩)]
theorem x2u{l i r}(G:r.kind=6\/r.kind=7\/r.kind=8)(S:¬r.lo<128)(K:(touches r||(decide (r.kind=7)&&makes (r.to.getD 0 0) (r.to.getD 1 0)))=true):record l i r=71:=by
 have C:fam r.kind=2\/fam r.kind=3:=e7r;rw[x6j];rw[if_neg (fun h=>f6J),if_neg (show ¬covers r 0 127=true from fun h=>by have:=o0d h;exact f6J)];by_cases Z:touches r=true
 ·rw[if_pos Z]
 ·grind
theorem x3J{l i r}(G:r.kind=6\/r.kind=7\/r.kind=8)(S:¬r.lo<128)(K:(touches r||(decide (r.kind=7)&&makes (r.to.getD 0 0) (r.to.getD 1 0)))=false) :
  record l i r=if r.kind=6 then 0 else if wfull l r.lo≠0 then wfull l r.lo else if r.kind=7/\pair l i r=false then 74 else 0:=by
 have C:fam r.kind=2\/fam r.kind=3:=(by rcases G with e | e | e<;>(rw[e];decide));rw[Bool.or_eq_false_iff]at K;rw[x6j];rw[if_neg (fun h=>f6J),if_neg (show ¬covers r 0 127=true from fun h=>by have:=o0d h;exact f6J),if_neg (show ¬touches r=true by rw[K.1];exact M7M)]
 rw[if_neg (fun h=>by
  have h2:=K.2;rw[Bool.and_eq_false_iff]at h2;rcases h2 with h2 | h2
  ·grind
  ·have J:makes (r.to.getD 0 0) (r.to.getD 1 0)=true:=h.2
   rw[h2]at J;cases J)]
 rcases G with e | e | e
 ·rw[e,if_pos (e8N:fam 6=2),if_pos rfl]
 ·rw[if_neg (show ¬fam r.kind=2 by rw[e];exact e8N),if_neg (f6J:¬r.kind=6)];unfold wfull;by_cases Z:(full l r.lo).2≠0
  ·omega
  ·grind
 ·rw[if_neg (show ¬fam r.kind=2 by rw[e];exact e8N),if_neg (f6J:¬r.kind=6)];unfold wfull;by_cases Z:(full l r.lo).2≠0
  ·rw[if_pos Z,if_pos Z,if_pos Z]
  ·grind
theorem z3P{l i}(hi:i<l.length)(y:(l.getD i none).kind=7):pair l i (l.getD i none)=!bad7 l i (l.getD i none):=by
 rw[pair_w];unfold bad7;have h:=y8K hi y;cases hA:(l.take i).any fun k=>decide (k.kind=7/\k.to.getD 0 0=(l.getD i none).to.getD 0 0/\k.to.getD 1 0=(l.getD i none).to.getD 1 0)
 ·grind
 ·grind
end Go.Proofs.YtkfcabdmkmljjaaGreatDoor.Cn
namespace Go.Proofs.YtkfcabdmkmljjaaGreatDoor
open Go.Proofs.Tryz
open Go.RowKit
theorem z1K cao oao tao(cl E D B X c b i:Nat) kd lo hi nn tz nm ot wt w(F:kd≠6)(A:kd≠7)(M:kd≠8) :
  Calls prog 92 #[xV (.slice cao cl E) (.slice oao D B) (.map (some b)),.int .i64 (i:Int),recV ⟨kd,lo,hi,nn,tz,nm,ot,wt⟩ (.slice tao X c)] w (IntB w 0):=by
 have C:(kd==6)=false:=b0f F;have G:(kd != 6)=true:=V7O;have m:(kd==7)=false:=b0f A;have I:(kd==8)=false:=b0f M;have T:IntB w 0 (.returned (.int .i64 0)) ((w.alloc (.cells #[.slice cao cl E,.slice oao D B,.map (some b)] 168)).alloc (.cells #[.int .i64 kd,.int .i64 lo,.int .i64 hi,.int .i64 nn,.slice tao X c,.string nm,.string ot,.float .f64 wt] 60)):=⟨rfl,((b0r).alloc (l0r _) _).alloc M7K _⟩;unfold xV recV;go_enter func92,ntmps92;go_wp2;go_ret;exact T
theorem z4I cao oao tao(cl E D B X c b i:Nat) kd lo hi nn tz nm ot wt w(G:kd=6\/kd=7\/kd=8)(S:lo<128) :
  Calls prog 92 #[xV (.slice cao cl E) (.slice oao D B) (.map (some b)),.int .i64 (i:Int),recV ⟨kd,lo,hi,nn,tz,nm,ot,wt⟩ (.slice tao X c)] w (IntB w 70):=by
 unfold xV recV;rcases G with rfl | rfl | rfl
 all_goals
  have T:∀W,Bw w W->IntB w 70 (.returned (.int .i64 70)) W:=fun W h=>⟨rfl,h⟩;go_enter func92,ntmps92;go_wp2;go_ret;exact T _ (((b0r).alloc (l0r _) _).alloc M7K _)
