/- Lemmas. -/
import Derived.Test.YtbmckadcjdedcaaGreatDoorK36
import Derived.Test.YtbmckadcjdedcaaGreatDoorK39
import Derived.Laws.OwnMore
import Derived.Test.YtbmckadcjdedcaaGreatDoorK15
import Derived.Test.YtbmckadcjdedcaaGreatDoorK1
import Derived.Deep.RegionHeld3
import Derived.Test.YtbmckadcjdedcaaGreatDoorK48
import Derived.Lib.Join
set_option maxHeartbeats 2000000
set_option maxRecDepth 8000
namespace Go.Proofs.YtbmckadcjdedcaaGreatDoor
open Go.Proofs.Tryz
open Go.RowKit
section
variable{p:Prop}
theorem p9O(h:p:=by go_wp2;go_ret;exact⟨rfl,(b0r).alloc (l0r _) _⟩):p:=h
theorem f6w(h:p:=by generalize Id.unf true s.size m=u at *;go_enter func92,ntmps92;go_wp2_with fail;refine c0m K fun I b1=>?_;clear K;go_wp2;go_ret;exact⟨congrArg Ending.returned (congrArg Value.bool (V H)),b1⟩):p:=h
theorem W8W(h:p:=by assumption):p:=h
theorem n2N(h:p:=by rw[D];exact e8M):p:=h
theorem P2M(h:p:=by simp[List.getD,List.getElem?_set_ne (fun e=>hi e.symm)]):p:=h
theorem w8c(h:p:=by simp[List.getD,G]):p:=h
theorem p0G(h:p:=by simp[List.getD,(f6J:k<us.length)]):p:=h
theorem I1J(h:p:=by rw[<- T];exact Od.Blk.new w _ _ _ rfl):p:=h
theorem g1O(h:p:=by go_wp2;go_ret2;obtain rfl:=V a;exact⟨V t,_,rfl,Mu.nil _ _ _⟩):p:=h
end
namespace Id
def txt(x:List Int):List Int:=(Utf.encA 0 x).1
def pn(x:List Int):List Int×Int:=Pu.decode (txt (x.drop 4))
def rd(x:List Int):List Int×Bool×Int :=
 if Lb.x2y x=false then(x,false,0)else if(pn x).2≠0 then(x,false,2048)else if allb ascb (pn x).1=true then(x,false,4096)else((pn x).1,true,0)
theorem z2Q{x}(h:Lb.x2y x=false):rd x=(x,false,0):=if_pos h
theorem z8Z{x}(h:Lb.x2y x=true)(D:(pn x).2≠0):rd x=(x,false,2048):=by
 unfold rd;rw[if_neg s8h,if_pos D]
theorem z8Y{x}(h:Lb.x2y x=true)(D:(pn x).2=0)(R:allb ascb (pn x).1=true):rd x=(x,false,4096):=by
 unfold rd;rw[if_neg s8h,if_neg n2N,if_pos R]
theorem rd_dec{x}(h:Lb.x2y x=true)(D:(pn x).2=0)(R:allb ascb (pn x).1=false):rd x=((pn x).1,true,0):=by
 unfold rd;rw[if_neg s8h,if_neg n2N,if_neg (by rw[R];exact e8M)]
theorem y7n{x}(h:Lb.x2y x=true):4<=x.length:=by
 match x,h with
 | [],h=>simp[Lb.x2y]at h
 | [a],h=>simp[Lb.x2y]at h
 | [a,b],h=>simp[Lb.x2y]at h
 | [a,b,c],h=>simp[Lb.x2y]at h
 | a::b::c::d::l,_=>simp
end Id
def y3f(w:World)(z:List Int)(e:Ending)(w':World):Prop:=e=.returned (.string (strOfNums z))/\Below w.heap.size w w'
theorem z0C{w xv X}(J:Sk .i32 w xv X)(S:X.length<=1000000000):Calls prog 41 #[xv] w (y3f w (Id.txt X)):=by
 have K:=O (encC xv X w J f6J);have x:Hid (Id.txt X=(Utf.encA 0 X).1):=rfl;obtain⟨R,M,rfl,_,_⟩:=J.shape;clear J S;generalize Utf.encA 0 X=r,Id.txt X=z at *;obtain⟨l,r2,r3⟩:=r;go_enter func41,ntmps41;go_wp2_with fail;refine c0m K fun I b1=>?_;clear K;go_wp2;go_ret;obtain rfl:=V x;exact⟨rfl,b1⟩
theorem x2c{fn p q ty}(h:fn.results=#[.tmp q,.cell p ty]) tmps P w g v u(L:tmps.getD p undef=.pointer (some ⟨g,0,none⟩))(m:tmps.getD q undef=u)(y:(loadVar ty ⟨g,0,none⟩).run P w=.ok v w) :
  (results fn tmps).run P w=.ok (.tuple #[u,v]) w:=by
 have e:(results fn tmps).run P w=((asAddr (tmps.getD p undef)).run P w).andThen fun a w₁=>((loadVar ty a).run P w₁).andThen fun x w₂=>.ok (.tuple #[tmps.getD q undef,x]) w₂:=by
  simp only[results,h];simp[Sem.run_bind,Result.andThen]
 rw[e,L,m];simp[asAddr,Result.andThen,y]
theorem ld19{W g a b}(k:Od.Blk W g 83 [.bool a,.int .i64 b]):(loadVar 83 ⟨g,0,none⟩).run prog W=.ok (.agg #[.bool a,.int .i64 b]) W :=
 run_loadVar_mid (P:=prog) W g 0 83 [.bool a,.int .i64 b] _ (k.range 0) underlying83 (by rfl) f4x
theorem z8m ao n cap(z:4<=n)(T:n<=cap) W:(Instr.sliceAt 40 (.slice ao n cap) (some (.int .i64 4)) none none).run prog W=.ok (sliced ao 4 n cap 1) W:=by
 have Z:(4:Int)<=n:=f6J;by_cases m:cap=4
 ·subst m;obtain rfl:n=4:=f6J;go_simp
 ·go_simp
theorem y9r{K e w B}{v zs}(h:Ok K e w B v zs){g}(C:g<B) i x:Ok K e (w.setCell ⟨g,i,none⟩ x) B v zs :=
 ⟨h.1,h.2.1,h.2.2.kept (row:=some g) ⟨rfl,rfl,rfl,M7L,fun k G E=>heap_setCell_other w _ k x (fun e=>E (by rw[e]))⟩ (.inr fun e=>by have:=(h.row.lt g e).1;exact f6J)⟩
def RdB19(w:World)(xv:Value)(X:List Int)(r:List Int×Bool×Int)(e:Ending)(w':World):Prop :=
 Below w.heap.size w w'/\((∃c:Int,r=(X,false,c)/\e=.returned (.tuple #[xv,.agg #[.bool false,.int .i64 c]]))\/∃v Y,r=(Y,true,0)/\e=.returned (.tuple #[v,.agg #[.bool true,.int .i64 0]])/\Ok .i32 21 w' (w.heap.size+1) v Y)
theorem z9c{w xv X}(hx:Sk .i32 w xv X)(hl:X.length<=200000000):Calls prog 64 #[xv] w (RdB19 w xv X (Id.rd X)):=by
 obtain⟨w0,T⟩:∃w0,w.alloc (.cells #[.bool false,.int .i64 0] 83)=w0:=⟨_,rfl⟩;have F:Bw w w0:=(by rw[<- T];exact t9C);have s0:w0.heap.size=w.heap.size+1:=(by rw[<- T];exact M7M);have C:=O (z3D (hx.below F))
 cases hcd:Lb.x2y X with
 | false =>
  rw[hcd]at C;have a:=O (Id.z2Q hcd);clear hcd;generalize Id.rd X=r at *;obtain⟨ao,M,rfl,q,af⟩:=hx.shape;clear hx;go_enter func64,ntmps64;go_wp2_with fail;refine c0m C fun I b1=>?_;have B:Od.Blk I w.heap.size 83 [.bool false,.int .i64 0]:=(I1J:Od.Blk w0 w.heap.size 83 [.bool false,.int .i64 0]).below b1 f6J;have o:=B.cell (i:=0) rfl;have c1:=B.cell (i:=1) rfl;have f0:=B.frozen 0;have f1:=B.frozen 1;have y:=ld19 ((B.set 0 (.bool false)).set 1 (.int .i64 0));have Q:=O (((x0b F b1).setCell (p:=⟨w.heap.size,0,none⟩) (l0r _) (.bool false)).setCell (p:=⟨w.heap.size,1,none⟩) (l0r _) (.int .i64 0));clear C b1 B F;go_wp2;exact bodyPost_ret (x2c rfl _ _ _ w.heap.size _ _ (by rfl) (by rfl) y) rfl ⟨V Q,.inl ⟨0,V a,rfl⟩⟩
 | true =>
  rw[hcd]at C;have z:=Id.y7n hcd;have n:Hid (∀W f,Bw w W->Sk .i32 W f (X.drop 4)->Calls prog 41 #[f] W (y3f W (Id.txt (X.drop 4)))):=fun W f _ s=>z0C s P8P;have t:(Id.txt (X.drop 4)).length<=4*(X.drop 4).length:=Utf.y1T 0 _
  have HD:Hid (∀W,Calls prog 105 #[.string (strOfNums (Id.txt (X.drop 4)))] W (x0Y W.heap.size W (Id.pn X))):=fun W=>by
   have:=y4U (strOfNums (Id.txt (X.drop 4))) W (by rw[strOfNums_size];simp at t;exact f6J);rwa [y5C (show Utf.Byt (Id.txt (X.drop 4))from Utf.y7K 0 _)]at this
  have HA:Hid (∀W f Y,Sk .i32 W f Y->Calls prog 106 #[f] W (x2T W (allb ascb Y))):=fun W f Y s=>z3y f Y W s;have R1:=fun h=>O (Id.z8Z hcd h);have u:=fun h Z=>O (Id.z8Y hcd h Z);have R3:=fun h Z=>O (Id.rd_dec hcd h Z);clear t;have g:=hx;obtain⟨ao,M,rfl,q,af⟩:=hx.shape
  obtain⟨f,aq,ab⟩:∃f,(∀W,(Instr.sliceAt 40 (.slice ao X.length M) (some (.int .i64 4)) none none).run prog W=.ok f W)/\Hid (∀W,Bw w W->Sk .i32 W f (X.drop 4)):=⟨_,z8m ao X.length M z q,fun W U=>by
   have:=(g.cut (l:=4) (h:=X.length) (m:=M) z (l0r _) q (l0r _)).below U
   rwa [List.take_of_length_le M7M]at this⟩
  clear hx g hcd;generalize Id.rd X=r,Id.txt (X.drop 4)=tx at *;generalize hpn:Id.pn X=pn,X.drop 4=X4 at *;obtain⟨py,N⟩:=pn;go_enter func64,ntmps64;go_wp2_with fail;refine c0m C fun I b1=>?_;have B:Od.Blk I w.heap.size 83 [.bool false,.int .i64 0]:=(I1J:Od.Blk w0 w.heap.size 83 [.bool false,.int .i64 0]).below b1 f6J;have K:=O (V n I _ (x0b F b1) (V ab I (x0b F b1)));have S:=x0b F b1;have ai:=b1.size;clear C b1 F n ab;go_wp2_with fail;refine c0m K fun d b2=>?_;have E:=B.below b2 f6J;have D:=x0b S b2;have aj:=b2.size;have K2:=O (V HD d);clear K B S b2 HD;go_wp2_with fail;refine(V K2).mono ?_;rintro e P (⟨v,rfl,hr,j,L⟩ | ⟨_,b,rfl,L⟩)
  ·obtain rfl:N=0:=congrArg Prod.snd hr;have A:=O (V HA P v py j.sk);have J:=E.below L f6J;have k:=x0b D L;have am:=L.size;have x:=O j;clear K2 E D L HA hr R1;obtain⟨G,c,rfl,_,_⟩:=j.sk.shape;clear j
   cases hb:allb ascb py with
   | true =>
    rw[hb]at A;have a:=u rfl hb;clear u R3 hb x;go_wp2_with fail;refine c0m A fun w4 R=>?_;have H:=J.below R f6J;have o:=H.cell (i:=0) rfl;have c1:=H.cell (i:=1) rfl;have f0:=H.frozen 0;have f1:=H.frozen 1;have y:=ld19 ((H.set 0 (.bool false)).set 1 (.int .i64 4096));have Q:=O (((x0b k R).setCell (p:=⟨w.heap.size,0,none⟩) (l0r _) (.bool false)).setCell (p:=⟨w.heap.size,1,none⟩) (l0r _) (.int .i64 4096));clear A R J H k;go_wp2;exact bodyPost_ret (x2c rfl _ _ _ w.heap.size _ _ (by rfl) (by rfl) y) rfl ⟨V Q,.inl ⟨4096,V a,rfl⟩⟩
   | false =>
    rw[hb]at A;have a:=R3 rfl hb;clear u R3 hb;go_wp2_with fail;refine c0m A fun w4 R=>?_;have H:=J.below R f6J;have o:=H.cell (i:=0) rfl;have c1:=H.cell (i:=1) rfl;have f0:=H.frozen 0;have f1:=H.frozen 1;have y:=ld19 ((H.set 0 (.bool true)).set 1 (.int .i64 0));have Q:=O (((x0b k R).setCell (p:=⟨w.heap.size,0,none⟩) (l0r _) (.bool true)).setCell (p:=⟨w.heap.size,1,none⟩) (l0r _) (.int .i64 0));have ae:=O (y9r (y9r (((V x).below R).lower (f6J:w.heap.size+1<=d.heap.size)) (f6J:w.heap.size<w.heap.size+1) 0 (.bool true)) (f6J:w.heap.size<w.heap.size+1) 1 (.int .i64 0));clear A R J H k x;go_wp2;exact bodyPost_ret (x2c rfl _ _ _ w.heap.size _ _ (by rfl) (by rfl) y) rfl ⟨V Q,.inr ⟨_,py,V a,rfl,V ae⟩⟩
  ·have J:=E.below L f6J;have a:=R1 b;have ag:(N != 0)=true:=(by simpa using b);have o:=J.cell (i:=0) rfl;have c1:=J.cell (i:=1) rfl;have f0:=J.frozen 0;have f1:=J.frozen 1;have y:=ld19 ((J.set 0 (.bool false)).set 1 (.int .i64 2048));have Q:=O (((x0b D L).setCell (p:=⟨w.heap.size,0,none⟩) (l0r _) (.bool false)).setCell (p:=⟨w.heap.size,1,none⟩) (l0r _) (.int .i64 2048));clear K2 E D L HA R1 u R3 J b;go_wp2;exact bodyPost_ret (x2c rfl _ _ _ w.heap.size _ _ (by rfl) (by rfl) y) rfl ⟨V Q,.inl ⟨2048,V a,rfl⟩⟩
theorem Mu.put19{w B g cap}{xss:List (List Int)}{us}(Y:us.length=xss.length)(L:w.ownsRow B 40 1 (.slice (some ⟨g,0,none⟩) xss.length cap) xss.length us)
  (D:∀i,i<xss.length->Ok .i32 21 w B (us.getD i undef) (xss.getD i [])) (N:∀i j b,i<j->j<xss.length->(us.getD i undef).ownBlock=some b->(us.getD j undef).ownBlock≠some b)
  {k} (G:k<xss.length) {u ys} (W:Ok .i32 21 w B u ys) (H:∀j,j<xss.length->j≠k->∀b,u.ownBlock=some b->(us.getD j undef).ownBlock≠some b) :
  Mu (w.setCell ⟨g,k,none⟩ u) B (w.setCell ⟨g,k,none⟩ u).heap.size (.slice (some ⟨g,0,none⟩) xss.length cap) (xss.set k ys):=by
 obtain⟨Z,C⟩:=L.stored k u;have E:∀v l,Ok .i32 21 w B v l->Ok .i32 21 (w.setCell ⟨g,k,none⟩ u) B v l:=fun _ _ h=>⟨h.1,h.2.1,h.2.2.kept C (x2K e8N h.2.2 L)⟩;have P:∀i,i≠k->(us.set k u).getD i undef=us.getD i undef:=fun i hi=>P2M;have f:(us.set k u).getD k undef=u:=(by simp[List.getD,List.getElem?_set_self (f6J:k<us.length)]);have J:∀i,i≠k->(xss.set k ys).getD i []=xss.getD i []:=fun i hi=>P2M;have o:(xss.set k ys).getD k []=ys:=(by simp[List.getD,List.getElem?_set_self G]);refine⟨us.set k u,by simp[Y],by simpa using Z,fun i hi=>?_,fun i hi b Q=>?_,fun i j b p K Q=>?_⟩
 ·rw[List.length_set]at hi;by_cases M:i=k
  ·subst M;rw[f,o];exact E _ _ W
  ·rw[P i M,J i M];exact E _ _ (D i hi)
 ·rw[List.length_set]at hi;by_cases M:i=k
  ·subst M;rw[f]at Q;simpa using(W.row.lt b Q).2
  ·rw[P i M]at Q;simpa using((D i hi).row.lt b Q).2
 ·rw[List.length_set]at K;by_cases M:i=k
  ·subst M;rw[f]at Q;rw[P j f6J];exact H j K f6J b Q
  ·rw[P i M]at Q;by_cases A:j=k
   ·subst A;rw[f];exact fun F=>H i f6J M b F Q
   ·rw[P j A];exact N i j b p K Q
namespace Id
def rc(R:List (Bool×Int)):List Value:=R.flatMap fun r=>[.bool r.1,.int .i64 r.2]
theorem z8V R:(rc R).length=R.length*2:=by
 induction R with
 | nil=>rfl
 | cons r R ih=>simp only[rc,List.flatMap_cons,List.length_append,List.length_cons]at ih ⊢;rw[ih];exact f4R
theorem z6x R{k}(G:k<R.length):(rc R)[k*2]?=some (.bool (R.getD k (false,0)).1)/\(rc R)[k*2+1]?=some (.int .i64 (R.getD k (false,0)).2):=by
 induction R generalizing k with
 | nil=>simp at G
 | cons r R ih =>
  cases k with
  | zero=>simp[rc]
  | succ k =>
   have:=ih (k:=k) E9n;simpa[rc,Nat.succ_mul]using this
theorem z8X R k a b:((rc R).set (k*2) (.bool a)).set (k*2+1) (.int .i64 b)=rc (R.set k (a,b)):=by
 induction R generalizing k with
 | nil=>simp[rc]
 | cons r R ih =>
  cases k with
  | zero=>simp[rc]
  | succ k =>
   have:=ih k;simp only[rc,List.flatMap_cons,List.cons_append,List.nil_append,Nat.succ_mul,List.set_cons_succ]at this ⊢;rw[this]
theorem z8W n:(madeCells #[.bool false,.int .i64 0] (n*2)).toList=rc (List.replicate n (false,0)):=by
 refine List.ext_getElem? fun i=>?_;by_cases hi:i<n*2
 ·have m:i / 2<n:=f6J;have h:=z6x (List.replicate n (false,0)) (k:=i / 2) (by simpa using m);rcases Nat.mod_two_eq_zero_or_one i with h0 | h0
  ·rw[(f6J:i / 2*2=i)]at h;rw[h.1];simp[madeCells,hi,h0,m]
  ·rw[(f6J:i / 2*2+1=i)]at h;rw[h.2];simp[madeCells,hi,h0,m]
 ·rw[List.getElem?_eq_none (by simp[madeCells];exact f6J),List.getElem?_eq_none (by rw[z8V];exact P8P)]
end Id
theorem z5J:(prog.info? 83).map (fun i=>(i.zero,i.size,i.bytes))=some (some (.agg #[.bool false,.int .i64 0]),2,16):=f4x
theorem z8B(n:Nat) w(E:n<=3000000):∃W,(Instr.makeSlice 78 (.int .i64 (n:Int)) (.int .i64 (n:Int))).run prog w=.ok (.slice (some ⟨w.heap.size,0,none⟩) n n) W/\W.ownsRow w.heap.size 83 2 (.slice (some ⟨w.heap.size,0,none⟩) n n) n (Id.rc (List.replicate n (false,0)))/\w.grownBy W none:=by
 obtain⟨r,hi,p,i,f⟩:=info_parts z5J;obtain⟨W,Z,D,R⟩:=run_makeSlice_full (P:=prog) w w.heap.size 78 83 r _ 2 underlying78 hi p i .i64 .i64 n f6J V8r T7W (l0r _);exact⟨W,Z,by rw[<- Id.z8W];exact D,R⟩
theorem z6z{w xv X}(J:Sk .i32 w xv X)(S:X.length<=200000000):Calls prog 64 #[xv] w fun e w'=>∃u d c Y,Id.rd X=(Y,d,c)/\e=.returned (.tuple #[u,.agg #[.bool d,.int .i64 c]])/\Bw w w'/\((u=xv/\Y=X)\/Ok .i32 21 w' (w.heap.size+1) u Y) :=
 (z9c J S).mono fun e w' ⟨hb,h⟩=>by
  rcases h with⟨c,Z,D⟩ | ⟨v,Y,Z,D,R⟩
  ·exact⟨_,_,_,_,Z,D,hb,.inl ⟨rfl,rfl⟩⟩
  ·exact⟨_,_,_,_,Z,D,hb,.inr R⟩
namespace Id
def ys(xss:List (List Int))(k:Nat):List (List Int):=(xss.take k).map (fun x=>(rd x).1)++xss.drop k
def rs(xss:List (List Int))(k:Nat):List (Bool×Int):=(xss.take k).map (fun x=>(rd x).2)++List.replicate (xss.length-k) (false,0)
theorem z9X xss k:(ys xss k).length=xss.length:=by simp[ys];exact f6J
theorem z9p xss{k}(G:k<=xss.length):(rs xss k).length=xss.length:=by simp[rs];exact f6J
theorem ys_at xss{k}(G:k<xss.length):(ys xss k).getD k []=xss.getD k []:=by
 simp[ys,List.getD,List.getElem?_append_right,G,Nat.min_eq_left (Nat.le_of_lt G)]
theorem z7a xss{k}(G:k<xss.length){Y d c}(h:rd (xss.getD k [])=(Y,d,c)):(ys xss k).set k Y=ys xss (k+1):=by
 have e:xss.getD k []=xss[k]:=w8c;rw[e]at h;unfold ys;rw[List.set_append_right _ _ P8P,List.take_succ_eq_append_getElem G,List.map_append,List.drop_eq_getElem_cons G];simp only[List.length_map,List.length_take,Nat.min_eq_left (Nat.le_of_lt G),Nat.sub_self,List.set_cons_zero,List.map_cons,List.map_nil,h,List.append_assoc,List.cons_append,List.nil_append]
theorem z6H xss{k}(G:k<xss.length){Y d c}(h:rd (xss.getD k [])=(Y,d,c)):(rs xss k).set k (d,c)=rs xss (k+1):=by
 have e:xss.getD k []=xss[k]:=w8c;rw[e]at h;unfold rs;rw[List.set_append_right _ _ P8P,List.take_succ_eq_append_getElem G,List.map_append,(f6J:xss.length-k=(xss.length-(k+1))+1),List.replicate_succ];simp[Nat.min_eq_left (Nat.le_of_lt G),h]
end Id
theorem x5B{w w' B n s e g cap}{xs}(h:w.ownsRow B e s (.slice (some ⟨g,0,none⟩) n cap) n xs)(Q:Bw w w'):w'.ownsRow B e s (.slice (some ⟨g,0,none⟩) n cap) n xs :=
 h.kept (row:=none) ⟨Q.os,Q.tape,Q.output,Q.size,fun k G _=>Q.block k G⟩ (.inr V3H)
theorem z9n{w:World}{B n s e g cap xs}(h:w.ownsRow B e s (.slice (some ⟨g,0,none⟩) n cap) n xs){q}(m:q≠g) i x:(w.setCell ⟨q,i,none⟩ x).ownsRow B e s (.slice (some ⟨g,0,none⟩) n cap) n xs :=
 h.kept (row:=some q) ⟨rfl,rfl,rfl,M7L,fun k G E=>heap_setCell_other w _ k x (fun e=>E (by rw[e]))⟩ (.inr (by simp[Value.ownBlock];exact f6J))
theorem Mu.put2_19{w B U v xss}(h:Mu w B U v xss){q e s n cap ys}{B2}(hr:w.ownsRow B2 e s (.slice (some ⟨q,0,none⟩) n cap) n ys)(Z:e≠40)(D:e≠21) i x:Mu (w.setCell ⟨q,i,none⟩ x) B U v xss:=by
 obtain⟨j,I,P,d,z,N⟩:=h;have C:=(hr.stored i x).2
 have M:∀{K:TypeId} {m:Nat} {u:Value} {L:List Value} {E:Nat},e≠K->w.ownsRow E K 1 u m L->u.ownBlock=none\/u.ownBlock≠some q:=fun F h=>by
  rcases h.2 with⟨rfl,_⟩ | ⟨g,cap,t,rfl,_,Y,_⟩
  ·exact U3z
  ·refine .inr fun e=>?_;simp only[Value.ownBlock,Option.some.injEq]at e;subst e;rcases hr.2 with⟨A,_⟩ | ⟨S,J,H,A,_,G,_⟩
   ·cases A
   ·simp only[Value.slice.injEq,Option.some.injEq,Addr.mk.injEq]at A;obtain⟨⟨rfl,_⟩,_⟩:=A;rw[G]at Y;simp only[Option.some.injEq,Obj.cells.injEq]at Y;exact F Y.2.1
 exact⟨j,I,P.kept C (M Z P),fun i hi=>⟨(d i hi).1,(d i hi).2.1,(d i hi).2.2.kept C (M D (d i hi).2.2)⟩,z,N⟩
def REB19(B:Nat)(w:World)(lv:Value)(xss:List (List Int))(e:Ending)(w':World):Prop :=
 ∃rv,e=.returned rv/\Mu w' B w'.heap.size lv (Id.ys xss xss.length)/\w'.ownsRow w.heap.size 83 2 rv xss.length (Id.rc (Id.rs xss xss.length))/\Below B w w'
theorem y5P{w B lv xss}(l:B<=w.heap.size)(hm:Mu w B w.heap.size lv xss)(h0:0<xss.length)(hn:xss.length<=3000000)(hl:∀x∈xss,x.length<=200000000):Calls prog 36 #[lv] w (REB19 B w lv xss):=by
 obtain⟨q,ay,af,s⟩:=z8B xss.length w hn
 have m:Mu q B q.heap.size lv xss:=by
  have am:Bw w q:=(b0r).grown s (l0r _) (fun k e=>by cases e);obtain⟨us,a1,P,a3,a4,N⟩:=hm.below am;exact⟨us,a1,P,a3,fun i hi b hb=>((a3 i hi).row.lt b hb).2,N⟩
 have E:Below B w q:=((b0r).grown s (l0r _) (fun k e=>by cases e)).mono l;have aj:w.heap.size<q.heap.size:=(af.lt _ rfl).2
 obtain⟨g,cap,rfl,aC⟩:∃g cap,lv=.slice (some ⟨g,0,none⟩) xss.length cap/\xss.length<=cap:=by
  obtain⟨us,a1,P,_⟩:=hm;rcases P.2 with⟨_,h⟩ | ⟨g,cap,aD,h,_,_,D,_⟩
  ·omega
  ·exact⟨g,cap,h,D⟩
 have ag:Hid (Mu q B q.heap.size (.slice (some ⟨g,0,none⟩) xss.length cap) (Id.ys xss 0)):=(by simpa[Id.ys,Hid]using m);have o:Hid (q.ownsRow w.heap.size 83 2 (.slice (some ⟨w.heap.size,0,none⟩) xss.length xss.length) xss.length (Id.rc (Id.rs xss 0))):=(by simpa[Id.rs,Hid]using af);have Q:=O E;have HL:=O hl;have J:=O aj;clear hm m af s E hl aj;go_enter func36,ntmps36;go_wp2;go_loopw[4,5,11] (fun _ _ S wr=>∃k:Nat,S=.int .i64 k/\k<=xss.length/\Mu wr B wr.heap.size (.slice (some ⟨g,0,none⟩) xss.length cap) (Id.ys xss k)/\wr.ownsRow w.heap.size 83 2 (.slice (some ⟨w.heap.size,0,none⟩) xss.length xss.length) xss.length (Id.rc (Id.rs xss k))/\Below B w wr/\w.heap.size<wr.heap.size) (fun _ _ S _=>xss.length-(intOf S).toNat)
 case atStart=>exact⟨0,rfl,f6J,V ag,V o,V Q,V J⟩
 case round =>
  obtain⟨k,rfl,hk,ae,L,r,aG⟩:=hrel;clear ag o Q J ay;by_cases H:k<xss.length
  ·have hL:(k:Int)<xss.length:=f6J;obtain⟨us,a1,P,a3,a4,N⟩:=ae;have ab:=Id.z9X xss k;rw[ab]at a1 P a3 a4 N;have n:=(P.cellAt k f6J).trans (p0G:us[k]?=some (us.getD k undef));have y:=a3 k H;rw[Id.ys_at xss H]at y;have K:=O (z6z y.sk (V HL _ N3K));obtain⟨xv,C⟩:∃xv,us.getD k undef=xv:=⟨_,rfl⟩;rw[C]at n y K
   have f:Hid (∀I u d c Y,Id.rd (xss.getD k [])=(Y,d,c)->Bw wr I->((u=xv/\Y=xss.getD k [])\/Ok .i32 21 I (wr.heap.size+1) u Y) ->
     (∃au cu,u=.slice au Y.length cu)/\(∃z,I.cell? ⟨g,k,none⟩=some z)/\I.frozen? ⟨g,k,none⟩=false/\(∃a b,(I.setCell ⟨g,k,none⟩ u).cell? ⟨w.heap.size,k*2,none⟩=some (.bool a)/\(I.setCell ⟨g,k,none⟩ u).cell? ⟨w.heap.size,k*2+1,none⟩=some (.int .i64 b))/\(I.setCell ⟨g,k,none⟩ u).frozen? ⟨w.heap.size,k*2,none⟩=false/\(I.setCell ⟨g,k,none⟩ u).frozen? ⟨w.heap.size,k*2+1,none⟩=false /\
     ∃W,(((I.setCell ⟨g,k,none⟩ u).setCell ⟨w.heap.size,k*2,none⟩ (.bool d)).setCell ⟨w.heap.size,k*2+1,none⟩ (.int .i64 c))=W/\Mu W B W.heap.size (.slice (some ⟨g,0,none⟩) xss.length cap) (Id.ys xss (k+1))/\W.ownsRow w.heap.size 83 2 (.slice (some ⟨w.heap.size,0,none⟩) xss.length xss.length) xss.length (Id.rc (Id.rs xss (k+1)))/\Below B w W/\w.heap.size<W.heap.size):=by
    intro I u d c Y U b1 hu;have r2:=x5B P b1;have rr:=x5B L b1
    have aq:w.heap.size≠g:=by
     rintro rfl;rcases P.2 with⟨Z,_⟩ | ⟨g',az,aA,Z,_,ar,_⟩
     ·cases Z
     ·rcases L.2 with⟨D,_⟩ | ⟨g2,F,aB,D,_,M,_⟩
      ·cases D
      ·simp only[Value.slice.injEq,Option.some.injEq,Addr.mk.injEq]at Z D;obtain⟨⟨rfl,_⟩,_⟩:=Z;obtain⟨⟨rfl,_⟩,_⟩:=D;rw[ar]at M;simp at M
    have G:=z9n rr (fun e=>aq e.symm) k u;have hq:=Id.z6x (Id.rs xss k) (k:=k) (by rw[Id.z9p xss hk];exact H)
    have gB:B<=g:=by
     have:=(P.lt g rfl).1;omega
    have T:Below B w (((I.setCell ⟨g,k,none⟩ u).setCell ⟨w.heap.size,k*2,none⟩ (.bool d)).setCell ⟨w.heap.size,k*2+1,none⟩ (.int .i64 c)) :=
     (((r.trans (b1.mono (by have:=r.size;exact f6J))).setCell (p:=⟨g,k,none⟩) gB u).setCell (p:=⟨w.heap.size,k*2,none⟩) l _).setCell (p:=⟨w.heap.size,k*2+1,none⟩) l _
    have A:=y.below b1
    have ai:Mu (I.setCell ⟨g,k,none⟩ u) B (I.setCell ⟨g,k,none⟩ u).heap.size (.slice (some ⟨g,0,none⟩) xss.length cap) ((Id.ys xss k).set k Y):=by
     have:=Mu.put19 (w:=I) (B:=B) (g:=g) (cap:=cap) (xss:=Id.ys xss k) (us:=us) (by rw[ab];exact a1) (by rw[ab];exact r2) (fun i hi=>(a3 i f6J).below b1) (fun i j b aw hj=>N i j b aw f6J) (k:=k) f6J (u:=u) (ys:=Y)
      (by
       rcases hu with⟨rfl,rfl⟩ | hu
       ·exact A
       ·exact hu.lower (by have:=r.size;exact f6J))
      (fun j hj aF b hb=>by
       rcases hu with⟨rfl,rfl⟩ | hu
       ·rcases Nat.lt_or_ge j k with h | h
        ·intro D;exact N j k b h H D (by rw[C];exact hb)
        ·exact N k j b f6J f6J (by rw[C];exact hb)
       ·intro D;have:=(hu.row.lt b hb).1;have:=a4 j f6J b D
        omega)
     rw[ab]at this;exact this
    rw[Id.z7a xss H U]at ai;have rz:=(G.stored (k*2) (.bool d)).1
    have v:∃au cu,u=.slice au Y.length cu:=by
     rcases hu with⟨rfl,rfl⟩ | hu
     ·obtain⟨R,cp,h,_⟩:=A.sk.shape;exact⟨R,cp,h⟩
     ·obtain⟨R,cp,h,_⟩:=hu.sk.shape;exact⟨R,cp,h⟩
    refine⟨v,⟨_,(r2.cellAt k f6J).trans (p0G:us[k]?=some (us.getD k undef))⟩,r2.frozenAt k,⟨_,_,(G.cellAt (k*2) f6J).trans hq.1,(G.cellAt (k*2+1) f6J).trans hq.2⟩,G.frozenAt _,G.frozenAt _,_,rfl,?_,?_,T,?_⟩
    ·have:=Mu.put2_19 (Mu.put2_19 ai G e8N e8N (k*2) (.bool d)) rz e8N e8N (k*2+1) (.int .i64 c);exact W2P
    ·have:=(rz.stored (k*2+1) (.int .i64 c)).1;rwa [Id.z8X,Id.z6H xss H U]at this
    ·have:=b1.size;simp;omega
   clear a1 P a3 a4 N L r y ab C;generalize xss.getD k []=X at *;go_wp2_with fail;refine(V K).mono ?_;rintro e I ⟨u,d,c,Y,U,rfl,b1,hu⟩;obtain⟨⟨au,cu,rfl⟩,⟨z,c0⟩,f0,⟨a,b,c1,c2⟩,f1,f2,W,hW,H1⟩:=V f I u d c Y U b1 hu;have t:=O H1;clear K f U b1 hu H1;go_wp2
   go_roundw
   case rel=>exact⟨k+1,g2A,f6J,(V t).1,(V t).2.1,(V t).2.2.1,(V t).2.2.2⟩
   case measure=>exact g7V
  ·obtain rfl:k=xss.length:=f6J;have H1:=O ae;have H2:=O L;have H3:=O r;clear ae L r;go_wp2;go_ret;exact⟨_,rfl,V H1,V H2,V H3⟩
structure IdC(p:Nat)(fl:Int)(mp nc:List Int->List Int)(hr:List Int->Bool)(ck:List Int->Bool->Bool->Nat)(w0:World):Prop where
 map:∀W xv X,Below w0.heap.size w0 W->Sk .i32 W xv X->X.length<=16384->Calls prog 14 #[.pointer (some ⟨p,0,none⟩),xv,.int .i64 fl] W (y3b W (mp X))
 nfc:∀W xv X,Below w0.heap.size w0 W->Sk .i32 W xv X->X.length<=65536->Calls prog 15 #[.pointer (some ⟨p,0,none⟩),xv] W (fun e w'=>∃v,e=.returned (.tuple #[v,.int .i64 0])/\Ok .i32 21 w' W.heap.size v (nc X)/\Below W.heap.size W w')
 len:∀X,X.length<=65536->(nc X).length<=2097152
 dom:∀W lv Xs,Below w0.heap.size w0 W->x5D W lv Xs->Calls prog 37 #[.pointer (some ⟨p,0,none⟩),lv] W (x0c W (Xs.any hr))
 chk:∀W xv X rtl dec,Below w0.heap.size w0 W->Sk .i32 W xv X->X.length<=65536->Calls prog 68 #[.pointer (some ⟨p,0,none⟩),xv,.int .i64 fl,.bool rtl,.bool dec] W (IntB W ((ck X rtl dec:Nat):Int))
 lt:∀X rtl dec,ck X rtl dec<65536
 ms:∀X,(∀c∈X,Utf.okc c)->∀c∈mp X,Utf.okc c
 ns:∀X,(∀c∈X,Utf.okc c)->∀c∈nc X,Utf.okc c
theorem IdC.on{p fl mp nc hr}{ck w W}(h:IdC p fl mp nc hr ck w)(Q:Bw w W):IdC p fl mp nc hr ck W :=
 ⟨fun A f X U=>h.map A f X (x0b Q U),fun A f X U=>h.nfc A f X (x0b Q U),h.len,fun A H F U=>h.dom A H F (x0b Q U),fun A f X r d U=>h.chk A f X r d (x0b Q U),h.lt,h.ms,h.ns⟩
structure EngAt(w:World)(q:Nat)(fl:Int)(p:Nat):Prop where
 f:w.cell? ⟨q,0,none⟩=some (.int .i64 fl)
 d:w.cell? ⟨q,1,none⟩=some (.pointer (some ⟨p,0,none⟩))
theorem EngAt.on{w W q fl p}(h:EngAt w q fl p)(Q:Bw w W):EngAt W q fl p :=
 ⟨by rw[Q.cell (x0a h.f)];exact h.f,by rw[Q.cell (x0a h.d)];exact h.d⟩
theorem y2c fl w:Calls prog 11 #[.agg #[.int .i64 fl]] w (fun e w'=>e=.returned (.int .i64 fl)/\Bw w w'):=by
 go_enter func11,ntmps11;exact p9O
theorem z8C{W}{f:Nat}{A zs}(h:Calls prog f A W (y3b W zs)):Calls prog f A W (fun e w'=>∃v c,e=.returned (.tuple #[v,.int .i64 c])/\Bw W w'/\((c=0/\zs.length<=65536/\Ok .i32 21 w' W.heap.size v zs)\/(c=2/\65536<zs.length))) :=
 h.mono fun e w' ⟨hb,h⟩=>by
  rcases h with⟨Z,v,D,R⟩ | ⟨Z,D⟩
  ·exact⟨v,0,D,hb,.inl ⟨rfl,Z,R⟩⟩
  ·exact⟨_,2,D,hb,.inr ⟨rfl,Z⟩⟩
namespace Id
def cut(mp nc:List Int->List Int)(zs:List Int):List (List Int)×Nat :=
 if 16384<zs.length then([],2)else if(Utf.dec 0 zs).2.2≠0 then([],1)else if 65536<(mp (Utf.dec 0 zs).1).length then([],2)else(Spl.split (nc (mp (Utf.dec 0 zs).1)),0)
theorem x8K{mp nc zs}(h:16384<zs.length):cut mp nc zs=([],2):=if_pos h
theorem y1P{mp nc zs}(h:¬16384<zs.length)(D:(Utf.dec 0 zs).2.2≠0):cut mp nc zs=([],1):=by unfold cut;rw[if_neg h,if_pos D]
theorem y1Q{mp nc zs}(h:¬16384<zs.length)(D:(Utf.dec 0 zs).2.2=0)(R:65536<(mp (Utf.dec 0 zs).1).length):cut mp nc zs=([],2):=by unfold cut;rw[if_neg h,if_neg n2N,if_pos R]
theorem y3q{mp nc zs}(h:¬16384<zs.length)(D:(Utf.dec 0 zs).2.2=0)(R:¬65536<(mp (Utf.dec 0 zs).1).length):cut mp nc zs=(Spl.split (nc (mp (Utf.dec 0 zs).1)),0):=by unfold cut;rw[if_neg h,if_neg n2N,if_neg R]
end Id
theorem Mu.lower19{w B B' U v xss}(h:Mu w B U v xss)(l:B'<=B):Mu w B' U v xss:=by
 obtain⟨j,I,P,d,z,N⟩:=h;refine⟨j,I,⟨P.1,?_⟩,fun i hi=>(d i hi).lower l,z,N⟩;rcases P.2 with h | ⟨g,M,t,Z,D,R⟩
 ·exact .inl h
 ·exact .inr ⟨g,M,t,Z,Nat.le_trans l D,R⟩
def z7l(w:World)(r:List (List Int)×Nat)(e:Ending)(w':World):Prop :=
 Below w.heap.size w w'/\((∃c:Nat,r=([],c)/\(c=1\/c=2)/\e=.returned (.tuple #[.slice none 0 0,.int .i64 (c:Int)]))\/∃v xss,r=(xss,0)/\e=.returned (.tuple #[v,.int .i64 0])/\Mu w' w.heap.size w'.heap.size v xss)
theorem cut19{p q fl mp nc hr}{ck w}(o:IdC p fl mp nc hr ck w)(H:EngAt w q fl p) s:Calls prog 35 #[.pointer (some ⟨q,0,none⟩),.string s] w (z7l w (Id.cut mp nc (nums s))):=by
 have i:=nums_length s;by_cases n:16384<s.size
 ·have HE:=O (Id.x8K (mp:=mp) (nc:=nc) (zs:=nums s) f6J);have hL:(16384:Int)<s.size:=f6J;clear o H i;generalize Id.cut mp nc (nums s)=r at *;go_enter func35,ntmps35;go_wp2;go_ret2;exact⟨b0r,.inl ⟨2,V HE,.inr rfl,rfl⟩⟩
 ·have hL:¬((16384:Int)<s.size):=f6J;have M:=O (decC s w f6J);have x:=fun h=>O (Id.y1P (mp:=mp) (nc:=nc) (zs:=nums s) f6J h);have u:=fun h Z=>O (Id.y1Q (mp:=mp) (nc:=nc) (zs:=nums s) f6J h Z);have S:=fun h Z=>O (Id.y3q (mp:=mp) (nc:=nc) (zs:=nums s) f6J h Z)
  have ae:(Utf.dec 0 (nums s)).1.length<=16384:=by
   rcases Utf.dec_shape (nums s).length 0 (nums s) (l0r _)with⟨_,_,h⟩ | ⟨q,h,_⟩
   ·omega
   ·rw[h];simp
  have B:Hid (∀W xv,Bw w W->Sk .i32 W xv (Utf.dec 0 (nums s)).1->_):=fun W xv U J=>z8C (o.map W xv _ U J ae);have KN:=O o.nfc;have E:=O o.len;have g:=O fun W (U:Bw w W)=>(H.on U).f;have N:=O fun W (U:Bw w W)=>(H.on U).d;have KF:=O (y2c fl);clear o H ae n i;generalize Id.cut mp nc (nums s)=r,Utf.dec 0 (nums s)=dd at *;obtain⟨xs,d2,d3⟩:=dd;go_enter func35,ntmps35;go_wp2_with fail;refine(V M).mono ?_;rintro e I ⟨v,rfl,j,b1⟩;by_cases hz:d3=0
  ·subst hz;replace u:=u rfl;replace S:=S rfl;have Q:=O b1;have T:Bw I I:=b0r;have Y:=T.drew;have g:=O fun W (U:Bw I W)=>V g W (x0b b1 U);have N:=O fun W (U:Bw I W)=>V N W (x0b b1 U);have C:=O (fun W (U:Bw I W)=>V B W v (x0b b1 U) (j.sk.below U));obtain⟨ao,am,rfl,_,_⟩:=j.sk.shape;clear M B j x b1;go_wp2_with fail;go_region_held3(fun l=>l.cell? ⟨q,0,none⟩=some (.int .i64 fl)/\l.cell? ⟨q,1,none⟩=some (.pointer (some ⟨p,0,none⟩))/\Bw I l) (first| exact⟨V g _ W8W,V N _ W8W,W8W⟩|(have D:=x0b Y W8W;exact⟨V g _ D,V N _ D,D⟩) | go_keep) (first| (go_at_call 11;refine(V KF _).mono ?_;rintro e w2 ⟨rfl,m⟩;have F:=x0b (W8W:Bw I _) m)|(go_at_call 14;refine(V C _ W8W).mono ?_;rintro e w3 ⟨vm,cm,rfl,L,af⟩;have ab:=x0b (W8W:Bw I _) L));rcases af with⟨rfl,b,y⟩ | ⟨rfl,b⟩
   ·have a:=S f6J;have k:=x0b (V Q) ab;have K4:=O (V KN w3 vm _ k y.sk b);have i:=V E _ b;have c1:=V N w3 ab;obtain⟨ai,c,rfl,_,_⟩:=y.sk.shape;clear C KF KN E g N u S Y T F m y b L ab Q;generalize nc (mp xs)=nn at *;go_wp2_with fail;refine(V K4).mono ?_;rintro e w4 ⟨v4,rfl,z,R⟩;have K5:=O (z3e v4 nn w4 z.sk f6J);obtain⟨aj,ag,rfl,_,_⟩:=z.sk.shape;have X:=x0b k R;clear K4 c1 z R k;go_wp2_with fail;refine(V K5).mono ?_;rintro e w5 ⟨v5,rfl,K,P⟩;have G:=O (K.lower19 X.size);have t:=O (x0b X P);clear K5 K P X;go_wp2;go_ret2;exact⟨V t,.inr ⟨_,_,V a,rfl,V G⟩⟩
   ·have a:=u b;have t:=O (x0b (V Q) ab);clear C KF KN E g N u S Y T F m b L ab Q;go_wp2;go_ret2;exact⟨V t,.inl ⟨2,V a,.inr rfl,rfl⟩⟩
  ·have a:=x hz;have A:(d3 != 0)=true:=(by simpa using hz);have t:=O b1;clear M B KN E g N KF j x u S hz b1;go_wp2;go_ret2;exact⟨V t,.inl ⟨1,V a,.inl rfl,rfl⟩⟩
namespace Id
def rdc(x:List Int):Nat:=(rd x).2.2.toNat
theorem rd_c x:(rd x).2.2=((rdc x:Nat):Int)/\rdc x<65536:=by
 unfold rdc rd;split
 ·exact⟨rfl,M7K⟩
 ·split
  ·exact⟨rfl,M7K⟩
  ·split
   ·exact⟨rfl,M7K⟩
   ·exact⟨rfl,M7K⟩
def wr(ck:List Int->Bool->Bool->Nat)(X:List Int)(c:Nat)(rtl dec:Bool):Nat:=if c=0 then ck X rtl dec else c
def wrong(ck:List Int->Bool->Bool->Nat)(rtl:Bool)(x:List Int):Nat:=wr ck (rd x).1 (rdc x) rtl (rd x).2.1
def acc(ck:List Int->Bool->Bool->Nat)(rtl:Bool)(xss:List (List Int)):Nat:=(xss.map (wrong ck rtl)).foldl (·|||·) 0
theorem y4m{ck}(h:∀X r d,ck X r d<65536) rtl x:wrong ck rtl x<65536:=by
 unfold wrong wr;split
 ·exact h _ _ _
 ·exact(rd_c x).2
theorem z1c ck rtl xss x:acc ck rtl (xss++[x])=acc ck rtl xss|||wrong ck rtl x:=by simp[acc]
theorem x5o{ck}(h:∀X r d,ck X r d<65536) rtl xss:acc ck rtl xss<65536:=by
 suffices ∀(l:List Nat) (a:Nat),a<2^16->(∀z∈l,z<2^16)->l.foldl (·|||·) a<2^16 from this _ 0 e8M (fun z o=>by obtain⟨x,_,rfl⟩:=List.mem_map.1 o;exact y4m h rtl x)
 intro l
 induction l with
 | nil=>intro a H _;exact H
 | cons z l ih=>intro a H S;exact ih _ (Nat.or_lt_two_pow H (S z M7L)) (fun y s=>S y e7v)
theorem z1b{ck rtl}{xss:List (List Int)}{k}(G:k<xss.length):acc ck rtl (xss.take (k+1))=acc ck rtl (xss.take k)|||wrong ck rtl (xss.getD k []):=by
 rw[List.take_succ_eq_append_getElem G,z1c];exact w7Y
theorem or19{a b:Nat}(H:a<65536)(Q:b<65536):bits .or .i64 (a:Int) (b:Int)=((a|||b:Nat):Int):=by
 have B:a|||b<2^16:=Nat.or_lt_two_pow H Q;exact V8W
def read(xss:List (List Int)):List (List Int):=xss.map fun x=>(rd x).1
theorem z9W xss:ys xss xss.length=read xss:=by simp[ys,read]
theorem z9o xss:rs xss xss.length=xss.map fun x=>(rd x).2:=by simp[rs]
theorem y9J f:∀(zs:List Int) (s:Pu.St),(Pu.x5b f zs s).1.length<=s.xs.length+f:=by
 induction f with
 | zero=>intro zs s;simp[Pu.x5b]
 | succ f ih =>
  intro zs s;rw[Pu.x5b];split
  ·simp
  ·split
   ·simp
   ·split
    ·simp
    ·split
     ·simp
     ·refine Nat.le_trans (ih _ _) ?_;have:∀(l:List Int) (p:Nat) (c:Int),(Pu.ins l p c).length=l.length+1:=fun l p c=>(by simp[Pu.ins];exact f6J);simp only[Pu.step,this];omega
theorem z9a x:(rd x).1.length<=8*x.length:=by
 have Z:(pn x).1.length<=8*x.length:=by
  unfold pn Pu.decode;have S:(txt (x.drop 4)).length<=4*(x.drop 4).length:=Utf.y1T 0 _;rw[List.length_drop]at S;split
  ·simp
  ·split
   ·simp
   ·refine Nat.le_trans (y9J _ _ _) ?_;have:((txt (x.drop 4)).take (Pu.x4S (txt (x.drop 4)) 0 0)).length<=(txt (x.drop 4)).length:=P8P;simp only[Pu.begin];omega
 unfold rd;split
 ·simp;omega
 ·split
  ·simp;omega
  ·split
   ·simp;omega
   ·exact Z
theorem x8p xss:Spl.total (read xss)<=8*Spl.total xss:=by
 induction xss with
 | nil=>simp[read,Spl.total]
 | cons x l ih =>
  have:=z9a x;simp only[read,Spl.total,List.map_cons,List.sum_cons]at ih ⊢;omega
def proc(mp nc:List Int->List Int)(hr:List Int->Bool)(ck:List Int->Bool->Bool->Nat)(zs:List Int):List (List Int)×Nat :=
 if(cut mp nc zs).2≠0 then([],(cut mp nc zs).2)else if 16384<cnt (Utf.encA 0 (Spl.join (read (cut mp nc zs).1)))then([],2)else(read (cut mp nc zs).1,acc ck ((read (cut mp nc zs).1).any hr) (cut mp nc zs).1)
theorem y7s{mp nc}(S:∀X:List Int,X.length<=65536->(nc X).length<=2097152){zs xss}(h:cut mp nc zs=(xss,0)):0<xss.length/\xss.length<=2097153/\Spl.total xss<=2097152:=by
 unfold cut at h;split at h
 ·simp at h
 ·split at h
  ·simp at h
  ·split at h
   ·simp at h
   ·obtain rfl:=(Prod.mk.inj h).1
    rename_i h3
    have Z:=S _ (Nat.le_of_not_lt h3);have D:=Spl.y6h [] (nc (mp (Utf.dec 0 zs).1));have z:=Spl.y2U [] (nc (mp (Utf.dec 0 zs).1));have H:=Spl.z0p [] (nc (mp (Utf.dec 0 zs).1));unfold Spl.split;exact⟨List.length_pos_iff.2 H,f6J,by simp at z;exact f6J⟩
end Id
theorem Mu.rws17{w B U v xss}(h:Mu w B U v xss)(S:xss.length<=1000000000):x5D w v xss:=by
 obtain⟨j,I,P,d,_,_⟩:=h;refine⟨S,?_⟩;rcases P.2 with⟨Z,D⟩ | ⟨g,M,t,rfl,C,Y,E,F,a,o⟩
 ·exact .inl ⟨D,none,0,by rw[Z],f6J⟩
 ·refine .inr ⟨g,0,M,rfl,E,S7V,fun i hi=>⟨j.getD i undef,?_,(d i hi).sk⟩⟩;rw[Nat.zero_add,P.cellAt i f6J];simp[List.getD,(f6J:i<j.length)]
theorem z6Y{p q fl mp nc hr}{ck w}(o:IdC p fl mp nc hr ck w)(H:EngAt w q fl p){xv X}(J:Sk .i32 w xv X)(S:X.length<=65536)(c:Nat) d rtl :
  Calls prog 38 #[.pointer (some ⟨q,0,none⟩),xv,.agg #[.bool d,.int .i64 (c:Int)],.bool rtl] w (IntB w ((Id.wr ck X c rtl d:Nat):Int)):=by
 by_cases Z:c=0
 ·subst Z;have E:Id.wr ck X 0 rtl d=ck X rtl d:=if_pos rfl;rw[E];obtain⟨I,B⟩:∃I,w.alloc (.cells #[.bool d,.int .i64 0] 83)=I:=⟨_,rfl⟩;have b1:Bw w I:=(by rw[<- B];exact t9C);have a:Od.Blk I w.heap.size 83 [.bool d,.int .i64 0]:=(by rw[<- B];exact Od.Blk.new w _ _ _ rfl);have T:Bw I I:=b0r;have Y:=T.drew;have g:=O fun W (U:Bw I W)=>(H.on (x0b b1 U)).f;have N:=O fun W (U:Bw I W)=>(H.on (x0b b1 U)).d;have R:=O fun W (U:Bw I W)=>(a.below U a.lt).cell (i:=0) rfl;have C:=a.cell (i:=1) rfl;have K:=O fun W (U:Bw I W)=>o.chk W xv X rtl d (x0b b1 U) (J.below (x0b b1 U)) S;have b:=O (y2c fl);have Q:=O b1;obtain⟨j,M,rfl,_,_⟩:=J.shape;clear o H J E b1 a S;generalize ck X rtl d=z at *;go_enter func38,ntmps38;go_wp2_with fail;go_region_held3(fun l=>l.cell? ⟨q,0,none⟩=some (.int .i64 fl)/\l.cell? ⟨q,1,none⟩=some (.pointer (some ⟨p,0,none⟩))/\l.cell? ⟨w.heap.size,0,none⟩=some (.bool d)/\Bw I l) (first| exact⟨V g _ W8V,V N _ W8V,V R _ W8V,W8V⟩|(have D:=x0b Y W8V;exact⟨V g _ D,V N _ D,V R _ D,D⟩) | go_keep) (first| (go_at_call 11;refine(V b _).mono ?_;rintro e k ⟨rfl,m⟩;have F:=x0b (W8V:Bw I _) m)|(go_at_call 68;refine(V K _ W8V).mono ?_;rintro e P ⟨rfl,L⟩;have s:=x0b (W8V:Bw I _) L));have t:=O (x0b (V Q) s);clear K g N R b F s m L Y T Q;go_wp2;go_ret;exact⟨rfl,V t⟩
 ·have E:Id.wr ck X c rtl d=c:=if_neg Z;rw[E];have G:(((c:Nat):Int) != 0)=true:=E1w;obtain⟨j,M,rfl,_,_⟩:=J.shape;clear o H J E S Z;generalize((c:Nat):Int)=z at *;go_enter func38,ntmps38;go_wp2;go_ret;exact⟨rfl,(b0r).alloc (l0r _) _⟩
namespace Id
def Snd(x:List Int):Prop:=∀c∈x,Utf.okc c
theorem y6f{x}(h:(Utf.encA 0 x).2.2=0):Snd x:=by
 rcases fb_enc 0 x with⟨_,_,Z⟩ | ⟨q,_,Z,_⟩
 ·exact Z
 ·rw[Z]at h;simp at h
theorem z5h i{x}(h:Snd x):(Utf.encA i x).2.2=0/\x.length<=(Utf.encA i x).1.length:=by
 induction x generalizing i with
 | nil=>exact⟨rfl,M7M⟩
 | cons c r ih =>
  have Z:=ih (i+1) (fun z o=>h z (by simp[o]));have D:=Utf.x4j c;rw[Utf.encA,if_pos (h c M7M),Utf.glue,if_pos Z.1];exact⟨rfl,P8P⟩
theorem z4T{x}(h:Snd x):(x.length:Int)<=cnt (Utf.encA 0 x):=by
 have:=z5h 0 h;unfold cnt;rw[if_pos this.1];omega
theorem y7A{zs}(Q:Utf.Byt zs)(h:(Utf.dec 0 zs).2.2=0):Snd (Utf.dec 0 zs).1 :=
 y6f (by rw[Utf.y7L zs.length 0 0 zs (l0r _) Q h])
theorem z0q{x}(h:Snd x){y}(hy:y∈Spl.split x):Snd y:=fun c T=>by
 rcases Spl.splitA_mem [] x y hy c T with h1 | h1
 ·cases h1
 ·exact h c h1
theorem ins_mem{l p c z}(h:z∈Pu.ins l p c):z∈l\/z=c:=by
 unfold Pu.ins at h;rcases List.mem_append.1 h with h | h
 ·exact .inl (List.mem_of_mem_take h)
 ·rcases List.mem_cons.1 h with h | h
  ·exact .inr h
  ·exact .inl (List.mem_of_mem_drop h)
theorem y9K f:∀(zs:List Int) (s:Pu.St),Snd s.xs->Snd (Pu.x5b f zs s).1:=by
 induction f with
 | zero=>intro zs s h;exact h
 | succ f ih =>
  intro zs s h;rw[Pu.x5b];split
  ·exact h
  ·split
   ·exact r3t
   ·split
    ·exact r3t
    ·split
     ·exact r3t
     ·rename_i h4
      refine ih _ _ fun c T=>?_;rcases ins_mem T with h1 | h1
      ·exact h c h1
      ·subst h1;exact Decidable.of_not_not h4
theorem y9q{z}(A:0<=z)(Z:z<128):Utf.okc z:=M1d
theorem z9b{x}(h:Snd x):Snd (rd x).1:=by
 unfold rd;split
 ·exact h
 ·split
  ·exact h
  ·split
   ·exact h
   ·show Snd (Pu.decode (txt (x.drop 4))).1;unfold Pu.decode;split
    ·exact r3t
    ·split
     ·exact r3t
     ·rename_i hb
      refine y9K _ _ _ fun c T=>?_;have y:c∈txt (x.drop 4):=List.mem_of_mem_take T;have A:Utf.Byt (txt (x.drop 4)):=Utf.y7K 0 _;have C:Pu.basicB (txt (x.drop 4))=true:=(by simpa using hb);unfold Pu.basicB at C;rw[List.all_eq_true]at C;exact y9q (A c y).1 (by simpa using C c y)
theorem y3K:∀{l:List (List Int)},(∀y∈l,Snd y)->Snd (Spl.join l)
 | [],_=>fun c hc=>by simp[Spl.join]at hc
 | [a],h=>by simpa[Spl.join]using h a M7L
 | a::b::l,h=>by
  rw[Spl.join_cons a M7L];intro c hc;rcases List.mem_append.1 hc with hc | hc
  ·exact h a M7L c hc
  ·rcases List.mem_cons.1 hc with hc | hc
   ·subst hc;exact y9q e8M e8M
   ·exact y3K (l:=b::l) (fun y hy=>h y (by simp at hy ⊢;right;exact hy)) c hc
theorem y4b:∀(l:List (List Int)) (k:Nat),(l.getD k []).length<=(Spl.join l).length
 | [],k=>M7K
 | [a],k=>by cases k<;>simp[Spl.join]
 | a::b::l,k=>by
  rw[Spl.join_cons a M7K,List.length_append,List.length_cons]
  cases k with
  | zero=>simp
  | succ k=>have:=y4b (b::l) k;simp only[List.getD_cons_succ];omega
theorem y7r{mp nc}(Z:∀X,Snd X->Snd (mp X))(D:∀X,Snd X->Snd (nc X)){zs}(Q:Utf.Byt zs){xss}(h:cut mp nc zs=(xss,0)):∀x∈xss,Snd x:=by
 unfold cut at h;split at h
 ·simp at h
 ·split at h
  ·simp at h
  ·split at h
   ·simp at h
   ·obtain rfl:=(Prod.mk.inj h).1
    rename_i h3 h4
    exact fun x J=>z0q (D _ (Z _ (y7A Q (by simpa using h3)))) J
theorem y4a{xss}(h:∀x∈xss,Snd x):∀y∈read xss,Snd y:=fun y hy=>by
 obtain⟨x,J,rfl⟩:=List.mem_map.1 hy;exact z9b (h x J)
end Id
namespace Id
theorem x3h{mp nc hr ck zs}{c}(h:cut mp nc zs=([],c))(T:c≠0):proc mp nc hr ck zs=([],c):=by unfold proc;rw[h,if_pos T]
theorem x6c{mp nc hr ck zs}{xss}(h:cut mp nc zs=(xss,0))(Q:16384<cnt (Utf.encA 0 (Spl.join (read xss)))):proc mp nc hr ck zs=([],2):=by unfold proc;rw[h,if_neg M7K,if_pos Q]
theorem x9u{mp nc hr ck zs}{xss}(h:cut mp nc zs=(xss,0))(Q:¬16384<cnt (Utf.encA 0 (Spl.join (read xss)))):proc mp nc hr ck zs=(read xss,acc ck ((read xss).any hr) xss):=by unfold proc;rw[h,if_neg M7K,if_neg Q]
end Id
def x9O(w:World)(r:List (List Int)×Nat)(e:Ending)(w':World):Prop :=
 Below w.heap.size w w'/\∃v,e=.returned (.tuple #[v,.int .i64 ((r.2:Nat):Int)])/\Mu w' w.heap.size w'.heap.size v r.1
theorem Mu.now19{w B U v xss}(h:Mu w B U v xss):Mu w B w.heap.size v xss:=by
 obtain⟨j,I,P,d,z,N⟩:=h;exact⟨j,I,P,d,fun i hi b Q=>((d i hi).row.lt b Q).2,N⟩
theorem y0S{p q fl mp nc hr}{ck w}(o:IdC p fl mp nc hr ck w)(H:EngAt w q fl p) s:Calls prog 18 #[.pointer (some ⟨q,0,none⟩),.string s] w (x9O w (Id.proc mp nc hr ck (nums s))):=by
 have K:=O (cut19 o H s);have R1:=fun c h Z=>O (Id.x3h (mp:=mp) (nc:=nc) (hr:=hr) (ck:=ck) (zs:=nums s) (c:=c) h Z);have R2:=fun xss h Z=>O (Id.x6c (mp:=mp) (nc:=nc) (hr:=hr) (ck:=ck) (zs:=nums s) (xss:=xss) h Z);have R3:=fun xss h Z=>O (Id.x9u (mp:=mp) (nc:=nc) (hr:=hr) (ck:=ck) (zs:=nums s) (xss:=xss) h Z);have b:=O fun xss=>Id.y7s (mp:=mp) o.len (zs:=nums s) (xss:=xss);generalize Id.proc mp nc hr ck (nums s)=r,hCT:Id.cut mp nc (nums s)=ct at *;go_enter func18,ntmps18;go_wp2_with fail;refine(V K).mono ?_;rintro e w1 ⟨b1,⟨c,u,hc,rfl⟩ | ⟨v,xss,u,rfl,m⟩⟩
 ·have a:=R1 c u f6J;have aL:((c:Int) != 0)=true:=(by rcases hc with rfl | rfl<;>rfl);have t:=O b1;clear K R1 R2 R3 b u hc b1 o H hCT;exact g1O
 ·obtain⟨x0,x1,x2⟩:=V b xss u;have P:=O (Id.z4T (Id.y3K (Id.y4a (Id.y7r o.ms o.ns (x0u s) (hCT.trans u)))));clear hCT;have aD:(Id.read xss).length=xss.length:=(by simp[Id.read]);have aI:=Id.x8p xss
  have K2:=O (y5P b1.size m x0 f6J (fun x hx=>by
   obtain⟨i,hi,rfl⟩:=List.getElem_of_mem hx;have:=Spl.z3Y xss i;simp only[List.getD,List.getElem?_eq_getElem hi,Option.getD_some]at this
   omega))
  replace R2:=fun h=>R2 xss u h;replace R3:=fun h=>R3 xss u h
  obtain⟨g,M,rfl⟩:∃g M,v=.slice (some ⟨g,0,none⟩) xss.length M:=by
   obtain⟨us,I,a2,_⟩:=m;rcases a2.2 with⟨_,h⟩ | ⟨g,M,aG,h,_⟩
   ·omega
   ·exact⟨g,M,h⟩
  clear K R1 b u m;go_wp2_with fail;refine(V K2).mono ?_;rintro e w2 ⟨rv,rfl,l,af,b2⟩;rw[Id.z9W]at l;rw[Id.z9o]at af;have ay:=b1.trans b2;have K3:=O (z8w _ (Id.read xss) w2 (l.rwsS f6J) f6J)
  obtain⟨T,F,rfl⟩:∃T F,rv=.slice (some ⟨T,0,none⟩) xss.length F:=by
   rcases af.2 with⟨_,h⟩ | ⟨g,M,aG,h,_⟩
   ·omega
   ·exact⟨g,M,h⟩
  have E:=O l;have ar:=O af;have D:=Spl.x8Z (Id.read xss);clear K2 b1 b2 l af;go_wp2_with fail;refine(V K3).mono ?_;rintro e w3 ⟨v3,rfl,C,L⟩;have K4:=O (x9W v3 _ w3 C.sk f6J);have ab:=x0b ay L;have j:=O ((V E).below L).now19;have S:=O (x5B (V ar) L);obtain⟨aK,aJ,rfl,_,_⟩:=C.sk.shape;clear K3 E ar ay L C;go_wp2_with fail;refine(V K4).mono ?_;rintro e w3 ⟨rfl,rfl⟩;clear K4;have A:=O (Id.y4b (Id.read xss));generalize hcn:cnt (Utf.encA 0 (Spl.join (Id.read xss)))=cn at *;by_cases aA:16384<cn
  ·have a:=R2 aA;have t:=O ab;clear P A R2 R3 hcn ab j S o H D;exact g1O
  ·have a:=R3 f6J
   have am:Hid (∀k,((Id.read xss).getD k []).length<=65536):=fun k=>by
    have h1:=V A k;have h2:=V P;omega
   clear P A;have az:=H.on ab;have c1:=az.d;have K5:=O (o.dom w3 _ _ ab ((V j).rws17 f6J));have aj:=O ab;have HE:=O H;have HC:=O o;clear R2 R3 hcn ab az H o D;generalize(Id.read xss).any hr=rtl at *;go_wp2_with fail;refine c0m K5 fun w4 R=>?_;have X:=x0b (V aj) R;have B:=((V j).below R).now19;have z:=x5B (V S) R;have aq:=O B;have ai:Hid (∀k,Id.acc ck rtl (xss.take k)<65536):=fun k=>Id.x5o (V HC).lt rtl _;have ag:Hid (∀x,Id.wrong ck rtl x<65536):=fun x=>Id.y4m (V HC).lt rtl x
   have HG:Hid (∀k,k<xss.length->∀W,Bw w4 W->∃xv d c,W.cell? ⟨g,k,none⟩=some xv/\W.cell? ⟨T,k*2,none⟩=some (.bool d)/\W.cell? ⟨T,k*2+1,none⟩=some (.int .i64 c) /\
     Calls prog 38 #[.pointer (some ⟨q,0,none⟩),xv,.agg #[.bool d,.int .i64 c],.bool rtl] W (IntB W ((Id.wrong ck rtl (xss.getD k []):Nat):Int))):=by
    intro k G W U;obtain⟨us,I,a2,a3,_⟩:=B.below U;rw[aD]at I a2 a3;have hq:=Id.z6x (xss.map fun x=>(Id.rd x).2) (k:=k) (by simpa using G);have ho:=x5B z U;have e1:(Id.read xss).getD k []=(Id.rd (xss.getD k [])).1:=(by simp[Id.read,List.getD,G]);have e2:(xss.map fun x=>(Id.rd x).2).getD k (false,0)=(Id.rd (xss.getD k [])).2:=w8c;rw[e2]at hq;have aB:=a3 k G;rw[e1]at aB
    have aH:(Id.rd (xss.getD k [])).1.length<=65536:=by
     have:=V am k;rwa [e1]at this
    have:=z6Y ((V HC).on (x0b X U)) ((V HE).on (x0b X U)) aB.sk aH (Id.rdc (xss.getD k [])) (Id.rd (xss.getD k [])).2.1 rtl;rw[<- (Id.rd_c (xss.getD k [])).1]at this;exact⟨_,_,_,(a2.cellAt k f6J).trans (p0G:us[k]?=some (us.getD k undef)),(ho.cellAt (k*2) f6J).trans hq.1,(ho.cellAt (k*2+1) f6J).trans hq.2,this⟩
   have f:Hid (∀k,k<xss.length->Id.acc ck rtl (xss.take (k+1))=Id.acc ck rtl (xss.take k)|||Id.wrong ck rtl (xss.getD k [])):=fun k G=>Id.z1b G;have Q:Hid (Id.acc ck rtl (xss.take xss.length)=Id.acc ck rtl xss):=(by rw[List.take_length];exact rfl);have J:=O X;clear K5 R aj j S HC HE c1 X B z aI aD am;go_wp2;go_loopw[7,10,11,35] (fun bv _ _ iv wr=>∃k:Nat,bv=.int .i64 ((Id.acc ck rtl (xss.take k):Nat):Int)/\iv=.int .i64 k/\k<=xss.length/\Bw w4 wr) (fun _ _ _ iv _=>xss.length-(intOf iv).toNat)
   case atStart=>exact⟨0,rfl,rfl,f6J,b0r⟩
   case round =>
    obtain⟨k,rfl,rfl,G,ae⟩:=hrel;by_cases aC:k<xss.length
    ·have hL:(k:Int)<xss.length:=f6J;obtain⟨xv,d,c,c0,c1,c2,y⟩:=V HG k aC wr ae
     have HO:Hid (bits .or .i64 ((Id.acc ck rtl (xss.take k):Nat):Int) ((Id.wrong ck rtl (xss.getD k []):Nat):Int)=((Id.acc ck rtl (xss.take (k+1)):Nat):Int)):=by
      rw[V f k aC];exact Id.or19 (V ai k) (V ag _)
     replace y:=O y;have N:=O ae;clear HG f ai ag Q ae;generalize ha2:((Id.acc ck rtl (xss.take (k+1)):Nat):Int)=a2,((Id.acc ck rtl (xss.take k):Nat):Int)=I,((Id.wrong ck rtl (xss.getD k []):Nat):Int)=a3 at *;have ho:=V HO;have aw:Hid (∀W,Bw w4 W->∃n:Nat,Value.int .i64 a2=.int .i64 ((Id.acc ck rtl (xss.take n):Nat):Int)/\Value.int .i64 ((k:Int)+1)=.int .i64 n/\n<=xss.length/\Bw w4 W):=fun W U=>⟨k+1,by rw[ha2],g2A,f6J,U⟩;clear ha2 HO;go_wp2_with fail;refine c0m y fun w5 b5=>?_;have aF:=O (x0b (V N) b5);clear y b5 N c0 c1 c2;go_wp2
     go_roundw
     case rel=>exact V aw _ (V aF)
     case measure=>exact g7T
    ·obtain rfl:k=xss.length:=f6J;have t:=O (x0b (V J) ae);have HM:=O ((V aq).below ae).now19;have Y:=V Q;rw[Y];clear HG f ai ag Q ae J aq Y;go_wp2;go_ret2;obtain rfl:=V a;exact⟨V t,_,rfl,V HM⟩
namespace Id
def ca(x:List Int):List Int×Bool:=if allb ascb x=true then(txt x,true)else if(Pu.encode x).2≠0 then([],false)else([120,110,45,45]++(Pu.encode x).1,true)
theorem z7z{x}(h:allb ascb x=true):ca x=(txt x,true):=if_pos h
theorem ca_no{x}(h:allb ascb x=false)(D:(Pu.encode x).2≠0):ca x=([],false):=by unfold ca;rw[if_neg s8h,if_pos D]
theorem z7A{x}(h:allb ascb x=false)(D:(Pu.encode x).2=0):ca x=([120,110,45,45]++(Pu.encode x).1,true):=by unfold ca;rw[if_neg s8h,if_neg n2N]
def unf(v:Bool)(n m:Nat):Bool:=v&&(decide (n=0)||decide (m<n))
end Id
theorem y2g fl f w:Calls prog 12 #[.agg #[.int .i64 fl],.int .i64 f] w (x0c w (bits .and .i64 fl f==f)):=by
 generalize hz:(bits .and .i64 fl f==f)=z;go_enter func12,ntmps12;exact p9O
theorem z6V{q p fl w}(C:EngAt w q fl p) s(m:Nat):Calls prog 92 #[.pointer (some ⟨q,0,none⟩),.string s,.int .i64 (m:Int)] w (x0c w (Id.unf (bits .and .i64 fl 32==32) s.size m)):=by
 have K:=O (y2g fl 32 w);have o:=C.f;clear C;generalize(bits .and .i64 fl 32==32)=v at *
 cases v with
 | false =>
  have H:=O (show false=Id.unf false s.size m from rfl);generalize Id.unf false s.size m=u at *;go_enter func92,ntmps92;go_wp2_with fail;refine c0m K fun I b1=>?_;clear K;go_wp2;go_ret;exact⟨congrArg Ending.returned (congrArg Value.bool (V H)),b1⟩
 | true =>
  by_cases A:s.size=0
  ·have H:Hid (true=Id.unf true s.size m):=(by simp[Id.unf,A,Hid]);have P:(((s.size:Nat):Int)==0)=true:=(by simp[A]);clear A;exact f6w
  ·have P:(((s.size:Nat):Int)==0)=false:=N6t;by_cases Z:m<s.size
   ·have H:Hid (true=Id.unf true s.size m):=(by simp[Id.unf,Z,Hid]);have D:(m:Int)<(s.size:Int):=f6J;clear A Z;exact f6w
   ·have H:Hid (decide (m<s.size)=Id.unf true s.size m):=(by simp[Id.unf,Z,A,Hid]);have D:¬((m:Int)<(s.size:Int)):=f6J;clear A Z;exact f6w
def z7h(w:World)(r:List Int×Bool)(e:Ending)(w':World):Prop:=e=.returned (.tuple #[.string (strOfNums r.1),.bool r.2])/\Below w.heap.size w w'
theorem y7a{w xv X}(J:Sk .i32 w xv X)(S:X.length<=1000000000)(F:∀W,Bw w W->Calls prog 142 #[xv] W (WrP W (Pu.encode X)))(C:(Pu.encode X).1.length<=1000000000):Calls prog 91 #[xv] w (z7h w (Id.ca X)):=by
 have B:=O (z3y xv X w J)
 cases hb:allb ascb X with
 | true =>
  rw[hb]at B;rw[Id.z7z hb];have A:=O fun W (U:Bw w W)=>z0C (J.below U) S;obtain⟨R,M,rfl,_,_⟩:=J.shape;clear J F hb S C;generalize Id.txt X=z at *;go_enter func91,ntmps91;go_wp2_with fail;refine c0m B fun I b1=>?_;have K:=O (V A I b1);clear B A;go_wp2_with fail;refine c0m K fun d m=>?_;have t:=O (x0b b1 m);clear K b1 m;go_wp2;go_ret2;exact⟨rfl,V t⟩
 | false =>
  rw[hb]at B;have x:=fun h=>O (Id.ca_no hb h);have u:=fun h=>O (Id.z7A hb h);have b:=O F;obtain⟨R,M,rfl,_,_⟩:=J.shape;have D:=O C;clear J F hb S C;generalize Id.ca X=r,Pu.encode X=E at *;obtain⟨s,c⟩:=E;go_enter func91,ntmps91;go_wp2_with fail;refine c0m B fun I b1=>?_;have K:=O (V b I b1);clear B b;go_wp2_with fail;refine c0m K fun d m=>?_;have t:=O (x0b b1 m);clear K b1 m;by_cases T:c=0
  ·subst T;replace u:=u rfl;have L:∀W,(Op.stringOp .add (⟨#[120,110,45,45]⟩:ByteArray) (strOfNums s)).run prog W=.ok (.string ((⟨#[120,110,45,45]⟩:ByteArray)++strOfNums s)) W:=fun W=>run_string_add_sum W _ _ (by have:=V D;rw[strOfNums_size];show 4+_<=_;exact f6J)
   have Y:Hid ((⟨#[120,110,45,45]⟩:ByteArray)++strOfNums s=strOfNums ([120,110,45,45]++s)):=by
    show _=_;apply ByteArray.ext;apply Array.toList_inj.1;rw[ByteArray.data_append,Array.toList_append];simp[strOfNums]
   clear x D;go_wp2;go_ret2;obtain rfl:=V u;exact⟨by rw[V Y];rfl,V t⟩
  ·have a:=x T;have G:(c != 0)=true:=t1l;clear x u T;go_wp2;go_ret2;obtain rfl:=V a;exact⟨rfl,V t⟩
namespace Id
def eb(v:Bool)(x:List Int):Nat:=if(ca x).2=false then 8192 else if unf v (ca x).1.length 63=true then 16384 else 0
def ea(v:Bool)(yss:List (List Int)):Nat:=(yss.map (eb v)).foldl (·|||·) 0
theorem z8a v x:eb v x<65536:=by
 unfold eb;split
 ·decide
 ·split
  ·decide
  ·decide
theorem y7J{v}{M:List (List Int)}{k}(G:k<M.length):ea v (M.take (k+1))=ea v (M.take k)|||eb v (M.getD k []):=by
 rw[List.take_succ_eq_append_getElem G,ea,ea,List.map_append,List.foldl_append];simp only[List.map_cons,List.map_nil,List.foldl_cons,List.foldl_nil,List.getD,List.getElem?_eq_getElem G,Option.getD_some]
theorem or_lt{l:List Nat}{a}(H:a<65536)(S:∀z∈l,z<65536):l.foldl (·|||·) a<65536:=by
 induction l generalizing a with
 | nil=>exact H
 | cons z l ih=>exact ih (Nat.or_lt_two_pow (n:=16) H (S z M7K)) (fun y s=>S y e7v)
theorem z7Z v yss:ea v yss<65536:=or_lt e8M (fun z o=>by obtain⟨x,_,rfl⟩:=List.mem_map.1 o;exact z8a v x)
def tx(yss:List (List Int))(k:Nat):List Value:=(yss.take k).map (fun y=>Value.string (strOfNums (ca y).1))++List.replicate (yss.length-k) (.string ⟨#[]⟩)
theorem tx_at yss{k}(G:k<yss.length):(tx yss k)[k]?=some (.string ⟨#[]⟩):=by
 unfold tx;rw[List.getElem?_append_right P8P];simp only[List.length_map,List.length_take,Nat.min_eq_left (Nat.le_of_lt G),Nat.sub_self,List.getElem?_replicate];rw[if_pos f6J]
theorem z6U yss{k}(G:k<yss.length):(tx yss k).set k (.string (strOfNums (ca (yss.getD k [])).1))=tx yss (k+1):=by
 unfold tx;rw[List.set_append_right _ _ P8P,List.take_succ_eq_append_getElem G,List.map_append,(f6J:yss.length-k=(yss.length-(k+1))+1),List.replicate_succ];simp[Nat.min_eq_left (Nat.le_of_lt G),List.getD,G]
theorem z9N yss:tx yss yss.length=yss.map fun y=>Value.string (strOfNums (ca y).1):=by simp[tx]
def whole(yss:List (List Int)):List Int:=Spl.join (yss.map fun y=>(ca y).1)
def carry(v:Bool)(yss:List (List Int)):List Int×Nat:=(whole yss,ea v yss|||(if unf v (whole yss).length 253=true then 32768 else 0)|||(if 16384<(whole yss).length then 2 else 0))
theorem z2f L:(strOfNums (Spl.join L)).data.toList=Lib.join (L.map fun l=>(strOfNums l).data.toList) [46]:=by
 induction L with
 | nil=>rfl
 | cons a l ih =>
  cases l with
  | nil=>simp[Spl.join,Lib.join_one]
  | cons b l =>
   rw[Spl.join_cons a M7K];have e:∀x y:List Int,(strOfNums (x++y)).data.toList=(strOfNums x).data.toList++(strOfNums y).data.toList:=fun x y=>(by simp[strOfNums]);have f:∀y:List Int,(strOfNums (46::y)).data.toList=46::(strOfNums y).data.toList:=fun y=>(by simp[strOfNums]);rw[e,f,ih];simp[Lib.join,List.intercalate]
end Id
