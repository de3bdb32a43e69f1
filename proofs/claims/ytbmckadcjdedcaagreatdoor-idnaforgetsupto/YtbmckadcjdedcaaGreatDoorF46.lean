import Derived.Test.YtbmckadcjdedcaaGreatDoorF36
import Derived.Test.YtbmckadcjdedcaaGreatDoorF39
import Derived.Laws.OwnMore
import Derived.Test.YtbmckadcjdedcaaGreatDoorF15
import Derived.Test.YtbmckadcjdedcaaGreatDoorF1
import Derived.Deep.RegionHeld3
import Derived.Test.YtbmckadcjdedcaaGreatDoorF48
import Derived.Lib.Join
set_option maxHeartbeats 2000000
set_option maxRecDepth 8000
namespace Go.Proofs.YtbmckadcjdedcaaGreatDoor
open Go.Proofs.Tryz
open Go.RowKit
section
variable{p:Prop}
theorem p9O(h:p:=by go_wp2;go_ret;exact⟨rfl,(b0r).alloc (l0r _) _⟩):p:=h
theorem n6b(h:p:=by generalize Id.unf true s.size m=u at *;go_enter func92,ntmps92;go_wp2_with fail;refine c0m K fun Q b1=>?_;clear K;go_wp2;go_ret;exact⟨congrArg Ending.returned (congrArg Value.bool (V H)),b1⟩):p:=h
theorem W8W(h:p:=by assumption):p:=h
theorem n2N(h:p:=by rw[D];exact e8M):p:=h
theorem P2M(h:p:=by simp[List.getD,List.getElem?_set_ne (fun e=>hi e.symm)]):p:=h
theorem m6f(h:p:=by go_wp2;go_ret2;obtain rfl:=V a;exact⟨V HB,_,rfl,Mu.nil _ _ _⟩):p:=h
theorem U0s(h:p:=by rw[<- I];exact Od.Blk.new w _ _ _ rfl):p:=h
theorem p0G(h:p:=by simp[List.getD,(f6J:k<us.length)]):p:=h
end
namespace Id
def txt(x:List Int):List Int:=(Utf.encA 0 x).1
def pn(x:List Int):List Int×Int:=Pu.decode (txt (x.drop 4))
def rd(x:List Int):List Int×Bool×Int :=
 if Lb.x2B x=false then(x,false,0)else if(pn x).2≠0 then(x,false,2048)else if allb ascb (pn x).1=true then(x,false,4096)else((pn x).1,true,0)
theorem z2V{x}(h:Lb.x2B x=false):rd x=(x,false,0):=if_pos h
theorem z8Z{x}(h:Lb.x2B x=true)(D:(pn x).2≠0):rd x=(x,false,2048):=by
 unfold rd;rw[if_neg s8h,if_pos D]
theorem z8Y{x}(h:Lb.x2B x=true)(D:(pn x).2=0)(R:allb ascb (pn x).1=true):rd x=(x,false,4096):=by
 unfold rd;rw[if_neg s8h,if_neg n2N,if_pos R]
theorem rd_dec{x}(h:Lb.x2B x=true)(D:(pn x).2=0)(R:allb ascb (pn x).1=false):rd x=((pn x).1,true,0):=by
 unfold rd;rw[if_neg s8h,if_neg n2N,if_neg (by rw[R];exact e8M)]
theorem y7x{x}(h:Lb.x2B x=true):4<=x.length:=by
 match x,h with
 | [],h=>simp[Lb.x2B]at h
 | [a],h=>simp[Lb.x2B]at h
 | [a,b],h=>simp[Lb.x2B]at h
 | [a,b,c],h=>simp[Lb.x2B]at h
 | a::b::c::d::l,_=>simp
end Id
def y3o(w:World)(z:List Int)(e:Ending)(w':World):Prop:=e=.returned (.string (strOfNums z))/\Below w.heap.size w w'
theorem z0G{w xv X}(J:Sk .i32 w xv X)(S:X.length<=1000000000):Calls prog 41 #[xv] w (y3o w (Id.txt X)):=by
 have K:=O (encC xv X w J f6J);have L:Hid (Id.txt X=(Utf.encA 0 X).1):=rfl;obtain⟨R,M,rfl,_,_⟩:=J.shape;clear J S;generalize Utf.encA 0 X=r,Id.txt X=z at *;obtain⟨B,r2,r3⟩:=r;go_enter func41,ntmps41;go_wp2_with fail;refine c0m K fun Q b1=>?_;clear K;go_wp2;go_ret;obtain rfl:=V L;exact⟨rfl,b1⟩
theorem x2d{fn p q ty}(h:fn.results=#[.tmp q,.cell p ty]) tmps P w g v u(L:tmps.getD p undef=.pointer (some ⟨g,0,none⟩))(m:tmps.getD q undef=u)(N:(loadVar ty ⟨g,0,none⟩).run P w=.ok v w) :
  (results fn tmps).run P w=.ok (.tuple #[u,v]) w:=by
 have e:(results fn tmps).run P w=((asAddr (tmps.getD p undef)).run P w).andThen fun a w₁=>((loadVar ty a).run P w₁).andThen fun x w₂=>.ok (.tuple #[tmps.getD q undef,x]) w₂:=by
  simp only[results,h];simp[Sem.run_bind,Result.andThen]
 rw[e,L,m];simp[asAddr,Result.andThen,N]
theorem ld19{W g a b}(k:Od.Blk W g 83 [.bool a,.int .i64 b]):(loadVar 83 ⟨g,0,none⟩).run prog W=.ok (.agg #[.bool a,.int .i64 b]) W :=
 run_loadVar_mid (P:=prog) W g 0 83 [.bool a,.int .i64 b] _ (k.range 0) underlying83 (by rfl) f4x
theorem z8m ao n cap(H:4<=n)(I:n<=cap) W:(Instr.sliceAt 40 (.slice ao n cap) (some (.int .i64 4)) none none).run prog W=.ok (sliced ao 4 n cap 1) W:=by
 have Z:(4:Int)<=n:=f6J;by_cases m:cap=4
 ·subst m;obtain rfl:n=4:=f6J;go_simp
 ·go_simp
theorem y9w{K e w B}{v zs}(h:Ok K e w B v zs){g}(C:g<B) i x:Ok K e (w.setCell ⟨g,i,none⟩ x) B v zs :=
 ⟨h.1,h.2.1,h.2.2.kept (row:=some g) ⟨rfl,rfl,rfl,M7L,fun k G E=>heap_setCell_other w _ k x (fun e=>E (by rw[e]))⟩ (.inr fun e=>by have:=(h.row.lt g e).1;exact f6J)⟩
def RdB19(w:World)(xv:Value)(X:List Int)(r:List Int×Bool×Int)(e:Ending)(w':World):Prop :=
 Below w.heap.size w w'/\((∃c:Int,r=(X,false,c)/\e=.returned (.tuple #[xv,.agg #[.bool false,.int .i64 c]]))\/∃v Y,r=(Y,true,0)/\e=.returned (.tuple #[v,.agg #[.bool true,.int .i64 0]])/\Ok .i32 21 w' (w.heap.size+1) v Y)
theorem z9c{w xv X}(J:Sk .i32 w xv X)(hl:X.length<=200000000):Calls prog 64 #[xv] w (RdB19 w xv X (Id.rd X)):=by
 obtain⟨w0,I⟩:∃w0,w.alloc (.cells #[.bool false,.int .i64 0] 83)=w0:=⟨_,rfl⟩;have f:Bw w w0:=(by rw[<- I];exact t9C);have s0:w0.heap.size=w.heap.size+1:=(by rw[<- I];exact M7M);have KC:=O (z3I (J.below f))
 cases hcd:Lb.x2B X with
 | false =>
  rw[hcd]at KC;have a:=O (Id.z2V hcd);clear hcd;generalize Id.rd X=r at *;obtain⟨R,M,rfl,o,q⟩:=J.shape;clear J;go_enter func64,ntmps64;go_wp2_with fail;refine c0m KC fun Q b1=>?_;have B:Od.Blk Q w.heap.size 83 [.bool false,.int .i64 0]:=(U0s:Od.Blk w0 w.heap.size 83 [.bool false,.int .i64 0]).below b1 f6J;have c0:=B.cell (i:=0) rfl;have j:=B.cell (i:=1) rfl;have u:=B.frozen 0;have f1:=B.frozen 1;have N:=ld19 ((B.set 0 (.bool false)).set 1 (.int .i64 0));have U:=O (((x0b f b1).setCell (p:=⟨w.heap.size,0,none⟩) (l0r _) (.bool false)).setCell (p:=⟨w.heap.size,1,none⟩) (l0r _) (.int .i64 0));clear KC b1 B f;go_wp2;exact bodyPost_ret (x2d rfl _ _ _ w.heap.size _ _ (by rfl) (by rfl) N) rfl ⟨V U,.inl ⟨0,V a,rfl⟩⟩
 | true =>
  rw[hcd]at KC;have H:=Id.y7x hcd;have HT:Hid (∀W P,Bw w W->Sk .i32 W P (X.drop 4)->Calls prog 41 #[P] W (y3o W (Id.txt (X.drop 4)))):=fun W P _ hy=>z0G hy P8P;have g:(Id.txt (X.drop 4)).length<=4*(X.drop 4).length:=Utf.y2c 0 _
  have S:Hid (∀W,Calls prog 105 #[.string (strOfNums (Id.txt (X.drop 4)))] W (x0W W.heap.size W (Id.pn X))):=fun W=>by
   have:=y5f (strOfNums (Id.txt (X.drop 4))) W (by rw[strOfNums_size];simp at g;exact f6J);rwa [y5M (show Utf.Byt (Id.txt (X.drop 4))from Utf.y2b 0 _)]at this
  have HA:Hid (∀W P Y,Sk .i32 W P Y->Calls prog 106 #[P] W (x2S W (allb ascb Y))):=fun W P Y hy=>z3D P Y W hy;have R1:=fun h=>O (Id.z8Z hcd h);have Z:=fun h D=>O (Id.z8Y hcd h D);have L:=fun h D=>O (Id.rd_dec hcd h D);clear g;have n:=J;obtain⟨R,M,rfl,o,q⟩:=J.shape
  obtain⟨P,aq,s⟩:∃P,(∀W,(Instr.sliceAt 40 (.slice R X.length M) (some (.int .i64 4)) none none).run prog W=.ok P W)/\Hid (∀W,Bw w W->Sk .i32 W P (X.drop 4)):=⟨_,z8m R X.length M H o,fun W t=>by
   have:=(n.cut (l:=4) (h:=X.length) (m:=M) H (l0r _) o (l0r _)).below t
   rwa [List.take_of_length_le M7M]at this⟩
  clear J n hcd;generalize Id.rd X=r,Id.txt (X.drop 4)=tx at *;generalize hpn:Id.pn X=pn,X.drop 4=X4 at *;obtain⟨py,pe⟩:=pn;go_enter func64,ntmps64;go_wp2_with fail;refine c0m KC fun Q b1=>?_;have B:Od.Blk Q w.heap.size 83 [.bool false,.int .i64 0]:=(U0s:Od.Blk w0 w.heap.size 83 [.bool false,.int .i64 0]).below b1 f6J;have K:=O (V HT Q _ (x0b f b1) (V s Q (x0b f b1)));have ab:=x0b f b1;have ai:=b1.size;clear KC b1 f HT s;go_wp2_with fail;refine c0m K fun d b2=>?_;have k2:=B.below b2 f6J;have F:=x0b ab b2;have aj:=b2.size;have K2:=O (V S d);clear K B ab b2 S;go_wp2_with fail;refine(V K2).mono ?_;rintro e x (⟨v,rfl,hr,y,b⟩|⟨_,A,rfl,b⟩)
  ·obtain rfl:pe=0:=congrArg Prod.snd hr;have k:=O (V HA x v py y.sk);have c:=k2.below b f6J;have T:=x0b F b;have am:=b.size;have C:=O y;clear K2 k2 F b HA hr R1;obtain⟨af,E,rfl,_,_⟩:=y.sk.shape;clear y
   cases hb:allb ascb py with
   | true =>
    rw[hb]at k;have a:=Z rfl hb;clear Z L hb C;go_wp2_with fail;refine c0m k fun G b4=>?_;have z:=c.below b4 f6J;have c0:=z.cell (i:=0) rfl;have j:=z.cell (i:=1) rfl;have u:=z.frozen 0;have f1:=z.frozen 1;have N:=ld19 ((z.set 0 (.bool false)).set 1 (.int .i64 4096));have U:=O (((x0b T b4).setCell (p:=⟨w.heap.size,0,none⟩) (l0r _) (.bool false)).setCell (p:=⟨w.heap.size,1,none⟩) (l0r _) (.int .i64 4096));clear k b4 c z T;go_wp2;exact bodyPost_ret (x2d rfl _ _ _ w.heap.size _ _ (by rfl) (by rfl) N) rfl ⟨V U,.inl ⟨4096,V a,rfl⟩⟩
   | false =>
    rw[hb]at k;have a:=L rfl hb;clear Z L hb;go_wp2_with fail;refine c0m k fun G b4=>?_;have z:=c.below b4 f6J;have c0:=z.cell (i:=0) rfl;have j:=z.cell (i:=1) rfl;have u:=z.frozen 0;have f1:=z.frozen 1;have N:=ld19 ((z.set 0 (.bool true)).set 1 (.int .i64 0));have U:=O (((x0b T b4).setCell (p:=⟨w.heap.size,0,none⟩) (l0r _) (.bool true)).setCell (p:=⟨w.heap.size,1,none⟩) (l0r _) (.int .i64 0));have ae:=O (y9w (y9w (((V C).below b4).lower (f6J:w.heap.size+1<=d.heap.size)) (f6J:w.heap.size<w.heap.size+1) 0 (.bool true)) (f6J:w.heap.size<w.heap.size+1) 1 (.int .i64 0));clear k b4 c z T C;go_wp2;exact bodyPost_ret (x2d rfl _ _ _ w.heap.size _ _ (by rfl) (by rfl) N) rfl ⟨V U,.inr ⟨_,py,V a,rfl,V ae⟩⟩
  ·have c:=k2.below b f6J;have a:=R1 A;have ag:(pe != 0)=true:=N6u;have c0:=c.cell (i:=0) rfl;have j:=c.cell (i:=1) rfl;have u:=c.frozen 0;have f1:=c.frozen 1;have N:=ld19 ((c.set 0 (.bool false)).set 1 (.int .i64 2048));have U:=O (((x0b F b).setCell (p:=⟨w.heap.size,0,none⟩) (l0r _) (.bool false)).setCell (p:=⟨w.heap.size,1,none⟩) (l0r _) (.int .i64 2048));clear K2 k2 F b HA R1 Z L c A;go_wp2;exact bodyPost_ret (x2d rfl _ _ _ w.heap.size _ _ (by rfl) (by rfl) N) rfl ⟨V U,.inl ⟨2048,V a,rfl⟩⟩
theorem Mu.put19{w B g cap}{xss:List (List Int)}{us}(a:us.length=xss.length)(L:w.ownsRow B 40 1 (.slice (some ⟨g,0,none⟩) xss.length cap) xss.length us)
  (J:∀i,i<xss.length->Ok .i32 21 w B (us.getD i undef) (xss.getD i [])) (R:∀i j b,i<j->j<xss.length->(us.getD i undef).ownBlock=some b->(us.getD j undef).ownBlock≠some b)
  {k} (G:k<xss.length) {u ys} (W:Ok .i32 21 w B u ys) (H:∀j,j<xss.length->j≠k->∀b,u.ownBlock=some b->(us.getD j undef).ownBlock≠some b) :
  Mu (w.setCell ⟨g,k,none⟩ u) B (w.setCell ⟨g,k,none⟩ u).heap.size (.slice (some ⟨g,0,none⟩) xss.length cap) (xss.set k ys):=by
 obtain⟨Z,C⟩:=L.stored k u;have D:∀v l,Ok .i32 21 w B v l->Ok .i32 21 (w.setCell ⟨g,k,none⟩ u) B v l:=fun _ _ h=>⟨h.1,h.2.1,h.2.2.kept C (x7n e8N h.2.2 L)⟩;have P:∀i,i≠k->(us.set k u).getD i undef=us.getD i undef:=fun i hi=>P2M;have f:(us.set k u).getD k undef=u:=(by simp[List.getD,List.getElem?_set_self (f6J:k<us.length)]);have E:∀i,i≠k->(xss.set k ys).getD i []=xss.getD i []:=fun i hi=>P2M;have o:(xss.set k ys).getD k []=ys:=(by simp[List.getD,List.getElem?_set_self G]);refine⟨us.set k u,by simp[a],E1z,fun i hi=>?_,fun i hi b Y=>?_,fun i j b I K Y=>?_⟩
 ·rw[List.length_set]at hi;by_cases U:i=k
  ·subst U;rw[f,o];exact D _ _ W
  ·rw[P i U,E i U];exact D _ _ (J i hi)
 ·rw[List.length_set]at hi;by_cases U:i=k
  ·subst U;rw[f]at Y;simpa using(W.row.lt b Y).2
  ·rw[P i U]at Y;simpa using((J i hi).row.lt b Y).2
 ·rw[List.length_set]at K;by_cases U:i=k
  ·subst U;rw[f]at Y;rw[P j f6J];exact H j K f6J b Y
  ·rw[P i U]at Y;by_cases A:j=k
   ·subst A;rw[f];exact fun F=>H i f6J U b F Y
   ·rw[P j A];exact R i j b I K Y
namespace Id
def rc(R:List (Bool×Int)):List Value:=R.flatMap fun r=>[.bool r.1,.int .i64 r.2]
theorem z8V R:(rc R).length=R.length*2:=by
 induction R with
 | nil=>rfl
 | cons r R ih=>simp only[rc,List.flatMap_cons,List.length_append,List.length_cons]at ih ⊢;rw[ih];exact f4R
theorem z6z R{k}(G:k<R.length):(rc R)[k*2]?=some (.bool (R.getD k (false,0)).1)/\(rc R)[k*2+1]?=some (.int .i64 (R.getD k (false,0)).2):=by
 induction R generalizing k with
 | nil=>simp at G
 | cons r R ih =>
  cases k with
  | zero=>simp[rc]
  | succ k =>
   have:=ih (k:=k) E9n;simpa[rc,Nat.succ_mul]using this
theorem z8X R k a b:((rc R).set (k*2) (.bool a)).set (k*2+1) (.int .i64 b)=rc (R.set k (a,b)):=by
 induction R generalizing k with
 | nil=>simp[rc]
 | cons r R ih =>
  cases k with
  | zero=>simp[rc]
  | succ k =>
   have:=ih k;simp only[rc,List.flatMap_cons,List.cons_append,List.nil_append,Nat.succ_mul,List.set_cons_succ]at this ⊢;rw[this]
theorem z8W n:(madeCells #[.bool false,.int .i64 0] (n*2)).toList=rc (List.replicate n (false,0)):=by
 refine List.ext_getElem? fun i=>?_;by_cases hi:i<n*2
 ·have m:i / 2<n:=f6J;have h:=z6z (List.replicate n (false,0)) (k:=i / 2) (by simpa using m);rcases Nat.mod_two_eq_zero_or_one i with h0|h0
  ·rw[(f6J:i / 2*2=i)]at h;rw[h.1];simp[madeCells,hi,h0,m]
  ·rw[(f6J:i / 2*2+1=i)]at h;rw[h.2];simp[madeCells,hi,h0,m]
 ·rw[List.getElem?_eq_none (by simp[madeCells];exact f6J),List.getElem?_eq_none (by rw[z8V];exact P8P)]
end Id
theorem z5L:(prog.info? 83).map (fun i=>(i.zero,i.size,i.bytes))=some (some (.agg #[.bool false,.int .i64 0]),2,16):=f4x
theorem z8B(n:Nat) w(E:n<=3000000):∃W,(Instr.makeSlice 78 (.int .i64 (n:Int)) (.int .i64 (n:Int))).run prog w=.ok (.slice (some ⟨w.heap.size,0,none⟩) n n) W/\W.ownsRow w.heap.size 83 2 (.slice (some ⟨w.heap.size,0,none⟩) n n) n (Id.rc (List.replicate n (false,0)))/\w.grownBy W none:=by
 obtain⟨i,hi,f,p,t⟩:=info_parts z5L;obtain⟨W,Z,D,R⟩:=run_makeSlice_full (P:=prog) w w.heap.size 78 83 i _ 2 underlying78 hi f p .i64 .i64 n f6J n4P T7W (l0r _);exact⟨W,Z,by rw[<- Id.z8W];exact D,R⟩
theorem z6B{w xv X}(J:Sk .i32 w xv X)(S:X.length<=200000000):Calls prog 64 #[xv] w fun e w'=>∃u d c Y,Id.rd X=(Y,d,c)/\e=.returned (.tuple #[u,.agg #[.bool d,.int .i64 c]])/\Bw w w'/\((u=xv/\Y=X)\/Ok .i32 21 w' (w.heap.size+1) u Y) :=
 (z9c J S).mono fun e w' ⟨hb,h⟩=>by
  rcases h with⟨c,Z,D⟩|⟨v,Y,Z,D,R⟩
  ·exact⟨_,_,_,_,Z,D,hb,.inl ⟨rfl,rfl⟩⟩
  ·exact⟨_,_,_,_,Z,D,hb,.inr R⟩
namespace Id
def ys(xss:List (List Int))(k:Nat):List (List Int):=(xss.take k).map (fun x=>(rd x).1)++xss.drop k
def rs(xss:List (List Int))(k:Nat):List (Bool×Int):=(xss.take k).map (fun x=>(rd x).2)++List.replicate (xss.length-k) (false,0)
theorem z9X xss k:(ys xss k).length=xss.length:=by simp[ys];exact f6J
theorem z9p xss{k}(G:k<=xss.length):(rs xss k).length=xss.length:=by simp[rs];exact f6J
theorem ys_at xss{k}(G:k<xss.length):(ys xss k).getD k []=xss.getD k []:=by
 simp[ys,List.getD,List.getElem?_append_right,G,Nat.min_eq_left (Nat.le_of_lt G)]
theorem z7b xss{k}(G:k<xss.length){Y d c}(h:rd (xss.getD k [])=(Y,d,c)):(ys xss k).set k Y=ys xss (k+1):=by
 have e:xss.getD k []=xss[k]:=w8a;rw[e]at h;unfold ys;rw[List.set_append_right _ _ P8P,List.take_succ_eq_append_getElem G,List.map_append,List.drop_eq_getElem_cons G];simp only[List.length_map,List.length_take,Nat.min_eq_left (Nat.le_of_lt G),Nat.sub_self,List.set_cons_zero,List.map_cons,List.map_nil,h,List.append_assoc,List.cons_append,List.nil_append]
theorem z6J xss{k}(G:k<xss.length){Y d c}(h:rd (xss.getD k [])=(Y,d,c)):(rs xss k).set k (d,c)=rs xss (k+1):=by
 have e:xss.getD k []=xss[k]:=w8a;rw[e]at h;unfold rs;rw[List.set_append_right _ _ P8P,List.take_succ_eq_append_getElem G,List.map_append,(f6J:xss.length-k=(xss.length-(k+1))+1),List.replicate_succ];simp[Nat.min_eq_left (Nat.le_of_lt G),h]
end Id
theorem x5x{w w' B n s e g cap}{xs}(h:w.ownsRow B e s (.slice (some ⟨g,0,none⟩) n cap) n xs)(Y:Bw w w'):w'.ownsRow B e s (.slice (some ⟨g,0,none⟩) n cap) n xs :=
 h.kept (row:=none) ⟨Y.os,Y.tape,Y.output,Y.size,fun k G _=>Y.block k G⟩ (.inr V3H)
theorem z9n{w:World}{B n s e g cap xs}(h:w.ownsRow B e s (.slice (some ⟨g,0,none⟩) n cap) n xs){q}(m:q≠g) i x:(w.setCell ⟨q,i,none⟩ x).ownsRow B e s (.slice (some ⟨g,0,none⟩) n cap) n xs :=
 h.kept (row:=some q) ⟨rfl,rfl,rfl,M7L,fun k G E=>heap_setCell_other w _ k x (fun e=>E (by rw[e]))⟩ (.inr (by simp[Value.ownBlock];exact f6J))
theorem Mu.put2_19{w B U v xss}(h:Mu w B U v xss){q e s n cap ys}{B2}(hr:w.ownsRow B2 e s (.slice (some ⟨q,0,none⟩) n cap) n ys)(Z:e≠40)(D:e≠21) i x:Mu (w.setCell ⟨q,i,none⟩ x) B U v xss:=by
 obtain⟨z,L,P,t,M,Q⟩:=h;have C:=(hr.stored i x).2
 have I:∀{K:TypeId} {m:Nat} {u:Value} {y:List Value} {E:Nat},e≠K->w.ownsRow E K 1 u m y->u.ownBlock=none\/u.ownBlock≠some q:=fun F h=>by
  rcases h.2 with⟨rfl,_⟩|⟨g,cap,T,rfl,_,a,_⟩
  ·exact .inl rfl
  ·refine .inr fun e=>?_;simp only[Value.ownBlock,Option.some.injEq]at e;subst e;rcases hr.2 with⟨A,_⟩|⟨S,J,H,A,_,G,_⟩
   ·cases A
   ·simp only[Value.slice.injEq,Option.some.injEq,Addr.mk.injEq]at A;obtain⟨⟨rfl,_⟩,_⟩:=A;rw[G]at a;simp only[Option.some.injEq,Obj.cells.injEq]at a;exact F a.2.1
 exact⟨z,L,P.kept C (I Z P),fun i hi=>⟨(t i hi).1,(t i hi).2.1,(t i hi).2.2.kept C (I D (t i hi).2.2)⟩,M,Q⟩
def REB19(B:Nat)(w:World)(lv:Value)(xss:List (List Int))(e:Ending)(w':World):Prop :=
 ∃rv,e=.returned rv/\Mu w' B w'.heap.size lv (Id.ys xss xss.length)/\w'.ownsRow w.heap.size 83 2 rv xss.length (Id.rc (Id.rs xss xss.length))/\Below B w w'
theorem y6a{w B lv xss}(l:B<=w.heap.size)(hm:Mu w B w.heap.size lv xss)(h0:0<xss.length)(hn:xss.length<=3000000)(hl:∀x∈xss,x.length<=200000000):Calls prog 36 #[lv] w (REB19 B w lv xss):=by
 obtain⟨f,az,af,E⟩:=z8B xss.length w hn
 have aq:Mu f B f.heap.size lv xss:=by
  have I:Bw w f:=(b0r).grown E (l0r _) (fun k e=>by cases e);obtain⟨us,L,P,t,M,a5⟩:=hm.below I;exact⟨us,L,P,t,fun i hi b hb=>((t i hi).row.lt b hb).2,a5⟩
 have am:Below B w f:=((b0r).grown E (l0r _) (fun k e=>by cases e)).mono l;have ar:w.heap.size<f.heap.size:=(af.lt _ rfl).2
 obtain⟨g,cap,rfl,aC⟩:∃g cap,lv=.slice (some ⟨g,0,none⟩) xss.length cap/\xss.length<=cap:=by
  obtain⟨us,L,P,_⟩:=hm;rcases P.2 with⟨_,h⟩|⟨g,cap,aD,h,_,_,D,_⟩
  ·omega
  ·exact⟨g,cap,h,D⟩
 have F:Hid (Mu f B f.heap.size (.slice (some ⟨g,0,none⟩) xss.length cap) (Id.ys xss 0)):=(by simpa[Id.ys,Hid]using aq);have ag:Hid (f.ownsRow w.heap.size 83 2 (.slice (some ⟨w.heap.size,0,none⟩) xss.length xss.length) xss.length (Id.rc (Id.rs xss 0))):=(by simpa[Id.rs,Hid]using af);have U:=O am;have HL:=O hl;have ai:=O ar;clear hm aq af E am hl ar;go_enter func36,ntmps36;go_wp2;go_loopw[4,5,11] (fun _ _ iv wr=>∃k:Nat,iv=.int .i64 k/\k<=xss.length/\Mu wr B wr.heap.size (.slice (some ⟨g,0,none⟩) xss.length cap) (Id.ys xss k)/\wr.ownsRow w.heap.size 83 2 (.slice (some ⟨w.heap.size,0,none⟩) xss.length xss.length) xss.length (Id.rc (Id.rs xss k))/\Below B w wr/\w.heap.size<wr.heap.size) (fun _ _ iv _=>xss.length-(intOf iv).toNat)
 case atStart=>exact⟨0,rfl,f6J,V F,V ag,V U,V ai⟩
 case round =>
  obtain⟨k,rfl,hk,ae,Z,N,aG⟩:=hrel;clear F ag U ai az;by_cases H:k<xss.length
  ·have hL:(k:Int)<xss.length:=f6J;obtain⟨us,L,P,t,M,a5⟩:=ae;have s:=Id.z9X xss k;rw[s]at L P t M a5;have n:=(P.cellAt k f6J).trans (p0G:us[k]?=some (us.getD k undef));have ab:=t k H;rw[Id.ys_at xss H]at ab;have K:=O (z6B ab.sk (V HL _ N3H));obtain⟨xv,v⟩:∃xv,us.getD k undef=xv:=⟨_,rfl⟩;rw[v]at n ab K
   have T:Hid (∀Q u d c Y,Id.rd (xss.getD k [])=(Y,d,c)->Bw wr Q->((u=xv/\Y=xss.getD k [])\/Ok .i32 21 Q (wr.heap.size+1) u Y) ->
     (∃au cu,u=.slice au Y.length cu)/\(∃z,Q.cell? ⟨g,k,none⟩=some z)/\Q.frozen? ⟨g,k,none⟩=false/\(∃a b,(Q.setCell ⟨g,k,none⟩ u).cell? ⟨w.heap.size,k*2,none⟩=some (.bool a)/\(Q.setCell ⟨g,k,none⟩ u).cell? ⟨w.heap.size,k*2+1,none⟩=some (.int .i64 b))/\(Q.setCell ⟨g,k,none⟩ u).frozen? ⟨w.heap.size,k*2,none⟩=false/\(Q.setCell ⟨g,k,none⟩ u).frozen? ⟨w.heap.size,k*2+1,none⟩=false /\
     ∃W,(((Q.setCell ⟨g,k,none⟩ u).setCell ⟨w.heap.size,k*2,none⟩ (.bool d)).setCell ⟨w.heap.size,k*2+1,none⟩ (.int .i64 c))=W/\Mu W B W.heap.size (.slice (some ⟨g,0,none⟩) xss.length cap) (Id.ys xss (k+1))/\W.ownsRow w.heap.size 83 2 (.slice (some ⟨w.heap.size,0,none⟩) xss.length xss.length) xss.length (Id.rc (Id.rs xss (k+1)))/\Below B w W/\w.heap.size<W.heap.size):=by
    intro Q u d c Y r b1 hu;have r2:=x5x P b1;have rr:=x5x Z b1
    have o:w.heap.size≠g:=by
     rintro rfl;rcases P.2 with⟨h',_⟩|⟨g',aA,aB,h',_,aw,_⟩
     ·cases h'
     ·rcases Z.2 with⟨D,_⟩|⟨g2,y,S,D,_,q,_⟩
      ·cases D
      ·simp only[Value.slice.injEq,Option.some.injEq,Addr.mk.injEq]at h' D;obtain⟨⟨rfl,_⟩,_⟩:=h';obtain⟨⟨rfl,_⟩,_⟩:=D;rw[aw]at q;simp at q
    have G:=z9n rr (fun e=>o e.symm) k u;have m:=Id.z6z (Id.rs xss k) (k:=k) (by rw[Id.z9p xss hk];exact H)
    have gB:B<=g:=by
     have:=(P.lt g rfl).1;omega
    have J:Below B w (((Q.setCell ⟨g,k,none⟩ u).setCell ⟨w.heap.size,k*2,none⟩ (.bool d)).setCell ⟨w.heap.size,k*2+1,none⟩ (.int .i64 c)) :=
     (((N.trans (b1.mono (by have:=N.size;exact f6J))).setCell (p:=⟨g,k,none⟩) gB u).setCell (p:=⟨w.heap.size,k*2,none⟩) l _).setCell (p:=⟨w.heap.size,k*2+1,none⟩) l _
    have A:=ab.below b1
    have aj:Mu (Q.setCell ⟨g,k,none⟩ u) B (Q.setCell ⟨g,k,none⟩ u).heap.size (.slice (some ⟨g,0,none⟩) xss.length cap) ((Id.ys xss k).set k Y):=by
     have:=Mu.put19 (w:=Q) (B:=B) (g:=g) (cap:=cap) (xss:=Id.ys xss k) (us:=us) (by rw[s];exact L) (by rw[s];exact r2) (fun i hi=>(t i f6J).below b1) (fun i j b ay hj=>a5 i j b ay f6J) (k:=k) f6J (u:=u) (ys:=Y)
      (by
       rcases hu with⟨rfl,rfl⟩|hu
       ·exact A
       ·exact hu.lower (by have:=N.size;exact f6J))
      (fun j hj aF b hb=>by
       rcases hu with⟨rfl,rfl⟩|hu
       ·rcases Nat.lt_or_ge j k with h|h
        ·intro D;exact a5 j k b h H D (by rw[v];exact hb)
        ·exact a5 k j b f6J f6J (by rw[v];exact hb)
       ·intro D;have:=(hu.row.lt b hb).1;have:=M j f6J b D
        omega)
     rw[s]at this;exact this
    rw[Id.z7b xss H r]at aj;have rz:=(G.stored (k*2) (.bool d)).1
    have C:∃au cu,u=.slice au Y.length cu:=by
     rcases hu with⟨rfl,rfl⟩|hu
     ·obtain⟨R,cp,h,_⟩:=A.sk.shape;exact⟨R,cp,h⟩
     ·obtain⟨R,cp,h,_⟩:=hu.sk.shape;exact⟨R,cp,h⟩
    refine⟨C,⟨_,(r2.cellAt k f6J).trans (p0G:us[k]?=some (us.getD k undef))⟩,r2.frozenAt k,⟨_,_,(G.cellAt (k*2) f6J).trans m.1,(G.cellAt (k*2+1) f6J).trans m.2⟩,G.frozenAt _,G.frozenAt _,_,rfl,?_,?_,J,?_⟩
    ·have:=Mu.put2_19 (Mu.put2_19 aj G e8N e8N (k*2) (.bool d)) rz e8N e8N (k*2+1) (.int .i64 c);exact W2O
    ·have:=(rz.stored (k*2+1) (.int .i64 c)).1;rwa [Id.z8X,Id.z6J xss H r]at this
    ·have:=b1.size;simp;omega
   clear L P t M a5 Z N ab s v;generalize xss.getD k []=X at *;go_wp2_with fail;refine(V K).mono ?_;rintro e Q ⟨u,d,c,Y,r,rfl,b1,hu⟩;obtain⟨⟨au,cu,rfl⟩,⟨z,c0⟩,f0,⟨a,b,c1,c2⟩,f1,f2,W,hW,H1⟩:=V T Q u d c Y r b1 hu;have HH:=O H1;clear K T r b1 hu H1;go_wp2
   go_roundw
   case rel=>exact⟨k+1,g2A,f6J,(V HH).1,(V HH).2.1,(V HH).2.2.1,(V HH).2.2.2⟩
   case measure=>exact g7V
  ·obtain rfl:k=xss.length:=f6J;have H1:=O ae;have H2:=O Z;have H3:=O N;clear ae Z N;go_wp2;go_ret;exact⟨_,rfl,V H1,V H2,V H3⟩
structure IdC(p:Nat)(fl:Int)(mp nc:List Int->List Int)(hr:List Int->Bool)(ck:List Int->Bool->Bool->Nat)(w0:World):Prop where
 map:∀W xv X,Below w0.heap.size w0 W->Sk .i32 W xv X->X.length<=16384->Calls prog 14 #[.pointer (some ⟨p,0,none⟩),xv,.int .i64 fl] W (y3l W (mp X))
 nfc:∀W xv X,Below w0.heap.size w0 W->Sk .i32 W xv X->X.length<=65536->Calls prog 15 #[.pointer (some ⟨p,0,none⟩),xv] W (fun e w'=>∃v,e=.returned (.tuple #[v,.int .i64 0])/\Ok .i32 21 w' W.heap.size v (nc X)/\Below W.heap.size W w')
 len:∀X,X.length<=65536->(nc X).length<=2097152
 dom:∀W lv Xs,Below w0.heap.size w0 W->x5z W lv Xs->Calls prog 37 #[.pointer (some ⟨p,0,none⟩),lv] W (x0c W (Xs.any hr))
 chk:∀W xv X rtl dec,Below w0.heap.size w0 W->Sk .i32 W xv X->X.length<=65536->Calls prog 68 #[.pointer (some ⟨p,0,none⟩),xv,.int .i64 fl,.bool rtl,.bool dec] W (IntB W ((ck X rtl dec:Nat):Int))
 lt:∀X rtl dec,ck X rtl dec<65536
 ms:∀X,(∀c∈X,Utf.okc c)->∀c∈mp X,Utf.okc c
 ns:∀X,(∀c∈X,Utf.okc c)->∀c∈nc X,Utf.okc c
theorem IdC.on{p fl mp nc hr}{ck w W}(h:IdC p fl mp nc hr ck w)(Y:Bw w W):IdC p fl mp nc hr ck W :=
 ⟨fun A u X t=>h.map A u X (x0b Y t),fun A u X t=>h.nfc A u X (x0b Y t),h.len,fun A H E t=>h.dom A H E (x0b Y t),fun A u X r d t=>h.chk A u X r d (x0b Y t),h.lt,h.ms,h.ns⟩
structure EngAt(w:World)(q:Nat)(fl:Int)(p:Nat):Prop where
 f:w.cell? ⟨q,0,none⟩=some (.int .i64 fl)
 d:w.cell? ⟨q,1,none⟩=some (.pointer (some ⟨p,0,none⟩))
theorem EngAt.on{w W q fl p}(h:EngAt w q fl p)(Y:Bw w W):EngAt W q fl p :=
 ⟨by rw[Y.cell (x0a h.f)];exact h.f,by rw[Y.cell (x0a h.d)];exact h.d⟩
theorem y2l fl w:Calls prog 11 #[.agg #[.int .i64 fl]] w (fun e w'=>e=.returned (.int .i64 fl)/\Bw w w'):=by
 go_enter func11,ntmps11;exact p9O
theorem z3U{W}{f:Nat}{A zs}(h:Calls prog f A W (y3l W zs)):Calls prog f A W (fun e w'=>∃v c,e=.returned (.tuple #[v,.int .i64 c])/\Bw W w'/\((c=0/\zs.length<=65536/\Ok .i32 21 w' W.heap.size v zs)\/(c=2/\65536<zs.length))) :=
 h.mono fun e w' ⟨hb,h⟩=>by
  rcases h with⟨Z,v,D,R⟩|⟨Z,D⟩
  ·exact⟨v,0,D,hb,.inl ⟨rfl,Z,R⟩⟩
  ·exact⟨_,2,D,hb,.inr ⟨rfl,Z⟩⟩
namespace Id
def cut(mp nc:List Int->List Int)(zs:List Int):List (List Int)×Nat :=
 if 16384<zs.length then([],2)else if(Utf.dec 0 zs).2.2≠0 then([],1)else if 65536<(mp (Utf.dec 0 zs).1).length then([],2)else(Spl.split (nc (mp (Utf.dec 0 zs).1)),0)
theorem z1H{mp nc zs}(h:16384<zs.length):cut mp nc zs=([],2):=if_pos h
theorem z5b{mp nc zs}(h:¬16384<zs.length)(D:(Utf.dec 0 zs).2.2≠0):cut mp nc zs=([],1):=by unfold cut;rw[if_neg h,if_pos D]
theorem z5c{mp nc zs}(h:¬16384<zs.length)(D:(Utf.dec 0 zs).2.2=0)(R:65536<(mp (Utf.dec 0 zs).1).length):cut mp nc zs=([],2):=by unfold cut;rw[if_neg h,if_neg n2N,if_pos R]
theorem y3A{mp nc zs}(h:¬16384<zs.length)(D:(Utf.dec 0 zs).2.2=0)(R:¬65536<(mp (Utf.dec 0 zs).1).length):cut mp nc zs=(Spl.split (nc (mp (Utf.dec 0 zs).1)),0):=by unfold cut;rw[if_neg h,if_neg n2N,if_neg R]
end Id
theorem Mu.lower19{w B B' U v xss}(h:Mu w B U v xss)(l:B'<=B):Mu w B' U v xss:=by
 obtain⟨z,L,P,t,A,Q⟩:=h;refine⟨z,L,⟨P.1,?_⟩,fun i hi=>(t i hi).lower l,A,Q⟩;rcases P.2 with h|⟨g,M,T,Z,D,R⟩
 ·exact .inl h
 ·exact .inr ⟨g,M,T,Z,Nat.le_trans l D,R⟩
def z7m(w:World)(r:List (List Int)×Nat)(e:Ending)(w':World):Prop :=
 Below w.heap.size w w'/\((∃c:Nat,r=([],c)/\(c=1\/c=2)/\e=.returned (.tuple #[.slice none 0 0,.int .i64 (c:Int)]))\/∃v xss,r=(xss,0)/\e=.returned (.tuple #[v,.int .i64 0])/\Mu w' w.heap.size w'.heap.size v xss)
theorem cut19{p q fl mp nc hr}{ck w}(y:IdC p fl mp nc hr ck w)(hE:EngAt w q fl p) s:Calls prog 35 #[.pointer (some ⟨q,0,none⟩),.string s] w (z7m w (Id.cut mp nc (nums s))):=by
 have c:=nums_length s;by_cases P:16384<s.size
 ·have HE:=O (Id.z1H (mp:=mp) (nc:=nc) (zs:=nums s) f6J);have hL:(16384:Int)<s.size:=f6J;clear y hE c;generalize Id.cut mp nc (nums s)=r at *;go_enter func35,ntmps35;go_wp2;go_ret2;exact⟨b0r,.inl ⟨2,V HE,.inr rfl,rfl⟩⟩
 ·have hL:¬((16384:Int)<s.size):=f6J;have g:=O (decC s w f6J);have R1:=fun h=>O (Id.z5b (mp:=mp) (nc:=nc) (zs:=nums s) f6J h);have Z:=fun h h'=>O (Id.z5c (mp:=mp) (nc:=nc) (zs:=nums s) f6J h h');have L:=fun h h'=>O (Id.y3A (mp:=mp) (nc:=nc) (zs:=nums s) f6J h h')
  have z:(Utf.dec 0 (nums s)).1.length<=16384:=by
   rcases Utf.dec_shape (nums s).length 0 (nums s) (l0r _)with⟨_,_,h⟩|⟨q,h,_⟩
   ·omega
   ·rw[h];simp
  have C:Hid (∀W u,Bw w W->Sk .i32 W u (Utf.dec 0 (nums s)).1->_):=fun W u t hx=>z3U (y.map W u _ t hx z);have KN:=O y.nfc;have i:=O y.len;have H:=O fun W (t:Bw w W)=>(hE.on t).f;have N:=O fun W (t:Bw w W)=>(hE.on t).d;have o:=O (y2l fl);clear y hE z P c;generalize Id.cut mp nc (nums s)=r,Utf.dec 0 (nums s)=dd at *;obtain⟨xs,d2,d3⟩:=dd;go_enter func35,ntmps35;go_wp2_with fail;refine(V g).mono ?_;rintro e Q ⟨v,rfl,ho,b1⟩;by_cases hz:d3=0
  ·subst hz;replace Z:=Z rfl;replace L:=L rfl;have U:=O b1;have I:Bw Q Q:=b0r;have Y:=I.drew;have H:=O fun W (t:Bw Q W)=>V H W (x0b b1 t);have N:=O fun W (t:Bw Q W)=>V N W (x0b b1 t);have G:=O (fun W (t:Bw Q W)=>V C W v (x0b b1 t) (ho.sk.below t));obtain⟨ao,M,rfl,_,_⟩:=ho.sk.shape;clear g C ho R1 b1;go_wp2_with fail;go_region_held3(fun l=>l.cell? ⟨q,0,none⟩=some (.int .i64 fl)/\l.cell? ⟨q,1,none⟩=some (.pointer (some ⟨p,0,none⟩))/\Bw Q l) (first| exact⟨V H _ W8W,V N _ W8W,W8W⟩|(have D:=x0b Y W8W;exact⟨V H _ D,V N _ D,D⟩) | go_keep) (first| (go_at_call 11;refine(V o _).mono ?_;rintro e w2 ⟨rfl,m⟩;have F:=x0b (W8W:Bw Q _) m)|(go_at_call 14;refine(V G _ W8W).mono ?_;rintro e x ⟨vm,cm,rfl,b,A⟩;have ab:=x0b (W8W:Bw Q _) b));rcases A with⟨rfl,n,R⟩|⟨rfl,n⟩
   ·have a:=L f6J;have T:=x0b (V U) ab;have k:=O (V KN x vm _ T R.sk n);have c:=V i _ n;have j:=V N x ab;obtain⟨ag,ae,rfl,_,_⟩:=R.sk.shape;clear G o KN i H N Z L Y I F m R n b ab U;generalize nc (mp xs)=nn at *;go_wp2_with fail;refine(V k).mono ?_;rintro e w4 ⟨v4,rfl,S,X⟩;have K5:=O (z3j v4 nn w4 S.sk f6J);obtain⟨J,af,rfl,_,_⟩:=S.sk.shape;have B:=x0b T X;clear k j S X T;go_wp2_with fail;refine(V K5).mono ?_;rintro e w5 ⟨v5,rfl,E,K⟩;have HM:=O (E.lower19 B.size);have HB:=O (x0b B K);clear K5 E K B;go_wp2;go_ret2;exact⟨V HB,.inr ⟨_,_,V a,rfl,V HM⟩⟩
   ·have a:=Z n;have HB:=O (x0b (V U) ab);clear G o KN i H N Z L Y I F m n b ab U;go_wp2;go_ret2;exact⟨V HB,.inl ⟨2,V a,.inr rfl,rfl⟩⟩
  ·have a:=R1 hz;have ai:(d3 != 0)=true:=(by simpa using hz);have HB:=O b1;clear g C KN i H N o ho R1 Z L hz b1;go_wp2;go_ret2;exact⟨V HB,.inl ⟨1,V a,.inl rfl,rfl⟩⟩
namespace Id
def rdc(x:List Int):Nat:=(rd x).2.2.toNat
theorem rd_c x:(rd x).2.2=((rdc x:Nat):Int)/\rdc x<65536:=by
 unfold rdc rd;split
 ·exact⟨rfl,M7K⟩
 ·split
  ·exact⟨rfl,M7K⟩
  ·split
   ·exact⟨rfl,M7K⟩
   ·exact⟨rfl,M7K⟩
def wr(ck:List Int->Bool->Bool->Nat)(X:List Int)(c:Nat)(rtl dec:Bool):Nat:=if c=0 then ck X rtl dec else c
def wrong(ck:List Int->Bool->Bool->Nat)(rtl:Bool)(x:List Int):Nat:=wr ck (rd x).1 (rdc x) rtl (rd x).2.1
def acc(ck:List Int->Bool->Bool->Nat)(rtl:Bool)(xss:List (List Int)):Nat:=(xss.map (wrong ck rtl)).foldl (·|||·) 0
theorem y4y{ck}(h:∀X r d,ck X r d<65536) rtl x:wrong ck rtl x<65536:=by
 unfold wrong wr;split
 ·exact h _ _ _
 ·exact(rd_c x).2
theorem z1f ck rtl xss x:acc ck rtl (xss++[x])=acc ck rtl xss|||wrong ck rtl x:=by simp[acc]
theorem x6j{ck}(h:∀X r d,ck X r d<65536) rtl xss:acc ck rtl xss<65536:=by
 suffices ∀(l:List Nat) (a:Nat),a<2^16->(∀z∈l,z<2^16)->l.foldl (·|||·) a<2^16 from this _ 0 e8M (fun z o=>by obtain⟨x,_,rfl⟩:=List.mem_map.1 o;exact y4y h rtl x)
 intro l
 induction l with
 | nil=>intro a g _;exact g
 | cons z l ih=>intro a g S;exact ih _ (Nat.or_lt_two_pow g (S z M7L)) (fun y U=>S y M1X)
theorem z1e{ck rtl}{xss:List (List Int)}{k}(G:k<xss.length):acc ck rtl (xss.take (k+1))=acc ck rtl (xss.take k)|||wrong ck rtl (xss.getD k []):=by
 rw[List.take_succ_eq_append_getElem G,z1f];exact w7Y
theorem or19{a b:Nat}(g:a<65536)(Y:b<65536):bits .or .i64 (a:Int) (b:Int)=((a|||b:Nat):Int):=by
 have A:a|||b<2^16:=Nat.or_lt_two_pow g Y;exact V8W
def read(xss:List (List Int)):List (List Int):=xss.map fun x=>(rd x).1
theorem z9W xss:ys xss xss.length=read xss:=by simp[ys,read]
theorem z9o xss:rs xss xss.length=xss.map fun x=>(rd x).2:=by simp[rs]
theorem y9Q f:∀(zs:List Int) (s:Pu.St),(Pu.x4Y f zs s).1.length<=s.xs.length+f:=by
 induction f with
 | zero=>intro zs s;simp[Pu.x4Y]
 | succ f ih =>
  intro zs s;rw[Pu.x4Y];split
  ·simp
  ·split
   ·simp
   ·split
    ·simp
    ·split
     ·simp
     ·refine Nat.le_trans (ih _ _) ?_;have:∀(l:List Int) (p:Nat) (c:Int),(Pu.ins l p c).length=l.length+1:=fun l p c=>(by simp[Pu.ins];exact f6J);simp only[Pu.step,this];omega
theorem z9a x:(rd x).1.length<=8*x.length:=by
 have Z:(pn x).1.length<=8*x.length:=by
  unfold pn Pu.decode;have S:(txt (x.drop 4)).length<=4*(x.drop 4).length:=Utf.y2c 0 _;rw[List.length_drop]at S;split
  ·simp
  ·split
   ·simp
   ·refine Nat.le_trans (y9Q _ _ _) ?_;have:((txt (x.drop 4)).take (Pu.x4Q (txt (x.drop 4)) 0 0)).length<=(txt (x.drop 4)).length:=P8P;simp only[Pu.begin];omega
 unfold rd;split
 ·simp;omega
 ·split
  ·simp;omega
  ·split
   ·simp;omega
   ·exact Z
theorem x8s xss:Spl.total (read xss)<=8*Spl.total xss:=by
 induction xss with
 | nil=>simp[read,Spl.total]
 | cons x l ih =>
  have:=z9a x;simp only[read,Spl.total,List.map_cons,List.sum_cons]at ih ⊢;omega
def proc(mp nc:List Int->List Int)(hr:List Int->Bool)(ck:List Int->Bool->Bool->Nat)(zs:List Int):List (List Int)×Nat :=
 if(cut mp nc zs).2≠0 then([],(cut mp nc zs).2)else if 16384<cnt (Utf.encA 0 (Spl.join (read (cut mp nc zs).1)))then([],2)else(read (cut mp nc zs).1,acc ck ((read (cut mp nc zs).1).any hr) (cut mp nc zs).1)
theorem y7D{mp nc}(S:∀X:List Int,X.length<=65536->(nc X).length<=2097152){zs xss}(h:cut mp nc zs=(xss,0)):0<xss.length/\xss.length<=2097153/\Spl.total xss<=2097152:=by
 unfold cut at h;split at h
 ·simp at h
 ·split at h
  ·simp at h
  ·split at h
   ·simp at h
   ·obtain rfl:=(Prod.mk.inj h).1
    rename_i h3
    have Z:=S _ (Nat.le_of_not_lt h3);have D:=Spl.y6s [] (nc (mp (Utf.dec 0 zs).1));have H:=Spl.y3e [] (nc (mp (Utf.dec 0 zs).1));have p:=Spl.z0t [] (nc (mp (Utf.dec 0 zs).1));unfold Spl.split;exact⟨List.length_pos_iff.2 p,f6J,by simp at H;exact f6J⟩
end Id
theorem Mu.rws17{w B U v xss}(h:Mu w B U v xss)(S:xss.length<=1000000000):x5z w v xss:=by
 obtain⟨z,L,P,A,_,_⟩:=h;refine⟨S,?_⟩;rcases P.2 with⟨Z,D⟩|⟨g,M,T,rfl,C,a,E,t,q,s⟩
 ·exact .inl ⟨D,none,0,by rw[Z],f6J⟩
 ·refine .inr ⟨g,0,M,rfl,E,v9x,fun i hi=>⟨z.getD i undef,?_,(A i hi).sk⟩⟩;rw[Nat.zero_add,P.cellAt i f6J];simp[List.getD,(f6J:i<z.length)]
theorem z6Z{p q fl mp nc hr}{ck w}(y:IdC p fl mp nc hr ck w)(Z:EngAt w q fl p){xv X}(J:Sk .i32 w xv X)(S:X.length<=65536)(c:Nat) d rtl :
  Calls prog 38 #[.pointer (some ⟨q,0,none⟩),xv,.agg #[.bool d,.int .i64 (c:Int)],.bool rtl] w (IntB w ((Id.wr ck X c rtl d:Nat):Int)):=by
 by_cases C:c=0
 ·subst C;have E:Id.wr ck X 0 rtl d=ck X rtl d:=if_pos rfl;rw[E];obtain⟨Q,F⟩:∃Q,w.alloc (.cells #[.bool d,.int .i64 0] 83)=Q:=⟨_,rfl⟩;have b1:Bw w Q:=(by rw[<- F];exact t9C);have B:Od.Blk Q w.heap.size 83 [.bool d,.int .i64 0]:=(by rw[<- F];exact Od.Blk.new w _ _ _ rfl);have I:Bw Q Q:=b0r;have Y:=I.drew;have H:=O fun W (t:Bw Q W)=>(Z.on (x0b b1 t)).f;have N:=O fun W (t:Bw Q W)=>(Z.on (x0b b1 t)).d;have R:=O fun W (t:Bw Q W)=>(B.below t B.lt).cell (i:=0) rfl;have j:=B.cell (i:=1) rfl;have K:=O fun W (t:Bw Q W)=>y.chk W xv X rtl d (x0b b1 t) (J.below (x0b b1 t)) S;have o:=O (y2l fl);have U:=O b1;obtain⟨T,M,rfl,_,_⟩:=J.shape;clear y Z J E b1 B S;generalize ck X rtl d=z at *;go_enter func38,ntmps38;go_wp2_with fail;go_region_held3(fun l=>l.cell? ⟨q,0,none⟩=some (.int .i64 fl)/\l.cell? ⟨q,1,none⟩=some (.pointer (some ⟨p,0,none⟩))/\l.cell? ⟨w.heap.size,0,none⟩=some (.bool d)/\Bw Q l) (first| exact⟨V H _ W8V,V N _ W8V,V R _ W8V,W8V⟩|(have D:=x0b Y W8V;exact⟨V H _ D,V N _ D,V R _ D,D⟩) | go_keep) (first| (go_at_call 11;refine(V o _).mono ?_;rintro e a ⟨rfl,m⟩;have L:=x0b (W8V:Bw Q _) m)|(go_at_call 68;refine(V K _ W8V).mono ?_;rintro e x ⟨rfl,b⟩;have s:=x0b (W8V:Bw Q _) b));have P:=O (x0b (V U) s);clear K H N R o L s m b Y I U;go_wp2;go_ret;exact⟨rfl,V P⟩
 ·have E:Id.wr ck X c rtl d=c:=if_neg C;rw[E];have G:(((c:Nat):Int) != 0)=true:=(by simpa using C);obtain⟨T,M,rfl,_,_⟩:=J.shape;clear y Z J E S C;generalize((c:Nat):Int)=z at *;go_enter func38,ntmps38;go_wp2;go_ret;exact⟨rfl,(b0r).alloc (l0r _) _⟩
namespace Id
def Snd(x:List Int):Prop:=∀c∈x,Utf.okc c
theorem y6q{x}(h:(Utf.encA 0 x).2.2=0):Snd x:=by
 rcases fb_enc 0 x with⟨_,_,Z⟩|⟨q,_,Z,_⟩
 ·exact Z
 ·rw[Z]at h;simp at h
theorem z5l i{x}(h:Snd x):(Utf.encA i x).2.2=0/\x.length<=(Utf.encA i x).1.length:=by
 induction x generalizing i with
 | nil=>exact⟨rfl,M7M⟩
 | cons c r ih =>
  have Z:=ih (i+1) (fun z o=>h z m6h);have D:=Utf.x4j c;rw[Utf.encA,if_pos (h c M7M),Utf.glue,if_pos Z.1];exact⟨rfl,P8P⟩
theorem z4X{x}(h:Snd x):(x.length:Int)<=cnt (Utf.encA 0 x):=by
 have:=z5l 0 h;unfold cnt;rw[if_pos this.1];omega
theorem y7J{zs}(Y:Utf.Byt zs)(h:(Utf.dec 0 zs).2.2=0):Snd (Utf.dec 0 zs).1 :=
 y6q (by rw[Utf.z5k zs.length 0 0 zs (l0r _) Y h])
theorem z0u{x}(h:Snd x){y}(hy:y∈Spl.split x):Snd y:=fun c I=>by
 rcases Spl.splitA_mem [] x y hy c I with h1|h1
 ·cases h1
 ·exact h c h1
theorem ins_mem{l p c z}(h:z∈Pu.ins l p c):z∈l\/z=c:=by
 unfold Pu.ins at h;rcases List.mem_append.1 h with h|h
 ·exact .inl (List.mem_of_mem_take h)
 ·rcases List.mem_cons.1 h with h|h
  ·exact .inr h
  ·exact .inl (List.mem_of_mem_drop h)
theorem y9R f:∀(zs:List Int) (s:Pu.St),Snd s.xs->Snd (Pu.x4Y f zs s).1:=by
 induction f with
 | zero=>intro zs s h;exact h
 | succ f ih =>
  intro zs s h;rw[Pu.x4Y];split
  ·exact h
  ·split
   ·exact W3W
   ·split
    ·exact W3W
    ·split
     ·exact W3W
     ·rename_i h4
      refine ih _ _ fun c I=>?_;rcases ins_mem I with h1|h1
      ·exact h c h1
      ·subst h1;exact Decidable.of_not_not h4
theorem y9v{z}(A:0<=z)(Z:z<128):Utf.okc z:=M1d
theorem z9b{x}(h:Snd x):Snd (rd x).1:=by
 unfold rd;split
 ·exact h
 ·split
  ·exact h
  ·split
   ·exact h
   ·show Snd (Pu.decode (txt (x.drop 4))).1;unfold Pu.decode;split
    ·exact W3W
    ·split
     ·exact W3W
     ·rename_i hb
      refine y9R _ _ _ fun c I=>?_;have z:c∈txt (x.drop 4):=List.mem_of_mem_take I;have A:Utf.Byt (txt (x.drop 4)):=Utf.y2b 0 _;have n:Pu.basicB (txt (x.drop 4))=true:=(by simpa using hb);unfold Pu.basicB at n;rw[List.all_eq_true]at n;exact y9v (A c z).1 (by simpa using n c z)
theorem y3U:∀{l:List (List Int)},(∀y∈l,Snd y)->Snd (Spl.join l)
 | [],_=>fun c hc=>by simp[Spl.join]at hc
 | [a],h=>by simpa[Spl.join]using h a M7L
 | a::b::l,h=>by
  rw[Spl.join_cons a M7L];intro c hc;rcases List.mem_append.1 hc with hc|hc
  ·exact h a M7L c hc
  ·rcases List.mem_cons.1 hc with hc|hc
   ·subst hc;exact y9v e8M e8M
   ·exact y3U (l:=b::l) (fun y hy=>h y (by simp at hy ⊢;right;exact hy)) c hc
theorem y4m:∀(l:List (List Int)) (k:Nat),(l.getD k []).length<=(Spl.join l).length
 | [],k=>M7K
 | [a],k=>by cases k<;>simp[Spl.join]
 | a::b::l,k=>by
  rw[Spl.join_cons a M7K,List.length_append,List.length_cons]
  cases k with
  | zero=>simp
  | succ k=>have:=y4m (b::l) k;simp only[List.getD_cons_succ];omega
theorem y7C{mp nc}(Z:∀X,Snd X->Snd (mp X))(D:∀X,Snd X->Snd (nc X)){zs}(Y:Utf.Byt zs){xss}(h:cut mp nc zs=(xss,0)):∀x∈xss,Snd x:=by
 unfold cut at h;split at h
 ·simp at h
 ·split at h
  ·simp at h
  ·split at h
   ·simp at h
   ·obtain rfl:=(Prod.mk.inj h).1
    rename_i h3 h4
    exact fun x J=>z0u (D _ (Z _ (y7J Y (by simpa using h3)))) J
theorem y4l{xss}(h:∀x∈xss,Snd x):∀y∈read xss,Snd y:=fun y hy=>by
 obtain⟨x,J,rfl⟩:=List.mem_map.1 hy;exact z9b (h x J)
end Id
namespace Id
theorem y9K{mp nc hr ck zs}{c}(h:cut mp nc zs=([],c))(I:c≠0):proc mp nc hr ck zs=([],c):=by unfold proc;rw[h,if_pos I]
theorem y4j{mp nc hr ck zs}{xss}(h:cut mp nc zs=(xss,0))(Y:16384<cnt (Utf.encA 0 (Spl.join (read xss)))):proc mp nc hr ck zs=([],2):=by unfold proc;rw[h,if_neg M7K,if_pos Y]
theorem y9L{mp nc hr ck zs}{xss}(h:cut mp nc zs=(xss,0))(Y:¬16384<cnt (Utf.encA 0 (Spl.join (read xss)))):proc mp nc hr ck zs=(read xss,acc ck ((read xss).any hr) xss):=by unfold proc;rw[h,if_neg M7K,if_neg Y]
end Id
def y1K(w:World)(r:List (List Int)×Nat)(e:Ending)(w':World):Prop :=
 Below w.heap.size w w'/\∃v,e=.returned (.tuple #[v,.int .i64 ((r.2:Nat):Int)])/\Mu w' w.heap.size w'.heap.size v r.1
theorem Mu.now19{w B U v xss}(h:Mu w B U v xss):Mu w B w.heap.size v xss:=by
 obtain⟨z,L,P,t,M,Q⟩:=h;exact⟨z,L,P,t,fun i hi b Y=>((t i hi).row.lt b Y).2,Q⟩
theorem y1c{p q fl mp nc hr}{ck w}(y:IdC p fl mp nc hr ck w)(hE:EngAt w q fl p) s:Calls prog 18 #[.pointer (some ⟨q,0,none⟩),.string s] w (y1K w (Id.proc mp nc hr ck (nums s))):=by
 have K:=O (cut19 y hE s);have R1:=fun c h h'=>O (Id.y9K (mp:=mp) (nc:=nc) (hr:=hr) (ck:=ck) (zs:=nums s) (c:=c) h h');have Z:=fun xss h h'=>O (Id.y4j (mp:=mp) (nc:=nc) (hr:=hr) (ck:=ck) (zs:=nums s) (xss:=xss) h h');have L:=fun xss h h'=>O (Id.y9L (mp:=mp) (nc:=nc) (hr:=hr) (ck:=ck) (zs:=nums s) (xss:=xss) h h');have HX:=O fun xss=>Id.y7D (mp:=mp) y.len (zs:=nums s) (xss:=xss);generalize Id.proc mp nc hr ck (nums s)=r,hCT:Id.cut mp nc (nums s)=ct at *;go_enter func18,ntmps18;go_wp2_with fail;refine(V K).mono ?_;rintro e w1 ⟨b1,⟨c,u,hc,rfl⟩|⟨v,xss,u,rfl,af⟩⟩
 ·have a:=R1 c u f6J;have aH:((c:Int) != 0)=true:=(by rcases hc with rfl|rfl<;>rfl);have HB:=O b1;clear K R1 Z L HX u hc b1 y hE hCT;exact m6f
 ·obtain⟨x0,x1,x2⟩:=V HX xss u;have P:=O (Id.z4X (Id.y3U (Id.y4l (Id.y7C y.ms y.ns (x0w s) (hCT.trans u)))));clear hCT;have aA:(Id.read xss).length=xss.length:=(by simp[Id.read]);have aD:=Id.x8s xss
  have K2:=O (y6a b1.size af x0 f6J (fun x hx=>by
   obtain⟨i,hi,rfl⟩:=List.getElem_of_mem hx;have:=Spl.z4f xss i;simp only[List.getD,List.getElem?_eq_getElem hi,Option.getD_some]at this
   omega))
  replace Z:=fun h=>Z xss u h;replace L:=fun h=>L xss u h
  obtain⟨g,M,rfl⟩:∃g M,v=.slice (some ⟨g,0,none⟩) xss.length M:=by
   obtain⟨z,a1,a2,_⟩:=af;rcases a2.2 with⟨_,h⟩|⟨g,M,aB,h,_⟩
   ·omega
   ·exact⟨g,M,h⟩
  clear K R1 HX u af;go_wp2_with fail;refine(V K2).mono ?_;rintro e w2 ⟨rv,rfl,m,U,b2⟩;rw[Id.z9W]at m;rw[Id.z9o]at U;have am:=b1.trans b2;have K3:=O (z8w _ (Id.read xss) w2 (m.rwsS f6J) f6J)
  obtain⟨g2,ab,rfl⟩:∃g2 ab,rv=.slice (some ⟨g2,0,none⟩) xss.length ab:=by
   rcases U.2 with⟨_,h⟩|⟨g,M,aB,h,_⟩
   ·omega
   ·exact⟨g,M,h⟩
  have Y:=O m;have C:=O U;have I:=Spl.x9d (Id.read xss);clear K2 b1 b2 m U;go_wp2_with fail;refine(V K3).mono ?_;rintro e w3 ⟨v3,rfl,H,b3⟩;have K4:=O (y0e v3 _ w3 H.sk f6J);have T:=x0b am b3;have l:=O ((V Y).below b3).now19;have F:=O (x5x (V C) b3);obtain⟨aG,aF,rfl,_,_⟩:=H.sk.shape;clear K3 Y C am b3 H;go_wp2_with fail;refine(V K4).mono ?_;rintro e w3 ⟨rfl,rfl⟩;clear K4;have D:=O (Id.y4m (Id.read xss));generalize hcn:cnt (Utf.encA 0 (Spl.join (Id.read xss)))=cn at *;by_cases aw:16384<cn
  ·have a:=Z aw;have HB:=O T;clear P D Z L hcn T l F y hE I;exact m6f
  ·have a:=L f6J
   have ai:Hid (∀k,((Id.read xss).getD k []).length<=65536):=fun k=>by
    have h1:=V D k;have h2:=V P;omega
   clear P D;have aq:=hE.on T;have j:=aq.d;have K5:=O (y.dom w3 _ _ T ((V l).rws17 f6J));have J:=O T;have HE:=O hE;have HC:=O y;clear Z L hcn T aq hE y I;generalize(Id.read xss).any hr=rtl at *;go_wp2_with fail;refine c0m K5 fun w4 X=>?_;have B:=x0b (V J) X;have E:=((V l).below X).now19;have az:=x5x (V F) X;have o:=O E;have A:Hid (∀k,Id.acc ck rtl (xss.take k)<65536):=fun k=>Id.x6j (V HC).lt rtl _;have ae:Hid (∀x,Id.wrong ck rtl x<65536):=fun x=>Id.y4y (V HC).lt rtl x
   have HG:Hid (∀k,k<xss.length->∀W,Bw w4 W->∃xv d c,W.cell? ⟨g,k,none⟩=some xv/\W.cell? ⟨g2,k*2,none⟩=some (.bool d)/\W.cell? ⟨g2,k*2+1,none⟩=some (.int .i64 c) /\
     Calls prog 38 #[.pointer (some ⟨q,0,none⟩),xv,.agg #[.bool d,.int .i64 c],.bool rtl] W (IntB W ((Id.wrong ck rtl (xss.getD k []):Nat):Int))):=by
    intro k G W t;obtain⟨z,a1,a2,a3,_⟩:=E.below t;rw[aA]at a1 a2 a3;have hq:=Id.z6z (xss.map fun x=>(Id.rd x).2) (k:=k) (by simpa using G);have ho:=x5x az t;have e1:(Id.read xss).getD k []=(Id.rd (xss.getD k [])).1:=(by simp[Id.read,List.getD,G]);have e2:(xss.map fun x=>(Id.rd x).2).getD k (false,0)=(Id.rd (xss.getD k [])).2:=w8b;rw[e2]at hq;have b:=a3 k G;rw[e1]at b
    have aC:(Id.rd (xss.getD k [])).1.length<=65536:=by
     have:=V ai k;rwa [e1]at this
    have:=z6Z ((V HC).on (x0b B t)) ((V HE).on (x0b B t)) b.sk aC (Id.rdc (xss.getD k [])) (Id.rd (xss.getD k [])).2.1 rtl;rw[<- (Id.rd_c (xss.getD k [])).1]at this;exact⟨_,_,_,(a2.cellAt k f6J).trans (show z[k]?=some (z.getD k undef)by simp[List.getD,(f6J:k<z.length)]),(ho.cellAt (k*2) f6J).trans hq.1,(ho.cellAt (k*2+1) f6J).trans hq.2,this⟩
   have f:Hid (∀k,k<xss.length->Id.acc ck rtl (xss.take (k+1))=Id.acc ck rtl (xss.take k)|||Id.wrong ck rtl (xss.getD k [])):=fun k G=>Id.z1e G;have Q:Hid (Id.acc ck rtl (xss.take xss.length)=Id.acc ck rtl xss):=(by rw[List.take_length];exact rfl);have ag:=O B;clear K5 X J l F HC HE j B E az aD aA ai;go_wp2;go_loopw[7,10,11,35] (fun bv _ _ iv wr=>∃k:Nat,bv=.int .i64 ((Id.acc ck rtl (xss.take k):Nat):Int)/\iv=.int .i64 k/\k<=xss.length/\Bw w4 wr) (fun _ _ _ iv _=>xss.length-(intOf iv).toNat)
   case atStart=>exact⟨0,rfl,rfl,f6J,b0r⟩
   case round =>
    obtain⟨k,rfl,rfl,G,N⟩:=hrel;by_cases ay:k<xss.length
    ·have hL:(k:Int)<xss.length:=f6J;obtain⟨xv,d,c,c0,j,c2,KW⟩:=V HG k ay wr N
     have HO:Hid (bits .or .i64 ((Id.acc ck rtl (xss.take k):Nat):Int) ((Id.wrong ck rtl (xss.getD k []):Nat):Int)=((Id.acc ck rtl (xss.take (k+1)):Nat):Int)):=by
      rw[V f k ay];exact Id.or19 (V A k) (V ae _)
     replace KW:=O KW;have S:=O N;clear HG f A ae Q N;generalize ha2:((Id.acc ck rtl (xss.take (k+1)):Nat):Int)=a2,((Id.acc ck rtl (xss.take k):Nat):Int)=a1,((Id.wrong ck rtl (xss.getD k []):Nat):Int)=a3 at *;have ho:=V HO;have aj:Hid (∀W,Bw w4 W->∃n:Nat,Value.int .i64 a2=.int .i64 ((Id.acc ck rtl (xss.take n):Nat):Int)/\Value.int .i64 ((k:Int)+1)=.int .i64 n/\n<=xss.length/\Bw w4 W):=fun W t=>⟨k+1,by rw[ha2],g2A,f6J,t⟩;clear ha2 HO;go_wp2_with fail;refine c0m KW fun w5 b5=>?_;have R:=O (x0b (V S) b5);clear KW b5 S c0 j c2;go_wp2
     go_roundw
     case rel=>exact V aj _ (V R)
     case measure=>exact g7T
    ·obtain rfl:k=xss.length:=f6J;have HB:=O (x0b (V ag) N);have HM:=O ((V o).below N).now19;have ar:=V Q;rw[ar];clear HG f A ae Q N ag o ar;go_wp2;go_ret2;obtain rfl:=V a;exact⟨V HB,_,rfl,V HM⟩
namespace Id
def ca(x:List Int):List Int×Bool:=if allb ascb x=true then(txt x,true)else if(Pu.encode x).2≠0 then([],false)else([120,110,45,45]++(Pu.encode x).1,true)
theorem z7A{x}(h:allb ascb x=true):ca x=(txt x,true):=if_pos h
theorem ca_no{x}(h:allb ascb x=false)(D:(Pu.encode x).2≠0):ca x=([],false):=by unfold ca;rw[if_neg s8h,if_pos D]
theorem z7B{x}(h:allb ascb x=false)(D:(Pu.encode x).2=0):ca x=([120,110,45,45]++(Pu.encode x).1,true):=by unfold ca;rw[if_neg s8h,if_neg n2N]
def unf(v:Bool)(n m:Nat):Bool:=v&&(decide (n=0)||decide (m<n))
end Id
theorem y0C fl f w:Calls prog 12 #[.agg #[.int .i64 fl],.int .i64 f] w (x0c w (bits .and .i64 fl f==f)):=by
 generalize hz:(bits .and .i64 fl f==f)=z;go_enter func12,ntmps12;exact p9O
theorem z6W{q p fl w}(C:EngAt w q fl p) s(m:Nat):Calls prog 92 #[.pointer (some ⟨q,0,none⟩),.string s,.int .i64 (m:Int)] w (x0c w (Id.unf (bits .and .i64 fl 32==32) s.size m)):=by
 have K:=O (y0C fl 32 w);have l:=C.f;clear C;generalize(bits .and .i64 fl 32==32)=v at *
 cases v with
 | false =>
  have H:=O (show false=Id.unf false s.size m from rfl);generalize Id.unf false s.size m=u at *;go_enter func92,ntmps92;go_wp2_with fail;refine c0m K fun Q b1=>?_;clear K;go_wp2;go_ret;exact⟨congrArg Ending.returned (congrArg Value.bool (V H)),b1⟩
 | true =>
  by_cases A:s.size=0
  ·have H:Hid (true=Id.unf true s.size m):=(by simp[Id.unf,A,Hid]);have P:(((s.size:Nat):Int)==0)=true:=(by simp[A]);clear A;exact n6b
  ·have P:(((s.size:Nat):Int)==0)=false:=N6t;by_cases Z:m<s.size
   ·have H:Hid (true=Id.unf true s.size m):=(by simp[Id.unf,Z,Hid]);have r:(m:Int)<(s.size:Int):=f6J;clear A Z;exact n6b
   ·have H:Hid (decide (m<s.size)=Id.unf true s.size m):=(by simp[Id.unf,Z,A,Hid]);have r:¬((m:Int)<(s.size:Int)):=f6J;clear A Z;exact n6b
def z7i(w:World)(r:List Int×Bool)(e:Ending)(w':World):Prop:=e=.returned (.tuple #[.string (strOfNums r.1),.bool r.2])/\Below w.heap.size w w'
theorem y7k{w xv X}(J:Sk .i32 w xv X)(S:X.length<=1000000000)(D:∀W,Bw w W->Calls prog 142 #[xv] W (WrP W (Pu.encode X)))(P:(Pu.encode X).1.length<=1000000000):Calls prog 91 #[xv] w (z7i w (Id.ca X)):=by
 have l:=O (z3D xv X w J)
 cases hb:allb ascb X with
 | true =>
  rw[hb]at l;rw[Id.z7A hb];have F:=O fun W (t:Bw w W)=>z0G (J.below t) S;obtain⟨R,M,rfl,_,_⟩:=J.shape;clear J D hb S P;generalize Id.txt X=z at *;go_enter func91,ntmps91;go_wp2_with fail;refine c0m l fun Q b1=>?_;have K:=O (V F Q b1);clear l F;go_wp2_with fail;refine c0m K fun d m=>?_;have B:=O (x0b b1 m);clear K b1 m;go_wp2;go_ret2;exact⟨rfl,V B⟩
 | false =>
  rw[hb]at l;have Y:=fun h=>O (Id.ca_no hb h);have Z:=fun h=>O (Id.z7B hb h);have E:=O D;obtain⟨R,M,rfl,_,_⟩:=J.shape;have A:=O P;clear J D hb S P;generalize Id.ca X=r,Pu.encode X=H at *;obtain⟨s,c⟩:=H;go_enter func91,ntmps91;go_wp2_with fail;refine c0m l fun Q b1=>?_;have K:=O (V E Q b1);clear l E;go_wp2_with fail;refine c0m K fun d m=>?_;have B:=O (x0b b1 m);clear K b1 m;by_cases I:c=0
  ·subst I;replace Z:=Z rfl;have C:∀W,(Op.stringOp .add (⟨#[120,110,45,45]⟩:ByteArray) (strOfNums s)).run prog W=.ok (.string ((⟨#[120,110,45,45]⟩:ByteArray)++strOfNums s)) W:=fun W=>run_string_add_sum W _ _ (by have:=V A;rw[strOfNums_size];show 4+_<=_;exact f6J)
   have T:Hid ((⟨#[120,110,45,45]⟩:ByteArray)++strOfNums s=strOfNums ([120,110,45,45]++s)):=by
    show _=_;apply ByteArray.ext;apply Array.toList_inj.1;rw[ByteArray.data_append,Array.toList_append];simp[strOfNums]
   clear Y A;go_wp2;go_ret2;obtain rfl:=V Z;exact⟨by rw[V T];rfl,V B⟩
  ·have a:=Y I;have G:(c != 0)=true:=v0B;clear Y Z I;go_wp2;go_ret2;obtain rfl:=V a;exact⟨rfl,V B⟩
namespace Id
def eb(v:Bool)(x:List Int):Nat:=if(ca x).2=false then 8192 else if unf v (ca x).1.length 63=true then 16384 else 0
def ea(v:Bool)(yss:List (List Int)):Nat:=(yss.map (eb v)).foldl (·|||·) 0
theorem z8b v x:eb v x<65536:=by
 unfold eb;split
 ·decide
 ·split
  ·decide
  ·decide
theorem y7P{v}{M:List (List Int)}{k}(G:k<M.length):ea v (M.take (k+1))=ea v (M.take k)|||eb v (M.getD k []):=by
 rw[List.take_succ_eq_append_getElem G,ea,ea,List.map_append,List.foldl_append];simp only[List.map_cons,List.map_nil,List.foldl_cons,List.foldl_nil,List.getD,List.getElem?_eq_getElem G,Option.getD_some]
theorem or_lt{l:List Nat}{a}(g:a<65536)(S:∀z∈l,z<65536):l.foldl (·|||·) a<65536:=by
 induction l generalizing a with
 | nil=>exact g
 | cons z l ih=>exact ih (Nat.or_lt_two_pow (n:=16) g (S z M7K)) (fun y U=>S y M1X)
theorem z8a v yss:ea v yss<65536:=or_lt e8M (fun z o=>by obtain⟨x,_,rfl⟩:=List.mem_map.1 o;exact z8b v x)
def tx(yss:List (List Int))(k:Nat):List Value:=(yss.take k).map (fun y=>Value.string (strOfNums (ca y).1))++List.replicate (yss.length-k) (.string ⟨#[]⟩)
theorem tx_at yss{k}(G:k<yss.length):(tx yss k)[k]?=some (.string ⟨#[]⟩):=by
 unfold tx;rw[List.getElem?_append_right P8P];simp only[List.length_map,List.length_take,Nat.min_eq_left (Nat.le_of_lt G),Nat.sub_self,List.getElem?_replicate];rw[if_pos f6J]
theorem z6V yss{k}(G:k<yss.length):(tx yss k).set k (.string (strOfNums (ca (yss.getD k [])).1))=tx yss (k+1):=by
 unfold tx;rw[List.set_append_right _ _ P8P,List.take_succ_eq_append_getElem G,List.map_append,(f6J:yss.length-k=(yss.length-(k+1))+1),List.replicate_succ];simp[Nat.min_eq_left (Nat.le_of_lt G),List.getD,G]
theorem z9N yss:tx yss yss.length=yss.map fun y=>Value.string (strOfNums (ca y).1):=by simp[tx]
def whole(yss:List (List Int)):List Int:=Spl.join (yss.map fun y=>(ca y).1)
def carry(v:Bool)(yss:List (List Int)):List Int×Nat:=(whole yss,ea v yss|||(if unf v (whole yss).length 253=true then 32768 else 0)|||(if 16384<(whole yss).length then 2 else 0))
theorem z2i L:(strOfNums (Spl.join L)).data.toList=Lib.join (L.map fun l=>(strOfNums l).data.toList) [46]:=by
 induction L with
 | nil=>rfl
 | cons a l ih =>
  cases l with
  | nil=>simp[Spl.join,Lib.join_one]
  | cons b l =>
   rw[Spl.join_cons a M7K];have e:∀x y:List Int,(strOfNums (x++y)).data.toList=(strOfNums x).data.toList++(strOfNums y).data.toList:=fun x y=>(by simp[strOfNums]);have f:∀y:List Int,(strOfNums (46::y)).data.toList=46::(strOfNums y).data.toList:=fun y=>(by simp[strOfNums]);rw[e,f,ih];simp[Lib.join,List.intercalate]
end Id
