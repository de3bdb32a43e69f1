/- Lemmas. -/
import Derived.Test.YtkfcabdmkmljjaaGreatDoorF33
import Derived.Test.YtkfcabdmkmljjaaGreatDoorF36
import Derived.Laws.OwnMore
import Derived.Test.YtkfcabdmkmljjaaGreatDoorF15
import Derived.Test.YtkfcabdmkmljjaaGreatDoorF1
import Derived.Deep.RegionHeld3
import Derived.Test.YtkfcabdmkmljjaaGreatDoorF45
import Derived.Lib.Join
set_option maxHeartbeats 2000000
set_option maxRecDepth 8000
namespace Go.Proofs.YtkfcabdmkmljjaaGreatDoor
open Go.Proofs.Tryz
open Go.RowKit
section
variable{p:Prop}
theorem p9O(h:p:=by go_wp2;go_ret;exact⟨rfl,(b0r).alloc (l0r _) _⟩):p:=h
theorem f6T(h:p:=by generalize Id.unf true s.size m=u at *;go_enter func53,ntmps53;go_wp2_with fail;refine c0m K fun Q b1=>?_;clear K;go_wp2;go_ret;exact⟨congrArg Ending.returned (congrArg Value.bool (V H)),b1⟩):p:=h
theorem W8W(h:p:=by assumption):p:=h
theorem n2N(h:p:=by rw[D];exact e8M):p:=h
theorem P2M(h:p:=by simp[List.getD,List.getElem?_set_ne (fun e=>hi e.symm)]):p:=h
theorem F7M(h:p:=by simp at hy ⊢;right;exact hy):p:=h
theorem S5N(h:p:=by go_wp2;go_ret2;obtain rfl:=V HR;exact⟨V HB,_,rfl,Mu.nil _ _ _⟩):p:=h
theorem p0I(h:p:=by simp[List.getD,(f6J:k<us.length)]):p:=h
theorem I1J(h:p:=by rw[<- T];exact Od.Blk.new w _ _ _ rfl):p:=h
end
namespace Id
def txt(x:List Int):List Int:=(Utf.encA 0 x).1
def pn(x:List Int):List Int×Int:=Pu.decode (txt (x.drop 4))
def rd(x:List Int):List Int×Bool×Int :=
 if Lb.x2o x=false then(x,false,0)else if(pn x).2≠0 then(x,false,2048)else if allb ascb (pn x).1=true then(x,false,4096)else((pn x).1,true,0)
theorem z4a{x}(h:Lb.x2o x=false):rd x=(x,false,0):=if_pos h
theorem q0E{x}(h:Lb.x2o x=true)(D:(pn x).2≠0):rd x=(x,false,2048):=by
 unfold rd;rw[if_neg s8h,if_pos D]
theorem q0D{x}(h:Lb.x2o x=true)(D:(pn x).2=0)(J:allb ascb (pn x).1=true):rd x=(x,false,4096):=by
 unfold rd;rw[if_neg s8h,if_neg n2N,if_pos J]
theorem rd_dec{x}(h:Lb.x2o x=true)(D:(pn x).2=0)(J:allb ascb (pn x).1=false):rd x=((pn x).1,true,0):=by
 unfold rd;rw[if_neg s8h,if_neg n2N,if_neg (by rw[J];exact e8M)]
theorem y8a{x}(h:Lb.x2o x=true):4<=x.length:=by
 match x,h with
 | [],h=>simp[Lb.x2o]at h
 | [a],h=>simp[Lb.x2o]at h
 | [a,b],h=>simp[Lb.x2o]at h
 | [a,b,c],h=>simp[Lb.x2o]at h
 | a::b::c::d::l,_=>simp
end Id
def y3C(w:World)(z:List Int)(e:Ending)(w':World):Prop:=e=.returned (.string (strOfNums z))/\Below w.heap.size w w'
theorem z1r{w xv X}(A:Sk .i32 w xv X)(S:X.length<=1000000000):Calls prog 29 #[xv] w (y3C w (Id.txt X)):=by
 have K:=O (encC xv X w A f6J);have D:Hid (Id.txt X=(Utf.encA 0 X).1):=rfl;obtain⟨J,M,rfl,_,_⟩:=A.shape;clear A S;generalize Utf.encA 0 X=r,Id.txt X=z at *;obtain⟨s,r2,r3⟩:=r;go_enter func29,ntmps29;go_wp2_with fail;refine c0m K fun Q b1=>?_;clear K;go_wp2;go_ret;obtain rfl:=V D;exact⟨rfl,b1⟩
theorem x1S{fn p q ty}(h:fn.results=#[.tmp q,.cell p ty]) tmps P w g v u(s:tmps.getD p undef=.pointer (some ⟨g,0,none⟩))(d:tmps.getD q undef=u)(y:(loadVar ty ⟨g,0,none⟩).run P w=.ok v w) :
  (results fn tmps).run P w=.ok (.tuple #[u,v]) w:=by
 have e:(results fn tmps).run P w=((asAddr (tmps.getD p undef)).run P w).andThen fun a w₁=>((loadVar ty a).run P w₁).andThen fun x w₂=>.ok (.tuple #[tmps.getD q undef,x]) w₂:=by
  simp only[results,h];simp[Sem.run_bind,Result.andThen]
 rw[e,s,d];simp[asAddr,Result.andThen,y]
theorem ld19{W g a b}(k:Od.Blk W g 111 [.bool a,.int .i64 b]):(loadVar 111 ⟨g,0,none⟩).run prog W=.ok (.agg #[.bool a,.int .i64 b]) W :=
 run_loadVar_mid (P:=prog) W g 0 111 [.bool a,.int .i64 b] _ (k.range 0) underlying111 (by rfl) f4x
theorem z9O ao n cap(F:4<=n)(I:n<=cap) W:(Instr.sliceAt 36 (.slice ao n cap) (some (.int .i64 4)) none none).run prog W=.ok (sliced ao 4 n cap 1) W:=by
 have Z:(4:Int)<=n:=f6J;by_cases d:cap=4
 ·subst d;obtain rfl:n=4:=f6J;go_simp
 ·go_simp
theorem z0j{K e w B}{v zs}(h:Ok K e w B v zs){g}(H:g<B) i x:Ok K e (w.setCell ⟨g,i,none⟩ x) B v zs :=
 ⟨h.1,h.2.1,h.2.2.kept (row:=some g) ⟨rfl,rfl,rfl,M7L,fun k G F=>heap_setCell_other w _ k x (fun e=>F n5N)⟩ (.inr fun e=>by have:=(h.row.lt g e).1;exact f6J)⟩
def RdB19(w:World)(xv:Value)(X:List Int)(r:List Int×Bool×Int)(e:Ending)(w':World):Prop :=
 Below w.heap.size w w'/\((∃c:Int,r=(X,false,c)/\e=.returned (.tuple #[xv,.agg #[.bool false,.int .i64 c]]))\/∃v Y,r=(Y,true,0)/\e=.returned (.tuple #[v,.agg #[.bool true,.int .i64 0]])/\Ok .i32 21 w' (w.heap.size+1) v Y)
theorem q0H{w xv X}(A:Sk .i32 w xv X)(hl:X.length<=200000000):Calls prog 69 #[xv] w (RdB19 w xv X (Id.rd X)):=by
 obtain⟨f,T⟩:∃f,w.alloc (.cells #[.bool false,.int .i64 0] 111)=f:=⟨_,rfl⟩;have b0:Bw w f:=(by rw[<- T];exact t9C);have s0:f.heap.size=w.heap.size+1:=(by rw[<- T];exact M7M);have H:=O (z4T (A.below b0))
 cases hcd:Lb.x2o X with
 | false =>
  rw[hcd]at H;have a:=O (Id.z4a hcd);clear hcd;generalize Id.rd X=r at *;obtain⟨J,M,rfl,z,aj⟩:=A.shape;clear A;go_enter func69,ntmps69;go_wp2_with fail;refine c0m H fun Q b1=>?_;have k1:Od.Blk Q w.heap.size 111 [.bool false,.int .i64 0]:=(I1J:Od.Blk f w.heap.size 111 [.bool false,.int .i64 0]).below b1 f6J;have c0:=k1.cell (i:=0) rfl;have g:=k1.cell (i:=1) rfl;have t:=k1.frozen 0;have s:=k1.frozen 1;have y:=ld19 ((k1.set 0 (.bool false)).set 1 (.int .i64 0));have R:=O (((bthen b0 b1).setCell (p:=⟨w.heap.size,0,none⟩) (l0r _) (.bool false)).setCell (p:=⟨w.heap.size,1,none⟩) (l0r _) (.int .i64 0));clear H b1 k1 b0;go_wp2;exact bodyPost_ret (x1S rfl _ _ _ w.heap.size _ _ (by rfl) (by rfl) y) rfl ⟨V R,.inl ⟨0,V a,rfl⟩⟩
 | true =>
  rw[hcd]at H;have F:=Id.y8a hcd;have n:Hid (∀W Z,Bw w W->Sk .i32 W Z (X.drop 4)->Calls prog 29 #[Z] W (y3C W (Id.txt (X.drop 4)))):=fun W Z _ hy=>z1r hy P8P;have q:(Id.txt (X.drop 4)).length<=4*(X.drop 4).length:=Utf.x9e 0 _
  have HD:Hid (∀W,Calls prog 13 #[.string (strOfNums (Id.txt (X.drop 4)))] W (x1l W.heap.size W (Id.pn X))):=fun W=>by
   have:=y5v (strOfNums (Id.txt (X.drop 4))) W (by rw[strOfNums_size];simp at q;exact f6J);rwa [y6g (show Utf.Byt (Id.txt (X.drop 4))from Utf.y8r 0 _)]at this
  have E:Hid (∀W Z Y,Sk .i32 W Z Y->Calls prog 15 #[Z] W (y4Q W (allb ascb Y))):=fun W Z Y hy=>z4O Z Y W hy;have P:=fun h=>O (Id.q0E hcd h);have R2:=fun h D=>O (Id.q0D hcd h D);have S:=fun h D=>O (Id.rd_dec hcd h D);clear q;have c:=A;obtain⟨J,M,rfl,z,aj⟩:=A.shape
  obtain⟨Z,ay,ab⟩:∃Z,(∀W,(Instr.sliceAt 36 (.slice J X.length M) (some (.int .i64 4)) none none).run prog W=.ok Z W)/\Hid (∀W,Bw w W->Sk .i32 W Z (X.drop 4)):=⟨_,z9O J X.length M F z,fun W U=>by
   have:=(c.cut (l:=4) (h:=X.length) (m:=M) F (l0r _) z (l0r _)).below U
   rwa [List.take_of_length_le M7M]at this⟩
  clear A c hcd;generalize Id.rd X=r,Id.txt (X.drop 4)=tx at *;generalize hpn:Id.pn X=pn,X.drop 4=X4 at *;obtain⟨C,pe⟩:=pn;go_enter func69,ntmps69;go_wp2_with fail;refine c0m H fun Q b1=>?_;have k1:Od.Blk Q w.heap.size 111 [.bool false,.int .i64 0]:=(I1J:Od.Blk f w.heap.size 111 [.bool false,.int .i64 0]).below b1 f6J;have K:=O (V n Q _ (bthen b0 b1) (V ab Q (bthen b0 b1)));have ae:=bthen b0 b1;have ar:=b1.size;clear H b1 b0 n ab;go_wp2_with fail;refine c0m K fun w2 b2=>?_;have k2:=k1.below b2 f6J;have L:=bthen ae b2;have aw:=b2.size;have j:=O (V HD w2);clear K k1 ae b2 HD;go_wp2_with fail;refine(V j).mono ?_;rintro e w3 (⟨v,rfl,hr,ho,G⟩ | ⟨_,N,rfl,G⟩)
  ·obtain rfl:pe=0:=congrArg Prod.snd hr;have k:=O (V E w3 v C ho.sk);have u:=k2.below G f6J;have b:=bthen L G;have d:=G.size;have HO:=O ho;clear j k2 L G E hr P;obtain⟨am,o,rfl,_,_⟩:=ho.sk.shape;clear ho
   cases hb:allb ascb C with
   | true =>
    rw[hb]at k;have a:=R2 rfl hb;clear R2 S hb HO;go_wp2_with fail;refine c0m k fun w4 I=>?_;have x:=u.below I f6J;have c0:=x.cell (i:=0) rfl;have g:=x.cell (i:=1) rfl;have t:=x.frozen 0;have s:=x.frozen 1;have y:=ld19 ((x.set 0 (.bool false)).set 1 (.int .i64 4096));have R:=O (((bthen b I).setCell (p:=⟨w.heap.size,0,none⟩) (l0r _) (.bool false)).setCell (p:=⟨w.heap.size,1,none⟩) (l0r _) (.int .i64 4096));clear k I u x b;go_wp2;exact bodyPost_ret (x1S rfl _ _ _ w.heap.size _ _ (by rfl) (by rfl) y) rfl ⟨V R,.inl ⟨4096,V a,rfl⟩⟩
   | false =>
    rw[hb]at k;have a:=S rfl hb;clear R2 S hb;go_wp2_with fail;refine c0m k fun w4 I=>?_;have x:=u.below I f6J;have c0:=x.cell (i:=0) rfl;have g:=x.cell (i:=1) rfl;have t:=x.frozen 0;have s:=x.frozen 1;have y:=ld19 ((x.set 0 (.bool true)).set 1 (.int .i64 0));have R:=O (((bthen b I).setCell (p:=⟨w.heap.size,0,none⟩) (l0r _) (.bool true)).setCell (p:=⟨w.heap.size,1,none⟩) (l0r _) (.int .i64 0));have B:=O (z0j (z0j (((V HO).below I).lower (f6J:w.heap.size+1<=w2.heap.size)) (f6J:w.heap.size<w.heap.size+1) 0 (.bool true)) (f6J:w.heap.size<w.heap.size+1) 1 (.int .i64 0));clear k I u x b HO;go_wp2;exact bodyPost_ret (x1S rfl _ _ _ w.heap.size _ _ (by rfl) (by rfl) y) rfl ⟨V R,.inr ⟨_,C,V a,rfl,V B⟩⟩
  ·have u:=k2.below G f6J;have a:=P N;have aq:(pe != 0)=true:=(by simpa using N);have c0:=u.cell (i:=0) rfl;have g:=u.cell (i:=1) rfl;have t:=u.frozen 0;have s:=u.frozen 1;have y:=ld19 ((u.set 0 (.bool false)).set 1 (.int .i64 2048));have R:=O (((bthen L G).setCell (p:=⟨w.heap.size,0,none⟩) (l0r _) (.bool false)).setCell (p:=⟨w.heap.size,1,none⟩) (l0r _) (.int .i64 2048));clear j k2 L G E P R2 S u N;go_wp2;exact bodyPost_ret (x1S rfl _ _ _ w.heap.size _ _ (by rfl) (by rfl) y) rfl ⟨V R,.inl ⟨2048,V a,rfl⟩⟩
theorem Mu.put19{w B g cap}{xss:List (List Int)}{us}(A:us.length=xss.length)(Q:w.ownsRow B 36 1 (.slice (some ⟨g,0,none⟩) xss.length cap) xss.length us)
  (F:∀i,i<xss.length->Ok .i32 21 w B (us.getD i undef) (xss.getD i [])) (X:∀i j b,i<j->j<xss.length->(us.getD i undef).ownBlock=some b->(us.getD j undef).ownBlock≠some b)
  {k} (G:k<xss.length) {u ys} (d:Ok .i32 21 w B u ys) (E:∀j,j<xss.length->j≠k->∀b,u.ownBlock=some b->(us.getD j undef).ownBlock≠some b) :
  Mu (w.setCell ⟨g,k,none⟩ u) B (w.setCell ⟨g,k,none⟩ u).heap.size (.slice (some ⟨g,0,none⟩) xss.length cap) (xss.set k ys):=by
 obtain⟨Z,H⟩:=Q.stored k u;have C:∀v l,Ok .i32 21 w B v l->Ok .i32 21 (w.setCell ⟨g,k,none⟩ u) B v l:=fun _ _ h=>⟨h.1,h.2.1,h.2.2.kept H (x3P e8N h.2.2 Q)⟩;have P:∀i,i≠k->(us.set k u).getD i undef=us.getD i undef:=fun i hi=>P2M;have z:(us.set k u).getD k undef=u:=(by simp[List.getD,List.getElem?_set_self (f6J:k<us.length)]);have N:∀i,i≠k->(xss.set k ys).getD i []=xss.getD i []:=fun i hi=>P2M;have o:(xss.set k ys).getD k []=ys:=(by simp[List.getD,List.getElem?_set_self G]);refine⟨us.set k u,f9v,E1A,fun i hi=>?_,fun i hi b Y=>?_,fun i j b I R Y=>?_⟩
 ·rw[List.length_set]at hi;by_cases J:i=k
  ·subst J;rw[z,o];exact C _ _ d
  ·rw[P i J,N i J];exact C _ _ (F i hi)
 ·rw[List.length_set]at hi;by_cases J:i=k
  ·subst J;rw[z]at Y;simpa using(d.row.lt b Y).2
  ·rw[P i J]at Y;simpa using((F i hi).row.lt b Y).2
 ·rw[List.length_set]at R;by_cases J:i=k
  ·subst J;rw[z]at Y;rw[P j f6J];exact E j R f6J b Y
  ·rw[P i J]at Y;by_cases D:j=k
   ·subst D;rw[z];exact fun t=>E i f6J J b t Y
   ·rw[P j D];exact X i j b I R Y
namespace Id
def rc(R:List (Bool×Int)):List Value:=R.flatMap fun r=>[.bool r.1,.int .i64 r.2]
theorem q0A R:(rc R).length=R.length*2:=by
 induction R with
 | nil=>rfl
 | cons r R ih=>simp only[rc,List.flatMap_cons,List.length_append,List.length_cons]at ih ⊢;rw[ih];exact f4R
theorem z7L R{k}(G:k<R.length):(rc R)[k*2]?=some (.bool (R.getD k (false,0)).1)/\(rc R)[k*2+1]?=some (.int .i64 (R.getD k (false,0)).2):=by
 induction R generalizing k with
 | nil=>simp at G
 | cons r R ih =>
  cases k with
  | zero=>simp[rc]
  | succ k =>
   have:=ih (k:=k) E9n;simpa[rc,Nat.succ_mul]using this
theorem q0C R k a b:((rc R).set (k*2) (.bool a)).set (k*2+1) (.int .i64 b)=rc (R.set k (a,b)):=by
 induction R generalizing k with
 | nil=>simp[rc]
 | cons r R ih =>
  cases k with
  | zero=>simp[rc]
  | succ k =>
   have:=ih k;simp only[rc,List.flatMap_cons,List.cons_append,List.nil_append,Nat.succ_mul,List.set_cons_succ]at this ⊢;rw[this]
theorem q0B n:(madeCells #[.bool false,.int .i64 0] (n*2)).toList=rc (List.replicate n (false,0)):=by
 refine List.ext_getElem? fun i=>?_;by_cases hi:i<n*2
 ·have d:i / 2<n:=f6J;have h:=z7L (List.replicate n (false,0)) (k:=i / 2) V6s;rcases Nat.mod_two_eq_zero_or_one i with h0 | h0
  ·rw[(f6J:i / 2*2=i)]at h;rw[h.1];simp[madeCells,hi,h0,d]
  ·rw[(f6J:i / 2*2+1=i)]at h;rw[h.2];simp[madeCells,hi,h0,d]
 ·rw[List.getElem?_eq_none (by simp[madeCells];exact f6J),List.getElem?_eq_none (by rw[q0A];exact P8P)]
end Id
theorem z6W:(prog.info? 111).map (fun i=>(i.zero,i.size,i.bytes))=some (some (.agg #[.bool false,.int .i64 0]),2,16):=f4x
theorem q0f(n:Nat) w(F:n<=3000000):∃W,(Instr.makeSlice 105 (.int .i64 (n:Int)) (.int .i64 (n:Int))).run prog w=.ok (.slice (some ⟨w.heap.size,0,none⟩) n n) W/\W.ownsRow w.heap.size 111 2 (.slice (some ⟨w.heap.size,0,none⟩) n n) n (Id.rc (List.replicate n (false,0)))/\w.grownBy W none:=by
 obtain⟨i,hi,q,Y,U⟩:=info_parts z6W;obtain⟨W,Z,D,J⟩:=run_makeSlice_full (P:=prog) w w.heap.size 105 111 i _ 2 underlying105 hi q Y .i64 .i64 n f6J R7P T7W (l0r _);exact⟨W,Z,by rw[<- Id.q0B];exact D,J⟩
theorem z7Q{w xv X}(A:Sk .i32 w xv X)(S:X.length<=200000000):Calls prog 69 #[xv] w fun e w'=>∃u d c Y,Id.rd X=(Y,d,c)/\e=.returned (.tuple #[u,.agg #[.bool d,.int .i64 c]])/\Bw w w'/\((u=xv/\Y=X)\/Ok .i32 21 w' (w.heap.size+1) u Y) :=
 (q0H A S).mono fun e w' ⟨hb,h⟩=>by
  rcases h with⟨c,Z,D⟩ | ⟨v,Y,Z,D,J⟩
  ·exact⟨_,_,_,_,Z,D,hb,.inl ⟨rfl,rfl⟩⟩
  ·exact⟨_,_,_,_,Z,D,hb,.inr J⟩
namespace Id
def ys(xss:List (List Int))(k:Nat):List (List Int):=(xss.take k).map (fun x=>(rd x).1)++xss.drop k
def rs(xss:List (List Int))(k:Nat):List (Bool×Int):=(xss.take k).map (fun x=>(rd x).2)++List.replicate (xss.length-k) (false,0)
theorem q1v xss k:(ys xss k).length=xss.length:=by simp[ys];exact f6J
theorem q0L xss{k}(G:k<=xss.length):(rs xss k).length=xss.length:=by simp[rs];exact f6J
theorem ys_at xss{k}(G:k<xss.length):(ys xss k).getD k []=xss.getD k []:=by
 simp[ys,List.getD,List.getElem?_append_right,G,Nat.min_eq_left (Nat.le_of_lt G)]
theorem z8y xss{k}(G:k<xss.length){Y d c}(h:rd (xss.getD k [])=(Y,d,c)):(ys xss k).set k Y=ys xss (k+1):=by
 have e:xss.getD k []=xss[k]:=w8a;rw[e]at h;unfold ys;rw[List.set_append_right _ _ P8P,List.take_succ_eq_append_getElem G,List.map_append,List.drop_eq_getElem_cons G];simp only[List.length_map,List.length_take,Nat.min_eq_left (Nat.le_of_lt G),Nat.sub_self,List.set_cons_zero,List.map_cons,List.map_nil,h,List.append_assoc,List.cons_append,List.nil_append]
theorem z7U xss{k}(G:k<xss.length){Y d c}(h:rd (xss.getD k [])=(Y,d,c)):(rs xss k).set k (d,c)=rs xss (k+1):=by
 have e:xss.getD k []=xss[k]:=w8a;rw[e]at h;unfold rs;rw[List.set_append_right _ _ P8P,List.take_succ_eq_append_getElem G,List.map_append,(f6J:xss.length-k=(xss.length-(k+1))+1),List.replicate_succ];simp[Nat.min_eq_left (Nat.le_of_lt G),h]
end Id
theorem x5z{w w' B n s e g cap}{xs}(h:w.ownsRow B e s (.slice (some ⟨g,0,none⟩) n cap) n xs)(Y:Bw w w'):w'.ownsRow B e s (.slice (some ⟨g,0,none⟩) n cap) n xs :=
 h.kept (row:=none) ⟨Y.os,Y.tape,Y.output,Y.size,fun k G _=>Y.block k G⟩ (.inr V3I)
theorem q0J{w:World}{B n s e g cap xs}(h:w.ownsRow B e s (.slice (some ⟨g,0,none⟩) n cap) n xs){q}(d:q≠g) i x:(w.setCell ⟨q,i,none⟩ x).ownsRow B e s (.slice (some ⟨g,0,none⟩) n cap) n xs :=
 h.kept (row:=some q) ⟨rfl,rfl,rfl,M7L,fun k G F=>heap_setCell_other w _ k x (fun e=>F n5N)⟩ (.inr (by simp[Value.ownBlock];exact f6J))
theorem Mu.put2_19{w B U v xss}(h:Mu w B U v xss){q e s n cap ys}{B2}(hr:w.ownsRow B2 e s (.slice (some ⟨q,0,none⟩) n cap) n ys)(Z:e≠36)(D:e≠21) i x:Mu (w.setCell ⟨q,i,none⟩ x) B U v xss:=by
 obtain⟨j,T,P,f,E,L⟩:=h;have H:=(hr.stored i x).2
 have C:∀{Y:TypeId} {m:Nat} {u:Value} {I:List Value} {F:Nat},e≠Y->w.ownsRow F Y 1 u m I->u.ownBlock=none\/u.ownBlock≠some q:=fun y h=>by
  rcases h.2 with⟨rfl,_⟩ | ⟨g,cap,t,rfl,_,X,_⟩
  ·exact .inl rfl
  ·refine .inr fun e=>?_;simp only[Value.ownBlock,Option.some.injEq]at e;subst e;rcases hr.2 with⟨G,_⟩ | ⟨S,A,r,G,_,l,_⟩
   ·cases G
   ·simp only[Value.slice.injEq,Option.some.injEq,Addr.mk.injEq]at G;obtain⟨⟨rfl,_⟩,_⟩:=G;rw[l]at X;simp only[Option.some.injEq,Obj.cells.injEq]at X;exact y X.2.1
 exact⟨j,T,P.kept H (C Z P),fun i hi=>⟨(f i hi).1,(f i hi).2.1,(f i hi).2.2.kept H (C D (f i hi).2.2)⟩,E,L⟩
def REB19(B:Nat)(w:World)(lv:Value)(xss:List (List Int))(e:Ending)(w':World):Prop :=
 ∃rv,e=.returned rv/\Mu w' B w'.heap.size lv (Id.ys xss xss.length)/\w'.ownsRow w.heap.size 111 2 rv xss.length (Id.rc (Id.rs xss xss.length))/\Below B w w'
theorem y6u{w B lv xss}(m:B<=w.heap.size)(hm:Mu w B w.heap.size lv xss)(h0:0<xss.length)(hn:xss.length<=3000000)(hl:∀x∈xss,x.length<=200000000):Calls prog 40 #[lv] w (REB19 B w lv xss):=by
 obtain⟨q,aF,aq,F⟩:=q0f xss.length w hn
 have ay:Mu q B q.heap.size lv xss:=by
  have I:Bw w q:=(b0r).grown F (l0r _) (fun k e=>by cases e);obtain⟨us,T,P,f,a4,L⟩:=hm.below I;exact⟨us,T,P,f,fun i hi b hb=>((f i hi).row.lt b hb).2,L⟩
 have aw:Below B w q:=((b0r).grown F (l0r _) (fun k e=>by cases e)).mono m;have aA:w.heap.size<q.heap.size:=(aq.lt _ rfl).2
 obtain⟨g,cap,rfl,aJ⟩:∃g cap,lv=.slice (some ⟨g,0,none⟩) xss.length cap/\xss.length<=cap:=by
  obtain⟨us,T,P,_⟩:=hm;rcases P.2 with⟨_,h⟩ | ⟨g,cap,aK,h,_,_,D,_⟩
  ·omega
  ·exact⟨g,cap,h,D⟩
 have ar:Hid (Mu q B q.heap.size (.slice (some ⟨g,0,none⟩) xss.length cap) (Id.ys xss 0)):=(by simpa[Id.ys,Hid]using ay);have S:Hid (q.ownsRow w.heap.size 111 2 (.slice (some ⟨w.heap.size,0,none⟩) xss.length xss.length) xss.length (Id.rc (Id.rs xss 0))):=(by simpa[Id.rs,Hid]using aq);have R:=O aw;have HL:=O hl;have M:=O aA;clear hm ay aq F aw hl aA;go_enter func40,ntmps40;go_wp2;go_loopw[4,5,11] (fun _ _ iv wr=>∃k:Nat,iv=.int .i64 k/\k<=xss.length/\Mu wr B wr.heap.size (.slice (some ⟨g,0,none⟩) xss.length cap) (Id.ys xss k)/\wr.ownsRow w.heap.size 111 2 (.slice (some ⟨w.heap.size,0,none⟩) xss.length xss.length) xss.length (Id.rc (Id.rs xss k))/\Below B w wr/\w.heap.size<wr.heap.size) (fun _ _ iv _=>xss.length-(intOf iv).toNat)
 case atStart=>exact⟨0,rfl,f6J,V ar,V S,V R,V M⟩
 case round =>
  obtain⟨k,rfl,hk,am,H,C,aM⟩:=hrel;clear ar S R M aF;by_cases E:k<xss.length
  ·have hL:(k:Int)<xss.length:=f6J;obtain⟨us,T,P,f,a4,L⟩:=am;have ab:=Id.q1v xss k;rw[ab]at T P f a4 L;have n:=(P.cellAt k f6J).trans (p0I:us[k]?=some (us.getD k undef));have o:=f k E;rw[Id.ys_at xss E]at o;have K:=O (z7Q o.sk (V HL _ N0e));obtain⟨v,ae⟩:∃v,us.getD k undef=v:=⟨_,rfl⟩;rw[ae]at n o K
   have Z:Hid (∀Q u d c Y,Id.rd (xss.getD k [])=(Y,d,c)->Bw wr Q->((u=v/\Y=xss.getD k [])\/Ok .i32 21 Q (wr.heap.size+1) u Y) ->
     (∃G J,u=.slice G Y.length J)/\(∃z,Q.cell? ⟨g,k,none⟩=some z)/\Q.frozen? ⟨g,k,none⟩=false/\(∃a b,(Q.setCell ⟨g,k,none⟩ u).cell? ⟨w.heap.size,k*2,none⟩=some (.bool a)/\(Q.setCell ⟨g,k,none⟩ u).cell? ⟨w.heap.size,k*2+1,none⟩=some (.int .i64 b))/\(Q.setCell ⟨g,k,none⟩ u).frozen? ⟨w.heap.size,k*2,none⟩=false/\(Q.setCell ⟨g,k,none⟩ u).frozen? ⟨w.heap.size,k*2+1,none⟩=false /\
     ∃W,(((Q.setCell ⟨g,k,none⟩ u).setCell ⟨w.heap.size,k*2,none⟩ (.bool d)).setCell ⟨w.heap.size,k*2+1,none⟩ (.int .i64 c))=W/\Mu W B W.heap.size (.slice (some ⟨g,0,none⟩) xss.length cap) (Id.ys xss (k+1))/\W.ownsRow w.heap.size 111 2 (.slice (some ⟨w.heap.size,0,none⟩) xss.length xss.length) xss.length (Id.rc (Id.rs xss (k+1)))/\Below B w W/\w.heap.size<W.heap.size):=by
    intro Q u d c Y A b1 hu;have r2:=x5z P b1;have rr:=x5z H b1
    have t:w.heap.size≠g:=by
     rintro rfl;rcases P.2 with⟨h',_⟩ | ⟨g',aH,r,h',_,aC,_⟩
     ·cases h'
     ·rcases H.2 with⟨D,_⟩ | ⟨g2,y,aI,D,_,U,_⟩
      ·cases D
      ·simp only[Value.slice.injEq,Option.some.injEq,Addr.mk.injEq]at h' D;obtain⟨⟨rfl,_⟩,_⟩:=h';obtain⟨⟨rfl,_⟩,_⟩:=D;rw[aC]at U;simp at U
    have s:=q0J rr (fun e=>t e.symm) k u;have hq:=Id.z7L (Id.rs xss k) (k:=k) (by rw[Id.q0L xss hk];exact E)
    have gB:B<=g:=by
     have:=(P.lt g rfl).1;omega
    have aB:Below B w (((Q.setCell ⟨g,k,none⟩ u).setCell ⟨w.heap.size,k*2,none⟩ (.bool d)).setCell ⟨w.heap.size,k*2+1,none⟩ (.int .i64 c)) :=
     (((C.trans (b1.mono u3W)).setCell (p:=⟨g,k,none⟩) gB u).setCell (p:=⟨w.heap.size,k*2,none⟩) m _).setCell (p:=⟨w.heap.size,k*2+1,none⟩) m _
    have aj:=o.below b1
    have N:Mu (Q.setCell ⟨g,k,none⟩ u) B (Q.setCell ⟨g,k,none⟩ u).heap.size (.slice (some ⟨g,0,none⟩) xss.length cap) ((Id.ys xss k).set k Y):=by
     have:=Mu.put19 (w:=Q) (B:=B) (g:=g) (cap:=cap) (xss:=Id.ys xss k) (us:=us) (by rw[ab];exact T) (by rw[ab];exact r2) (fun i hi=>(f i f6J).below b1) (fun i j b aD hj=>L i j b aD f6J) (k:=k) f6J (u:=u) (ys:=Y)
      (by
       rcases hu with⟨rfl,rfl⟩ | hu
       ·exact aj
       ·exact hu.lower u3W)
      (fun j hj aL b hb=>by
       rcases hu with⟨rfl,rfl⟩ | hu
       ·rcases Nat.lt_or_ge j k with h | h
        ·intro D;exact L j k b h E D (by rw[ae];exact hb)
        ·exact L k j b f6J f6J (by rw[ae];exact hb)
       ·intro D;have:=(hu.row.lt b hb).1;have:=a4 j f6J b D
        omega)
     rw[ab]at this;exact this
    rw[Id.z8y xss E A]at N;have rz:=(s.stored (k*2) (.bool d)).1
    have aG:∃G J,u=.slice G Y.length J:=by
     rcases hu with⟨rfl,rfl⟩ | hu
     ·obtain⟨ao,l,h,_⟩:=aj.sk.shape;exact⟨ao,l,h⟩
     ·obtain⟨ao,l,h,_⟩:=hu.sk.shape;exact⟨ao,l,h⟩
    refine⟨aG,⟨_,(r2.cellAt k f6J).trans (p0I:us[k]?=some (us.getD k undef))⟩,r2.frozenAt k,⟨_,_,(s.cellAt (k*2) f6J).trans hq.1,(s.cellAt (k*2+1) f6J).trans hq.2⟩,s.frozenAt _,s.frozenAt _,_,rfl,?_,?_,aB,?_⟩
    ·have:=Mu.put2_19 (Mu.put2_19 N s e8N e8N (k*2) (.bool d)) rz e8N e8N (k*2+1) (.int .i64 c);exact W2O
    ·have:=(rz.stored (k*2+1) (.int .i64 c)).1;rwa [Id.q0C,Id.z7U xss E A]at this
    ·have:=b1.size;simp;omega
   clear T P f a4 L H C o ab ae;generalize xss.getD k []=X at *;go_wp2_with fail;refine(V K).mono ?_;rintro e Q ⟨u,d,c,Y,A,rfl,b1,hu⟩;obtain⟨⟨G,J,rfl⟩,⟨z,c0⟩,f0,⟨a,b,c1,c2⟩,f1,f2,W,hW,H1⟩:=V Z Q u d c Y A b1 hu;have HH:=O H1;clear K Z A b1 hu H1;go_wp2
   go_roundw
   case rel=>exact⟨k+1,g2A,f6J,(V HH).1,(V HH).2.1,(V HH).2.2.1,(V HH).2.2.2⟩
   case measure=>exact g7W
  ·obtain rfl:k=xss.length:=f6J;have H1:=O am;have H2:=O H;have H3:=O C;clear am H C;go_wp2;go_ret;exact⟨_,rfl,V H1,V H2,V H3⟩
structure IdC(p:Nat)(fl:Int)(mp nc:List Int->List Int)(hr:List Int->Bool)(ck:List Int->Bool->Bool->Nat)(w0:World):Prop where
 map:∀W xv X,Below w0.heap.size w0 W->Sk .i32 W xv X->X.length<=16384->Calls prog 67 #[.pointer (some ⟨p,0,none⟩),xv,.int .i64 fl] W (y3y W (mp X))
 nfc:∀W xv X,Below w0.heap.size w0 W->Sk .i32 W xv X->X.length<=65536->Calls prog 34 #[.pointer (some ⟨p,0,none⟩),xv] W (fun e w'=>∃v,e=.returned (.tuple #[v,.int .i64 0])/\Ok .i32 21 w' W.heap.size v (nc X)/\Below W.heap.size W w')
 len:∀X,X.length<=65536->(nc X).length<=2097152
 dom:∀W lv Xs,Below w0.heap.size w0 W->x5B W lv Xs->Calls prog 42 #[.pointer (some ⟨p,0,none⟩),lv] W (x0g W (Xs.any hr))
 chk:∀W xv X rtl dec,Below w0.heap.size w0 W->Sk .i32 W xv X->X.length<=65536->Calls prog 74 #[.pointer (some ⟨p,0,none⟩),xv,.int .i64 fl,.bool rtl,.bool dec] W (IntB W ((ck X rtl dec:Nat):Int))
 lt:∀X rtl dec,ck X rtl dec<65536
 ms:∀X,(∀c∈X,Utf.okc c)->∀c∈mp X,Utf.okc c
 ns:∀X,(∀c∈X,Utf.okc c)->∀c∈nc X,Utf.okc c
theorem IdC.on{p fl mp nc hr}{ck w W}(h:IdC p fl mp nc hr ck w)(Y:Bw w W):IdC p fl mp nc hr ck W :=
 ⟨fun N v X U=>h.map N v X (bthen Y U),fun N v X U=>h.nfc N v X (bthen Y U),h.len,fun N E C U=>h.dom N E C (bthen Y U),fun N v X r d U=>h.chk N v X r d (bthen Y U),h.lt,h.ms,h.ns⟩
structure EngAt(w:World)(q:Nat)(fl:Int)(p:Nat):Prop where
 f:w.cell? ⟨q,0,none⟩=some (.int .i64 fl)
 d:w.cell? ⟨q,1,none⟩=some (.pointer (some ⟨p,0,none⟩))
theorem EngAt.on{w W q fl p}(h:EngAt w q fl p)(Y:Bw w W):EngAt W q fl p :=
 ⟨by rw[Y.cell (x0a h.f)];exact h.f,by rw[Y.cell (x0a h.d)];exact h.d⟩
theorem y2A fl w:Calls prog 26 #[.agg #[.int .i64 fl]] w (fun e w'=>e=.returned (.int .i64 fl)/\Bw w w'):=by
 go_enter func26,ntmps26;exact p9O
theorem q0g{W}{f:Nat}{A zs}(h:Calls prog f A W (y3y W zs)):Calls prog f A W (fun e w'=>∃v c,e=.returned (.tuple #[v,.int .i64 c])/\Bw W w'/\((c=0/\zs.length<=65536/\Ok .i32 21 w' W.heap.size v zs)\/(c=2/\65536<zs.length))) :=
 h.mono fun e w' ⟨hb,h⟩=>by
  rcases h with⟨Z,v,D,J⟩ | ⟨Z,D⟩
  ·exact⟨v,0,D,hb,.inl ⟨rfl,Z,J⟩⟩
  ·exact⟨_,2,D,hb,.inr ⟨rfl,Z⟩⟩
namespace Id
def cut(mp nc:List Int->List Int)(zs:List Int):List (List Int)×Nat :=
 if 16384<zs.length then([],2)else if(Utf.dec 0 zs).2.2≠0 then([],1)else if 65536<(mp (Utf.dec 0 zs).1).length then([],2)else(Spl.split (nc (mp (Utf.dec 0 zs).1)),0)
theorem z2D{mp nc zs}(h:16384<zs.length):cut mp nc zs=([],2):=if_pos h
theorem y8e{mp nc zs}(h:¬16384<zs.length)(D:(Utf.dec 0 zs).2.2≠0):cut mp nc zs=([],1):=by unfold cut;rw[if_neg h,if_pos D]
theorem z6l{mp nc zs}(h:¬16384<zs.length)(D:(Utf.dec 0 zs).2.2=0)(J:65536<(mp (Utf.dec 0 zs).1).length):cut mp nc zs=([],2):=by unfold cut;rw[if_neg h,if_neg n2N,if_pos J]
theorem z4U{mp nc zs}(h:¬16384<zs.length)(D:(Utf.dec 0 zs).2.2=0)(J:¬65536<(mp (Utf.dec 0 zs).1).length):cut mp nc zs=(Spl.split (nc (mp (Utf.dec 0 zs).1)),0):=by unfold cut;rw[if_neg h,if_neg n2N,if_neg J]
end Id
theorem Mu.lower19{w B B' U v xss}(h:Mu w B U v xss)(m:B'<=B):Mu w B' U v xss:=by
 obtain⟨j,T,P,f,E,L⟩:=h;refine⟨j,T,⟨P.1,?_⟩,fun i hi=>(f i hi).lower m,E,L⟩;rcases P.2 with h | ⟨g,M,t,Z,D,J⟩
 ·exact .inl h
 ·exact .inr ⟨g,M,t,Z,Nat.le_trans m D,J⟩
def z8J(w:World)(r:List (List Int)×Nat)(e:Ending)(w':World):Prop :=
 Below w.heap.size w w'/\((∃c:Nat,r=([],c)/\(c=1\/c=2)/\e=.returned (.tuple #[.slice none 0 0,.int .i64 (c:Int)]))\/∃v xss,r=(xss,0)/\e=.returned (.tuple #[v,.int .i64 0])/\Mu w' w.heap.size w'.heap.size v xss)
theorem cut19{p q fl mp nc hr}{ck w}(l:IdC p fl mp nc hr ck w)(hE:EngAt w q fl p) s:Calls prog 39 #[.pointer (some ⟨q,0,none⟩),.string s] w (z8J w (Id.cut mp nc (nums s))):=by
 have F:=nums_length s;by_cases M:16384<s.size
 ·have HE:=O (Id.z2D (mp:=mp) (nc:=nc) (zs:=nums s) f6J);have hL:(16384:Int)<s.size:=f6J;clear l hE F;generalize Id.cut mp nc (nums s)=r at *;go_enter func39,ntmps39;go_wp2;go_ret2;exact⟨b0r,.inl ⟨2,V HE,.inr rfl,rfl⟩⟩
 ·have hL:¬((16384:Int)<s.size):=f6J;have KD:=O (decC s w f6J);have R1:=fun h=>O (Id.y8e (mp:=mp) (nc:=nc) (zs:=nums s) f6J h);have z:=fun h D=>O (Id.z6l (mp:=mp) (nc:=nc) (zs:=nums s) f6J h D);have S:=fun h D=>O (Id.z4U (mp:=mp) (nc:=nc) (zs:=nums s) f6J h D)
  have N:(Utf.dec 0 (nums s)).1.length<=16384:=by
   rcases Utf.dec_shape (nums s).length 0 (nums s) (l0r _)with⟨_,_,h⟩ | ⟨q,h,_⟩
   ·omega
   ·rw[h];simp
  have B:Hid (∀W xv,Bw w W->Sk .i32 W xv (Utf.dec 0 (nums s)).1->_):=fun W xv U hx=>q0g (l.map W xv _ U hx N);have KN:=O l.nfc;have m:=O l.len;have y:=O fun W (U:Bw w W)=>(hE.on U).f;have k:=O fun W (U:Bw w W)=>(hE.on U).d;have P:=O (y2A fl);clear l hE N M F;generalize Id.cut mp nc (nums s)=r,Utf.dec 0 (nums s)=dd at *;obtain⟨xs,d2,d3⟩:=dd;go_enter func39,ntmps39;go_wp2_with fail;refine(V KD).mono ?_;rintro e Q ⟨v,rfl,ho,b1⟩;by_cases u:d3=0
  ·subst u;replace z:=z rfl;replace S:=S rfl;have R:=O b1;have I:Bw Q Q:=b0r;have Z:=I.drew;have y:=O fun W (U:Bw Q W)=>V y W (bthen b1 U);have k:=O fun W (U:Bw Q W)=>V k W (bthen b1 U);have C:=O (fun W (U:Bw Q W)=>V B W v (bthen b1 U) (ho.sk.below U));obtain⟨ao,am,rfl,_,_⟩:=ho.sk.shape;clear KD B ho R1 b1;go_wp2_with fail;go_region_held3(fun w'=>w'.cell? ⟨q,0,none⟩=some (.int .i64 fl)/\w'.cell? ⟨q,1,none⟩=some (.pointer (some ⟨p,0,none⟩))/\Bw Q w') (first| exact⟨V y _ W8W,V k _ W8W,W8W⟩|(have Y:=bthen Z W8W;exact⟨V y _ Y,V k _ Y,Y⟩) | go_keep) (first| (go_at_call 26;refine(V P _).mono ?_;rintro e w2 ⟨rfl,i⟩;have t:=bthen (W8W:Bw Q _) i)|(go_at_call 67;refine(V C _ W8W).mono ?_;rintro e w3 ⟨vm,cm,rfl,b3,E⟩;have L:=bthen (W8W:Bw Q _) b3));rcases E with⟨rfl,H,J⟩ | ⟨rfl,H⟩
   ·have a:=S f6J;have b:=bthen (V R) L;have A:=O (V KN w3 vm _ b J.sk H);have F:=V m _ H;have g:=V k w3 L;obtain⟨ae,o,rfl,_,_⟩:=J.sk.shape;clear C P KN m y k z S Z I t i J H b3 L R;generalize nc (mp xs)=c at *;go_wp2_with fail;refine(V A).mono ?_;rintro e w4 ⟨n,rfl,j,b4⟩;have K:=O (z4r n c w4 j.sk f6J);obtain⟨aj,ab,rfl,_,_⟩:=j.sk.shape;have X:=bthen b b4;clear A g j b4 b;go_wp2_with fail;refine(V K).mono ?_;rintro e w5 ⟨v5,rfl,G,T⟩;have HM:=O (G.lower19 X.size);have x:=O (bthen X T);clear K G T X;go_wp2;go_ret2;exact⟨V x,.inr ⟨_,_,V a,rfl,V HM⟩⟩
   ·have a:=z H;have x:=O (bthen (V R) L);clear C P KN m y k z S Z I t i H b3 L R;go_wp2;go_ret2;exact⟨V x,.inl ⟨2,V a,.inr rfl,rfl⟩⟩
  ·have a:=R1 u;have aq:(d3 != 0)=true:=U3E;have x:=O b1;clear KD B KN m y k P ho R1 z S u b1;go_wp2;go_ret2;exact⟨V x,.inl ⟨1,V a,.inl rfl,rfl⟩⟩
namespace Id
def rdc(x:List Int):Nat:=(rd x).2.2.toNat
theorem rd_c x:(rd x).2.2=((rdc x:Nat):Int)/\rdc x<65536:=by
 unfold rdc rd;split
 ·exact⟨rfl,M7K⟩
 ·split
  ·exact⟨rfl,M7K⟩
  ·split
   ·exact⟨rfl,M7K⟩
   ·exact⟨rfl,M7K⟩
def wr(ck:List Int->Bool->Bool->Nat)(X:List Int)(c:Nat)(rtl dec:Bool):Nat:=if c=0 then ck X rtl dec else c
def wrong(ck:List Int->Bool->Bool->Nat)(rtl:Bool)(x:List Int):Nat:=wr ck (rd x).1 (rdc x) rtl (rd x).2.1
def acc(ck:List Int->Bool->Bool->Nat)(rtl:Bool)(xss:List (List Int)):Nat:=(xss.map (wrong ck rtl)).foldl (·|||·) 0
theorem y4N{ck}(h:∀X r d,ck X r d<65536) rtl x:wrong ck rtl x<65536:=by
 unfold wrong wr;split
 ·exact h _ _ _
 ·exact(rd_c x).2
theorem z1V ck rtl xss x:acc ck rtl (xss++[x])=acc ck rtl xss|||wrong ck rtl x:=by simp[acc]
theorem x5l{ck}(h:∀X r d,ck X r d<65536) rtl xss:acc ck rtl xss<65536:=by
 suffices ∀(l:List Nat) (a:Nat),a<2^16->(∀z∈l,z<2^16)->l.foldl (·|||·) a<2^16 from this _ 0 e8M (fun z u=>by obtain⟨x,_,rfl⟩:=List.mem_map.1 u;exact y4N h rtl x)
 intro l
 induction l with
 | nil=>intro a E _;exact E
 | cons z l ih=>intro a E S;exact ih _ (Nat.or_lt_two_pow E (S z M7L)) (fun y g=>S y P1e)
theorem z1U{ck rtl}{xss:List (List Int)}{k}(G:k<xss.length):acc ck rtl (xss.take (k+1))=acc ck rtl (xss.take k)|||wrong ck rtl (xss.getD k []):=by
 rw[List.take_succ_eq_append_getElem G,z1V];exact w7Y
theorem or19{a b:Nat}(E:a<65536)(Y:b<65536):bits .or .i64 (a:Int) (b:Int)=((a|||b:Nat):Int):=by
 have B:a|||b<2^16:=Nat.or_lt_two_pow E Y;exact V8W
def read(xss:List (List Int)):List (List Int):=xss.map fun x=>(rd x).1
theorem q1u xss:ys xss xss.length=read xss:=by simp[ys,read]
theorem q0K xss:rs xss xss.length=xss.map fun x=>(rd x).2:=by simp[rs]
theorem z0E f:∀(zs:List Int) (s:Pu.St),(Pu.x4U f zs s).1.length<=s.xs.length+f:=by
 induction f with
 | zero=>intro zs s;simp[Pu.x4U]
 | succ f ih =>
  intro zs s;rw[Pu.x4U];split
  ·simp
  ·split
   ·simp
   ·split
    ·simp
    ·split
     ·simp
     ·refine Nat.le_trans (ih _ _) ?_;have:∀(l:List Int) (p:Nat) (c:Int),(Pu.ins l p c).length=l.length+1:=fun l p c=>(by simp[Pu.ins];exact f6J);simp only[Pu.step,this];omega
theorem q0F x:(rd x).1.length<=8*x.length:=by
 have Z:(pn x).1.length<=8*x.length:=by
  unfold pn Pu.decode;have S:(txt (x.drop 4)).length<=4*(x.drop 4).length:=Utf.x9e 0 _;rw[List.length_drop]at S;split
  ·simp
  ·split
   ·simp
   ·refine Nat.le_trans (z0E _ _ _) ?_;have:((txt (x.drop 4)).take (Pu.x4M (txt (x.drop 4)) 0 0)).length<=(txt (x.drop 4)).length:=P8P;simp only[Pu.begin];omega
 unfold rd;split
 ·simp;omega
 ·split
  ·simp;omega
  ·split
   ·simp;omega
   ·exact Z
theorem x8F xss:Spl.total (read xss)<=8*Spl.total xss:=by
 induction xss with
 | nil=>simp[read,Spl.total]
 | cons x l ih =>
  have:=q0F x;simp only[read,Spl.total,List.map_cons,List.sum_cons]at ih ⊢;omega
def proc(mp nc:List Int->List Int)(hr:List Int->Bool)(ck:List Int->Bool->Bool->Nat)(zs:List Int):List (List Int)×Nat :=
 if(cut mp nc zs).2≠0 then([],(cut mp nc zs).2)else if 16384<cnt (Utf.encA 0 (Spl.join (read (cut mp nc zs).1)))then([],2)else(read (cut mp nc zs).1,acc ck ((read (cut mp nc zs).1).any hr) (cut mp nc zs).1)
theorem y8g{mp nc}(S:∀X:List Int,X.length<=65536->(nc X).length<=2097152){zs xss}(h:cut mp nc zs=(xss,0)):0<xss.length/\xss.length<=2097153/\Spl.total xss<=2097152:=by
 unfold cut at h;split at h
 ·simp at h
 ·split at h
  ·simp at h
  ·split at h
   ·simp at h
   ·obtain rfl:=(Prod.mk.inj h).1
    rename_i h3
    have Z:=S _ (Nat.le_of_not_lt h3);have D:=Spl.y6O [] (nc (mp (Utf.dec 0 zs).1));have F:=Spl.y3r [] (nc (mp (Utf.dec 0 zs).1));have E:=Spl.z1f [] (nc (mp (Utf.dec 0 zs).1));unfold Spl.split;exact⟨List.length_pos_iff.2 E,f6J,by simp at F;exact f6J⟩
end Id
theorem Mu.rws17{w B U v xss}(h:Mu w B U v xss)(S:xss.length<=1000000000):x5B w v xss:=by
 obtain⟨j,T,P,f,_,_⟩:=h;refine⟨S,?_⟩;rcases P.2 with⟨Z,D⟩ | ⟨g,M,t,rfl,H,X,F,G,A,s⟩
 ·exact .inl ⟨D,none,0,by rw[Z],f6J⟩
 ·refine .inr ⟨g,0,M,rfl,F,V3H,fun i hi=>⟨j.getD i undef,?_,(f i hi).sk⟩⟩;rw[Nat.zero_add,P.cellAt i f6J];simp[List.getD,(f6J:i<j.length)]
theorem z8v{p q fl mp nc hr}{ck w}(l:IdC p fl mp nc hr ck w)(N:EngAt w q fl p){xv X}(A:Sk .i32 w xv X)(S:X.length<=65536)(c:Nat) d rtl :
  Calls prog 43 #[.pointer (some ⟨q,0,none⟩),xv,.agg #[.bool d,.int .i64 (c:Int)],.bool rtl] w (IntB w ((Id.wr ck X c rtl d:Nat):Int)):=by
 by_cases T:c=0
 ·subst T;have E:Id.wr ck X 0 rtl d=ck X rtl d:=if_pos rfl;rw[E];obtain⟨Q,H⟩:∃Q,w.alloc (.cells #[.bool d,.int .i64 0] 111)=Q:=⟨_,rfl⟩;have b1:Bw w Q:=(by rw[<- H];exact t9C);have a:Od.Blk Q w.heap.size 111 [.bool d,.int .i64 0]:=(by rw[<- H];exact Od.Blk.new w _ _ _ rfl);have I:Bw Q Q:=b0r;have Z:=I.drew;have y:=O fun W (U:Bw Q W)=>(N.on (bthen b1 U)).f;have k:=O fun W (U:Bw Q W)=>(N.on (bthen b1 U)).d;have b:=O fun W (U:Bw Q W)=>(a.below U a.lt).cell (i:=0) rfl;have g:=a.cell (i:=1) rfl;have K:=O fun W (U:Bw Q W)=>l.chk W xv X rtl d (bthen b1 U) (A.below (bthen b1 U)) S;have P:=O (y2A fl);have R:=O b1;obtain⟨J,M,rfl,_,_⟩:=A.shape;clear l N A E b1 a S;generalize ck X rtl d=z at *;go_enter func43,ntmps43;go_wp2_with fail;go_region_held3(fun C=>C.cell? ⟨q,0,none⟩=some (.int .i64 fl)/\C.cell? ⟨q,1,none⟩=some (.pointer (some ⟨p,0,none⟩))/\C.cell? ⟨w.heap.size,0,none⟩=some (.bool d)/\Bw Q C) (first| exact⟨V y _ W8V,V k _ W8V,V b _ W8V,W8V⟩|(have Y:=bthen Z W8V;exact⟨V y _ Y,V k _ Y,V b _ Y,Y⟩) | go_keep) (first| (go_at_call 26;refine(V P _).mono ?_;rintro e u ⟨rfl,j⟩;have t:=bthen (W8V:Bw Q _) j)|(go_at_call 74;refine(V K _ W8V).mono ?_;rintro e B ⟨rfl,G⟩;have L:=bthen (W8V:Bw Q _) G));have x:=O (bthen (V R) L);clear K y k b P t L j G Z I R;go_wp2;go_ret;exact⟨rfl,V x⟩
 ·have E:Id.wr ck X c rtl d=c:=if_neg T;rw[E];have F:(((c:Nat):Int) != 0)=true:=(by simpa using T);obtain⟨J,M,rfl,_,_⟩:=A.shape;clear l N A E S T;generalize((c:Nat):Int)=z at *;go_enter func43,ntmps43;go_wp2;go_ret;exact⟨rfl,(b0r).alloc (l0r _) _⟩
namespace Id
def Snd(x:List Int):Prop:=∀c∈x,Utf.okc c
theorem y6L{x}(h:(Utf.encA 0 x).2.2=0):Snd x:=by
 rcases fb_enc 0 x with⟨_,_,Z⟩ | ⟨q,_,Z,_⟩
 ·exact Z
 ·rw[Z]at h;simp at h
theorem z6u i{x}(h:Snd x):(Utf.encA i x).2.2=0/\x.length<=(Utf.encA i x).1.length:=by
 induction x generalizing i with
 | nil=>exact⟨rfl,M7M⟩
 | cons c r ih =>
  have Z:=ih (i+1) (fun z u=>h z t0o);have D:=Utf.x4f c;rw[Utf.encA,if_pos (h c M7M),Utf.glue,if_pos Z.1];exact⟨rfl,P8P⟩
theorem y7Y{x}(h:Snd x):(x.length:Int)<=cnt (Utf.encA 0 x):=by
 have:=z6u 0 h;unfold cnt;rw[if_pos this.1];omega
theorem z6n{zs}(Y:Utf.Byt zs)(h:(Utf.dec 0 zs).2.2=0):Snd (Utf.dec 0 zs).1 :=
 y6L (by rw[Utf.z6t zs.length 0 0 zs (l0r _) Y h])
theorem z1g{x}(h:Snd x){y}(hy:y∈Spl.split x):Snd y:=fun c I=>by
 rcases Spl.splitA_mem [] x y hy c I with h1 | h1
 ·cases h1
 ·exact h c h1
theorem ins_mem{l p c z}(h:z∈Pu.ins l p c):z∈l\/z=c:=by
 unfold Pu.ins at h;rcases List.mem_append.1 h with h | h
 ·exact .inl (List.mem_of_mem_take h)
 ·rcases List.mem_cons.1 h with h | h
  ·exact .inr h
  ·exact .inl (List.mem_of_mem_drop h)
theorem z0F f:∀(zs:List Int) (s:Pu.St),Snd s.xs->Snd (Pu.x4U f zs s).1:=by
 induction f with
 | zero=>intro zs s h;exact h
 | succ f ih =>
  intro zs s h;rw[Pu.x4U];split
  ·exact h
  ·split
   ·exact W3W
   ·split
    ·exact W3W
    ·split
     ·exact W3W
     ·rename_i h4
      refine ih _ _ fun c I=>?_;rcases ins_mem I with h1 | h1
      ·exact h c h1
      ·subst h1;exact Decidable.of_not_not h4
theorem z0i{z}(U:0<=z)(Z:z<128):Utf.okc z:=M1d
theorem q0G{x}(h:Snd x):Snd (rd x).1:=by
 unfold rd;split
 ·exact h
 ·split
  ·exact h
  ·split
   ·exact h
   ·show Snd (Pu.decode (txt (x.drop 4))).1;unfold Pu.decode;split
    ·exact W3W
    ·split
     ·exact W3W
     ·rename_i hb
      refine z0F _ _ _ fun c I=>?_;have o:c∈txt (x.drop 4):=List.mem_of_mem_take I;have A:Utf.Byt (txt (x.drop 4)):=Utf.y8r 0 _;have F:Pu.basicB (txt (x.drop 4))=true:=(by simpa using hb);unfold Pu.basicB at F;rw[List.all_eq_true]at F;exact z0i (A c o).1 (by simpa using F c o)
theorem x9t:∀{l:List (List Int)},(∀y∈l,Snd y)->Snd (Spl.join l)
 | [],_=>fun c hc=>by simp[Spl.join]at hc
 | [a],h=>by simpa[Spl.join]using h a M7L
 | a::b::l,h=>by
  rw[Spl.join_cons a M7L];intro c hc;rcases List.mem_append.1 hc with hc | hc
  ·exact h a M7L c hc
  ·rcases List.mem_cons.1 hc with hc | hc
   ·subst hc;exact z0i e8M e8M
   ·exact x9t (l:=b::l) (fun y hy=>h y F7M) c hc
theorem x9W:∀(l:List (List Int)) (k:Nat),(l.getD k []).length<=(Spl.join l).length
 | [],k=>M7K
 | [a],k=>by cases k<;>simp[Spl.join]
 | a::b::l,k=>by
  rw[Spl.join_cons a M7K,List.length_append,List.length_cons]
  cases k with
  | zero=>simp
  | succ k=>have:=x9W (b::l) k;simp only[List.getD_cons_succ];omega
theorem y8f{mp nc}(Z:∀X,Snd X->Snd (mp X))(D:∀X,Snd X->Snd (nc X)){zs}(Y:Utf.Byt zs){xss}(h:cut mp nc zs=(xss,0)):∀x∈xss,Snd x:=by
 unfold cut at h;split at h
 ·simp at h
 ·split at h
  ·simp at h
  ·split at h
   ·simp at h
   ·obtain rfl:=(Prod.mk.inj h).1
    rename_i h3 h4
    exact fun x A=>z1g (D _ (Z _ (z6n Y (by simpa using h3)))) A
theorem y4B{xss}(h:∀x∈xss,Snd x):∀y∈read xss,Snd y:=fun y hy=>by
 obtain⟨x,A,rfl⟩:=List.mem_map.1 hy;exact q0G (h x A)
end Id
namespace Id
theorem z0y{mp nc hr ck zs}{c}(h:cut mp nc zs=([],c))(I:c≠0):proc mp nc hr ck zs=([],c):=by unfold proc;rw[h,if_pos I]
theorem y4z{mp nc hr ck zs}{xss}(h:cut mp nc zs=(xss,0))(Y:16384<cnt (Utf.encA 0 (Spl.join (read xss)))):proc mp nc hr ck zs=([],2):=by unfold proc;rw[h,if_neg M7K,if_pos Y]
theorem z0z{mp nc hr ck zs}{xss}(h:cut mp nc zs=(xss,0))(Y:¬16384<cnt (Utf.encA 0 (Spl.join (read xss)))):proc mp nc hr ck zs=(read xss,acc ck ((read xss).any hr) xss):=by unfold proc;rw[h,if_neg M7K,if_neg Y]
end Id
def y1Z(w:World)(r:List (List Int)×Nat)(e:Ending)(w':World):Prop :=
 Below w.heap.size w w'/\∃v,e=.returned (.tuple #[v,.int .i64 ((r.2:Nat):Int)])/\Mu w' w.heap.size w'.heap.size v r.1
theorem Mu.now19{w B U v xss}(h:Mu w B U v xss):Mu w B w.heap.size v xss:=by
 obtain⟨j,T,P,f,E,L⟩:=h;exact⟨j,T,P,f,fun i hi b Y=>((f i hi).row.lt b Y).2,L⟩
theorem x1h{p q fl mp nc hr}{ck w}(l:IdC p fl mp nc hr ck w)(Y:EngAt w q fl p) s:Calls prog 17 #[.pointer (some ⟨q,0,none⟩),.string s] w (y1Z w (Id.proc mp nc hr ck (nums s))):=by
 have K:=O (cut19 l Y s);have R1:=fun c h h'=>O (Id.z0y (mp:=mp) (nc:=nc) (hr:=hr) (ck:=ck) (zs:=nums s) (c:=c) h h');have z:=fun xss h h'=>O (Id.y4z (mp:=mp) (nc:=nc) (hr:=hr) (ck:=ck) (zs:=nums s) (xss:=xss) h h');have S:=fun xss h h'=>O (Id.z0z (mp:=mp) (nc:=nc) (hr:=hr) (ck:=ck) (zs:=nums s) (xss:=xss) h h');have HX:=O fun xss=>Id.y8g (mp:=mp) l.len (zs:=nums s) (xss:=xss);generalize Id.proc mp nc hr ck (nums s)=r,hCT:Id.cut mp nc (nums s)=ct at *;go_enter func17,ntmps17;go_wp2_with fail;refine(V K).mono ?_;rintro e w1 ⟨b1,⟨c,m,hc,rfl⟩ | ⟨v,xss,m,rfl,a⟩⟩
 ·have HR:=R1 c m f6J;have aJ:((c:Int) != 0)=true:=(by rcases hc with rfl | rfl<;>rfl);have HB:=O b1;clear K R1 z S HX m hc b1 l Y hCT;exact S5N
 ·obtain⟨x0,x1,x2⟩:=V HX xss m;have am:=O (Id.y7Y (Id.x9t (Id.y4B (Id.y8f l.ms l.ns (x0B s) (hCT.trans m)))));clear hCT;have aC:(Id.read xss).length=xss.length:=(by simp[Id.read]);have aG:=Id.x8F xss
  have K2:=O (y6u b1.size a x0 f6J (fun x hx=>by
   obtain⟨i,hi,rfl⟩:=List.getElem_of_mem hx;have:=Spl.z5q xss i;simp only[List.getD,List.getElem?_eq_getElem hi,Option.getD_some]at this
   omega))
  replace z:=fun h=>z xss m h;replace S:=fun h=>S xss m h
  obtain⟨g,M,rfl⟩:∃g M,v=.slice (some ⟨g,0,none⟩) xss.length M:=by
   obtain⟨us,T,P,_⟩:=a;rcases P.2 with⟨_,h⟩ | ⟨g,M,aD,h,_⟩
   ·omega
   ·exact⟨g,M,h⟩
  clear K R1 HX m a;go_wp2_with fail;refine(V K2).mono ?_;rintro e w2 ⟨rv,rfl,R,ab,b2⟩;rw[Id.q1u]at R;rw[Id.q0K]at ab;have L:=b1.trans b2;have K3:=O (z9Z _ (Id.read xss) w2 (R.rwsS f6J) f6J)
  obtain⟨g2,y,rfl⟩:∃g2 y,rv=.slice (some ⟨g2,0,none⟩) xss.length y:=by
   rcases ab.2 with⟨_,h⟩ | ⟨g,M,aD,h,_⟩
   ·omega
   ·exact⟨g,M,h⟩
  have aw:=O R;have Z:=O ab;have I:=Spl.x9s (Id.read xss);clear K2 b1 b2 R ab;go_wp2_with fail;refine(V K3).mono ?_;rintro e w3 ⟨v3,rfl,H,b3⟩;have K4:=O (y0u v3 _ w3 H.sk f6J);have b:=bthen L b3;have U:=O ((V aw).below b3).now19;have aj:=O (x5z (V Z) b3);obtain⟨aI,aH,rfl,_,_⟩:=H.sk.shape;clear K3 aw Z L b3 H;go_wp2_with fail;refine(V K4).mono ?_;rintro e w3 ⟨rfl,rfl⟩;clear K4;have B:=O (Id.x9W (Id.read xss));generalize hcn:cnt (Utf.encA 0 (Spl.join (Id.read xss)))=cn at *;by_cases Q:16384<cn
  ·have HR:=z Q;have HB:=O b;clear am B z S hcn b U aj l Y I;exact S5N
  ·have HR:=S f6J
   have ar:Hid (∀k,((Id.read xss).getD k []).length<=65536):=fun k=>by
    have h1:=V B k;have h2:=V am;omega
   clear am B;have aA:=Y.on b;have c1:=aA.d;have K5:=O (l.dom w3 _ _ b ((V U).rws17 f6J));have J:=O b;have HE:=O Y;have HC:=O l;clear z S hcn b aA Y l I;generalize(Id.read xss).any hr=rtl at *;go_wp2_with fail;refine c0m K5 fun w4 b4=>?_;have X:=bthen (V J) b4;have D:=((V U).below b4).now19;have j:=x5z (V aj) b4;have t:=O D;have A:Hid (∀k,Id.acc ck rtl (xss.take k)<65536):=fun k=>Id.x5l (V HC).lt rtl _;have o:Hid (∀x,Id.wrong ck rtl x<65536):=fun x=>Id.y4N (V HC).lt rtl x
   have HG:Hid (∀k,k<xss.length->∀W,Bw w4 W->∃xv d c,W.cell? ⟨g,k,none⟩=some xv/\W.cell? ⟨g2,k*2,none⟩=some (.bool d)/\W.cell? ⟨g2,k*2+1,none⟩=some (.int .i64 c) /\
     Calls prog 43 #[.pointer (some ⟨q,0,none⟩),xv,.agg #[.bool d,.int .i64 c],.bool rtl] W (IntB W ((Id.wrong ck rtl (xss.getD k []):Nat):Int))):=by
    intro k G W hW;obtain⟨us,T,P,a3,_⟩:=D.below hW;rw[aC]at T P a3;have hq:=Id.z7L (xss.map fun x=>(Id.rd x).2) (k:=k) E9s;have ho:=x5z j hW;have e1:(Id.read xss).getD k []=(Id.rd (xss.getD k [])).1:=(by simp[Id.read,List.getD,G]);have e2:(xss.map fun x=>(Id.rd x).2).getD k (false,0)=(Id.rd (xss.getD k [])).2:=w8c;rw[e2]at hq;have aB:=a3 k G;rw[e1]at aB
    have aF:(Id.rd (xss.getD k [])).1.length<=65536:=by
     have:=V ar k;rwa [e1]at this
    have:=z8v ((V HC).on (bthen X hW)) ((V HE).on (bthen X hW)) aB.sk aF (Id.rdc (xss.getD k [])) (Id.rd (xss.getD k [])).2.1 rtl;rw[<- (Id.rd_c (xss.getD k [])).1]at this;exact⟨_,_,_,(P.cellAt k f6J).trans (p0I:us[k]?=some (us.getD k undef)),(ho.cellAt (k*2) f6J).trans hq.1,(ho.cellAt (k*2+1) f6J).trans hq.2,this⟩
   have f:Hid (∀k,k<xss.length->Id.acc ck rtl (xss.take (k+1))=Id.acc ck rtl (xss.take k)|||Id.wrong ck rtl (xss.getD k [])):=fun k G=>Id.z1U G;have ae:Hid (Id.acc ck rtl (xss.take xss.length)=Id.acc ck rtl xss):=(by rw[List.take_length];exact rfl);have aq:=O X;clear K5 b4 J U aj HC HE c1 X D j aG aC ar;go_wp2;go_loopw[7,10,11,35] (fun bv _ _ iv wr=>∃k:Nat,bv=.int .i64 ((Id.acc ck rtl (xss.take k):Nat):Int)/\iv=.int .i64 k/\k<=xss.length/\Bw w4 wr) (fun _ _ _ iv _=>xss.length-(intOf iv).toNat)
   case atStart=>exact⟨0,rfl,rfl,f6J,b0r⟩
   case round =>
    obtain⟨k,rfl,rfl,G,C⟩:=hrel;by_cases E:k<xss.length
    ·have hL:(k:Int)<xss.length:=f6J;obtain⟨xv,d,c,c0,c1,c2,KW⟩:=V HG k E wr C
     have HO:Hid (bits .or .i64 ((Id.acc ck rtl (xss.take k):Nat):Int) ((Id.wrong ck rtl (xss.getD k []):Nat):Int)=((Id.acc ck rtl (xss.take (k+1)):Nat):Int)):=by
      rw[V f k E];exact Id.or19 (V A k) (V o _)
     replace KW:=O KW;have N:=O C;clear HG f A o ae C;generalize ha2:((Id.acc ck rtl (xss.take (k+1)):Nat):Int)=P,((Id.acc ck rtl (xss.take k):Nat):Int)=T,((Id.wrong ck rtl (xss.getD k []):Nat):Int)=a3 at *;have ho:=V HO;have ay:Hid (∀W,Bw w4 W->∃n:Nat,Value.int .i64 P=.int .i64 ((Id.acc ck rtl (xss.take n):Nat):Int)/\Value.int .i64 ((k:Int)+1)=.int .i64 n/\n<=xss.length/\Bw w4 W):=fun W hW=>⟨k+1,by rw[ha2],g2A,f6J,hW⟩;clear ha2 HO;go_wp2_with fail;refine c0m KW fun w5 b5=>?_;have u:=O (bthen (V N) b5);clear KW b5 N c0 c1 c2;go_wp2
     go_roundw
     case rel=>exact V ay _ (V u)
     case measure=>exact g7T
    ·obtain rfl:k=xss.length:=f6J;have HB:=O (bthen (V aq) C);have HM:=O ((V t).below C).now19;have F:=V ae;rw[F];clear HG f A o ae C aq t F;go_wp2;go_ret2;obtain rfl:=V HR;exact⟨V HB,_,rfl,V HM⟩
namespace Id
def ca(x:List Int):List Int×Bool:=if allb ascb x=true then(txt x,true)else if(Pu.encode x).2≠0 then([],false)else([120,110,45,45]++(Pu.encode x).1,true)
theorem z8Y{x}(h:allb ascb x=true):ca x=(txt x,true):=if_pos h
theorem ca_no{x}(h:allb ascb x=false)(D:(Pu.encode x).2≠0):ca x=([],false):=by unfold ca;rw[if_neg s8h,if_pos D]
theorem z9a{x}(h:allb ascb x=false)(D:(Pu.encode x).2=0):ca x=([120,110,45,45]++(Pu.encode x).1,true):=by unfold ca;rw[if_neg s8h,if_neg n2N]
def unf(v:Bool)(n m:Nat):Bool:=v&&(decide (n=0)||decide (m<n))
end Id
theorem x5G fl f w:Calls prog 25 #[.agg #[.int .i64 fl],.int .i64 f] w (x0g w (bits .and .i64 fl f==f)):=by
 generalize hz:(bits .and .i64 fl f==f)=z;go_enter func25,ntmps25;exact p9O
theorem z8s{q p fl w}(Y:EngAt w q fl p) s(m:Nat):Calls prog 53 #[.pointer (some ⟨q,0,none⟩),.string s,.int .i64 (m:Int)] w (x0g w (Id.unf (bits .and .i64 fl 32==32) s.size m)):=by
 have K:=O (x5G fl 32 w);have l:=Y.f;clear Y;generalize(bits .and .i64 fl 32==32)=v at *
 cases v with
 | false =>
  have H:=O (show false=Id.unf false s.size m from rfl);generalize Id.unf false s.size m=u at *;go_enter func53,ntmps53;go_wp2_with fail;refine c0m K fun Q b1=>?_;clear K;go_wp2;go_ret;exact⟨congrArg Ending.returned (congrArg Value.bool (V H)),b1⟩
 | true =>
  by_cases U:s.size=0
  ·have H:Hid (true=Id.unf true s.size m):=(by simp[Id.unf,U,Hid]);have P:(((s.size:Nat):Int)==0)=true:=M1S;clear U;exact f6T
  ·have P:(((s.size:Nat):Int)==0)=false:=(by simpa using U);by_cases Z:m<s.size
   ·have H:Hid (true=Id.unf true s.size m):=(by simp[Id.unf,Z,Hid]);have r:(m:Int)<(s.size:Int):=f6J;clear U Z;exact f6T
   ·have H:Hid (decide (m<s.size)=Id.unf true s.size m):=(by simp[Id.unf,Z,U,Hid]);have r:¬((m:Int)<(s.size:Int)):=f6J;clear U Z;exact f6T
def z8F(w:World)(r:List Int×Bool)(e:Ending)(w':World):Prop:=e=.returned (.tuple #[.string (strOfNums r.1),.bool r.2])/\Below w.heap.size w w'
theorem y7K{w xv X}(A:Sk .i32 w xv X)(S:X.length<=1000000000)(N:∀W,Bw w W->Calls prog 100 #[xv] W (WrP W (Pu.encode X)))(L:(Pu.encode X).1.length<=1000000000):Calls prog 52 #[xv] w (z8F w (Id.ca X)):=by
 have B:=O (z4O xv X w A)
 cases hb:allb ascb X with
 | true =>
  rw[hb]at B;rw[Id.z8Y hb];have R:=O fun W (U:Bw w W)=>z1r (A.below U) S;obtain⟨J,M,rfl,_,_⟩:=A.shape;clear A N hb S L;generalize Id.txt X=z at *;go_enter func52,ntmps52;go_wp2_with fail;refine c0m B fun Q b1=>?_;have K:=O (V R Q b1);clear B R;go_wp2_with fail;refine c0m K fun u i=>?_;have x:=O (bthen b1 i);clear K b1 i;go_wp2;go_ret2;exact⟨rfl,V x⟩
 | false =>
  rw[hb]at B;have P:=fun h=>O (Id.ca_no hb h);have G:=fun h=>O (Id.z9a hb h);have H:=O N;obtain⟨J,M,rfl,_,_⟩:=A.shape;have C:=O L;clear A N hb S L;generalize Id.ca X=r,Pu.encode X=D at *;obtain⟨s,c⟩:=D;go_enter func52,ntmps52;go_wp2_with fail;refine c0m B fun Q b1=>?_;have K:=O (V H Q b1);clear B H;go_wp2_with fail;refine c0m K fun u i=>?_;have x:=O (bthen b1 i);clear K b1 i;by_cases I:c=0
  ·subst I;replace G:=G rfl;have y:∀W,(Op.stringOp .add (⟨#[120,110,45,45]⟩:ByteArray) (strOfNums s)).run prog W=.ok (.string ((⟨#[120,110,45,45]⟩:ByteArray)++strOfNums s)) W:=fun W=>run_string_add_sum W _ _ (by have:=V C;rw[strOfNums_size];show 4+_<=_;exact f6J)
   have o:Hid ((⟨#[120,110,45,45]⟩:ByteArray)++strOfNums s=strOfNums ([120,110,45,45]++s)):=by
    show _=_;apply ByteArray.ext;apply Array.toList_inj.1;rw[ByteArray.data_append,Array.toList_append];simp[strOfNums]
   clear P C;go_wp2;go_ret2;obtain rfl:=V G;exact⟨by rw[V o];rfl,V x⟩
  ·have a:=P I;have F:(c != 0)=true:=v0B;clear P G I;go_wp2;go_ret2;obtain rfl:=V a;exact⟨rfl,V x⟩
namespace Id
def eb(v:Bool)(x:List Int):Nat:=if(ca x).2=false then 8192 else if unf v (ca x).1.length 63=true then 16384 else 0
def ea(v:Bool)(yss:List (List Int)):Nat:=(yss.map (eb v)).foldl (·|||·) 0
theorem z9B v x:eb v x<65536:=by
 unfold eb;split
 ·decide
 ·split
  ·decide
  ·decide
theorem y8q{v}{E:List (List Int)}{k}(G:k<E.length):ea v (E.take (k+1))=ea v (E.take k)|||eb v (E.getD k []):=by
 rw[List.take_succ_eq_append_getElem G,ea,ea,List.map_append,List.foldl_append];simp only[List.map_cons,List.map_nil,List.foldl_cons,List.foldl_nil,List.getD,List.getElem?_eq_getElem G,Option.getD_some]
theorem or_lt{l:List Nat}{a}(E:a<65536)(S:∀z∈l,z<65536):l.foldl (·|||·) a<65536:=by
 induction l generalizing a with
 | nil=>exact E
 | cons z l ih=>exact ih (Nat.or_lt_two_pow (n:=16) E (S z M7K)) (fun y g=>S y P1e)
theorem z6s v yss:ea v yss<65536:=or_lt e8M (fun z u=>by obtain⟨x,_,rfl⟩:=List.mem_map.1 u;exact z9B v x)
def tx(yss:List (List Int))(k:Nat):List Value:=(yss.take k).map (fun y=>Value.string (strOfNums (ca y).1))++List.replicate (yss.length-k) (.string ⟨#[]⟩)
theorem tx_at yss{k}(G:k<yss.length):(tx yss k)[k]?=some (.string ⟨#[]⟩):=by
 unfold tx;rw[List.getElem?_append_right P8P];simp only[List.length_map,List.length_take,Nat.min_eq_left (Nat.le_of_lt G),Nat.sub_self,List.getElem?_replicate];rw[if_pos f6J]
theorem z8r yss{k}(G:k<yss.length):(tx yss k).set k (.string (strOfNums (ca (yss.getD k [])).1))=tx yss (k+1):=by
 unfold tx;rw[List.set_append_right _ _ P8P,List.take_succ_eq_append_getElem G,List.map_append,(f6J:yss.length-k=(yss.length-(k+1))+1),List.replicate_succ];simp[Nat.min_eq_left (Nat.le_of_lt G),List.getD,G]
theorem q1k yss:tx yss yss.length=yss.map fun y=>Value.string (strOfNums (ca y).1):=by simp[tx]
def whole(yss:List (List Int)):List Int:=Spl.join (yss.map fun y=>(ca y).1)
def carry(v:Bool)(yss:List (List Int)):List Int×Nat:=(whole yss,ea v yss|||(if unf v (whole yss).length 253=true then 32768 else 0)|||(if 16384<(whole yss).length then 2 else 0))
theorem z3l L:(strOfNums (Spl.join L)).data.toList=Lib.join (L.map fun l=>(strOfNums l).data.toList) [46]:=by
 induction L with
 | nil=>rfl
 | cons a l ih =>
  cases l with
  | nil=>simp[Spl.join,Lib.join_one]
  | cons b l =>
   rw[Spl.join_cons a M7K];have e:∀x y:List Int,(strOfNums (x++y)).data.toList=(strOfNums x).data.toList++(strOfNums y).data.toList:=fun x y=>(by simp[strOfNums]);have z:∀y:List Int,(strOfNums (46::y)).data.toList=46::(strOfNums y).data.toList:=fun y=>(by simp[strOfNums]);rw[e,z,ih];simp[Lib.join,List.intercalate]
end Id
