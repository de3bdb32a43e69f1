/- Lemmas. -/
import Derived.Test.YtkfcabdmkmljjaaGreatDoorH33
import Derived.Test.YtkfcabdmkmljjaaGreatDoorH36
import Derived.Laws.OwnMore
import Derived.Test.YtkfcabdmkmljjaaGreatDoorH15
import Derived.Test.YtkfcabdmkmljjaaGreatDoorH1
import Derived.Deep.RegionHeld3
import Derived.Test.YtkfcabdmkmljjaaGreatDoorH45
import Derived.Lib.Join
set_option maxHeartbeats 2000000
set_option maxRecDepth 8000
namespace Go.Proofs.YtkfcabdmkmljjaaGreatDoor
open Go.Proofs.Tryz
open Go.RowKit
section
variable{p:Prop}
theorem p9O(h:p:=by go_wp2;go_ret;exact⟨rfl,(b0r).alloc (l0r _) _⟩):p:=h
theorem f6T(h:p:=by generalize Id.unf true s.size m=u at *;go_enter func53,ntmps53;go_wp2_with fail;refine c0m K fun Q b1=>?_;clear K;go_wp2;go_ret;exact⟨congrArg Ending.returned (congrArg Value.bool (V H)),b1⟩):p:=h
theorem W8W(h:p:=by assumption):p:=h
theorem n2N(h:p:=by rw[D];exact e8M):p:=h
theorem F7M(h:p:=by simp at hy ⊢;right;exact hy):p:=h
theorem P2M(h:p:=by simp[List.getD,List.getElem?_set_ne (fun e=>hi e.symm)]):p:=h
theorem G3g(h:p:=by go_wp2;go_ret2;obtain rfl:=V L;exact⟨V HB,_,rfl,Mu.nil _ _ _⟩):p:=h
theorem p0G(h:p:=by simp[List.getD,(f6J:k<us.length)]):p:=h
theorem W1u(h:p:=by rw[<- ae];exact Od.Blk.new w _ _ _ rfl):p:=h
theorem n7q(h:p:=by
 rcases P.2 with⟨_,h⟩ | ⟨g,M,aD,h,_⟩
 ·omega
 ·exact⟨g,M,h⟩):p:=h
end
namespace Id
def txt(x:List Int):List Int:=(Utf.encA 0 x).1
def pn(x:List Int):List Int×Int:=Pu.decode (txt (x.drop 4))
def rd(x:List Int):List Int×Bool×Int :=
 if Lb.x1B x=false then(x,false,0)else if(pn x).2≠0 then(x,false,2048)else if allb ascb (pn x).1=true then(x,false,4096)else((pn x).1,true,0)
theorem z3Y{x}(h:Lb.x1B x=false):rd x=(x,false,0):=if_pos h
theorem q0C{x}(h:Lb.x1B x=true)(D:(pn x).2≠0):rd x=(x,false,2048):=by
 unfold rd;rw[if_neg s8h,if_pos D]
theorem q0B{x}(h:Lb.x1B x=true)(D:(pn x).2=0)(J:allb ascb (pn x).1=true):rd x=(x,false,4096):=by
 unfold rd;rw[if_neg s8h,if_neg n2N,if_pos J]
theorem rd_dec{x}(h:Lb.x1B x=true)(D:(pn x).2=0)(J:allb ascb (pn x).1=false):rd x=((pn x).1,true,0):=by
 unfold rd;rw[if_neg s8h,if_neg n2N,if_neg (by rw[J];exact e8M)]
theorem y8e{x}(h:Lb.x1B x=true):4<=x.length:=by
 match x,h with
 | [],h=>simp[Lb.x1B]at h
 | [a],h=>simp[Lb.x1B]at h
 | [a,b],h=>simp[Lb.x1B]at h
 | [a,b,c],h=>simp[Lb.x1B]at h
 | a::b::c::d::l,_=>simp
end Id
def y3D(w:World)(z:List Int)(e:Ending)(w':World):Prop:=e=.returned (.string (strOfNums z))/\Below w.heap.size w w'
theorem z1s{w xv X}(A:Sk .i32 w xv X)(S:X.length<=1000000000):Calls prog 29 #[xv] w (y3D w (Id.txt X)):=by
 have K:=O (encC xv X w A f6J);have D:Hid (Id.txt X=(Utf.encA 0 X).1):=rfl;obtain⟨B,M,rfl,_,_⟩:=A.shape;clear A S;generalize Utf.encA 0 X=r,Id.txt X=z at *;obtain⟨I,r2,r3⟩:=r;go_enter func29,ntmps29;go_wp2_with fail;refine c0m K fun Q b1=>?_;clear K;go_wp2;go_ret;obtain rfl:=V D;exact⟨rfl,b1⟩
theorem x1S{fn p q ty}(h:fn.results=#[.tmp q,.cell p ty]) tmps P w g v u(s:tmps.getD p undef=.pointer (some ⟨g,0,none⟩))(y:tmps.getD q undef=u)(f:(loadVar ty ⟨g,0,none⟩).run P w=.ok v w) :
  (results fn tmps).run P w=.ok (.tuple #[u,v]) w:=by
 have e:(results fn tmps).run P w=((asAddr (tmps.getD p undef)).run P w).andThen fun a w₁=>((loadVar ty a).run P w₁).andThen fun x w₂=>.ok (.tuple #[tmps.getD q undef,x]) w₂:=by
  simp only[results,h];simp[Sem.run_bind,Result.andThen]
 rw[e,s,y];simp[asAddr,Result.andThen,f]
theorem ld19{W g a b}(k:Od.Blk W g 111 [.bool a,.int .i64 b]):(loadVar 111 ⟨g,0,none⟩).run prog W=.ok (.agg #[.bool a,.int .i64 b]) W :=
 run_loadVar_mid (P:=prog) W g 0 111 [.bool a,.int .i64 b] _ (k.range 0) underlying111 (by rfl) f4x
theorem z9H ao n cap(H:4<=n)(I:n<=cap) W:(Instr.sliceAt 36 (.slice ao n cap) (some (.int .i64 4)) none none).run prog W=.ok (sliced ao 4 n cap 1) W:=by
 have Z:(4:Int)<=n:=f6J;by_cases y:cap=4
 ·subst y;obtain rfl:n=4:=f6J;go_simp
 ·go_simp
theorem z0h{K e w B}{v zs}(h:Ok K e w B v zs){g}(C:g<B) i x:Ok K e (w.setCell ⟨g,i,none⟩ x) B v zs :=
 ⟨h.1,h.2.1,h.2.2.kept (row:=some g) ⟨rfl,rfl,rfl,M7L,fun k G F=>heap_setCell_other w _ k x (fun e=>F n5N)⟩ (.inr fun e=>by have:=(h.row.lt g e).1;exact f6J)⟩
def RdB19(w:World)(xv:Value)(X:List Int)(r:List Int×Bool×Int)(e:Ending)(w':World):Prop :=
 Below w.heap.size w w'/\((∃c:Int,r=(X,false,c)/\e=.returned (.tuple #[xv,.agg #[.bool false,.int .i64 c]]))\/∃v Y,r=(Y,true,0)/\e=.returned (.tuple #[v,.agg #[.bool true,.int .i64 0]])/\Ok .i32 21 w' (w.heap.size+1) v Y)
theorem q0F{w xv X}(A:Sk .i32 w xv X)(hl:X.length<=200000000):Calls prog 69 #[xv] w (RdB19 w xv X (Id.rd X)):=by
 obtain⟨w0,ae⟩:∃w0,w.alloc (.cells #[.bool false,.int .i64 0] 111)=w0:=⟨_,rfl⟩;have T:Bw w w0:=(by rw[<- ae];exact t9C);have s0:w0.heap.size=w.heap.size+1:=(by rw[<- ae];exact M7M);have b:=O (z4U (A.below T))
 cases hcd:Lb.x1B X with
 | false =>
  rw[hcd]at b;have L:=O (Id.z3Y hcd);clear hcd;generalize Id.rd X=r at *;obtain⟨ao,M,rfl,af,H⟩:=A.shape;clear A;go_enter func69,ntmps69;go_wp2_with fail;refine c0m b fun Q b1=>?_;have k1:Od.Blk Q w.heap.size 111 [.bool false,.int .i64 0]:=(W1u:Od.Blk w0 w.heap.size 111 [.bool false,.int .i64 0]).below b1 f6J;have c0:=k1.cell (i:=0) rfl;have y:=k1.cell (i:=1) rfl;have a:=k1.frozen 0;have s:=k1.frozen 1;have f:=ld19 ((k1.set 0 (.bool false)).set 1 (.int .i64 0));have ab:=O (((bthen T b1).setCell (p:=⟨w.heap.size,0,none⟩) (l0r _) (.bool false)).setCell (p:=⟨w.heap.size,1,none⟩) (l0r _) (.int .i64 0));clear b b1 k1 T;go_wp2;exact bodyPost_ret (x1S rfl _ _ _ w.heap.size _ _ (by rfl) (by rfl) f) rfl ⟨V ab,.inl ⟨0,V L,rfl⟩⟩
 | true =>
  rw[hcd]at b;have h4:=Id.y8e hcd;have n:Hid (∀W k,Bw w W->Sk .i32 W k (X.drop 4)->Calls prog 29 #[k] W (y3D W (Id.txt (X.drop 4)))):=fun W k _ hy=>z1s hy P8P;have g:(Id.txt (X.drop 4)).length<=4*(X.drop 4).length:=Utf.x9i 0 _
  have HD:Hid (∀W,Calls prog 13 #[.string (strOfNums (Id.txt (X.drop 4)))] W (x1b W.heap.size W (Id.pn X))):=fun W=>by
   have:=x8m (strOfNums (Id.txt (X.drop 4))) W (by rw[strOfNums_size];simp at g;exact f6J);rwa [x8C (show Utf.Byt (Id.txt (X.drop 4))from Utf.y8t 0 _)]at this
  have E:Hid (∀W k Y,Sk .i32 W k Y->Calls prog 15 #[k] W (z1X W (allb ascb Y))):=fun W k Y hy=>y7z k Y W hy;have P:=fun h=>O (Id.q0C hcd h);have R2:=fun h t=>O (Id.q0B hcd h t);have R3:=fun h t=>O (Id.rd_dec hcd h t);clear g;have aj:=A;obtain⟨ao,M,rfl,af,H⟩:=A.shape
  obtain⟨k,aw,ai⟩:∃k,(∀W,(Instr.sliceAt 36 (.slice ao X.length M) (some (.int .i64 4)) none none).run prog W=.ok k W)/\Hid (∀W,Bw w W->Sk .i32 W k (X.drop 4)):=⟨_,z9H ao X.length M h4 af,fun W R=>by
   have:=(aj.cut (l:=4) (h:=X.length) (m:=M) h4 (l0r _) af (l0r _)).below R
   rwa [List.take_of_length_le M7M]at this⟩
  clear A aj hcd;generalize Id.rd X=r,Id.txt (X.drop 4)=tx at *;generalize hpn:Id.pn X=pn,X.drop 4=X4 at *;obtain⟨D,N⟩:=pn;go_enter func69,ntmps69;go_wp2_with fail;refine c0m b fun Q b1=>?_;have k1:Od.Blk Q w.heap.size 111 [.bool false,.int .i64 0]:=(W1u:Od.Blk w0 w.heap.size 111 [.bool false,.int .i64 0]).below b1 f6J;have K:=O (V n Q _ (bthen T b1) (V ai Q (bthen T b1)));have C:=bthen T b1;have ar:=b1.size;clear b b1 T n ai;go_wp2_with fail;refine c0m K fun w2 u=>?_;have o:=k1.below u f6J;have Z:=bthen C u;have F:=u.size;have j:=O (V HD w2);clear K k1 C u HD;go_wp2_with fail;refine(V j).mono ?_;rintro e G (⟨v,rfl,hr,ho,z⟩ | ⟨_,ag,rfl,z⟩)
  ·obtain rfl:N=0:=congrArg Prod.snd hr;have q:=O (V E G v D ho.sk);have S:=o.below z f6J;have c:=bthen Z z;have d:=z.size;have x:=O ho;clear j o Z z E hr P;obtain⟨am,J,rfl,_,_⟩:=ho.sk.shape;clear ho
   cases hb:allb ascb D with
   | true =>
    rw[hb]at q;have L:=R2 rfl hb;clear R2 R3 hb x;go_wp2_with fail;refine c0m q fun w4 U=>?_;have I:=S.below U f6J;have c0:=I.cell (i:=0) rfl;have y:=I.cell (i:=1) rfl;have a:=I.frozen 0;have s:=I.frozen 1;have f:=ld19 ((I.set 0 (.bool false)).set 1 (.int .i64 4096));have ab:=O (((bthen c U).setCell (p:=⟨w.heap.size,0,none⟩) (l0r _) (.bool false)).setCell (p:=⟨w.heap.size,1,none⟩) (l0r _) (.int .i64 4096));clear q U S I c;go_wp2;exact bodyPost_ret (x1S rfl _ _ _ w.heap.size _ _ (by rfl) (by rfl) f) rfl ⟨V ab,.inl ⟨4096,V L,rfl⟩⟩
   | false =>
    rw[hb]at q;have L:=R3 rfl hb;clear R2 R3 hb;go_wp2_with fail;refine c0m q fun w4 U=>?_;have I:=S.below U f6J;have c0:=I.cell (i:=0) rfl;have y:=I.cell (i:=1) rfl;have a:=I.frozen 0;have s:=I.frozen 1;have f:=ld19 ((I.set 0 (.bool true)).set 1 (.int .i64 0));have ab:=O (((bthen c U).setCell (p:=⟨w.heap.size,0,none⟩) (l0r _) (.bool true)).setCell (p:=⟨w.heap.size,1,none⟩) (l0r _) (.int .i64 0));have B:=O (z0h (z0h (((V x).below U).lower (f6J:w.heap.size+1<=w2.heap.size)) (f6J:w.heap.size<w.heap.size+1) 0 (.bool true)) (f6J:w.heap.size<w.heap.size+1) 1 (.int .i64 0));clear q U S I c x;go_wp2;exact bodyPost_ret (x1S rfl _ _ _ w.heap.size _ _ (by rfl) (by rfl) f) rfl ⟨V ab,.inr ⟨_,D,V L,rfl,V B⟩⟩
  ·have S:=o.below z f6J;have L:=P ag;have aq:(N != 0)=true:=(by simpa using ag);have c0:=S.cell (i:=0) rfl;have y:=S.cell (i:=1) rfl;have a:=S.frozen 0;have s:=S.frozen 1;have f:=ld19 ((S.set 0 (.bool false)).set 1 (.int .i64 2048));have ab:=O (((bthen Z z).setCell (p:=⟨w.heap.size,0,none⟩) (l0r _) (.bool false)).setCell (p:=⟨w.heap.size,1,none⟩) (l0r _) (.int .i64 2048));clear j o Z z E P R2 R3 S ag;go_wp2;exact bodyPost_ret (x1S rfl _ _ _ w.heap.size _ _ (by rfl) (by rfl) f) rfl ⟨V ab,.inl ⟨2048,V L,rfl⟩⟩
theorem Mu.put19{w B g cap}{xss:List (List Int)}{us}(S:us.length=xss.length)(J:w.ownsRow B 36 1 (.slice (some ⟨g,0,none⟩) xss.length cap) xss.length us)
  (L:∀i,i<xss.length->Ok .i32 21 w B (us.getD i undef) (xss.getD i [])) (D:∀i j b,i<j->j<xss.length->(us.getD i undef).ownBlock=some b->(us.getD j undef).ownBlock≠some b)
  {k} (G:k<xss.length) {u ys} (W:Ok .i32 21 w B u ys) (M:∀j,j<xss.length->j≠k->∀b,u.ownBlock=some b->(us.getD j undef).ownBlock≠some b) :
  Mu (w.setCell ⟨g,k,none⟩ u) B (w.setCell ⟨g,k,none⟩ u).heap.size (.slice (some ⟨g,0,none⟩) xss.length cap) (xss.set k ys):=by
 obtain⟨Z,C⟩:=J.stored k u;have F:∀v l,Ok .i32 21 w B v l->Ok .i32 21 (w.setCell ⟨g,k,none⟩ u) B v l:=fun _ _ h=>⟨h.1,h.2.1,h.2.2.kept C (x7C e8N h.2.2 J)⟩;have P:∀i,i≠k->(us.set k u).getD i undef=us.getD i undef:=fun i hi=>P2M;have E:(us.set k u).getD k undef=u:=(by simp[List.getD,List.getElem?_set_self (f6J:k<us.length)]);have N:∀i,i≠k->(xss.set k ys).getD i []=xss.getD i []:=fun i hi=>P2M;have I:(xss.set k ys).getD k []=ys:=(by simp[List.getD,List.getElem?_set_self G]);refine⟨us.set k u,by simp[S],E1x,fun i hi=>?_,fun i hi b Y=>?_,fun i j b p X Y=>?_⟩
 ·rw[List.length_set]at hi;by_cases A:i=k
  ·subst A;rw[E,I];exact F _ _ W
  ·rw[P i A,N i A];exact F _ _ (L i hi)
 ·rw[List.length_set]at hi;by_cases A:i=k
  ·subst A;rw[E]at Y;simpa using(W.row.lt b Y).2
  ·rw[P i A]at Y;simpa using((L i hi).row.lt b Y).2
 ·rw[List.length_set]at X;by_cases A:i=k
  ·subst A;rw[E]at Y;rw[P j f6J];exact M j X f6J b Y
  ·rw[P i A]at Y;by_cases K:j=k
   ·subst K;rw[E];exact fun H=>M i f6J A b H Y
   ·rw[P j K];exact D i j b p X Y
namespace Id
def rc(R:List (Bool×Int)):List Value:=R.flatMap fun r=>[.bool r.1,.int .i64 r.2]
theorem q0x R:(rc R).length=R.length*2:=by
 induction R with
 | nil=>rfl
 | cons r R ih=>simp only[rc,List.flatMap_cons,List.length_append,List.length_cons]at ih ⊢;rw[ih];exact f4R
theorem z7I R{k}(G:k<R.length):(rc R)[k*2]?=some (.bool (R.getD k (false,0)).1)/\(rc R)[k*2+1]?=some (.int .i64 (R.getD k (false,0)).2):=by
 induction R generalizing k with
 | nil=>simp at G
 | cons r R ih =>
  cases k with
  | zero=>simp[rc]
  | succ k =>
   have:=ih (k:=k) E9n;simpa[rc,Nat.succ_mul]using this
theorem q0z R k a b:((rc R).set (k*2) (.bool a)).set (k*2+1) (.int .i64 b)=rc (R.set k (a,b)):=by
 induction R generalizing k with
 | nil=>simp[rc]
 | cons r R ih =>
  cases k with
  | zero=>simp[rc]
  | succ k =>
   have:=ih k;simp only[rc,List.flatMap_cons,List.cons_append,List.nil_append,Nat.succ_mul,List.set_cons_succ]at this ⊢;rw[this]
theorem q0y n:(madeCells #[.bool false,.int .i64 0] (n*2)).toList=rc (List.replicate n (false,0)):=by
 refine List.ext_getElem? fun i=>?_;by_cases hi:i<n*2
 ·have y:i / 2<n:=f6J;have h:=z7I (List.replicate n (false,0)) (k:=i / 2) (by simpa using y);rcases Nat.mod_two_eq_zero_or_one i with h0 | h0
  ·rw[(f6J:i / 2*2=i)]at h;rw[h.1];simp[madeCells,hi,h0,y]
  ·rw[(f6J:i / 2*2+1=i)]at h;rw[h.2];simp[madeCells,hi,h0,y]
 ·rw[List.getElem?_eq_none (by simp[madeCells];exact f6J),List.getElem?_eq_none (by rw[q0x];exact P8P)]
end Id
theorem z6X:(prog.info? 111).map (fun i=>(i.zero,i.size,i.bytes))=some (some (.agg #[.bool false,.int .i64 0]),2,16):=f4x
theorem q0c(n:Nat) w(F:n<=3000000):∃W,(Instr.makeSlice 105 (.int .i64 (n:Int)) (.int .i64 (n:Int))).run prog w=.ok (.slice (some ⟨w.heap.size,0,none⟩) n n) W/\W.ownsRow w.heap.size 111 2 (.slice (some ⟨w.heap.size,0,none⟩) n n) n (Id.rc (List.replicate n (false,0)))/\w.grownBy W none:=by
 obtain⟨r,hi,d,Y,R⟩:=info_parts z6X;obtain⟨W,Z,D,J⟩:=run_makeSlice_full (P:=prog) w w.heap.size 105 111 r _ 2 underlying105 hi d Y .i64 .i64 n f6J s0M T7W (l0r _);exact⟨W,Z,by rw[<- Id.q0y];exact D,J⟩
theorem z7M{w xv X}(A:Sk .i32 w xv X)(S:X.length<=200000000):Calls prog 69 #[xv] w fun e w'=>∃u d c Y,Id.rd X=(Y,d,c)/\e=.returned (.tuple #[u,.agg #[.bool d,.int .i64 c]])/\Bw w w'/\((u=xv/\Y=X)\/Ok .i32 21 w' (w.heap.size+1) u Y) :=
 (q0F A S).mono fun e w' ⟨hb,h⟩=>by
  rcases h with⟨c,Z,D⟩ | ⟨v,Y,Z,D,J⟩
  ·exact⟨_,_,_,_,Z,D,hb,.inl ⟨rfl,rfl⟩⟩
  ·exact⟨_,_,_,_,Z,D,hb,.inr J⟩
namespace Id
def ys(xss:List (List Int))(k:Nat):List (List Int):=(xss.take k).map (fun x=>(rd x).1)++xss.drop k
def rs(xss:List (List Int))(k:Nat):List (Bool×Int):=(xss.take k).map (fun x=>(rd x).2)++List.replicate (xss.length-k) (false,0)
theorem q1w xss k:(ys xss k).length=xss.length:=by simp[ys];exact f6J
theorem q0J xss{k}(G:k<=xss.length):(rs xss k).length=xss.length:=by simp[rs];exact f6J
theorem ys_at xss{k}(G:k<xss.length):(ys xss k).getD k []=xss.getD k []:=by
 simp[ys,List.getD,List.getElem?_append_right,G,Nat.min_eq_left (Nat.le_of_lt G)]
theorem z8t xss{k}(G:k<xss.length){Y d c}(h:rd (xss.getD k [])=(Y,d,c)):(ys xss k).set k Y=ys xss (k+1):=by
 have e:xss.getD k []=xss[k]:=w8a;rw[e]at h;unfold ys;rw[List.set_append_right _ _ P8P,List.take_succ_eq_append_getElem G,List.map_append,List.drop_eq_getElem_cons G];simp only[List.length_map,List.length_take,Nat.min_eq_left (Nat.le_of_lt G),Nat.sub_self,List.set_cons_zero,List.map_cons,List.map_nil,h,List.append_assoc,List.cons_append,List.nil_append]
theorem z7Q xss{k}(G:k<xss.length){Y d c}(h:rd (xss.getD k [])=(Y,d,c)):(rs xss k).set k (d,c)=rs xss (k+1):=by
 have e:xss.getD k []=xss[k]:=w8a;rw[e]at h;unfold rs;rw[List.set_append_right _ _ P8P,List.take_succ_eq_append_getElem G,List.map_append,(f6J:xss.length-k=(xss.length-(k+1))+1),List.replicate_succ];simp[Nat.min_eq_left (Nat.le_of_lt G),h]
end Id
theorem x5E{w w' B n s e g cap}{xs}(h:w.ownsRow B e s (.slice (some ⟨g,0,none⟩) n cap) n xs)(Y:Bw w w'):w'.ownsRow B e s (.slice (some ⟨g,0,none⟩) n cap) n xs :=
 h.kept (row:=none) ⟨Y.os,Y.tape,Y.output,Y.size,fun k G _=>Y.block k G⟩ (.inr V3I)
theorem q0H{w:World}{B n s e g cap xs}(h:w.ownsRow B e s (.slice (some ⟨g,0,none⟩) n cap) n xs){q}(y:q≠g) i x:(w.setCell ⟨q,i,none⟩ x).ownsRow B e s (.slice (some ⟨g,0,none⟩) n cap) n xs :=
 h.kept (row:=some q) ⟨rfl,rfl,rfl,M7L,fun k G F=>heap_setCell_other w _ k x (fun e=>F n5N)⟩ (.inr (by simp[Value.ownBlock];exact f6J))
theorem Mu.put2_19{w B U v xss}(h:Mu w B U v xss){q e s n cap ys}{B2}(hr:w.ownsRow B2 e s (.slice (some ⟨q,0,none⟩) n cap) n ys)(Z:e≠36)(D:e≠21) i x:Mu (w.setCell ⟨q,i,none⟩ x) B U v xss:=by
 obtain⟨a,d,P,f,X,G⟩:=h;have C:=(hr.stored i x).2
 have F:∀{Y:TypeId} {m:Nat} {u:Value} {I:List Value} {E:Nat},e≠Y->w.ownsRow E Y 1 u m I->u.ownBlock=none\/u.ownBlock≠some q:=fun t h=>by
  rcases h.2 with⟨rfl,_⟩ | ⟨g,cap,Q,rfl,_,H,_⟩
  ·exact U3y
  ·refine .inr fun e=>?_;simp only[Value.ownBlock,Option.some.injEq]at e;subst e;rcases hr.2 with⟨R,_⟩ | ⟨S,A,J,R,_,T,_⟩
   ·cases R
   ·simp only[Value.slice.injEq,Option.some.injEq,Addr.mk.injEq]at R;obtain⟨⟨rfl,_⟩,_⟩:=R;rw[T]at H;simp only[Option.some.injEq,Obj.cells.injEq]at H;exact t H.2.1
 exact⟨a,d,P.kept C (F Z P),fun i hi=>⟨(f i hi).1,(f i hi).2.1,(f i hi).2.2.kept C (F D (f i hi).2.2)⟩,X,G⟩
def REB19(B:Nat)(w:World)(lv:Value)(xss:List (List Int))(e:Ending)(w':World):Prop :=
 ∃rv,e=.returned rv/\Mu w' B w'.heap.size lv (Id.ys xss xss.length)/\w'.ownsRow w.heap.size 111 2 rv xss.length (Id.rc (Id.rs xss xss.length))/\Below B w w'
theorem y6y{w B lv xss}(m:B<=w.heap.size)(hm:Mu w B w.heap.size lv xss)(h0:0<xss.length)(hn:xss.length<=3000000)(hl:∀x∈xss,x.length<=200000000):Calls prog 40 #[lv] w (REB19 B w lv xss):=by
 obtain⟨W1,s,R,N⟩:=q0c xss.length w hn
 have ag:Mu W1 B W1.heap.size lv xss:=by
  have am:Bw w W1:=(b0r).grown N (l0r _) (fun k e=>by cases e);obtain⟨us,a1,P,f,a4,t⟩:=hm.below am;exact⟨us,a1,P,f,fun i hi b hb=>((f i hi).row.lt b hb).2,t⟩
 have af:Below B w W1:=((b0r).grown N (l0r _) (fun k e=>by cases e)).mono m;have ai:w.heap.size<W1.heap.size:=(R.lt _ rfl).2
 obtain⟨g,cap,rfl,aD⟩:∃g cap,lv=.slice (some ⟨g,0,none⟩) xss.length cap/\xss.length<=cap:=by
  obtain⟨us,a1,P,_⟩:=hm;rcases P.2 with⟨_,h⟩ | ⟨g,cap,aF,h,_,_,D,_⟩
  ·omega
  ·exact⟨g,cap,h,D⟩
 have ab:Hid (Mu W1 B W1.heap.size (.slice (some ⟨g,0,none⟩) xss.length cap) (Id.ys xss 0)):=(by simpa[Id.ys,Hid]using ag);have S:Hid (W1.ownsRow w.heap.size 111 2 (.slice (some ⟨w.heap.size,0,none⟩) xss.length xss.length) xss.length (Id.rc (Id.rs xss 0))):=(by simpa[Id.rs,Hid]using R);have l:=O af;have HL:=O hl;have M:=O ai;clear hm ag R N af hl ai;go_enter func40,ntmps40;go_wp2;go_loopw[4,5,11] (fun _ _ iv wr=>∃k:Nat,iv=.int .i64 k/\k<=xss.length/\Mu wr B wr.heap.size (.slice (some ⟨g,0,none⟩) xss.length cap) (Id.ys xss k)/\wr.ownsRow w.heap.size 111 2 (.slice (some ⟨w.heap.size,0,none⟩) xss.length xss.length) xss.length (Id.rc (Id.rs xss k))/\Below B w wr/\w.heap.size<wr.heap.size) (fun _ _ iv _=>xss.length-(intOf iv).toNat)
 case atStart=>exact⟨0,rfl,f6J,V ab,V S,V l,V M⟩
 case round =>
  obtain⟨k,rfl,hk,L,q,J,aH⟩:=hrel;clear ab S l M s;by_cases E:k<xss.length
  ·have hL:(k:Int)<xss.length:=f6J;obtain⟨us,a1,P,f,a4,t⟩:=L;have n:=Id.q1w xss k;rw[n]at a1 P f a4 t;have aq:=(P.cellAt k f6J).trans (p0G:us[k]?=some (us.getD k undef));have o:=f k E;rw[Id.ys_at xss E]at o;have K:=O (z7M o.sk (V HL _ (by simp[List.getD,E])));obtain⟨xv,F⟩:∃xv,us.getD k undef=xv:=⟨_,rfl⟩;rw[F]at aq o K
   have v:Hid (∀Q u d c Y,Id.rd (xss.getD k [])=(Y,d,c)->Bw wr Q->((u=xv/\Y=xss.getD k [])\/Ok .i32 21 Q (wr.heap.size+1) u Y) ->
     (∃I cu,u=.slice I Y.length cu)/\(∃z,Q.cell? ⟨g,k,none⟩=some z)/\Q.frozen? ⟨g,k,none⟩=false/\(∃a b,(Q.setCell ⟨g,k,none⟩ u).cell? ⟨w.heap.size,k*2,none⟩=some (.bool a)/\(Q.setCell ⟨g,k,none⟩ u).cell? ⟨w.heap.size,k*2+1,none⟩=some (.int .i64 b))/\(Q.setCell ⟨g,k,none⟩ u).frozen? ⟨w.heap.size,k*2,none⟩=false/\(Q.setCell ⟨g,k,none⟩ u).frozen? ⟨w.heap.size,k*2+1,none⟩=false /\
     ∃W,(((Q.setCell ⟨g,k,none⟩ u).setCell ⟨w.heap.size,k*2,none⟩ (.bool d)).setCell ⟨w.heap.size,k*2+1,none⟩ (.int .i64 c))=W/\Mu W B W.heap.size (.slice (some ⟨g,0,none⟩) xss.length cap) (Id.ys xss (k+1))/\W.ownsRow w.heap.size 111 2 (.slice (some ⟨w.heap.size,0,none⟩) xss.length xss.length) xss.length (Id.rc (Id.rs xss (k+1)))/\Below B w W/\w.heap.size<W.heap.size):=by
    intro Q u d c Y C b1 hu;have r2:=x5E P b1;have rr:=x5E q b1
    have H:w.heap.size≠g:=by
     rintro rfl;rcases P.2 with⟨h',_⟩ | ⟨g',az,aB,h',_,T,_⟩
     ·cases h'
     ·rcases q.2 with⟨D,_⟩ | ⟨g2,aA,aC,D,_,A,_⟩
      ·cases D
      ·simp only[Value.slice.injEq,Option.some.injEq,Addr.mk.injEq]at h' D;obtain⟨⟨rfl,_⟩,_⟩:=h';obtain⟨⟨rfl,_⟩,_⟩:=D;rw[T]at A;simp at A
    have rq:=q0H rr (fun e=>H e.symm) k u;have y:=Id.z7I (Id.rs xss k) (k:=k) (by rw[Id.q0J xss hk];exact E)
    have gB:B<=g:=by
     have:=(P.lt g rfl).1;omega
    have aj:Below B w (((Q.setCell ⟨g,k,none⟩ u).setCell ⟨w.heap.size,k*2,none⟩ (.bool d)).setCell ⟨w.heap.size,k*2+1,none⟩ (.int .i64 c)) :=
     (((J.trans (b1.mono (by have:=J.size;exact f6J))).setCell (p:=⟨g,k,none⟩) gB u).setCell (p:=⟨w.heap.size,k*2,none⟩) m _).setCell (p:=⟨w.heap.size,k*2+1,none⟩) m _
    have G:=o.below b1
    have ae:Mu (Q.setCell ⟨g,k,none⟩ u) B (Q.setCell ⟨g,k,none⟩ u).heap.size (.slice (some ⟨g,0,none⟩) xss.length cap) ((Id.ys xss k).set k Y):=by
     have:=Mu.put19 (w:=Q) (B:=B) (g:=g) (cap:=cap) (xss:=Id.ys xss k) (us:=us) (by rw[n];exact a1) (by rw[n];exact r2) (fun i hi=>(f i f6J).below b1) (fun i j b ar hj=>t i j b ar f6J) (k:=k) f6J (u:=u) (ys:=Y)
      (by
       rcases hu with⟨rfl,rfl⟩ | hu
       ·exact G
       ·exact hu.lower (by have:=J.size;exact f6J))
      (fun j hj aG b hb=>by
       rcases hu with⟨rfl,rfl⟩ | hu
       ·rcases Nat.lt_or_ge j k with h | h
        ·intro D;exact t j k b h E D (by rw[F];exact hb)
        ·exact t k j b f6J f6J (by rw[F];exact hb)
       ·intro D;have:=(hu.row.lt b hb).1;have:=a4 j f6J b D
        omega)
     rw[n]at this;exact this
    rw[Id.z8t xss E C]at ae;have rz:=(rq.stored (k*2) (.bool d)).1
    have aw:∃I cu,u=.slice I Y.length cu:=by
     rcases hu with⟨rfl,rfl⟩ | hu
     ·obtain⟨ao,U,h,_⟩:=G.sk.shape;exact⟨ao,U,h⟩
     ·obtain⟨ao,U,h,_⟩:=hu.sk.shape;exact⟨ao,U,h⟩
    refine⟨aw,⟨_,(r2.cellAt k f6J).trans (p0G:us[k]?=some (us.getD k undef))⟩,r2.frozenAt k,⟨_,_,(rq.cellAt (k*2) f6J).trans y.1,(rq.cellAt (k*2+1) f6J).trans y.2⟩,rq.frozenAt _,rq.frozenAt _,_,rfl,?_,?_,aj,?_⟩
    ·have:=Mu.put2_19 (Mu.put2_19 ae rq e8N e8N (k*2) (.bool d)) rz e8N e8N (k*2+1) (.int .i64 c);exact W2O
    ·have:=(rz.stored (k*2+1) (.int .i64 c)).1;rwa [Id.q0z,Id.z7Q xss E C]at this
    ·have:=b1.size;simp;omega
   clear a1 P f a4 t q J o n F;generalize xss.getD k []=X at *;go_wp2_with fail;refine(V K).mono ?_;rintro e Q ⟨u,d,c,Y,C,rfl,b1,hu⟩;obtain⟨⟨I,cu,rfl⟩,⟨z,c0⟩,f0,⟨a,b,c1,c2⟩,f1,f2,W,hW,Z⟩:=V v Q u d c Y C b1 hu;have r:=O Z;clear K v C b1 hu Z;go_wp2
   go_roundw
   case rel=>exact⟨k+1,g2A,f6J,(V r).1,(V r).2.1,(V r).2.2.1,(V r).2.2.2⟩
   case measure=>exact g7W
  ·obtain rfl:k=xss.length:=f6J;have Z:=O L;have H2:=O q;have H3:=O J;clear L q J;go_wp2;go_ret;exact⟨_,rfl,V Z,V H2,V H3⟩
structure IdC(p:Nat)(fl:Int)(mp nc:List Int->List Int)(hr:List Int->Bool)(ck:List Int->Bool->Bool->Nat)(w0:World):Prop where
 map:∀W xv X,Below w0.heap.size w0 W->Sk .i32 W xv X->X.length<=16384->Calls prog 67 #[.pointer (some ⟨p,0,none⟩),xv,.int .i64 fl] W (y3z W (mp X))
 nfc:∀W xv X,Below w0.heap.size w0 W->Sk .i32 W xv X->X.length<=65536->Calls prog 34 #[.pointer (some ⟨p,0,none⟩),xv] W (fun e w'=>∃v,e=.returned (.tuple #[v,.int .i64 0])/\Ok .i32 21 w' W.heap.size v (nc X)/\Below W.heap.size W w')
 len:∀X,X.length<=65536->(nc X).length<=2097152
 dom:∀W lv Xs,Below w0.heap.size w0 W->x5G W lv Xs->Calls prog 42 #[.pointer (some ⟨p,0,none⟩),lv] W (x0g W (Xs.any hr))
 chk:∀W xv X rtl dec,Below w0.heap.size w0 W->Sk .i32 W xv X->X.length<=65536->Calls prog 74 #[.pointer (some ⟨p,0,none⟩),xv,.int .i64 fl,.bool rtl,.bool dec] W (IntB W ((ck X rtl dec:Nat):Int))
 lt:∀X rtl dec,ck X rtl dec<65536
 ms:∀X,(∀c∈X,Utf.okc c)->∀c∈mp X,Utf.okc c
 ns:∀X,(∀c∈X,Utf.okc c)->∀c∈nc X,Utf.okc c
theorem IdC.on{p fl mp nc hr}{ck w W}(h:IdC p fl mp nc hr ck w)(Y:Bw w W):IdC p fl mp nc hr ck W :=
 ⟨fun N u X R=>h.map N u X (bthen Y R),fun N u X R=>h.nfc N u X (bthen Y R),h.len,fun N H E R=>h.dom N H E (bthen Y R),fun N u X r d R=>h.chk N u X r d (bthen Y R),h.lt,h.ms,h.ns⟩
structure EngAt(w:World)(q:Nat)(fl:Int)(p:Nat):Prop where
 f:w.cell? ⟨q,0,none⟩=some (.int .i64 fl)
 d:w.cell? ⟨q,1,none⟩=some (.pointer (some ⟨p,0,none⟩))
theorem EngAt.on{w W q fl p}(h:EngAt w q fl p)(Y:Bw w W):EngAt W q fl p :=
 ⟨by rw[Y.cell (x0a h.f)];exact h.f,by rw[Y.cell (x0a h.d)];exact h.d⟩
theorem y2B fl w:Calls prog 26 #[.agg #[.int .i64 fl]] w (fun e w'=>e=.returned (.int .i64 fl)/\Bw w w'):=by
 go_enter func26,ntmps26;exact p9O
theorem q0d{W}{f:Nat}{A zs}(h:Calls prog f A W (y3z W zs)):Calls prog f A W (fun e w'=>∃v c,e=.returned (.tuple #[v,.int .i64 c])/\Bw W w'/\((c=0/\zs.length<=65536/\Ok .i32 21 w' W.heap.size v zs)\/(c=2/\65536<zs.length))) :=
 h.mono fun e w' ⟨hb,h⟩=>by
  rcases h with⟨Z,v,D,J⟩ | ⟨Z,D⟩
  ·exact⟨v,0,D,hb,.inl ⟨rfl,Z,J⟩⟩
  ·exact⟨_,2,D,hb,.inr ⟨rfl,Z⟩⟩
namespace Id
def cut(mp nc:List Int->List Int)(zs:List Int):List (List Int)×Nat :=
 if 16384<zs.length then([],2)else if(Utf.dec 0 zs).2.2≠0 then([],1)else if 65536<(mp (Utf.dec 0 zs).1).length then([],2)else(Spl.split (nc (mp (Utf.dec 0 zs).1)),0)
theorem z2G{mp nc zs}(h:16384<zs.length):cut mp nc zs=([],2):=if_pos h
theorem z6j{mp nc zs}(h:¬16384<zs.length)(D:(Utf.dec 0 zs).2.2≠0):cut mp nc zs=([],1):=by unfold cut;rw[if_neg h,if_pos D]
theorem z6k{mp nc zs}(h:¬16384<zs.length)(D:(Utf.dec 0 zs).2.2=0)(J:65536<(mp (Utf.dec 0 zs).1).length):cut mp nc zs=([],2):=by unfold cut;rw[if_neg h,if_neg n2N,if_pos J]
theorem z4V{mp nc zs}(h:¬16384<zs.length)(D:(Utf.dec 0 zs).2.2=0)(J:¬65536<(mp (Utf.dec 0 zs).1).length):cut mp nc zs=(Spl.split (nc (mp (Utf.dec 0 zs).1)),0):=by unfold cut;rw[if_neg h,if_neg n2N,if_neg J]
end Id
theorem Mu.lower19{w B B' U v xss}(h:Mu w B U v xss)(m:B'<=B):Mu w B' U v xss:=by
 obtain⟨a,d,P,f,X,t⟩:=h;refine⟨a,d,⟨P.1,?_⟩,fun i hi=>(f i hi).lower m,X,t⟩;rcases P.2 with h | ⟨g,M,Q,Z,D,J⟩
 ·exact .inl h
 ·exact .inr ⟨g,M,Q,Z,Nat.le_trans m D,J⟩
def z8E(w:World)(r:List (List Int)×Nat)(e:Ending)(w':World):Prop :=
 Below w.heap.size w w'/\((∃c:Nat,r=([],c)/\(c=1\/c=2)/\e=.returned (.tuple #[.slice none 0 0,.int .i64 (c:Int)]))\/∃v xss,r=(xss,0)/\e=.returned (.tuple #[v,.int .i64 0])/\Mu w' w.heap.size w'.heap.size v xss)
theorem cut19{p q fl mp nc hr}{ck w}(o:IdC p fl mp nc hr ck w)(S:EngAt w q fl p) s:Calls prog 39 #[.pointer (some ⟨q,0,none⟩),.string s] w (z8E w (Id.cut mp nc (nums s))):=by
 have G:=nums_length s;by_cases ab:16384<s.size
 ·have HE:=O (Id.z2G (mp:=mp) (nc:=nc) (zs:=nums s) f6J);have i:(16384:Int)<s.size:=f6J;clear o S G;generalize Id.cut mp nc (nums s)=r at *;go_enter func39,ntmps39;go_wp2;go_ret2;exact⟨b0r,.inl ⟨2,V HE,.inr rfl,rfl⟩⟩
 ·have i:¬((16384:Int)<s.size):=f6J;have n:=O (decC s w f6J);have R1:=fun h=>O (Id.z6j (mp:=mp) (nc:=nc) (zs:=nums s) f6J h);have g:=fun h t=>O (Id.z6k (mp:=mp) (nc:=nc) (zs:=nums s) f6J h t);have b:=fun h t=>O (Id.z4V (mp:=mp) (nc:=nc) (zs:=nums s) f6J h t)
  have N:(Utf.dec 0 (nums s)).1.length<=16384:=by
   rcases Utf.dec_shape (nums s).length 0 (nums s) (l0r _)with⟨_,_,h⟩ | ⟨q,h,_⟩
   ·omega
   ·rw[h];simp
  have KM:Hid (∀W xv,Bw w W->Sk .i32 W xv (Utf.dec 0 (nums s)).1->_):=fun W xv R hx=>q0d (o.map W xv _ R hx N);have KN:=O o.nfc;have B:=O o.len;have k:=O fun W (R:Bw w W)=>(S.on R).f;have Z:=O fun W (R:Bw w W)=>(S.on R).d;have P:=O (y2B fl);clear o S N ab G;generalize Id.cut mp nc (nums s)=r,Utf.dec 0 (nums s)=dd at *;obtain⟨xs,d2,d3⟩:=dd;go_enter func39,ntmps39;go_wp2_with fail;refine(V n).mono ?_;rintro e Q ⟨v,rfl,X,b1⟩;by_cases T:d3=0
  ·subst T;replace g:=g rfl;replace b:=b rfl;have l:=O b1;have I:Bw Q Q:=b0r;have D:=I.drew;have k:=O fun W (R:Bw Q W)=>V k W (bthen b1 R);have Z:=O fun W (R:Bw Q W)=>V Z W (bthen b1 R);have C:=O (fun W (R:Bw Q W)=>V KM W v (bthen b1 R) (X.sk.below R));obtain⟨ao,aj,rfl,_,_⟩:=X.sk.shape;clear n KM X R1 b1;go_wp2_with fail;go_region_held3(fun a=>a.cell? ⟨q,0,none⟩=some (.int .i64 fl)/\a.cell? ⟨q,1,none⟩=some (.pointer (some ⟨p,0,none⟩))/\Bw Q a) (first| exact⟨V k _ W8W,V Z _ W8W,W8W⟩|(have Y:=bthen D W8W;exact⟨V k _ Y,V Z _ Y,Y⟩) | go_keep) (first| (go_at_call 26;refine(V P _).mono ?_;rintro e w2 ⟨rfl,u⟩;have H:=bthen (W8W:Bw Q _) u)|(go_at_call 67;refine(V C _ W8W).mono ?_;rintro e w3 ⟨vm,cm,rfl,z,J⟩;have L:=bthen (W8W:Bw Q _) z));rcases J with⟨rfl,K,F⟩ | ⟨rfl,K⟩
   ·have HR:=b f6J;have c:=bthen (V l) L;have E:=O (V KN w3 vm _ c F.sk K);have G:=V B _ K;have y:=V Z w3 L;obtain⟨ag,af,rfl,_,_⟩:=F.sk.shape;clear C P KN B k Z g b D I H u F K z L l;generalize nc (mp xs)=nn at *;go_wp2_with fail;refine(V E).mono ?_;rintro e w4 ⟨v4,rfl,A,U⟩;have K5:=O (z4p v4 nn w4 A.sk f6J);obtain⟨ai,M,rfl,_,_⟩:=A.sk.shape;have j:=bthen c U;clear E y A U c;go_wp2_with fail;refine(V K5).mono ?_;rintro e w5 ⟨v5,rfl,ae,m⟩;have HM:=O (ae.lower19 j.size);have x:=O (bthen j m);clear K5 ae m j;go_wp2;go_ret2;exact⟨V x,.inr ⟨_,_,V HR,rfl,V HM⟩⟩
   ·have HR:=g K;have x:=O (bthen (V l) L);clear C P KN B k Z g b D I H u K z L l;go_wp2;go_ret2;exact⟨V x,.inl ⟨2,V HR,.inr rfl,rfl⟩⟩
  ·have HR:=R1 T;have am:(d3 != 0)=true:=(by simpa using T);have x:=O b1;clear n KM KN B k Z P X R1 g b T b1;go_wp2;go_ret2;exact⟨V x,.inl ⟨1,V HR,.inl rfl,rfl⟩⟩
namespace Id
def rdc(x:List Int):Nat:=(rd x).2.2.toNat
theorem rd_c x:(rd x).2.2=((rdc x:Nat):Int)/\rdc x<65536:=by
 unfold rdc rd;split
 ·exact⟨rfl,M7K⟩
 ·split
  ·exact⟨rfl,M7K⟩
  ·split
   ·exact⟨rfl,M7K⟩
   ·exact⟨rfl,M7K⟩
def wr(ck:List Int->Bool->Bool->Nat)(X:List Int)(c:Nat)(rtl dec:Bool):Nat:=if c=0 then ck X rtl dec else c
def wrong(ck:List Int->Bool->Bool->Nat)(rtl:Bool)(x:List Int):Nat:=wr ck (rd x).1 (rdc x) rtl (rd x).2.1
def acc(ck:List Int->Bool->Bool->Nat)(rtl:Bool)(xss:List (List Int)):Nat:=(xss.map (wrong ck rtl)).foldl (·|||·) 0
theorem y4S{ck}(h:∀X r d,ck X r d<65536) rtl x:wrong ck rtl x<65536:=by
 unfold wrong wr;split
 ·exact h _ _ _
 ·exact(rd_c x).2
theorem z1Z ck rtl xss x:acc ck rtl (xss++[x])=acc ck rtl xss|||wrong ck rtl x:=by simp[acc]
theorem x5p{ck}(h:∀X r d,ck X r d<65536) rtl xss:acc ck rtl xss<65536:=by
 suffices ∀(l:List Nat) (a:Nat),a<2^16->(∀z∈l,z<2^16)->l.foldl (·|||·) a<2^16 from this _ 0 e8M (fun z T=>by obtain⟨x,_,rfl⟩:=List.mem_map.1 T;exact y4S h rtl x)
 intro l
 induction l with
 | nil=>intro a g _;exact g
 | cons z l ih=>intro a g S;exact ih _ (Nat.or_lt_two_pow g (S z M7L)) (fun y hy=>S y M4u)
theorem z1Y{ck rtl}{xss:List (List Int)}{k}(G:k<xss.length):acc ck rtl (xss.take (k+1))=acc ck rtl (xss.take k)|||wrong ck rtl (xss.getD k []):=by
 rw[List.take_succ_eq_append_getElem G,z1Z];exact w7Y
theorem or19{a b:Nat}(g:a<65536)(Y:b<65536):bits .or .i64 (a:Int) (b:Int)=((a|||b:Nat):Int):=by
 have B:a|||b<2^16:=Nat.or_lt_two_pow g Y;exact V8W
def read(xss:List (List Int)):List (List Int):=xss.map fun x=>(rd x).1
theorem q1v xss:ys xss xss.length=read xss:=by simp[ys,read]
theorem q0I xss:rs xss xss.length=xss.map fun x=>(rd x).2:=by simp[rs]
theorem z0D f:∀(zs:List Int) (s:Pu.St),(Pu.x4X f zs s).1.length<=s.xs.length+f:=by
 induction f with
 | zero=>intro zs s;simp[Pu.x4X]
 | succ f ih =>
  intro zs s;rw[Pu.x4X];split
  ·simp
  ·split
   ·simp
   ·split
    ·simp
    ·split
     ·simp
     ·refine Nat.le_trans (ih _ _) ?_;have:∀(l:List Int) (p:Nat) (c:Int),(Pu.ins l p c).length=l.length+1:=fun l p c=>(by simp[Pu.ins];exact f6J);simp only[Pu.step,this];omega
theorem q0D x:(rd x).1.length<=8*x.length:=by
 have Z:(pn x).1.length<=8*x.length:=by
  unfold pn Pu.decode;have S:(txt (x.drop 4)).length<=4*(x.drop 4).length:=Utf.x9i 0 _;rw[List.length_drop]at S;split
  ·simp
  ·split
   ·simp
   ·refine Nat.le_trans (z0D _ _ _) ?_;have:((txt (x.drop 4)).take (Pu.x3F (txt (x.drop 4)) 0 0)).length<=(txt (x.drop 4)).length:=P8P;simp only[Pu.begin];omega
 unfold rd;split
 ·simp;omega
 ·split
  ·simp;omega
  ·split
   ·simp;omega
   ·exact Z
theorem x8J xss:Spl.total (read xss)<=8*Spl.total xss:=by
 induction xss with
 | nil=>simp[read,Spl.total]
 | cons x l ih =>
  have:=q0D x;simp only[read,Spl.total,List.map_cons,List.sum_cons]at ih ⊢;omega
def proc(mp nc:List Int->List Int)(hr:List Int->Bool)(ck:List Int->Bool->Bool->Nat)(zs:List Int):List (List Int)×Nat :=
 if(cut mp nc zs).2≠0 then([],(cut mp nc zs).2)else if 16384<cnt (Utf.encA 0 (Spl.join (read (cut mp nc zs).1)))then([],2)else(read (cut mp nc zs).1,acc ck ((read (cut mp nc zs).1).any hr) (cut mp nc zs).1)
theorem y8j{mp nc}(S:∀X:List Int,X.length<=65536->(nc X).length<=2097152){zs xss}(h:cut mp nc zs=(xss,0)):0<xss.length/\xss.length<=2097153/\Spl.total xss<=2097152:=by
 unfold cut at h;split at h
 ·simp at h
 ·split at h
  ·simp at h
  ·split at h
   ·simp at h
   ·obtain rfl:=(Prod.mk.inj h).1
    rename_i h3
    have Z:=S _ (Nat.le_of_not_lt h3);have D:=Spl.y6R [] (nc (mp (Utf.dec 0 zs).1));have H:=Spl.y3s [] (nc (mp (Utf.dec 0 zs).1));have K:=Spl.z1g [] (nc (mp (Utf.dec 0 zs).1));unfold Spl.split;exact⟨List.length_pos_iff.2 K,f6J,by simp at H;exact f6J⟩
end Id
theorem Mu.rws17{w B U v xss}(h:Mu w B U v xss)(S:xss.length<=1000000000):x5G w v xss:=by
 obtain⟨a,d,P,f,_,_⟩:=h;refine⟨S,?_⟩;rcases P.2 with⟨Z,D⟩ | ⟨g,M,Q,rfl,C,H,F,G,A,J⟩
 ·exact .inl ⟨D,none,0,by rw[Z],f6J⟩
 ·refine .inr ⟨g,0,M,rfl,F,V3H,fun i hi=>⟨a.getD i undef,?_,(f i hi).sk⟩⟩;rw[Nat.zero_add,P.cellAt i f6J];simp[List.getD,(f6J:i<a.length)]
theorem z8q{p q fl mp nc hr}{ck w}(o:IdC p fl mp nc hr ck w)(S:EngAt w q fl p){xv X}(A:Sk .i32 w xv X)(b:X.length<=65536)(c:Nat) d rtl :
  Calls prog 43 #[.pointer (some ⟨q,0,none⟩),xv,.agg #[.bool d,.int .i64 (c:Int)],.bool rtl] w (IntB w ((Id.wr ck X c rtl d:Nat):Int)):=by
 by_cases F:c=0
 ·subst F;have E:Id.wr ck X 0 rtl d=ck X rtl d:=if_pos rfl;rw[E];obtain⟨Q,T⟩:∃Q,w.alloc (.cells #[.bool d,.int .i64 0] 111)=Q:=⟨_,rfl⟩;have b1:Bw w Q:=(by rw[<- T];exact t9C);have M:Od.Blk Q w.heap.size 111 [.bool d,.int .i64 0]:=(by rw[<- T];exact Od.Blk.new w _ _ _ rfl);have I:Bw Q Q:=b0r;have D:=I.drew;have k:=O fun W (R:Bw Q W)=>(S.on (bthen b1 R)).f;have Z:=O fun W (R:Bw Q W)=>(S.on (bthen b1 R)).d;have J:=O fun W (R:Bw Q W)=>(M.below R M.lt).cell (i:=0) rfl;have y:=M.cell (i:=1) rfl;have K:=O fun W (R:Bw Q W)=>o.chk W xv X rtl d (bthen b1 R) (A.below (bthen b1 R)) b;have P:=O (y2B fl);have l:=O b1;obtain⟨B,N,rfl,_,_⟩:=A.shape;clear o S A E b1 M b;generalize ck X rtl d=z at *;go_enter func43,ntmps43;go_wp2_with fail;go_region_held3(fun a=>a.cell? ⟨q,0,none⟩=some (.int .i64 fl)/\a.cell? ⟨q,1,none⟩=some (.pointer (some ⟨p,0,none⟩))/\a.cell? ⟨w.heap.size,0,none⟩=some (.bool d)/\Bw Q a) (first| exact⟨V k _ W8V,V Z _ W8V,V J _ W8V,W8V⟩|(have Y:=bthen D W8V;exact⟨V k _ Y,V Z _ Y,V J _ Y,Y⟩) | go_keep) (first| (go_at_call 26;refine(V P _).mono ?_;rintro e t ⟨rfl,u⟩;have H:=bthen (W8V:Bw Q _) u)|(go_at_call 74;refine(V K _ W8V).mono ?_;rintro e G ⟨rfl,g⟩;have L:=bthen (W8V:Bw Q _) g));have x:=O (bthen (V l) L);clear K k Z J P H L u g D I l;go_wp2;go_ret;exact⟨rfl,V x⟩
 ·have E:Id.wr ck X c rtl d=c:=if_neg F;rw[E];have U:(((c:Nat):Int) != 0)=true:=i0O;obtain⟨B,N,rfl,_,_⟩:=A.shape;clear o S A E b F;generalize((c:Nat):Int)=z at *;go_enter func43,ntmps43;go_wp2;go_ret;exact⟨rfl,(b0r).alloc (l0r _) _⟩
namespace Id
def Snd(x:List Int):Prop:=∀c∈x,Utf.okc c
theorem y6O{x}(h:(Utf.encA 0 x).2.2=0):Snd x:=by
 rcases fb_enc 0 x with⟨_,_,Z⟩ | ⟨q,_,Z,_⟩
 ·exact Z
 ·rw[Z]at h;simp at h
theorem z6u i{x}(h:Snd x):(Utf.encA i x).2.2=0/\x.length<=(Utf.encA i x).1.length:=by
 induction x generalizing i with
 | nil=>exact⟨rfl,M7M⟩
 | cons c r ih =>
  have Z:=ih (i+1) (fun z T=>h z (by simp[T]));have D:=Utf.x4f c;rw[Utf.encA,if_pos (h c M7M),Utf.glue,if_pos Z.1];exact⟨rfl,P8P⟩
theorem y8c{x}(h:Snd x):(x.length:Int)<=cnt (Utf.encA 0 x):=by
 have:=z6u 0 h;unfold cnt;rw[if_pos this.1];omega
theorem z6n{zs}(Y:Utf.Byt zs)(h:(Utf.dec 0 zs).2.2=0):Snd (Utf.dec 0 zs).1 :=
 y6O (by rw[Utf.z6t zs.length 0 0 zs (l0r _) Y h])
theorem z1h{x}(h:Snd x){y}(hy:y∈Spl.split x):Snd y:=fun c I=>by
 rcases Spl.splitA_mem [] x y hy c I with h1 | h1
 ·cases h1
 ·exact h c h1
theorem ins_mem{l p c z}(h:z∈Pu.ins l p c):z∈l\/z=c:=by
 unfold Pu.ins at h;rcases List.mem_append.1 h with h | h
 ·exact .inl (List.mem_of_mem_take h)
 ·rcases List.mem_cons.1 h with h | h
  ·exact .inr h
  ·exact .inl (List.mem_of_mem_drop h)
theorem z0E f:∀(zs:List Int) (s:Pu.St),Snd s.xs->Snd (Pu.x4X f zs s).1:=by
 induction f with
 | zero=>intro zs s h;exact h
 | succ f ih =>
  intro zs s h;rw[Pu.x4X];split
  ·exact h
  ·split
   ·exact W3W
   ·split
    ·exact W3W
    ·split
     ·exact W3W
     ·rename_i h4
      refine ih _ _ fun c I=>?_;rcases ins_mem I with h1 | h1
      ·exact h c h1
      ·subst h1;exact Decidable.of_not_not h4
theorem z0g{z}(R:0<=z)(Z:z<128):Utf.okc z:=M1d
theorem q0E{x}(h:Snd x):Snd (rd x).1:=by
 unfold rd;split
 ·exact h
 ·split
  ·exact h
  ·split
   ·exact h
   ·show Snd (Pu.decode (txt (x.drop 4))).1;unfold Pu.decode;split
    ·exact W3W
    ·split
     ·exact W3W
     ·rename_i hb
      refine z0E _ _ _ fun c I=>?_;have o:c∈txt (x.drop 4):=List.mem_of_mem_take I;have A:Utf.Byt (txt (x.drop 4)):=Utf.y8t 0 _;have y:Pu.basicB (txt (x.drop 4))=true:=(by simpa using hb);unfold Pu.basicB at y;rw[List.all_eq_true]at y;exact z0g (A c o).1 (by simpa using y c o)
theorem x9x:∀{l:List (List Int)},(∀y∈l,Snd y)->Snd (Spl.join l)
 | [],_=>fun c hc=>by simp[Spl.join]at hc
 | [a],h=>by simpa[Spl.join]using h a M7L
 | a::b::l,h=>by
  rw[Spl.join_cons a M7L];intro c hc;rcases List.mem_append.1 hc with hc | hc
  ·exact h a M7L c hc
  ·rcases List.mem_cons.1 hc with hc | hc
   ·subst hc;exact z0g e8M e8M
   ·exact x9x (l:=b::l) (fun y hy=>h y F7M) c hc
theorem x9Z:∀(l:List (List Int)) (k:Nat),(l.getD k []).length<=(Spl.join l).length
 | [],k=>M7K
 | [a],k=>by cases k<;>simp[Spl.join]
 | a::b::l,k=>by
  rw[Spl.join_cons a M7K,List.length_append,List.length_cons]
  cases k with
  | zero=>simp
  | succ k=>have:=x9Z (b::l) k;simp only[List.getD_cons_succ];omega
theorem y8i{mp nc}(Z:∀X,Snd X->Snd (mp X))(D:∀X,Snd X->Snd (nc X)){zs}(Y:Utf.Byt zs){xss}(h:cut mp nc zs=(xss,0)):∀x∈xss,Snd x:=by
 unfold cut at h;split at h
 ·simp at h
 ·split at h
  ·simp at h
  ·split at h
   ·simp at h
   ·obtain rfl:=(Prod.mk.inj h).1
    rename_i h3 h4
    exact fun x A=>z1h (D _ (Z _ (z6n Y (by simpa using h3)))) A
theorem y4H{xss}(h:∀x∈xss,Snd x):∀y∈read xss,Snd y:=fun y hy=>by
 obtain⟨x,A,rfl⟩:=List.mem_map.1 hy;exact q0E (h x A)
end Id
namespace Id
theorem z0x{mp nc hr ck zs}{c}(h:cut mp nc zs=([],c))(I:c≠0):proc mp nc hr ck zs=([],c):=by unfold proc;rw[h,if_pos I]
theorem y4D{mp nc hr ck zs}{xss}(h:cut mp nc zs=(xss,0))(Y:16384<cnt (Utf.encA 0 (Spl.join (read xss)))):proc mp nc hr ck zs=([],2):=by unfold proc;rw[h,if_neg M7K,if_pos Y]
theorem z0y{mp nc hr ck zs}{xss}(h:cut mp nc zs=(xss,0))(Y:¬16384<cnt (Utf.encA 0 (Spl.join (read xss)))):proc mp nc hr ck zs=(read xss,acc ck ((read xss).any hr) xss):=by unfold proc;rw[h,if_neg M7K,if_neg Y]
end Id
def y7n(w:World)(r:List (List Int)×Nat)(e:Ending)(w':World):Prop :=
 Below w.heap.size w w'/\∃v,e=.returned (.tuple #[v,.int .i64 ((r.2:Nat):Int)])/\Mu w' w.heap.size w'.heap.size v r.1
theorem Mu.now19{w B U v xss}(h:Mu w B U v xss):Mu w B w.heap.size v xss:=by
 obtain⟨a,d,P,f,X,t⟩:=h;exact⟨a,d,P,f,fun i hi b Y=>((f i hi).row.lt b Y).2,t⟩
theorem y1v{p q fl mp nc hr}{ck w}(o:IdC p fl mp nc hr ck w)(S:EngAt w q fl p) s:Calls prog 17 #[.pointer (some ⟨q,0,none⟩),.string s] w (y7n w (Id.proc mp nc hr ck (nums s))):=by
 have K:=O (cut19 o S s);have R1:=fun c h t=>O (Id.z0x (mp:=mp) (nc:=nc) (hr:=hr) (ck:=ck) (zs:=nums s) (c:=c) h t);have R2:=fun xss h t=>O (Id.y4D (mp:=mp) (nc:=nc) (hr:=hr) (ck:=ck) (zs:=nums s) (xss:=xss) h t);have b:=fun xss h t=>O (Id.z0y (mp:=mp) (nc:=nc) (hr:=hr) (ck:=ck) (zs:=nums s) (xss:=xss) h t);have HX:=O fun xss=>Id.y8j (mp:=mp) o.len (zs:=nums s) (xss:=xss);generalize Id.proc mp nc hr ck (nums s)=r,hCT:Id.cut mp nc (nums s)=ct at *;go_enter func17,ntmps17;go_wp2_with fail;refine(V K).mono ?_;rintro e w1 ⟨b1,⟨c,m,hc,rfl⟩ | ⟨v,xss,m,rfl,ag⟩⟩
 ·have L:=R1 c m f6J;have aJ:((c:Int) != 0)=true:=(by rcases hc with rfl | rfl<;>rfl);have HB:=O b1;clear K R1 R2 b HX m hc b1 o S hCT;exact G3g
 ·obtain⟨x0,x1,x2⟩:=V HX xss m;have a:=O (Id.y8c (Id.x9x (Id.y4H (Id.y8i o.ms o.ns (x0T s) (hCT.trans m)))));clear hCT;have Q:(Id.read xss).length=xss.length:=(by simp[Id.read]);have aG:=Id.x8J xss
  have K2:=O (y6y b1.size ag x0 f6J (fun x hx=>by
   obtain⟨i,hi,rfl⟩:=List.getElem_of_mem hx;have:=Spl.z5r xss i;simp only[List.getD,List.getElem?_eq_getElem hi,Option.getD_some]at this
   omega))
  replace R2:=fun h=>R2 xss m h;replace b:=fun h=>b xss m h
  obtain⟨g,M,rfl⟩:∃g M,v=.slice (some ⟨g,0,none⟩) xss.length M:=by
   obtain⟨us,a1,P,_⟩:=ag;exact n7q
  clear K R1 HX m ag;go_wp2_with fail;refine(V K2).mono ?_;rintro e w2 ⟨rv,rfl,N,l,b2⟩;rw[Id.q1v]at N;rw[Id.q0I]at l;have Z:=b1.trans b2;have K3:=O (z9T _ (Id.read xss) w2 (N.rwsS f6J) f6J)
  obtain⟨g2,H,rfl⟩:∃g2 H,rv=.slice (some ⟨g2,0,none⟩) xss.length H:=by
   rcases l.2 with⟨_,h⟩ | ⟨g,M,aD,h,_⟩
   ·omega
   ·exact⟨g,M,h⟩
  have am:=O N;have ar:=O l;have F:=Spl.x9w (Id.read xss);clear K2 b1 b2 N l;go_wp2_with fail;refine(V K3).mono ?_;rintro e w3 ⟨v3,rfl,E,z⟩;have K4:=O (y0u v3 _ w3 E.sk f6J);have ab:=bthen Z z;have X:=O ((V am).below z).now19;have R:=O (x5E (V ar) z);obtain⟨aI,aH,rfl,_,_⟩:=E.sk.shape;clear K3 am ar Z z E;go_wp2_with fail;refine(V K4).mono ?_;rintro e w3 ⟨rfl,rfl⟩;clear K4;have D:=O (Id.x9Z (Id.read xss));generalize hcn:cnt (Utf.encA 0 (Spl.join (Id.read xss)))=cn at *;by_cases T:16384<cn
  ·have L:=R2 T;have HB:=O ab;clear a D R2 b hcn ab X R o S F;exact G3g
  ·have L:=b f6J
   have aj:Hid (∀k,((Id.read xss).getD k []).length<=65536):=fun k=>by
    have h1:=V D k;have h2:=V a;omega
   clear a D;have aw:=S.on ab;have y:=aw.d;have K5:=O (o.dom w3 _ _ ab ((V X).rws17 f6J));have ai:=O ab;have HE:=O S;have HC:=O o;clear R2 b hcn ab aw S o F;generalize(Id.read xss).any hr=rtl at *;go_wp2_with fail;refine c0m K5 fun w4 b4=>?_;have j:=bthen (V ai) b4;have C:=((V X).below b4).now19;have A:=x5E (V R) b4;have aq:=O C;have B:Hid (∀k,Id.acc ck rtl (xss.take k)<65536):=fun k=>Id.x5p (V HC).lt rtl _;have af:Hid (∀x,Id.wrong ck rtl x<65536):=fun x=>Id.y4S (V HC).lt rtl x
   have HG:Hid (∀k,k<xss.length->∀W,Bw w4 W->∃xv d c,W.cell? ⟨g,k,none⟩=some xv/\W.cell? ⟨g2,k*2,none⟩=some (.bool d)/\W.cell? ⟨g2,k*2+1,none⟩=some (.int .i64 c) /\
     Calls prog 43 #[.pointer (some ⟨q,0,none⟩),xv,.agg #[.bool d,.int .i64 c],.bool rtl] W (IntB W ((Id.wrong ck rtl (xss.getD k []):Nat):Int))):=by
    intro k G W hW;obtain⟨us,a1,P,a3,_⟩:=C.below hW;rw[Q]at a1 P a3;have hq:=Id.z7I (xss.map fun x=>(Id.rd x).2) (k:=k) (by simpa using G);have ho:=x5E A hW;have e1:(Id.read xss).getD k []=(Id.rd (xss.getD k [])).1:=(by simp[Id.read,List.getD,G]);have e2:(xss.map fun x=>(Id.rd x).2).getD k (false,0)=(Id.rd (xss.getD k [])).2:=w8c;rw[e2]at hq;have aA:=a3 k G;rw[e1]at aA
    have aF:(Id.rd (xss.getD k [])).1.length<=65536:=by
     have:=V aj k;rwa [e1]at this
    have:=z8q ((V HC).on (bthen j hW)) ((V HE).on (bthen j hW)) aA.sk aF (Id.rdc (xss.getD k [])) (Id.rd (xss.getD k [])).2.1 rtl;rw[<- (Id.rd_c (xss.getD k [])).1]at this;exact⟨_,_,_,(P.cellAt k f6J).trans (p0G:us[k]?=some (us.getD k undef)),(ho.cellAt (k*2) f6J).trans hq.1,(ho.cellAt (k*2+1) f6J).trans hq.2,this⟩
   have f:Hid (∀k,k<xss.length->Id.acc ck rtl (xss.take (k+1))=Id.acc ck rtl (xss.take k)|||Id.wrong ck rtl (xss.getD k [])):=fun k G=>Id.z1Y G;have ae:Hid (Id.acc ck rtl (xss.take xss.length)=Id.acc ck rtl xss):=(by rw[List.take_length];exact rfl);have u:=O j;clear K5 b4 ai X R HC HE y j C A aG Q aj;go_wp2;go_loopw[7,10,11,35] (fun bv _ _ iv wr=>∃k:Nat,bv=.int .i64 ((Id.acc ck rtl (xss.take k):Nat):Int)/\iv=.int .i64 k/\k<=xss.length/\Bw w4 wr) (fun _ _ _ iv _=>xss.length-(intOf iv).toNat)
   case atStart=>exact⟨0,rfl,rfl,f6J,b0r⟩
   case round =>
    obtain⟨k,rfl,rfl,G,J⟩:=hrel;by_cases aB:k<xss.length
    ·have hL:(k:Int)<xss.length:=f6J;obtain⟨xv,d,c,c0,y,c2,U⟩:=V HG k aB wr J
     have HO:Hid (bits .or .i64 ((Id.acc ck rtl (xss.take k):Nat):Int) ((Id.wrong ck rtl (xss.getD k []):Nat):Int)=((Id.acc ck rtl (xss.take (k+1)):Nat):Int)):=by
      rw[V f k aB];exact Id.or19 (V B k) (V af _)
     replace U:=O U;have Y:=O J;clear HG f B af ae J;generalize ha2:((Id.acc ck rtl (xss.take (k+1)):Nat):Int)=P,((Id.acc ck rtl (xss.take k):Nat):Int)=a1,((Id.wrong ck rtl (xss.getD k []):Nat):Int)=a3 at *;have ho:=V HO;have I:Hid (∀W,Bw w4 W->∃n:Nat,Value.int .i64 P=.int .i64 ((Id.acc ck rtl (xss.take n):Nat):Int)/\Value.int .i64 ((k:Int)+1)=.int .i64 n/\n<=xss.length/\Bw w4 W):=fun W hW=>⟨k+1,by rw[ha2],g2A,f6J,hW⟩;clear ha2 HO;go_wp2_with fail;refine c0m U fun w5 b5=>?_;have aC:=O (bthen (V Y) b5);clear U b5 Y c0 y c2;go_wp2
     go_roundw
     case rel=>exact V I _ (V aC)
     case measure=>exact g7T
    ·obtain rfl:k=xss.length:=f6J;have HB:=O (bthen (V u) J);have HM:=O ((V aq).below J).now19;have az:=V ae;rw[az];clear HG f B af ae J u aq az;go_wp2;go_ret2;obtain rfl:=V L;exact⟨V HB,_,rfl,V HM⟩
namespace Id
def ca(x:List Int):List Int×Bool:=if allb ascb x=true then(txt x,true)else if(Pu.encode x).2≠0 then([],false)else([120,110,45,45]++(Pu.encode x).1,true)
theorem z4S{x}(h:allb ascb x=true):ca x=(txt x,true):=if_pos h
theorem z8U{x}(h:allb ascb x=false)(D:(Pu.encode x).2≠0):ca x=([],false):=by unfold ca;rw[if_neg s8h,if_pos D]
theorem z4T{x}(h:allb ascb x=false)(D:(Pu.encode x).2=0):ca x=([120,110,45,45]++(Pu.encode x).1,true):=by unfold ca;rw[if_neg s8h,if_neg n2N]
def unf(v:Bool)(n m:Nat):Bool:=v&&(decide (n=0)||decide (m<n))
end Id
theorem x6L fl f w:Calls prog 25 #[.agg #[.int .i64 fl],.int .i64 f] w (x0g w (bits .and .i64 fl f==f)):=by
 generalize hz:(bits .and .i64 fl f==f)=z;go_enter func25,ntmps25;exact p9O
theorem z8n{q p fl w}(S:EngAt w q fl p) s(m:Nat):Calls prog 53 #[.pointer (some ⟨q,0,none⟩),.string s,.int .i64 (m:Int)] w (x0g w (Id.unf (bits .and .i64 fl 32==32) s.size m)):=by
 have K:=O (x6L fl 32 w);have X:=S.f;clear S;generalize(bits .and .i64 fl 32==32)=v at *
 cases v with
 | false =>
  have H:=O (show false=Id.unf false s.size m from rfl);generalize Id.unf false s.size m=u at *;go_enter func53,ntmps53;go_wp2_with fail;refine c0m K fun Q b1=>?_;clear K;go_wp2;go_ret;exact⟨congrArg Ending.returned (congrArg Value.bool (V H)),b1⟩
 | true =>
  by_cases R:s.size=0
  ·have H:Hid (true=Id.unf true s.size m):=(by simp[Id.unf,R,Hid]);have P:(((s.size:Nat):Int)==0)=true:=(by simp[R]);clear R;exact f6T
  ·have P:(((s.size:Nat):Int)==0)=false:=(by simpa using R);by_cases Z:m<s.size
   ·have H:Hid (true=Id.unf true s.size m):=(by simp[Id.unf,Z,Hid]);have i:(m:Int)<(s.size:Int):=f6J;clear R Z;exact f6T
   ·have H:Hid (decide (m<s.size)=Id.unf true s.size m):=(by simp[Id.unf,Z,R,Hid]);have i:¬((m:Int)<(s.size:Int)):=f6J;clear R Z;exact f6T
def z8A(w:World)(r:List Int×Bool)(e:Ending)(w':World):Prop:=e=.returned (.tuple #[.string (strOfNums r.1),.bool r.2])/\Below w.heap.size w w'
theorem y7O{w xv X}(A:Sk .i32 w xv X)(S:X.length<=1000000000)(D:∀W,Bw w W->Calls prog 100 #[xv] W (WrP W (Pu.encode X)))(T:(Pu.encode X).1.length<=1000000000):Calls prog 52 #[xv] w (z8A w (Id.ca X)):=by
 have q:=O (y7z xv X w A)
 cases hb:allb ascb X with
 | true =>
  rw[hb]at q;rw[Id.z4S hb];have l:=O fun W (R:Bw w W)=>z1s (A.below R) S;obtain⟨B,M,rfl,_,_⟩:=A.shape;clear A D hb S T;generalize Id.txt X=z at *;go_enter func52,ntmps52;go_wp2_with fail;refine c0m q fun Q b1=>?_;have K:=O (V l Q b1);clear q l;go_wp2_with fail;refine c0m K fun t u=>?_;have x:=O (bthen b1 u);clear K b1 u;go_wp2;go_ret2;exact⟨rfl,V x⟩
 | false =>
  rw[hb]at q;have P:=fun h=>O (Id.z8U hb h);have g:=fun h=>O (Id.z4T hb h);have Y:=O D;obtain⟨B,M,rfl,_,_⟩:=A.shape;have E:=O T;clear A D hb S T;generalize Id.ca X=r,Pu.encode X=F at *;obtain⟨s,c⟩:=F;go_enter func52,ntmps52;go_wp2_with fail;refine c0m q fun Q b1=>?_;have K:=O (V Y Q b1);clear q Y;go_wp2_with fail;refine c0m K fun t u=>?_;have x:=O (bthen b1 u);clear K b1 u;by_cases I:c=0
  ·subst I;replace g:=g rfl;have C:∀W,(Op.stringOp .add (⟨#[120,110,45,45]⟩:ByteArray) (strOfNums s)).run prog W=.ok (.string ((⟨#[120,110,45,45]⟩:ByteArray)++strOfNums s)) W:=fun W=>run_string_add_sum W _ _ (by have:=V E;rw[strOfNums_size];show 4+_<=_;exact f6J)
   have a:Hid ((⟨#[120,110,45,45]⟩:ByteArray)++strOfNums s=strOfNums ([120,110,45,45]++s)):=by
    show _=_;apply ByteArray.ext;apply Array.toList_inj.1;rw[ByteArray.data_append,Array.toList_append];simp[strOfNums]
   clear P E;go_wp2;go_ret2;obtain rfl:=V g;exact⟨by rw[V a];rfl,V x⟩
  ·have L:=P I;have U:(c != 0)=true:=v0B;clear P g I;go_wp2;go_ret2;obtain rfl:=V L;exact⟨rfl,V x⟩
namespace Id
def eb(v:Bool)(x:List Int):Nat:=if(ca x).2=false then 8192 else if unf v (ca x).1.length 63=true then 16384 else 0
def ea(v:Bool)(yss:List (List Int)):Nat:=(yss.map (eb v)).foldl (·|||·) 0
theorem z9v v x:eb v x<65536:=by
 unfold eb;split
 ·decide
 ·split
  ·decide
  ·decide
theorem y8s{v}{T:List (List Int)}{k}(G:k<T.length):ea v (T.take (k+1))=ea v (T.take k)|||eb v (T.getD k []):=by
 rw[List.take_succ_eq_append_getElem G,ea,ea,List.map_append,List.foldl_append];simp only[List.map_cons,List.map_nil,List.foldl_cons,List.foldl_nil,List.getD,List.getElem?_eq_getElem G,Option.getD_some]
theorem or_lt{l:List Nat}{a}(g:a<65536)(S:∀z∈l,z<65536):l.foldl (·|||·) a<65536:=by
 induction l generalizing a with
 | nil=>exact g
 | cons z l ih=>exact ih (Nat.or_lt_two_pow (n:=16) g (S z M7K)) (fun y hy=>S y M4u)
theorem z6s v yss:ea v yss<65536:=or_lt e8M (fun z T=>by obtain⟨x,_,rfl⟩:=List.mem_map.1 T;exact z9v v x)
def tx(yss:List (List Int))(k:Nat):List Value:=(yss.take k).map (fun y=>Value.string (strOfNums (ca y).1))++List.replicate (yss.length-k) (.string ⟨#[]⟩)
theorem tx_at yss{k}(G:k<yss.length):(tx yss k)[k]?=some (.string ⟨#[]⟩):=by
 unfold tx;rw[List.getElem?_append_right P8P];simp only[List.length_map,List.length_take,Nat.min_eq_left (Nat.le_of_lt G),Nat.sub_self,List.getElem?_replicate];rw[if_pos f6J]
theorem z8m yss{k}(G:k<yss.length):(tx yss k).set k (.string (strOfNums (ca (yss.getD k [])).1))=tx yss (k+1):=by
 unfold tx;rw[List.set_append_right _ _ P8P,List.take_succ_eq_append_getElem G,List.map_append,(f6J:yss.length-k=(yss.length-(k+1))+1),List.replicate_succ];simp[Nat.min_eq_left (Nat.le_of_lt G),List.getD,G]
theorem q1k yss:tx yss yss.length=yss.map fun y=>Value.string (strOfNums (ca y).1):=by simp[tx]
def whole(yss:List (List Int)):List Int:=Spl.join (yss.map fun y=>(ca y).1)
def carry(v:Bool)(yss:List (List Int)):List Int×Nat:=(whole yss,ea v yss|||(if unf v (whole yss).length 253=true then 32768 else 0)|||(if 16384<(whole yss).length then 2 else 0))
theorem z3o L:(strOfNums (Spl.join L)).data.toList=Lib.join (L.map fun l=>(strOfNums l).data.toList) [46]:=by
 induction L with
 | nil=>rfl
 | cons a l ih =>
  cases l with
  | nil=>simp[Spl.join,Lib.join_one]
  | cons b l =>
   rw[Spl.join_cons a M7K];have e:∀x y:List Int,(strOfNums (x++y)).data.toList=(strOfNums x).data.toList++(strOfNums y).data.toList:=fun x y=>(by simp[strOfNums]);have E:∀y:List Int,(strOfNums (46::y)).data.toList=46::(strOfNums y).data.toList:=fun y=>(by simp[strOfNums]);rw[e,E,ih];simp[Lib.join,List.intercalate]
end Id
