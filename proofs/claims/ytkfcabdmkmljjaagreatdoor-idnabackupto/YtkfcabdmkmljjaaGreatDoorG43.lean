/- Lemmas. -/
import Derived.Test.YtkfcabdmkmljjaaGreatDoorG33
import Derived.Test.YtkfcabdmkmljjaaGreatDoorG36
import Derived.Laws.OwnMore
import Derived.Test.YtkfcabdmkmljjaaGreatDoorG15
import Derived.Test.YtkfcabdmkmljjaaGreatDoorG1
import Derived.Deep.RegionHeld3
import Derived.Test.YtkfcabdmkmljjaaGreatDoorG45
import Derived.Lib.Join
set_option maxHeartbeats 2000000
set_option maxRecDepth 8000
namespace Go.Proofs.YtkfcabdmkmljjaaGreatDoor
open Go.Proofs.Tryz
open Go.RowKit
section
variable{p:Prop}
theorem p9O(h:p:=by go_wp2;go_ret;exact⟨rfl,(b0r).alloc (l0r _) _⟩):p:=h
theorem f6T(h:p:=by generalize Id.unf true s.size m=u at *;go_enter func53,ntmps53;go_wp2_with fail;refine c0m K fun Q b1=>?_;clear K;go_wp2;go_ret;exact⟨congrArg Ending.returned (congrArg Value.bool (V H)),b1⟩):p:=h
theorem W8W(h:p:=by assumption):p:=h
theorem n2N(h:p:=by rw[D];exact e8M):p:=h
theorem F7M(h:p:=by simp at hy ⊢;right;exact hy):p:=h
theorem P2M(h:p:=by simp[List.getD,List.getElem?_set_ne (fun e=>hi e.symm)]):p:=h
theorem m6f(h:p:=by go_wp2;go_ret2;obtain rfl:=V a;exact⟨V HB,_,rfl,Mu.nil _ _ _⟩):p:=h
theorem p0G(h:p:=by simp[List.getD,(f6J:k<us.length)]):p:=h
theorem m0B(h:p:=by rw[<- s];exact Od.Blk.new w _ _ _ rfl):p:=h
end
namespace Id
def txt(x:List Int):List Int:=(Utf.encA 0 x).1
def pn(x:List Int):List Int×Int:=Pu.decode (txt (x.drop 4))
def rd(x:List Int):List Int×Bool×Int :=
 if Lb.x1w x=false then(x,false,0)else if(pn x).2≠0 then(x,false,2048)else if allb ascb (pn x).1=true then(x,false,4096)else((pn x).1,true,0)
theorem y0d{x}(h:Lb.x1w x=false):rd x=(x,false,0):=if_pos h
theorem q0V{x}(h:Lb.x1w x=true)(D:(pn x).2≠0):rd x=(x,false,2048):=by
 unfold rd;rw[if_neg s8h,if_pos D]
theorem q0U{x}(h:Lb.x1w x=true)(D:(pn x).2=0)(J:allb ascb (pn x).1=true):rd x=(x,false,4096):=by
 unfold rd;rw[if_neg s8h,if_neg n2N,if_pos J]
theorem rd_dec{x}(h:Lb.x1w x=true)(D:(pn x).2=0)(J:allb ascb (pn x).1=false):rd x=((pn x).1,true,0):=by
 unfold rd;rw[if_neg s8h,if_neg n2N,if_neg (by rw[J];exact e8M)]
theorem y8s{x}(h:Lb.x1w x=true):4<=x.length:=by
 match x,h with
 | [],h=>simp[Lb.x1w]at h
 | [a],h=>simp[Lb.x1w]at h
 | [a,b],h=>simp[Lb.x1w]at h
 | [a,b,c],h=>simp[Lb.x1w]at h
 | a::b::c::d::l,_=>simp
end Id
def y3P(w:World)(z:List Int)(e:Ending)(w':World):Prop:=e=.returned (.string (strOfNums z))/\Below w.heap.size w w'
theorem z1F{w xv X}(A:Sk .i32 w xv X)(S:X.length<=1000000000):Calls prog 29 #[xv] w (y3P w (Id.txt X)):=by
 have K:=O (encC xv X w A f6J);have P:Hid (Id.txt X=(Utf.encA 0 X).1):=rfl;obtain⟨J,M,rfl,_,_⟩:=A.shape;clear A S;generalize Utf.encA 0 X=r,Id.txt X=z at *;obtain⟨I,r2,r3⟩:=r;go_enter func29,ntmps29;go_wp2_with fail;refine c0m K fun Q b1=>?_;clear K;go_wp2;go_ret;obtain rfl:=V P;exact⟨rfl,b1⟩
theorem x1U{fn p q ty}(h:fn.results=#[.tmp q,.cell p ty]) tmps P w g v u(s:tmps.getD p undef=.pointer (some ⟨g,0,none⟩))(d:tmps.getD q undef=u)(o:(loadVar ty ⟨g,0,none⟩).run P w=.ok v w) :
  (results fn tmps).run P w=.ok (.tuple #[u,v]) w:=by
 have e:(results fn tmps).run P w=((asAddr (tmps.getD p undef)).run P w).andThen fun a w₁=>((loadVar ty a).run P w₁).andThen fun x w₂=>.ok (.tuple #[tmps.getD q undef,x]) w₂:=by
  simp only[results,h];simp[Sem.run_bind,Result.andThen]
 rw[e,s,d];simp[asAddr,Result.andThen,o]
theorem ld19{W g a b}(k:Od.Blk W g 111 [.bool a,.int .i64 b]):(loadVar 111 ⟨g,0,none⟩).run prog W=.ok (.agg #[.bool a,.int .i64 b]) W :=
 run_loadVar_mid (P:=prog) W g 0 111 [.bool a,.int .i64 b] _ (k.range 0) underlying111 (by rfl) f4x
theorem q0e ao n cap(H:4<=n)(I:n<=cap) W:(Instr.sliceAt 36 (.slice ao n cap) (some (.int .i64 4)) none none).run prog W=.ok (sliced ao 4 n cap 1) W:=by
 have Z:(4:Int)<=n:=f6J;by_cases d:cap=4
 ·subst d;obtain rfl:n=4:=f6J;go_simp
 ·go_simp
theorem z0s{K e w B}{v zs}(h:Ok K e w B v zs){g}(C:g<B) i x:Ok K e (w.setCell ⟨g,i,none⟩ x) B v zs :=
 ⟨h.1,h.2.1,h.2.2.kept (row:=some g) ⟨rfl,rfl,rfl,M7L,fun k G F=>heap_setCell_other w _ k x (fun e=>F n5N)⟩ (.inr fun e=>by have:=(h.row.lt g e).1;exact f6J)⟩
def RdB19(w:World)(xv:Value)(X:List Int)(r:List Int×Bool×Int)(e:Ending)(w':World):Prop :=
 Below w.heap.size w w'/\((∃c:Int,r=(X,false,c)/\e=.returned (.tuple #[xv,.agg #[.bool false,.int .i64 c]]))\/∃v Y,r=(Y,true,0)/\e=.returned (.tuple #[v,.agg #[.bool true,.int .i64 0]])/\Ok .i32 21 w' (w.heap.size+1) v Y)
theorem q0Y{w xv X}(A:Sk .i32 w xv X)(hl:X.length<=200000000):Calls prog 69 #[xv] w (RdB19 w xv X (Id.rd X)):=by
 obtain⟨f,s⟩:∃f,w.alloc (.cells #[.bool false,.int .i64 0] 111)=f:=⟨_,rfl⟩;have q:Bw w f:=(by rw[<- s];exact t9C);have s0:f.heap.size=w.heap.size+1:=(by rw[<- s];exact M7N);have b:=O (z5k (A.below q))
 cases hcd:Lb.x1w X with
 | false =>
  rw[hcd]at b;have a:=O (Id.y0d hcd);clear hcd;generalize Id.rd X=r at *;obtain⟨J,M,rfl,H,af⟩:=A.shape;clear A;go_enter func69,ntmps69;go_wp2_with fail;refine c0m b fun Q b1=>?_;have k1:Od.Blk Q w.heap.size 111 [.bool false,.int .i64 0]:=(m0B:Od.Blk f w.heap.size 111 [.bool false,.int .i64 0]).below b1 f6J;have c0:=k1.cell (i:=0) rfl;have c1:=k1.cell (i:=1) rfl;have z:=k1.frozen 0;have f1:=k1.frozen 1;have o:=ld19 ((k1.set 0 (.bool false)).set 1 (.int .i64 0));have L:=O (((bthen q b1).setCell (p:=⟨w.heap.size,0,none⟩) (l0r _) (.bool false)).setCell (p:=⟨w.heap.size,1,none⟩) (l0r _) (.int .i64 0));clear b b1 k1 q;go_wp2;exact bodyPost_ret (x1U rfl _ _ _ w.heap.size _ _ (by rfl) (by rfl) o) rfl ⟨V L,.inl ⟨0,V a,rfl⟩⟩
 | true =>
  rw[hcd]at b;have h4:=Id.y8s hcd;have HT:Hid (∀W c,Bw w W->Sk .i32 W c (X.drop 4)->Calls prog 29 #[c] W (y3P W (Id.txt (X.drop 4)))):=fun W c _ hy=>z1F hy P8P;have ae:(Id.txt (X.drop 4)).length<=4*(X.drop 4).length:=Utf.x9q 0 _
  have HD:Hid (∀W,Calls prog 13 #[.string (strOfNums (Id.txt (X.drop 4)))] W (x1e W.heap.size W (Id.pn X))):=fun W=>by
   have:=y5O (strOfNums (Id.txt (X.drop 4))) W (by rw[strOfNums_size];simp at ae;exact f6J);rwa [x4V (show Utf.Byt (Id.txt (X.drop 4))from Utf.y2F 0 _)]at this
  have HA:Hid (∀W c Y,Sk .i32 W c Y->Calls prog 15 #[c] W (z2i W (allb ascb Y))):=fun W c Y hy=>z5d c Y W hy;have R1:=fun h=>O (Id.q0V hcd h);have E:=fun h D=>O (Id.q0U hcd h D);have R3:=fun h D=>O (Id.rd_dec hcd h D);clear ae;have n:=A;obtain⟨J,M,rfl,H,af⟩:=A.shape
  obtain⟨c,x,ab⟩:∃c,(∀W,(Instr.sliceAt 36 (.slice J X.length M) (some (.int .i64 4)) none none).run prog W=.ok c W)/\Hid (∀W,Bw w W->Sk .i32 W c (X.drop 4)):=⟨_,q0e J X.length M h4 H,fun W P=>by
   have:=(n.cut (l:=4) (h:=X.length) (m:=M) h4 (l0r _) H (l0r _)).below P
   rwa [List.take_of_length_le M7N]at this⟩
  clear A n hcd;generalize Id.rd X=r,Id.txt (X.drop 4)=tx at *;generalize hpn:Id.pn X=pn,X.drop 4=X4 at *;obtain⟨py,pe⟩:=pn;go_enter func69,ntmps69;go_wp2_with fail;refine c0m b fun Q b1=>?_;have k1:Od.Blk Q w.heap.size 111 [.bool false,.int .i64 0]:=(m0B:Od.Blk f w.heap.size 111 [.bool false,.int .i64 0]).below b1 f6J;have K:=O (V HT Q _ (bthen q b1) (V ab Q (bthen q b1)));have C:=bthen q b1;have N:=b1.size;clear b b1 q HT ab;go_wp2_with fail;refine c0m K fun T b2=>?_;have k2:=k1.below b2 f6J;have Z:=bthen C b2;have aj:=b2.size;have g:=O (V HD T);clear K k1 C b2 HD;go_wp2_with fail;refine(V g).mono ?_;rintro e w3 (⟨v,rfl,u,j,G⟩ | ⟨_,d,rfl,G⟩)
  ·obtain rfl:pe=0:=congrArg Prod.snd u;have t:=O (V HA w3 v py j.sk);have S:=k2.below G f6J;have F:=bthen Z G;have k:=G.size;have HO:=O j;clear g k2 Z G HA u R1;obtain⟨ag,y,rfl,_,_⟩:=j.sk.shape;clear j
   cases hb:allb ascb py with
   | true =>
    rw[hb]at t;have a:=E rfl hb;clear E R3 hb HO;go_wp2_with fail;refine c0m t fun R I=>?_;have U:=S.below I f6J;have c0:=U.cell (i:=0) rfl;have c1:=U.cell (i:=1) rfl;have z:=U.frozen 0;have f1:=U.frozen 1;have o:=ld19 ((U.set 0 (.bool false)).set 1 (.int .i64 4096));have L:=O (((bthen F I).setCell (p:=⟨w.heap.size,0,none⟩) (l0r _) (.bool false)).setCell (p:=⟨w.heap.size,1,none⟩) (l0r _) (.int .i64 4096));clear t I S U F;go_wp2;exact bodyPost_ret (x1U rfl _ _ _ w.heap.size _ _ (by rfl) (by rfl) o) rfl ⟨V L,.inl ⟨4096,V a,rfl⟩⟩
   | false =>
    rw[hb]at t;have a:=R3 rfl hb;clear E R3 hb;go_wp2_with fail;refine c0m t fun R I=>?_;have U:=S.below I f6J;have c0:=U.cell (i:=0) rfl;have c1:=U.cell (i:=1) rfl;have z:=U.frozen 0;have f1:=U.frozen 1;have o:=ld19 ((U.set 0 (.bool true)).set 1 (.int .i64 0));have L:=O (((bthen F I).setCell (p:=⟨w.heap.size,0,none⟩) (l0r _) (.bool true)).setCell (p:=⟨w.heap.size,1,none⟩) (l0r _) (.int .i64 0));have B:=O (z0s (z0s (((V HO).below I).lower (f6J:w.heap.size+1<=T.heap.size)) (f6J:w.heap.size<w.heap.size+1) 0 (.bool true)) (f6J:w.heap.size<w.heap.size+1) 1 (.int .i64 0));clear t I S U F HO;go_wp2;exact bodyPost_ret (x1U rfl _ _ _ w.heap.size _ _ (by rfl) (by rfl) o) rfl ⟨V L,.inr ⟨_,py,V a,rfl,V B⟩⟩
  ·have S:=k2.below G f6J;have a:=R1 d;have ai:(pe != 0)=true:=V6t;have c0:=S.cell (i:=0) rfl;have c1:=S.cell (i:=1) rfl;have z:=S.frozen 0;have f1:=S.frozen 1;have o:=ld19 ((S.set 0 (.bool false)).set 1 (.int .i64 2048));have L:=O (((bthen Z G).setCell (p:=⟨w.heap.size,0,none⟩) (l0r _) (.bool false)).setCell (p:=⟨w.heap.size,1,none⟩) (l0r _) (.int .i64 2048));clear g k2 Z G HA R1 E R3 S d;go_wp2;exact bodyPost_ret (x1U rfl _ _ _ w.heap.size _ _ (by rfl) (by rfl) o) rfl ⟨V L,.inl ⟨2048,V a,rfl⟩⟩
theorem Mu.put19{w B g cap}{xss:List (List Int)}{us}(q:us.length=xss.length)(Q:w.ownsRow B 36 1 (.slice (some ⟨g,0,none⟩) xss.length cap) xss.length us)
  (I:∀i,i<xss.length->Ok .i32 21 w B (us.getD i undef) (xss.getD i [])) (D:∀i j b,i<j->j<xss.length->(us.getD i undef).ownBlock=some b->(us.getD j undef).ownBlock≠some b)
  {k} (G:k<xss.length) {u ys} (d:Ok .i32 21 w B u ys) (F:∀j,j<xss.length->j≠k->∀b,u.ownBlock=some b->(us.getD j undef).ownBlock≠some b) :
  Mu (w.setCell ⟨g,k,none⟩ u) B (w.setCell ⟨g,k,none⟩ u).heap.size (.slice (some ⟨g,0,none⟩) xss.length cap) (xss.set k ys):=by
 obtain⟨Z,C⟩:=Q.stored k u;have M:∀v l,Ok .i32 21 w B v l->Ok .i32 21 (w.setCell ⟨g,k,none⟩ u) B v l:=fun _ _ h=>⟨h.1,h.2.1,h.2.2.kept C (x7K e8N h.2.2 Q)⟩;have t:∀i,i≠k->(us.set k u).getD i undef=us.getD i undef:=fun i hi=>P2M;have E:(us.set k u).getD k undef=u:=(by simp[List.getD,List.getElem?_set_self (f6J:k<us.length)]);have N:∀i,i≠k->(xss.set k ys).getD i []=xss.getD i []:=fun i hi=>P2M;have R:(xss.set k ys).getD k []=ys:=(by simp[List.getD,List.getElem?_set_self G]);refine⟨us.set k u,n9g,E1y,fun i hi=>?_,fun i hi b Y=>?_,fun i j b J X Y=>?_⟩
 ·rw[List.length_set]at hi;by_cases S:i=k
  ·subst S;rw[E,R];exact M _ _ d
  ·rw[t i S,N i S];exact M _ _ (I i hi)
 ·rw[List.length_set]at hi;by_cases S:i=k
  ·subst S;rw[E]at Y;simpa using(d.row.lt b Y).2
  ·rw[t i S]at Y;simpa using((I i hi).row.lt b Y).2
 ·rw[List.length_set]at X;by_cases S:i=k
  ·subst S;rw[E]at Y;rw[t j f6J];exact F j X f6J b Y
  ·rw[t i S]at Y;by_cases A:j=k
   ·subst A;rw[E];exact fun H=>F i f6J S b H Y
   ·rw[t j A];exact D i j b J X Y
namespace Id
def rc(R:List (Bool×Int)):List Value:=R.flatMap fun r=>[.bool r.1,.int .i64 r.2]
theorem q0Q R:(rc R).length=R.length*2:=by
 induction R with
 | nil=>rfl
 | cons r R ih=>simp only[rc,List.flatMap_cons,List.length_append,List.length_cons]at ih ⊢;rw[ih];exact f4R
theorem z8c R{k}(G:k<R.length):(rc R)[k*2]?=some (.bool (R.getD k (false,0)).1)/\(rc R)[k*2+1]?=some (.int .i64 (R.getD k (false,0)).2):=by
 induction R generalizing k with
 | nil=>simp at G
 | cons r R ih =>
  cases k with
  | zero=>simp[rc]
  | succ k =>
   have:=ih (k:=k) E9n;simpa[rc,Nat.succ_mul]using this
theorem q0S R k a b:((rc R).set (k*2) (.bool a)).set (k*2+1) (.int .i64 b)=rc (R.set k (a,b)):=by
 induction R generalizing k with
 | nil=>simp[rc]
 | cons r R ih =>
  cases k with
  | zero=>simp[rc]
  | succ k =>
   have:=ih k;simp only[rc,List.flatMap_cons,List.cons_append,List.nil_append,Nat.succ_mul,List.set_cons_succ]at this ⊢;rw[this]
theorem q0R n:(madeCells #[.bool false,.int .i64 0] (n*2)).toList=rc (List.replicate n (false,0)):=by
 refine List.ext_getElem? fun i=>?_;by_cases hi:i<n*2
 ·have d:i / 2<n:=f6J;have h:=z8c (List.replicate n (false,0)) (k:=i / 2) V6t;rcases Nat.mod_two_eq_zero_or_one i with h0 | h0
  ·rw[(f6J:i / 2*2=i)]at h;rw[h.1];simp[madeCells,hi,h0,d]
  ·rw[(f6J:i / 2*2+1=i)]at h;rw[h.2];simp[madeCells,hi,h0,d]
 ·rw[List.getElem?_eq_none (by simp[madeCells];exact f6J),List.getElem?_eq_none (by rw[q0Q];exact P8P)]
end Id
theorem z7o:(prog.info? 111).map (fun i=>(i.zero,i.size,i.bytes))=some (some (.agg #[.bool false,.int .i64 0]),2,16):=f4x
theorem q0v(n:Nat) w(F:n<=3000000):∃W,(Instr.makeSlice 105 (.int .i64 (n:Int)) (.int .i64 (n:Int))).run prog w=.ok (.slice (some ⟨w.heap.size,0,none⟩) n n) W/\W.ownsRow w.heap.size 111 2 (.slice (some ⟨w.heap.size,0,none⟩) n n) n (Id.rc (List.replicate n (false,0)))/\w.grownBy W none:=by
 obtain⟨i,hi,y,Y,m⟩:=info_parts z7o;obtain⟨W,Z,D,J⟩:=run_makeSlice_full (P:=prog) w w.heap.size 105 111 i _ 2 underlying105 hi y Y .i64 .i64 n f6J I5j T7W (l0r _);exact⟨W,Z,by rw[<- Id.q0R];exact D,J⟩
theorem z8g{w xv X}(A:Sk .i32 w xv X)(S:X.length<=200000000):Calls prog 69 #[xv] w fun e w'=>∃u d c Y,Id.rd X=(Y,d,c)/\e=.returned (.tuple #[u,.agg #[.bool d,.int .i64 c]])/\Bw w w'/\((u=xv/\Y=X)\/Ok .i32 21 w' (w.heap.size+1) u Y) :=
 (q0Y A S).mono fun e w' ⟨hb,h⟩=>by
  rcases h with⟨c,Z,D⟩ | ⟨v,Y,Z,D,J⟩
  ·exact⟨_,_,_,_,Z,D,hb,.inl ⟨rfl,rfl⟩⟩
  ·exact⟨_,_,_,_,Z,D,hb,.inr J⟩
namespace Id
def ys(xss:List (List Int))(k:Nat):List (List Int):=(xss.take k).map (fun x=>(rd x).1)++xss.drop k
def rs(xss:List (List Int))(k:Nat):List (Bool×Int):=(xss.take k).map (fun x=>(rd x).2)++List.replicate (xss.length-k) (false,0)
theorem q1O xss k:(ys xss k).length=xss.length:=by simp[ys];exact f6J
theorem q1c xss{k}(G:k<=xss.length):(rs xss k).length=xss.length:=by simp[rs];exact f6J
theorem ys_at xss{k}(G:k<xss.length):(ys xss k).getD k []=xss.getD k []:=by
 simp[ys,List.getD,List.getElem?_append_right,G,Nat.min_eq_left (Nat.le_of_lt G)]
theorem z8Q xss{k}(G:k<xss.length){Y d c}(h:rd (xss.getD k [])=(Y,d,c)):(ys xss k).set k Y=ys xss (k+1):=by
 have e:xss.getD k []=xss[k]:=w8a;rw[e]at h;unfold ys;rw[List.set_append_right _ _ P8P,List.take_succ_eq_append_getElem G,List.map_append,List.drop_eq_getElem_cons G];simp only[List.length_map,List.length_take,Nat.min_eq_left (Nat.le_of_lt G),Nat.sub_self,List.set_cons_zero,List.map_cons,List.map_nil,h,List.append_assoc,List.cons_append,List.nil_append]
theorem z8k xss{k}(G:k<xss.length){Y d c}(h:rd (xss.getD k [])=(Y,d,c)):(rs xss k).set k (d,c)=rs xss (k+1):=by
 have e:xss.getD k []=xss[k]:=w8a;rw[e]at h;unfold rs;rw[List.set_append_right _ _ P8P,List.take_succ_eq_append_getElem G,List.map_append,(f6J:xss.length-k=(xss.length-(k+1))+1),List.replicate_succ];simp[Nat.min_eq_left (Nat.le_of_lt G),h]
end Id
theorem x5E{w w' B n s e g cap}{xs}(h:w.ownsRow B e s (.slice (some ⟨g,0,none⟩) n cap) n xs)(Y:Bw w w'):w'.ownsRow B e s (.slice (some ⟨g,0,none⟩) n cap) n xs :=
 h.kept (row:=none) ⟨Y.os,Y.tape,Y.output,Y.size,fun k G _=>Y.block k G⟩ (.inr V3H)
theorem q1a{w:World}{B n s e g cap xs}(h:w.ownsRow B e s (.slice (some ⟨g,0,none⟩) n cap) n xs){q}(d:q≠g) i x:(w.setCell ⟨q,i,none⟩ x).ownsRow B e s (.slice (some ⟨g,0,none⟩) n cap) n xs :=
 h.kept (row:=some q) ⟨rfl,rfl,rfl,M7L,fun k G F=>heap_setCell_other w _ k x (fun e=>F n5N)⟩ (.inr (by simp[Value.ownBlock];exact f6J))
theorem Mu.put2_19{w B U v xss}(h:Mu w B U v xss){q e s n cap ys}{B2}(hr:w.ownsRow B2 e s (.slice (some ⟨q,0,none⟩) n cap) n ys)(Z:e≠36)(D:e≠21) i x:Mu (w.setCell ⟨q,i,none⟩ x) B U v xss:=by
 obtain⟨L,I,f,T,o,Q⟩:=h;have C:=(hr.stored i x).2
 have F:∀{Y:TypeId} {m:Nat} {u:Value} {A:List Value} {E:Nat},e≠Y->w.ownsRow E Y 1 u m A->u.ownBlock=none\/u.ownBlock≠some q:=fun y h=>by
  rcases h.2 with⟨rfl,_⟩ | ⟨g,cap,P,rfl,_,H,_⟩
  ·exact U3B
  ·refine .inr fun e=>?_;simp only[Value.ownBlock,Option.some.injEq]at e;subst e;rcases hr.2 with⟨R,_⟩ | ⟨S,t,G,R,_,r,_⟩
   ·cases R
   ·simp only[Value.slice.injEq,Option.some.injEq,Addr.mk.injEq]at R;obtain⟨⟨rfl,_⟩,_⟩:=R;rw[r]at H;simp only[Option.some.injEq,Obj.cells.injEq]at H;exact y H.2.1
 exact⟨L,I,f.kept C (F Z f),fun i hi=>⟨(T i hi).1,(T i hi).2.1,(T i hi).2.2.kept C (F D (T i hi).2.2)⟩,o,Q⟩
def REB19(B:Nat)(w:World)(lv:Value)(xss:List (List Int))(e:Ending)(w':World):Prop :=
 ∃rv,e=.returned rv/\Mu w' B w'.heap.size lv (Id.ys xss xss.length)/\w'.ownsRow w.heap.size 111 2 rv xss.length (Id.rc (Id.rs xss xss.length))/\Below B w w'
theorem y6L{w B lv xss}(hB:B<=w.heap.size)(hm:Mu w B w.heap.size lv xss)(h0:0<xss.length)(hn:xss.length<=3000000)(hl:∀x∈xss,x.length<=200000000):Calls prog 40 #[lv] w (REB19 B w lv xss):=by
 obtain⟨N,R,ae,M⟩:=q0v xss.length w hn
 have m:Mu N B N.heap.size lv xss:=by
  have am:Bw w N:=(b0r).grown M (l0r _) (fun k e=>by cases e);obtain⟨us,t,f,T,a4,a5⟩:=hm.below am;exact⟨us,t,f,T,fun i hi b hb=>((T i hi).row.lt b hb).2,a5⟩
 have ai:Below B w N:=((b0r).grown M (l0r _) (fun k e=>by cases e)).mono hB;have aj:w.heap.size<N.heap.size:=(ae.lt _ rfl).2
 obtain⟨g,cap,rfl,aA⟩:∃g cap,lv=.slice (some ⟨g,0,none⟩) xss.length cap/\xss.length<=cap:=by
  obtain⟨us,t,f,_⟩:=hm;rcases f.2 with⟨_,h⟩ | ⟨g,cap,aB,h,_,_,D,_⟩
  ·omega
  ·exact⟨g,cap,h,D⟩
 have af:Hid (Mu N B N.heap.size (.slice (some ⟨g,0,none⟩) xss.length cap) (Id.ys xss 0)):=(by simpa[Id.ys,Hid]using m);have S:Hid (N.ownsRow w.heap.size 111 2 (.slice (some ⟨w.heap.size,0,none⟩) xss.length xss.length) xss.length (Id.rc (Id.rs xss 0))):=(by simpa[Id.rs,Hid]using ae);have L:=O ai;have HL:=O hl;have ag:=O aj;clear hm m ae M ai hl aj;go_enter func40,ntmps40;go_wp2;go_loopw[4,5,11] (fun _ _ iv wr=>∃k:Nat,iv=.int .i64 k/\k<=xss.length/\Mu wr B wr.heap.size (.slice (some ⟨g,0,none⟩) xss.length cap) (Id.ys xss k)/\wr.ownsRow w.heap.size 111 2 (.slice (some ⟨w.heap.size,0,none⟩) xss.length xss.length) xss.length (Id.rc (Id.rs xss k))/\Below B w wr/\w.heap.size<wr.heap.size) (fun _ _ iv _=>xss.length-(intOf iv).toNat)
 case atStart=>exact⟨0,rfl,f6J,V af,V S,V L,V ag⟩
 case round =>
  obtain⟨k,rfl,hk,C,A,y,aD⟩:=hrel;clear af S L ag R;by_cases E:k<xss.length
  ·have hL:(k:Int)<xss.length:=f6J;obtain⟨us,t,f,T,a4,a5⟩:=C;have U:=Id.q1O xss k;rw[U]at t f T a4 a5;have n:=(f.cellAt k f6J).trans (p0G:us[k]?=some (us.getD k undef));have l:=T k E;rw[Id.ys_at xss E]at l;have K:=O (z8g l.sk (V HL _ N0g));obtain⟨xv,H⟩:∃xv,us.getD k undef=xv:=⟨_,rfl⟩;rw[H]at n l K
   have o:Hid (∀Q u d c Y,Id.rd (xss.getD k [])=(Y,d,c)->Bw wr Q->((u=xv/\Y=xss.getD k [])\/Ok .i32 21 Q (wr.heap.size+1) u Y) ->
     (∃au cu,u=.slice au Y.length cu)/\(∃z,Q.cell? ⟨g,k,none⟩=some z)/\Q.frozen? ⟨g,k,none⟩=false/\(∃a b,(Q.setCell ⟨g,k,none⟩ u).cell? ⟨w.heap.size,k*2,none⟩=some (.bool a)/\(Q.setCell ⟨g,k,none⟩ u).cell? ⟨w.heap.size,k*2+1,none⟩=some (.int .i64 b))/\(Q.setCell ⟨g,k,none⟩ u).frozen? ⟨w.heap.size,k*2,none⟩=false/\(Q.setCell ⟨g,k,none⟩ u).frozen? ⟨w.heap.size,k*2+1,none⟩=false /\
     ∃W,(((Q.setCell ⟨g,k,none⟩ u).setCell ⟨w.heap.size,k*2,none⟩ (.bool d)).setCell ⟨w.heap.size,k*2+1,none⟩ (.int .i64 c))=W/\Mu W B W.heap.size (.slice (some ⟨g,0,none⟩) xss.length cap) (Id.ys xss (k+1))/\W.ownsRow w.heap.size 111 2 (.slice (some ⟨w.heap.size,0,none⟩) xss.length xss.length) xss.length (Id.rc (Id.rs xss (k+1)))/\Below B w W/\w.heap.size<W.heap.size):=by
    intro Q u d c Y P b1 hu;have r2:=x5E f b1;have rr:=x5E A b1
    have s:w.heap.size≠g:=by
     rintro rfl;rcases f.2 with⟨h',_⟩ | ⟨g',ar,ay,h',_,r,_⟩
     ·cases h'
     ·rcases A.2 with⟨D,_⟩ | ⟨g2,aw,az,D,_,G,_⟩
      ·cases D
      ·simp only[Value.slice.injEq,Option.some.injEq,Addr.mk.injEq]at h' D;obtain⟨⟨rfl,_⟩,_⟩:=h';obtain⟨⟨rfl,_⟩,_⟩:=D;rw[r]at G;simp at G
    have q:=q1a rr (fun e=>s e.symm) k u;have hq:=Id.z8c (Id.rs xss k) (k:=k) (by rw[Id.q1c xss hk];exact E)
    have gB:B<=g:=by
     have:=(f.lt g rfl).1;omega
    have I:Below B w (((Q.setCell ⟨g,k,none⟩ u).setCell ⟨w.heap.size,k*2,none⟩ (.bool d)).setCell ⟨w.heap.size,k*2+1,none⟩ (.int .i64 c)) :=
     (((y.trans (b1.mono (by have:=y.size;exact f6J))).setCell (p:=⟨g,k,none⟩) gB u).setCell (p:=⟨w.heap.size,k*2,none⟩) hB _).setCell (p:=⟨w.heap.size,k*2+1,none⟩) hB _
    have ab:=l.below b1
    have F:Mu (Q.setCell ⟨g,k,none⟩ u) B (Q.setCell ⟨g,k,none⟩ u).heap.size (.slice (some ⟨g,0,none⟩) xss.length cap) ((Id.ys xss k).set k Y):=by
     have:=Mu.put19 (w:=Q) (B:=B) (g:=g) (cap:=cap) (xss:=Id.ys xss k) (us:=us) (by rw[U];exact t) (by rw[U];exact r2) (fun i hi=>(T i f6J).below b1) (fun i j b aq hj=>a5 i j b aq f6J) (k:=k) f6J (u:=u) (ys:=Y)
      (by
       rcases hu with⟨rfl,rfl⟩ | hu
       ·exact ab
       ·exact hu.lower (by have:=y.size;exact f6J))
      (fun j hj aC b hb=>by
       rcases hu with⟨rfl,rfl⟩ | hu
       ·rcases Nat.lt_or_ge j k with h | h
        ·intro D;exact a5 j k b h E D (by rw[H];exact hb)
        ·exact a5 k j b f6J f6J (by rw[H];exact hb)
       ·intro D;have:=(hu.row.lt b hb).1;have:=a4 j f6J b D
        omega)
     rw[U]at this;exact this
    rw[Id.z8Q xss E P]at F;have rz:=(q.stored (k*2) (.bool d)).1
    have v:∃au cu,u=.slice au Y.length cu:=by
     rcases hu with⟨rfl,rfl⟩ | hu
     ·obtain⟨J,cp,h,_⟩:=ab.sk.shape;exact⟨J,cp,h⟩
     ·obtain⟨J,cp,h,_⟩:=hu.sk.shape;exact⟨J,cp,h⟩
    refine⟨v,⟨_,(r2.cellAt k f6J).trans (p0G:us[k]?=some (us.getD k undef))⟩,r2.frozenAt k,⟨_,_,(q.cellAt (k*2) f6J).trans hq.1,(q.cellAt (k*2+1) f6J).trans hq.2⟩,q.frozenAt _,q.frozenAt _,_,rfl,?_,?_,I,?_⟩
    ·have:=Mu.put2_19 (Mu.put2_19 F q e8N e8N (k*2) (.bool d)) rz e8N e8N (k*2+1) (.int .i64 c);exact W2P
    ·have:=(rz.stored (k*2+1) (.int .i64 c)).1;rwa [Id.q0S,Id.z8k xss E P]at this
    ·have:=b1.size;simp;omega
   clear t f T a4 a5 A y l U H;generalize xss.getD k []=X at *;go_wp2_with fail;refine(V K).mono ?_;rintro e Q ⟨u,d,c,Y,P,rfl,b1,hu⟩;obtain⟨⟨au,cu,rfl⟩,⟨z,c0⟩,f0,⟨a,b,c1,c2⟩,f1,f2,W,hW,Z⟩:=V o Q u d c Y P b1 hu;have HH:=O Z;clear K o P b1 hu Z;go_wp2
   go_roundw
   case rel=>exact⟨k+1,g2B,f6J,(V HH).1,(V HH).2.1,(V HH).2.2.1,(V HH).2.2.2⟩
   case measure=>exact g7W
  ·obtain rfl:k=xss.length:=f6J;have Z:=O C;have H2:=O A;have H3:=O y;clear C A y;go_wp2;go_ret;exact⟨_,rfl,V Z,V H2,V H3⟩
structure IdC(p:Nat)(fl:Int)(mp nc:List Int->List Int)(hr:List Int->Bool)(ck:List Int->Bool->Bool->Nat)(w0:World):Prop where
 map:∀W xv X,Below w0.heap.size w0 W->Sk .i32 W xv X->X.length<=16384->Calls prog 67 #[.pointer (some ⟨p,0,none⟩),xv,.int .i64 fl] W (y3L W (mp X))
 nfc:∀W xv X,Below w0.heap.size w0 W->Sk .i32 W xv X->X.length<=65536->Calls prog 34 #[.pointer (some ⟨p,0,none⟩),xv] W (fun e w'=>∃v,e=.returned (.tuple #[v,.int .i64 0])/\Ok .i32 21 w' W.heap.size v (nc X)/\Below W.heap.size W w')
 len:∀X,X.length<=65536->(nc X).length<=2097152
 dom:∀W lv Xs,Below w0.heap.size w0 W->x5H W lv Xs->Calls prog 42 #[.pointer (some ⟨p,0,none⟩),lv] W (x0g W (Xs.any hr))
 chk:∀W xv X rtl dec,Below w0.heap.size w0 W->Sk .i32 W xv X->X.length<=65536->Calls prog 74 #[.pointer (some ⟨p,0,none⟩),xv,.int .i64 fl,.bool rtl,.bool dec] W (IntB W ((ck X rtl dec:Nat):Int))
 lt:∀X rtl dec,ck X rtl dec<65536
 ms:∀X,(∀c∈X,Utf.okc c)->∀c∈mp X,Utf.okc c
 ns:∀X,(∀c∈X,Utf.okc c)->∀c∈nc X,Utf.okc c
theorem IdC.on{p fl mp nc hr}{ck w W}(h:IdC p fl mp nc hr ck w)(Y:Bw w W):IdC p fl mp nc hr ck W :=
 ⟨fun R u X P=>h.map R u X (bthen Y P),fun R u X P=>h.nfc R u X (bthen Y P),h.len,fun R H E P=>h.dom R H E (bthen Y P),fun R u X r d P=>h.chk R u X r d (bthen Y P),h.lt,h.ms,h.ns⟩
structure EngAt(w:World)(q:Nat)(fl:Int)(p:Nat):Prop where
 f:w.cell? ⟨q,0,none⟩=some (.int .i64 fl)
 d:w.cell? ⟨q,1,none⟩=some (.pointer (some ⟨p,0,none⟩))
theorem EngAt.on{w W q fl p}(h:EngAt w q fl p)(Y:Bw w W):EngAt W q fl p :=
 ⟨by rw[Y.cell (x0a h.f)];exact h.f,by rw[Y.cell (x0a h.d)];exact h.d⟩
theorem y2O fl w:Calls prog 26 #[.agg #[.int .i64 fl]] w (fun e w'=>e=.returned (.int .i64 fl)/\Bw w w'):=by
 go_enter func26,ntmps26;exact p9O
theorem q0w{W}{f:Nat}{A zs}(h:Calls prog f A W (y3L W zs)):Calls prog f A W (fun e w'=>∃v c,e=.returned (.tuple #[v,.int .i64 c])/\Bw W w'/\((c=0/\zs.length<=65536/\Ok .i32 21 w' W.heap.size v zs)\/(c=2/\65536<zs.length))) :=
 h.mono fun e w' ⟨hb,h⟩=>by
  rcases h with⟨Z,v,D,J⟩ | ⟨Z,D⟩
  ·exact⟨v,0,D,hb,.inl ⟨rfl,Z,J⟩⟩
  ·exact⟨_,2,D,hb,.inr ⟨rfl,Z⟩⟩
namespace Id
def cut(mp nc:List Int->List Int)(zs:List Int):List (List Int)×Nat :=
 if 16384<zs.length then([],2)else if(Utf.dec 0 zs).2.2≠0 then([],1)else if 65536<(mp (Utf.dec 0 zs).1).length then([],2)else(Spl.split (nc (mp (Utf.dec 0 zs).1)),0)
theorem z2S{mp nc zs}(h:16384<zs.length):cut mp nc zs=([],2):=if_pos h
theorem z6B{mp nc zs}(h:¬16384<zs.length)(D:(Utf.dec 0 zs).2.2≠0):cut mp nc zs=([],1):=by unfold cut;rw[if_neg h,if_pos D]
theorem z6C{mp nc zs}(h:¬16384<zs.length)(D:(Utf.dec 0 zs).2.2=0)(J:65536<(mp (Utf.dec 0 zs).1).length):cut mp nc zs=([],2):=by unfold cut;rw[if_neg h,if_neg n2N,if_pos J]
theorem y4h{mp nc zs}(h:¬16384<zs.length)(D:(Utf.dec 0 zs).2.2=0)(J:¬65536<(mp (Utf.dec 0 zs).1).length):cut mp nc zs=(Spl.split (nc (mp (Utf.dec 0 zs).1)),0):=by unfold cut;rw[if_neg h,if_neg n2N,if_neg J]
end Id
theorem Mu.lower19{w B B' U v xss}(h:Mu w B U v xss)(l:B'<=B):Mu w B' U v xss:=by
 obtain⟨L,t,f,T,o,Q⟩:=h;refine⟨L,t,⟨f.1,?_⟩,fun i hi=>(T i hi).lower l,o,Q⟩;rcases f.2 with h | ⟨g,M,P,Z,D,J⟩
 ·exact .inl h
 ·exact .inr ⟨g,M,P,Z,Nat.le_trans l D,J⟩
def z9b(w:World)(r:List (List Int)×Nat)(e:Ending)(w':World):Prop :=
 Below w.heap.size w w'/\((∃c:Nat,r=([],c)/\(c=1\/c=2)/\e=.returned (.tuple #[.slice none 0 0,.int .i64 (c:Int)]))\/∃v xss,r=(xss,0)/\e=.returned (.tuple #[v,.int .i64 0])/\Mu w' w.heap.size w'.heap.size v xss)
theorem cut19{p q fl mp nc hr}{ck w}(H:IdC p fl mp nc hr ck w)(j:EngAt w q fl p) s:Calls prog 39 #[.pointer (some ⟨q,0,none⟩),.string s] w (z9b w (Id.cut mp nc (nums s))):=by
 have l:=nums_length s;by_cases K:16384<s.size
 ·have HE:=O (Id.z2S (mp:=mp) (nc:=nc) (zs:=nums s) f6J);have hL:(16384:Int)<s.size:=f6J;clear H j l;generalize Id.cut mp nc (nums s)=r at *;go_enter func39,ntmps39;go_wp2;go_ret2;exact⟨b0r,.inl ⟨2,V HE,.inr rfl,rfl⟩⟩
 ·have hL:¬((16384:Int)<s.size):=f6J;have KD:=O (decC s w f6J);have R1:=fun h=>O (Id.z6B (mp:=mp) (nc:=nc) (zs:=nums s) f6J h);have E:=fun h h'=>O (Id.z6C (mp:=mp) (nc:=nc) (zs:=nums s) f6J h h');have U:=fun h h'=>O (Id.y4h (mp:=mp) (nc:=nc) (zs:=nums s) f6J h h')
  have z:(Utf.dec 0 (nums s)).1.length<=16384:=by
   rcases Utf.dec_shape (nums s).length 0 (nums s) (l0r _)with⟨_,_,h⟩ | ⟨q,h,_⟩
   ·omega
   ·rw[h];simp
  have C:Hid (∀W u,Bw w W->Sk .i32 W u (Utf.dec 0 (nums s)).1->_):=fun W u P hx=>q0w (H.map W u _ P hx z);have KN:=O H.nfc;have i:=O H.len;have N:=O fun W (P:Bw w W)=>(j.on P).f;have Z:=O fun W (P:Bw w W)=>(j.on P).d;have b:=O (y2O fl);clear H j z K l;generalize Id.cut mp nc (nums s)=r,Utf.dec 0 (nums s)=dd at *;obtain⟨xs,d2,d3⟩:=dd;go_enter func39,ntmps39;go_wp2_with fail;refine(V KD).mono ?_;rintro e Q ⟨v,rfl,ho,b1⟩;by_cases T:d3=0
  ·subst T;replace E:=E rfl;replace U:=U rfl;have L:=O b1;have I:Bw Q Q:=b0r;have g:=I.drew;have N:=O fun W (P:Bw Q W)=>V N W (bthen b1 P);have Z:=O fun W (P:Bw Q W)=>V Z W (bthen b1 P);have D:=O (fun W (P:Bw Q W)=>V C W v (bthen b1 P) (ho.sk.below P));obtain⟨ao,M,rfl,_,_⟩:=ho.sk.shape;clear KD C ho R1 b1;go_wp2_with fail;go_region_held3(fun o=>o.cell? ⟨q,0,none⟩=some (.int .i64 fl)/\o.cell? ⟨q,1,none⟩=some (.pointer (some ⟨p,0,none⟩))/\Bw Q o) (first| exact⟨V N _ W8W,V Z _ W8W,W8W⟩|(have Y:=bthen g W8W;exact⟨V N _ Y,V Z _ Y,Y⟩) | go_keep) (first| (go_at_call 26;refine(V b _).mono ?_;rintro e w2 ⟨rfl,m⟩;have ab:=bthen (W8W:Bw Q _) m)|(go_at_call 67;refine(V D _ W8W).mono ?_;rintro e w3 ⟨vm,cm,rfl,b3,R⟩;have t:=bthen (W8W:Bw Q _) b3));rcases R with⟨rfl,c,J⟩ | ⟨rfl,c⟩
   ·have a:=U f6J;have F:=bthen (V L) t;have k:=O (V KN w3 vm _ F J.sk c);have l:=V i _ c;have X:=V Z w3 t;obtain⟨af,y,rfl,_,_⟩:=J.sk.shape;clear D b KN i N Z E U g I ab m J c b3 t L;generalize nc (mp xs)=nn at *;go_wp2_with fail;refine(V k).mono ?_;rintro e w4 ⟨n,rfl,B,b4⟩;have A:=O (z4E n nn w4 B.sk f6J);obtain⟨ag,ae,rfl,_,_⟩:=B.sk.shape;have S:=bthen F b4;clear k X B b4 F;go_wp2_with fail;refine(V A).mono ?_;rintro e w5 ⟨v5,rfl,G,b5⟩;have HM:=O (G.lower19 S.size);have x:=O (bthen S b5);clear A G b5 S;go_wp2;go_ret2;exact⟨V x,.inr ⟨_,_,V a,rfl,V HM⟩⟩
   ·have a:=E c;have x:=O (bthen (V L) t);clear D b KN i N Z E U g I ab m c b3 t L;go_wp2;go_ret2;exact⟨V x,.inl ⟨2,V a,.inr rfl,rfl⟩⟩
  ·have a:=R1 T;have ai:(d3 != 0)=true:=(by simpa using T);have x:=O b1;clear KD C KN i N Z b ho R1 E U T b1;go_wp2;go_ret2;exact⟨V x,.inl ⟨1,V a,.inl rfl,rfl⟩⟩
namespace Id
def rdc(x:List Int):Nat:=(rd x).2.2.toNat
theorem rd_c x:(rd x).2.2=((rdc x:Nat):Int)/\rdc x<65536:=by
 unfold rdc rd;split
 ·exact⟨rfl,M7K⟩
 ·split
  ·exact⟨rfl,M7K⟩
  ·split
   ·exact⟨rfl,M7K⟩
   ·exact⟨rfl,M7K⟩
def wr(ck:List Int->Bool->Bool->Nat)(X:List Int)(c:Nat)(rtl dec:Bool):Nat:=if c=0 then ck X rtl dec else c
def wrong(ck:List Int->Bool->Bool->Nat)(rtl:Bool)(x:List Int):Nat:=wr ck (rd x).1 (rdc x) rtl (rd x).2.1
def acc(ck:List Int->Bool->Bool->Nat)(rtl:Bool)(xss:List (List Int)):Nat:=(xss.map (wrong ck rtl)).foldl (·|||·) 0
theorem y5g{ck}(h:∀X r d,ck X r d<65536) rtl x:wrong ck rtl x<65536:=by
 unfold wrong wr;split
 ·exact h _ _ _
 ·exact(rd_c x).2
theorem z2k ck rtl xss x:acc ck rtl (xss++[x])=acc ck rtl xss|||wrong ck rtl x:=by simp[acc]
theorem x5q{ck}(h:∀X r d,ck X r d<65536) rtl xss:acc ck rtl xss<65536:=by
 suffices ∀(l:List Nat) (a:Nat),a<2^16->(∀z∈l,z<2^16)->l.foldl (·|||·) a<2^16 from this _ 0 e8M (fun z T=>by obtain⟨x,_,rfl⟩:=List.mem_map.1 T;exact y5g h rtl x)
 intro l
 induction l with
 | nil=>intro a A _;exact A
 | cons z l ih=>intro a A S;exact ih _ (Nat.or_lt_two_pow A (S z M7L)) (fun y hy=>S y (by simp[hy]))
theorem z2j{ck rtl}{xss:List (List Int)}{k}(G:k<xss.length):acc ck rtl (xss.take (k+1))=acc ck rtl (xss.take k)|||wrong ck rtl (xss.getD k []):=by
 rw[List.take_succ_eq_append_getElem G,z2k];exact w7Y
theorem or19{a b:Nat}(d:a<65536)(Y:b<65536):bits .or .i64 (a:Int) (b:Int)=((a|||b:Nat):Int):=by
 have B:a|||b<2^16:=Nat.or_lt_two_pow d Y;exact V8W
def read(xss:List (List Int)):List (List Int):=xss.map fun x=>(rd x).1
theorem q1N xss:ys xss xss.length=read xss:=by simp[ys,read]
theorem q1b xss:rs xss xss.length=xss.map fun x=>(rd x).2:=by simp[rs]
theorem z0N f:∀(zs:List Int) (s:Pu.St),(Pu.x4Z f zs s).1.length<=s.xs.length+f:=by
 induction f with
 | zero=>intro zs s;simp[Pu.x4Z]
 | succ f ih =>
  intro zs s;rw[Pu.x4Z];split
  ·simp
  ·split
   ·simp
   ·split
    ·simp
    ·split
     ·simp
     ·refine Nat.le_trans (ih _ _) ?_;have:∀(l:List Int) (p:Nat) (c:Int),(Pu.ins l p c).length=l.length+1:=fun l p c=>(by simp[Pu.ins];exact f6J);simp only[Pu.step,this];omega
theorem q0W x:(rd x).1.length<=8*x.length:=by
 have Z:(pn x).1.length<=8*x.length:=by
  unfold pn Pu.decode;have S:(txt (x.drop 4)).length<=4*(x.drop 4).length:=Utf.x9q 0 _;rw[List.length_drop]at S;split
  ·simp
  ·split
   ·simp
   ·refine Nat.le_trans (z0N _ _ _) ?_;have:((txt (x.drop 4)).take (Pu.x3D (txt (x.drop 4)) 0 0)).length<=(txt (x.drop 4)).length:=P8P;simp only[Pu.begin];omega
 unfold rd;split
 ·simp;omega
 ·split
  ·simp;omega
  ·split
   ·simp;omega
   ·exact Z
theorem x8P xss:Spl.total (read xss)<=8*Spl.total xss:=by
 induction xss with
 | nil=>simp[read,Spl.total]
 | cons x l ih =>
  have:=q0W x;simp only[read,Spl.total,List.map_cons,List.sum_cons]at ih ⊢;omega
def proc(mp nc:List Int->List Int)(hr:List Int->Bool)(ck:List Int->Bool->Bool->Nat)(zs:List Int):List (List Int)×Nat :=
 if(cut mp nc zs).2≠0 then([],(cut mp nc zs).2)else if 16384<cnt (Utf.encA 0 (Spl.join (read (cut mp nc zs).1)))then([],2)else(read (cut mp nc zs).1,acc ck ((read (cut mp nc zs).1).any hr) (cut mp nc zs).1)
theorem y8x{mp nc}(S:∀X:List Int,X.length<=65536->(nc X).length<=2097152){zs xss}(h:cut mp nc zs=(xss,0)):0<xss.length/\xss.length<=2097153/\Spl.total xss<=2097152:=by
 unfold cut at h;split at h
 ·simp at h
 ·split at h
  ·simp at h
  ·split at h
   ·simp at h
   ·obtain rfl:=(Prod.mk.inj h).1
    rename_i h3
    have Z:=S _ (Nat.le_of_not_lt h3);have D:=Spl.y7e [] (nc (mp (Utf.dec 0 zs).1));have H:=Spl.y3E [] (nc (mp (Utf.dec 0 zs).1));have K:=Spl.z1t [] (nc (mp (Utf.dec 0 zs).1));unfold Spl.split;exact⟨List.length_pos_iff.2 K,f6J,by simp at H;exact f6J⟩
end Id
theorem Mu.rws17{w B U v xss}(h:Mu w B U v xss)(S:xss.length<=1000000000):x5H w v xss:=by
 obtain⟨L,t,f,T,_,_⟩:=h;refine⟨S,?_⟩;rcases f.2 with⟨Z,D⟩ | ⟨g,M,P,rfl,C,H,F,W,A,Q⟩
 ·exact .inl ⟨D,none,0,by rw[Z],f6J⟩
 ·refine .inr ⟨g,0,M,rfl,F,m4a,fun i hi=>⟨L.getD i undef,?_,(T i hi).sk⟩⟩;rw[Nat.zero_add,f.cellAt i f6J];simp[List.getD,(f6J:i<L.length)]
theorem z8N{p q fl mp nc hr}{ck w}(H:IdC p fl mp nc hr ck w)(j:EngAt w q fl p){xv X}(A:Sk .i32 w xv X)(S:X.length<=65536)(c:Nat) d rtl :
  Calls prog 43 #[.pointer (some ⟨q,0,none⟩),xv,.agg #[.bool d,.int .i64 (c:Int)],.bool rtl] w (IntB w ((Id.wr ck X c rtl d:Nat):Int)):=by
 by_cases D:c=0
 ·subst D;have E:Id.wr ck X 0 rtl d=ck X rtl d:=if_pos rfl;rw[E];obtain⟨Q,l⟩:∃Q,w.alloc (.cells #[.bool d,.int .i64 0] 111)=Q:=⟨_,rfl⟩;have b1:Bw w Q:=(by rw[<- l];exact t9C);have F:Od.Blk Q w.heap.size 111 [.bool d,.int .i64 0]:=(by rw[<- l];exact Od.Blk.new w _ _ _ rfl);have I:Bw Q Q:=b0r;have g:=I.drew;have N:=O fun W (P:Bw Q W)=>(j.on (bthen b1 P)).f;have Z:=O fun W (P:Bw Q W)=>(j.on (bthen b1 P)).d;have R:=O fun W (P:Bw Q W)=>(F.below P F.lt).cell (i:=0) rfl;have k:=F.cell (i:=1) rfl;have K:=O fun W (P:Bw Q W)=>H.chk W xv X rtl d (bthen b1 P) (A.below (bthen b1 P)) S;have b:=O (y2O fl);have L:=O b1;obtain⟨J,M,rfl,_,_⟩:=A.shape;clear H j A E b1 F S;generalize ck X rtl d=z at *;go_enter func43,ntmps43;go_wp2_with fail;go_region_held3(fun o=>o.cell? ⟨q,0,none⟩=some (.int .i64 fl)/\o.cell? ⟨q,1,none⟩=some (.pointer (some ⟨p,0,none⟩))/\o.cell? ⟨w.heap.size,0,none⟩=some (.bool d)/\Bw Q o) (first| exact⟨V N _ W8V,V Z _ W8V,V R _ W8V,W8V⟩|(have Y:=bthen g W8V;exact⟨V N _ Y,V Z _ Y,V R _ Y,Y⟩) | go_keep) (first| (go_at_call 26;refine(V b _).mono ?_;rintro e T ⟨rfl,m⟩;have a:=bthen (W8V:Bw Q _) m)|(go_at_call 74;refine(V K _ W8V).mono ?_;rintro e B ⟨rfl,G⟩;have t:=bthen (W8V:Bw Q _) G));have x:=O (bthen (V L) t);clear K N Z R b a t m G g I L;go_wp2;go_ret;exact⟨rfl,V x⟩
 ·have E:Id.wr ck X c rtl d=c:=if_neg D;rw[E];have U:(((c:Nat):Int) != 0)=true:=e2X;obtain⟨J,M,rfl,_,_⟩:=A.shape;clear H j A E S D;generalize((c:Nat):Int)=z at *;go_enter func43,ntmps43;go_wp2;go_ret;exact⟨rfl,(b0r).alloc (l0r _) _⟩
namespace Id
def Snd(x:List Int):Prop:=∀c∈x,Utf.okc c
theorem y7b{x}(h:(Utf.encA 0 x).2.2=0):Snd x:=by
 rcases fb_enc 0 x with⟨_,_,Z⟩ | ⟨q,_,Z,_⟩
 ·exact Z
 ·rw[Z]at h;simp at h
theorem z6N i{x}(h:Snd x):(Utf.encA i x).2.2=0/\x.length<=(Utf.encA i x).1.length:=by
 induction x generalizing i with
 | nil=>exact⟨rfl,M7N⟩
 | cons c r ih =>
  have Z:=ih (i+1) (fun z T=>h z (by simp[T]));have D:=Utf.x4e c;rw[Utf.encA,if_pos (h c M7N),Utf.glue,if_pos Z.1];exact⟨rfl,P8P⟩
theorem y2y{x}(h:Snd x):(x.length:Int)<=cnt (Utf.encA 0 x):=by
 have:=z6N 0 h;unfold cnt;rw[if_pos this.1];omega
theorem z6G{zs}(Y:Utf.Byt zs)(h:(Utf.dec 0 zs).2.2=0):Snd (Utf.dec 0 zs).1 :=
 y7b (by rw[Utf.z6M zs.length 0 0 zs (l0r _) Y h])
theorem z1u{x}(h:Snd x){y}(hy:y∈Spl.split x):Snd y:=fun c I=>by
 rcases Spl.splitA_mem [] x y hy c I with h1 | h1
 ·cases h1
 ·exact h c h1
theorem ins_mem{l p c z}(h:z∈Pu.ins l p c):z∈l\/z=c:=by
 unfold Pu.ins at h;rcases List.mem_append.1 h with h | h
 ·exact .inl (List.mem_of_mem_take h)
 ·rcases List.mem_cons.1 h with h | h
  ·exact .inr h
  ·exact .inl (List.mem_of_mem_drop h)
theorem z0O f:∀(zs:List Int) (s:Pu.St),Snd s.xs->Snd (Pu.x4Z f zs s).1:=by
 induction f with
 | zero=>intro zs s h;exact h
 | succ f ih =>
  intro zs s h;rw[Pu.x4Z];split
  ·exact h
  ·split
   ·exact W3W
   ·split
    ·exact W3W
    ·split
     ·exact W3W
     ·rename_i h4
      refine ih _ _ fun c I=>?_;rcases ins_mem I with h1 | h1
      ·exact h c h1
      ·subst h1;exact Decidable.of_not_not h4
theorem y3g{z}(R:0<=z)(Z:z<128):Utf.okc z:=M1d
theorem q0X{x}(h:Snd x):Snd (rd x).1:=by
 unfold rd;split
 ·exact h
 ·split
  ·exact h
  ·split
   ·exact h
   ·show Snd (Pu.decode (txt (x.drop 4))).1;unfold Pu.decode;split
    ·exact W3W
    ·split
     ·exact W3W
     ·rename_i hb
      refine z0O _ _ _ fun c I=>?_;have z:c∈txt (x.drop 4):=List.mem_of_mem_take I;have A:Utf.Byt (txt (x.drop 4)):=Utf.y2F 0 _;have S:Pu.basicB (txt (x.drop 4))=true:=(by simpa using hb);unfold Pu.basicB at S;rw[List.all_eq_true]at S;exact y3g (A c z).1 (by simpa using S c z)
theorem x3b:∀{l:List (List Int)},(∀y∈l,Snd y)->Snd (Spl.join l)
 | [],_=>fun c hc=>by simp[Spl.join]at hc
 | [a],h=>by simpa[Spl.join]using h a M7L
 | a::b::l,h=>by
  rw[Spl.join_cons a M7L];intro c hc;rcases List.mem_append.1 hc with hc | hc
  ·exact h a M7L c hc
  ·rcases List.mem_cons.1 hc with hc | hc
   ·subst hc;exact y3g e8M e8M
   ·exact x3b (l:=b::l) (fun y hy=>h y F7M) c hc
theorem x4q:∀(l:List (List Int)) (k:Nat),(l.getD k []).length<=(Spl.join l).length
 | [],k=>M7K
 | [a],k=>by cases k<;>simp[Spl.join]
 | a::b::l,k=>by
  rw[Spl.join_cons a M7K,List.length_append,List.length_cons]
  cases k with
  | zero=>simp
  | succ k=>have:=x4q (b::l) k;simp only[List.getD_cons_succ];omega
theorem y8w{mp nc}(Z:∀X,Snd X->Snd (mp X))(D:∀X,Snd X->Snd (nc X)){zs}(Y:Utf.Byt zs){xss}(h:cut mp nc zs=(xss,0)):∀x∈xss,Snd x:=by
 unfold cut at h;split at h
 ·simp at h
 ·split at h
  ·simp at h
  ·split at h
   ·simp at h
   ·obtain rfl:=(Prod.mk.inj h).1
    rename_i h3 h4
    exact fun x A=>z1u (D _ (Z _ (z6G Y (by simpa using h3)))) A
theorem y4W{xss}(h:∀x∈xss,Snd x):∀y∈read xss,Snd y:=fun y hy=>by
 obtain⟨x,A,rfl⟩:=List.mem_map.1 hy;exact q0X (h x A)
end Id
namespace Id
theorem z0I{mp nc hr ck zs}{c}(h:cut mp nc zs=([],c))(I:c≠0):proc mp nc hr ck zs=([],c):=by unfold proc;rw[h,if_pos I]
theorem y4T{mp nc hr ck zs}{xss}(h:cut mp nc zs=(xss,0))(Y:16384<cnt (Utf.encA 0 (Spl.join (read xss)))):proc mp nc hr ck zs=([],2):=by unfold proc;rw[h,if_neg M7K,if_pos Y]
theorem y3l{mp nc hr ck zs}{xss}(h:cut mp nc zs=(xss,0))(Y:¬16384<cnt (Utf.encA 0 (Spl.join (read xss)))):proc mp nc hr ck zs=(read xss,acc ck ((read xss).any hr) xss):=by unfold proc;rw[h,if_neg M7K,if_neg Y]
end Id
def y7B(w:World)(r:List (List Int)×Nat)(e:Ending)(w':World):Prop :=
 Below w.heap.size w w'/\∃v,e=.returned (.tuple #[v,.int .i64 ((r.2:Nat):Int)])/\Mu w' w.heap.size w'.heap.size v r.1
theorem Mu.now19{w B U v xss}(h:Mu w B U v xss):Mu w B w.heap.size v xss:=by
 obtain⟨L,t,f,T,o,Q⟩:=h;exact⟨L,t,f,T,fun i hi b Y=>((T i hi).row.lt b Y).2,Q⟩
theorem x7q{p q fl mp nc hr}{ck w}(H:IdC p fl mp nc hr ck w)(j:EngAt w q fl p) s:Calls prog 17 #[.pointer (some ⟨q,0,none⟩),.string s] w (y7B w (Id.proc mp nc hr ck (nums s))):=by
 have K:=O (cut19 H j s);have R1:=fun c h h'=>O (Id.z0I (mp:=mp) (nc:=nc) (hr:=hr) (ck:=ck) (zs:=nums s) (c:=c) h h');have E:=fun xss h h'=>O (Id.y4T (mp:=mp) (nc:=nc) (hr:=hr) (ck:=ck) (zs:=nums s) (xss:=xss) h h');have U:=fun xss h h'=>O (Id.y3l (mp:=mp) (nc:=nc) (hr:=hr) (ck:=ck) (zs:=nums s) (xss:=xss) h h');have o:=O fun xss=>Id.y8x (mp:=mp) H.len (zs:=nums s) (xss:=xss);generalize Id.proc mp nc hr ck (nums s)=r,hCT:Id.cut mp nc (nums s)=ct at *;go_enter func17,ntmps17;go_wp2_with fail;refine(V K).mono ?_;rintro e w1 ⟨b1,⟨c,D,hc,rfl⟩ | ⟨v,xss,D,rfl,m⟩⟩
 ·have a:=R1 c D f6J;have aI:((c:Int) != 0)=true:=(by rcases hc with rfl | rfl<;>rfl);have HB:=O b1;clear K R1 E U o D hc b1 H j hCT;exact m6f
 ·obtain⟨x0,x1,x2⟩:=V o xss D;have t:=O (Id.y2y (Id.x3b (Id.y4W (Id.y8w H.ms H.ns (x0U s) (hCT.trans D)))));clear hCT;have C:(Id.read xss).length=xss.length:=(by simp[Id.read]);have aF:=Id.x8P xss
  have K2:=O (y6L b1.size m x0 f6J (fun x hx=>by
   obtain⟨i,hi,rfl⟩:=List.getElem_of_mem hx;have:=Spl.z5G xss i;simp only[List.getD,List.getElem?_eq_getElem hi,Option.getD_some]at this
   omega))
  replace E:=fun h=>E xss D h;replace U:=fun h=>U xss D h
  obtain⟨g,M,rfl⟩:∃g M,v=.slice (some ⟨g,0,none⟩) xss.length M:=by
   obtain⟨us,a1,f,_⟩:=m;rcases f.2 with⟨_,h⟩ | ⟨g,M,aC,h,_⟩
   ·omega
   ·exact⟨g,M,h⟩
  clear K R1 o D m;go_wp2_with fail;refine(V K2).mono ?_;rintro e w2 ⟨rv,rfl,J,ab,b2⟩;rw[Id.q1N]at J;rw[Id.q1b]at ab;have Z:=b1.trans b2;have K3:=O (q0p _ (Id.read xss) w2 (J.rwsS f6J) f6J)
  obtain⟨g2,ae,rfl⟩:∃g2 ae,rv=.slice (some ⟨g2,0,none⟩) xss.length ae:=by
   rcases ab.2 with⟨_,h⟩ | ⟨g,M,aC,h,_⟩
   ·omega
   ·exact⟨g,M,h⟩
  have am:=O J;have ar:=O ab;have Q:=Spl.x9E (Id.read xss);clear K2 b1 b2 J ab;go_wp2_with fail;refine(V K3).mono ?_;rintro e w3 ⟨v3,rfl,P,b3⟩;have K4:=O (y0E v3 _ w3 P.sk f6J);have F:=bthen Z b3;have u:=O ((V am).below b3).now19;have T:=O (x5E (V ar) b3);obtain⟨aH,aG,rfl,_,_⟩:=P.sk.shape;clear K3 am ar Z b3 P;go_wp2_with fail;refine(V K4).mono ?_;rintro e w3 ⟨rfl,rfl⟩;clear K4;have L:=O (Id.x4q (Id.read xss));generalize hcn:cnt (Utf.encA 0 (Spl.join (Id.read xss)))=cn at *;by_cases aw:16384<cn
  ·have a:=E aw;have HB:=O F;clear t L E U hcn F u T H j Q;exact m6f
  ·have a:=U f6J
   have aj:Hid (∀k,((Id.read xss).getD k []).length<=65536):=fun k=>by
    have h1:=V L k;have h2:=V t;omega
   clear t L;have R:=j.on F;have X:=R.d;have K5:=O (H.dom w3 _ _ F ((V u).rws17 f6J));have ag:=O F;have HE:=O j;have HC:=O H;clear E U hcn F R j H Q;generalize(Id.read xss).any hr=rtl at *;go_wp2_with fail;refine c0m K5 fun w4 b4=>?_;have S:=bthen (V ag) b4;have I:=((V u).below b4).now19;have aA:=x5E (V T) b4;have aq:=O I;have A:Hid (∀k,Id.acc ck rtl (xss.take k)<65536):=fun k=>Id.x5q (V HC).lt rtl _;have af:Hid (∀x,Id.wrong ck rtl x<65536):=fun x=>Id.y5g (V HC).lt rtl x
   have z:Hid (∀k,k<xss.length->∀W,Bw w4 W->∃xv d c,W.cell? ⟨g,k,none⟩=some xv/\W.cell? ⟨g2,k*2,none⟩=some (.bool d)/\W.cell? ⟨g2,k*2+1,none⟩=some (.int .i64 c) /\
     Calls prog 43 #[.pointer (some ⟨q,0,none⟩),xv,.agg #[.bool d,.int .i64 c],.bool rtl] W (IntB W ((Id.wrong ck rtl (xss.getD k []):Nat):Int))):=by
    intro k G W hW;obtain⟨us,a1,f,a3,_⟩:=I.below hW;rw[C]at a1 f a3;have hq:=Id.z8c (xss.map fun x=>(Id.rd x).2) (k:=k) (by simpa using G);have ho:=x5E aA hW;have e1:(Id.read xss).getD k []=(Id.rd (xss.getD k [])).1:=(by simp[Id.read,List.getD,G]);have e2:(xss.map fun x=>(Id.rd x).2).getD k (false,0)=(Id.rd (xss.getD k [])).2:=w8c;rw[e2]at hq;have ay:=a3 k G;rw[e1]at ay
    have aD:(Id.rd (xss.getD k [])).1.length<=65536:=by
     have:=V aj k;rwa [e1]at this
    have:=z8N ((V HC).on (bthen S hW)) ((V HE).on (bthen S hW)) ay.sk aD (Id.rdc (xss.getD k [])) (Id.rd (xss.getD k [])).2.1 rtl;rw[<- (Id.rd_c (xss.getD k [])).1]at this;exact⟨_,_,_,(f.cellAt k f6J).trans (p0G:us[k]?=some (us.getD k undef)),(ho.cellAt (k*2) f6J).trans hq.1,(ho.cellAt (k*2+1) f6J).trans hq.2,this⟩
   have HN:Hid (∀k,k<xss.length->Id.acc ck rtl (xss.take (k+1))=Id.acc ck rtl (xss.take k)|||Id.wrong ck rtl (xss.getD k [])):=fun k G=>Id.z2j G;have N:Hid (Id.acc ck rtl (xss.take xss.length)=Id.acc ck rtl xss):=(by rw[List.take_length];exact rfl);have ai:=O S;clear K5 b4 ag u T HC HE X S I aA aF C aj;go_wp2;go_loopw[7,10,11,35] (fun bv _ _ iv wr=>∃k:Nat,bv=.int .i64 ((Id.acc ck rtl (xss.take k):Nat):Int)/\iv=.int .i64 k/\k<=xss.length/\Bw w4 wr) (fun _ _ _ iv _=>xss.length-(intOf iv).toNat)
   case atStart=>exact⟨0,rfl,rfl,f6J,b0r⟩
   case round =>
    obtain⟨k,rfl,rfl,G,y⟩:=hrel;by_cases az:k<xss.length
    ·have hL:(k:Int)<xss.length:=f6J;obtain⟨xv,d,c,c0,X,c2,l⟩:=V z k az wr y
     have HO:Hid (bits .or .i64 ((Id.acc ck rtl (xss.take k):Nat):Int) ((Id.wrong ck rtl (xss.getD k []):Nat):Int)=((Id.acc ck rtl (xss.take (k+1)):Nat):Int)):=by
      rw[V HN k az];exact Id.or19 (V A k) (V af _)
     replace l:=O l;have Y:=O y;clear z HN A af N y;generalize ha2:((Id.acc ck rtl (xss.take (k+1)):Nat):Int)=f,((Id.acc ck rtl (xss.take k):Nat):Int)=a1,((Id.wrong ck rtl (xss.getD k []):Nat):Int)=a3 at *;have ho:=V HO;have B:Hid (∀W,Bw w4 W->∃n:Nat,Value.int .i64 f=.int .i64 ((Id.acc ck rtl (xss.take n):Nat):Int)/\Value.int .i64 ((k:Int)+1)=.int .i64 n/\n<=xss.length/\Bw w4 W):=fun W hW=>⟨k+1,by rw[ha2],g2B,f6J,hW⟩;clear ha2 HO;go_wp2_with fail;refine c0m l fun w5 b5=>?_;have aB:=O (bthen (V Y) b5);clear l b5 Y c0 X c2;go_wp2
     go_roundw
     case rel=>exact V B _ (V aB)
     case measure=>exact g7T
    ·obtain rfl:k=xss.length:=f6J;have HB:=O (bthen (V ai) y);have HM:=O ((V aq).below y).now19;have b:=V N;rw[b];clear z HN A af N y ai aq b;go_wp2;go_ret2;obtain rfl:=V a;exact⟨V HB,_,rfl,V HM⟩
namespace Id
def ca(x:List Int):List Int×Bool:=if allb ascb x=true then(txt x,true)else if(Pu.encode x).2≠0 then([],false)else([120,110,45,45]++(Pu.encode x).1,true)
theorem z5i{x}(h:allb ascb x=true):ca x=(txt x,true):=if_pos h
theorem z9r{x}(h:allb ascb x=false)(D:(Pu.encode x).2≠0):ca x=([],false):=by unfold ca;rw[if_neg s8h,if_pos D]
theorem z5j{x}(h:allb ascb x=false)(D:(Pu.encode x).2=0):ca x=([120,110,45,45]++(Pu.encode x).1,true):=by unfold ca;rw[if_neg s8h,if_neg n2N]
def unf(v:Bool)(n m:Nat):Bool:=v&&(decide (n=0)||decide (m<n))
end Id
theorem x6Q fl f w:Calls prog 25 #[.agg #[.int .i64 fl],.int .i64 f] w (x0g w (bits .and .i64 fl f==f)):=by
 generalize hz:(bits .and .i64 fl f==f)=z;go_enter func25,ntmps25;exact p9O
theorem z8K{q p fl w}(j:EngAt w q fl p) s(m:Nat):Calls prog 53 #[.pointer (some ⟨q,0,none⟩),.string s,.int .i64 (m:Int)] w (x0g w (Id.unf (bits .and .i64 fl 32==32) s.size m)):=by
 have K:=O (x6Q fl 32 w);have B:=j.f;clear j;generalize(bits .and .i64 fl 32==32)=v at *
 cases v with
 | false =>
  have H:=O (show false=Id.unf false s.size m from rfl);generalize Id.unf false s.size m=u at *;go_enter func53,ntmps53;go_wp2_with fail;refine c0m K fun Q b1=>?_;clear K;go_wp2;go_ret;exact⟨congrArg Ending.returned (congrArg Value.bool (V H)),b1⟩
 | true =>
  by_cases R:s.size=0
  ·have H:Hid (true=Id.unf true s.size m):=(by simp[Id.unf,R,Hid]);have t:(((s.size:Nat):Int)==0)=true:=W9W;clear R;exact f6T
  ·have t:(((s.size:Nat):Int)==0)=false:=s4R;by_cases Z:m<s.size
   ·have H:Hid (true=Id.unf true s.size m):=(by simp[Id.unf,Z,Hid]);have a:(m:Int)<(s.size:Int):=f6J;clear R Z;exact f6T
   ·have H:Hid (decide (m<s.size)=Id.unf true s.size m):=(by simp[Id.unf,Z,R,Hid]);have a:¬((m:Int)<(s.size:Int)):=f6J;clear R Z;exact f6T
def z8X(w:World)(r:List Int×Bool)(e:Ending)(w':World):Prop:=e=.returned (.tuple #[.string (strOfNums r.1),.bool r.2])/\Below w.heap.size w w'
theorem y8e{w xv X}(A:Sk .i32 w xv X)(S:X.length<=1000000000)(G:∀W,Bw w W->Calls prog 100 #[xv] W (WrP W (Pu.encode X)))(i:(Pu.encode X).1.length<=1000000000):Calls prog 52 #[xv] w (z8X w (Id.ca X)):=by
 have D:=O (z5d xv X w A)
 cases hb:allb ascb X with
 | true =>
  rw[hb]at D;rw[Id.z5i hb];have F:=O fun W (P:Bw w W)=>z1F (A.below P) S;obtain⟨J,M,rfl,_,_⟩:=A.shape;clear A G hb S i;generalize Id.txt X=z at *;go_enter func52,ntmps52;go_wp2_with fail;refine c0m D fun Q b1=>?_;have K:=O (V F Q b1);clear D F;go_wp2_with fail;refine c0m K fun T m=>?_;have x:=O (bthen b1 m);clear K b1 m;go_wp2;go_ret2;exact⟨rfl,V x⟩
 | false =>
  rw[hb]at D;have Y:=fun h=>O (Id.z9r hb h);have E:=fun h=>O (Id.z5j hb h);have Z:=O G;obtain⟨J,M,rfl,_,_⟩:=A.shape;have B:=O i;clear A G hb S i;generalize Id.ca X=r,Pu.encode X=H at *;obtain⟨s,c⟩:=H;go_enter func52,ntmps52;go_wp2_with fail;refine c0m D fun Q b1=>?_;have K:=O (V Z Q b1);clear D Z;go_wp2_with fail;refine c0m K fun T m=>?_;have x:=O (bthen b1 m);clear K b1 m;by_cases I:c=0
  ·subst I;replace E:=E rfl;have C:∀W,(Op.stringOp .add (⟨#[120,110,45,45]⟩:ByteArray) (strOfNums s)).run prog W=.ok (.string ((⟨#[120,110,45,45]⟩:ByteArray)++strOfNums s)) W:=fun W=>run_string_add_sum W _ _ (by have:=V B;rw[strOfNums_size];show 4+_<=_;exact f6J)
   have o:Hid ((⟨#[120,110,45,45]⟩:ByteArray)++strOfNums s=strOfNums ([120,110,45,45]++s)):=by
    show _=_;apply ByteArray.ext;apply Array.toList_inj.1;rw[ByteArray.data_append,Array.toList_append];simp[strOfNums]
   clear Y B;go_wp2;go_ret2;obtain rfl:=V E;exact⟨by rw[V o];rfl,V x⟩
  ·have a:=Y I;have U:(c != 0)=true:=v0B;clear Y E I;go_wp2;go_ret2;obtain rfl:=V a;exact⟨rfl,V x⟩
namespace Id
def eb(v:Bool)(x:List Int):Nat:=if(ca x).2=false then 8192 else if unf v (ca x).1.length 63=true then 16384 else 0
def ea(v:Bool)(yss:List (List Int)):Nat:=(yss.map (eb v)).foldl (·|||·) 0
theorem z9S v x:eb v x<65536:=by
 unfold eb;split
 ·decide
 ·split
  ·decide
  ·decide
theorem y8F{v}{a:List (List Int)}{k}(G:k<a.length):ea v (a.take (k+1))=ea v (a.take k)|||eb v (a.getD k []):=by
 rw[List.take_succ_eq_append_getElem G,ea,ea,List.map_append,List.foldl_append];simp only[List.map_cons,List.map_nil,List.foldl_cons,List.foldl_nil,List.getD,List.getElem?_eq_getElem G,Option.getD_some]
theorem or_lt{l:List Nat}{a}(d:a<65536)(S:∀z∈l,z<65536):l.foldl (·|||·) a<65536:=by
 induction l generalizing a with
 | nil=>exact d
 | cons z l ih=>exact ih (Nat.or_lt_two_pow (n:=16) d (S z M7K)) (fun y hy=>S y M4t)
theorem z6L v yss:ea v yss<65536:=or_lt e8M (fun z T=>by obtain⟨x,_,rfl⟩:=List.mem_map.1 T;exact z9S v x)
def tx(yss:List (List Int))(k:Nat):List Value:=(yss.take k).map (fun y=>Value.string (strOfNums (ca y).1))++List.replicate (yss.length-k) (.string ⟨#[]⟩)
theorem tx_at yss{k}(G:k<yss.length):(tx yss k)[k]?=some (.string ⟨#[]⟩):=by
 unfold tx;rw[List.getElem?_append_right P8P];simp only[List.length_map,List.length_take,Nat.min_eq_left (Nat.le_of_lt G),Nat.sub_self,List.getElem?_replicate];rw[if_pos f6J]
theorem z8I yss{k}(G:k<yss.length):(tx yss k).set k (.string (strOfNums (ca (yss.getD k [])).1))=tx yss (k+1):=by
 unfold tx;rw[List.set_append_right _ _ P8P,List.take_succ_eq_append_getElem G,List.map_append,(f6J:yss.length-k=(yss.length-(k+1))+1),List.replicate_succ];simp[Nat.min_eq_left (Nat.le_of_lt G),List.getD,G]
theorem q1C yss:tx yss yss.length=yss.map fun y=>Value.string (strOfNums (ca y).1):=by simp[tx]
def whole(yss:List (List Int)):List Int:=Spl.join (yss.map fun y=>(ca y).1)
def carry(v:Bool)(yss:List (List Int)):List Int×Nat:=(whole yss,ea v yss|||(if unf v (whole yss).length 253=true then 32768 else 0)|||(if 16384<(whole yss).length then 2 else 0))
theorem z3C L:(strOfNums (Spl.join L)).data.toList=Lib.join (L.map fun l=>(strOfNums l).data.toList) [46]:=by
 induction L with
 | nil=>rfl
 | cons a l ih =>
  cases l with
  | nil=>simp[Spl.join,Lib.join_one]
  | cons b l =>
   rw[Spl.join_cons a M7K];have e:∀x y:List Int,(strOfNums (x++y)).data.toList=(strOfNums x).data.toList++(strOfNums y).data.toList:=fun x y=>(by simp[strOfNums]);have E:∀y:List Int,(strOfNums (46::y)).data.toList=46::(strOfNums y).data.toList:=fun y=>(by simp[strOfNums]);rw[e,E,ih];simp[Lib.join,List.intercalate]
end Id
