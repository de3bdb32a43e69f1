/- Ia19 Ib19 Ic19 Id19 Ie19 Is19 If19 Ig19 Ih19 -/
import Derived.Test.YtbmckadcjdedcaaGreatDoorD36
import Derived.Test.YtbmckadcjdedcaaGreatDoorD39
import Derived.Laws.OwnMore
import Derived.Test.YtbmckadcjdedcaaGreatDoorD15
import Derived.Test.YtbmckadcjdedcaaGreatDoorD1
import Derived.Deep.RegionHeld3
import Derived.Test.YtbmckadcjdedcaaGreatDoorD48
import Derived.Lib.Join
set_option maxHeartbeats 2000000
set_option maxRecDepth 8000
namespace Go.Proofs.YtbmckadcjdedcaaGreatDoor
open Go.Proofs.Tryz
open Go.RowKit
section
variable{p:Prop}
theorem p9O(h:p:=by go_wp2;go_ret;exact⟨rfl,(b0r).alloc (l0r _) _⟩):p:=h
theorem n6b(h:p:=by generalize Id.unf true s.size m=u at *;go_enter func92,ntmps92;go_wp2_with fail;refine c0m K fun Q b1=>?_;clear K;go_wp2;go_ret;exact⟨congrArg Ending.returned (congrArg Value.bool (V H)),b1⟩):p:=h
theorem W8W(h:p:=by assumption):p:=h
theorem f0S(h:p:=by rw[Z];exact e8M):p:=h
theorem P2M(h:p:=by simp[List.getD,List.getElem?_set_ne (fun e=>hi e.symm)]):p:=h
theorem w3h(h:p:=by assumption):p:=h
theorem S5N(h:p:=by go_wp2;go_ret2;obtain rfl:=V HR;exact⟨V HB,_,rfl,Mu.nil _ _ _⟩):p:=h
theorem p0H(h:p:=by simp[List.getD,(f6J:k<us.length)]):p:=h
theorem t5U(h:p:=by exact Od.Blk.new w _ _ _ rfl):p:=h
theorem n7C(h:p:=by rcases hc with rfl | rfl<;>rfl):p:=h
end
namespace Id
def txt(x:List Int):List Int:=(Utf.encA 0 x).1
def pn(x:List Int):List Int×Int:=Pu.decode (txt (x.drop 4))
def rd(x:List Int):List Int×Bool×Int :=
 if Lb.x2t x=false then(x,false,0)else if(pn x).2≠0 then(x,false,2048)else if allb ascb (pn x).1=true then(x,false,4096)else((pn x).1,true,0)
theorem z2p{x:List Int}(h:Lb.x2t x=false):rd x=(x,false,0):=if_pos h
theorem z8q{x:List Int}(h:Lb.x2t x=true)(Z:(pn x).2≠0):rd x=(x,false,2048):=by
 unfold rd;rw[if_neg s8h,if_pos Z]
theorem z8p{x:List Int}(h:Lb.x2t x=true)(Z:(pn x).2=0)(R:allb ascb (pn x).1=true):rd x=(x,false,4096):=by
 unfold rd;rw[if_neg s8h,if_neg f0S,if_pos R]
theorem rd_dec{x:List Int}(h:Lb.x2t x=true)(Z:(pn x).2=0)(R:allb ascb (pn x).1=false):rd x=((pn x).1,true,0):=by
 unfold rd;rw[if_neg s8h,if_neg f0S,if_neg (by rw[R];exact e8M)]
theorem y6V{x:List Int}(h:Lb.x2t x=true):4<=x.length:=by
 match x,h with
 | [],h=>simp[Lb.x2t]at h
 | [a],h=>simp[Lb.x2t]at h
 | [a,b],h=>simp[Lb.x2t]at h
 | [a,b,c],h=>simp[Lb.x2t]at h
 | a::b::c::d::l,_=>simp
end Id
def y2R(w:World)(z:List Int)(e:Ending)(w':World):Prop:=e=.returned (.string (strOfNums z))/\Below w.heap.size w w'
theorem z0f{w:World}{a:Value}{X:List Int}(J:Sk .i32 w a X)(S:X.length<=1000000000):Calls prog 41 #[a] w (y2R w (Id.txt X)):=by
 have K:=O (encC a X w J f6J);have x:Hid (Id.txt X=(Utf.encA 0 X).1):=rfl;obtain⟨s,M,rfl,_,_⟩:=J.shape;clear J S;generalize Utf.encA 0 X=r,Id.txt X=z at *;obtain⟨E,r2,r3⟩:=r;go_enter func41,ntmps41;go_wp2_with fail;refine c0m K fun Q b1=>?_;clear K;go_wp2;go_ret;obtain rfl:=V x;exact⟨rfl,b1⟩
theorem x1Y{Z:Func}{p q:Tmp}{N:TypeId}(h:Z.results=#[.tmp q,.cell p N])(C:Array Value)(P:Program)(w:World)(g:Nat)(v u:Value)(A:C.getD p undef=.pointer (some ⟨g,0,none⟩))(L:C.getD q undef=u)(I:(loadVar N ⟨g,0,none⟩).run P w=.ok v w) :
  (results Z C).run P w=.ok (.tuple #[u,v]) w:=by
 have e:(results Z C).run P w=((asAddr (C.getD p undef)).run P w).andThen fun a w₁=>((loadVar N a).run P w₁).andThen fun x w₂=>.ok (.tuple #[C.getD q undef,x]) w₂:=by
  simp only[results,h];simp[Sem.run_bind,Result.andThen]
 rw[e,A,L];simp[asAddr,Result.andThen,I]
theorem ld19{W:World}{g:Nat}{a:Bool}{b:Int}(k:Od.Blk W g 83 [.bool a,.int .i64 b]):(loadVar 83 ⟨g,0,none⟩).run prog W=.ok (.agg #[.bool a,.int .i64 b]) W :=
 run_loadVar_mid (P:=prog) W g 0 83 [.bool a,.int .i64 b] _ (k.range 0) underlying83 (by rfl) f4x
theorem z7D(ao:Option Addr)(n cap:Nat)(H:4<=n)(I:n<=cap)(W:World):(Instr.sliceAt 40 (.slice ao n cap) (some (.int .i64 4)) none none).run prog W=.ok (sliced ao 4 n cap 1) W:=by
 have D:(4:Int)<=n:=f6J;by_cases L:cap=4
 ·subst L;obtain rfl:n=4:=f6J;go_simp
 ·go_simp
theorem y8V{K:IntKind}{e:TypeId}{w:World}{B:Nat}{v:Value}{zs:List Int}(h:Ok K e w B v zs){g:Nat}(Y:g<B)(i:Nat)(x:Value):Ok K e (w.setCell ⟨g,i,none⟩ x) B v zs :=
 ⟨h.1,h.2.1,h.2.2.kept (row:=some g) ⟨rfl,rfl,rfl,M7L,fun k G E=>heap_setCell_other w _ k x (fun e=>E (by rw[e]))⟩ (.inr fun e=>by have:=(h.row.lt g e).1;exact f6J)⟩
def RdB19(w:World)(xv:Value)(X:List Int)(r:List Int×Bool×Int)(e:Ending)(w':World):Prop :=
 Below w.heap.size w w'/\((∃c:Int,r=(X,false,c)/\e=.returned (.tuple #[xv,.agg #[.bool false,.int .i64 c]]))\/∃v Y,r=(Y,true,0)/\e=.returned (.tuple #[v,.agg #[.bool true,.int .i64 0]])/\Ok .i32 21 w' (w.heap.size+1) v Y)
theorem z8t{w:World}{a:Value}{X:List Int}(J:Sk .i32 w a X)(hl:X.length<=200000000):Calls prog 64 #[a] w (RdB19 w a X (Id.rd X)):=by
 obtain⟨U,ae⟩:∃U,w.alloc (.cells #[.bool false,.int .i64 0] 83)=U:=⟨_,rfl⟩;have b0:Bw w U:=(by rw[<- ae];exact t9C);have s0:U.heap.size=w.heap.size+1:=(by rw[<- ae];exact M7N);have Z:=O (z3c (J.below b0))
 cases hcd:Lb.x2t X with
 | false =>
  rw[hcd]at Z;have g:=O (Id.z2p hcd);clear hcd;generalize Id.rd X=r at *;obtain⟨s,M,rfl,f,ai⟩:=J.shape;clear J;go_enter func64,ntmps64;go_wp2_with fail;refine c0m Z fun Q b1=>?_;have k1:Od.Blk Q w.heap.size 83 [.bool false,.int .i64 0]:=(by rw[<- ae];exact t5U:Od.Blk U w.heap.size 83 [.bool false,.int .i64 0]).below b1 f6J;have c0:=k1.cell (i:=0) rfl;have o:=k1.cell (i:=1) rfl;have b:=k1.frozen 0;have f1:=k1.frozen 1;have I:=ld19 ((k1.set 0 (.bool false)).set 1 (.int .i64 0));have ab:=O (((x0b b0 b1).setCell (p:=⟨w.heap.size,0,none⟩) (l0r _) (.bool false)).setCell (p:=⟨w.heap.size,1,none⟩) (l0r _) (.int .i64 0));clear Z b1 k1 b0;go_wp2;exact bodyPost_ret (x1Y rfl _ _ _ w.heap.size _ _ (by rfl) (by rfl) I) rfl ⟨V ab,.inl ⟨0,V g,rfl⟩⟩
 | true =>
  rw[hcd]at Z;have h4:=Id.y6V hcd;have HT:Hid (∀W d,Bw w W->Sk .i32 W d (X.drop 4)->Calls prog 41 #[d] W (y2R W (Id.txt (X.drop 4)))):=fun W d _ x=>z0f x P8P;have af:(Id.txt (X.drop 4)).length<=4*(X.drop 4).length:=Utf.y1L 0 _
  have c:Hid (∀W,Calls prog 105 #[.string (strOfNums (Id.txt (X.drop 4)))] W (x0W W.heap.size W (Id.pn X))):=fun W=>by
   have:=y4E (strOfNums (Id.txt (X.drop 4))) W (by rw[strOfNums_size];simp at af;exact f6J);rwa [y5l (show Utf.Byt (Id.txt (X.drop 4))from Utf.y7n 0 _)]at this
  have HA:Hid (∀W d Y,Sk .i32 W d Y->Calls prog 106 #[d] W (y6o W (allb ascb Y))):=fun W d Y x=>z2X d Y W x;have R1:=fun h=>O (Id.z8q hcd h);have E:=fun h D=>O (Id.z8p hcd h D);have R3:=fun h D=>O (Id.rd_dec hcd h D);clear af;have n:=J;obtain⟨s,M,rfl,f,ai⟩:=J.shape
  obtain⟨d,T,C⟩:∃d,(∀W,(Instr.sliceAt 40 (.slice s X.length M) (some (.int .i64 4)) none none).run prog W=.ok d W)/\Hid (∀W,Bw w W->Sk .i32 W d (X.drop 4)):=⟨_,z7D s X.length M h4 f,fun W t=>by
   have:=(n.cut (l:=4) (h:=X.length) (m:=M) h4 (l0r _) f (l0r _)).below t
   rwa [List.take_of_length_le M7N]at this⟩
  clear J n hcd;generalize Id.rd X=r,Id.txt (X.drop 4)=tx at *;generalize hpn:Id.pn X=pn,X.drop 4=X4 at *;obtain⟨H,pe⟩:=pn;go_enter func64,ntmps64;go_wp2_with fail;refine c0m Z fun Q b1=>?_;have k1:Od.Blk Q w.heap.size 83 [.bool false,.int .i64 0]:=(by rw[<- ae];exact t5U:Od.Blk U w.heap.size 83 [.bool false,.int .i64 0]).below b1 f6J;have K:=O (V HT Q _ (x0b b0 b1) (V C Q (x0b b0 b1)));have L:=x0b b0 b1;have N:=b1.size;clear Z b1 b0 HT C;go_wp2_with fail;refine c0m K fun w2 b2=>?_;have k2:=k1.below b2 f6J;have F:=x0b L b2;have aq:=b2.size;have j:=O (V c w2);clear K k1 L b2 c;go_wp2_with fail;refine(V j).mono ?_;rintro e w3 (⟨v,rfl,u,y,G⟩ | ⟨_,R,rfl,G⟩)
  ·obtain rfl:pe=0:=congrArg Prod.snd u;have B:=O (V HA w3 v H y.sk);have q:=k2.below G f6J;have P:=x0b F G;have ar:=G.size;have k:=O y;clear j k2 F G HA u R1;obtain⟨aj,S,rfl,_,_⟩:=y.sk.shape;clear y
   cases hb:allb ascb H with
   | true =>
    rw[hb]at B;have g:=E rfl hb;clear E R3 hb k;go_wp2_with fail;refine c0m B fun w4 z=>?_;have A:=q.below z f6J;have c0:=A.cell (i:=0) rfl;have o:=A.cell (i:=1) rfl;have b:=A.frozen 0;have f1:=A.frozen 1;have I:=ld19 ((A.set 0 (.bool false)).set 1 (.int .i64 4096));have ab:=O (((x0b P z).setCell (p:=⟨w.heap.size,0,none⟩) (l0r _) (.bool false)).setCell (p:=⟨w.heap.size,1,none⟩) (l0r _) (.int .i64 4096));clear B z q A P;go_wp2;exact bodyPost_ret (x1Y rfl _ _ _ w.heap.size _ _ (by rfl) (by rfl) I) rfl ⟨V ab,.inl ⟨4096,V g,rfl⟩⟩
   | false =>
    rw[hb]at B;have g:=R3 rfl hb;clear E R3 hb;go_wp2_with fail;refine c0m B fun w4 z=>?_;have A:=q.below z f6J;have c0:=A.cell (i:=0) rfl;have o:=A.cell (i:=1) rfl;have b:=A.frozen 0;have f1:=A.frozen 1;have I:=ld19 ((A.set 0 (.bool true)).set 1 (.int .i64 0));have ab:=O (((x0b P z).setCell (p:=⟨w.heap.size,0,none⟩) (l0r _) (.bool true)).setCell (p:=⟨w.heap.size,1,none⟩) (l0r _) (.int .i64 0));have ag:=O (y8V (y8V (((V k).below z).lower (f6J:w.heap.size+1<=w2.heap.size)) (f6J:w.heap.size<w.heap.size+1) 0 (.bool true)) (f6J:w.heap.size<w.heap.size+1) 1 (.int .i64 0));clear B z q A P k;go_wp2;exact bodyPost_ret (x1Y rfl _ _ _ w.heap.size _ _ (by rfl) (by rfl) I) rfl ⟨V ab,.inr ⟨_,H,V g,rfl,V ag⟩⟩
  ·have q:=k2.below G f6J;have g:=R1 R;have am:(pe != 0)=true:=(by simpa using R);have c0:=q.cell (i:=0) rfl;have o:=q.cell (i:=1) rfl;have b:=q.frozen 0;have f1:=q.frozen 1;have I:=ld19 ((q.set 0 (.bool false)).set 1 (.int .i64 2048));have ab:=O (((x0b F G).setCell (p:=⟨w.heap.size,0,none⟩) (l0r _) (.bool false)).setCell (p:=⟨w.heap.size,1,none⟩) (l0r _) (.int .i64 2048));clear j k2 F G HA R1 E R3 q R;go_wp2;exact bodyPost_ret (x1Y rfl _ _ _ w.heap.size _ _ (by rfl) (by rfl) I) rfl ⟨V ab,.inl ⟨2048,V g,rfl⟩⟩
theorem Mu.put19{w:World}{B g cap:Nat}{xss:List (List Int)}{us:List Value}(d:us.length=xss.length)(a:w.ownsRow B 40 1 (.slice (some ⟨g,0,none⟩) xss.length cap) xss.length us)
  (L:∀i,i<xss.length->Ok .i32 21 w B (us.getD i undef) (xss.getD i [])) (m:∀i j b,i<j->j<xss.length->(us.getD i undef).ownBlock=some b->(us.getD j undef).ownBlock≠some b)
  {k:Nat} (G:k<xss.length) {u:Value} {ys:List Int} (W:Ok .i32 21 w B u ys) (M:∀j,j<xss.length->j≠k->∀b,u.ownBlock=some b->(us.getD j undef).ownBlock≠some b) :
  Mu (w.setCell ⟨g,k,none⟩ u) B (w.setCell ⟨g,k,none⟩ u).heap.size (.slice (some ⟨g,0,none⟩) xss.length cap) (xss.set k ys):=by
 obtain⟨D,Y⟩:=a.stored k u;have J:∀v l,Ok .i32 21 w B v l->Ok .i32 21 (w.setCell ⟨g,k,none⟩ u) B v l:=fun _ _ h=>⟨h.1,h.2.1,h.2.2.kept Y (x7f e8N h.2.2 a)⟩;have N:∀i,i≠k->(us.set k u).getD i undef=us.getD i undef:=fun i hi=>P2M;have f:(us.set k u).getD k undef=u:=(by simp[List.getD,List.getElem?_set_self (f6J:k<us.length)]);have E:∀i,i≠k->(xss.set k ys).getD i []=xss.getD i []:=fun i hi=>P2M;have I:(xss.set k ys).getD k []=ys:=(by simp[List.getD,List.getElem?_set_self G]);refine⟨us.set k u,by simp[d],by simpa using D,fun i hi=>?_,fun i hi b C=>?_,fun i j b p K C=>?_⟩
 ·rw[List.length_set]at hi;by_cases H:i=k
  ·subst H;rw[f,I];exact J _ _ W
  ·rw[N i H,E i H];exact J _ _ (L i hi)
 ·rw[List.length_set]at hi;by_cases H:i=k
  ·subst H;rw[f]at C;simpa using(W.row.lt b C).2
  ·rw[N i H]at C;simpa using((L i hi).row.lt b C).2
 ·rw[List.length_set]at K;by_cases H:i=k
  ·subst H;rw[f]at C;rw[N j f6J];exact M j K f6J b C
  ·rw[N i H]at C;by_cases A:j=k
   ·subst A;rw[f];exact fun F=>M i f6J H b F C
   ·rw[N j A];exact m i j b p K C
namespace Id
def rc(R:List (Bool×Int)):List Value:=R.flatMap fun r=>[.bool r.1,.int .i64 r.2]
theorem z8m(R:List (Bool×Int)):(rc R).length=R.length*2:=by
 induction R with
 | nil=>rfl
 | cons r R ih=>simp only[rc,List.flatMap_cons,List.length_append,List.length_cons]at ih ⊢;rw[ih];exact f4S
theorem z5Q(R:List (Bool×Int)){k:Nat}(G:k<R.length):(rc R)[k*2]?=some (.bool (R.getD k (false,0)).1)/\(rc R)[k*2+1]?=some (.int .i64 (R.getD k (false,0)).2):=by
 induction R generalizing k with
 | nil=>simp at G
 | cons r R ih =>
  cases k with
  | zero=>simp[rc]
  | succ k =>
   have:=ih (k:=k) E9n;simpa[rc,Nat.succ_mul]using this
theorem z8o(R:List (Bool×Int))(k:Nat)(a:Bool)(b:Int):((rc R).set (k*2) (.bool a)).set (k*2+1) (.int .i64 b)=rc (R.set k (a,b)):=by
 induction R generalizing k with
 | nil=>simp[rc]
 | cons r R ih =>
  cases k with
  | zero=>simp[rc]
  | succ k =>
   have:=ih k;simp only[rc,List.flatMap_cons,List.cons_append,List.nil_append,Nat.succ_mul,List.set_cons_succ]at this ⊢;rw[this]
theorem z8n(n:Nat):(madeCells #[.bool false,.int .i64 0] (n*2)).toList=rc (List.replicate n (false,0)):=by
 refine List.ext_getElem? fun i=>?_;by_cases hi:i<n*2
 ·have L:i / 2<n:=f6J;have h:=z5Q (List.replicate n (false,0)) (k:=i / 2) (by simpa using L);rcases Nat.mod_two_eq_zero_or_one i with h0 | h0
  ·rw[(f6J:i / 2*2=i)]at h;rw[h.1];simp[madeCells,hi,h0,L]
  ·rw[(f6J:i / 2*2+1=i)]at h;rw[h.2];simp[madeCells,hi,h0,L]
 ·rw[List.getElem?_eq_none (by simp[madeCells];exact f6J),List.getElem?_eq_none (by rw[z8m];exact P8P)]
end Id
theorem z5f:(prog.info? 83).map (fun i=>(i.zero,i.size,i.bytes))=some (some (.agg #[.bool false,.int .i64 0]),2,16):=f4x
theorem z7T(n:Nat)(w:World)(E:n<=3000000):∃W,(Instr.makeSlice 78 (.int .i64 (n:Int)) (.int .i64 (n:Int))).run prog w=.ok (.slice (some ⟨w.heap.size,0,none⟩) n n) W/\W.ownsRow w.heap.size 83 2 (.slice (some ⟨w.heap.size,0,none⟩) n n) n (Id.rc (List.replicate n (false,0)))/\w.grownBy W none:=by
 obtain⟨r,hi,i,d,f⟩:=info_parts z5f;obtain⟨W,D,Z,R⟩:=run_makeSlice_full (P:=prog) w w.heap.size 78 83 r _ 2 underlying78 hi i d .i64 .i64 n f6J V8r T7W (l0r _);exact⟨W,D,by rw[<- Id.z8n];exact Z,R⟩
theorem z5S{w:World}{a:Value}{X:List Int}(J:Sk .i32 w a X)(S:X.length<=200000000):Calls prog 64 #[a] w fun e w'=>∃u d c Y,Id.rd X=(Y,d,c)/\e=.returned (.tuple #[u,.agg #[.bool d,.int .i64 c]])/\Bw w w'/\((u=a/\Y=X)\/Ok .i32 21 w' (w.heap.size+1) u Y) :=
 (z8t J S).mono fun e w' ⟨hb,h⟩=>by
  rcases h with⟨c,D,Z⟩ | ⟨v,Y,D,Z,R⟩
  ·exact⟨_,_,_,_,D,Z,hb,.inl ⟨rfl,rfl⟩⟩
  ·exact⟨_,_,_,_,D,Z,hb,.inr R⟩
namespace Id
def ys(xss:List (List Int))(k:Nat):List (List Int):=(xss.take k).map (fun x=>(rd x).1)++xss.drop k
def rs(xss:List (List Int))(k:Nat):List (Bool×Int):=(xss.take k).map (fun x=>(rd x).2)++List.replicate (xss.length-k) (false,0)
theorem z9o(xss:List (List Int))(k:Nat):(ys xss k).length=xss.length:=by simp[ys];exact f6J
theorem z8G(xss:List (List Int)){k:Nat}(G:k<=xss.length):(rs xss k).length=xss.length:=by simp[rs];exact f6J
theorem ys_at(xss:List (List Int)){k:Nat}(G:k<xss.length):(ys xss k).getD k []=xss.getD k []:=by
 simp[ys,List.getD,List.getElem?_append_right,G,Nat.min_eq_left (Nat.le_of_lt G)]
theorem z6s(xss:List (List Int)){k:Nat}(G:k<xss.length){Y:List Int}{d:Bool}{c:Int}(h:rd (xss.getD k [])=(Y,d,c)):(ys xss k).set k Y=ys xss (k+1):=by
 have e:xss.getD k []=xss[k]:=w8a;rw[e]at h;unfold ys;rw[List.set_append_right _ _ P8P,List.take_succ_eq_append_getElem G,List.map_append,List.drop_eq_getElem_cons G];simp only[List.length_map,List.length_take,Nat.min_eq_left (Nat.le_of_lt G),Nat.sub_self,List.set_cons_zero,List.map_cons,List.map_nil,h,List.append_assoc,List.cons_append,List.nil_append]
theorem z6a(xss:List (List Int)){k:Nat}(G:k<xss.length){Y:List Int}{d:Bool}{c:Int}(h:rd (xss.getD k [])=(Y,d,c)):(rs xss k).set k (d,c)=rs xss (k+1):=by
 have e:xss.getD k []=xss[k]:=w8a;rw[e]at h;unfold rs;rw[List.set_append_right _ _ P8P,List.take_succ_eq_append_getElem G,List.map_append,(f6J:xss.length-k=(xss.length-(k+1))+1),List.replicate_succ];simp[Nat.min_eq_left (Nat.le_of_lt G),h]
end Id
theorem x5s{w w':World}{B n s:Nat}{e:TypeId}{g cap:Nat}{xs:List Value}(h:w.ownsRow B e s (.slice (some ⟨g,0,none⟩) n cap) n xs)(C:Bw w w'):w'.ownsRow B e s (.slice (some ⟨g,0,none⟩) n cap) n xs :=
 h.kept (row:=none) ⟨C.os,C.tape,C.output,C.size,fun k G _=>C.block k G⟩ (.inr V3H)
theorem z8E{w:World}{B n s:Nat}{e:TypeId}{g cap:Nat}{xs:List Value}(h:w.ownsRow B e s (.slice (some ⟨g,0,none⟩) n cap) n xs){q:Nat}(L:q≠g)(i:Nat)(x:Value):(w.setCell ⟨q,i,none⟩ x).ownsRow B e s (.slice (some ⟨g,0,none⟩) n cap) n xs :=
 h.kept (row:=some q) ⟨rfl,rfl,rfl,M7L,fun k G E=>heap_setCell_other w _ k x (fun e=>E (by rw[e]))⟩ (.inr (by simp[Value.ownBlock];exact f6J))
theorem Mu.put2_19{w:World}{B U:Nat}{v:Value}{xss:List (List Int)}(h:Mu w B U v xss){q:Nat}{e:TypeId}{s n cap:Nat}{ys:List Value}{I:Nat}(hr:w.ownsRow I e s (.slice (some ⟨q,0,none⟩) n cap) n ys)(D:e≠40)(Z:e≠21)(i:Nat)(x:Value):Mu (w.setCell ⟨q,i,none⟩ x) B U v xss:=by
 obtain⟨j,A,J,d,M,H⟩:=h;have Y:=(hr.stored i x).2
 have C:∀{S:TypeId} {m:Nat} {u:Value} {L:List Value} {E:Nat},e≠S->w.ownsRow E S 1 u m L->u.ownBlock=none\/u.ownBlock≠some q:=fun F h=>by
  rcases h.2 with⟨rfl,_⟩ | ⟨g,cap,P,rfl,_,t,_⟩
  ·exact .inl rfl
  ·refine .inr fun e=>?_;simp only[Value.ownBlock,Option.some.injEq]at e;subst e;rcases hr.2 with⟨T,_⟩ | ⟨c,K,o,T,_,G,_⟩
   ·cases T
   ·simp only[Value.slice.injEq,Option.some.injEq,Addr.mk.injEq]at T;obtain⟨⟨rfl,_⟩,_⟩:=T;rw[G]at t;simp only[Option.some.injEq,Obj.cells.injEq]at t;exact F t.2.1
 exact⟨j,A,J.kept Y (C D J),fun i hi=>⟨(d i hi).1,(d i hi).2.1,(d i hi).2.2.kept Y (C Z (d i hi).2.2)⟩,M,H⟩
def REB19(B:Nat)(w:World)(lv:Value)(xss:List (List Int))(e:Ending)(w':World):Prop :=
 ∃rv,e=.returned rv/\Mu w' B w'.heap.size lv (Id.ys xss xss.length)/\w'.ownsRow w.heap.size 83 2 rv xss.length (Id.rc (Id.rs xss xss.length))/\Below B w w'
theorem y5y{w:World}{B:Nat}{q:Value}{xss:List (List Int)}(hB:B<=w.heap.size)(U:Mu w B w.heap.size q xss)(h0:0<xss.length)(hn:xss.length<=3000000)(hl:∀x∈xss,x.length<=200000000):Calls prog 36 #[q] w (REB19 B w q xss):=by
 obtain⟨f,t,ae,C⟩:=z7T xss.length w hn
 have T:Mu f B f.heap.size q xss:=by
  have aq:Bw w f:=(b0r).grown C (l0r _) (fun k e=>by cases e);obtain⟨us,A,J,a3,M,a5⟩:=U.below aq;exact⟨us,A,J,a3,fun i hi b hb=>((a3 i hi).row.lt b hb).2,a5⟩
 have ai:Below B w f:=((b0r).grown C (l0r _) (fun k e=>by cases e)).mono hB;have N:w.heap.size<f.heap.size:=(ae.lt _ rfl).2
 obtain⟨g,cap,rfl,m⟩:∃g cap,q=.slice (some ⟨g,0,none⟩) xss.length cap/\xss.length<=cap:=by
  obtain⟨us,A,J,_⟩:=U;rcases J.2 with⟨_,h⟩ | ⟨g,cap,aD,h,_,_,Z,_⟩
  ·omega
  ·exact⟨g,cap,h,Z⟩
 have s:Hid (Mu f B f.heap.size (.slice (some ⟨g,0,none⟩) xss.length cap) (Id.ys xss 0)):=(by simpa[Id.ys,Hid]using T);have af:Hid (f.ownsRow w.heap.size 83 2 (.slice (some ⟨w.heap.size,0,none⟩) xss.length xss.length) xss.length (Id.rc (Id.rs xss 0))):=(by simpa[Id.rs,Hid]using ae);have l:=O ai;have HL:=O hl;have R:=O N;clear U T ae C ai hl N;go_enter func36,ntmps36;go_wp2;go_loopw[4,5,11] (fun _ _ S wr=>∃k:Nat,S=.int .i64 k/\k<=xss.length/\Mu wr B wr.heap.size (.slice (some ⟨g,0,none⟩) xss.length cap) (Id.ys xss k)/\wr.ownsRow w.heap.size 83 2 (.slice (some ⟨w.heap.size,0,none⟩) xss.length xss.length) xss.length (Id.rc (Id.rs xss k))/\Below B w wr/\w.heap.size<wr.heap.size) (fun _ _ S _=>xss.length-(intOf S).toNat)
 case atStart=>exact⟨0,rfl,f6J,V s,V af,V l,V R⟩
 case round =>
  obtain⟨k,rfl,hk,L,P,r,aG⟩:=hrel;clear s af l R t;by_cases H:k<xss.length
  ·have hL:(k:Int)<xss.length:=f6J;obtain⟨us,A,J,a3,M,a5⟩:=L;have n:=Id.z9o xss k;rw[n]at A J a3 M a5;have ar:=(J.cellAt k f6J).trans (p0H:us[k]?=some (us.getD k undef));have y:=a3 k H;rw[Id.ys_at xss H]at y;have K:=O (z5S y.sk (V HL _ N3J));obtain⟨xv,ab⟩:∃xv,us.getD k undef=xv:=⟨_,rfl⟩;rw[ab]at ar y K
   have F:Hid (∀Q u d c Y,Id.rd (xss.getD k [])=(Y,d,c)->Bw wr Q->((u=xv/\Y=xss.getD k [])\/Ok .i32 21 Q (wr.heap.size+1) u Y) ->
     (∃au cu,u=.slice au Y.length cu)/\(∃z,Q.cell? ⟨g,k,none⟩=some z)/\Q.frozen? ⟨g,k,none⟩=false/\(∃a b,(Q.setCell ⟨g,k,none⟩ u).cell? ⟨w.heap.size,k*2,none⟩=some (.bool a)/\(Q.setCell ⟨g,k,none⟩ u).cell? ⟨w.heap.size,k*2+1,none⟩=some (.int .i64 b))/\(Q.setCell ⟨g,k,none⟩ u).frozen? ⟨w.heap.size,k*2,none⟩=false/\(Q.setCell ⟨g,k,none⟩ u).frozen? ⟨w.heap.size,k*2+1,none⟩=false /\
     ∃W,(((Q.setCell ⟨g,k,none⟩ u).setCell ⟨w.heap.size,k*2,none⟩ (.bool d)).setCell ⟨w.heap.size,k*2+1,none⟩ (.int .i64 c))=W/\Mu W B W.heap.size (.slice (some ⟨g,0,none⟩) xss.length cap) (Id.ys xss (k+1))/\W.ownsRow w.heap.size 83 2 (.slice (some ⟨w.heap.size,0,none⟩) xss.length xss.length) xss.length (Id.rc (Id.rs xss (k+1)))/\Below B w W/\w.heap.size<W.heap.size):=by
    intro Q u d c Y E b1 hu;have r2:=x5s J b1;have rr:=x5s P b1
    have aw:w.heap.size≠g:=by
     rintro rfl;rcases J.2 with⟨D,_⟩ | ⟨g',aA,o,D,_,G,_⟩
     ·cases D
     ·rcases P.2 with⟨Z,_⟩ | ⟨g2,aB,aC,Z,_,aj,_⟩
      ·cases Z
      ·simp only[Value.slice.injEq,Option.some.injEq,Addr.mk.injEq]at D Z;obtain⟨⟨rfl,_⟩,_⟩:=D;obtain⟨⟨rfl,_⟩,_⟩:=Z;rw[G]at aj;simp at aj
    have rq:=z8E rr (fun e=>aw e.symm) k u;have hq:=Id.z5Q (Id.rs xss k) (k:=k) (by rw[Id.z8G xss hk];exact H)
    have gB:B<=g:=by
     have:=(J.lt g rfl).1;omega
    have am:Below B w (((Q.setCell ⟨g,k,none⟩ u).setCell ⟨w.heap.size,k*2,none⟩ (.bool d)).setCell ⟨w.heap.size,k*2+1,none⟩ (.int .i64 c)) :=
     (((r.trans (b1.mono (by have:=r.size;exact f6J))).setCell (p:=⟨g,k,none⟩) gB u).setCell (p:=⟨w.heap.size,k*2,none⟩) hB _).setCell (p:=⟨w.heap.size,k*2+1,none⟩) hB _
    have I:=y.below b1
    have ag:Mu (Q.setCell ⟨g,k,none⟩ u) B (Q.setCell ⟨g,k,none⟩ u).heap.size (.slice (some ⟨g,0,none⟩) xss.length cap) ((Id.ys xss k).set k Y):=by
     have:=Mu.put19 (w:=Q) (B:=B) (g:=g) (cap:=cap) (xss:=Id.ys xss k) (us:=us) (by rw[n];exact A) (by rw[n];exact r2) (fun i hi=>(a3 i f6J).below b1) (fun i j b ay hj=>a5 i j b ay f6J) (k:=k) f6J (u:=u) (ys:=Y)
      (by
       rcases hu with⟨rfl,rfl⟩ | hu
       ·exact I
       ·exact hu.lower (by have:=r.size;exact f6J))
      (fun j hj aF b hb=>by
       rcases hu with⟨rfl,rfl⟩ | hu
       ·rcases Nat.lt_or_ge j k with h | h
        ·intro Z;exact a5 j k b h H Z (by rw[ab];exact hb)
        ·exact a5 k j b f6J f6J (by rw[ab];exact hb)
       ·intro Z;have:=(hu.row.lt b hb).1;have:=M j f6J b Z
        omega)
     rw[n]at this;exact this
    rw[Id.z6s xss H E]at ag;have rz:=(rq.stored (k*2) (.bool d)).1
    have az:∃au cu,u=.slice au Y.length cu:=by
     rcases hu with⟨rfl,rfl⟩ | hu
     ·obtain⟨ao,cp,h,_⟩:=I.sk.shape;exact⟨ao,cp,h⟩
     ·obtain⟨ao,cp,h,_⟩:=hu.sk.shape;exact⟨ao,cp,h⟩
    refine⟨az,⟨_,(r2.cellAt k f6J).trans (p0H:us[k]?=some (us.getD k undef))⟩,r2.frozenAt k,⟨_,_,(rq.cellAt (k*2) f6J).trans hq.1,(rq.cellAt (k*2+1) f6J).trans hq.2⟩,rq.frozenAt _,rq.frozenAt _,_,rfl,?_,?_,am,?_⟩
    ·have:=Mu.put2_19 (Mu.put2_19 ag rq e8N e8N (k*2) (.bool d)) rz e8N e8N (k*2+1) (.int .i64 c);exact W2O
    ·have:=(rz.stored (k*2+1) (.int .i64 c)).1;rwa [Id.z8o,Id.z6a xss H E]at this
    ·have:=b1.size;simp;omega
   clear A J a3 M a5 P r y n ab;generalize xss.getD k []=X at *;go_wp2_with fail;refine(V K).mono ?_;rintro e Q ⟨u,d,c,Y,E,rfl,b1,hu⟩;obtain⟨⟨au,cu,rfl⟩,⟨z,c0⟩,f0,⟨a,b,c1,c2⟩,f1,f2,W,hW,H1⟩:=V F Q u d c Y E b1 hu;have HH:=O H1;clear K F E b1 hu H1;go_wp2
   go_roundw
   case rel=>exact⟨k+1,g2A,f6J,(V HH).1,(V HH).2.1,(V HH).2.2.1,(V HH).2.2.2⟩
   case measure=>exact g7V
  ·obtain rfl:k=xss.length:=f6J;have H1:=O L;have v:=O P;have H3:=O r;clear L P r;go_wp2;go_ret;exact⟨_,rfl,V H1,V v,V H3⟩
structure IdC(p:Nat)(fl:Int)(mp nc:List Int->List Int)(hr:List Int->Bool)(ck:List Int->Bool->Bool->Nat)(w0:World):Prop where
 map:∀W xv X,Below w0.heap.size w0 W->Sk .i32 W xv X->X.length<=16384->Calls prog 14 #[.pointer (some ⟨p,0,none⟩),xv,.int .i64 fl] W (y2N W (mp X))
 nfc:∀W xv X,Below w0.heap.size w0 W->Sk .i32 W xv X->X.length<=65536->Calls prog 15 #[.pointer (some ⟨p,0,none⟩),xv] W (fun e w'=>∃v,e=.returned (.tuple #[v,.int .i64 0])/\Ok .i32 21 w' W.heap.size v (nc X)/\Below W.heap.size W w')
 len:∀X,X.length<=65536->(nc X).length<=2097152
 dom:∀W lv Xs,Below w0.heap.size w0 W->x5u W lv Xs->Calls prog 37 #[.pointer (some ⟨p,0,none⟩),lv] W (x0c W (Xs.any hr))
 chk:∀W xv X rtl dec,Below w0.heap.size w0 W->Sk .i32 W xv X->X.length<=65536->Calls prog 68 #[.pointer (some ⟨p,0,none⟩),xv,.int .i64 fl,.bool rtl,.bool dec] W (IntB W ((ck X rtl dec:Nat):Int))
 lt:∀X rtl dec,ck X rtl dec<65536
 ms:∀X,(∀c∈X,Utf.okc c)->∀c∈mp X,Utf.okc c
 ns:∀X,(∀c∈X,Utf.okc c)->∀c∈nc X,Utf.okc c
theorem IdC.on{p:Nat}{fl:Int}{mp nc:List Int->List Int}{hr:List Int->Bool}{ck:List Int->Bool->Bool->Nat}{w W:World}(h:IdC p fl mp nc hr ck w)(C:Bw w W):IdC p fl mp nc hr ck W :=
 ⟨fun Q a X t=>h.map Q a X (x0b C t),fun Q a X t=>h.nfc Q a X (x0b C t),h.len,fun Q q N t=>h.dom Q q N (x0b C t),fun Q a X r d t=>h.chk Q a X r d (x0b C t),h.lt,h.ms,h.ns⟩
structure EngAt(w:World)(q:Nat)(fl:Int)(p:Nat):Prop where
 f:w.cell? ⟨q,0,none⟩=some (.int .i64 fl)
 d:w.cell? ⟨q,1,none⟩=some (.pointer (some ⟨p,0,none⟩))
theorem EngAt.on{w W:World}{q:Nat}{fl:Int}{p:Nat}(h:EngAt w q fl p)(C:Bw w W):EngAt W q fl p :=
 ⟨by rw[C.cell (x0a h.f)];exact h.f,by rw[C.cell (x0a h.d)];exact h.d⟩
theorem x8L(fl:Int)(w:World):Calls prog 11 #[.agg #[.int .i64 fl]] w (fun e w'=>e=.returned (.int .i64 fl)/\Bw w w'):=by
 go_enter func11,ntmps11;exact p9O
theorem z7U{W:World}{f:Nat}{A:Array Value}{zs:List Int}(h:Calls prog f A W (y2N W zs)):Calls prog f A W (fun e w'=>∃v c,e=.returned (.tuple #[v,.int .i64 c])/\Bw W w'/\((c=0/\zs.length<=65536/\Ok .i32 21 w' W.heap.size v zs)\/(c=2/\65536<zs.length))) :=
 h.mono fun e w' ⟨hb,h⟩=>by
  rcases h with⟨D,v,Z,R⟩ | ⟨D,Z⟩
  ·exact⟨v,0,Z,hb,.inl ⟨rfl,D,R⟩⟩
  ·exact⟨_,2,Z,hb,.inr ⟨rfl,D⟩⟩
namespace Id
def cut(mp nc:List Int->List Int)(zs:List Int):List (List Int)×Nat :=
 if 16384<zs.length then([],2)else if(Utf.dec 0 zs).2.2≠0 then([],1)else if 65536<(mp (Utf.dec 0 zs).1).length then([],2)else(Spl.split (nc (mp (Utf.dec 0 zs).1)),0)
theorem z1e{mp nc:List Int->List Int}{zs:List Int}(h:16384<zs.length):cut mp nc zs=([],2):=if_pos h
theorem z4u{mp nc:List Int->List Int}{zs:List Int}(h:¬16384<zs.length)(Z:(Utf.dec 0 zs).2.2≠0):cut mp nc zs=([],1):=by unfold cut;rw[if_neg h,if_pos Z]
theorem z4v{mp nc:List Int->List Int}{zs:List Int}(h:¬16384<zs.length)(Z:(Utf.dec 0 zs).2.2=0)(R:65536<(mp (Utf.dec 0 zs).1).length):cut mp nc zs=([],2):=by unfold cut;rw[if_neg h,if_neg f0S,if_pos R]
theorem z3d{mp nc:List Int->List Int}{zs:List Int}(h:¬16384<zs.length)(Z:(Utf.dec 0 zs).2.2=0)(R:¬65536<(mp (Utf.dec 0 zs).1).length):cut mp nc zs=(Spl.split (nc (mp (Utf.dec 0 zs).1)),0):=by unfold cut;rw[if_neg h,if_neg f0S,if_neg R]
end Id
theorem Mu.lower19{w:World}{B E U:Nat}{v:Value}{xss:List (List Int)}(h:Mu w B U v xss)(l:E<=B):Mu w E U v xss:=by
 obtain⟨j,A,J,d,C,H⟩:=h;refine⟨j,A,⟨J.1,?_⟩,fun i hi=>(d i hi).lower l,C,H⟩;rcases J.2 with h | ⟨g,M,P,D,Z,R⟩
 ·exact .inl h
 ·exact .inr ⟨g,M,P,D,Nat.le_trans l Z,R⟩
def z6D(w:World)(r:List (List Int)×Nat)(e:Ending)(w':World):Prop :=
 Below w.heap.size w w'/\((∃c:Nat,r=([],c)/\(c=1\/c=2)/\e=.returned (.tuple #[.slice none 0 0,.int .i64 (c:Int)]))\/∃v xss,r=(xss,0)/\e=.returned (.tuple #[v,.int .i64 0])/\Mu w' w.heap.size w'.heap.size v xss)
theorem cut19{p q:Nat}{fl:Int}{mp nc:List Int->List Int}{hr:List Int->Bool}{ck:List Int->Bool->Bool->Nat}{w:World}(N:IdC p fl mp nc hr ck w)(Z:EngAt w q fl p)(s:ByteArray):Calls prog 35 #[.pointer (some ⟨q,0,none⟩),.string s] w (z6D w (Id.cut mp nc (nums s))):=by
 have L:=nums_length s;by_cases ab:16384<s.size
 ·have x:=O (Id.z1e (mp:=mp) (nc:=nc) (zs:=nums s) f6J);have j:(16384:Int)<s.size:=f6J;clear N Z L;generalize Id.cut mp nc (nums s)=r at *;go_enter func35,ntmps35;go_wp2;go_ret2;exact⟨b0r,.inl ⟨2,V x,.inr rfl,rfl⟩⟩
 ·have j:¬((16384:Int)<s.size):=f6J;have KD:=O (decC s w f6J);have X:=fun h=>O (Id.z4u (mp:=mp) (nc:=nc) (zs:=nums s) f6J h);have E:=fun h h'=>O (Id.z4v (mp:=mp) (nc:=nc) (zs:=nums s) f6J h h');have B:=fun h h'=>O (Id.z3d (mp:=mp) (nc:=nc) (zs:=nums s) f6J h h')
  have ae:(Utf.dec 0 (nums s)).1.length<=16384:=by
   rcases Utf.dec_shape (nums s).length 0 (nums s) (l0r _)with⟨_,_,h⟩ | ⟨q,h,_⟩
   ·omega
   ·rw[h];simp
  have n:Hid (∀W a,Bw w W->Sk .i32 W a (Utf.dec 0 (nums s)).1->_):=fun W a t hx=>z7U (N.map W a _ t hx ae);have KN:=O N.nfc;have Y:=O N.len;have H:=O fun W (t:Bw w W)=>(Z.on t).f;have k:=O fun W (t:Bw w W)=>(Z.on t).d;have KF:=O (x8L fl);clear N Z ae ab L;generalize Id.cut mp nc (nums s)=r,Utf.dec 0 (nums s)=dd at *;obtain⟨xs,d2,d3⟩:=dd;go_enter func35,ntmps35;go_wp2_with fail;refine(V KD).mono ?_;rintro e Q ⟨v,rfl,y,b1⟩;by_cases o:d3=0
  ·subst o;replace E:=E rfl;replace B:=B rfl;have l:=O b1;have D:Bw Q Q:=b0r;have C:=D.drew;have H:=O fun W (t:Bw Q W)=>V H W (x0b b1 t);have k:=O fun W (t:Bw Q W)=>V k W (x0b b1 t);have A:=O (fun W (t:Bw Q W)=>V n W v (x0b b1 t) (y.sk.below t));obtain⟨ao,ai,rfl,_,_⟩:=y.sk.shape;clear KD n y X b1;go_wp2_with fail;go_region_held3(fun R=>R.cell? ⟨q,0,none⟩=some (.int .i64 fl)/\R.cell? ⟨q,1,none⟩=some (.pointer (some ⟨p,0,none⟩))/\Bw Q R) (first| exact⟨V H _ W8W,V k _ W8W,W8W⟩|(have T:=x0b C W8W;exact⟨V H _ T,V k _ T,T⟩) | go_keep) (first| (go_at_call 11;refine(V KF _).mono ?_;rintro e w2 ⟨rfl,m⟩;have F:=x0b (w3h:Bw Q _) m)|(go_at_call 14;refine(V A _ W8W).mono ?_;rintro e u ⟨vm,cm,rfl,G,M⟩;have U:=x0b (w3h:Bw Q _) G));rcases M with⟨rfl,c,b⟩ | ⟨rfl,c⟩
   ·have g:=B f6J;have P:=x0b (V l) U;have K4:=O (V KN u vm _ P b.sk c);have L:=V Y _ c;have c1:=V k u U;obtain⟨ag,S,rfl,_,_⟩:=b.sk.shape;clear A KF KN Y H k E B C D F m b c G U l;generalize nc (mp xs)=nn at *;go_wp2_with fail;refine(V K4).mono ?_;rintro e w4 ⟨v4,rfl,i,z⟩;have K5:=O (z2D v4 nn w4 i.sk f6J);obtain⟨J,I,rfl,_,_⟩:=i.sk.shape;have K:=x0b P z;clear K4 c1 i z P;go_wp2_with fail;refine(V K5).mono ?_;rintro e w5 ⟨v5,rfl,af,b5⟩;have HM:=O (af.lower19 K.size);have HB:=O (x0b K b5);clear K5 af b5 K;go_wp2;go_ret2;exact⟨V HB,.inr ⟨_,_,V g,rfl,V HM⟩⟩
   ·have g:=E c;have HB:=O (x0b (V l) U);clear A KF KN Y H k E B C D F m c G U l;go_wp2;go_ret2;exact⟨V HB,.inl ⟨2,V g,.inr rfl,rfl⟩⟩
  ·have g:=X o;have aj:(d3 != 0)=true:=f2p;have HB:=O b1;clear KD n KN Y H k KF y X E B o b1;go_wp2;go_ret2;exact⟨V HB,.inl ⟨1,V g,.inl rfl,rfl⟩⟩
namespace Id
def rdc(x:List Int):Nat:=(rd x).2.2.toNat
theorem rd_c(x:List Int):(rd x).2.2=((rdc x:Nat):Int)/\rdc x<65536:=by
 unfold rdc rd;split
 ·exact⟨rfl,M7K⟩
 ·split
  ·exact⟨rfl,M7K⟩
  ·split
   ·exact⟨rfl,M7K⟩
   ·exact⟨rfl,M7K⟩
def wr(ck:List Int->Bool->Bool->Nat)(X:List Int)(c:Nat)(rtl dec:Bool):Nat:=if c=0 then ck X rtl dec else c
def wrong(ck:List Int->Bool->Bool->Nat)(rtl:Bool)(x:List Int):Nat:=wr ck (rd x).1 (rdc x) rtl (rd x).2.1
def acc(ck:List Int->Bool->Bool->Nat)(rtl:Bool)(xss:List (List Int)):Nat:=(xss.map (wrong ck rtl)).foldl (·|||·) 0
theorem y3X{ck:List Int->Bool->Bool->Nat}(h:∀X r d,ck X r d<65536)(rtl:Bool)(x:List Int):wrong ck rtl x<65536:=by
 unfold wrong wr;split
 ·exact h _ _ _
 ·exact(rd_c x).2
theorem z0E(ck:List Int->Bool->Bool->Nat)(rtl:Bool)(xss:List (List Int))(x:List Int):acc ck rtl (xss++[x])=acc ck rtl xss|||wrong ck rtl x:=by simp[acc]
theorem x6e{ck:List Int->Bool->Bool->Nat}(h:∀X r d,ck X r d<65536)(rtl:Bool)(xss:List (List Int)):acc ck rtl xss<65536:=by
 suffices ∀(l:List Nat) (a:Nat),a<2^16->(∀z∈l,z<2^16)->l.foldl (·|||·) a<2^16 from this _ 0 e8M (fun z o=>by obtain⟨x,_,rfl⟩:=List.mem_map.1 o;exact y3X h rtl x)
 intro l
 induction l with
 | nil=>intro a L _;exact L
 | cons z l ih=>intro a L S;exact ih _ (Nat.or_lt_two_pow L (S z M7L)) (fun y A=>S y (by simp[A]))
theorem z0D{ck:List Int->Bool->Bool->Nat}{rtl:Bool}{xss:List (List Int)}{k:Nat}(G:k<xss.length):acc ck rtl (xss.take (k+1))=acc ck rtl (xss.take k)|||wrong ck rtl (xss.getD k []):=by
 rw[List.take_succ_eq_append_getElem G,z0E];exact w7Y
theorem or19{a b:Nat}(L:a<65536)(C:b<65536):bits .or .i64 (a:Int) (b:Int)=((a|||b:Nat):Int):=by
 have B:a|||b<2^16:=Nat.or_lt_two_pow L C;exact V8W
def read(xss:List (List Int)):List (List Int):=xss.map fun x=>(rd x).1
theorem z9n(xss:List (List Int)):ys xss xss.length=read xss:=by simp[ys,read]
theorem z8F(xss:List (List Int)):rs xss xss.length=xss.map fun x=>(rd x).2:=by simp[rs]
theorem y9p(f:Nat):∀(zs:List Int) (s:Pu.St),(Pu.x4S f zs s).1.length<=s.xs.length+f:=by
 induction f with
 | zero=>intro zs s;simp[Pu.x4S]
 | succ f ih =>
  intro zs s;rw[Pu.x4S];split
  ·simp
  ·split
   ·simp
   ·split
    ·simp
    ·split
     ·simp
     ·refine Nat.le_trans (ih _ _) ?_;have:∀(l:List Int) (p:Nat) (c:Int),(Pu.ins l p c).length=l.length+1:=fun l p c=>(by simp[Pu.ins];exact f6J);simp only[Pu.step,this];omega
theorem z8r(x:List Int):(rd x).1.length<=8*x.length:=by
 have D:(pn x).1.length<=8*x.length:=by
  unfold pn Pu.decode;have S:(txt (x.drop 4)).length<=4*(x.drop 4).length:=Utf.y1L 0 _;rw[List.length_drop]at S;split
  ·simp
  ·split
   ·simp
   ·refine Nat.le_trans (y9p _ _ _) ?_;have:((txt (x.drop 4)).take (Pu.x4K (txt (x.drop 4)) 0 0)).length<=(txt (x.drop 4)).length:=P8P;simp only[Pu.begin];omega
 unfold rd;split
 ·exact f4S
 ·split
  ·exact f4S
  ·split
   ·exact f4S
   ·exact D
theorem x8j(xss:List (List Int)):Spl.total (read xss)<=8*Spl.total xss:=by
 induction xss with
 | nil=>simp[read,Spl.total]
 | cons x l ih =>
  have:=z8r x;simp only[read,Spl.total,List.map_cons,List.sum_cons]at ih ⊢;omega
def proc(mp nc:List Int->List Int)(hr:List Int->Bool)(ck:List Int->Bool->Bool->Nat)(zs:List Int):List (List Int)×Nat :=
 if(cut mp nc zs).2≠0 then([],(cut mp nc zs).2)else if 16384<cnt (Utf.encA 0 (Spl.join (read (cut mp nc zs).1)))then([],2)else(read (cut mp nc zs).1,acc ck ((read (cut mp nc zs).1).any hr) (cut mp nc zs).1)
theorem y7a{mp nc:List Int->List Int}(S:∀X:List Int,X.length<=65536->(nc X).length<=2097152){zs:List Int}{xss:List (List Int)}(h:cut mp nc zs=(xss,0)):0<xss.length/\xss.length<=2097153/\Spl.total xss<=2097152:=by
 unfold cut at h;split at h
 ·simp at h
 ·split at h
  ·simp at h
  ·split at h
   ·simp at h
   ·obtain rfl:=(Prod.mk.inj h).1
    rename_i h3
    have D:=S _ (Nat.le_of_not_lt h3);have Z:=Spl.y5Q [] (nc (mp (Utf.dec 0 zs).1));have H:=Spl.y2H [] (nc (mp (Utf.dec 0 zs).1));have p:=Spl.y9S [] (nc (mp (Utf.dec 0 zs).1));unfold Spl.split;exact⟨List.length_pos_iff.2 p,f6J,by simp at H;exact f6J⟩
end Id
theorem Mu.rws17{w:World}{B U:Nat}{v:Value}{xss:List (List Int)}(h:Mu w B U v xss)(S:xss.length<=1000000000):x5u w v xss:=by
 obtain⟨j,A,J,d,_,_⟩:=h;refine⟨S,?_⟩;rcases J.2 with⟨D,Z⟩ | ⟨g,M,P,rfl,Y,t,E,m,I,C⟩
 ·exact .inl ⟨Z,none,0,by rw[D],f6J⟩
 ·refine .inr ⟨g,0,M,rfl,E,M7M,fun i hi=>⟨j.getD i undef,?_,(d i hi).sk⟩⟩;rw[Nat.zero_add,J.cellAt i f6J];simp[List.getD,(f6J:i<j.length)]
theorem z6q{p q:Nat}{fl:Int}{mp nc:List Int->List Int}{hr:List Int->Bool}{ck:List Int->Bool->Bool->Nat}{w:World}(N:IdC p fl mp nc hr ck w)(Z:EngAt w q fl p){a:Value}{X:List Int}(J:Sk .i32 w a X)(S:X.length<=65536)(c:Nat)(d rtl:Bool) :
  Calls prog 38 #[.pointer (some ⟨q,0,none⟩),a,.agg #[.bool d,.int .i64 (c:Int)],.bool rtl] w (IntB w ((Id.wr ck X c rtl d:Nat):Int)):=by
 by_cases I:c=0
 ·subst I;have E:Id.wr ck X 0 rtl d=ck X rtl d:=if_pos rfl;rw[E];obtain⟨Q,H⟩:∃Q,w.alloc (.cells #[.bool d,.int .i64 0] 83)=Q:=⟨_,rfl⟩;have b1:Bw w Q:=(by rw[<- H];exact t9C);have M:Od.Blk Q w.heap.size 83 [.bool d,.int .i64 0]:=(by rw[<- H];exact Od.Blk.new w _ _ _ rfl);have D:Bw Q Q:=b0r;have C:=D.drew;have P:=O fun W (t:Bw Q W)=>(Z.on (x0b b1 t)).f;have k:=O fun W (t:Bw Q W)=>(Z.on (x0b b1 t)).d;have v:=O fun W (t:Bw Q W)=>(M.below t M.lt).cell (i:=0) rfl;have o:=M.cell (i:=1) rfl;have K:=O fun W (t:Bw Q W)=>N.chk W a X rtl d (x0b b1 t) (J.below (x0b b1 t)) S;have g:=O (x8L fl);have l:=O b1;obtain⟨s,b,rfl,_,_⟩:=J.shape;clear N Z J E b1 M S;generalize ck X rtl d=z at *;go_enter func38,ntmps38;go_wp2_with fail;go_region_held3(fun R=>R.cell? ⟨q,0,none⟩=some (.int .i64 fl)/\R.cell? ⟨q,1,none⟩=some (.pointer (some ⟨p,0,none⟩))/\R.cell? ⟨w.heap.size,0,none⟩=some (.bool d)/\Bw Q R) (first| exact⟨V P _ W8V,V k _ W8V,V v _ W8V,W8V⟩|(have T:=x0b C W8V;exact⟨V P _ T,V k _ T,V v _ T,T⟩) | go_keep) (first| (go_at_call 11;refine(V g _).mono ?_;rintro e A ⟨rfl,m⟩;have F:=x0b (w3h:Bw Q _) m)|(go_at_call 68;refine(V K _ W8V).mono ?_;rintro e u ⟨rfl,G⟩;have U:=x0b (w3h:Bw Q _) G));have B:=O (x0b (V l) U);clear K P k v g F U m G C D l;go_wp2;go_ret;exact⟨rfl,V B⟩
 ·have E:Id.wr ck X c rtl d=c:=if_neg I;rw[E];have Y:(((c:Nat):Int) != 0)=true:=v0A;obtain⟨s,b,rfl,_,_⟩:=J.shape;clear N Z J E S I;generalize((c:Nat):Int)=z at *;go_enter func38,ntmps38;go_wp2;go_ret;exact⟨rfl,(b0r).alloc (l0r _) _⟩
namespace Id
def Snd(x:List Int):Prop:=∀c∈x,Utf.okc c
theorem y5O{x:List Int}(h:(Utf.encA 0 x).2.2=0):Snd x:=by
 rcases fb_enc 0 x with⟨_,_,D⟩ | ⟨q,_,D,_⟩
 ·exact D
 ·rw[D]at h;simp at h
theorem y7o(i:Nat){x:List Int}(h:Snd x):(Utf.encA i x).2.2=0/\x.length<=(Utf.encA i x).1.length:=by
 induction x generalizing i with
 | nil=>exact⟨rfl,M7N⟩
 | cons c r ih =>
  have D:=ih (i+1) (fun z o=>h z m6g);have Z:=Utf.x4e c;rw[Utf.encA,if_pos (h c M7N),Utf.glue,if_pos D.1];exact⟨rfl,P8P⟩
theorem z4q{x:List Int}(h:Snd x):(x.length:Int)<=cnt (Utf.encA 0 x):=by
 have:=y7o 0 h;unfold cnt;rw[if_pos this.1];omega
theorem z4y{zs:List Int}(C:Utf.Byt zs)(h:(Utf.dec 0 zs).2.2=0):Snd (Utf.dec 0 zs).1 :=
 y5O (by rw[Utf.z4D zs.length 0 0 zs (l0r _) C h])
theorem y9T{x:List Int}(h:Snd x){y:List Int}(hy:y∈Spl.split x):Snd y:=fun c I=>by
 rcases Spl.splitA_mem [] x y hy c I with h1 | h1
 ·cases h1
 ·exact h c h1
theorem ins_mem{l:List Int}{p:Nat}{c z:Int}(h:z∈Pu.ins l p c):z∈l\/z=c:=by
 unfold Pu.ins at h;rcases List.mem_append.1 h with h | h
 ·exact .inl (List.mem_of_mem_take h)
 ·rcases List.mem_cons.1 h with h | h
  ·exact .inr h
  ·exact .inl (List.mem_of_mem_drop h)
theorem y9q(f:Nat):∀(zs:List Int) (s:Pu.St),Snd s.xs->Snd (Pu.x4S f zs s).1:=by
 induction f with
 | zero=>intro zs s h;exact h
 | succ f ih =>
  intro zs s h;rw[Pu.x4S];split
  ·exact h
  ·split
   ·exact W3W
   ·split
    ·exact W3W
    ·split
     ·exact W3W
     ·rename_i h4
      refine ih _ _ fun c I=>?_;rcases ins_mem I with h1 | h1
      ·exact h c h1
      ·subst h1;exact Decidable.of_not_not h4
theorem y8U{z:Int}(T:0<=z)(D:z<128):Utf.okc z:=M1d
theorem z8s{x:List Int}(h:Snd x):Snd (rd x).1:=by
 unfold rd;split
 ·exact h
 ·split
  ·exact h
  ·split
   ·exact h
   ·show Snd (Pu.decode (txt (x.drop 4))).1;unfold Pu.decode;split
    ·exact W3W
    ·split
     ·exact W3W
     ·rename_i hb
      refine y9q _ _ _ fun c I=>?_;have U:c∈txt (x.drop 4):=List.mem_of_mem_take I;have A:Utf.Byt (txt (x.drop 4)):=Utf.y7n 0 _;have C:Pu.basicB (txt (x.drop 4))=true:=(by simpa using hb);unfold Pu.basicB at C;rw[List.all_eq_true]at C;exact y8U (A c U).1 (by simpa using C c U)
theorem x8W:∀{l:List (List Int)},(∀y∈l,Snd y)->Snd (Spl.join l)
 | [],_=>fun c hc=>by simp[Spl.join]at hc
 | [a],h=>by simpa[Spl.join]using h a M7L
 | a::b::l,h=>by
  rw[Spl.join_cons a M7L];intro c hc;rcases List.mem_append.1 hc with hc | hc
  ·exact h a M7L c hc
  ·rcases List.mem_cons.1 hc with hc | hc
   ·subst hc;exact y8U e8M e8M
   ·exact x8W (l:=b::l) (fun y hy=>h y (by simp at hy ⊢;right;exact hy)) c hc
theorem y3L:∀(l:List (List Int)) (k:Nat),(l.getD k []).length<=(Spl.join l).length
 | [],k=>M7K
 | [a],k=>by cases k<;>simp[Spl.join]
 | a::b::l,k=>by
  rw[Spl.join_cons a M7K,List.length_append,List.length_cons]
  cases k with
  | zero=>simp
  | succ k=>have:=y3L (b::l) k;simp only[List.getD_cons_succ];omega
theorem y6Z{mp nc:List Int->List Int}(D:∀X,Snd X->Snd (mp X))(Z:∀X,Snd X->Snd (nc X)){zs:List Int}(C:Utf.Byt zs){xss:List (List Int)}(h:cut mp nc zs=(xss,0)):∀x∈xss,Snd x:=by
 unfold cut at h;split at h
 ·simp at h
 ·split at h
  ·simp at h
  ·split at h
   ·simp at h
   ·obtain rfl:=(Prod.mk.inj h).1
    rename_i h3 h4
    exact fun x J=>y9T (Z _ (D _ (z4y C (by simpa using h3)))) J
theorem y3K{xss:List (List Int)}(h:∀x∈xss,Snd x):∀y∈read xss,Snd y:=fun y hy=>by
 obtain⟨x,J,rfl⟩:=List.mem_map.1 hy;exact z8s (h x J)
end Id
namespace Id
theorem y9j{mp nc:List Int->List Int}{hr:List Int->Bool}{ck:List Int->Bool->Bool->Nat}{zs:List Int}{c:Nat}(h:cut mp nc zs=([],c))(I:c≠0):proc mp nc hr ck zs=([],c):=by unfold proc;rw[h,if_pos I]
theorem y3I{mp nc:List Int->List Int}{hr:List Int->Bool}{ck:List Int->Bool->Bool->Nat}{zs:List Int}{xss:List (List Int)}(h:cut mp nc zs=(xss,0))(C:16384<cnt (Utf.encA 0 (Spl.join (read xss)))):proc mp nc hr ck zs=([],2):=by unfold proc;rw[h,if_neg M7K,if_pos C]
theorem y9k{mp nc:List Int->List Int}{hr:List Int->Bool}{ck:List Int->Bool->Bool->Nat}{zs:List Int}{xss:List (List Int)}(h:cut mp nc zs=(xss,0))(C:¬16384<cnt (Utf.encA 0 (Spl.join (read xss)))):proc mp nc hr ck zs=(read xss,acc ck ((read xss).any hr) xss):=by unfold proc;rw[h,if_neg M7K,if_neg C]
end Id
def y6j(w:World)(r:List (List Int)×Nat)(e:Ending)(w':World):Prop :=
 Below w.heap.size w w'/\∃v,e=.returned (.tuple #[v,.int .i64 ((r.2:Nat):Int)])/\Mu w' w.heap.size w'.heap.size v r.1
theorem Mu.now19{w:World}{B U:Nat}{v:Value}{xss:List (List Int)}(h:Mu w B U v xss):Mu w B w.heap.size v xss:=by
 obtain⟨j,A,J,d,M,H⟩:=h;exact⟨j,A,J,d,fun i hi b C=>((d i hi).row.lt b C).2,H⟩
theorem y0N{p q:Nat}{fl:Int}{mp nc:List Int->List Int}{hr:List Int->Bool}{ck:List Int->Bool->Bool->Nat}{w:World}(N:IdC p fl mp nc hr ck w)(Z:EngAt w q fl p)(s:ByteArray):Calls prog 18 #[.pointer (some ⟨q,0,none⟩),.string s] w (y6j w (Id.proc mp nc hr ck (nums s))):=by
 have K:=O (cut19 N Z s);have R1:=fun c h h'=>O (Id.y9j (mp:=mp) (nc:=nc) (hr:=hr) (ck:=ck) (zs:=nums s) (c:=c) h h');have R2:=fun xss h h'=>O (Id.y3I (mp:=mp) (nc:=nc) (hr:=hr) (ck:=ck) (zs:=nums s) (xss:=xss) h h');have B:=fun xss h h'=>O (Id.y9k (mp:=mp) (nc:=nc) (hr:=hr) (ck:=ck) (zs:=nums s) (xss:=xss) h h');have HX:=O fun xss=>Id.y7a (mp:=mp) N.len (zs:=nums s) (xss:=xss);generalize Id.proc mp nc hr ck (nums s)=r,hCT:Id.cut mp nc (nums s)=ct at *;go_enter func18,ntmps18;go_wp2_with fail;refine(V K).mono ?_;rintro e w1 ⟨b1,⟨c,D,hc,rfl⟩ | ⟨v,xss,D,rfl,T⟩⟩
 ·have HR:=R1 c D f6J;have aJ:((c:Int) != 0)=true:=n7C;have HB:=O b1;clear K R1 R2 B HX D hc b1 N Z hCT;exact S5N
 ·obtain⟨x0,x1,x2⟩:=V HX xss D;have b:=O (Id.z4q (Id.x8W (Id.y3K (Id.y6Z N.ms N.ns (x0x s) (hCT.trans D)))));clear hCT;have aC:(Id.read xss).length=xss.length:=(by simp[Id.read]);have aG:=Id.x8j xss
  have K2:=O (y5y b1.size T x0 f6J (fun x hx=>by
   obtain⟨i,hi,rfl⟩:=List.getElem_of_mem hx;have:=Spl.z3x xss i;simp only[List.getD,List.getElem?_eq_getElem hi,Option.getD_some]at this
   omega))
  replace R2:=fun h=>R2 xss D h;replace B:=fun h=>B xss D h
  obtain⟨g,M,rfl⟩:∃g M,v=.slice (some ⟨g,0,none⟩) xss.length M:=by
   obtain⟨us,a1,J,_⟩:=T;rcases J.2 with⟨_,h⟩ | ⟨g,M,aD,h,_⟩
   ·omega
   ·exact⟨g,M,h⟩
  clear K R1 HX D T;go_wp2_with fail;refine(V K2).mono ?_;rintro e w2 ⟨rv,rfl,l,af,b2⟩;rw[Id.z9n]at l;rw[Id.z8F]at af;have F:=b1.trans b2;have K3:=O (z5k _ (Id.read xss) w2 (l.rwsS f6J) f6J)
  obtain⟨U,f,rfl⟩:∃U f,rv=.slice (some ⟨U,0,none⟩) xss.length f:=by
   rcases af.2 with⟨_,h⟩ | ⟨g,M,aD,h,_⟩
   ·omega
   ·exact⟨g,M,h⟩
  have ar:=O l;have ay:=O af;have am:=Spl.x5Q (Id.read xss);clear K2 b1 b2 l af;go_wp2_with fail;refine(V K3).mono ?_;rintro e w3 ⟨v3,rfl,I,b3⟩;have K4:=O (x9S v3 _ w3 I.sk f6J);have P:=x0b F b3;have E:=O ((V ar).below b3).now19;have ai:=O (x5s (V ay) b3);obtain⟨aI,aH,rfl,_,_⟩:=I.sk.shape;clear K3 ar ay F b3 I;go_wp2_with fail;refine(V K4).mono ?_;rintro e w3 ⟨rfl,rfl⟩;clear K4;have H:=O (Id.y3L (Id.read xss));generalize hcn:cnt (Utf.encA 0 (Spl.join (Id.read xss)))=cn at *;by_cases a:16384<cn
  ·have HR:=R2 a;have HB:=O P;clear b H R2 B hcn P E ai N Z am;exact S5N
  ·have HR:=B f6J
   have aq:Hid (∀k,((Id.read xss).getD k []).length<=65536):=fun k=>by
    have h1:=V H k;have h2:=V b;omega
   clear b H;have az:=Z.on P;have o:=az.d;have K5:=O (N.dom w3 _ _ P ((V E).rws17 f6J));have aj:=O P;have HE:=O Z;have Y:=O N;clear R2 B hcn P az Z N am;generalize(Id.read xss).any hr=rtl at *;go_wp2_with fail;refine c0m K5 fun X z=>?_;have ae:=x0b (V aj) z;have A:=((V E).below z).now19;have aB:=x5s (V ai) z;have aw:=O A;have C:Hid (∀k,Id.acc ck rtl (xss.take k)<65536):=fun k=>Id.x6e (V Y).lt rtl _;have ag:Hid (∀x,Id.wrong ck rtl x<65536):=fun x=>Id.y3X (V Y).lt rtl x
   have HG:Hid (∀k,k<xss.length->∀W,Bw X W->∃xv d c,W.cell? ⟨g,k,none⟩=some xv/\W.cell? ⟨U,k*2,none⟩=some (.bool d)/\W.cell? ⟨U,k*2+1,none⟩=some (.int .i64 c) /\
     Calls prog 38 #[.pointer (some ⟨q,0,none⟩),xv,.agg #[.bool d,.int .i64 c],.bool rtl] W (IntB W ((Id.wrong ck rtl (xss.getD k []):Nat):Int))):=by
    intro k G W t;obtain⟨us,a1,J,a3,_⟩:=A.below t;rw[aC]at a1 J a3;have hq:=Id.z5Q (xss.map fun x=>(Id.rd x).2) (k:=k) (by simpa using G);have ho:=x5s aB t;have e1:(Id.read xss).getD k []=(Id.rd (xss.getD k [])).1:=(by simp[Id.read,List.getD,G]);have e2:(xss.map fun x=>(Id.rd x).2).getD k (false,0)=(Id.rd (xss.getD k [])).2:=w8c;rw[e2]at hq;have L:=a3 k G;rw[e1]at L
    have aF:(Id.rd (xss.getD k [])).1.length<=65536:=by
     have:=V aq k;rwa [e1]at this
    have:=z6q ((V Y).on (x0b ae t)) ((V HE).on (x0b ae t)) L.sk aF (Id.rdc (xss.getD k [])) (Id.rd (xss.getD k [])).2.1 rtl;rw[<- (Id.rd_c (xss.getD k [])).1]at this;exact⟨_,_,_,(J.cellAt k f6J).trans (p0H:us[k]?=some (us.getD k undef)),(ho.cellAt (k*2) f6J).trans hq.1,(ho.cellAt (k*2+1) f6J).trans hq.2,this⟩
   have HN:Hid (∀k,k<xss.length->Id.acc ck rtl (xss.take (k+1))=Id.acc ck rtl (xss.take k)|||Id.wrong ck rtl (xss.getD k [])):=fun k G=>Id.z0D G;have m:Hid (Id.acc ck rtl (xss.take xss.length)=Id.acc ck rtl xss):=(by rw[List.take_length];exact rfl);have u:=O ae;clear K5 z aj E ai Y HE o ae A aB aG aC aq;go_wp2;go_loopw[7,10,11,35] (fun bv _ _ iv wr=>∃k:Nat,bv=.int .i64 ((Id.acc ck rtl (xss.take k):Nat):Int)/\iv=.int .i64 k/\k<=xss.length/\Bw X wr) (fun _ _ _ iv _=>xss.length-(intOf iv).toNat)
   case atStart=>exact⟨0,rfl,rfl,f6J,b0r⟩
   case round =>
    obtain⟨k,rfl,rfl,G,ab⟩:=hrel;by_cases aA:k<xss.length
    ·have hL:(k:Int)<xss.length:=f6J;obtain⟨xv,d,c,c0,o,c2,y⟩:=V HG k aA wr ab
     have HO:Hid (bits .or .i64 ((Id.acc ck rtl (xss.take k):Nat):Int) ((Id.wrong ck rtl (xss.getD k []):Nat):Int)=((Id.acc ck rtl (xss.take (k+1)):Nat):Int)):=by
      rw[V HN k aA];exact Id.or19 (V C k) (V ag _)
     replace y:=O y;have R:=O ab;clear HG HN C ag m ab;generalize ha2:((Id.acc ck rtl (xss.take (k+1)):Nat):Int)=J,((Id.acc ck rtl (xss.take k):Nat):Int)=a1,((Id.wrong ck rtl (xss.getD k []):Nat):Int)=a3 at *;have ho:=V HO;have S:Hid (∀W,Bw X W->∃n:Nat,Value.int .i64 J=.int .i64 ((Id.acc ck rtl (xss.take n):Nat):Int)/\Value.int .i64 ((k:Int)+1)=.int .i64 n/\n<=xss.length/\Bw X W):=fun W t=>⟨k+1,by rw[ha2],g2A,f6J,t⟩;clear ha2 HO;go_wp2_with fail;refine c0m y fun w5 b5=>?_;have Q:=O (x0b (V R) b5);clear y b5 R c0 o c2;go_wp2
     go_roundw
     case rel=>exact V S _ (V Q)
     case measure=>exact g7T
    ·obtain rfl:k=xss.length:=f6J;have HB:=O (x0b (V u) ab);have HM:=O ((V aw).below ab).now19;have j:=V m;rw[j];clear HG HN C ag m ab u aw j;go_wp2;go_ret2;obtain rfl:=V HR;exact⟨V HB,_,rfl,V HM⟩
namespace Id
def ca(x:List Int):List Int×Bool:=if allb ascb x=true then(txt x,true)else if(Pu.encode x).2≠0 then([],false)else([120,110,45,45]++(Pu.encode x).1,true)
theorem z6Q{x:List Int}(h:allb ascb x=true):ca x=(txt x,true):=if_pos h
theorem ca_no{x:List Int}(h:allb ascb x=false)(Z:(Pu.encode x).2≠0):ca x=([],false):=by unfold ca;rw[if_neg s8h,if_pos Z]
theorem z6R{x:List Int}(h:allb ascb x=false)(Z:(Pu.encode x).2=0):ca x=([120,110,45,45]++(Pu.encode x).1,true):=by unfold ca;rw[if_neg s8h,if_neg f0S]
def unf(v:Bool)(n m:Nat):Bool:=v&&(decide (n=0)||decide (m<n))
end Id
theorem y0q(fl f:Int)(w:World):Calls prog 12 #[.agg #[.int .i64 fl],.int .i64 f] w (x0c w (bits .and .i64 fl f==f)):=by
 generalize hz:(bits .and .i64 fl f==f)=z;go_enter func12,ntmps12;exact p9O
theorem z6n{q p:Nat}{fl:Int}{w:World}(Z:EngAt w q fl p)(s:ByteArray)(m:Nat):Calls prog 92 #[.pointer (some ⟨q,0,none⟩),.string s,.int .i64 (m:Int)] w (x0c w (Id.unf (bits .and .i64 fl 32==32) s.size m)):=by
 have K:=O (y0q fl 32 w);have Y:=Z.f;clear Z;generalize(bits .and .i64 fl 32==32)=v at *
 cases v with
 | false =>
  have H:=O (show false=Id.unf false s.size m from rfl);generalize Id.unf false s.size m=u at *;go_enter func92,ntmps92;go_wp2_with fail;refine c0m K fun Q b1=>?_;clear K;go_wp2;go_ret;exact⟨congrArg Ending.returned (congrArg Value.bool (V H)),b1⟩
 | true =>
  by_cases T:s.size=0
  ·have H:Hid (true=Id.unf true s.size m):=(by simp[Id.unf,T,Hid]);have N:(((s.size:Nat):Int)==0)=true:=(by simp[T]);clear T;exact n6b
  ·have N:(((s.size:Nat):Int)==0)=false:=t1o;by_cases D:m<s.size
   ·have H:Hid (true=Id.unf true s.size m):=(by simp[Id.unf,D,Hid]);have j:(m:Int)<(s.size:Int):=f6J;clear T D;exact n6b
   ·have H:Hid (decide (m<s.size)=Id.unf true s.size m):=(by simp[Id.unf,D,T,Hid]);have j:¬((m:Int)<(s.size:Int)):=f6J;clear T D;exact n6b
def z6z(w:World)(r:List Int×Bool)(e:Ending)(w':World):Prop:=e=.returned (.tuple #[.string (strOfNums r.1),.bool r.2])/\Below w.heap.size w w'
theorem y6I{w:World}{a:Value}{X:List Int}(J:Sk .i32 w a X)(S:X.length<=1000000000)(D:∀W,Bw w W->Calls prog 142 #[a] W (WrP W (Pu.encode X)))(L:(Pu.encode X).1.length<=1000000000):Calls prog 91 #[a] w (z6z w (Id.ca X)):=by
 have H:=O (z2X a X w J)
 cases hb:allb ascb X with
 | true =>
  rw[hb]at H;rw[Id.z6Q hb];have o:=O fun W (t:Bw w W)=>z0f (J.below t) S;obtain⟨U,M,rfl,_,_⟩:=J.shape;clear J D hb S L;generalize Id.txt X=z at *;go_enter func91,ntmps91;go_wp2_with fail;refine c0m H fun Q b1=>?_;have K:=O (V o Q b1);clear H o;go_wp2_with fail;refine c0m K fun A m=>?_;have B:=O (x0b b1 m);clear K b1 m;go_wp2;go_ret2;exact⟨rfl,V B⟩
 | false =>
  rw[hb]at H;have R:=fun h=>O (Id.ca_no hb h);have E:=fun h=>O (Id.z6R hb h);have F:=O D;obtain⟨U,M,rfl,_,_⟩:=J.shape;have C:=O L;clear J D hb S L;generalize Id.ca X=r,Pu.encode X=G at *;obtain⟨s,c⟩:=G;go_enter func91,ntmps91;go_wp2_with fail;refine c0m H fun Q b1=>?_;have K:=O (V F Q b1);clear H F;go_wp2_with fail;refine c0m K fun A m=>?_;have B:=O (x0b b1 m);clear K b1 m;by_cases I:c=0
  ·subst I;replace E:=E rfl;have P:∀W,(Op.stringOp .add (⟨#[120,110,45,45]⟩:ByteArray) (strOfNums s)).run prog W=.ok (.string ((⟨#[120,110,45,45]⟩:ByteArray)++strOfNums s)) W:=fun W=>run_string_add_sum W _ _ (by have:=V C;rw[strOfNums_size];show 4+_<=_;exact f6J)
   have T:Hid ((⟨#[120,110,45,45]⟩:ByteArray)++strOfNums s=strOfNums ([120,110,45,45]++s)):=by
    show _=_;apply ByteArray.ext;apply Array.toList_inj.1;rw[ByteArray.data_append,Array.toList_append];simp[strOfNums]
   clear R C;go_wp2;go_ret2;obtain rfl:=V E;exact⟨by rw[V T];rfl,V B⟩
  ·have g:=R I;have Y:(c != 0)=true:=v0A;clear R E I;go_wp2;go_ret2;obtain rfl:=V g;exact⟨rfl,V B⟩
namespace Id
def eb(v:Bool)(x:List Int):Nat:=if(ca x).2=false then 8192 else if unf v (ca x).1.length 63=true then 16384 else 0
def ea(v:Bool)(yss:List (List Int)):Nat:=(yss.map (eb v)).foldl (·|||·) 0
theorem z7r(v:Bool)(x:List Int):eb v x<65536:=by
 unfold eb;split
 ·decide
 ·split
  ·decide
  ·decide
theorem y7m{v:Bool}{P:List (List Int)}{k:Nat}(G:k<P.length):ea v (P.take (k+1))=ea v (P.take k)|||eb v (P.getD k []):=by
 rw[List.take_succ_eq_append_getElem G,ea,ea,List.map_append,List.foldl_append];simp only[List.map_cons,List.map_nil,List.foldl_cons,List.foldl_nil,List.getD,List.getElem?_eq_getElem G,Option.getD_some]
theorem or_lt{l:List Nat}{a:Nat}(L:a<65536)(S:∀z∈l,z<65536):l.foldl (·|||·) a<65536:=by
 induction l generalizing a with
 | nil=>exact L
 | cons z l ih=>exact ih (Nat.or_lt_two_pow (n:=16) L (S z M7K)) (fun y x=>S y v5I)
theorem z7q(v:Bool)(P:List (List Int)):ea v P<65536:=or_lt e8M (fun z o=>by obtain⟨x,_,rfl⟩:=List.mem_map.1 o;exact z7r v x)
def tx(yss:List (List Int))(k:Nat):List Value:=(yss.take k).map (fun y=>Value.string (strOfNums (ca y).1))++List.replicate (yss.length-k) (.string ⟨#[]⟩)
theorem tx_at(P:List (List Int)){k:Nat}(G:k<P.length):(tx P k)[k]?=some (.string ⟨#[]⟩):=by
 unfold tx;rw[List.getElem?_append_right P8P];simp only[List.length_map,List.length_take,Nat.min_eq_left (Nat.le_of_lt G),Nat.sub_self,List.getElem?_replicate];rw[if_pos f6J]
theorem z6m(P:List (List Int)){k:Nat}(G:k<P.length):(tx P k).set k (.string (strOfNums (ca (P.getD k [])).1))=tx P (k+1):=by
 unfold tx;rw[List.set_append_right _ _ P8P,List.take_succ_eq_append_getElem G,List.map_append,(f6J:P.length-k=(P.length-(k+1))+1),List.replicate_succ];simp[Nat.min_eq_left (Nat.le_of_lt G),List.getD,G]
theorem z9d(P:List (List Int)):tx P P.length=P.map fun y=>Value.string (strOfNums (ca y).1):=by simp[tx]
def whole(yss:List (List Int)):List Int:=Spl.join (yss.map fun y=>(ca y).1)
def carry(v:Bool)(yss:List (List Int)):List Int×Nat:=(whole yss,ea v yss|||(if unf v (whole yss).length 253=true then 32768 else 0)|||(if 16384<(whole yss).length then 2 else 0))
theorem z1G(L:List (List Int)):(strOfNums (Spl.join L)).data.toList=Lib.join (L.map fun l=>(strOfNums l).data.toList) [46]:=by
 induction L with
 | nil=>rfl
 | cons a l ih =>
  cases l with
  | nil=>simp[Spl.join,Lib.join_one]
  | cons b l =>
   rw[Spl.join_cons a M7K];have e:∀x y:List Int,(strOfNums (x++y)).data.toList=(strOfNums x).data.toList++(strOfNums y).data.toList:=fun x y=>(by simp[strOfNums]);have f:∀y:List Int,(strOfNums (46::y)).data.toList=46::(strOfNums y).data.toList:=fun y=>(by simp[strOfNums]);rw[e,f,ih];simp[Lib.join,List.intercalate]
end Id
