/- Lemmas. -/
import Derived.Test.YtbmckadcjdedcaaGreatDoorK41
import Derived.Shelf.Abstract
import Derived.Lib.Walk
import Derived.Laws.MakeOwn
set_option maxHeartbeats 4000000
set_option maxRecDepth 20000
namespace Go.Proofs.YtbmckadcjdedcaaGreatDoor
open Go.Proofs.Tryz
open Go.RowKit
section
variable{p:Prop}
theorem M2E(h:p:=by rw[run_convert_bytes_string w 76 9 5 _ 0 c underlying76 underlying5 underlying9,run_bytesToString w ad 0 c [] (run_loadCells_list (P:=prog) w ad [] (fun j v K=>by simp at K))];rfl):p:=h
theorem e6k(h:p:=by obtain⟨b,P,M,rfl,S,y,T⟩:=h.place h0;exact run_convert_bytes_arg w 76 5 underlying76 underlying5 b P zs.length M zs rfl T 9 underlying9):p:=h
theorem M1d(h:p:=by unfold Utf.okc;exact f6J):p:=h
theorem U0I(h:p:=by rw[List.length_nil,run_convert_bytes_nil w 76 5 underlying76 underlying5 0 M 9 underlying9];rfl):p:=h
theorem E7V(h:p:=by have G:(!ascb c)=true:=(by simp[ascb];exact f6J);rw[G];go_enter func155,ntmps155;exact t6v):p:=h
theorem w4z(h:p:=by rw[B M1d];unfold Utf.form;rw[if_neg f6J,if_neg f6J,if_pos f6J];rfl):p:=h
theorem M1e(h:p:=by unfold Utf.okc;exact f6J):p:=h
theorem T0b(h:p:=by go_enter func62,ntmps62;go_wp2_with(at_builtin;refine wpList_append_own _ rfl (.tmp 34) (.tmp 48) 76 rfl B 5 r (.int .u8 0) 1 1 underlying76 hi p i f rfl e8P _ _ _ rfl (j.row.alloc _) ⟨w.heap.size,0,none⟩ 3 3 [.int .u8 (224+c / 4096),.int .u8 (128+c / 64%64),.int .u8 (128+c%64)] rfl rfl (x2V w [.int .u8 (224+c / 4096),.int .u8 (128+c / 64%64),.int .u8 (128+c%64)] 5) (x0U .u8 [224+c / 4096,128+c / 64%64,128+c%64]) T7X f6J P8P ?_);intro s D C R _;have Y:=G _ _ _ _ _ rfl rfl C R;go_wp2;go_ret;exact Y):p:=h
theorem G2I(h:p:=by go_wp2;go_ret;exact⟨congrArg (fun z=>Ending.returned (Value.int .i64 z)) (V D).symm,rfl⟩):p:=h
theorem e5N(h:p:=by have G:okb c=false:=d0f M1e;exact T5p):p:=h
theorem t6Z(h:p:=by go_wp2;go_ret3;exact Y):p:=h
theorem t6z(h:p:=by go_wp2;go_ret;exact⟨rfl,rfl⟩):p:=h
end
theorem x7L c w(h:-2147483648<=c/\c<=2147483647) :
  Calls prog 102 #[.int .i32 c] w fun e w'=>e=.returned (.bool (okb c))/\w'=w:=by
 by_cases Z:0<=c
 ·by_cases D:c<55296
  ·have G:okb c=true:=d0t M1e;exact T5p
  ·by_cases R:57343<c
   ·by_cases z:c<=1114111
    ·have G:okb c=true:=d0t M1e;exact T5p
    ·exact e5N
   ·exact e5N
 ·exact e5N
theorem x8w c w(h:-2147483648<=c/\c<=2147483647) :
  Calls prog 60 #[.int .i32 c] w fun e w'=>e=.returned (.bool (okb c))/\w'=w:=by
 have H:=O (x7L c w h);go_enter func60,ntmps60;go_wp2_with fail;refine(V H).mono ?_;rintro e w ⟨rfl,rfl⟩;go_wp2;go_ret;exact⟨rfl,rfl⟩
theorem x9J c w(h:-2147483648<=c/\c<=2147483647) :
  Calls prog 59 #[.int .i32 c] w fun e w'=>e=.returned (.bool (!okb c))/\w'=w:=by
 have H:=O (x8w c w h);go_enter func59,ntmps59;go_wp2_with fail;refine(V H).mono ?_;rintro e w ⟨rfl,rfl⟩;go_wp2;go_ret;exact⟨rfl,rfl⟩
def fbY(p:Int->Bool):Nat->List Int->Int
 | _,[]=>-1
 | i,c::r=>if p c then(i:Int)else fbY p (i+1) r
theorem z5r{p:Int->Bool}{xs:List Int}{k r}(G:k<xs.length)(h:r=fbY p k (xs.drop k))(L:p (xs.getD k 0)=true):r=(k:Int):=by
 rw[h,x0T G,fbY,if_pos L]
theorem z1L{p:Int->Bool}{xs:List Int}{k r}(G:k<xs.length)(h:r=fbY p k (xs.drop k))(L:p (xs.getD k 0)=false):r=fbY p (k+1) (xs.drop (k+1)):=by
 rw[h,x0T G,fbY,L];rfl
theorem y8a{p:Int->Bool}{xs:List Int}{k r}(G:xs.length<=k)(h:r=fbY p k (xs.drop k)):r=-1:=by
 rw[h,List.drop_eq_nil_of_le G,fbY]
theorem y7Z(p:Int->Bool) i xs:decide (fbY p i xs<0)=xs.all (fun c=>!p c):=by
 induction xs generalizing i with
 | nil=>rfl
 | cons c r ih =>
  simp only[fbY,List.all_cons];exact u5V
theorem x3C(p:Int->Bool)(g:Nat)(L:∀x w,(-2147483648<=x/\x<=2147483647)->Calls prog g #[.int .i32 x] w fun e w'=>e=.returned (.bool (p x))/\w'=w)(Z:∀args w,(callFunc g args).run prog w=.ok (.enter g args) w)
  v xs w (N:Sk .i32 w v xs) :
  Calls prog 58 #[v,.func (.func g) #[] #[]] w fun e w'=>e=.returned (.int .i64 (fbY p 0 xs))/\w'=w:=by
 have j:=N.len;have I:fbY p 0 xs=fbY p 0 (xs.drop 0):=s4M;rcases Nat.eq_zero_or_pos xs.length with h0 | h0
 ·have m:=y8a f6J I;exact P6X
 ·have l:=O N.1;obtain⟨b,P,M,rfl,q,F,T⟩:=N.place h0;have B:=O T;have o:=O I;have U:=O L;clear N T I L;generalize m:fbY p 0 xs=r at *;go_enter func58,ntmps58;go_wp2;go_loop [5,8] (fun _ i=>∃k:Nat,i=.int .i64 k/\k<=xs.length/\r=fbY p k (xs.drop k)) (fun _ i=>xs.length-(intOf i).toNat)
  case atStart=>exact⟨0,rfl,f6J,V o⟩
  case round =>
   obtain⟨k,rfl,G,u⟩:=hrel;by_cases H:k<xs.length
   ·have X:=V B k H;have C:=(V l).i32at k;have A:=O (V U (xs.getD k 0) w C)
    cases hok:p (xs.getD k 0)with
    | true =>
     have Q:=z5r H u hok;rw[hok]at A;subst Q;clear u hok o;generalize xs.getD k 0=c at *;go_wp2_with(go_at_fn g;refine(V A).mono ?_;rintro e w ⟨rfl,rfl⟩);go_ret;exact⟨rfl,rfl⟩
    | false =>
     have a:=O (z1L H u hok);rw[hok]at A;generalize xs.getD k 0=c at *;go_wp2_with(go_at_fn g;refine(V A).mono ?_;rintro e w ⟨rfl,rfl⟩);go_round
     case rel=>exact⟨k+1,g2A,f6J,V a⟩
     case measure=>exact g7T
   ·have Q:=y8a f6J u;subst Q;exact t6x
theorem y5b:∀args w,(callFunc 59 args).run prog w=.ok (.enter 59 args) w:=f0h
theorem x2k v xs w(N:Sk .i32 w v xs) :
  Calls prog 32 #[v] w fun e w'=>e=.returned (.int .i64 (fbY (fun c=>!okb c) 0 xs))/\w'=w:=by
 have H:=O (x3C (fun c=>!okb c) 59 x9J y5b v xs w N);go_enter func32,ntmps32;go_wp2_with fail;refine(V H).mono ?_;rintro e w ⟨rfl,rfl⟩;go_wp2;go_ret;exact⟨rfl,rfl⟩
def z7g:Prop:=∀(v:Value) (xs:List Int) (w:World),Sk .i32 w v xs->Calls prog 106 #[v] w (x2T w (allb ascb xs))
theorem y4s c w(h:-2147483648<=c/\c<=2147483647) :
  Calls prog 155 #[.int .i32 c] w fun e w'=>e=.returned (.bool (!ascb c))/\w'=w:=by
 by_cases Z:c<0
 ·exact E7V
 ·by_cases D:c>127
  ·exact E7V
  ·have G:(!ascb c)=false:=(by simp[ascb];exact f6J);rw[G];go_enter func155,ntmps155;exact t6v
theorem y4V:∀args w,(callFunc 155 args).run prog w=.ok (.enter 155 args) w:=f0h
theorem x5E v xs w(N:Sk .i32 w v xs) :
  Calls prog 108 #[v,.func (.func 155) #[] #[]] w fun e w'=>e=.returned (.bool (!allb ascb xs))/\w'=w:=by
 have H:=O (x3C (fun c=>!ascb c) 155 y4s y4V v xs w N)
 have m:(!allb ascb xs)=decide (0<=fbY (fun c=>!ascb c) 0 xs):=by
  have h:=y7Z (fun c=>!ascb c) 0 xs;have e:allb ascb xs=decide (fbY (fun c=>!ascb c) 0 xs<0):=(by rw[h];simp[allb]);rw[e,<- decide_not];congr 1;apply propext;omega
 rw[m];go_enter func108,ntmps108;go_wp2_with fail;refine(V H).mono ?_;rintro e w ⟨rfl,rfl⟩;go_wp2;go_ret;exact⟨rfl,rfl⟩
theorem z3y:z7g:=by
 intro v t w N;have H:=O (x5E v t w N);have m:allb ascb t=!!allb ascb t:=M7K;rw[m];generalize(!allb ascb t)=r at *;go_enter func106,ntmps106;go_wp2_with fail;refine(V H).mono ?_;rintro e w ⟨rfl,rfl⟩;exact T8v
theorem z5I:(prog.info? 5).map (fun i=>(i.zero,i.size,i.bytes))=some (some (.int .u8 0),1,1):=f4x
def rl(c:Int):Int:=if Utf.okc c then((Utf.form c).length:Int)else -1
theorem rl_cases c:(c<0/\rl c=-1)\/((0<=c/\c<=127)/\rl c=1)\/((128<=c/\c<=2047)/\rl c=2)\/((2048<=c/\c<55296)/\rl c=3)\/((55296<=c/\c<=57343)/\rl c=-1)\/((57343<c/\c<=65535)/\rl c=3)\/((65535<c/\c<=1114111)/\rl c=4)\/(1114111<c/\rl c=-1):=by
 have p:∀h:¬Utf.okc c,rl c=-1:=fun h=>(by unfold rl;rw[if_neg h]);have B:∀h:Utf.okc c,rl c=((Utf.form c).length:Int):=fun h=>(by unfold rl;rw[if_pos h]);by_cases A:c<0
 ·exact .inl ⟨A,p M1d⟩
 ·by_cases Z:c<=127
  ·exact .inr (.inl ⟨⟨f6J,Z⟩,by rw[B M1d];unfold Utf.form;rw[if_pos f6J];rfl⟩)
  ·by_cases D:c<=2047
   ·exact .inr (.inr (.inl ⟨⟨f6J,D⟩,by rw[B M1d];unfold Utf.form;rw[if_neg f6J,if_pos f6J];rfl⟩))
   ·by_cases R:c<55296
    ·exact .inr (.inr (.inr (.inl ⟨⟨f6J,R⟩,w4z⟩)))
    ·by_cases z:c<=57343
     ·exact .inr (.inr (.inr (.inr (.inl ⟨⟨f6J,z⟩,p M1d⟩))))
     ·by_cases H:c<=65535
      ·exact .inr (.inr (.inr (.inr (.inr (.inl ⟨⟨f6J,H⟩,w4z⟩)))))
      ·by_cases q:c<=1114111
       ·exact .inr (.inr (.inr (.inr (.inr (.inr (.inl ⟨⟨f6J,q⟩,by rw[B M1d];unfold Utf.form;rw[if_neg f6J,if_neg f6J,if_neg f6J];rfl⟩))))))
       ·omega
theorem y2L c w(h:-2147483648<=c/\c<=2147483647) :
  Calls prog 61 #[.int .i32 c] w fun e w'=>e=.returned (.int .i64 (rl c))/\w'=w:=by
 rcases rl_cases c with⟨h,e⟩ | ⟨⟨h,Z⟩,e⟩ | ⟨⟨h,Z⟩,e⟩ | ⟨⟨h,Z⟩,e⟩ | ⟨⟨h,Z⟩,e⟩ | ⟨⟨h,Z⟩,e⟩ | ⟨⟨h,Z⟩,e⟩ | ⟨h,e⟩
 all_goals
  rw[e];clear e;go_enter func61,ntmps61;go_wp2;go_ret;exact⟨rfl,rfl⟩
theorem y0f{xs ys:List Int}{k r}(G:k<xs.length)(h:r=Utf.glue ys (Utf.encA k (xs.drop k)))(T:Utf.okc (xs.getD k 0)) :
  r=Utf.glue (ys++Utf.form (xs.getD k 0)) (Utf.encA (k+1) (xs.drop (k+1))):=by
 rw[h,x0T G];simp only[Utf.encA,if_pos T,Utf.y0t]
theorem y7M{xs ys:List Int}{k r}(G:k<xs.length)(h:r=Utf.glue ys (Utf.encA k (xs.drop k)))(T:¬Utf.okc (xs.getD k 0)) :
  r=([],(k:Int),31):=by
 rw[h,x0T G];simp only[Utf.encA,if_neg T];simp[Utf.glue]
theorem x5W{xs ys:List Int}{k r}(G:k=xs.length)(h:r=Utf.glue ys (Utf.encA k (xs.drop k))):r=(ys,0,0):=by
 subst G;rw[h,List.drop_length];simp[Utf.encA,Utf.glue]
theorem x7X xs:Utf.encA 0 xs=Utf.glue [] (Utf.encA 0 (xs.drop 0)):=by
 rw[List.drop_zero,Utf.y3E]
 ·intro h;rcases Utf.enc_shape 0 xs with Z | ⟨q,Z,_⟩
  ·exact Z.2
  ·rw[Z]at h;simp at h
 ·intro h;rcases Utf.enc_shape 0 xs with Z | ⟨q,Z,_⟩
  ·exact absurd Z.1 h
  ·rw[Z]
theorem x9W v xs w(N:Sk .i32 w v xs)(S:xs.length<=35184372087808) :
  Calls prog 33 #[v] w fun e w'=>e=.returned (.int .i64 (cnt (Utf.encA 0 xs)))/\w'=w:=by
 have I:=x7X xs;rcases Nat.eq_zero_or_pos xs.length with h0 | h0
 ·have m:=x5W h0.symm I;rw[m];obtain⟨R,M,rfl,_,_⟩:=N.shape;have T:cnt ([],0,0)=0:=rfl;rw[h0,T];go_enter func33,ntmps33;go_wp2;refine wp_loop_rounds 1 ?_;rw[rounds_succ];exact t6z
 ·have l:=O N.1;obtain⟨b,P,M,rfl,q,F,T⟩:=N.place h0;have B:=O T;have o:=O I;clear N T I;generalize Utf.encA 0 xs=r at *;go_enter func33,ntmps33;go_wp2;go_loop [3,9] (fun A i=>∃(k:Nat) (ys:List Int),i=.int .i64 k/\k<=xs.length/\A=.int .i64 (ys.length:Int)/\ys.length<=4*k/\r=Utf.glue ys (Utf.encA k (xs.drop k))) (fun _ i=>xs.length-(intOf i).toNat)
  case atStart=>exact⟨0,[],rfl,f6J,rfl,M7L,V o⟩
  case round =>
   obtain⟨k,ys,rfl,G,rfl,W,u⟩:=hrel;by_cases H:k<xs.length
   ·have X:=V B k H;have C:=(V l).i32at k;have Y:=O (y2L (xs.getD k 0) w C);by_cases y:Utf.okc (xs.getD k 0)
    ·have a:=O (y0f H u y);have Q:rl (xs.getD k 0)=((Utf.form (xs.getD k 0)).length:Int):=if_pos y;rw[Q]at Y;have U:=Utf.x4j (xs.getD k 0);have L:(ys++Utf.form (xs.getD k 0)).length=ys.length+(Utf.form (xs.getD k 0)).length:=List.length_append;have J:=O L;generalize hys:ys++Utf.form (xs.getD k 0)=E at *;generalize xs.getD k 0=c at *;go_wp2_with fail;refine(V Y).mono ?_;rintro e w ⟨rfl,rfl⟩;go_wp2;go_round
     case rel=>exact⟨k+1,E,g2A,f6J,by rw[V J];exact g2A,by rw[V J];exact f6J,V a⟩
     case measure=>exact g7V
    ·have m:=y7M H u y;have Q:rl (xs.getD k 0)=-1:=if_neg y;rw[Q]at Y;have T:cnt r=-1:=(by rw[m];rfl);have D:=O T;generalize xs.getD k 0=c at *;go_wp2_with fail;refine(V Y).mono ?_;rintro e w ⟨rfl,rfl⟩;exact G2I
   ·have m:=x5W (f6J:k=xs.length) u;have T:cnt r=(ys.length:Int):=(by rw[m];rfl);have D:=O T;clear u m T;exact G2I
theorem x2V(w:World)(us:List Value) t:∀(j:Nat) (u:Value),us[j]?=some u->(w.alloc (.cells us.toArray t)).cell? ((⟨w.heap.size,0,none⟩:Addr).add j)=some u:=by
 intro j u K;rw[addr_add];simp[K]
def x2Q(w:World)(B:Nat)(zs:List Int)(e:Ending)(w':World):Prop:=∃v,e=.returned v/\Ok .u8 5 w' B v zs/\Below B w w'
theorem x2Q.mk{w w2 B n v v' ys fs r}{us o}(hr:r=fs)(l:B<=w.heap.size)(j:Ok .u8 5 w B v ys)(U:Utf.Byt r)(S:ys.length+r.length<=140737488355328)(E:n=ys.length+fs.length)(W:us=ys.map (Value.int .u8)++fs.map (Value.int .u8))
  (h:w2.ownsRow B 5 1 v' n us) (C:(w.alloc o).grownBy w2 v.ownBlock):x2Q w B (ys++r) (.returned v') w2:=by
 subst hr;exact⟨v',rfl,Ok.of (j.1.app (x1j U)) (by rw[List.length_append];exact S) h (by rw[List.length_append];exact E) (by rw[List.map_append];exact W),x0p l j.row (b0r) C⟩
theorem x8C v ys c B w(j:Ok .u8 5 w B v ys)(l:B<=w.heap.size)(T:Utf.okc c)(A:128<=c)(S:ys.length+(Utf.form c).length<=140737488355328) :
  Calls prog 62 #[v,.int .i32 c] w (x2Q w B (ys++Utf.form c)):=by
 obtain⟨r,hi,p,i,f⟩:=info_parts z5I;have J:=Utf.x8Q T;unfold Utf.okc at T;by_cases Z:c<=2047
 ·have N:Utf.form c=[192+c / 64,128+c%64]:=(by unfold Utf.form;rw[if_neg f6J,if_pos f6J]);have G:=fun n us v' w2 o=>x2Q.mk (w:=w) (w2:=w2) (B:=B) (n:=n) (v:=v) (v':=v') (us:=us) (o:=o) N l j J S;rw[N]at S;simp only[List.length_cons,List.length_nil]at S;go_enter func62,ntmps62;go_wp2_with(at_builtin;refine wpList_append_own _ rfl (.tmp 14) (.tmp 23) 76 rfl B 5 r (.int .u8 0) 1 1 underlying76 hi p i f rfl e8P _ _ _ rfl (j.row.alloc _) ⟨w.heap.size,0,none⟩ 2 2 [.int .u8 (192+c / 64),.int .u8 (128+c%64)] rfl rfl (x2V w [.int .u8 (192+c / 64),.int .u8 (128+c%64)] 5) (x0U .u8 [192+c / 64,128+c%64]) T7X f6J P8P ?_);intro s D C R _;have Y:=G _ _ _ _ _ rfl rfl C R;go_wp2;go_ret;exact Y
 ·by_cases F:c<=65535
  ·have N:Utf.form c=[224+c / 4096,128+c / 64%64,128+c%64]:=(by unfold Utf.form;rw[if_neg f6J,if_neg f6J,if_pos f6J]);have G:=fun n us v' w2 o=>x2Q.mk (w:=w) (w2:=w2) (B:=B) (n:=n) (v:=v) (v':=v') (us:=us) (o:=o) N l j J S;rw[N]at S;simp only[List.length_cons,List.length_nil]at S;rcases T with⟨Q,q⟩ | ⟨Q,q⟩
   ·have H:c<55296:=f6J;exact T0b
   ·have g:57343<c:=f6J;exact T0b
  ·have N:Utf.form c=[240+c / 262144,128+c / 4096%64,128+c / 64%64,128+c%64]:=(by unfold Utf.form;rw[if_neg f6J,if_neg f6J,if_neg f6J]);have G:=fun n us v' w2 o=>x2Q.mk (w:=w) (w2:=w2) (B:=B) (n:=n) (v:=v) (v':=v') (us:=us) (o:=o) N l j J S;rw[N]at S;have H:c<=1114111:=f6J;have g:65535<c:=f6J;simp only[List.length_cons,List.length_nil]at S;go_enter func62,ntmps62;go_wp2_with(at_builtin;refine wpList_append_own _ rfl (.tmp 57) (.tmp 76) 76 rfl B 5 r (.int .u8 0) 1 1 underlying76 hi p i f rfl e8P _ _ _ rfl (j.row.alloc _) ⟨w.heap.size,0,none⟩ 4 4 [.int .u8 (240+c / 262144),.int .u8 (128+c / 4096%64),.int .u8 (128+c / 64%64),.int .u8 (128+c%64)] rfl rfl (x2V w [.int .u8 (240+c / 262144),.int .u8 (128+c / 4096%64),.int .u8 (128+c / 64%64),.int .u8 (128+c%64)] 5) (x0U .u8 [240+c / 262144,128+c / 4096%64,128+c / 64%64,128+c%64]) T7X f6J P8P ?_);intro s D C R _;have Y:=G _ _ _ _ _ rfl rfl C R;go_wp2;go_ret;exact Y
theorem x7u v ys c B w(j:Ok .u8 5 w B v ys)(l:B<=w.heap.size)(T:Utf.okc c)(S:ys.length+(Utf.form c).length<=140737488355328) :
  Calls prog 34 #[v,.int .i32 c] w (x2Q w B (ys++Utf.form c)):=by
 obtain⟨r,hi,p,i,f⟩:=info_parts z5I;by_cases Z:c<=127
 ·have J:=Utf.x8Q T;have A:0<=c:=f6J;have N:Utf.form c=[c]:=(by unfold Utf.form;rw[if_pos f6J]);have G:=fun n us v' w2 o=>x2Q.mk (w:=w) (w2:=w2) (B:=B) (n:=n) (v:=v) (v':=v') (us:=us) (o:=o) N l j J S;rw[N]at S;simp only[List.length_cons,List.length_nil]at S;go_enter func34,ntmps34;go_wp2_with(at_builtin;refine wpList_append_own _ rfl (.tmp 8) (.tmp 11) 76 rfl B 5 r (.int .u8 0) 1 1 underlying76 hi p i f rfl e8P _ _ _ rfl (j.row.alloc _) ⟨w.heap.size,0,none⟩ 1 1 [.int .u8 c] rfl rfl (x2V w [.int .u8 c] 5) (x0U .u8 [c]) T7X f6J P8P ?_);intro s D C R _;have Y:=G _ _ _ _ _ rfl rfl C R;go_wp2;go_ret;exact Y
 ·have H:=O (x8C v ys c B w j l T f6J S);have m:128<=c/\c<=1114111:=f6J;obtain⟨m,K⟩:=m;go_enter func34,ntmps34;go_wp2_with fail;refine(V H).mono ?_;rintro e I ⟨u,rfl,a,E⟩;go_wp2;go_ret;exact⟨_,rfl,a,E⟩
theorem y4P w ad c:(convert 76 9 (.slice (some ad) 0 c)).run prog w=.ok (.string (strOfNums [])) w:=M2E
theorem Sk.conv8{w v zs}(h:Sk .u8 w v zs):(convert 76 9 v).run prog w=.ok (.string (strOfNums zs)) w:=by
 rcases Nat.eq_zero_or_pos zs.length with h0 | h0
 ·obtain rfl:=List.eq_nil_of_length_eq_zero h0;obtain⟨R,M,rfl,_,_⟩:=h.shape
  cases R with
  | none=>exact U0I
  | some ad=>exact y4P w ad M
 ·exact e6k
theorem fb_enc i xs:(fbY (fun c=>!okb c) i xs=-1/\(Utf.encA i xs).2.2=0/\∀c∈xs,Utf.okc c)\/∃q:Nat,fbY (fun c=>!okb c) i xs=(q:Int)/\Utf.encA i xs=([],(q:Int),31)/\q<i+xs.length:=by
 induction xs generalizing i with
 | nil=>exact .inl ⟨rfl,rfl,fun c T=>by cases T⟩
 | cons c r ih =>
  by_cases T:Utf.okc c
  ·have Q:(!okb c)=false:=(by simp[okb,T]);have P:fbY (fun c=>!okb c) i (c::r)=fbY (fun c=>!okb c) (i+1) r:=(by simp[fbY,Q]);have f:Utf.encA i (c::r)=Utf.glue (Utf.form c) (Utf.encA (i+1) r):=(by simp[Utf.encA,T]);rw[P,f];rcases ih (i+1)with⟨Z,D,R⟩ | ⟨q,Z,D,R⟩
   ·refine .inl ⟨Z,by simp[Utf.glue,D],fun d hd=>?_⟩;rcases List.mem_cons.1 hd with rfl | hd
    ·exact T
    ·exact R d hd
   ·exact .inr ⟨q,Z,by rw[D];simp[Utf.glue],P8P⟩
  ·have Q:(!okb c)=true:=(by simp[okb,T]);exact .inr ⟨i,by simp[fbY,Q],by simp[Utf.encA,T],M7M⟩
theorem z4v{xs:List Int}(h:∀c∈xs,Utf.okc c){k}(G:k<xs.length):Utf.okc (xs.getD k 0):=f0h
theorem encC:EncC:=by
 intro v t w hv hl;obtain⟨i0,hi,p,ae,f⟩:=info_parts z5I;have N:=O (x2k v t w hv);rcases fb_enc 0 t with⟨U,h2,S⟩ | ⟨q,U,d,m⟩
 ·have HB:=O (x9W v t w hv hl);have j:cnt (Utf.encA 0 t)=((Utf.encA 0 t).1.length:Int):=(by unfold cnt;rw[if_pos h2]);rw[j]at HB;rw[U]at N;have aj:=Utf.y1T 0 t;have I:=x7X t
  have C:∀(ys:List Int) (k:Nat),k<t.length->Utf.encA 0 t=Utf.glue ys (Utf.encA k (t.drop k))->ys.length<=4*k->ys.length+(Utf.form (t.getD k 0)).length<=140737488355328:=by
   intro ys k hk _ hy;have:=Utf.x4j (t.getD k 0);omega
  have n:=O C;obtain⟨wm,am,x,G⟩:=run_make_own (P:=prog) w w.heap.size 76 5 i0 (.int .u8 0) 1 underlying76 hi p ae .i64 .i64 (Utf.encA 0 t).1.length (by rw[f];exact f6J) T7W (l0r _);have ab:Bw w wm:=(Below.refl _ w).grown G (l0r _) (fun k hk=>by cases hk);have D:Ok .u8 5 wm w.heap.size (.slice (some ⟨w.heap.size,0,none⟩) 0 (Utf.encA 0 t).1.length) []:=Ok.of (Fit.nil _) M7O x rfl rfl;generalize(Utf.encA 0 t).1.length=L at *;rcases Nat.eq_zero_or_pos t.length with h0 | h0
  ·have Y:=x2v.mk (w:=w) (w':=wm) (x5W h0.symm I) ab;have J:=D.sk.conv8;obtain⟨R,M,rfl,_,_⟩:=hv.shape;rw[h0]at N HB ⊢;generalize Utf.encA 0 t=r at *;go_enter func17,ntmps17;go_wp2_with fail;refine(V N).mono ?_;rintro e w ⟨rfl,rfl⟩;go_wp2_with fail;refine(V HB).mono ?_;rintro e w ⟨rfl,rfl⟩;go_wp2;refine wp_loop_rounds 1 ?_;rw[rounds_succ];exact t6Z
  ·have l:=O hv.1;obtain⟨b,af,M,rfl,ag,ai,T⟩:=hv.place h0
   have HC:Hid (∀z,Bw w z->∀i,i<t.length->z.cell? ⟨b,af+i,none⟩=some (.int .i32 (t.getD i 0))):=by
    intro z Q i hi;exact E1W
   have o:=O I;have HA:=O S;generalize Utf.encA 0 t=r at *;go_enter func17,ntmps17;go_wp2_with fail;refine(V N).mono ?_;rintro e w ⟨rfl,rfl⟩;go_wp2_with fail;refine(V HB).mono ?_;rintro e w ⟨rfl,rfl⟩;go_wp2;go_loopw[6,19] (fun Z i wr=>∃(k:Nat) (ys:List Int),i=.int .i64 k/\k<=t.length/\Ok .u8 5 wr w.heap.size Z ys/\ys.length<=4*k/\Bw w wr/\r=Utf.glue ys (Utf.encA k (t.drop k))) (fun _ i _=>t.length-(intOf i).toNat)
   case atStart=>exact⟨0,[],rfl,f6J,D,M7O,ab,V o⟩
   case round =>
    obtain⟨k,ys,rfl,hk,y,W,A,u⟩:=hrel;by_cases H:k<t.length
    ·have X:=V HC wr A k H;have aq:=(V l).i32at k;have B:=z4v (V HA) H;have a:=A.size;have HP:=O (x7u _ ys (t.getD k 0) w.heap.size wr y a B (V n ys k H u W));have HR:=O (y0f H u B);have U:=Utf.x4j (t.getD k 0);have g:(ys++Utf.form (t.getD k 0)).length<=4*(k+1):=(by grind);generalize ys++Utf.form (t.getD k 0)=E at *;generalize t.getD k 0=c at *;go_wp2_with fail;refine(V HP).mono ?_;rintro e w2 ⟨v2,rfl,K,F⟩;have s:Bw w w2:=A.trans F;go_wp2
     go_roundw
     case rel=>exact⟨k+1,E,g2A,f6J,K,g,s,V HR⟩
     case measure=>exact g7V
    ·have Y:=x2v.mk (w:=w) (w':=wr) (x5W (f6J:k=t.length) u) A;have J:=y.sk.conv8;exact t6Z
 ·have Y:=x2v.no (w:=w) (w':=w) d (b0r);rw[U]at N;go_enter func17,ntmps17;go_wp2_with fail;refine(V N).mono ?_;rintro e w ⟨rfl,rfl⟩;exact t6Z
