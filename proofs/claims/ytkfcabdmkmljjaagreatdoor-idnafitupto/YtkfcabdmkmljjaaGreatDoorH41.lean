/- Lemmas. -/
import Derived.Test.YtkfcabdmkmljjaaGreatDoorH38
import Derived.Shelf.Abstract
import Derived.Lib.Walk
import Derived.Laws.MakeOwn
set_option maxHeartbeats 4000000
set_option maxRecDepth 20000
namespace Go.Proofs.YtkfcabdmkmljjaaGreatDoor
open Go.Proofs.Tryz
open Go.RowKit
section
variable{p:Prop}
theorem E4F(h:p:=by rw[run_convert_bytes_string w 181 9 5 _ 0 c underlying181 underlying5 underlying9,run_bytesToString w ad 0 c [] (run_loadCells_list (P:=prog) w ad [] (fun j v X=>by simp at X))];rfl):p:=h
theorem P0D(h:p:=by obtain⟨b,P,M,rfl,S,o,I⟩:=h.place h0;exact run_convert_bytes_arg w 181 5 underlying181 underlying5 b P zs.length M zs rfl I 9 underlying9):p:=h
theorem M1d(h:p:=by unfold Utf.okc;exact f6J):p:=h
theorem t3I(h:p:=by rw[List.length_nil,run_convert_bytes_nil w 181 5 underlying181 underlying5 0 M 9 underlying9];rfl):p:=h
theorem v6Y(h:p:=by rw[A M1d];unfold Utf.form;rw[if_neg f6J,if_neg f6J,if_pos f6J];rfl):p:=h
theorem w7A(h:p:=by have G:(!ascb c)=true:=(by simp[ascb];exact f6J);rw[G];go_enter func37,ntmps37;exact t6v):p:=h
theorem M1e(h:p:=by unfold Utf.okc;exact f6J):p:=h
theorem U7z(h:p:=by go_enter func157,ntmps157;go_wp2_with(at_builtin;refine wpList_append_own _ rfl (.tmp 34) (.tmp 48) 181 rfl B 5 r (.int .u8 0) 1 1 underlying181 hi d Y R rfl e8P _ _ _ rfl (X.row.alloc _) ⟨w.heap.size,0,none⟩ 3 3 [.int .u8 (224+c / 4096),.int .u8 (128+c / 64%64),.int .u8 (128+c%64)] rfl rfl (x2G w [.int .u8 (224+c / 4096),.int .u8 (128+c / 64%64),.int .u8 (128+c%64)] 5) (x0O .u8 [224+c / 4096,128+c / 64%64,128+c%64]) T7X f6J P8P ?_);intro A p t i _;have U:=C _ _ _ _ _ rfl rfl t i;go_wp2;go_ret;exact U):p:=h
theorem t6M(h:p:=by go_wp2;go_ret;exact⟨congrArg (fun z=>Ending.returned (Value.int .i64 z)) (V A).symm,rfl⟩):p:=h
theorem g7N(h:p:=by have G:okb c=false:=d0f M1e;exact w6e):p:=h
theorem n2e(h:p:=by go_wp2;go_ret3;exact U):p:=h
end
theorem x8c c w(h:-2147483648<=c/\c<=2147483647) :
  Calls prog 108 #[.int .i32 c] w fun e w'=>e=.returned (.bool (okb c))/\w'=w:=by
 by_cases Z:0<=c
 ·by_cases D:c<55296
  ·have G:okb c=true:=d0t M1e;exact w6e
  ·by_cases J:57343<c
   ·by_cases H:c<=1114111
    ·have G:okb c=true:=d0t M1e;exact w6e
    ·exact g7N
   ·exact g7N
 ·exact g7N
theorem x8R c w(h:-2147483648<=c/\c<=2147483647) :
  Calls prog 62 #[.int .i32 c] w fun e w'=>e=.returned (.bool (okb c))/\w'=w:=by
 have H:=O (x8c c w h);go_enter func62,ntmps62;go_wp2_with fail;refine(V H).mono ?_;rintro e w ⟨rfl,rfl⟩;go_wp2;go_ret;exact⟨rfl,rfl⟩
theorem y0i c w(h:-2147483648<=c/\c<=2147483647) :
  Calls prog 156 #[.int .i32 c] w fun e w'=>e=.returned (.bool (!okb c))/\w'=w:=by
 have H:=O (x8R c w h);go_enter func156,ntmps156;go_wp2_with fail;refine(V H).mono ?_;rintro e w ⟨rfl,rfl⟩;go_wp2;go_ret;exact⟨rfl,rfl⟩
def fbY(p:Int->Bool):Nat->List Int->Int
 | _,[]=>-1
 | i,c::r=>if p c then(i:Int)else fbY p (i+1) r
theorem z6E{p:Int->Bool}{xs:List Int}{k r}(G:k<xs.length)(h:r=fbY p k (xs.drop k))(s:p (xs.getD k 0)=true):r=(k:Int):=by
 rw[h,x0N G,fbY,if_pos s]
theorem z2P{p:Int->Bool}{xs:List Int}{k r}(G:k<xs.length)(h:r=fbY p k (xs.drop k))(s:p (xs.getD k 0)=false):r=fbY p (k+1) (xs.drop (k+1)):=by
 rw[h,x0N G,fbY,s];rfl
theorem y8I{p:Int->Bool}{xs:List Int}{k r}(G:xs.length<=k)(h:r=fbY p k (xs.drop k)):r=-1:=by
 rw[h,List.drop_eq_nil_of_le G,fbY]
theorem y8H(p:Int->Bool) i xs:decide (fbY p i xs<0)=xs.all (fun c=>!p c):=by
 induction xs generalizing i with
 | nil=>rfl
 | cons c r ih =>
  simp only[fbY,List.all_cons];exact e4k
theorem x3q(p:Int->Bool)(g:Nat)(A:∀x w,(-2147483648<=x/\x<=2147483647)->Calls prog g #[.int .i32 x] w fun e w'=>e=.returned (.bool (p x))/\w'=w)(m:∀args w,(callFunc g args).run prog w=.ok (.enter g args) w)
  v xs w (N:Sk .i32 w v xs) :
  Calls prog 66 #[v,.func (.func g) #[] #[]] w fun e w'=>e=.returned (.int .i64 (fbY p 0 xs))/\w'=w:=by
 have z:=N.len;have J:fbY p 0 xs=fbY p 0 (xs.drop 0):=s4M;rcases Nat.eq_zero_or_pos xs.length with h0 | h0
 ·have y:=y8I f6J J;exact P9P
 ·have s:=O N.1;obtain⟨b,P,M,rfl,l,H,I⟩:=N.place h0;have C:=O I;have a:=O J;have Q:=O A;clear N I J A;generalize y:fbY p 0 xs=r at *;go_enter func66,ntmps66;go_wp2;go_loop [5,8] (fun _ i=>∃k:Nat,i=.int .i64 k/\k<=xs.length/\r=fbY p k (xs.drop k)) (fun _ i=>xs.length-(intOf i).toNat)
  case atStart=>exact⟨0,rfl,f6J,V a⟩
  case round =>
   obtain⟨k,rfl,G,u⟩:=hrel;by_cases E:k<xs.length
   ·have K:=V C k E;have U:=(V s).i32at k;have R:=O (V Q (xs.getD k 0) w U)
    cases hok:p (xs.getD k 0)with
    | true =>
     have Y:=z6E E u hok;rw[hok]at R;subst Y;clear u hok a;generalize xs.getD k 0=c at *;go_wp2_with(go_at_fn g;refine(V R).mono ?_;rintro e w ⟨rfl,rfl⟩);go_ret;exact⟨rfl,rfl⟩
    | false =>
     have L:=O (z2P E u hok);rw[hok]at R;generalize xs.getD k 0=c at *;go_wp2_with(go_at_fn g;refine(V R).mono ?_;rintro e w ⟨rfl,rfl⟩);go_round
     case rel=>exact⟨k+1,g2A,f6J,V L⟩
     case measure=>exact g7T
   ·have Y:=y8I f6J u;subst Y;exact t6x
theorem y5H:∀args w,(callFunc 156 args).run prog w=.ok (.enter 156 args) w:=f0h
theorem x2b v xs w(N:Sk .i32 w v xs) :
  Calls prog 104 #[v] w fun e w'=>e=.returned (.int .i64 (fbY (fun c=>!okb c) 0 xs))/\w'=w:=by
 have H:=O (x3q (fun c=>!okb c) 156 y0i y5H v xs w N);go_enter func104,ntmps104;go_wp2_with fail;refine(V H).mono ?_;rintro e w ⟨rfl,rfl⟩;go_wp2;go_ret;exact⟨rfl,rfl⟩
def z8z:Prop:=∀(v:Value) (xs:List Int) (w:World),Sk .i32 w v xs->Calls prog 15 #[v] w (z1X w (allb ascb xs))
theorem y5a c w(h:-2147483648<=c/\c<=2147483647) :
  Calls prog 37 #[.int .i32 c] w fun e w'=>e=.returned (.bool (!ascb c))/\w'=w:=by
 by_cases Z:c<0
 ·exact w7A
 ·by_cases D:c>127
  ·exact w7A
  ·have G:(!ascb c)=false:=(by simp[ascb];exact f6J);rw[G];go_enter func37,ntmps37;exact t6v
theorem y5C:∀args w,(callFunc 37 args).run prog w=.ok (.enter 37 args) w:=f0h
theorem x5H v xs w(N:Sk .i32 w v xs) :
  Calls prog 36 #[v,.func (.func 37) #[] #[]] w fun e w'=>e=.returned (.bool (!allb ascb xs))/\w'=w:=by
 have H:=O (x3q (fun c=>!ascb c) 37 y5a y5C v xs w N)
 have y:(!allb ascb xs)=decide (0<=fbY (fun c=>!ascb c) 0 xs):=by
  have h:=y8H (fun c=>!ascb c) 0 xs;have e:allb ascb xs=decide (fbY (fun c=>!ascb c) 0 xs<0):=(by rw[h];simp[allb]);rw[e,<- decide_not];congr 1;apply propext;omega
 rw[y];go_enter func36,ntmps36;go_wp2_with fail;refine(V H).mono ?_;rintro e w ⟨rfl,rfl⟩;go_wp2;go_ret;exact⟨rfl,rfl⟩
theorem y7z:z8z:=by
 intro v X w N;have H:=O (x5H v X w N);have y:allb ascb X=!!allb ascb X:=M7K;rw[y];generalize(!allb ascb X)=r at *;go_enter func15,ntmps15;go_wp2_with fail;refine(V H).mono ?_;rintro e w ⟨rfl,rfl⟩;exact T8u
theorem z6W:(prog.info? 5).map (fun i=>(i.zero,i.size,i.bytes))=some (some (.int .u8 0),1,1):=f4x
def rl(c:Int):Int:=if Utf.okc c then((Utf.form c).length:Int)else -1
theorem rl_cases c:(c<0/\rl c=-1)\/((0<=c/\c<=127)/\rl c=1)\/((128<=c/\c<=2047)/\rl c=2)\/((2048<=c/\c<55296)/\rl c=3)\/((55296<=c/\c<=57343)/\rl c=-1)\/((57343<c/\c<=65535)/\rl c=3)\/((65535<c/\c<=1114111)/\rl c=4)\/(1114111<c/\rl c=-1):=by
 have J:∀h:¬Utf.okc c,rl c=-1:=fun h=>(by unfold rl;rw[if_neg h]);have A:∀h:Utf.okc c,rl c=((Utf.form c).length:Int):=fun h=>(by unfold rl;rw[if_pos h]);by_cases R:c<0
 ·exact .inl ⟨R,J M1d⟩
 ·by_cases Z:c<=127
  ·exact .inr (.inl ⟨⟨f6J,Z⟩,by rw[A M1d];unfold Utf.form;rw[if_pos f6J];rfl⟩)
  ·by_cases D:c<=2047
   ·exact .inr (.inr (.inl ⟨⟨f6J,D⟩,by rw[A M1d];unfold Utf.form;rw[if_neg f6J,if_pos f6J];rfl⟩))
   ·by_cases B:c<55296
    ·exact .inr (.inr (.inr (.inl ⟨⟨f6J,B⟩,v6Y⟩)))
    ·by_cases H:c<=57343
     ·exact .inr (.inr (.inr (.inr (.inl ⟨⟨f6J,H⟩,J M1d⟩))))
     ·by_cases K:c<=65535
      ·exact .inr (.inr (.inr (.inr (.inr (.inl ⟨⟨f6J,K⟩,v6Y⟩)))))
      ·by_cases y:c<=1114111
       ·exact .inr (.inr (.inr (.inr (.inr (.inr (.inl ⟨⟨f6J,y⟩,by rw[A M1d];unfold Utf.form;rw[if_neg f6J,if_neg f6J,if_neg f6J];rfl⟩))))))
       ·omega
theorem y3j c w(h:-2147483648<=c/\c<=2147483647) :
  Calls prog 70 #[.int .i32 c] w fun e w'=>e=.returned (.int .i64 (rl c))/\w'=w:=by
 rcases rl_cases c with⟨h,e⟩ | ⟨⟨h,t⟩,e⟩ | ⟨⟨h,t⟩,e⟩ | ⟨⟨h,t⟩,e⟩ | ⟨⟨h,t⟩,e⟩ | ⟨⟨h,t⟩,e⟩ | ⟨⟨h,t⟩,e⟩ | ⟨h,e⟩
 all_goals
  rw[e];clear e;go_enter func70,ntmps70;go_wp2;go_ret;exact⟨rfl,rfl⟩
theorem y0G{xs ys:List Int}{k r}(G:k<xs.length)(h:r=Utf.glue ys (Utf.encA k (xs.drop k)))(I:Utf.okc (xs.getD k 0)) :
  r=Utf.glue (ys++Utf.form (xs.getD k 0)) (Utf.encA (k+1) (xs.drop (k+1))):=by
 rw[h,x0N G];simp only[Utf.encA,if_pos I,Utf.y0V]
theorem y8u{xs ys:List Int}{k r}(G:k<xs.length)(h:r=Utf.glue ys (Utf.encA k (xs.drop k)))(I:¬Utf.okc (xs.getD k 0)) :
  r=([],(k:Int),31):=by
 rw[h,x0N G];simp only[Utf.encA,if_neg I];simp[Utf.glue]
theorem x6b{xs ys:List Int}{k r}(G:k=xs.length)(h:r=Utf.glue ys (Utf.encA k (xs.drop k))):r=(ys,0,0):=by
 subst G;rw[h,List.drop_length];simp[Utf.encA,Utf.glue]
theorem x8p xs:Utf.encA 0 xs=Utf.glue [] (Utf.encA 0 (xs.drop 0)):=by
 rw[List.drop_zero,Utf.y4h]
 ·intro h;rcases Utf.enc_shape 0 xs with Z | ⟨q,Z,_⟩
  ·exact Z.2
  ·rw[Z]at h;simp at h
 ·intro h;rcases Utf.enc_shape 0 xs with Z | ⟨q,Z,_⟩
  ·exact absurd Z.1 h
  ·rw[Z]
theorem y0u v xs w(N:Sk .i32 w v xs)(S:xs.length<=35184372087808) :
  Calls prog 41 #[v] w fun e w'=>e=.returned (.int .i64 (cnt (Utf.encA 0 xs)))/\w'=w:=by
 have J:=x8p xs;rcases Nat.eq_zero_or_pos xs.length with h0 | h0
 ·have y:=x6b h0.symm J;rw[y];obtain⟨B,M,rfl,_,_⟩:=N.shape;have I:cnt ([],0,0)=0:=rfl;rw[h0,I];go_enter func41,ntmps41;go_wp2;refine wp_loop_rounds 1 ?_;rw[rounds_succ];exact t6x
 ·have s:=O N.1;obtain⟨b,P,M,rfl,l,H,I⟩:=N.place h0;have C:=O I;have a:=O J;clear N I J;generalize Utf.encA 0 xs=r at *;go_enter func41,ntmps41;go_wp2;go_loop [3,9] (fun X i=>∃(k:Nat) (ys:List Int),i=.int .i64 k/\k<=xs.length/\X=.int .i64 (ys.length:Int)/\ys.length<=4*k/\r=Utf.glue ys (Utf.encA k (xs.drop k))) (fun _ i=>xs.length-(intOf i).toNat)
  case atStart=>exact⟨0,[],rfl,f6J,rfl,M7N,V a⟩
  case round =>
   obtain⟨k,ys,rfl,G,rfl,n,u⟩:=hrel;by_cases E:k<xs.length
   ·have K:=V C k E;have U:=(V s).i32at k;have R:=O (y3j (xs.getD k 0) w U);by_cases o:Utf.okc (xs.getD k 0)
    ·have L:=O (y0G E u o);have Q:rl (xs.getD k 0)=((Utf.form (xs.getD k 0)).length:Int):=if_pos o;rw[Q]at R;have Y:=Utf.x4f (xs.getD k 0);have W:(ys++Utf.form (xs.getD k 0)).length=ys.length+(Utf.form (xs.getD k 0)).length:=List.length_append;have F:=O W;generalize hys:ys++Utf.form (xs.getD k 0)=D at *;generalize xs.getD k 0=c at *;go_wp2_with fail;refine(V R).mono ?_;rintro e w ⟨rfl,rfl⟩;go_wp2;go_round
     case rel=>exact⟨k+1,D,g2A,f6J,by rw[V F];exact g2A,by rw[V F];exact f6J,V L⟩
     case measure=>exact g7T
    ·have y:=y8u E u o;have Q:rl (xs.getD k 0)=-1:=if_neg o;rw[Q]at R;have I:cnt r=-1:=(by rw[y];rfl);have A:=O I;generalize xs.getD k 0=c at *;go_wp2_with fail;refine(V R).mono ?_;rintro e w ⟨rfl,rfl⟩;exact t6M
   ·have y:=x6b (f6J:k=xs.length) u;have I:cnt r=(ys.length:Int):=(by rw[y];rfl);have A:=O I;clear u y I;exact t6M
theorem x2G(w:World)(us:List Value) t:∀(j:Nat) (u:Value),us[j]?=some u->(w.alloc (.cells us.toArray t)).cell? ((⟨w.heap.size,0,none⟩:Addr).add j)=some u:=by
 intro j u X;rw[addr_add];simp[X]
def x2B(w:World)(B:Nat)(zs:List Int)(e:Ending)(w':World):Prop:=∃v,e=.returned v/\Ok .u8 5 w' B v zs/\Below B w w'
theorem x2B.mk{w w2 B n v v' ys fs r}{us o}(hr:r=fs)(m:B<=w.heap.size)(X:Ok .u8 5 w B v ys)(z:Utf.Byt r)(S:ys.length+r.length<=140737488355328)(F:n=ys.length+fs.length)(W:us=ys.map (Value.int .u8)++fs.map (Value.int .u8))
  (h:w2.ownsRow B 5 1 v' n us) (C:(w.alloc o).grownBy w2 v.ownBlock):x2B w B (ys++r) (.returned v') w2:=by
 subst hr;exact⟨v',rfl,Ok.of (X.1.app (x2M z)) (by rw[List.length_append];exact S) h (by rw[List.length_append];exact F) (by rw[List.map_append];exact W),x0z m X.row (b0r) C⟩
theorem x8X v ys c B w(X:Ok .u8 5 w B v ys)(m:B<=w.heap.size)(I:Utf.okc c)(G:128<=c)(S:ys.length+(Utf.form c).length<=140737488355328) :
  Calls prog 157 #[v,.int .i32 c] w (x2B w B (ys++Utf.form c)):=by
 obtain⟨r,hi,d,Y,R⟩:=info_parts z6W;have W:=Utf.x9n I;unfold Utf.okc at I;by_cases Z:c<=2047
 ·have y:Utf.form c=[192+c / 64,128+c%64]:=(by unfold Utf.form;rw[if_neg f6J,if_pos f6J]);have C:=fun n us v' w2 o=>x2B.mk (w:=w) (w2:=w2) (B:=B) (n:=n) (v:=v) (v':=v') (us:=us) (o:=o) y m X W S;rw[y]at S;simp only[List.length_cons,List.length_nil]at S;go_enter func157,ntmps157;go_wp2_with(at_builtin;refine wpList_append_own _ rfl (.tmp 14) (.tmp 23) 181 rfl B 5 r (.int .u8 0) 1 1 underlying181 hi d Y R rfl e8P _ _ _ rfl (X.row.alloc _) ⟨w.heap.size,0,none⟩ 2 2 [.int .u8 (192+c / 64),.int .u8 (128+c%64)] rfl rfl (x2G w [.int .u8 (192+c / 64),.int .u8 (128+c%64)] 5) (x0O .u8 [192+c / 64,128+c%64]) T7X f6J P8P ?_);intro A p t i _;have U:=C _ _ _ _ _ rfl rfl t i;go_wp2;go_ret;exact U
 ·by_cases D:c<=65535
  ·have y:Utf.form c=[224+c / 4096,128+c / 64%64,128+c%64]:=(by unfold Utf.form;rw[if_neg f6J,if_neg f6J,if_pos f6J]);have C:=fun n us v' w2 o=>x2B.mk (w:=w) (w2:=w2) (B:=B) (n:=n) (v:=v) (v':=v') (us:=us) (o:=o) y m X W S;rw[y]at S;simp only[List.length_cons,List.length_nil]at S;rcases I with⟨K,l⟩ | ⟨K,l⟩
   ·have E:c<55296:=f6J;exact U7z
   ·have M:57343<c:=f6J;exact U7z
  ·have y:Utf.form c=[240+c / 262144,128+c / 4096%64,128+c / 64%64,128+c%64]:=(by unfold Utf.form;rw[if_neg f6J,if_neg f6J,if_neg f6J]);have C:=fun n us v' w2 o=>x2B.mk (w:=w) (w2:=w2) (B:=B) (n:=n) (v:=v) (v':=v') (us:=us) (o:=o) y m X W S;rw[y]at S;have E:c<=1114111:=f6J;have M:65535<c:=f6J;simp only[List.length_cons,List.length_nil]at S;go_enter func157,ntmps157;go_wp2_with(at_builtin;refine wpList_append_own _ rfl (.tmp 57) (.tmp 76) 181 rfl B 5 r (.int .u8 0) 1 1 underlying181 hi d Y R rfl e8P _ _ _ rfl (X.row.alloc _) ⟨w.heap.size,0,none⟩ 4 4 [.int .u8 (240+c / 262144),.int .u8 (128+c / 4096%64),.int .u8 (128+c / 64%64),.int .u8 (128+c%64)] rfl rfl (x2G w [.int .u8 (240+c / 262144),.int .u8 (128+c / 4096%64),.int .u8 (128+c / 64%64),.int .u8 (128+c%64)] 5) (x0O .u8 [240+c / 262144,128+c / 4096%64,128+c / 64%64,128+c%64]) T7X f6J P8P ?_);intro A p t i _;have U:=C _ _ _ _ _ rfl rfl t i;go_wp2;go_ret;exact U
theorem x7L v ys c B w(X:Ok .u8 5 w B v ys)(m:B<=w.heap.size)(I:Utf.okc c)(S:ys.length+(Utf.form c).length<=140737488355328) :
  Calls prog 105 #[v,.int .i32 c] w (x2B w B (ys++Utf.form c)):=by
 obtain⟨r,hi,d,Y,R⟩:=info_parts z6W;by_cases Z:c<=127
 ·have W:=Utf.x9n I;have E:0<=c:=f6J;have y:Utf.form c=[c]:=(by unfold Utf.form;rw[if_pos f6J]);have C:=fun n us v' w2 o=>x2B.mk (w:=w) (w2:=w2) (B:=B) (n:=n) (v:=v) (v':=v') (us:=us) (o:=o) y m X W S;rw[y]at S;simp only[List.length_cons,List.length_nil]at S;go_enter func105,ntmps105;go_wp2_with(at_builtin;refine wpList_append_own _ rfl (.tmp 8) (.tmp 11) 181 rfl B 5 r (.int .u8 0) 1 1 underlying181 hi d Y R rfl e8P _ _ _ rfl (X.row.alloc _) ⟨w.heap.size,0,none⟩ 1 1 [.int .u8 c] rfl rfl (x2G w [.int .u8 c] 5) (x0O .u8 [c]) T7X f6J P8P ?_);intro A p t i _;have U:=C _ _ _ _ _ rfl rfl t i;go_wp2;go_ret;exact U
 ·have H:=O (x8X v ys c B w X m I f6J S);have N:128<=c/\c<=1114111:=f6J;obtain⟨N,J⟩:=N;go_enter func105,ntmps105;go_wp2_with fail;refine(V H).mono ?_;rintro e Q ⟨a,rfl,q,F⟩;go_wp2;go_ret;exact⟨_,rfl,q,F⟩
theorem y5v w ad c:(convert 181 9 (.slice (some ad) 0 c)).run prog w=.ok (.string (strOfNums [])) w:=E4F
theorem Sk.conv8{w v zs}(h:Sk .u8 w v zs):(convert 181 9 v).run prog w=.ok (.string (strOfNums zs)) w:=by
 rcases Nat.eq_zero_or_pos zs.length with h0 | h0
 ·obtain rfl:=List.eq_nil_of_length_eq_zero h0;obtain⟨B,M,rfl,_,_⟩:=h.shape
  cases B with
  | none=>exact t3I
  | some ad=>exact y5v w ad M
 ·exact P0D
theorem fb_enc i xs:(fbY (fun c=>!okb c) i xs=-1/\(Utf.encA i xs).2.2=0/\∀c∈xs,Utf.okc c)\/∃q:Nat,fbY (fun c=>!okb c) i xs=(q:Int)/\Utf.encA i xs=([],(q:Int),31)/\q<i+xs.length:=by
 induction xs generalizing i with
 | nil=>exact .inl ⟨rfl,rfl,fun c I=>by cases I⟩
 | cons c r ih =>
  by_cases I:Utf.okc c
  ·have Y:(!okb c)=false:=(by simp[okb,I]);have P:fbY (fun c=>!okb c) i (c::r)=fbY (fun c=>!okb c) (i+1) r:=(by simp[fbY,Y]);have E:Utf.encA i (c::r)=Utf.glue (Utf.form c) (Utf.encA (i+1) r):=(by simp[Utf.encA,I]);rw[P,E];rcases ih (i+1)with⟨Z,D,J⟩ | ⟨q,Z,D,J⟩
   ·refine .inl ⟨Z,by simp[Utf.glue,D],fun d hd=>?_⟩;rcases List.mem_cons.1 hd with rfl | hd
    ·exact I
    ·exact J d hd
   ·exact .inr ⟨q,Z,by rw[D];simp[Utf.glue],P8P⟩
  ·have Y:(!okb c)=true:=(by simp[okb,I]);exact .inr ⟨i,by simp[fbY,Y],by simp[Utf.encA,I],M7M⟩
theorem z5K{xs:List Int}(h:∀c∈xs,Utf.okc c){k}(G:k<xs.length):Utf.okc (xs.getD k 0):=f0h
theorem encC:EncC:=by
 intro v X w N S;obtain⟨i0,hi,d,Y,R⟩:=info_parts z6W;have Z:=O (x2b v X w N);rcases fb_enc 0 X with⟨z,h2,Q⟩ | ⟨q,z,he,y⟩
 ·have x:=O (y0u v X w N S);have j:cnt (Utf.encA 0 X)=((Utf.encA 0 X).1.length:Int):=(by unfold cnt;rw[if_pos h2]);rw[j]at x;rw[z]at Z;have ai:=Utf.x9i 0 X;have J:=x8p X
  have C:∀(ys:List Int) (k:Nat),k<X.length->Utf.encA 0 X=Utf.glue ys (Utf.encA k (X.drop k))->ys.length<=4*k->ys.length+(Utf.form (X.getD k 0)).length<=140737488355328:=by
   intro ys k hk _ hy;have:=Utf.x4f (X.getD k 0);omega
  have HT:=O C;obtain⟨I,aj,p,G⟩:=run_make_own (P:=prog) w w.heap.size 181 5 i0 (.int .u8 0) 1 underlying181 hi d Y .i64 .i64 (Utf.encA 0 X).1.length s0O T7W (l0r _);have B:Bw w I:=(Below.refl _ w).grown G (l0r _) (fun k hk=>by cases hk);have ab:Ok .u8 5 I w.heap.size (.slice (some ⟨w.heap.size,0,none⟩) 0 (Utf.encA 0 X).1.length) []:=Ok.of (Fit.nil _) M7N p rfl rfl;generalize(Utf.encA 0 X).1.length=L at *;rcases Nat.eq_zero_or_pos X.length with h0 | h0
  ·have U:=x2j.mk (w:=w) (w':=I) (x6b h0.symm J) B;have g:=ab.sk.conv8;obtain⟨ao,M,rfl,_,_⟩:=N.shape;rw[h0]at Z x ⊢;generalize Utf.encA 0 X=r at *;go_enter func56,ntmps56;go_wp2_with fail;refine(V Z).mono ?_;rintro e w ⟨rfl,rfl⟩;go_wp2_with fail;refine(V x).mono ?_;rintro e w ⟨rfl,rfl⟩;go_wp2;refine wp_loop_rounds 1 ?_;rw[rounds_succ];exact n2e
  ·have s:=O N.1;obtain⟨b,af,M,rfl,l,ag,hc⟩:=N.place h0
   have HC:Hid (∀m,Bw w m->∀i,i<X.length->m.cell? ⟨b,af+i,none⟩=some (.int .i32 (X.getD i 0))):=by
    intro m hb i hi;rw[hb.cell (x0a (hc i hi))];exact hc i hi
   have a:=O J;have HA:=O Q;generalize Utf.encA 0 X=r at *;go_enter func56,ntmps56;go_wp2_with fail;refine(V Z).mono ?_;rintro e w ⟨rfl,rfl⟩;go_wp2_with fail;refine(V x).mono ?_;rintro e w ⟨rfl,rfl⟩;go_wp2;go_loopw[6,19] (fun vb i wr=>∃(k:Nat) (ys:List Int),i=.int .i64 k/\k<=X.length/\Ok .u8 5 wr w.heap.size vb ys/\ys.length<=4*k/\Bw w wr/\r=Utf.glue ys (Utf.encA k (X.drop k))) (fun _ i _=>X.length-(intOf i).toNat)
   case atStart=>exact⟨0,[],rfl,f6J,ab,M7N,B,V a⟩
   case round =>
    obtain⟨k,ys,rfl,hk,o,n,T,u⟩:=hrel;by_cases E:k<X.length
    ·have K:=V HC wr T k E;have am:=(V s).i32at k;have A:=z5K (V HA) E;have f:=T.size;have HP:=O (x7L _ ys (X.getD k 0) w.heap.size wr o f A (V HT ys k E u n));have HR:=O (y0G E u A);have z:=Utf.x4f (X.getD k 0);have F:(ys++Utf.form (X.getD k 0)).length<=4*(k+1):=(by grind);generalize ys++Utf.form (X.getD k 0)=D at *;generalize X.getD k 0=c at *;go_wp2_with fail;refine(V HP).mono ?_;rintro e t ⟨v2,rfl,W,H⟩;have ae:Bw w t:=T.trans H;go_wp2
     go_roundw
     case rel=>exact⟨k+1,D,g2A,f6J,W,F,ae,V HR⟩
     case measure=>exact g7W
    ·have U:=x2j.mk (w:=w) (w':=wr) (x6b (f6J:k=X.length) u) T;have g:=o.sk.conv8;exact n2e
 ·have U:=x2j.no (w:=w) (w':=w) he (b0r);rw[z]at Z;go_enter func56,ntmps56;go_wp2_with fail;refine(V Z).mono ?_;rintro e w ⟨rfl,rfl⟩;exact n2e
