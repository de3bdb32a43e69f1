/- Lemmas. -/
import Derived.Test.YtkfcabdmkmljjaaGreatDoorG38
import Derived.Shelf.Abstract
import Derived.Lib.Walk
import Derived.Laws.MakeOwn
set_option maxHeartbeats 4000000
set_option maxRecDepth 20000
namespace Go.Proofs.YtkfcabdmkmljjaaGreatDoor
open Go.Proofs.Tryz
open Go.RowKit
section
variable{p:Prop}
theorem E4F(h:p:=by rw[run_convert_bytes_string w 181 9 5 _ 0 c underlying181 underlying5 underlying9,run_bytesToString w ad 0 c [] (run_loadCells_list (P:=prog) w ad [] (fun j v X=>by simp at X))];rfl):p:=h
theorem w2R(h:p:=by obtain⟨b,R,M,rfl,S,z,I⟩:=h.place h0;exact run_convert_bytes_arg w 181 5 underlying181 underlying5 b R zs.length M zs rfl I 9 underlying9):p:=h
theorem M1d(h:p:=by unfold Utf.okc;exact f6J):p:=h
theorem t3I(h:p:=by rw[List.length_nil,run_convert_bytes_nil w 181 5 underlying181 underlying5 0 M 9 underlying9];rfl):p:=h
theorem v6Y(h:p:=by rw[A M1d];unfold Utf.form;rw[if_neg f6J,if_neg f6J,if_pos f6J];rfl):p:=h
theorem w7A(h:p:=by have G:(!ascb c)=true:=(by simp[ascb];exact f6J);rw[G];go_enter func37,ntmps37;exact t6v):p:=h
theorem G1d(h:p:=by go_enter func157,ntmps157;go_wp2_with(at_builtin;refine wpList_append_own _ rfl (.tmp 34) (.tmp 48) 181 rfl B 5 i (.int .u8 0) 1 1 underlying181 hi y Y m rfl e8Q _ _ _ rfl (j.row.alloc _) ⟨w.heap.size,0,none⟩ 3 3 [.int .u8 (224+c / 4096),.int .u8 (128+c / 64%64),.int .u8 (128+c%64)] rfl rfl (x2E w [.int .u8 (224+c / 4096),.int .u8 (128+c / 64%64),.int .u8 (128+c%64)] 5) (x0R .u8 [224+c / 4096,128+c / 64%64,128+c%64]) T7X f6J P8P ?_);intro t W P q _;have U:=C _ _ _ _ _ rfl rfl P q;go_wp2;go_ret;exact U):p:=h
theorem M1e(h:p:=by unfold Utf.okc;exact f6J):p:=h
theorem t6M(h:p:=by go_wp2;go_ret;exact⟨congrArg (fun z=>Ending.returned (Value.int .i64 z)) (V A).symm,rfl⟩):p:=h
theorem g7N(h:p:=by have G:okb c=false:=d0f M1e;exact w6e):p:=h
theorem n2d(h:p:=by go_wp2;go_ret3;exact U):p:=h
end
theorem x8k c w(h:-2147483648<=c/\c<=2147483647) :
  Calls prog 108 #[.int .i32 c] w fun e w'=>e=.returned (.bool (okb c))/\w'=w:=by
 by_cases Z:0<=c
 ·by_cases D:c<55296
  ·have G:okb c=true:=d0t M1e;exact w6e
  ·by_cases J:57343<c
   ·by_cases H:c<=1114111
    ·have G:okb c=true:=d0t M1e;exact w6e
    ·exact g7N
   ·exact g7N
 ·exact g7N
theorem x8Y c w(h:-2147483648<=c/\c<=2147483647) :
  Calls prog 62 #[.int .i32 c] w fun e w'=>e=.returned (.bool (okb c))/\w'=w:=by
 have H:=O (x8k c w h);go_enter func62,ntmps62;go_wp2_with fail;refine(V H).mono ?_;rintro e w ⟨rfl,rfl⟩;go_wp2;go_ret;exact⟨rfl,rfl⟩
theorem y0s c w(h:-2147483648<=c/\c<=2147483647) :
  Calls prog 156 #[.int .i32 c] w fun e w'=>e=.returned (.bool (!okb c))/\w'=w:=by
 have H:=O (x8Y c w h);go_enter func156,ntmps156;go_wp2_with fail;refine(V H).mono ?_;rintro e w ⟨rfl,rfl⟩;go_wp2;go_ret;exact⟨rfl,rfl⟩
def fbY(p:Int->Bool):Nat->List Int->Int
 | _,[]=>-1
 | i,c::r=>if p c then(i:Int)else fbY p (i+1) r
theorem z6X{p:Int->Bool}{xs:List Int}{k r}(G:k<xs.length)(h:r=fbY p k (xs.drop k))(s:p (xs.getD k 0)=true):r=(k:Int):=by
 rw[h,x0Q G,fbY,if_pos s]
theorem z3c{p:Int->Bool}{xs:List Int}{k r}(G:k<xs.length)(h:r=fbY p k (xs.drop k))(s:p (xs.getD k 0)=false):r=fbY p (k+1) (xs.drop (k+1)):=by
 rw[h,x0Q G,fbY,s];rfl
theorem y8V{p:Int->Bool}{xs:List Int}{k r}(G:xs.length<=k)(h:r=fbY p k (xs.drop k)):r=-1:=by
 rw[h,List.drop_eq_nil_of_le G,fbY]
theorem y8U(p:Int->Bool) i xs:decide (fbY p i xs<0)=xs.all (fun c=>!p c):=by
 induction xs generalizing i with
 | nil=>rfl
 | cons c r ih =>
  simp only[fbY,List.all_cons];exact e4k
theorem x3p(p:Int->Bool)(g:Nat)(D:∀x w,(-2147483648<=x/\x<=2147483647)->Calls prog g #[.int .i32 x] w fun e w'=>e=.returned (.bool (p x))/\w'=w)(q:∀args w,(callFunc g args).run prog w=.ok (.enter g args) w)
  v xs w (N:Sk .i32 w v xs) :
  Calls prog 66 #[v,.func (.func g) #[] #[]] w fun e w'=>e=.returned (.int .i64 (fbY p 0 xs))/\w'=w:=by
 have z:=N.len;have j:fbY p 0 xs=fbY p 0 (xs.drop 0):=s4M;rcases Nat.eq_zero_or_pos xs.length with h0 | h0
 ·have d:=y8V f6J j;exact f6u
 ·have s:=O N.1;obtain⟨b,R,M,rfl,H,F,I⟩:=N.place h0;have C:=O I;have Q:=O j;have A:=O D;clear N I j D;generalize d:fbY p 0 xs=r at *;go_enter func66,ntmps66;go_wp2;go_loop [5,8] (fun _ i=>∃k:Nat,i=.int .i64 k/\k<=xs.length/\r=fbY p k (xs.drop k)) (fun _ i=>xs.length-(intOf i).toNat)
  case atStart=>exact⟨0,rfl,f6J,V Q⟩
  case round =>
   obtain⟨k,rfl,G,u⟩:=hrel;by_cases E:k<xs.length
   ·have K:=V C k E;have B:=(V s).i32at k;have L:=O (V A (xs.getD k 0) w B)
    cases hok:p (xs.getD k 0)with
    | true =>
     have Y:=z6X E u hok;rw[hok]at L;subst Y;clear u hok Q;generalize xs.getD k 0=c at *;go_wp2_with(go_at_fn g;refine(V L).mono ?_;rintro e w ⟨rfl,rfl⟩);go_ret;exact⟨rfl,rfl⟩
    | false =>
     have a:=O (z3c E u hok);rw[hok]at L;generalize xs.getD k 0=c at *;go_wp2_with(go_at_fn g;refine(V L).mono ?_;rintro e w ⟨rfl,rfl⟩);go_round
     case rel=>exact⟨k+1,g2B,f6J,V a⟩
     case measure=>exact g7T
   ·have Y:=y8V f6J u;subst Y;exact t6x
theorem y5V:∀args w,(callFunc 156 args).run prog w=.ok (.enter 156 args) w:=f0h
theorem x2d v xs w(N:Sk .i32 w v xs) :
  Calls prog 104 #[v] w fun e w'=>e=.returned (.int .i64 (fbY (fun c=>!okb c) 0 xs))/\w'=w:=by
 have H:=O (x3p (fun c=>!okb c) 156 y0s y5V v xs w N);go_enter func104,ntmps104;go_wp2_with fail;refine(V H).mono ?_;rintro e w ⟨rfl,rfl⟩;go_wp2;go_ret;exact⟨rfl,rfl⟩
def z8W:Prop:=∀(v:Value) (xs:List Int) (w:World),Sk .i32 w v xs->Calls prog 15 #[v] w (z2i w (allb ascb xs))
theorem y5n c w(h:-2147483648<=c/\c<=2147483647) :
  Calls prog 37 #[.int .i32 c] w fun e w'=>e=.returned (.bool (!ascb c))/\w'=w:=by
 by_cases Z:c<0
 ·exact w7A
 ·by_cases D:c>127
  ·exact w7A
  ·have G:(!ascb c)=false:=(by simp[ascb];exact f6J);rw[G];go_enter func37,ntmps37;exact t6v
theorem y5Q:∀args w,(callFunc 37 args).run prog w=.ok (.enter 37 args) w:=f0h
theorem x5I v xs w(N:Sk .i32 w v xs) :
  Calls prog 36 #[v,.func (.func 37) #[] #[]] w fun e w'=>e=.returned (.bool (!allb ascb xs))/\w'=w:=by
 have H:=O (x3p (fun c=>!ascb c) 37 y5n y5Q v xs w N)
 have d:(!allb ascb xs)=decide (0<=fbY (fun c=>!ascb c) 0 xs):=by
  have h:=y8U (fun c=>!ascb c) 0 xs;have e:allb ascb xs=decide (fbY (fun c=>!ascb c) 0 xs<0):=(by rw[h];simp[allb]);rw[e,<- decide_not];congr 1;apply propext;omega
 rw[d];go_enter func36,ntmps36;go_wp2_with fail;refine(V H).mono ?_;rintro e w ⟨rfl,rfl⟩;go_wp2;go_ret;exact⟨rfl,rfl⟩
theorem z5d:z8W:=by
 intro v X w N;have H:=O (x5I v X w N);have d:allb ascb X=!!allb ascb X:=M7K;rw[d];generalize(!allb ascb X)=r at *;go_enter func15,ntmps15;go_wp2_with fail;refine(V H).mono ?_;rintro e w ⟨rfl,rfl⟩;exact T8u
theorem z7n:(prog.info? 5).map (fun i=>(i.zero,i.size,i.bytes))=some (some (.int .u8 0),1,1):=f4x
def rl(c:Int):Int:=if Utf.okc c then((Utf.form c).length:Int)else -1
theorem rl_cases c:(c<0/\rl c=-1)\/((0<=c/\c<=127)/\rl c=1)\/((128<=c/\c<=2047)/\rl c=2)\/((2048<=c/\c<55296)/\rl c=3)\/((55296<=c/\c<=57343)/\rl c=-1)\/((57343<c/\c<=65535)/\rl c=3)\/((65535<c/\c<=1114111)/\rl c=4)\/(1114111<c/\rl c=-1):=by
 have W:∀h:¬Utf.okc c,rl c=-1:=fun h=>(by unfold rl;rw[if_neg h]);have A:∀h:Utf.okc c,rl c=((Utf.form c).length:Int):=fun h=>(by unfold rl;rw[if_pos h]);by_cases R:c<0
 ·exact .inl ⟨R,W M1d⟩
 ·by_cases Z:c<=127
  ·exact .inr (.inl ⟨⟨f6J,Z⟩,by rw[A M1d];unfold Utf.form;rw[if_pos f6J];rfl⟩)
  ·by_cases D:c<=2047
   ·exact .inr (.inr (.inl ⟨⟨f6J,D⟩,by rw[A M1d];unfold Utf.form;rw[if_neg f6J,if_pos f6J];rfl⟩))
   ·by_cases J:c<55296
    ·exact .inr (.inr (.inr (.inl ⟨⟨f6J,J⟩,v6Y⟩)))
    ·by_cases H:c<=57343
     ·exact .inr (.inr (.inr (.inr (.inl ⟨⟨f6J,H⟩,W M1d⟩))))
     ·by_cases K:c<=65535
      ·exact .inr (.inr (.inr (.inr (.inr (.inl ⟨⟨f6J,K⟩,v6Y⟩)))))
      ·by_cases q:c<=1114111
       ·exact .inr (.inr (.inr (.inr (.inr (.inr (.inl ⟨⟨f6J,q⟩,by rw[A M1d];unfold Utf.form;rw[if_neg f6J,if_neg f6J,if_neg f6J];rfl⟩))))))
       ·omega
theorem y3w c w(h:-2147483648<=c/\c<=2147483647) :
  Calls prog 70 #[.int .i32 c] w fun e w'=>e=.returned (.int .i64 (rl c))/\w'=w:=by
 rcases rl_cases c with⟨h,e⟩ | ⟨⟨h,D⟩,e⟩ | ⟨⟨h,D⟩,e⟩ | ⟨⟨h,D⟩,e⟩ | ⟨⟨h,D⟩,e⟩ | ⟨⟨h,D⟩,e⟩ | ⟨⟨h,D⟩,e⟩ | ⟨h,e⟩
 all_goals
  rw[e];clear e;go_enter func70,ntmps70;go_wp2;go_ret;exact⟨rfl,rfl⟩
theorem y0R{xs ys:List Int}{k r}(G:k<xs.length)(h:r=Utf.glue ys (Utf.encA k (xs.drop k)))(I:Utf.okc (xs.getD k 0)) :
  r=Utf.glue (ys++Utf.form (xs.getD k 0)) (Utf.encA (k+1) (xs.drop (k+1))):=by
 rw[h,x0Q G];simp only[Utf.encA,if_pos I,Utf.y1h]
theorem y8H{xs ys:List Int}{k r}(G:k<xs.length)(h:r=Utf.glue ys (Utf.encA k (xs.drop k)))(I:¬Utf.okc (xs.getD k 0)) :
  r=([],(k:Int),31):=by
 rw[h,x0Q G];simp only[Utf.encA,if_neg I];simp[Utf.glue]
theorem x6c{xs ys:List Int}{k r}(G:k=xs.length)(h:r=Utf.glue ys (Utf.encA k (xs.drop k))):r=(ys,0,0):=by
 subst G;rw[h,List.drop_length];simp[Utf.encA,Utf.glue]
theorem x8w xs:Utf.encA 0 xs=Utf.glue [] (Utf.encA 0 (xs.drop 0)):=by
 rw[List.drop_zero,Utf.y4w]
 ·intro h;rcases Utf.enc_shape 0 xs with Z | ⟨q,Z,_⟩
  ·exact Z.2
  ·rw[Z]at h;simp at h
 ·intro h;rcases Utf.enc_shape 0 xs with Z | ⟨q,Z,_⟩
  ·exact absurd Z.1 h
  ·rw[Z]
theorem y0E v xs w(N:Sk .i32 w v xs)(S:xs.length<=35184372087808) :
  Calls prog 41 #[v] w fun e w'=>e=.returned (.int .i64 (cnt (Utf.encA 0 xs)))/\w'=w:=by
 have j:=x8w xs;rcases Nat.eq_zero_or_pos xs.length with h0 | h0
 ·have d:=x6c h0.symm j;rw[d];obtain⟨J,M,rfl,_,_⟩:=N.shape;have I:cnt ([],0,0)=0:=rfl;rw[h0,I];go_enter func41,ntmps41;go_wp2;refine wp_loop_rounds 1 ?_;rw[rounds_succ];exact t6x
 ·have s:=O N.1;obtain⟨b,R,M,rfl,H,g,I⟩:=N.place h0;have T:=O I;have Q:=O j;clear N I j;generalize Utf.encA 0 xs=r at *;go_enter func41,ntmps41;go_wp2;go_loop [3,9] (fun X i=>∃(k:Nat) (ys:List Int),i=.int .i64 k/\k<=xs.length/\X=.int .i64 (ys.length:Int)/\ys.length<=4*k/\r=Utf.glue ys (Utf.encA k (xs.drop k))) (fun _ i=>xs.length-(intOf i).toNat)
  case atStart=>exact⟨0,[],rfl,f6J,rfl,M7O,V Q⟩
  case round =>
   obtain⟨k,ys,rfl,G,rfl,U,u⟩:=hrel;by_cases E:k<xs.length
   ·have K:=V T k E;have B:=(V s).i32at k;have L:=O (y3w (xs.getD k 0) w B);by_cases l:Utf.okc (xs.getD k 0)
    ·have a:=O (y0R E u l);have C:rl (xs.getD k 0)=((Utf.form (xs.getD k 0)).length:Int):=if_pos l;rw[C]at L;have o:=Utf.x4e (xs.getD k 0);have W:(ys++Utf.form (xs.getD k 0)).length=ys.length+(Utf.form (xs.getD k 0)).length:=List.length_append;have F:=O W;generalize hys:ys++Utf.form (xs.getD k 0)=D at *;generalize xs.getD k 0=c at *;go_wp2_with fail;refine(V L).mono ?_;rintro e w ⟨rfl,rfl⟩;go_wp2;go_round
     case rel=>exact⟨k+1,D,g2B,f6J,by rw[V F];exact g2B,by rw[V F];exact f6J,V a⟩
     case measure=>exact g7T
    ·have d:=y8H E u l;have C:rl (xs.getD k 0)=-1:=if_neg l;rw[C]at L;have I:cnt r=-1:=(by rw[d];rfl);have A:=O I;generalize xs.getD k 0=c at *;go_wp2_with fail;refine(V L).mono ?_;rintro e w ⟨rfl,rfl⟩;exact t6M
   ·have d:=x6c (f6J:k=xs.length) u;have I:cnt r=(ys.length:Int):=(by rw[d];rfl);have A:=O I;clear u d I;exact t6M
theorem x2E(w:World)(us:List Value) t:∀(j:Nat) (u:Value),us[j]?=some u->(w.alloc (.cells us.toArray t)).cell? ((⟨w.heap.size,0,none⟩:Addr).add j)=some u:=by
 intro j u X;rw[addr_add];simp[X]
def x2z(w:World)(B:Nat)(zs:List Int)(e:Ending)(w':World):Prop:=∃v,e=.returned v/\Ok .u8 5 w' B v zs/\Below B w w'
theorem x2z.mk{w w2 B n v v' ys fs r}{us o}(hr:r=fs)(l:B<=w.heap.size)(j:Ok .u8 5 w B v ys)(A:Utf.Byt r)(S:ys.length+r.length<=140737488355328)(F:n=ys.length+fs.length)(d:us=ys.map (Value.int .u8)++fs.map (Value.int .u8))
  (h:w2.ownsRow B 5 1 v' n us) (C:(w.alloc o).grownBy w2 v.ownBlock):x2z w B (ys++r) (.returned v') w2:=by
 subst hr;exact⟨v',rfl,Ok.of (j.1.app (x2J A)) (by rw[List.length_append];exact S) h (by rw[List.length_append];exact F) (by rw[List.map_append];exact d),x0z l j.row (b0r) C⟩
theorem x9e v ys c B w(j:Ok .u8 5 w B v ys)(l:B<=w.heap.size)(I:Utf.okc c)(A:128<=c)(S:ys.length+(Utf.form c).length<=140737488355328) :
  Calls prog 157 #[v,.int .i32 c] w (x2z w B (ys++Utf.form c)):=by
 obtain⟨i,hi,y,Y,m⟩:=info_parts z7n;have K:=Utf.x9v I;unfold Utf.okc at I;by_cases Z:c<=2047
 ·have N:Utf.form c=[192+c / 64,128+c%64]:=(by unfold Utf.form;rw[if_neg f6J,if_pos f6J]);have C:=fun n us v' w2 o=>x2z.mk (w:=w) (w2:=w2) (B:=B) (n:=n) (v:=v) (v':=v') (us:=us) (o:=o) N l j K S;rw[N]at S;simp only[List.length_cons,List.length_nil]at S;go_enter func157,ntmps157;go_wp2_with(at_builtin;refine wpList_append_own _ rfl (.tmp 14) (.tmp 23) 181 rfl B 5 i (.int .u8 0) 1 1 underlying181 hi y Y m rfl e8Q _ _ _ rfl (j.row.alloc _) ⟨w.heap.size,0,none⟩ 2 2 [.int .u8 (192+c / 64),.int .u8 (128+c%64)] rfl rfl (x2E w [.int .u8 (192+c / 64),.int .u8 (128+c%64)] 5) (x0R .u8 [192+c / 64,128+c%64]) T7X f6J P8P ?_);intro t W P q _;have U:=C _ _ _ _ _ rfl rfl P q;go_wp2;go_ret;exact U
 ·by_cases D:c<=65535
  ·have N:Utf.form c=[224+c / 4096,128+c / 64%64,128+c%64]:=(by unfold Utf.form;rw[if_neg f6J,if_neg f6J,if_pos f6J]);have C:=fun n us v' w2 o=>x2z.mk (w:=w) (w2:=w2) (B:=B) (n:=n) (v:=v) (v':=v') (us:=us) (o:=o) N l j K S;rw[N]at S;simp only[List.length_cons,List.length_nil]at S;rcases I with⟨r,H⟩ | ⟨r,H⟩
   ·have E:c<55296:=f6J;exact G1d
   ·have x:57343<c:=f6J;exact G1d
  ·have N:Utf.form c=[240+c / 262144,128+c / 4096%64,128+c / 64%64,128+c%64]:=(by unfold Utf.form;rw[if_neg f6J,if_neg f6J,if_neg f6J]);have C:=fun n us v' w2 o=>x2z.mk (w:=w) (w2:=w2) (B:=B) (n:=n) (v:=v) (v':=v') (us:=us) (o:=o) N l j K S;rw[N]at S;have E:c<=1114111:=f6J;have x:65535<c:=f6J;simp only[List.length_cons,List.length_nil]at S;go_enter func157,ntmps157;go_wp2_with(at_builtin;refine wpList_append_own _ rfl (.tmp 57) (.tmp 76) 181 rfl B 5 i (.int .u8 0) 1 1 underlying181 hi y Y m rfl e8Q _ _ _ rfl (j.row.alloc _) ⟨w.heap.size,0,none⟩ 4 4 [.int .u8 (240+c / 262144),.int .u8 (128+c / 4096%64),.int .u8 (128+c / 64%64),.int .u8 (128+c%64)] rfl rfl (x2E w [.int .u8 (240+c / 262144),.int .u8 (128+c / 4096%64),.int .u8 (128+c / 64%64),.int .u8 (128+c%64)] 5) (x0R .u8 [240+c / 262144,128+c / 4096%64,128+c / 64%64,128+c%64]) T7X f6J P8P ?_);intro t W P q _;have U:=C _ _ _ _ _ rfl rfl P q;go_wp2;go_ret;exact U
theorem x7T v ys c B w(j:Ok .u8 5 w B v ys)(l:B<=w.heap.size)(I:Utf.okc c)(S:ys.length+(Utf.form c).length<=140737488355328) :
  Calls prog 105 #[v,.int .i32 c] w (x2z w B (ys++Utf.form c)):=by
 obtain⟨i,hi,D,Y,m⟩:=info_parts z7n;by_cases Z:c<=127
 ·have K:=Utf.x9v I;have R:0<=c:=f6J;have N:Utf.form c=[c]:=(by unfold Utf.form;rw[if_pos f6J]);have C:=fun n us v' w2 o=>x2z.mk (w:=w) (w2:=w2) (B:=B) (n:=n) (v:=v) (v':=v') (us:=us) (o:=o) N l j K S;rw[N]at S;simp only[List.length_cons,List.length_nil]at S;go_enter func105,ntmps105;go_wp2_with(at_builtin;refine wpList_append_own _ rfl (.tmp 8) (.tmp 11) 181 rfl B 5 i (.int .u8 0) 1 1 underlying181 hi D Y m rfl e8P _ _ _ rfl (j.row.alloc _) ⟨w.heap.size,0,none⟩ 1 1 [.int .u8 c] rfl rfl (x2E w [.int .u8 c] 5) (x0R .u8 [c]) T7X f6J P8P ?_);intro t W P q _;have U:=C _ _ _ _ _ rfl rfl P q;go_wp2;go_ret;exact U
 ·have H:=O (x9e v ys c B w j l I f6J S);have y:128<=c/\c<=1114111:=f6J;obtain⟨y,Q⟩:=y;go_enter func105,ntmps105;go_wp2_with fail;refine(V H).mono ?_;rintro e E ⟨u,rfl,s,F⟩;go_wp2;go_ret;exact⟨_,rfl,s,F⟩
theorem y5J w ad c:(convert 181 9 (.slice (some ad) 0 c)).run prog w=.ok (.string (strOfNums [])) w:=E4F
theorem Sk.conv8{w v zs}(h:Sk .u8 w v zs):(convert 181 9 v).run prog w=.ok (.string (strOfNums zs)) w:=by
 rcases Nat.eq_zero_or_pos zs.length with h0 | h0
 ·obtain rfl:=List.eq_nil_of_length_eq_zero h0;obtain⟨J,M,rfl,_,_⟩:=h.shape
  cases J with
  | none=>exact t3I
  | some ad=>exact y5J w ad M
 ·exact w2R
theorem fb_enc i xs:(fbY (fun c=>!okb c) i xs=-1/\(Utf.encA i xs).2.2=0/\∀c∈xs,Utf.okc c)\/∃q:Nat,fbY (fun c=>!okb c) i xs=(q:Int)/\Utf.encA i xs=([],(q:Int),31)/\q<i+xs.length:=by
 induction xs generalizing i with
 | nil=>exact .inl ⟨rfl,rfl,fun c I=>by cases I⟩
 | cons c r ih =>
  by_cases I:Utf.okc c
  ·have Y:(!okb c)=false:=(by simp[okb,I]);have t:fbY (fun c=>!okb c) i (c::r)=fbY (fun c=>!okb c) (i+1) r:=(by simp[fbY,Y]);have E:Utf.encA i (c::r)=Utf.glue (Utf.form c) (Utf.encA (i+1) r):=(by simp[Utf.encA,I]);rw[t,E];rcases ih (i+1)with⟨Z,D,J⟩ | ⟨q,Z,D,J⟩
   ·refine .inl ⟨Z,by simp[Utf.glue,D],fun d hd=>?_⟩;rcases List.mem_cons.1 hd with rfl | hd
    ·exact I
    ·exact J d hd
   ·exact .inr ⟨q,Z,by rw[D];simp[Utf.glue],P8P⟩
  ·have Y:(!okb c)=true:=(by simp[okb,I]);exact .inr ⟨i,by simp[fbY,Y],by simp[Utf.encA,I],M7N⟩
theorem z6a{xs:List Int}(h:∀c∈xs,Utf.okc c){k}(G:k<xs.length):Utf.okc (xs.getD k 0):=f0h
theorem encC:EncC:=by
 intro v X w N S;obtain⟨i0,hi,y,Y,m⟩:=info_parts z7n;have Z:=O (x2d v X w N);rcases fb_enc 0 X with⟨o,h2,z⟩ | ⟨q,o,he,d⟩
 ·have x:=O (y0E v X w N S);have p:cnt (Utf.encA 0 X)=((Utf.encA 0 X).1.length:Int):=(by unfold cnt;rw[if_pos h2]);rw[p]at x;rw[o]at Z;have ai:=Utf.x9q 0 X;have j:=x8w X
  have C:∀(ys:List Int) (k:Nat),k<X.length->Utf.encA 0 X=Utf.glue ys (Utf.encA k (X.drop k))->ys.length<=4*k->ys.length+(Utf.form (X.getD k 0)).length<=140737488355328:=by
   intro ys k hk _ hy;have:=Utf.x4e (X.getD k 0);omega
  have n:=O C;obtain⟨J,aj,A,I⟩:=run_make_own (P:=prog) w w.heap.size 181 5 i0 (.int .u8 0) 1 underlying181 hi y Y .i64 .i64 (Utf.encA 0 X).1.length I5m T7W (l0r _);have B:Bw w J:=(Below.refl _ w).grown I (l0r _) (fun k hk=>by cases hk);have ae:Ok .u8 5 J w.heap.size (.slice (some ⟨w.heap.size,0,none⟩) 0 (Utf.encA 0 X).1.length) []:=Ok.of (Fit.nil _) M7O A rfl rfl;generalize(Utf.encA 0 X).1.length=L at *;rcases Nat.eq_zero_or_pos X.length with h0 | h0
  ·have U:=x2m.mk (w:=w) (w':=J) (x6c h0.symm j) B;have G:=ae.sk.conv8;obtain⟨ao,M,rfl,_,_⟩:=N.shape;rw[h0]at Z x ⊢;generalize Utf.encA 0 X=r at *;go_enter func56,ntmps56;go_wp2_with fail;refine(V Z).mono ?_;rintro e w ⟨rfl,rfl⟩;go_wp2_with fail;refine(V x).mono ?_;rintro e w ⟨rfl,rfl⟩;go_wp2;refine wp_loop_rounds 1 ?_;rw[rounds_succ];exact n2d
  ·have s:=O N.1;obtain⟨b,R,M,rfl,ag,g,hc⟩:=N.place h0
   have HC:Hid (∀wx,Bw w wx->∀i,i<X.length->wx.cell? ⟨b,R+i,none⟩=some (.int .i32 (X.getD i 0))):=by
    intro wx hb i hi;rw[hb.cell (x0a (hc i hi))];exact hc i hi
   have Q:=O j;have HA:=O z;generalize Utf.encA 0 X=r at *;go_enter func56,ntmps56;go_wp2_with fail;refine(V Z).mono ?_;rintro e w ⟨rfl,rfl⟩;go_wp2_with fail;refine(V x).mono ?_;rintro e w ⟨rfl,rfl⟩;go_wp2;go_loopw[6,19] (fun vb i wr=>∃(k:Nat) (ys:List Int),i=.int .i64 k/\k<=X.length/\Ok .u8 5 wr w.heap.size vb ys/\ys.length<=4*k/\Bw w wr/\r=Utf.glue ys (Utf.encA k (X.drop k))) (fun _ i _=>X.length-(intOf i).toNat)
   case atStart=>exact⟨0,[],rfl,f6J,ae,M7O,B,V Q⟩
   case round =>
    obtain⟨k,ys,rfl,hk,l,af,T,u⟩:=hrel;by_cases E:k<X.length
    ·have K:=V HC wr T k E;have am:=(V s).i32at k;have ab:=z6a (V HA) E;have f:=T.size;have HP:=O (x7T _ ys (X.getD k 0) w.heap.size wr l f ab (V n ys k E u af));have a:=O (y0R E u ab);have o:=Utf.x4e (X.getD k 0);have F:(ys++Utf.form (X.getD k 0)).length<=4*(k+1):=(by grind);generalize ys++Utf.form (X.getD k 0)=D at *;generalize X.getD k 0=c at *;go_wp2_with fail;refine(V HP).mono ?_;rintro e w2 ⟨v2,rfl,W,H⟩;have t:Bw w w2:=T.trans H;go_wp2
     go_roundw
     case rel=>exact⟨k+1,D,g2B,f6J,W,F,t,V a⟩
     case measure=>exact g7W
    ·have U:=x2m.mk (w:=w) (w':=wr) (x6c (f6J:k=X.length) u) T;have G:=l.sk.conv8;exact n2d
 ·have U:=x2m.no (w:=w) (w':=w) he (b0r);rw[o]at Z;go_enter func56,ntmps56;go_wp2_with fail;refine(V Z).mono ?_;rintro e w ⟨rfl,rfl⟩;exact n2d
