import Derived.Test.YtbmckadcjdedcaaGreatDoorF41
import Derived.Shelf.Abstract
import Derived.Lib.Walk
import Derived.Laws.MakeOwn
set_option maxHeartbeats 4000000
set_option maxRecDepth 20000
namespace Go.Proofs.YtbmckadcjdedcaaGreatDoor
open Go.Proofs.Tryz
open Go.RowKit
section
variable{p:Prop}
theorem M2E(h:p:=by rw[run_convert_bytes_string w 76 9 5 _ 0 c underlying76 underlying5 underlying9,run_bytesToString w ad 0 c [] (run_loadCells_list (P:=prog) w ad [] (fun j v K=>by simp at K))];rfl):p:=h
theorem u7x(h:p:=by obtain⟨b,P,M,rfl,S,z,I⟩:=h.place h0;exact run_convert_bytes_arg w 76 5 underlying76 underlying5 b P zs.length M zs rfl I 9 underlying9):p:=h
theorem M1d(h:p:=by unfold Utf.okc;exact f6J):p:=h
theorem U0I(h:p:=by rw[List.length_nil,run_convert_bytes_nil w 76 5 underlying76 underlying5 0 M 9 underlying9];rfl):p:=h
theorem E7V(h:p:=by have G:(!ascb c)=true:=(by simp[ascb];exact f6J);rw[G];go_enter func155,ntmps155;exact t6v):p:=h
theorem w4z(h:p:=by rw[B M1d];unfold Utf.form;rw[if_neg f6J,if_neg f6J,if_pos f6J];rfl):p:=h
theorem M1e(h:p:=by unfold Utf.okc;exact f6J):p:=h
theorem r1O(h:p:=by go_enter func62,ntmps62;go_wp2_with(at_builtin;refine wpList_append_own _ rfl (.tmp 34) (.tmp 48) 76 rfl B 5 i (.int .u8 0) 1 1 underlying76 hi f p t rfl e8P _ _ _ rfl (y.row.alloc _) ⟨w.heap.size,0,none⟩ 3 3 [.int .u8 (224+c / 4096),.int .u8 (128+c / 64%64),.int .u8 (128+c%64)] rfl rfl (x2X w [.int .u8 (224+c / 4096),.int .u8 (128+c / 64%64),.int .u8 (128+c%64)] 5) (x0S .u8 [224+c / 4096,128+c / 64%64,128+c%64]) T7X f6J P8P ?_);intro J D x C _;have T:=G _ _ _ _ _ rfl rfl x C;go_wp2;go_ret;exact T):p:=h
theorem t1T(h:p:=by go_wp2;go_ret;exact⟨congrArg (fun z=>Ending.returned (Value.int .i64 z)) (V B).symm,rfl⟩):p:=h
theorem e5N(h:p:=by have G:okb c=false:=d0f M1e;exact T5p):p:=h
theorem t6z(h:p:=by go_wp2;go_ret;exact⟨rfl,rfl⟩):p:=h
theorem i5F(h:p:=by go_wp2;go_ret3;exact T):p:=h
end
theorem x7N c w(h:-2147483648<=c/\c<=2147483647) :
  Calls prog 102 #[.int .i32 c] w fun e w'=>e=.returned (.bool (okb c))/\w'=w:=by
 by_cases Z:0<=c
 ·by_cases D:c<55296
  ·have G:okb c=true:=d0t M1e;exact T5p
  ·by_cases R:57343<c
   ·by_cases H:c<=1114111
    ·have G:okb c=true:=d0t M1e;exact T5p
    ·exact e5N
   ·exact e5N
 ·exact e5N
theorem x8z c w(h:-2147483648<=c/\c<=2147483647) :
  Calls prog 60 #[.int .i32 c] w fun e w'=>e=.returned (.bool (okb c))/\w'=w:=by
 have H:=O (x7N c w h);go_enter func60,ntmps60;go_wp2_with fail;refine(V H).mono ?_;rintro e w ⟨rfl,rfl⟩;go_wp2;go_ret;exact⟨rfl,rfl⟩
theorem x9R c w(h:-2147483648<=c/\c<=2147483647) :
  Calls prog 59 #[.int .i32 c] w fun e w'=>e=.returned (.bool (!okb c))/\w'=w:=by
 have H:=O (x8z c w h);go_enter func59,ntmps59;go_wp2_with fail;refine(V H).mono ?_;rintro e w ⟨rfl,rfl⟩;go_wp2;go_ret;exact⟨rfl,rfl⟩
def fbY(p:Int->Bool):Nat->List Int->Int
 | _,[]=>-1
 | i,c::r=>if p c then(i:Int)else fbY p (i+1) r
theorem z5v{p:Int->Bool}{xs:List Int}{k r}(G:k<xs.length)(h:r=fbY p k (xs.drop k))(L:p (xs.getD k 0)=true):r=(k:Int):=by
 rw[h,x0R G,fbY,if_pos L]
theorem z1Q{p:Int->Bool}{xs:List Int}{k r}(G:k<xs.length)(h:r=fbY p k (xs.drop k))(L:p (xs.getD k 0)=false):r=fbY p (k+1) (xs.drop (k+1)):=by
 rw[h,x0R G,fbY,L];rfl
theorem y8f{p:Int->Bool}{xs:List Int}{k r}(G:xs.length<=k)(h:r=fbY p k (xs.drop k)):r=-1:=by
 rw[h,List.drop_eq_nil_of_le G,fbY]
theorem y8e(p:Int->Bool) i xs:decide (fbY p i xs<0)=xs.all (fun c=>!p c):=by
 induction xs generalizing i with
 | nil=>rfl
 | cons c r ih =>
  simp only[fbY,List.all_cons];exact u5V
theorem x3F(p:Int->Bool)(g:Nat)(L:∀x w,(-2147483648<=x/\x<=2147483647)->Calls prog g #[.int .i32 x] w fun e w'=>e=.returned (.bool (p x))/\w'=w)(D:∀args w,(callFunc g args).run prog w=.ok (.enter g args) w)
  v xs w (N:Sk .i32 w v xs) :
  Calls prog 58 #[v,.func (.func g) #[] #[]] w fun e w'=>e=.returned (.int .i64 (fbY p 0 xs))/\w'=w:=by
 have t:=N.len;have Q:fbY p 0 xs=fbY p 0 (xs.drop 0):=s4M;rcases Nat.eq_zero_or_pos xs.length with h0|h0
 ·have m:=y8f f6J Q;exact P6X
 ·have l:=O N.1;obtain⟨b,P,M,rfl,o,q,I⟩:=N.place h0;have C:=O I;have F:=O Q;have A:=O L;clear N I Q L;generalize m:fbY p 0 xs=r at *;go_enter func58,ntmps58;go_wp2;go_loop [5,8] (fun _ i=>∃k:Nat,i=.int .i64 k/\k<=xs.length/\r=fbY p k (xs.drop k)) (fun _ i=>xs.length-(intOf i).toNat)
  case atStart=>exact⟨0,rfl,f6J,V F⟩
  case round =>
   obtain⟨k,rfl,G,u⟩:=hrel;by_cases H:k<xs.length
   ·have y:=V C k H;have S:=(V l).i32at k;have E:=O (V A (xs.getD k 0) w S)
    cases hok:p (xs.getD k 0)with
    | true =>
     have Y:=z5v H u hok;rw[hok]at E;subst Y;clear u hok F;generalize xs.getD k 0=c at *;go_wp2_with(go_at_fn g;refine(V E).mono ?_;rintro e w ⟨rfl,rfl⟩);go_ret;exact⟨rfl,rfl⟩
    | false =>
     have a:=O (z1Q H u hok);rw[hok]at E;generalize xs.getD k 0=c at *;go_wp2_with(go_at_fn g;refine(V E).mono ?_;rintro e w ⟨rfl,rfl⟩);go_round
     case rel=>exact⟨k+1,g2A,f6J,V a⟩
     case measure=>exact g7T
   ·have Y:=y8f f6J u;subst Y;exact t6x
theorem y5m:∀args w,(callFunc 59 args).run prog w=.ok (.enter 59 args) w:=f0h
theorem x2n v xs w(N:Sk .i32 w v xs) :
  Calls prog 32 #[v] w fun e w'=>e=.returned (.int .i64 (fbY (fun c=>!okb c) 0 xs))/\w'=w:=by
 have H:=O (x3F (fun c=>!okb c) 59 x9R y5m v xs w N);go_enter func32,ntmps32;go_wp2_with fail;refine(V H).mono ?_;rintro e w ⟨rfl,rfl⟩;go_wp2;go_ret;exact⟨rfl,rfl⟩
def z7h:Prop:=∀(v:Value) (xs:List Int) (w:World),Sk .i32 w v xs->Calls prog 106 #[v] w (x2S w (allb ascb xs))
theorem y4E c w(h:-2147483648<=c/\c<=2147483647) :
  Calls prog 155 #[.int .i32 c] w fun e w'=>e=.returned (.bool (!ascb c))/\w'=w:=by
 by_cases Z:c<0
 ·exact E7V
 ·by_cases D:c>127
  ·exact E7V
  ·have G:(!ascb c)=false:=(by simp[ascb];exact f6J);rw[G];go_enter func155,ntmps155;exact t6v
theorem y5g:∀args w,(callFunc 155 args).run prog w=.ok (.enter 155 args) w:=f0h
theorem x5A v xs w(N:Sk .i32 w v xs) :
  Calls prog 108 #[v,.func (.func 155) #[] #[]] w fun e w'=>e=.returned (.bool (!allb ascb xs))/\w'=w:=by
 have H:=O (x3F (fun c=>!ascb c) 155 y4E y5g v xs w N)
 have m:(!allb ascb xs)=decide (0<=fbY (fun c=>!ascb c) 0 xs):=by
  have h:=y8e (fun c=>!ascb c) 0 xs;have e:allb ascb xs=decide (fbY (fun c=>!ascb c) 0 xs<0):=(by rw[h];simp[allb]);rw[e,<- decide_not];congr 1;apply propext;omega
 rw[m];go_enter func108,ntmps108;go_wp2_with fail;refine(V H).mono ?_;rintro e w ⟨rfl,rfl⟩;go_wp2;go_ret;exact⟨rfl,rfl⟩
theorem z3D:z7h:=by
 intro v L w N;have H:=O (x5A v L w N);have m:allb ascb L=!!allb ascb L:=M7K;rw[m];generalize(!allb ascb L)=r at *;go_enter func106,ntmps106;go_wp2_with fail;refine(V H).mono ?_;rintro e w ⟨rfl,rfl⟩;exact T8v
theorem z5K:(prog.info? 5).map (fun i=>(i.zero,i.size,i.bytes))=some (some (.int .u8 0),1,1):=f4x
def rl(c:Int):Int:=if Utf.okc c then((Utf.form c).length:Int)else -1
theorem rl_cases c:(c<0/\rl c=-1)\/((0<=c/\c<=127)/\rl c=1)\/((128<=c/\c<=2047)/\rl c=2)\/((2048<=c/\c<55296)/\rl c=3)\/((55296<=c/\c<=57343)/\rl c=-1)\/((57343<c/\c<=65535)/\rl c=3)\/((65535<c/\c<=1114111)/\rl c=4)\/(1114111<c/\rl c=-1):=by
 have X:∀h:¬Utf.okc c,rl c=-1:=fun h=>(by unfold rl;rw[if_neg h]);have B:∀h:Utf.okc c,rl c=((Utf.form c).length:Int):=fun h=>(by unfold rl;rw[if_pos h]);by_cases A:c<0
 ·exact .inl ⟨A,X M1d⟩
 ·by_cases Z:c<=127
  ·exact .inr (.inl ⟨⟨f6J,Z⟩,by rw[B M1d];unfold Utf.form;rw[if_pos f6J];rfl⟩)
  ·by_cases D:c<=2047
   ·exact .inr (.inr (.inl ⟨⟨f6J,D⟩,by rw[B M1d];unfold Utf.form;rw[if_neg f6J,if_pos f6J];rfl⟩))
   ·by_cases R:c<55296
    ·exact .inr (.inr (.inr (.inl ⟨⟨f6J,R⟩,w4z⟩)))
    ·by_cases H:c<=57343
     ·exact .inr (.inr (.inr (.inr (.inl ⟨⟨f6J,H⟩,X M1d⟩))))
     ·by_cases p:c<=65535
      ·exact .inr (.inr (.inr (.inr (.inr (.inl ⟨⟨f6J,p⟩,w4z⟩)))))
      ·by_cases F:c<=1114111
       ·exact .inr (.inr (.inr (.inr (.inr (.inr (.inl ⟨⟨f6J,F⟩,by rw[B M1d];unfold Utf.form;rw[if_neg f6J,if_neg f6J,if_neg f6J];rfl⟩))))))
       ·omega
theorem y2U c w(h:-2147483648<=c/\c<=2147483647) :
  Calls prog 61 #[.int .i32 c] w fun e w'=>e=.returned (.int .i64 (rl c))/\w'=w:=by
 rcases rl_cases c with⟨h,e⟩|⟨⟨h,D⟩,e⟩|⟨⟨h,D⟩,e⟩|⟨⟨h,D⟩,e⟩|⟨⟨h,D⟩,e⟩|⟨⟨h,D⟩,e⟩|⟨⟨h,D⟩,e⟩|⟨h,e⟩
 all_goals
  rw[e];clear e;go_enter func61,ntmps61;go_wp2;go_ret;exact⟨rfl,rfl⟩
theorem y0n{xs ys:List Int}{k r}(G:k<xs.length)(h:r=Utf.glue ys (Utf.encA k (xs.drop k)))(I:Utf.okc (xs.getD k 0)) :
  r=Utf.glue (ys++Utf.form (xs.getD k 0)) (Utf.encA (k+1) (xs.drop (k+1))):=by
 rw[h,x0R G];simp only[Utf.encA,if_pos I,Utf.y0B]
theorem y7R{xs ys:List Int}{k r}(G:k<xs.length)(h:r=Utf.glue ys (Utf.encA k (xs.drop k)))(I:¬Utf.okc (xs.getD k 0)) :
  r=([],(k:Int),31):=by
 rw[h,x0R G];simp only[Utf.encA,if_neg I];simp[Utf.glue]
theorem x5T{xs ys:List Int}{k r}(G:k=xs.length)(h:r=Utf.glue ys (Utf.encA k (xs.drop k))):r=(ys,0,0):=by
 subst G;rw[h,List.drop_length];simp[Utf.encA,Utf.glue]
theorem x7Z xs:Utf.encA 0 xs=Utf.glue [] (Utf.encA 0 (xs.drop 0)):=by
 rw[List.drop_zero,Utf.y3N]
 ·intro h;rcases Utf.enc_shape 0 xs with Z|⟨q,Z,_⟩
  ·exact Z.2
  ·rw[Z]at h;simp at h
 ·intro h;rcases Utf.enc_shape 0 xs with Z|⟨q,Z,_⟩
  ·exact absurd Z.1 h
  ·rw[Z]
theorem y0e v xs w(N:Sk .i32 w v xs)(T:xs.length<=35184372087808) :
  Calls prog 33 #[v] w fun e w'=>e=.returned (.int .i64 (cnt (Utf.encA 0 xs)))/\w'=w:=by
 have Q:=x7Z xs;rcases Nat.eq_zero_or_pos xs.length with h0|h0
 ·have m:=x5T h0.symm Q;rw[m];obtain⟨R,M,rfl,_,_⟩:=N.shape;have I:cnt ([],0,0)=0:=rfl;rw[h0,I];go_enter func33,ntmps33;go_wp2;refine wp_loop_rounds 1 ?_;rw[rounds_succ];exact t6z
 ·have l:=O N.1;obtain⟨b,P,M,rfl,o,q,I⟩:=N.place h0;have C:=O I;have F:=O Q;clear N I Q;generalize Utf.encA 0 xs=r at *;go_enter func33,ntmps33;go_wp2;go_loop [3,9] (fun A i=>∃(k:Nat) (ys:List Int),i=.int .i64 k/\k<=xs.length/\A=.int .i64 (ys.length:Int)/\ys.length<=4*k/\r=Utf.glue ys (Utf.encA k (xs.drop k))) (fun _ i=>xs.length-(intOf i).toNat)
  case atStart=>exact⟨0,[],rfl,f6J,rfl,M7L,V F⟩
  case round =>
   obtain⟨k,ys,rfl,G,rfl,s,u⟩:=hrel;by_cases H:k<xs.length
   ·have y:=V C k H;have S:=(V l).i32at k;have K:=O (y2U (xs.getD k 0) w S);by_cases X:Utf.okc (xs.getD k 0)
    ·have a:=O (y0n H u X);have U:rl (xs.getD k 0)=((Utf.form (xs.getD k 0)).length:Int):=if_pos X;rw[U]at K;have L:=Utf.x4j (xs.getD k 0);have W:(ys++Utf.form (xs.getD k 0)).length=ys.length+(Utf.form (xs.getD k 0)).length:=List.length_append;have E:=O W;generalize hys:ys++Utf.form (xs.getD k 0)=D at *;generalize xs.getD k 0=c at *;go_wp2_with fail;refine(V K).mono ?_;rintro e w ⟨rfl,rfl⟩;go_wp2;go_round
     case rel=>exact⟨k+1,D,g2A,f6J,by rw[V E];exact g2A,by rw[V E];exact f6J,V a⟩
     case measure=>exact g7V
    ·have m:=y7R H u X;have U:rl (xs.getD k 0)=-1:=if_neg X;rw[U]at K;have I:cnt r=-1:=(by rw[m];rfl);have B:=O I;generalize xs.getD k 0=c at *;go_wp2_with fail;refine(V K).mono ?_;rintro e w ⟨rfl,rfl⟩;exact t1T
   ·have m:=x5T (f6J:k=xs.length) u;have I:cnt r=(ys.length:Int):=(by rw[m];rfl);have B:=O I;clear u m I;exact t1T
theorem x2X(w:World)(us:List Value) t:∀(j:Nat) (u:Value),us[j]?=some u->(w.alloc (.cells us.toArray t)).cell? ((⟨w.heap.size,0,none⟩:Addr).add j)=some u:=by
 intro j u K;rw[addr_add];simp[K]
def x2T(w:World)(B:Nat)(zs:List Int)(e:Ending)(w':World):Prop:=∃v,e=.returned v/\Ok .u8 5 w' B v zs/\Below B w w'
theorem x2T.mk{w w2 B n v v' ys fs r}{us o}(hr:r=fs)(l:B<=w.heap.size)(y:Ok .u8 5 w B v ys)(X:Utf.Byt r)(S:ys.length+r.length<=140737488355328)(E:n=ys.length+fs.length)(W:us=ys.map (Value.int .u8)++fs.map (Value.int .u8))
  (h:w2.ownsRow B 5 1 v' n us) (C:(w.alloc o).grownBy w2 v.ownBlock):x2T w B (ys++r) (.returned v') w2:=by
 subst hr;exact⟨v',rfl,Ok.of (y.1.app (x1i X)) (by rw[List.length_append];exact S) h (by rw[List.length_append];exact E) (by rw[List.map_append];exact W),x0p l y.row (b0r) C⟩
theorem x8F v ys c B w(y:Ok .u8 5 w B v ys)(l:B<=w.heap.size)(I:Utf.okc c)(A:128<=c)(S:ys.length+(Utf.form c).length<=140737488355328) :
  Calls prog 62 #[v,.int .i32 c] w (x2T w B (ys++Utf.form c)):=by
 obtain⟨i,hi,f,p,t⟩:=info_parts z5K;have K:=Utf.x8U I;unfold Utf.okc at I;by_cases Z:c<=2047
 ·have g:Utf.form c=[192+c / 64,128+c%64]:=(by unfold Utf.form;rw[if_neg f6J,if_pos f6J]);have G:=fun n us v' w2 o=>x2T.mk (w:=w) (w2:=w2) (B:=B) (n:=n) (v:=v) (v':=v') (us:=us) (o:=o) g l y K S;rw[g]at S;simp only[List.length_cons,List.length_nil]at S;go_enter func62,ntmps62;go_wp2_with(at_builtin;refine wpList_append_own _ rfl (.tmp 14) (.tmp 23) 76 rfl B 5 i (.int .u8 0) 1 1 underlying76 hi f p t rfl e8P _ _ _ rfl (y.row.alloc _) ⟨w.heap.size,0,none⟩ 2 2 [.int .u8 (192+c / 64),.int .u8 (128+c%64)] rfl rfl (x2X w [.int .u8 (192+c / 64),.int .u8 (128+c%64)] 5) (x0S .u8 [192+c / 64,128+c%64]) T7X f6J P8P ?_);intro J D x C _;have T:=G _ _ _ _ _ rfl rfl x C;go_wp2;go_ret;exact T
 ·by_cases M:c<=65535
  ·have g:Utf.form c=[224+c / 4096,128+c / 64%64,128+c%64]:=(by unfold Utf.form;rw[if_neg f6J,if_neg f6J,if_pos f6J]);have G:=fun n us v' w2 o=>x2T.mk (w:=w) (w2:=w2) (B:=B) (n:=n) (v:=v) (v':=v') (us:=us) (o:=o) g l y K S;rw[g]at S;simp only[List.length_cons,List.length_nil]at S;rcases I with⟨L,F⟩|⟨L,F⟩
   ·have H:c<55296:=f6J;exact r1O
   ·have q:57343<c:=f6J;exact r1O
  ·have g:Utf.form c=[240+c / 262144,128+c / 4096%64,128+c / 64%64,128+c%64]:=(by unfold Utf.form;rw[if_neg f6J,if_neg f6J,if_neg f6J]);have G:=fun n us v' w2 o=>x2T.mk (w:=w) (w2:=w2) (B:=B) (n:=n) (v:=v) (v':=v') (us:=us) (o:=o) g l y K S;rw[g]at S;have H:c<=1114111:=f6J;have q:65535<c:=f6J;simp only[List.length_cons,List.length_nil]at S;go_enter func62,ntmps62;go_wp2_with(at_builtin;refine wpList_append_own _ rfl (.tmp 57) (.tmp 76) 76 rfl B 5 i (.int .u8 0) 1 1 underlying76 hi f p t rfl e8P _ _ _ rfl (y.row.alloc _) ⟨w.heap.size,0,none⟩ 4 4 [.int .u8 (240+c / 262144),.int .u8 (128+c / 4096%64),.int .u8 (128+c / 64%64),.int .u8 (128+c%64)] rfl rfl (x2X w [.int .u8 (240+c / 262144),.int .u8 (128+c / 4096%64),.int .u8 (128+c / 64%64),.int .u8 (128+c%64)] 5) (x0S .u8 [240+c / 262144,128+c / 4096%64,128+c / 64%64,128+c%64]) T7X f6J P8P ?_);intro J D x C _;have T:=G _ _ _ _ _ rfl rfl x C;go_wp2;go_ret;exact T
theorem x7w v ys c B w(y:Ok .u8 5 w B v ys)(l:B<=w.heap.size)(I:Utf.okc c)(S:ys.length+(Utf.form c).length<=140737488355328) :
  Calls prog 34 #[v,.int .i32 c] w (x2T w B (ys++Utf.form c)):=by
 obtain⟨i,hi,f,p,t⟩:=info_parts z5K;by_cases Z:c<=127
 ·have K:=Utf.x8U I;have A:0<=c:=f6J;have g:Utf.form c=[c]:=(by unfold Utf.form;rw[if_pos f6J]);have G:=fun n us v' w2 o=>x2T.mk (w:=w) (w2:=w2) (B:=B) (n:=n) (v:=v) (v':=v') (us:=us) (o:=o) g l y K S;rw[g]at S;simp only[List.length_cons,List.length_nil]at S;go_enter func34,ntmps34;go_wp2_with(at_builtin;refine wpList_append_own _ rfl (.tmp 8) (.tmp 11) 76 rfl B 5 i (.int .u8 0) 1 1 underlying76 hi f p t rfl e8P _ _ _ rfl (y.row.alloc _) ⟨w.heap.size,0,none⟩ 1 1 [.int .u8 c] rfl rfl (x2X w [.int .u8 c] 5) (x0S .u8 [c]) T7X f6J P8P ?_);intro J D x C _;have T:=G _ _ _ _ _ rfl rfl x C;go_wp2;go_ret;exact T
 ·have H:=O (x8F v ys c B w y l I f6J S);have m:128<=c/\c<=1114111:=f6J;obtain⟨m,M⟩:=m;go_enter func34,ntmps34;go_wp2_with fail;refine(V H).mono ?_;rintro e Q ⟨X,rfl,L,E⟩;go_wp2;go_ret;exact⟨_,rfl,L,E⟩
theorem y5a w ad c:(convert 76 9 (.slice (some ad) 0 c)).run prog w=.ok (.string (strOfNums [])) w:=M2E
theorem Sk.conv8{w v zs}(h:Sk .u8 w v zs):(convert 76 9 v).run prog w=.ok (.string (strOfNums zs)) w:=by
 rcases Nat.eq_zero_or_pos zs.length with h0|h0
 ·obtain rfl:=List.eq_nil_of_length_eq_zero h0;obtain⟨R,M,rfl,_,_⟩:=h.shape
  cases R with
  | none=>exact U0I
  | some ad=>exact y5a w ad M
 ·exact u7x
theorem fb_enc i xs:(fbY (fun c=>!okb c) i xs=-1/\(Utf.encA i xs).2.2=0/\∀c∈xs,Utf.okc c)\/∃q:Nat,fbY (fun c=>!okb c) i xs=(q:Int)/\Utf.encA i xs=([],(q:Int),31)/\q<i+xs.length:=by
 induction xs generalizing i with
 | nil=>exact .inl ⟨rfl,rfl,fun c I=>by cases I⟩
 | cons c r ih =>
  by_cases I:Utf.okc c
  ·have Y:(!okb c)=false:=(by simp[okb,I]);have P:fbY (fun c=>!okb c) i (c::r)=fbY (fun c=>!okb c) (i+1) r:=(by simp[fbY,Y]);have f:Utf.encA i (c::r)=Utf.glue (Utf.form c) (Utf.encA (i+1) r):=(by simp[Utf.encA,I]);rw[P,f];rcases ih (i+1)with⟨Z,D,R⟩|⟨q,Z,D,R⟩
   ·refine .inl ⟨Z,by simp[Utf.glue,D],fun d hd=>?_⟩;rcases List.mem_cons.1 hd with rfl|hd
    ·exact I
    ·exact R d hd
   ·exact .inr ⟨q,Z,by rw[D];simp[Utf.glue],P8P⟩
  ·have Y:(!okb c)=true:=(by simp[okb,I]);exact .inr ⟨i,by simp[fbY,Y],by simp[Utf.encA,I],M7M⟩
theorem z4C{xs:List Int}(h:∀c∈xs,Utf.okc c){k}(G:k<xs.length):Utf.okc (xs.getD k 0):=f0h
theorem encC:EncC:=by
 intro v xs w hv S;obtain⟨i0,hi,f,p,t⟩:=info_parts z5K;have N:=O (x2n v xs w hv);rcases fb_enc 0 xs with⟨hf,h2,z⟩|⟨q,hf,d,m⟩
 ·have HB:=O (y0e v xs w hv S);have K:cnt (Utf.encA 0 xs)=((Utf.encA 0 xs).1.length:Int):=(by unfold cnt;rw[if_pos h2]);rw[K]at HB;rw[hf]at N;have aq:=Utf.y2c 0 xs;have Q:=x7Z xs
  have E:∀(ys:List Int) (k:Nat),k<xs.length->Utf.encA 0 xs=Utf.glue ys (Utf.encA k (xs.drop k))->ys.length<=4*k->ys.length+(Utf.form (xs.getD k 0)).length<=140737488355328:=by
   intro ys k G _ U;have:=Utf.x4j (xs.getD k 0);omega
  have n:=O E;obtain⟨wm,j,x,I⟩:=run_make_own (P:=prog) w w.heap.size 76 5 i0 (.int .u8 0) 1 underlying76 hi f p .i64 .i64 (Utf.encA 0 xs).1.length (by rw[t];exact f6J) T7W (l0r _);have B:Bw w wm:=(Below.refl _ w).grown I (l0r _) (fun k G=>g6z);have ab:Ok .u8 5 wm w.heap.size (.slice (some ⟨w.heap.size,0,none⟩) 0 (Utf.encA 0 xs).1.length) []:=Ok.of (Fit.nil _) M7O x rfl rfl;generalize(Utf.encA 0 xs).1.length=L at *;rcases Nat.eq_zero_or_pos xs.length with h0|h0
  ·have T:=x2y.mk (w:=w) (w':=wm) (x5T h0.symm Q) B;have J:=ab.sk.conv8;obtain⟨R,M,rfl,_,_⟩:=hv.shape;rw[h0]at N HB ⊢;generalize Utf.encA 0 xs=r at *;go_enter func17,ntmps17;go_wp2_with fail;refine(V N).mono ?_;rintro e w ⟨rfl,rfl⟩;go_wp2_with fail;refine(V HB).mono ?_;rintro e w ⟨rfl,rfl⟩;go_wp2;refine wp_loop_rounds 1 ?_;rw[rounds_succ];exact i5F
  ·have l:=O hv.1;obtain⟨b,ai,M,rfl,o,am,hc⟩:=hv.place h0
   have HC:Hid (∀W,Bw w W->∀i,i<xs.length->W.cell? ⟨b,ai+i,none⟩=some (.int .i32 (xs.getD i 0))):=by
    intro W Y i hi;rw[Y.cell (x0a (hc i hi))];exact hc i hi
   have F:=O Q;have g:=O z;generalize Utf.encA 0 xs=r at *;go_enter func17,ntmps17;go_wp2_with fail;refine(V N).mono ?_;rintro e w ⟨rfl,rfl⟩;go_wp2_with fail;refine(V HB).mono ?_;rintro e w ⟨rfl,rfl⟩;go_wp2;go_loopw[6,19] (fun vb i wr=>∃(k:Nat) (ys:List Int),i=.int .i64 k/\k<=xs.length/\Ok .u8 5 wr w.heap.size vb ys/\ys.length<=4*k/\Bw w wr/\r=Utf.glue ys (Utf.encA k (xs.drop k))) (fun _ i _=>xs.length-(intOf i).toNat)
   case atStart=>exact⟨0,[],rfl,f6J,ab,M7O,B,V F⟩
   case round =>
    obtain⟨k,ys,rfl,G,X,ag,A,u⟩:=hrel;by_cases H:k<xs.length
    ·have y:=V HC wr A k H;have ar:=(V l).i32at k;have C:=z4C (V g) H;have af:=A.size;have HP:=O (x7w _ ys (xs.getD k 0) w.heap.size wr X af C (V n ys k H u ag));have a:=O (y0n H u C);have hf:=Utf.x4j (xs.getD k 0);have Z:(ys++Utf.form (xs.getD k 0)).length<=4*(k+1):=(by grind);generalize ys++Utf.form (xs.getD k 0)=D at *;generalize xs.getD k 0=c at *;go_wp2_with fail;refine(V HP).mono ?_;rintro e w2 ⟨v2,rfl,aj,ae⟩;have s:Bw w w2:=A.trans ae;go_wp2
     go_roundw
     case rel=>exact⟨k+1,D,g2A,f6J,aj,Z,s,V a⟩
     case measure=>exact g7V
    ·have T:=x2y.mk (w:=w) (w':=wr) (x5T (f6J:k=xs.length) u) A;have J:=X.sk.conv8;exact i5F
 ·have T:=x2y.no (w:=w) (w':=w) d (b0r);rw[hf]at N;go_enter func17,ntmps17;go_wp2_with fail;refine(V N).mono ?_;rintro e w ⟨rfl,rfl⟩;exact i5F
