/- Lemmas. -/
import Derived.Test.YtkfcabdmkmljjaaGreatDoorF38
import Derived.Shelf.Abstract
import Derived.Lib.Walk
import Derived.Laws.MakeOwn
set_option maxHeartbeats 4000000
set_option maxRecDepth 20000
namespace Go.Proofs.YtkfcabdmkmljjaaGreatDoor
open Go.Proofs.Tryz
open Go.RowKit
section
variable{p:Prop}
theorem e6M(h:p:=by rw[run_convert_bytes_string w 181 9 5 _ 0 c underlying181 underlying5 underlying9,run_bytesToString w ad 0 c [] (run_loadCells_list (P:=prog) w ad [] (fun j v R=>by simp at R))];rfl):p:=h
theorem P0D(h:p:=by obtain⟨b,P,M,rfl,S,o,I⟩:=h.place h0;exact run_convert_bytes_arg w 181 5 underlying181 underlying5 b P zs.length M zs rfl I 9 underlying9):p:=h
theorem M1d(h:p:=by unfold Utf.okc;exact f6J):p:=h
theorem t3I(h:p:=by rw[List.length_nil,run_convert_bytes_nil w 181 5 underlying181 underlying5 0 M 9 underlying9];rfl):p:=h
theorem v6Y(h:p:=by rw[A M1d];unfold Utf.form;rw[if_neg f6J,if_neg f6J,if_pos f6J];rfl):p:=h
theorem w7A(h:p:=by have G:(!ascb c)=true:=(by simp[ascb];exact f6J);rw[G];go_enter func37,ntmps37;exact t6v):p:=h
theorem M1e(h:p:=by unfold Utf.okc;exact f6J):p:=h
theorem G3E(h:p:=by go_enter func157,ntmps157;go_wp2_with(at_builtin;refine wpList_append_own _ rfl (.tmp 34) (.tmp 48) 181 rfl B 5 i (.int .u8 0) 1 1 underlying181 hi q Y U rfl e8P _ _ _ rfl (R.row.alloc _) ⟨w.heap.size,0,none⟩ 3 3 [.int .u8 (224+c / 4096),.int .u8 (128+c / 64%64),.int .u8 (128+c%64)] rfl rfl (x2J w [.int .u8 (224+c / 4096),.int .u8 (128+c / 64%64),.int .u8 (128+c%64)] 5) (x0T .u8 [224+c / 4096,128+c / 64%64,128+c%64]) T7X f6J P8P ?_);intro C W s p _;have T:=l _ _ _ _ _ rfl rfl s p;go_wp2;go_ret;exact T):p:=h
theorem t6M(h:p:=by go_wp2;go_ret;exact⟨congrArg (fun z=>Ending.returned (Value.int .i64 z)) (V A).symm,rfl⟩):p:=h
theorem g7R(h:p:=by have G:okb c=false:=d0f M1e;exact w6e):p:=h
theorem i5C(h:p:=by go_wp2;go_ret3;exact T):p:=h
end
theorem x8a c w(h:-2147483648<=c/\c<=2147483647) :
  Calls prog 108 #[.int .i32 c] w fun e w'=>e=.returned (.bool (okb c))/\w'=w:=by
 by_cases Z:0<=c
 ·by_cases D:c<55296
  ·have G:okb c=true:=d0t M1e;exact w6e
  ·by_cases J:57343<c
   ·by_cases F:c<=1114111
    ·have G:okb c=true:=d0t M1e;exact w6e
    ·exact g7R
   ·exact g7R
 ·exact g7R
theorem x8O c w(h:-2147483648<=c/\c<=2147483647) :
  Calls prog 62 #[.int .i32 c] w fun e w'=>e=.returned (.bool (okb c))/\w'=w:=by
 have H:=O (x8a c w h);go_enter func62,ntmps62;go_wp2_with fail;refine(V H).mono ?_;rintro e w ⟨rfl,rfl⟩;go_wp2;go_ret;exact⟨rfl,rfl⟩
theorem y0f c w(h:-2147483648<=c/\c<=2147483647) :
  Calls prog 156 #[.int .i32 c] w fun e w'=>e=.returned (.bool (!okb c))/\w'=w:=by
 have H:=O (x8O c w h);go_enter func156,ntmps156;go_wp2_with fail;refine(V H).mono ?_;rintro e w ⟨rfl,rfl⟩;go_wp2;go_ret;exact⟨rfl,rfl⟩
def fbY(p:Int->Bool):Nat->List Int->Int
 | _,[]=>-1
 | i,c::r=>if p c then(i:Int)else fbY p (i+1) r
theorem z6E{p:Int->Bool}{xs:List Int}{k r}(G:k<xs.length)(h:r=fbY p k (xs.drop k))(s:p (xs.getD k 0)=true):r=(k:Int):=by
 rw[h,x0t G,fbY,if_pos s]
theorem z2M{p:Int->Bool}{xs:List Int}{k r}(G:k<xs.length)(h:r=fbY p k (xs.drop k))(s:p (xs.getD k 0)=false):r=fbY p (k+1) (xs.drop (k+1)):=by
 rw[h,x0t G,fbY,s];rfl
theorem y8G{p:Int->Bool}{xs:List Int}{k r}(G:xs.length<=k)(h:r=fbY p k (xs.drop k)):r=-1:=by
 rw[h,List.drop_eq_nil_of_le G,fbY]
theorem y8F(p:Int->Bool) i xs:decide (fbY p i xs<0)=xs.all (fun c=>!p c):=by
 induction xs generalizing i with
 | nil=>rfl
 | cons c r ih =>
  simp only[fbY,List.all_cons];exact e4k
theorem x3s(p:Int->Bool)(g:Nat)(s:∀x w,(-2147483648<=x/\x<=2147483647)->Calls prog g #[.int .i32 x] w fun e w'=>e=.returned (.bool (p x))/\w'=w)(D:∀args w,(callFunc g args).run prog w=.ok (.enter g args) w)
  v xs w (N:Sk .i32 w v xs) :
  Calls prog 66 #[v,.func (.func g) #[] #[]] w fun e w'=>e=.returned (.int .i64 (fbY p 0 xs))/\w'=w:=by
 have o:=N.len;have j:fbY p 0 xs=fbY p 0 (xs.drop 0):=s4S;rcases Nat.eq_zero_or_pos xs.length with h0 | h0
 ·have d:=y8G f6J j;exact f6u
 ·have K:=O N.1;obtain⟨b,P,M,rfl,z,t,I⟩:=N.place h0;have H:=O I;have Q:=O j;have Z:=O s;clear N I j s;generalize d:fbY p 0 xs=r at *;go_enter func66,ntmps66;go_wp2;go_loop [5,8] (fun _ i=>∃k:Nat,i=.int .i64 k/\k<=xs.length/\r=fbY p k (xs.drop k)) (fun _ i=>xs.length-(intOf i).toNat)
  case atStart=>exact⟨0,rfl,f6J,V Q⟩
  case round =>
   obtain⟨k,rfl,G,X⟩:=hrel;by_cases E:k<xs.length
   ·have y:=V H k E;have T:=(V K).i32at k;have R:=O (V Z (xs.getD k 0) w T)
    cases hok:p (xs.getD k 0)with
    | true =>
     have Y:=z6E E X hok;rw[hok]at R;subst Y;clear X hok Q;generalize xs.getD k 0=c at *;go_wp2_with(go_at_fn g;refine(V R).mono ?_;rintro e w ⟨rfl,rfl⟩);go_ret;exact⟨rfl,rfl⟩
    | false =>
     have a:=O (z2M E X hok);rw[hok]at R;generalize xs.getD k 0=c at *;go_wp2_with(go_at_fn g;refine(V R).mono ?_;rintro e w ⟨rfl,rfl⟩);go_round
     case rel=>exact⟨k+1,g2A,f6J,V a⟩
     case measure=>exact g7T
   ·have Y:=y8G f6J X;subst Y;exact t6x
theorem y5C:∀args w,(callFunc 156 args).run prog w=.ok (.enter 156 args) w:=f0h
theorem x2b v xs w(N:Sk .i32 w v xs) :
  Calls prog 104 #[v] w fun e w'=>e=.returned (.int .i64 (fbY (fun c=>!okb c) 0 xs))/\w'=w:=by
 have H:=O (x3s (fun c=>!okb c) 156 y0f y5C v xs w N);go_enter func104,ntmps104;go_wp2_with fail;refine(V H).mono ?_;rintro e w ⟨rfl,rfl⟩;go_wp2;go_ret;exact⟨rfl,rfl⟩
def z8E:Prop:=∀(v:Value) (xs:List Int) (w:World),Sk .i32 w v xs->Calls prog 15 #[v] w (y4Q w (allb ascb xs))
theorem y4V c w(h:-2147483648<=c/\c<=2147483647) :
  Calls prog 37 #[.int .i32 c] w fun e w'=>e=.returned (.bool (!ascb c))/\w'=w:=by
 by_cases Z:c<0
 ·exact w7A
 ·by_cases D:c>127
  ·exact w7A
  ·have G:(!ascb c)=false:=(by simp[ascb];exact f6J);rw[G];go_enter func37,ntmps37;exact t6v
theorem y5x:∀args w,(callFunc 37 args).run prog w=.ok (.enter 37 args) w:=f0h
theorem x5D v xs w(N:Sk .i32 w v xs) :
  Calls prog 36 #[v,.func (.func 37) #[] #[]] w fun e w'=>e=.returned (.bool (!allb ascb xs))/\w'=w:=by
 have H:=O (x3s (fun c=>!ascb c) 37 y4V y5x v xs w N)
 have d:(!allb ascb xs)=decide (0<=fbY (fun c=>!ascb c) 0 xs):=by
  have h:=y8F (fun c=>!ascb c) 0 xs;have e:allb ascb xs=decide (fbY (fun c=>!ascb c) 0 xs<0):=(by rw[h];simp[allb]);rw[e,<- decide_not];congr 1;apply propext;omega
 rw[d];go_enter func36,ntmps36;go_wp2_with fail;refine(V H).mono ?_;rintro e w ⟨rfl,rfl⟩;go_wp2;go_ret;exact⟨rfl,rfl⟩
theorem z4O:z8E:=by
 intro v D w N;have H:=O (x5D v D w N);have d:allb ascb D=!!allb ascb D:=M7K;rw[d];generalize(!allb ascb D)=r at *;go_enter func15,ntmps15;go_wp2_with fail;refine(V H).mono ?_;rintro e w ⟨rfl,rfl⟩;exact T8u
theorem z6V:(prog.info? 5).map (fun i=>(i.zero,i.size,i.bytes))=some (some (.int .u8 0),1,1):=f4x
def rl(c:Int):Int:=if Utf.okc c then((Utf.form c).length:Int)else -1
theorem rl_cases c:(c<0/\rl c=-1)\/((0<=c/\c<=127)/\rl c=1)\/((128<=c/\c<=2047)/\rl c=2)\/((2048<=c/\c<55296)/\rl c=3)\/((55296<=c/\c<=57343)/\rl c=-1)\/((57343<c/\c<=65535)/\rl c=3)\/((65535<c/\c<=1114111)/\rl c=4)\/(1114111<c/\rl c=-1):=by
 have X:∀h:¬Utf.okc c,rl c=-1:=fun h=>(by unfold rl;rw[if_neg h]);have A:∀h:Utf.okc c,rl c=((Utf.form c).length:Int):=fun h=>(by unfold rl;rw[if_pos h]);by_cases U:c<0
 ·exact .inl ⟨U,X M1d⟩
 ·by_cases Z:c<=127
  ·exact .inr (.inl ⟨⟨f6J,Z⟩,by rw[A M1d];unfold Utf.form;rw[if_pos f6J];rfl⟩)
  ·by_cases D:c<=2047
   ·exact .inr (.inr (.inl ⟨⟨f6J,D⟩,by rw[A M1d];unfold Utf.form;rw[if_neg f6J,if_pos f6J];rfl⟩))
   ·by_cases J:c<55296
    ·exact .inr (.inr (.inr (.inl ⟨⟨f6J,J⟩,v6Y⟩)))
    ·by_cases F:c<=57343
     ·exact .inr (.inr (.inr (.inr (.inl ⟨⟨f6J,F⟩,X M1d⟩))))
     ·by_cases E:c<=65535
      ·exact .inr (.inr (.inr (.inr (.inr (.inl ⟨⟨f6J,E⟩,v6Y⟩)))))
      ·by_cases q:c<=1114111
       ·exact .inr (.inr (.inr (.inr (.inr (.inr (.inl ⟨⟨f6J,q⟩,by rw[A M1d];unfold Utf.form;rw[if_neg f6J,if_neg f6J,if_neg f6J];rfl⟩))))))
       ·omega
theorem y3j c w(h:-2147483648<=c/\c<=2147483647) :
  Calls prog 70 #[.int .i32 c] w fun e w'=>e=.returned (.int .i64 (rl c))/\w'=w:=by
 rcases rl_cases c with⟨h,e⟩ | ⟨⟨h,D⟩,e⟩ | ⟨⟨h,D⟩,e⟩ | ⟨⟨h,D⟩,e⟩ | ⟨⟨h,D⟩,e⟩ | ⟨⟨h,D⟩,e⟩ | ⟨⟨h,D⟩,e⟩ | ⟨h,e⟩
 all_goals
  rw[e];clear e;go_enter func70,ntmps70;go_wp2;go_ret;exact⟨rfl,rfl⟩
theorem y0F{xs ys:List Int}{k r}(G:k<xs.length)(h:r=Utf.glue ys (Utf.encA k (xs.drop k)))(I:Utf.okc (xs.getD k 0)) :
  r=Utf.glue (ys++Utf.form (xs.getD k 0)) (Utf.encA (k+1) (xs.drop (k+1))):=by
 rw[h,x0t G];simp only[Utf.encA,if_pos I,Utf.x6L]
theorem y8s{xs ys:List Int}{k r}(G:k<xs.length)(h:r=Utf.glue ys (Utf.encA k (xs.drop k)))(I:¬Utf.okc (xs.getD k 0)) :
  r=([],(k:Int),31):=by
 rw[h,x0t G];simp only[Utf.encA,if_neg I];simp[Utf.glue]
theorem x5Z{xs ys:List Int}{k r}(G:k=xs.length)(h:r=Utf.glue ys (Utf.encA k (xs.drop k))):r=(ys,0,0):=by
 subst G;rw[h,List.drop_length];simp[Utf.encA,Utf.glue]
theorem x8l xs:Utf.encA 0 xs=Utf.glue [] (Utf.encA 0 (xs.drop 0)):=by
 rw[List.drop_zero,Utf.x9m]
 ·intro h;rcases Utf.enc_shape 0 xs with Z | ⟨q,Z,_⟩
  ·exact Z.2
  ·rw[Z]at h;simp at h
 ·intro h;rcases Utf.enc_shape 0 xs with Z | ⟨q,Z,_⟩
  ·exact absurd Z.1 h
  ·rw[Z]
theorem y0u v xs w(N:Sk .i32 w v xs)(S:xs.length<=35184372087808) :
  Calls prog 41 #[v] w fun e w'=>e=.returned (.int .i64 (cnt (Utf.encA 0 xs)))/\w'=w:=by
 have j:=x8l xs;rcases Nat.eq_zero_or_pos xs.length with h0 | h0
 ·have d:=x5Z h0.symm j;rw[d];obtain⟨J,M,rfl,_,_⟩:=N.shape;have I:cnt ([],0,0)=0:=rfl;rw[h0,I];go_enter func41,ntmps41;go_wp2;refine wp_loop_rounds 1 ?_;rw[rounds_succ];exact t6x
 ·have K:=O N.1;obtain⟨b,P,M,rfl,L,t,I⟩:=N.place h0;have H:=O I;have Q:=O j;clear N I j;generalize Utf.encA 0 xs=r at *;go_enter func41,ntmps41;go_wp2;go_loop [3,9] (fun W i=>∃(k:Nat) (ys:List Int),i=.int .i64 k/\k<=xs.length/\W=.int .i64 (ys.length:Int)/\ys.length<=4*k/\r=Utf.glue ys (Utf.encA k (xs.drop k))) (fun _ i=>xs.length-(intOf i).toNat)
  case atStart=>exact⟨0,[],rfl,f6J,rfl,M7P,V Q⟩
  case round =>
   obtain⟨k,ys,rfl,G,rfl,u,X⟩:=hrel;by_cases E:k<xs.length
   ·have y:=V H k E;have T:=(V K).i32at k;have R:=O (y3j (xs.getD k 0) w T);by_cases o:Utf.okc (xs.getD k 0)
    ·have a:=O (y0F E X o);have F:rl (xs.getD k 0)=((Utf.form (xs.getD k 0)).length:Int):=if_pos o;rw[F]at R;have C:=Utf.x4f (xs.getD k 0);have U:(ys++Utf.form (xs.getD k 0)).length=ys.length+(Utf.form (xs.getD k 0)).length:=List.length_append;have B:=O U;generalize hys:ys++Utf.form (xs.getD k 0)=l at *;generalize xs.getD k 0=c at *;go_wp2_with fail;refine(V R).mono ?_;rintro e w ⟨rfl,rfl⟩;go_wp2;go_round
     case rel=>exact⟨k+1,l,g2A,f6J,by rw[V B];exact g2A,by rw[V B];exact f6J,V a⟩
     case measure=>exact g7T
    ·have d:=y8s E X o;have F:rl (xs.getD k 0)=-1:=if_neg o;rw[F]at R;have I:cnt r=-1:=(by rw[d];rfl);have A:=O I;generalize xs.getD k 0=c at *;go_wp2_with fail;refine(V R).mono ?_;rintro e w ⟨rfl,rfl⟩;exact t6M
   ·have d:=x5Z (f6J:k=xs.length) X;have I:cnt r=(ys.length:Int):=(by rw[d];rfl);have A:=O I;clear X d I;exact t6M
theorem x2J(w:World)(us:List Value) t:∀(j:Nat) (u:Value),us[j]?=some u->(w.alloc (.cells us.toArray t)).cell? ((⟨w.heap.size,0,none⟩:Addr).add j)=some u:=by
 intro j u R;rw[addr_add];simp[R]
def x2E(w:World)(B:Nat)(zs:List Int)(e:Ending)(w':World):Prop:=∃v,e=.returned v/\Ok .u8 5 w' B v zs/\Below B w w'
theorem x2E.mk{w w2 B n v v' ys fs r}{us o}(hr:r=fs)(m:B<=w.heap.size)(R:Ok .u8 5 w B v ys)(C:Utf.Byt r)(S:ys.length+r.length<=140737488355328)(F:n=ys.length+fs.length)(d:us=ys.map (Value.int .u8)++fs.map (Value.int .u8))
  (h:w2.ownsRow B 5 1 v' n us) (H:(w.alloc o).grownBy w2 v.ownBlock):x2E w B (ys++r) (.returned v') w2:=by
 subst hr;exact⟨v',rfl,Ok.of (R.1.app (x1g C)) (by rw[List.length_append];exact S) h (by rw[List.length_append];exact F) (by rw[List.map_append];exact d),x0m m R.row (b0r) H⟩
theorem x8U v ys c B w(R:Ok .u8 5 w B v ys)(m:B<=w.heap.size)(I:Utf.okc c)(A:128<=c)(S:ys.length+(Utf.form c).length<=140737488355328) :
  Calls prog 157 #[v,.int .i32 c] w (x2E w B (ys++Utf.form c)):=by
 obtain⟨i,hi,q,Y,U⟩:=info_parts z6V;have K:=Utf.x9j I;unfold Utf.okc at I;by_cases Z:c<=2047
 ·have L:Utf.form c=[192+c / 64,128+c%64]:=(by unfold Utf.form;rw[if_neg f6J,if_pos f6J]);have l:=fun n us v' w2 o=>x2E.mk (w:=w) (w2:=w2) (B:=B) (n:=n) (v:=v) (v':=v') (us:=us) (o:=o) L m R K S;rw[L]at S;simp only[List.length_cons,List.length_nil]at S;go_enter func157,ntmps157;go_wp2_with(at_builtin;refine wpList_append_own _ rfl (.tmp 14) (.tmp 23) 181 rfl B 5 i (.int .u8 0) 1 1 underlying181 hi q Y U rfl e8P _ _ _ rfl (R.row.alloc _) ⟨w.heap.size,0,none⟩ 2 2 [.int .u8 (192+c / 64),.int .u8 (128+c%64)] rfl rfl (x2J w [.int .u8 (192+c / 64),.int .u8 (128+c%64)] 5) (x0T .u8 [192+c / 64,128+c%64]) T7X f6J P8P ?_);intro C W s p _;have T:=l _ _ _ _ _ rfl rfl s p;go_wp2;go_ret;exact T
 ·by_cases D:c<=65535
  ·have L:Utf.form c=[224+c / 4096,128+c / 64%64,128+c%64]:=(by unfold Utf.form;rw[if_neg f6J,if_neg f6J,if_pos f6J]);have l:=fun n us v' w2 o=>x2E.mk (w:=w) (w2:=w2) (B:=B) (n:=n) (v:=v) (v':=v') (us:=us) (o:=o) L m R K S;rw[L]at S;simp only[List.length_cons,List.length_nil]at S;rcases I with⟨r,z⟩ | ⟨r,z⟩
   ·have E:c<55296:=f6J;exact G3E
   ·have J:57343<c:=f6J;exact G3E
  ·have L:Utf.form c=[240+c / 262144,128+c / 4096%64,128+c / 64%64,128+c%64]:=(by unfold Utf.form;rw[if_neg f6J,if_neg f6J,if_neg f6J]);have l:=fun n us v' w2 o=>x2E.mk (w:=w) (w2:=w2) (B:=B) (n:=n) (v:=v) (v':=v') (us:=us) (o:=o) L m R K S;rw[L]at S;have E:c<=1114111:=f6J;have J:65535<c:=f6J;simp only[List.length_cons,List.length_nil]at S;go_enter func157,ntmps157;go_wp2_with(at_builtin;refine wpList_append_own _ rfl (.tmp 57) (.tmp 76) 181 rfl B 5 i (.int .u8 0) 1 1 underlying181 hi q Y U rfl e8P _ _ _ rfl (R.row.alloc _) ⟨w.heap.size,0,none⟩ 4 4 [.int .u8 (240+c / 262144),.int .u8 (128+c / 4096%64),.int .u8 (128+c / 64%64),.int .u8 (128+c%64)] rfl rfl (x2J w [.int .u8 (240+c / 262144),.int .u8 (128+c / 4096%64),.int .u8 (128+c / 64%64),.int .u8 (128+c%64)] 5) (x0T .u8 [240+c / 262144,128+c / 4096%64,128+c / 64%64,128+c%64]) T7X f6J P8P ?_);intro C W s p _;have T:=l _ _ _ _ _ rfl rfl s p;go_wp2;go_ret;exact T
theorem x7J v ys c B w(R:Ok .u8 5 w B v ys)(m:B<=w.heap.size)(I:Utf.okc c)(S:ys.length+(Utf.form c).length<=140737488355328) :
  Calls prog 105 #[v,.int .i32 c] w (x2E w B (ys++Utf.form c)):=by
 obtain⟨i,hi,q,Y,U⟩:=info_parts z6V;by_cases Z:c<=127
 ·have K:=Utf.x9j I;have D:0<=c:=f6J;have L:Utf.form c=[c]:=(by unfold Utf.form;rw[if_pos f6J]);have l:=fun n us v' w2 o=>x2E.mk (w:=w) (w2:=w2) (B:=B) (n:=n) (v:=v) (v':=v') (us:=us) (o:=o) L m R K S;rw[L]at S;simp only[List.length_cons,List.length_nil]at S;go_enter func105,ntmps105;go_wp2_with(at_builtin;refine wpList_append_own _ rfl (.tmp 8) (.tmp 11) 181 rfl B 5 i (.int .u8 0) 1 1 underlying181 hi q Y U rfl e8P _ _ _ rfl (R.row.alloc _) ⟨w.heap.size,0,none⟩ 1 1 [.int .u8 c] rfl rfl (x2J w [.int .u8 c] 5) (x0T .u8 [c]) T7X f6J P8P ?_);intro C W s p _;have T:=l _ _ _ _ _ rfl rfl s p;go_wp2;go_ret;exact T
 ·have H:=O (x8U v ys c B w R m I f6J S);have N:128<=c/\c<=1114111:=f6J;obtain⟨N,J⟩:=N;go_enter func105,ntmps105;go_wp2_with fail;refine(V H).mono ?_;rintro e Q ⟨b,rfl,M,F⟩;go_wp2;go_ret;exact⟨_,rfl,M,F⟩
theorem y5q w ad c:(convert 181 9 (.slice (some ad) 0 c)).run prog w=.ok (.string (strOfNums [])) w:=e6M
theorem Sk.conv8{w v zs}(h:Sk .u8 w v zs):(convert 181 9 v).run prog w=.ok (.string (strOfNums zs)) w:=by
 rcases Nat.eq_zero_or_pos zs.length with h0 | h0
 ·obtain rfl:=List.eq_nil_of_length_eq_zero h0;obtain⟨J,M,rfl,_,_⟩:=h.shape
  cases J with
  | none=>exact t3I
  | some ad=>exact y5q w ad M
 ·exact P0D
theorem fb_enc i xs:(fbY (fun c=>!okb c) i xs=-1/\(Utf.encA i xs).2.2=0/\∀c∈xs,Utf.okc c)\/∃q:Nat,fbY (fun c=>!okb c) i xs=(q:Int)/\Utf.encA i xs=([],(q:Int),31)/\q<i+xs.length:=by
 induction xs generalizing i with
 | nil=>exact .inl ⟨rfl,rfl,fun c I=>by cases I⟩
 | cons c r ih =>
  by_cases I:Utf.okc c
  ·have Y:(!okb c)=false:=(by simp[okb,I]);have P:fbY (fun c=>!okb c) i (c::r)=fbY (fun c=>!okb c) (i+1) r:=(by simp[fbY,Y]);have z:Utf.encA i (c::r)=Utf.glue (Utf.form c) (Utf.encA (i+1) r):=(by simp[Utf.encA,I]);rw[P,z];rcases ih (i+1)with⟨Z,D,J⟩ | ⟨q,Z,D,J⟩
   ·refine .inl ⟨Z,by simp[Utf.glue,D],fun d hd=>?_⟩;rcases List.mem_cons.1 hd with rfl | hd
    ·exact I
    ·exact J d hd
   ·exact .inr ⟨q,Z,by rw[D];simp[Utf.glue],P8P⟩
  ·have Y:(!okb c)=true:=(by simp[okb,I]);exact .inr ⟨i,by simp[fbY,Y],by simp[Utf.encA,I],M7M⟩
theorem z5J{xs:List Int}(h:∀c∈xs,Utf.okc c){k}(G:k<xs.length):Utf.okc (xs.getD k 0):=f0h
theorem encC:EncC:=by
 intro v D w N S;obtain⟨i0,hi,ar,Y,U⟩:=info_parts z6V;have H1:=O (x2b v D w N);rcases fb_enc 0 D with⟨hf,h2,o⟩ | ⟨q,hf,he,d⟩
 ·have x:=O (y0u v D w N S);have am:cnt (Utf.encA 0 D)=((Utf.encA 0 D).1.length:Int):=(by unfold cnt;rw[if_pos h2]);rw[am]at x;rw[hf]at H1;have aA:=Utf.x9e 0 D;have j:=x8l D
  have A:∀(ys:List Int) (k:Nat),k<D.length->Utf.encA 0 D=Utf.glue ys (Utf.encA k (D.drop k))->ys.length<=4*k->ys.length+(Utf.form (D.getD k 0)).length<=140737488355328:=by
   intro ys k G _ g;have:=Utf.x4f (D.getD k 0);omega
  have n:=O A;obtain⟨wm,m,R,aq⟩:=run_make_own (P:=prog) w w.heap.size 181 5 i0 (.int .u8 0) 1 underlying181 hi ar Y .i64 .i64 (Utf.encA 0 D).1.length R7T T7W (l0r _);have p:Bw w wm:=(Below.refl _ w).grown aq (l0r _) (fun k G=>g6D);have ae:Ok .u8 5 wm w.heap.size (.slice (some ⟨w.heap.size,0,none⟩) 0 (Utf.encA 0 D).1.length) []:=Ok.of (Fit.nil _) M7O R rfl rfl;generalize(Utf.encA 0 D).1.length=L at *;rcases Nat.eq_zero_or_pos D.length with h0 | h0
  ·have T:=x2l.mk (w:=w) (w':=wm) (x5Z h0.symm j) p;have F:=ae.sk.conv8;obtain⟨J,M,rfl,_,_⟩:=N.shape;rw[h0]at H1 x ⊢;generalize Utf.encA 0 D=r at *;go_enter func56,ntmps56;go_wp2_with fail;refine(V H1).mono ?_;rintro e w ⟨rfl,rfl⟩;go_wp2_with fail;refine(V x).mono ?_;rintro e w ⟨rfl,rfl⟩;go_wp2;refine wp_loop_rounds 1 ?_;rw[rounds_succ];exact i5C
  ·have K:=O N.1;obtain⟨b,aw,M,rfl,z,ay,I⟩:=N.place h0
   have H:Hid (∀wx,Bw w wx->∀i,i<D.length->wx.cell? ⟨b,aw+i,none⟩=some (.int .i32 (D.getD i 0))):=by
    intro wx hb i hi;rw[hb.cell (x0a (I i hi))];exact I i hi
   have Q:=O j;have HA:=O o;generalize Utf.encA 0 D=r at *;go_enter func56,ntmps56;go_wp2_with fail;refine(V H1).mono ?_;rintro e w ⟨rfl,rfl⟩;go_wp2_with fail;refine(V x).mono ?_;rintro e w ⟨rfl,rfl⟩;go_wp2;go_loopw[6,19] (fun vb i wr=>∃(k:Nat) (ys:List Int),i=.int .i64 k/\k<=D.length/\Ok .u8 5 wr w.heap.size vb ys/\ys.length<=4*k/\Bw w wr/\r=Utf.glue ys (Utf.encA k (D.drop k))) (fun _ i _=>D.length-(intOf i).toNat)
   case atStart=>exact⟨0,[],rfl,f6J,ae,M7O,p,V Q⟩
   case round =>
    obtain⟨k,ys,rfl,G,ab,u,C,X⟩:=hrel;by_cases E:k<D.length
    ·have y:=V H wr C k E;have aB:=(V K).i32at k;have W:=z5J (V HA) E;have f:=C.size;have Z:=O (x7J _ ys (D.getD k 0) w.heap.size wr ab f W (V n ys k E X u));have a:=O (y0F E X W);have hf:=Utf.x4f (D.getD k 0);have B:(ys++Utf.form (D.getD k 0)).length<=4*(k+1):=(by grind);generalize ys++Utf.form (D.getD k 0)=l at *;generalize D.getD k 0=c at *;go_wp2_with fail;refine(V Z).mono ?_;rintro e w2 ⟨v2,rfl,s,t⟩;have aj:Bw w w2:=C.trans t;go_wp2
     go_roundw
     case rel=>exact⟨k+1,l,g2A,f6J,s,B,aj,V a⟩
     case measure=>exact g7W
    ·have T:=x2l.mk (w:=w) (w':=wr) (x5Z (f6J:k=D.length) X) C;have F:=ab.sk.conv8;exact i5C
 ·have T:=x2l.no (w:=w) (w':=w) he (b0r);rw[hf]at H1;go_enter func56,ntmps56;go_wp2_with fail;refine(V H1).mono ?_;rintro e w ⟨rfl,rfl⟩;exact i5C
