/- YScE3 YLEnc3 YScA3 YScB3 YScBb3 -/
import Derived.Test.YtbmckadcjdedcaaGreatDoorD41
import Derived.Shelf.Abstract
import Derived.Lib.Walk
import Derived.Laws.MakeOwn
set_option maxHeartbeats 4000000
set_option maxRecDepth 20000
namespace Go.Proofs.YtbmckadcjdedcaaGreatDoor
open Go.Proofs.Tryz
open Go.RowKit
section
variable{p:Prop}
theorem i7B(h:p:=by rw[run_convert_bytes_string w 76 9 5 _ 0 c underlying76 underlying5 underlying9,run_bytesToString w p 0 c [] (run_loadCells_list (P:=prog) w p [] (fun j v K=>by simp at K))];rfl):p:=h
theorem U3h(h:p:=by obtain⟨b,P,M,rfl,S,U,I⟩:=h.place h0;exact run_convert_bytes_arg w 76 5 underlying76 underlying5 b P zs.length M zs rfl I 9 underlying9):p:=h
theorem M1d(h:p:=by unfold Utf.okc;exact f6J):p:=h
theorem U0I(h:p:=by rw[List.length_nil,run_convert_bytes_nil w 76 5 underlying76 underlying5 0 M 9 underlying9];rfl):p:=h
theorem E7V(h:p:=by have G:(!ascb c)=true:=(by simp[ascb];exact f6J);rw[G];go_enter func155,ntmps155;exact t6v):p:=h
theorem v6Y(h:p:=by rw[A M1d];unfold Utf.form;rw[if_neg f6J,if_neg f6J,if_pos f6J];rfl):p:=h
theorem M1e(h:p:=by unfold Utf.okc;exact f6J):p:=h
theorem i1Q(h:p:=by go_enter func62,ntmps62;go_wp2_with(at_builtin;refine wpList_append_own _ rfl (.tmp 34) (.tmp 48) 76 rfl B 5 r (.int .u8 0) 1 1 underlying76 hi i d f rfl e8P _ _ _ rfl (y.row.alloc _) ⟨w.heap.size,0,none⟩ 3 3 [.int .u8 (224+c / 4096),.int .u8 (128+c / 64%64),.int .u8 (128+c%64)] rfl rfl (x2R w [.int .u8 (224+c / 4096),.int .u8 (128+c / 64%64),.int .u8 (128+c%64)] 5) (x0R .u8 [224+c / 4096,128+c / 64%64,128+c%64]) T7X f6J P8P ?_);intro X q Y R _;have T:=E _ _ _ _ _ rfl rfl Y R;go_wp2;go_ret;exact T):p:=h
theorem t6M(h:p:=by go_wp2;go_ret;exact⟨congrArg (fun z=>Ending.returned (Value.int .i64 z)) (V A).symm,rfl⟩):p:=h
theorem e5N(h:p:=by have G:okb c=false:=d0f M1e;exact T5p):p:=h
theorem i5E(h:p:=by go_wp2;go_ret3;exact T):p:=h
theorem t6z(h:p:=by go_wp2;go_ret;exact⟨rfl,rfl⟩):p:=h
end
theorem x7F(c:Int)(w:World)(h:-2147483648<=c/\c<=2147483647) :
  Calls prog 102 #[.int .i32 c] w fun e w'=>e=.returned (.bool (okb c))/\w'=w:=by
 by_cases D:0<=c
 ·by_cases Z:c<55296
  ·have G:okb c=true:=d0t M1e;exact T5p
  ·by_cases R:57343<c
   ·by_cases H:c<=1114111
    ·have G:okb c=true:=d0t M1e;exact T5p
    ·exact e5N
   ·exact e5N
 ·exact e5N
theorem x8r(c:Int)(w:World)(h:-2147483648<=c/\c<=2147483647) :
  Calls prog 60 #[.int .i32 c] w fun e w'=>e=.returned (.bool (okb c))/\w'=w:=by
 have H:=O (x7F c w h);go_enter func60,ntmps60;go_wp2_with fail;refine(V H).mono ?_;rintro e w ⟨rfl,rfl⟩;go_wp2;go_ret;exact⟨rfl,rfl⟩
theorem x9G(c:Int)(w:World)(h:-2147483648<=c/\c<=2147483647) :
  Calls prog 59 #[.int .i32 c] w fun e w'=>e=.returned (.bool (!okb c))/\w'=w:=by
 have H:=O (x8r c w h);go_enter func59,ntmps59;go_wp2_with fail;refine(V H).mono ?_;rintro e w ⟨rfl,rfl⟩;go_wp2;go_ret;exact⟨rfl,rfl⟩
def fbY(p:Int->Bool):Nat->List Int->Int
 | _,[]=>-1
 | i,c::r=>if p c then(i:Int)else fbY p (i+1) r
theorem z4N{p:Int->Bool}{xs:List Int}{k:Nat}{r:Int}(G:k<xs.length)(h:r=fbY p k (xs.drop k))(A:p (xs.getD k 0)=true):r=(k:Int):=by
 rw[h,x0Q G,fbY,if_pos A]
theorem z1n{p:Int->Bool}{xs:List Int}{k:Nat}{r:Int}(G:k<xs.length)(h:r=fbY p k (xs.drop k))(A:p (xs.getD k 0)=false):r=fbY p (k+1) (xs.drop (k+1)):=by
 rw[h,x0Q G,fbY,A];rfl
theorem y7D{p:Int->Bool}{xs:List Int}{k:Nat}{r:Int}(G:xs.length<=k)(h:r=fbY p k (xs.drop k)):r=-1:=by
 rw[h,List.drop_eq_nil_of_le G,fbY]
theorem y7C(p:Int->Bool)(i:Nat)(xs:List Int):decide (fbY p i xs<0)=xs.all (fun c=>!p c):=by
 induction xs generalizing i with
 | nil=>rfl
 | cons c r ih =>
  simp only[fbY,List.all_cons];exact W2F
theorem x3y(p:Int->Bool)(g:Nat)(A:∀x w,(-2147483648<=x/\x<=2147483647)->Calls prog g #[.int .i32 x] w fun e w'=>e=.returned (.bool (p x))/\w'=w)(y:∀args w,(callFunc g args).run prog w=.ok (.enter g args) w)
  (v:Value) (xs:List Int) (w:World) (N:Sk .i32 w v xs) :
  Calls prog 58 #[v,.func (.func g) #[] #[]] w fun e w'=>e=.returned (.int .i64 (fbY p 0 xs))/\w'=w:=by
 have t:=N.len;have J:fbY p 0 xs=fbY p 0 (xs.drop 0):=s4M;rcases Nat.eq_zero_or_pos xs.length with h0 | h0
 ·have L:=y7D f6J J;exact S3Y
 ·have o:=O N.1;obtain⟨b,P,M,rfl,f,Q,I⟩:=N.place h0;have Y:=O I;have a:=O J;have l:=O A;clear N I J A;generalize L:fbY p 0 xs=r at *;go_enter func58,ntmps58;go_wp2;go_loop [5,8] (fun _ i=>∃k:Nat,i=.int .i64 k/\k<=xs.length/\r=fbY p k (xs.drop k)) (fun _ i=>xs.length-(intOf i).toNat)
  case atStart=>exact⟨0,rfl,f6J,V a⟩
  case round =>
   obtain⟨k,rfl,G,u⟩:=hrel;by_cases H:k<xs.length
   ·have X:=V Y k H;have T:=(V o).i32at k;have j:=O (V l (xs.getD k 0) w T)
    cases hok:p (xs.getD k 0)with
    | true =>
     have C:=z4N H u hok;rw[hok]at j;subst C;clear u hok a;generalize xs.getD k 0=c at *;go_wp2_with(go_at_fn g;refine(V j).mono ?_;rintro e w ⟨rfl,rfl⟩);go_ret;exact⟨rfl,rfl⟩
    | false =>
     have B:=O (z1n H u hok);rw[hok]at j;generalize xs.getD k 0=c at *;go_wp2_with(go_at_fn g;refine(V j).mono ?_;rintro e w ⟨rfl,rfl⟩);go_round
     case rel=>exact⟨k+1,g2A,f6J,V B⟩
     case measure=>exact g7T
   ·have C:=y7D f6J u;subst C;exact t6x
theorem y4L:∀args w,(callFunc 59 args).run prog w=.ok (.enter 59 args) w:=f0h
theorem x2h(v:Value)(xs:List Int)(w:World)(N:Sk .i32 w v xs) :
  Calls prog 32 #[v] w fun e w'=>e=.returned (.int .i64 (fbY (fun c=>!okb c) 0 xs))/\w'=w:=by
 have H:=O (x3y (fun c=>!okb c) 59 x9G y4L v xs w N);go_enter func32,ntmps32;go_wp2_with fail;refine(V H).mono ?_;rintro e w ⟨rfl,rfl⟩;go_wp2;go_ret;exact⟨rfl,rfl⟩
def z6y:Prop:=∀(v:Value) (xs:List Int) (w:World),Sk .i32 w v xs->Calls prog 106 #[v] w (y6o w (allb ascb xs))
theorem y4d(c:Int)(w:World)(h:-2147483648<=c/\c<=2147483647) :
  Calls prog 155 #[.int .i32 c] w fun e w'=>e=.returned (.bool (!ascb c))/\w'=w:=by
 by_cases D:c<0
 ·exact E7V
 ·by_cases Z:c>127
  ·exact E7V
  ·have G:(!ascb c)=false:=(by simp[ascb];exact f6J);rw[G];go_enter func155,ntmps155;exact t6v
theorem y4F:∀args w,(callFunc 155 args).run prog w=.ok (.enter 155 args) w:=f0h
theorem x5v(v:Value)(xs:List Int)(w:World)(N:Sk .i32 w v xs) :
  Calls prog 108 #[v,.func (.func 155) #[] #[]] w fun e w'=>e=.returned (.bool (!allb ascb xs))/\w'=w:=by
 have H:=O (x3y (fun c=>!ascb c) 155 y4d y4F v xs w N)
 have L:(!allb ascb xs)=decide (0<=fbY (fun c=>!ascb c) 0 xs):=by
  have h:=y7C (fun c=>!ascb c) 0 xs;have e:allb ascb xs=decide (fbY (fun c=>!ascb c) 0 xs<0):=(by rw[h];simp[allb]);rw[e,<- decide_not];congr 1;apply propext;omega
 rw[L];go_enter func108,ntmps108;go_wp2_with fail;refine(V H).mono ?_;rintro e w ⟨rfl,rfl⟩;go_wp2;go_ret;exact⟨rfl,rfl⟩
theorem z2X:z6y:=by
 intro v m w N;have H:=O (x5v v m w N);have L:allb ascb m=!!allb ascb m:=M7K;rw[L];generalize(!allb ascb m)=r at *;go_enter func106,ntmps106;go_wp2_with fail;refine(V H).mono ?_;rintro e w ⟨rfl,rfl⟩;exact T8v
theorem z5e:(prog.info? 5).map (fun i=>(i.zero,i.size,i.bytes))=some (some (.int .u8 0),1,1):=f4x
def rl(c:Int):Int:=if Utf.okc c then((Utf.form c).length:Int)else -1
theorem rl_cases(c:Int):(c<0/\rl c=-1)\/((0<=c/\c<=127)/\rl c=1)\/((128<=c/\c<=2047)/\rl c=2)\/((2048<=c/\c<55296)/\rl c=3)\/((55296<=c/\c<=57343)/\rl c=-1)\/((57343<c/\c<=65535)/\rl c=3)\/((65535<c/\c<=1114111)/\rl c=4)\/(1114111<c/\rl c=-1):=by
 have L:∀h:¬Utf.okc c,rl c=-1:=fun h=>(by unfold rl;rw[if_neg h]);have A:∀h:Utf.okc c,rl c=((Utf.form c).length:Int):=fun h=>(by unfold rl;rw[if_pos h]);by_cases T:c<0
 ·exact .inl ⟨T,L M1d⟩
 ·by_cases D:c<=127
  ·exact .inr (.inl ⟨⟨f6J,D⟩,by rw[A M1d];unfold Utf.form;rw[if_pos f6J];rfl⟩)
  ·by_cases Z:c<=2047
   ·exact .inr (.inr (.inl ⟨⟨f6J,Z⟩,by rw[A M1d];unfold Utf.form;rw[if_neg f6J,if_pos f6J];rfl⟩))
   ·by_cases R:c<55296
    ·exact .inr (.inr (.inr (.inl ⟨⟨f6J,R⟩,v6Y⟩)))
    ·by_cases H:c<=57343
     ·exact .inr (.inr (.inr (.inr (.inl ⟨⟨f6J,H⟩,L M1d⟩))))
     ·by_cases p:c<=65535
      ·exact .inr (.inr (.inr (.inr (.inr (.inl ⟨⟨f6J,p⟩,v6Y⟩)))))
      ·by_cases F:c<=1114111
       ·exact .inr (.inr (.inr (.inr (.inr (.inr (.inl ⟨⟨f6J,F⟩,by rw[A M1d];unfold Utf.form;rw[if_neg f6J,if_neg f6J,if_neg f6J];rfl⟩))))))
       ·omega
theorem y2A(c:Int)(w:World)(h:-2147483648<=c/\c<=2147483647) :
  Calls prog 61 #[.int .i32 c] w fun e w'=>e=.returned (.int .i64 (rl c))/\w'=w:=by
 rcases rl_cases c with⟨h,e⟩ | ⟨⟨h,D⟩,e⟩ | ⟨⟨h,D⟩,e⟩ | ⟨⟨h,D⟩,e⟩ | ⟨⟨h,D⟩,e⟩ | ⟨⟨h,D⟩,e⟩ | ⟨⟨h,D⟩,e⟩ | ⟨h,e⟩
 all_goals
  rw[e];clear e;go_enter func61,ntmps61;go_wp2;go_ret;exact⟨rfl,rfl⟩
theorem y0b{xs ys:List Int}{k:Nat}{r:List Int×Int×Int}(G:k<xs.length)(h:r=Utf.glue ys (Utf.encA k (xs.drop k)))(I:Utf.okc (xs.getD k 0)) :
  r=Utf.glue (ys++Utf.form (xs.getD k 0)) (Utf.encA (k+1) (xs.drop (k+1))):=by
 rw[h,x0Q G];simp only[Utf.encA,if_pos I,Utf.y0p]
theorem y7p{xs ys:List Int}{k:Nat}{r:List Int×Int×Int}(G:k<xs.length)(h:r=Utf.glue ys (Utf.encA k (xs.drop k)))(I:¬Utf.okc (xs.getD k 0)) :
  r=([],(k:Int),31):=by
 rw[h,x0Q G];simp only[Utf.encA,if_neg I];simp[Utf.glue]
theorem x5N{xs ys:List Int}{k:Nat}{r:List Int×Int×Int}(G:k=xs.length)(h:r=Utf.glue ys (Utf.encA k (xs.drop k))):r=(ys,0,0):=by
 subst G;rw[h,List.drop_length];simp[Utf.encA,Utf.glue]
theorem x7R(xs:List Int):Utf.encA 0 xs=Utf.glue [] (Utf.encA 0 (xs.drop 0)):=by
 rw[List.drop_zero,Utf.y3o]
 ·intro h;rcases Utf.enc_shape 0 xs with D | ⟨q,D,_⟩
  ·exact D.2
  ·rw[D]at h;simp at h
 ·intro h;rcases Utf.enc_shape 0 xs with D | ⟨q,D,_⟩
  ·exact absurd D.1 h
  ·rw[D]
theorem x9S(v:Value)(xs:List Int)(w:World)(N:Sk .i32 w v xs)(S:xs.length<=35184372087808) :
  Calls prog 33 #[v] w fun e w'=>e=.returned (.int .i64 (cnt (Utf.encA 0 xs)))/\w'=w:=by
 have J:=x7R xs;rcases Nat.eq_zero_or_pos xs.length with h0 | h0
 ·have L:=x5N h0.symm J;rw[L];obtain⟨s,M,rfl,_,_⟩:=N.shape;have I:cnt ([],0,0)=0:=rfl;rw[h0,I];go_enter func33,ntmps33;go_wp2;refine wp_loop_rounds 1 ?_;rw[rounds_succ];exact t6z
 ·have o:=O N.1;obtain⟨b,P,M,rfl,f,Q,I⟩:=N.place h0;have Y:=O I;have a:=O J;clear N I J;generalize Utf.encA 0 xs=r at *;go_enter func33,ntmps33;go_wp2;go_loop [3,9] (fun E i=>∃(k:Nat) (ys:List Int),i=.int .i64 k/\k<=xs.length/\E=.int .i64 (ys.length:Int)/\ys.length<=4*k/\r=Utf.glue ys (Utf.encA k (xs.drop k))) (fun _ i=>xs.length-(intOf i).toNat)
  case atStart=>exact⟨0,[],rfl,f6J,rfl,M7L,V a⟩
  case round =>
   obtain⟨k,ys,rfl,G,rfl,n,u⟩:=hrel;by_cases H:k<xs.length
   ·have X:=V Y k H;have T:=(V o).i32at k;have j:=O (y2A (xs.getD k 0) w T);by_cases y:Utf.okc (xs.getD k 0)
    ·have g:=O (y0b H u y);have F:rl (xs.getD k 0)=((Utf.form (xs.getD k 0)).length:Int):=if_pos y;rw[F]at j;have K:=Utf.x4e (xs.getD k 0);have U:(ys++Utf.form (xs.getD k 0)).length=ys.length+(Utf.form (xs.getD k 0)).length:=List.length_append;have C:=O U;generalize hys:ys++Utf.form (xs.getD k 0)=B at *;generalize xs.getD k 0=c at *;go_wp2_with fail;refine(V j).mono ?_;rintro e w ⟨rfl,rfl⟩;go_wp2;go_round
     case rel=>exact⟨k+1,B,g2A,f6J,by rw[V C];exact g2A,by rw[V C];exact f6J,V g⟩
     case measure=>exact g7V
    ·have L:=y7p H u y;have F:rl (xs.getD k 0)=-1:=if_neg y;rw[F]at j;have I:cnt r=-1:=(by rw[L];rfl);have A:=O I;generalize xs.getD k 0=c at *;go_wp2_with fail;refine(V j).mono ?_;rintro e w ⟨rfl,rfl⟩;exact t6M
   ·have L:=x5N (f6J:k=xs.length) u;have I:cnt r=(ys.length:Int):=(by rw[L];rfl);have A:=O I;clear u L I;exact t6M
theorem x2R(w:World)(us:List Value)(t:TypeId):∀(j:Nat) (u:Value),us[j]?=some u->(w.alloc (.cells us.toArray t)).cell? ((⟨w.heap.size,0,none⟩:Addr).add j)=some u:=by
 intro j u K;rw[addr_add];simp[K]
def x2N(w:World)(B:Nat)(zs:List Int)(e:Ending)(w':World):Prop:=∃v,e=.returned v/\Ok .u8 5 w' B v zs/\Below B w w'
theorem x2N.mk{w w2:World}{B n:Nat}{v v':Value}{ys J r:List Int}{us:List Value}{o:Obj}(hr:r=J)(l:B<=w.heap.size)(y:Ok .u8 5 w B v ys)(z:Utf.Byt r)(S:ys.length+r.length<=140737488355328)(E:n=ys.length+J.length)(W:us=ys.map (Value.int .u8)++J.map (Value.int .u8))
  (h:w2.ownsRow B 5 1 v' n us) (Y:(w.alloc o).grownBy w2 v.ownBlock):x2N w B (ys++r) (.returned v') w2:=by
 subst hr;exact⟨v',rfl,Ok.of (y.1.app (x1j z)) (by rw[List.length_append];exact S) h (by rw[List.length_append];exact E) (by rw[List.map_append];exact W),x0p l y.row (b0r) Y⟩
theorem x8y(v:Value)(ys:List Int)(c:Int)(B:Nat)(w:World)(y:Ok .u8 5 w B v ys)(l:B<=w.heap.size)(I:Utf.okc c)(A:128<=c)(S:ys.length+(Utf.form c).length<=140737488355328) :
  Calls prog 62 #[v,.int .i32 c] w (x2N w B (ys++Utf.form c)):=by
 obtain⟨r,hi,i,d,f⟩:=info_parts z5e;have K:=Utf.x8N I;unfold Utf.okc at I;by_cases D:c<=2047
 ·have g:Utf.form c=[192+c / 64,128+c%64]:=(by unfold Utf.form;rw[if_neg f6J,if_pos f6J]);have E:=fun n us v' w2 o=>x2N.mk (w:=w) (w2:=w2) (B:=B) (n:=n) (v:=v) (v':=v') (us:=us) (o:=o) g l y K S;rw[g]at S;simp only[List.length_cons,List.length_nil]at S;go_enter func62,ntmps62;go_wp2_with(at_builtin;refine wpList_append_own _ rfl (.tmp 14) (.tmp 23) 76 rfl B 5 r (.int .u8 0) 1 1 underlying76 hi i d f rfl e8P _ _ _ rfl (y.row.alloc _) ⟨w.heap.size,0,none⟩ 2 2 [.int .u8 (192+c / 64),.int .u8 (128+c%64)] rfl rfl (x2R w [.int .u8 (192+c / 64),.int .u8 (128+c%64)] 5) (x0R .u8 [192+c / 64,128+c%64]) T7X f6J P8P ?_);intro X q Y R _;have T:=E _ _ _ _ _ rfl rfl Y R;go_wp2;go_ret;exact T
 ·by_cases Z:c<=65535
  ·have g:Utf.form c=[224+c / 4096,128+c / 64%64,128+c%64]:=(by unfold Utf.form;rw[if_neg f6J,if_neg f6J,if_pos f6J]);have E:=fun n us v' w2 o=>x2N.mk (w:=w) (w2:=w2) (B:=B) (n:=n) (v:=v) (v':=v') (us:=us) (o:=o) g l y K S;rw[g]at S;simp only[List.length_cons,List.length_nil]at S;rcases I with⟨F,G⟩ | ⟨F,G⟩
   ·have H:c<55296:=f6J;exact i1Q
   ·have J:57343<c:=f6J;exact i1Q
  ·have g:Utf.form c=[240+c / 262144,128+c / 4096%64,128+c / 64%64,128+c%64]:=(by unfold Utf.form;rw[if_neg f6J,if_neg f6J,if_neg f6J]);have E:=fun n us v' w2 o=>x2N.mk (w:=w) (w2:=w2) (B:=B) (n:=n) (v:=v) (v':=v') (us:=us) (o:=o) g l y K S;rw[g]at S;have H:c<=1114111:=f6J;have J:65535<c:=f6J;simp only[List.length_cons,List.length_nil]at S;go_enter func62,ntmps62;go_wp2_with(at_builtin;refine wpList_append_own _ rfl (.tmp 57) (.tmp 76) 76 rfl B 5 r (.int .u8 0) 1 1 underlying76 hi i d f rfl e8P _ _ _ rfl (y.row.alloc _) ⟨w.heap.size,0,none⟩ 4 4 [.int .u8 (240+c / 262144),.int .u8 (128+c / 4096%64),.int .u8 (128+c / 64%64),.int .u8 (128+c%64)] rfl rfl (x2R w [.int .u8 (240+c / 262144),.int .u8 (128+c / 4096%64),.int .u8 (128+c / 64%64),.int .u8 (128+c%64)] 5) (x0R .u8 [240+c / 262144,128+c / 4096%64,128+c / 64%64,128+c%64]) T7X f6J P8P ?_);intro X q Y R _;have T:=E _ _ _ _ _ rfl rfl Y R;go_wp2;go_ret;exact T
theorem x7o(v:Value)(ys:List Int)(c:Int)(B:Nat)(w:World)(y:Ok .u8 5 w B v ys)(l:B<=w.heap.size)(I:Utf.okc c)(S:ys.length+(Utf.form c).length<=140737488355328) :
  Calls prog 34 #[v,.int .i32 c] w (x2N w B (ys++Utf.form c)):=by
 obtain⟨r,hi,i,d,f⟩:=info_parts z5e;by_cases D:c<=127
 ·have K:=Utf.x8N I;have F:0<=c:=f6J;have g:Utf.form c=[c]:=(by unfold Utf.form;rw[if_pos f6J]);have C:=fun n us v' w2 o=>x2N.mk (w:=w) (w2:=w2) (B:=B) (n:=n) (v:=v) (v':=v') (us:=us) (o:=o) g l y K S;rw[g]at S;simp only[List.length_cons,List.length_nil]at S;go_enter func34,ntmps34;go_wp2_with(at_builtin;refine wpList_append_own _ rfl (.tmp 8) (.tmp 11) 76 rfl B 5 r (.int .u8 0) 1 1 underlying76 hi i d f rfl e8P _ _ _ rfl (y.row.alloc _) ⟨w.heap.size,0,none⟩ 1 1 [.int .u8 c] rfl rfl (x2R w [.int .u8 c] 5) (x0R .u8 [c]) T7X f6J P8P ?_);intro X q Y R _;have T:=C _ _ _ _ _ rfl rfl Y R;go_wp2;go_ret;exact T
 ·have H:=O (x8y v ys c B w y l I f6J S);have a:128<=c/\c<=1114111:=f6J;obtain⟨a,p⟩:=a;go_enter func34,ntmps34;go_wp2_with fail;refine(V H).mono ?_;rintro e Q ⟨G,rfl,s,E⟩;go_wp2;go_ret;exact⟨_,rfl,s,E⟩
theorem y4z(w:World)(p:Addr)(c:Nat):(convert 76 9 (.slice (some p) 0 c)).run prog w=.ok (.string (strOfNums [])) w:=i7B
theorem Sk.conv8{w:World}{v:Value}{zs:List Int}(h:Sk .u8 w v zs):(convert 76 9 v).run prog w=.ok (.string (strOfNums zs)) w:=by
 rcases Nat.eq_zero_or_pos zs.length with h0 | h0
 ·obtain rfl:=List.eq_nil_of_length_eq_zero h0;obtain⟨s,M,rfl,_,_⟩:=h.shape
  cases s with
  | none=>exact U0I
  | some ad=>exact y4z w ad M
 ·exact U3h
theorem fb_enc(i:Nat)(xs:List Int):(fbY (fun c=>!okb c) i xs=-1/\(Utf.encA i xs).2.2=0/\∀c∈xs,Utf.okc c)\/∃q:Nat,fbY (fun c=>!okb c) i xs=(q:Int)/\Utf.encA i xs=([],(q:Int),31)/\q<i+xs.length:=by
 induction xs generalizing i with
 | nil=>exact .inl ⟨rfl,rfl,fun c I=>by cases I⟩
 | cons c r ih =>
  by_cases I:Utf.okc c
  ·have C:(!okb c)=false:=(by simp[okb,I]);have N:fbY (fun c=>!okb c) i (c::r)=fbY (fun c=>!okb c) (i+1) r:=(by simp[fbY,C]);have f:Utf.encA i (c::r)=Utf.glue (Utf.form c) (Utf.encA (i+1) r):=(by simp[Utf.encA,I]);rw[N,f];rcases ih (i+1)with⟨D,Z,R⟩ | ⟨q,D,Z,R⟩
   ·refine .inl ⟨D,by simp[Utf.glue,Z],fun d hd=>?_⟩;rcases List.mem_cons.1 hd with rfl | hd
    ·exact I
    ·exact R d hd
   ·exact .inr ⟨q,D,by rw[Z];simp[Utf.glue],P8P⟩
  ·have C:(!okb c)=true:=(by simp[okb,I]);exact .inr ⟨i,by simp[fbY,C],by simp[Utf.encA,I],M7N⟩
theorem z3T{xs:List Int}(h:∀c∈xs,Utf.okc c){k:Nat}(G:k<xs.length):Utf.okc (xs.getD k 0):=f0h
theorem encC:EncC:=by
 intro v m w N hl;obtain⟨i0,hi,ai,d,f⟩:=info_parts z5e;have H1:=O (x2h v m w N);rcases fb_enc 0 m with⟨z,Z,S⟩ | ⟨q,z,he,hq⟩
 ·have B:=O (x9S v m w N hl);have ag:cnt (Utf.encA 0 m)=((Utf.encA 0 m).1.length:Int):=(by unfold cnt;rw[if_pos Z]);rw[ag]at B;rw[z]at H1;have aw:=Utf.y1L 0 m;have J:=x7R m
  have F:∀(ys:List Int) (k:Nat),k<m.length->Utf.encA 0 m=Utf.glue ys (Utf.encA k (m.drop k))->ys.length<=4*k->ys.length+(Utf.form (m.getD k 0)).length<=140737488355328:=by
   intro ys k G _ x;have:=Utf.x4e (m.getD k 0);omega
  have HT:=O F;obtain⟨wm,t,p,K⟩:=run_make_own (P:=prog) w w.heap.size 76 5 i0 (.int .u8 0) 1 underlying76 hi ai d .i64 .i64 (Utf.encA 0 m).1.length V8u T7W (l0r _);have D:Bw w wm:=(Below.refl _ w).grown K (l0r _) (fun k G=>g6B);have ae:Ok .u8 5 wm w.heap.size (.slice (some ⟨w.heap.size,0,none⟩) 0 (Utf.encA 0 m).1.length) []:=Ok.of (Fit.nil _) M7P p rfl rfl;generalize(Utf.encA 0 m).1.length=L at *;rcases Nat.eq_zero_or_pos m.length with h0 | h0
  ·have T:=x2c.mk (w:=w) (w':=wm) (x5N h0.symm J) D;have j:=ae.sk.conv8;obtain⟨s,M,rfl,_,_⟩:=N.shape;rw[h0]at H1 B ⊢;generalize Utf.encA 0 m=r at *;go_enter func17,ntmps17;go_wp2_with fail;refine(V H1).mono ?_;rintro e w ⟨rfl,rfl⟩;go_wp2_with fail;refine(V B).mono ?_;rintro e w ⟨rfl,rfl⟩;go_wp2;refine wp_loop_rounds 1 ?_;rw[rounds_succ];exact i5E
  ·have o:=O N.1;obtain⟨b,aj,M,rfl,ar,Q,hc⟩:=N.place h0
   have Y:Hid (∀W,Bw w W->∀i,i<m.length->W.cell? ⟨b,aj+i,none⟩=some (.int .i32 (m.getD i 0))):=n7y
   have a:=O J;have C:=O S;generalize Utf.encA 0 m=r at *;go_enter func17,ntmps17;go_wp2_with fail;refine(V H1).mono ?_;rintro e w ⟨rfl,rfl⟩;go_wp2_with fail;refine(V B).mono ?_;rintro e w ⟨rfl,rfl⟩;go_wp2;go_loopw[6,19] (fun vb i wr=>∃(k:Nat) (ys:List Int),i=.int .i64 k/\k<=m.length/\Ok .u8 5 wr w.heap.size vb ys/\ys.length<=4*k/\Bw w wr/\r=Utf.glue ys (Utf.encA k (m.drop k))) (fun _ i _=>m.length-(intOf i).toNat)
   case atStart=>exact⟨0,[],rfl,f6J,ae,M7P,D,V a⟩
   case round =>
    obtain⟨k,ys,rfl,G,y,n,A,u⟩:=hrel;by_cases H:k<m.length
    ·have X:=V Y wr A k H;have ay:=(V o).i32at k;have E:=z3T (V C) H;have I:=A.size;have l:=O (x7o _ ys (m.getD k 0) w.heap.size wr y I E (V HT ys k H u n));have g:=O (y0b H u E);have z:=Utf.x4e (m.getD k 0);have ab:(ys++Utf.form (m.getD k 0)).length<=4*(k+1):=(by grind);generalize ys++Utf.form (m.getD k 0)=aq at *;generalize m.getD k 0=c at *;go_wp2_with fail;refine(V l).mono ?_;rintro e w2 ⟨R,rfl,am,af⟩;have U:Bw w w2:=A.trans af;go_wp2
     go_roundw
     case rel=>exact⟨k+1,aq,g2A,f6J,am,ab,U,V g⟩
     case measure=>exact g7V
    ·have T:=x2c.mk (w:=w) (w':=wr) (x5N (f6J:k=m.length) u) A;have j:=y.sk.conv8;exact i5E
 ·have T:=x2c.no (w:=w) (w':=w) he (b0r);rw[z]at H1;go_enter func17,ntmps17;go_wp2_with fail;refine(V H1).mono ?_;rintro e w ⟨rfl,rfl⟩;exact i5E
