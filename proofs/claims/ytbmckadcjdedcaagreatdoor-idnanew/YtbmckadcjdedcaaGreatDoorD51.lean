/- Ip19 -/
import Derived.Test.YtbmckadcjdedcaaGreatDoorD47
set_option maxHeartbeats 8000000
set_option maxRecDepth 20000
namespace Go.Proofs.YtbmckadcjdedcaaGreatDoor
open Go.Proofs.Tryz
open Go.RowKit
open Ti
section
variable{p:Prop}
theorem s8j(h:p:=by clear C;go_wp2_with fail;refine c0m o fun w4 b4=>?_;have HB:=O (x0b P b4);clear o P b4;go_wp2;go_ret;exact⟨rfl,V HB⟩):p:=h
end
theorem new_law19(fl f:Int)(w:World)(Y:Glob w):Calls prog 3 #[.int .i64 fl,.int .i64 f] w (y6o w true):=by
 have i:=O (x7Z w);have W:=O Y;clear Y;go_enter func3,ntmps3;go_wp2_with fail;refine(V i).mono ?_;rintro e1 Q ⟨v1,x,rfl,r,E,b1⟩;have X:=x9s E r e8N y8z;have j:=O (x9f _ _ Q ((V W).on b1) X);rw[Cn.z3n]at j;obtain⟨a1,N,n,_,H⟩:=X.shape;subst n;have l:=O b1;clear i X E b1 r;go_wp2_with fail;refine(V j).mono ?_;rintro e2 A ⟨m,h2⟩;have d:=O (x0b (V l) m);clear j m l;rcases h2 with⟨ab,_⟩ | ⟨I,p,v2,t,rfl,b,r2,v⟩
 ·exact absurd (by rw[Cn.x5n]) ab
 ·obtain⟨J,af,ae⟩:∃a c,v2=.slice a t.length c:=by
   rcases r2.1.2 with⟨h,T⟩ | ⟨g,M,ag,e,_⟩
   ·exact m0v
   ·exact⟨_,_,e⟩
  subst ae;clear r2 v b I;generalize t.length=L at *;by_cases C:fl<0\/63<fl
  ·have S:=O (y3B p fl C A);go_wp2_with fail;refine c0m S fun u G=>?_;have P:=x0b (V d) G;have o:=O (z0h u ((V W).on P));clear S d G W;by_cases T:fl<0
   ·exact s8j
   ·have D:63<fl:=f6J;exact s8j
  ·have T:¬fl<0:=f6J;have D:¬63<fl:=f6J;have S:=O (z5C p fl f6J f6J A);clear C;go_wp2_with fail;refine(V S).mono ?_;rintro e3 u ⟨q,rfl,Z,G⟩;have P:=x0b (V d) G;have s:=Z.f;have U:=O (x8L fl u);clear S d G;go_wp2_with fail;refine c0m U fun w4 b4=>?_;have K:=x0b P b4;have F:=Z.on b4;have c4:=F.f;have y:=O (y0q fl f w4);clear U b4 P Z s;generalize hz:(bits .and .i64 fl f==f)=z at *;go_wp2_with fail;refine c0m y fun w5 R=>?_;have B:=x0b K R;have o:=O (z0h w5 ((V W).on B));clear y R K F c4 W;go_wp2_with fail;refine c0m o fun w6 k=>?_;have HB:=O (x0b B k);clear o B k;go_wp2;go_ret;exact⟨rfl,V HB⟩
