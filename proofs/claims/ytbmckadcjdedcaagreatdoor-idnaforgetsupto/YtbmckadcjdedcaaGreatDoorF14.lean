import Derived.Test.YtbmckadcjdedcaaGreatDoorF0
import Derived.Deep.QuietTactic
import Derived.BigQuiet
import Derived.Maps.AppendAt
import Derived.Laws.AppendOwnNone
import Derived.ChangeKeysEq
import Derived.Deep.WholeRow
import Derived.Deep.MidRow
import Derived.Deep.Cut
import Derived.Laws.Rows
import Derived.DeepKeys4
import Derived.Maps.Views
import Derived.Maps.OwnSet
import Derived.Lib.SliceRun
namespace Go.Proofs.YtbmckadcjdedcaaGreatDoor
section
variable{p:Prop}
theorem w5q(h:p:=by rw[cell_of_row _ _ _ _ _ _ p];rfl):p:=h
theorem U0M(h:p:=by simp[rcells,x0z]at K;subst K;simp[Addr.add]):p:=h
theorem r7O(h:p:=by rw[heap_setCell_other w a g v F];exact h):p:=h
theorem P1G(h:p:=by have S:=h.lt;unfold Blk at h ⊢;rw[Below.heap_alloc w o g S];exact h):p:=h
theorem N9T(h:p:=by rw[heap_setCell_same w g i _ _ _ h];simp[arrA,List.map_set]):p:=h
theorem n7C(h:p:=by subst y;exact heap_alloc_last w _):p:=h
theorem E2f(h:p:=by simp only[World.cell?,h];simp[arrA,List.getD,hi]):p:=h
theorem U5A(h:p:=by simp only[x6I,x8Y];exact f6J):p:=h
theorem I8s(h:p:=by go_enter func146,ntmps146;go_wp2;go_ret;exact⟨rfl,0,rfl⟩):p:=h
theorem f4m(h:p:=by rintro⟨⟨_,_,_,_,_,R⟩,H⟩;exact⟨R.mono f6J,H⟩):p:=h
end
end Go.Proofs.YtbmckadcjdedcaaGreatDoor
namespace Go.Proofs.YtbmckadcjdedcaaGreatDoor.Ti.Tri
set_option linter.unusedSimpArgs false
abbrev Rg:=Int×Int×Int
def lo(r:Rg):Int:=r.1
def hi(r:Rg):Int:=r.2.1
def vl(r:Rg):Int:=r.2.2
theorem x6I a b c:lo (a,b,c)=a:=rfl
theorem x8Y a b c:hi (a,b,c)=b:=rfl
theorem vl_mk a b c:vl (a,b,c)=c:=rfl
def get(d:Int):List Rg->Int->Int
 | [],_=>d
 | r::rs,c=>if lo r<=c/\c<=hi r then vl r else get d rs c
theorem y8x d a b v(rs:List Rg) c:get d ((a,b,v)::rs) c=if a<=c/\c<=b then v else get d rs c:=rfl
theorem x1t d(r:Rg)(rs:List Rg) c:get d (r::rs) c=if lo r<=c/\c<=hi r then vl r else get d rs c:=rfl
def bad(p:Option Int)(r:Rg):Int :=
 if lo r<0\/1114111<hi r\/hi r<lo r then 40
 else if vl r<0\/65535<vl r then 42
 else match p with
  | none=>0
  | some h=>if lo r<=h then 41 else 0
def x1B(d:Int):Nat->Option Int->List Rg->Int×Int
 | i,_,[]=>if d<0\/65535<d then((i:Int),42)else(0,0)
 | i,p,r::rs=>if bad p r=0 then x1B d (i+1) (some (hi r)) rs else((i:Int),bad p r)
def check(d:Int)(rs:List Rg):Int×Int:=x1B d 0 none rs
def Val:Int->List Rg->Prop
 | _,[]=>True
 | b,r::rs=>b<=lo r/\lo r<=hi r/\hi r<=1114111/\0<=vl r/\vl r<=65535/\Val (hi r+1) rs
theorem Val.mono{b b'}{rs:List Rg}(h:Val b rs)(Y:b'<=b):Val b' rs:=by
 cases rs with
 | nil=>trivial
 | cons r rs=>exact⟨Int.le_trans Y h.1,h.2⟩
theorem y7u d i(p:Option Int)(rs:List Rg):(x1B d i p rs).2=0↔(Val (match p with | none=>0 | some h=>max 0 (h+1)) rs/\0<=d/\d<=65535):=by
 induction rs generalizing i p with
 | nil =>
  simp only[x1B,Val,true_and];split
  ·exact f4R
  ·exact f4R
 | cons r rs ih =>
  simp only[x1B];by_cases Y:bad p r=0
  ·rw[if_pos Y,ih];unfold bad at Y;split at Y
   ·simp at Y
   ·rename_i Z
    split at Y
    ·simp at Y
    ·rename_i D
     cases p with
     | none =>
      simp only[Val];constructor
      ·rintro⟨R,H⟩;exact⟨⟨f6J,f6J,f6J,f6J,f6J,R.mono f6J⟩,H⟩
      ·exact f4m
     | some h =>
      simp only at Y;split at Y
      ·simp at Y
      ·simp only[Val];constructor
       ·grind
       ·exact f4m
  ·rw[if_neg Y];constructor
   ·intro h;exact absurd h Y
   ·rintro⟨⟨Z,D,R,H,A,_⟩,_⟩;exfalso;apply Y;unfold bad
    cases p with
    | none=>simp only at Z;rw[if_neg f6J,if_neg f6J]
    | some h=>simp only at Z;rw[if_neg f6J,if_neg f6J];simp only;rw[if_neg f6J]
theorem x4d{d}{rs:List Rg}:(check d rs).2=0↔Val 0 rs/\0<=d/\d<=65535:=y7u d 0 none rs
theorem x4K{d} i(p:Option Int)(rs:List Rg)(h:(x1B d i p rs).2=0):(x1B d i p rs).1=0:=by
 induction rs generalizing i p with
 | nil =>
  simp only[x1B]at h ⊢;split at h
  ·simp at h
  ·rename_i h1;rw[if_neg h1]
 | cons r rs ih =>
  simp only[x1B]at h ⊢;by_cases Y:bad p r=0
  ·grind
  ·grind
theorem x6z{d b c}{rs:List Rg}(h:Val b rs)(I:c<b):get d rs c=d:=by
 induction rs generalizing b with
 | nil=>rfl
 | cons r rs ih =>
  obtain⟨Z,D,R,H,p,F⟩:=h;simp only[get];rw[if_neg f6J];exact ih F f6J
theorem y0A{d c}(hd:0<=d/\d<=65535){b}{rs:List Rg}(h:Val b rs):0<=get d rs c/\get d rs c<=65535:=by
 induction rs generalizing b with
 | nil=>exact hd
 | cons r rs ih =>
  obtain⟨Z,D,R,H,p,F⟩:=h;simp only[get];split
  ·omega
  ·exact ih F
theorem y8v{d c b}{rs:List Rg}(h:Val b rs)(I:1114111<c):get d rs c=d:=by
 induction rs generalizing b with
 | nil=>rfl
 | cons r rs ih =>
  obtain⟨Z,D,R,H,p,F⟩:=h;simp only[get];rw[if_neg f6J];exact ih F
def cutA(d:Int):Int->List Rg->List Int->List Rg
 | _,[],_=>[]
 | at_,r::rs,ks =>
  let k:=ks.headD 1
  (if k%3=0/\at_<lo r then[(at_+k%(lo r-at_),lo r-1,d)]else[]) ++
   (if lo r<hi r then[(lo r,lo r+k%(hi r-lo r),vl r),(lo r+k%(hi r-lo r)+1,hi r,vl r)]else[r])++cutA d (hi r+1) rs ks.tail
theorem y3A{d}(hd:0<=d/\d<=65535)(rs:List Rg) at_ ks(h:Val at_ rs)(A:0<=at_):Val at_ (cutA d at_ rs ks)/\∀c,get d (cutA d at_ rs ks) c=get d rs c:=by
 induction rs generalizing at_ ks with
 | nil=>exact⟨trivial,fun c=>rfl⟩
 | cons r rs ih =>
  obtain⟨L,P,t,M,Q,B⟩:=h;obtain⟨K,N⟩:=ih (hi r+1) ks.tail B f6J;simp only[cutA];generalize ks.headD 1=k;have X:∀m:Int,0<m->0<=k%m/\k%m<m:=fun m z=>⟨Int.emod_nonneg _ f6J,Int.emod_lt_of_pos _ z⟩
  have D:Val (lo r) ((if lo r<hi r then[(lo r,lo r+k%(hi r-lo r),vl r),(lo r+k%(hi r-lo r)+1,hi r,vl r)]else[r])++cutA d (hi r+1) rs ks.tail) /\
    ∀c,get d ((if lo r<hi r then[(lo r,lo r+k%(hi r-lo r),vl r),(lo r+k%(hi r-lo r)+1,hi r,vl r)]else[r])++cutA d (hi r+1) rs ks.tail) c=get d (r::rs) c:=by
   by_cases H:lo r<hi r
   ·rw[if_pos H];have G:=X (hi r-lo r) f6J;generalize k%(hi r-lo r)=q at *;refine⟨⟨by simp[x6I],U5A,U5A,M,Q,U5A,U5A,t,M,Q,K⟩,fun c=>?_⟩;simp only[List.cons_append,List.nil_append];rw[y8x,y8x,N,x1t];by_cases j:lo r<=c/\c<=hi r
    ·omega
    ·omega
   ·rw[if_neg H];refine⟨⟨f6J,P,t,M,Q,K⟩,fun c=>?_⟩;simp only[List.cons_append,List.nil_append];rw[x1t,x1t,N]
  rw[List.append_assoc];obtain⟨S,r2⟩:=D;by_cases C:k%3=0/\at_<lo r
  ·rw[if_pos C];have G:=X (lo r-at_) f6J;refine⟨⟨by simp only[x6I];exact f6J,U5A,U5A,hd.1,hd.2,S.mono U5A⟩,fun c=>?_⟩;simp only[List.cons_append,List.nil_append];rw[y8x];split
   ·rename_i hc
    rw[x1t,if_neg f6J];exact(x6z B f6J).symm
   ·exact r2 c
  ·rw[if_neg C];exact⟨S.mono f6J,r2⟩
end Go.Proofs.YtbmckadcjdedcaaGreatDoor.Ti.Tri
namespace Go.Proofs.YtbmckadcjdedcaaGreatDoor.Ti
open Go.Proofs.Tryz
open Go.RowKit
def Sz(sz:Nat)(w:World)(v:Value)(len:Nat)(us:List Value):Prop :=
 us.length=len*sz/\len<=5864062014805 /\
  ((len=0/\∃ao cap,v=.slice ao 0 cap/\cap<=9223372036854775807/\(ao=none->cap=0)) \/
   ∃b off cap,v=.slice (some ⟨b,off,none⟩) len cap/\len<=cap/\cap<=9223372036854775807/\∀i,i<len*sz->w.cell? ⟨b,off+i,none⟩=some (us.getD i undef))
theorem Sz.below{sz len w w' v us}(h:Sz sz w v len us)(Y:Bw w w'):Sz sz w' v len us:=by
 obtain⟨Z,D,R⟩:=h;refine⟨Z,D,?_⟩;exact E1y
theorem Sz.shape{sz len w v us}(h:Sz sz w v len us):∃ao cap,v=.slice ao len cap/\len<=cap/\cap<=9223372036854775807:=by
 rcases h.2.2 with⟨rfl,ao,cap,N,z,_⟩|⟨b,P,cap,N,S,z,_⟩
 ·exact I7v
 ·exact S0K
theorem Sz.place{sz len w v us}(h:Sz sz w v len us)(F:0<len) :
  ∃b off cap,v=.slice (some ⟨b,off,none⟩) len cap/\len<=cap/\cap<=9223372036854775807/\∀i,i<len*sz->w.cell? ⟨b,off+i,none⟩=some (us.getD i undef):=by
 rcases h.2.2 with⟨rfl,_⟩|h
 ·omega
 ·exact h
def x0z(r:Tri.Rg):List Value:=[.int .i64 (Tri.lo r),.int .i64 (Tri.hi r),.int .i64 (Tri.vl r)]
def rcells:List Tri.Rg->List Value
 | []=>[]
 | r::rs=>x0z r++rcells rs
theorem x1R(rs:List Tri.Rg):(rcells rs).length=rs.length*3:=by
 induction rs with
 | nil=>rfl
 | cons r rs ih=>simp[rcells,x0z,ih];omega
theorem x2r(a b:List Tri.Rg):rcells (a++b)=rcells a++rcells b:=by
 induction a with
 | nil=>rfl
 | cons r a ih=>simp[rcells,ih]
theorem y2I(rs:List Tri.Rg) k:(rcells rs).take (k*3)=rcells (rs.take k):=by
 induction rs generalizing k with
 | nil=>simp[rcells]
 | cons r rs ih =>
  cases k with
  | zero=>simp[rcells]
  | succ k =>
   have:=ih k;simp only[rcells,x0z,List.take_succ_cons,(f6J:(k+1)*3=k*3+1+1+1),List.cons_append,List.nil_append];rw[this]
theorem x1v(rs:List Tri.Rg) i(hi:i<rs.length):(rcells rs).getD (i*3) undef=.int .i64 (Tri.lo (rs.getD i (0,0,0)))/\(rcells rs).getD (i*3+1) undef=.int .i64 (Tri.hi (rs.getD i (0,0,0)))/\(rcells rs).getD (i*3+2) undef=.int .i64 (Tri.vl (rs.getD i (0,0,0))):=by
 induction rs generalizing i with
 | nil=>exact v5E
 | cons r rs ih =>
  cases i with
  | zero=>exact⟨rfl,rfl,rfl⟩
  | succ i =>
   have:=ih i w3z;have e:∀j,(rcells (r::rs)).getD (j+3) undef=(rcells rs).getD j undef:=fun j=>rfl;rw[(f6J:(i+1)*3=i*3+3),(f6J:i*3+3+1=(i*3+1)+3),(f6J:i*3+3+2=(i*3+2)+3),e,e,e];exact this
def Fi(z:Int):Prop:=-9223372036854775808<=z/\z<=9223372036854775807
def FitR(rs:List Tri.Rg):Prop:=∀r∈rs,Fi (Tri.lo r)/\Fi (Tri.hi r)/\Fi (Tri.vl r)
theorem FitR.at{rs:List Tri.Rg}(h:FitR rs) i:Fi (Tri.lo (rs.getD i (0,0,0)))/\Fi (Tri.hi (rs.getD i (0,0,0)))/\Fi (Tri.vl (rs.getD i (0,0,0))):=by
 rcases Nat.lt_or_ge i rs.length with hi|hi
 ·exact e4m
 ·simp only[List.getD,List.getElem?_eq_none hi,Option.getD_none];simp[Fi,Tri.lo,Tri.hi,Tri.vl]
def Sr(w:World)(v:Value)(rs:List Tri.Rg):Prop:=FitR rs/\Sz 3 w v rs.length (rcells rs)
theorem Sr.below{w w' v}{rs:List Tri.Rg}(h:Sr w v rs)(Y:Bw w w'):Sr w' v rs:=⟨h.1,h.2.below Y⟩
theorem Sr.shape{w v}{rs:List Tri.Rg}(h:Sr w v rs):∃ao cap,v=.slice ao rs.length cap/\rs.length<=cap/\cap<=9223372036854775807:=h.2.shape
theorem Sr.len{w v}{rs:List Tri.Rg}(h:Sr w v rs):rs.length<=5864062014805:=h.2.2.1
theorem Sr.place{w v}{rs:List Tri.Rg}(h:Sr w v rs)(F:0<rs.length) :
  ∃b off cap,v=.slice (some ⟨b,off,none⟩) rs.length cap/\rs.length<=cap/\cap<=9223372036854775807/\∀i,i<rs.length ->
   w.cell? ⟨b,off+i*3,none⟩=some (.int .i64 (Tri.lo (rs.getD i (0,0,0))))/\w.cell? ⟨b,off+i*3+1,none⟩=some (.int .i64 (Tri.hi (rs.getD i (0,0,0))))/\w.cell? ⟨b,off+i*3+2,none⟩=some (.int .i64 (Tri.vl (rs.getD i (0,0,0)))):=by
 obtain⟨b,off,cap,Z,D,R,H⟩:=h.2.place F;refine⟨b,off,cap,Z,D,R,fun i hi=>?_⟩;have u:=x1v rs i hi;have d:=H (i*3) f6J;have B:=H (i*3+1) f6J;have M:=H (i*3+2) f6J;rw[u.1]at d;rw[u.2.1]at B;rw[u.2.2]at M;exact⟨d,B,M⟩
end Go.Proofs.YtbmckadcjdedcaaGreatDoor.Ti
namespace Go.Proofs.YtbmckadcjdedcaaGreatDoor.Ti
open Go.Proofs.Tryz
open Go.RowKit
end Go.Proofs.YtbmckadcjdedcaaGreatDoor.Ti
namespace Go.Proofs.YtbmckadcjdedcaaGreatDoor.Ti
open Go.Proofs.Tryz
open Go.RowKit
def x2A(w:World)(r:Int×Int)(e:Ending)(w':World):Prop:=e=.returned (.tuple #[.int .i64 r.1,.int .i64 r.2])/\Below w.heap.size w w'
theorem x2A.mk{w w'}{r:Int×Int}{a b}(h:r=(a,b))(Y:Bw w w'):x2A w r (.returned (.tuple #[.int .i64 a,.int .i64 b])) w':=E1n
def prv(rs:List Tri.Rg):Nat->Option Int
 | 0=>none
 | k+1=>some (Tri.hi (rs.getD k (0,0,0)))
theorem y4T{d}{rs:List Tri.Rg}{k}(G:k<rs.length):Tri.x1B d k (prv rs k) (rs.drop k)=if Tri.bad (prv rs k) (rs.getD k (0,0,0))=0 then Tri.x1B d (k+1) (prv rs (k+1)) (rs.drop (k+1))else((k:Int),Tri.bad (prv rs k) (rs.getD k (0,0,0))):=by
 rw[List.drop_eq_getElem_cons G];have e:rs.getD k (0,0,0)=rs[k]:=(by grind);have f:prv rs (k+1)=some (Tri.hi rs[k]):=(by rw[<- e];rfl);rw[f,e];simp only[Tri.x1B]
theorem x6l{p:Option Int}{r:Tri.Rg}(h:Tri.lo r<0\/1114111<Tri.hi r\/Tri.hi r<Tri.lo r):Tri.bad p r=40:=by unfold Tri.bad;rw[if_pos h]
theorem y6X{p:Option Int}{r:Tri.Rg}(h:¬(Tri.lo r<0\/1114111<Tri.hi r\/Tri.hi r<Tri.lo r))(D:Tri.vl r<0\/65535<Tri.vl r):Tri.bad p r=42:=by unfold Tri.bad;rw[if_neg h,if_pos D]
theorem y6W{x}{r:Tri.Rg}(h:¬(Tri.lo r<0\/1114111<Tri.hi r\/Tri.hi r<Tri.lo r))(D:¬(Tri.vl r<0\/65535<Tri.vl r))(R:Tri.lo r<=x):Tri.bad (some x) r=41:=by unfold Tri.bad;rw[if_neg h,if_neg D];simp only;rw[if_pos R]
theorem z1k{x}{r:Tri.Rg}(h:¬(Tri.lo r<0\/1114111<Tri.hi r\/Tri.hi r<Tri.lo r))(D:¬(Tri.vl r<0\/65535<Tri.vl r))(R:¬Tri.lo r<=x):Tri.bad (some x) r=0:=by unfold Tri.bad;rw[if_neg h,if_neg D];simp only;rw[if_neg R]
end Go.Proofs.YtbmckadcjdedcaaGreatDoor.Ti
namespace Go.Proofs.YtbmckadcjdedcaaGreatDoor.Ti
open Go.Proofs.Tryz
open Go.RowKit
theorem Tryz.info259:(prog.info? 259).map (fun i=>(i.zero,i.size,i.bytes))=some (some (.agg #[.int .i64 0,.int .i64 0,.int .i64 0]),3,24):=f4x
def Or4(w:World)(B:Nat)(v:Value)(rs:List Tri.Rg):Prop:=FitR rs/\rs.length<=5864062014805/\w.ownsRow B 259 3 v rs.length (rcells rs)
theorem Or4.sr{w B v}{rs:List Tri.Rg}(h:Or4 w B v rs):Sr w v rs:=by
 obtain⟨Z,D,R⟩:=h;have I:=R;obtain⟨_,G⟩:=R;refine⟨Z,x1R rs,D,?_⟩;rcases G with⟨rfl,A⟩|⟨g,M,T,N,C,a,E,t,q,Q⟩
 ·grind
 ·refine .inr ⟨g,0,M,N,E,v9x,fun i hi=>?_⟩;have S:=x1R rs;have:=I.cells (g:=g) U5P i ((rcells rs).getD i undef) (by simp[List.getD,(f6J:i<(rcells rs).length)]);rw[addr_add]at this;exact this
theorem Or4.nil w B:Or4 w B (.slice none 0 0) []:=⟨fun r hr=>by simp at hr,M7K,World.ownsRow_nil _ _ _ _⟩
theorem x8t{w w' B sz e v}{n xs}(h:w.ownsRow B e sz v n xs)(Y:Bw w w'):w'.ownsRow B e sz v n xs:=by
 refine h.kept (row:=none) ⟨Y.os,Y.tape,Y.output,Y.size,fun k G _=>Y.block k G⟩ ?_
 exact W0k
theorem Or4.below{w w' B v}{rs:List Tri.Rg}(h:Or4 w B v rs)(Y:Bw w w'):Or4 w' B v rs:=⟨h.1,h.2.1,x8t h.2.2 Y⟩
theorem x4X(rs:List Tri.Rg):∀u∈rcells rs,u.oneCell'=true:=by
 induction rs with
 | nil=>intro u hu;simp[rcells]at hu
 | cons r rs ih =>
  intro u hu;simp only[rcells,x0z,List.mem_append,List.mem_cons,List.mem_nil_iff,or_false]at hu;rcases hu with(rfl|rfl|rfl)|hu
  ·rfl
  ·rfl
  ·rfl
  ·exact ih u hu
end Go.Proofs.YtbmckadcjdedcaaGreatDoor.Ti
namespace Go.Proofs.YtbmckadcjdedcaaGreatDoor.Ti
open Go.Proofs.Tryz
open Go.RowKit
end Go.Proofs.YtbmckadcjdedcaaGreatDoor.Ti
namespace Go.Proofs.YtbmckadcjdedcaaGreatDoor.Ti
open Go.Proofs.Tryz
open Go.RowKit
theorem z9P{b}{rs:List Tri.Rg}(h:Tri.Val b rs)(Y:0<=b) k(G:k<rs.length):0<=Tri.lo (rs.getD k (0,0,0))/\Tri.lo (rs.getD k (0,0,0))<=Tri.hi (rs.getD k (0,0,0))/\Tri.hi (rs.getD k (0,0,0))<=1114111/\0<=Tri.vl (rs.getD k (0,0,0))/\Tri.vl (rs.getD k (0,0,0))<=65535:=by
 induction rs generalizing b k with
 | nil=>simp at G
 | cons r rs ih =>
  obtain⟨Z,D,R,H,p,F⟩:=h
  cases k with
  | zero=>grind
  | succ k=>grind
def y6Q(w:World)(rs:List Tri.Rg)(e:Ending)(w':World):Prop:=∃v,e=.returned v/\Or4 w' w.heap.size v rs/\Below w.heap.size w w'
theorem y7l(w:World)(r:Tri.Rg):∀(j:Nat) (u:Value),(rcells [r])[j]?=some u->(w.alloc (.cells #[.int .i64 (Tri.lo r),.int .i64 (Tri.hi r),.int .i64 (Tri.vl r)] 259)).cell? ((⟨w.heap.size,0,none⟩:Addr).add j)=some u:=by
 intro j u K
 match j,K with
 | 0,K=>exact U0M
 | 1,K=>exact U0M
 | 2,K=>exact U0M
 | j+3,K=>simp[rcells,x0z]at K
end Go.Proofs.YtbmckadcjdedcaaGreatDoor.Ti
namespace Go.Proofs.YtbmckadcjdedcaaGreatDoor.Ti.Tri
def blk(f:Int->Int)(p:Nat):List Int:=(List.range 64).map fun i=>f ((64*p+i:Nat):Int)
def pcs(f:Int->Int):List (List Int):=(List.range 17408).map (blk f)
def push(bs:List (List Int))(b:List Int):List (List Int):=if b∈bs then bs else bs++[b]
def idxA:List (List Int)->List (List Int)->List Nat
 | _,[]=>[]
 | bs,b::r=>bs.idxOf b::idxA (push bs b) r
def blkA:List (List Int)->List (List Int)->List (List Int)
 | bs,[]=>bs
 | bs,b::r=>blkA (push bs b) r
def idx(f:Int->Int):List Nat:=idxA [] (pcs f)
def bls(f:Int->Int):List (List Int):=blkA [] (pcs f)
theorem y3s bs a b:blkA bs (a++b)=blkA (blkA bs a) b:=by
 induction a generalizing bs with
 | nil=>rfl
 | cons x a ih=>simp only[List.cons_append,blkA,ih]
theorem y9M{bs b}(h:b∈bs):push bs b=bs:=by unfold push;rw[if_pos h]
theorem x4U f:(pcs f).length=17408:=by simp[pcs]
theorem z2d bs ps:(idxA bs ps).length=ps.length:=by
 induction ps generalizing bs with
 | nil=>rfl
 | cons p ps ih=>simp[idxA,ih]
theorem idx_len f:(idx f).length=17408:=by rw[idx,z2d,x4U]
theorem y3t bs ps:bs.length<=(blkA bs ps).length/\(blkA bs ps).length<=bs.length+ps.length:=by
 induction ps generalizing bs with
 | nil=>simp[blkA]
 | cons p ps ih =>
  have:=ih (push bs p);have D:bs.length<=(push bs p).length/\(push bs p).length<=bs.length+1:=(by unfold push;split<;>simp);simp only[blkA,List.length_cons];omega
theorem y7g f:(bls f).length<=17408:=by
 have:=y3t [] (pcs f);rw[x4U]at this;simpa[bls]using this.2
end Go.Proofs.YtbmckadcjdedcaaGreatDoor.Ti.Tri
namespace Go.Proofs.YtbmckadcjdedcaaGreatDoor.Ti
open Go.Proofs.Tryz
open Go.RowKit
def z4v(w:World)(n:Int)(e:Ending)(w':World):Prop:=e=.returned (.int .i64 n)/\Below w.heap.size w w'
def x1r(w:World)(n:Int)(e:Ending)(w':World):Prop:=e=.returned (.int .i64 n)/\∃m,w'=w.drewN m
def x6f(T:World->Value->List Tri.Rg->Int->Prop)(w:World)(rs:List Tri.Rg)(d:Int)(e:Ending)(w':World):Prop :=
 Below w.heap.size w w'/\(((Tri.check d rs).2=0/\∃a,e=.returned (.tuple #[.pointer (some a),.int .i64 0,.int .i64 0])/\T w' (.pointer (some a)) rs d) \/
  ((Tri.check d rs).2≠0/\e=.returned (.tuple #[.pointer none,.int .i64 (Tri.check d rs).1,.int .i64 (Tri.check d rs).2])))
end Go.Proofs.YtbmckadcjdedcaaGreatDoor.Ti
namespace Go.Proofs.YtbmckadcjdedcaaGreatDoor.Ti
open Go.Proofs.Tryz
open Go.RowKit
def arrA(zs:List Int):Array Value:=(zs.map (Value.int .u16)).toArray
theorem x1T zs:(arrA zs).size=zs.length:=by simp[arrA]
theorem x8G zs:(arrA zs).all (·.oneCell')=true:=by
 simp[arrA,Value.oneCell']
def Box(w:World)(g:Nat)(zs:List Int):Prop:=w.rangeAt g 0 (zs.map (Value.int .u16))
end Go.Proofs.YtbmckadcjdedcaaGreatDoor.Ti
namespace Go.Proofs.YtbmckadcjdedcaaGreatDoor.Ti.Tri
theorem push_len bs p:(push bs p).length=if bs.idxOf p=bs.length then bs.length+1 else bs.length:=by
 unfold push;by_cases h:p∈bs
 ·grind
 ·grind
theorem z6x bs p:(push bs p).getD (bs.idxOf p) []=p/\bs.idxOf p<(push bs p).length:=by
 unfold push;by_cases h:p∈bs
 ·grind
 ·grind
theorem y8G bs ps i(hi:i<ps.length):(idxA bs ps).getD i 0=(blkA bs (ps.take i)).idxOf (ps.getD i []):=by
 induction ps generalizing bs i with
 | nil=>exact v5E
 | cons p ps ih =>
  cases i with
  | zero=>simp[idxA,blkA]
  | succ i =>
   have:=ih (push bs p) i w3y;simpa[idxA,blkA]using this
theorem y0c(bs ps:List (List Int)) i(hi:i<ps.length):blkA bs (ps.take (i+1))=push (blkA bs (ps.take i)) (ps.getD i []):=by
 have h:ps.take (i+1)=ps.take i++[ps.getD i []]:=f0h;rw[h,y3s];rfl
theorem y5Y{bs p}(h:bs.Nodup):(push bs p).Nodup:=by
 unfold push;split
 ·exact h
 ·grind
theorem y4L{bs ps}(h:bs.Nodup):(blkA bs ps).Nodup:=by
 induction ps generalizing bs with
 | nil=>exact h
 | cons p ps ih=>exact ih (y5Y h)
theorem getD_in{l:List (List Int)}{i}(hi:i<l.length):l.getD i []∈l:=by grind
theorem y5X bs p i(hi:i<bs.length):(push bs p).getD i []=bs.getD i []/\i<(push bs p).length:=by
 unfold push;split
 ·exact⟨rfl,hi⟩
 ·grind
theorem y4K bs ps i(hi:i<bs.length):(blkA bs ps).getD i []=bs.getD i []/\i<(blkA bs ps).length:=by
 induction ps generalizing bs with
 | nil=>exact⟨rfl,hi⟩
 | cons p ps ih =>
  have Z:=y5X bs p i hi;have D:=ih (push bs p) Z.2;exact⟨by simp only[blkA];rw[D.1,Z.1],D.2⟩
theorem y7f f p(L:p<17408):(bls f).getD ((idx f).getD p 0) []=blk f p/\(idx f).getD p 0<(bls f).length:=by
 have S:=x4U f;have e:pcs f=(pcs f).take (p+1)++(pcs f).drop (p+1):=(List.take_append_drop _ _).symm
 have Y:bls f=blkA (push (blkA [] ((pcs f).take p)) ((pcs f).getD p [])) ((pcs f).drop (p+1)):=by
  unfold bls
  conv=>lhs;rw[e]
  rw[y3s,y0c _ _ _ f6J]
 have hi:(idx f).getD p 0=(blkA [] ((pcs f).take p)).idxOf ((pcs f).getD p []):=(by rw[idx,y8G _ _ _ f6J]);have g:=z6x (blkA [] ((pcs f).take p)) ((pcs f).getD p []);have X:=y4K _ ((pcs f).drop (p+1)) _ g.2;rw[Y,hi];refine⟨?_,X.2⟩;rw[X.1,g.1];simp[pcs,List.getD,L]
theorem y7e f p:(blk f p).length=64:=by simp[blk]
theorem z3G f p i(hi:i<64):(blk f p).getD i 0=f ((64*p+i:Nat):Int):=by simp[blk,List.getD,hi]
theorem push_sub{bs p x}(h:x∈push bs p):x∈bs\/x=p:=by
 unfold push at h;split at h
 ·exact .inl h
 ·grind
theorem blkA_sub{bs ps x}(h:x∈blkA bs ps):x∈bs\/x∈ps:=by
 induction ps generalizing bs with
 | nil=>exact .inl h
 | cons p ps ih =>
  rcases ih h with h1|h1
  ·rcases push_sub h1 with h2|h2
   ·exact .inl h2
   ·exact .inr (by simp[h2])
  ·grind
end Go.Proofs.YtbmckadcjdedcaaGreatDoor.Ti.Tri
namespace Go.Proofs.YtbmckadcjdedcaaGreatDoor.Ti
open Go.Proofs.Tryz
open Go.RowKit
def Blk(w:World)(g:Nat)(zs:List Int):Prop:=w.heap[g]?=some (.cells (arrA zs) 271 (0,0))
theorem Blk.lt{w g zs}(h:Blk w g zs):g<w.heap.size:=by
 have:=Array.getElem?_eq_some_iff.1 h;exact this.1
theorem Blk.cell{w g zs}(h:Blk w g zs){i}(hi:i<zs.length):w.cell? ⟨g,i,none⟩=some (.int .u16 (zs.getD i 0)):=by
 unfold Blk at h;exact E2f
theorem Blk.frozen{w g zs}(h:Blk w g zs) i:w.frozen? ⟨g,i,none⟩=false:=by
 unfold Blk at h;simp[World.frozen?,h]
theorem Blk.set{w g zs}(h:Blk w g zs) i v:Blk (w.setCell ⟨g,i,none⟩ (.int .u16 v)) g (zs.set i v):=by
 unfold Blk at h ⊢;exact N9T
theorem Blk.other{w g zs}(h:Blk w g zs){a}(F:g≠a.block) v:Blk (w.setCell a v) g zs:=by
 unfold Blk at h ⊢;exact r7O
theorem Blk.new(w:World) zs C(y:C=arrA zs):Blk (w.alloc (.cells C 271)) w.heap.size zs:=n7C
theorem Blk.alloc{w g zs}(h:Blk w g zs) o:Blk (w.alloc o) g zs:=P1G
theorem Blk.there{w g zs}(h:Blk w g zs):w.there g 0 zs.length:=fun j K=>by
 rw[Nat.zero_add];exact⟨by rw[h.cell K];rfl,h.frozen j⟩
theorem x9H{fn}{p:Tmp}{ty}(h:fn.results=#[.cell p ty]) tmps P w :
  (results fn tmps).run P w=((asAddr (tmps.getD p undef)).run P w).andThen fun a w₁=>(loadVar ty a).run P w₁:=by
 simp only[results,h];simp[Sem.run_bind,Result.andThen]
theorem x2J{fn p ty}(h:fn.results=#[.cell p ty]) tmps P w g v(L:tmps.getD p undef=.pointer (some ⟨g,0,none⟩))(N:(loadVar ty ⟨g,0,none⟩).run P w=.ok v w) :
  (results fn tmps).run P w=.ok v w:=by
 rw[x9H h,L];simp[asAddr,Result.andThen,N]
namespace Tri
theorem z9Q{b}{rs:List Rg}(h:Val b rs) k(G:k<rs.length):b<=lo (rs.getD k (0,0,0)):=by
 induction rs generalizing b k with
 | nil=>simp at G
 | cons r rs ih =>
  obtain⟨Z,D,R,H,p,F⟩:=h
  cases k with
  | zero=>exact Z
  | succ k=>grind
theorem z2b{b d c}{rs:List Rg}(N:Val b rs) k(G:k<rs.length):get d (rs.take (k+1)) c=if lo (rs.getD k (0,0,0))<=c/\c<=hi (rs.getD k (0,0,0))then vl (rs.getD k (0,0,0))else get d (rs.take k) c:=by
 induction rs generalizing b k with
 | nil=>simp at G
 | cons r rs ih =>
  obtain⟨Z,D,R,H,p,F⟩:=N
  cases k with
  | zero =>
   simp only[List.take_succ_cons,List.take_zero,List.getD_cons_zero,x1t]
  | succ k =>
   have A:k<rs.length:=E9n;have:=ih F k A;simp only[List.take_succ_cons,List.getD_cons_succ,x1t];rw[this];by_cases I:lo r<=c/\c<=hi r
   ·rw[if_pos I];have m:hi r+1<=lo (rs.getD k (0,0,0)):=z9Q F k A;rw[if_neg f6J,if_pos I]
   ·omega
end Tri
theorem x7d(zs:List Int) i j v(hi:i<zs.length):(zs.set i v).getD j 0=if j=i then v else zs.getD j 0:=by grind
theorem x0E{B g:Nat}{a:World}(Y:B<=g):∀(l:List Value) (o:Nat) (w:World),Below B a w->Below B a (w.setCells g o l)
 | [],_,_,h=>h
 | v::l,o,_,h=>x0E Y l (o+1) _ (h.setCell (p:=⟨g,o,none⟩) Y v)
def y6J(w:World)(zs:List Int)(e:Ending)(w':World):Prop:=e=.returned (.agg (arrA zs))/\Below w.heap.size w w'
theorem z4M f p zs(S:zs.length=64)(h:∀j,j<64->zs.getD j 0=f ((64*p+j:Nat):Int)):zs=Tri.blk f p:=by
 apply List.ext_getElem (by rw[S,Tri.y7e]);intro i a b;have Z:=h i f6J;have D:=Tri.z3G f p i f6J;rw[<- D]at Z;simpa[List.getD,a,b]using Z
end Go.Proofs.YtbmckadcjdedcaaGreatDoor.Ti
namespace Go.Proofs.YtbmckadcjdedcaaGreatDoor.Ti
open Go.Proofs.Tryz
open Go.RowKit Go.Maps
theorem z2k:laidOutB prog=true:=f4x
theorem y3q:Keyed prog 272:=Keyed.of_law (deep_law_laid z2k (m:=3) e8N (o0d f4x) f4x f4x)
def Good(zs:List Int):Prop:=zs.length=64/\∀z∈zs,0<=z/\z<=65535
theorem y3u{f}(h:∀c,0<=f c/\f c<=65535) p:Good (Tri.blk f p):=by
 refine⟨by simp[Tri.blk],fun z o=>?_⟩;simp only[Tri.blk,List.mem_map]at o;obtain⟨i,_,rfl⟩:=o;exact h _
theorem z2w{α β:Type}(l:List α)(f:α->Option β)(g:α->β)(h:∀x∈l,f x=some (g x)):l.mapM f=some (l.map g):=by
 induction l with
 | nil=>rfl
 | cons x l ih=>grind
theorem z4s{z}(h:0<=z/\z<=65535):(Lit.int .u16 z).wf=true:=w7O
theorem y3v:prog.cellsOf 272=64:=f4x
theorem z1z:prog.cellsOf 270=1:=f4x
theorem y5A:prog.keyType 272=true:=f4x
theorem y2v zs(h:Good zs) D:prog.keyLits (D+2) 272 (arrA zs).toList=some (((List.range 64).map fun i=>[Lit.int .u16 (zs.getD i 0)]).flatten):=by
 have S:(arrA zs).toList.length=64:=(by rw[Array.length_toList,x1T,h.1]);rw[Program.keyLits.eq_def];simp only[underlying272,y3v,z1z];rw[if_pos S,z2w (List.range 64) _ (fun i=>[Lit.int .u16 (zs.getD i 0)])]
 ·rfl
 ·intro i hi;have E:i<zs.length:=(by rw[h.1];exact List.mem_range.1 hi);have o:zs.getD i 0=zs[i]:=by grind
  have e:((arrA zs).toList.drop (i*1)).take 1=[Value.int .u16 (zs.getD i 0)]:=by
   rw[Nat.mul_one,arrA];rw[List.drop_eq_getElem_cons f3L,o];simp
  rw[e,Program.keyLits.eq_def];simp only[underlying270];have t:(Lit.int .u16 (zs.getD i 0)).wf=true:=z4s (by rw[o];exact h.2 _ (List.getElem_mem E));rw[if_pos ⟨trivial,t⟩]
def keyL(zs:List Int):Lit:=.string (keyBytes (((List.range 64).map fun i=>[Lit.int .u16 (zs.getD i 0)]).flatten))
theorem y3V{zs}(h:Good zs):keyOf prog 272 (.agg (arrA zs))=some (keyL zs):=by
 have X:(Value.agg (arrA zs)).formed prog 272=true:=by
  simp[Value.formed,underlying272,y3v,x1T,h.1]
 have E:∃n,prog.types.size+1=n+2:=⟨prog.types.size-1,m4z⟩;obtain⟨n,E⟩:=E;unfold keyOf;simp only[underlying272,y5A,X,Bool.and_self,if_true,Value.cells,E,y2v zs h n];rfl
theorem key_inj{xs ys}(J:Good xs)(hy:Good ys)(h:keyL xs=keyL ys):xs=ys:=by
 have Z:=y3V J;have D:=y3V hy;rw[<- h]at D;have R:=y3q.inj Z D;simp only[Value.agg.injEq,arrA]at R;have H:xs.map (Value.int .u16)=ys.map (Value.int .u16):=(by simpa using R);exact List.map_inj_right (fun a b e=>N5i) |>.1 H
theorem y8S{zs}(h:Good zs):WideAt.IsKeyLit (keyL zs):=y3q.key (y3V h)
def datA(i:Nat)(m:DataW Unit):List (List Int)->DataW Unit
 | []=>m
 | b::r=>datA (i+1) (m.put (keyL b) (.lit (.int .u16 (i:Int)))) r
def dat(bs:List (List Int)):DataW Unit:=datA 0 (.map []) bs
theorem y7E i(m:DataW Unit) bs b:datA i m (bs++[b])=(datA i m bs).put (keyL b) (.lit (.int .u16 ((i+bs.length:Nat):Int))):=by
 induction bs generalizing i m with
 | nil=>simp[datA]
 | cons x bs ih =>
  simp only[List.cons_append,datA];rw[ih];congr 3;simp only[List.length_cons];omega
theorem y3B bs b:dat (bs++[b])=(dat bs).put (keyL b) (.lit (.int .u16 (bs.length:Int))):=by
 rw[dat,y7E,Nat.zero_add];rfl
theorem y7F bs:IsMap (dat bs):=by
 have:∀(bs:List (List Int)) i m,IsMap m->IsMap (datA i m bs):=by
  intro bs
  induction bs with
  | nil=>exact fun i m h=>h
  | cons b bs ih=>exact fun i m h=>ih _ _ (h.put _ _)
 exact this bs 0 _ isMap_empty
theorem z5d n bs(s:bs.length=n)(C:∀b∈bs,Good b)(E:bs.Nodup) x(J:Good x) :
  Maps.has (dat bs) (keyL x)=decide (x∈bs)/\(x∈bs->∀z,(dat bs).atKey (keyL x) z=.lit (.int .u16 (bs.idxOf x:Int))):=by
 induction n generalizing bs with
 | zero =>
  rw[List.eq_nil_of_length_eq_zero s];exact⟨by simp[dat,datA,Maps.has],fun h=>m5j⟩
 | succ n ih =>
  obtain⟨bs,b,rfl⟩:∃L b,bs=L++[b]:=⟨bs.dropLast,bs.getLast (by intro h;rw[h]at s;cases s),(List.dropLast_concat_getLast _).symm⟩;have W:∀c∈bs,Good c:=fun c I=>C c (List.mem_append_left _ I);have Y:Good b:=C b M7K;rw[List.nodup_append]at E;obtain⟨K,N⟩:=ih bs (by simpa using s) W E.1;have v:b ∉ bs:=fun h=>E.2.2 b h b M7K rfl;rw[y3B];by_cases G:x=b
  ·subst G;refine⟨?_,fun _ z=>?_⟩
   ·rw[has_put_same (y7F bs) (y8S J)];simp
   ·rw[atKey_put_same (y7F bs) (y8S J)];have:(bs++[x]).idxOf x=bs.length:=(by grind);rw[this]
  ·have F:keyL x≠keyL b:=fun h=>G (key_inj J Y h);refine⟨?_,fun B z=>?_⟩
   ·rw[has_put_other F,K];simp[G]
   ·have A:x∈bs:=by
     rcases List.mem_append.1 B with h|h
     ·exact h
     ·simp at h;exact absurd h G
    rw[atKey_put_other F,N A];rw[List.idxOf_append,if_pos A]
theorem z7X bs(C:∀b∈bs,Good b)(E:bs.Nodup) x(J:Good x) :
  Maps.has (dat bs) (keyL x)=decide (x∈bs)/\(x∈bs->∀z,(dat bs).atKey (keyL x) z=.lit (.int .u16 (bs.idxOf x:Int))):=z5d _ bs rfl C E x J
end Go.Proofs.YtbmckadcjdedcaaGreatDoor.Ti
namespace Go.Proofs.YtbmckadcjdedcaaGreatDoor.Ti
open Go.Proofs.Tryz
open Go.RowKit
def x2j(bs:List (List Int)):List Value:=bs.flatten.map (Value.int .u16)
def x6e(bs:List (List Int)):Prop:=∀b∈bs,Good b
theorem z1T{bs}(h:x6e bs):bs.flatten.length=bs.length*64:=by
 induction bs with
 | nil=>rfl
 | cons b bs ih =>
  simp only[List.flatten_cons,List.length_append,List.length_cons];rw[ih (fun c I=>h c (List.mem_cons_of_mem _ I)),(h b M7K).1];omega
theorem x8T{bs}(h:x6e bs){i j}(hi:i<bs.length)(K:j<64):bs.flatten.getD (i*64+j) 0=(bs.getD i []).getD j 0:=by
 induction bs generalizing i with
 | nil=>exact v5E
 | cons b bs ih =>
  have Y:=(h b M7L).1
  cases i with
  | zero=>grind
  | succ i =>
   have Z:=ih (fun c I=>h c (List.mem_cons_of_mem _ I)) (i:=i) w3D;simp only[List.flatten_cons,List.getD_cons_succ];rw[<- Z,List.getD,List.getD,List.getElem?_append_right f6J];congr 2;omega
theorem y4I a b:x2j (a++b)=x2j a++x2j b:=by simp[x2j]
theorem x8I b:x2j [b]=b.map (Value.int .u16):=by simp[x2j]
def Ob(e:TypeId)(w:World)(B:Nat)(v:Value)(bs:List (List Int)):Prop:=x6e bs/\w.ownsRow B e 64 v bs.length (x2j bs)
def Sb(w:World)(v:Value)(bs:List (List Int)):Prop:=x6e bs /\
 ((bs=[]/\∃ao cap,v=.slice ao 0 cap/\cap<=9223372036854775807) \/
  ∃b off cap,v=.slice (some ⟨b,off,none⟩) bs.length cap/\bs.length<=cap/\cap<=9223372036854775807/\∀i,i<bs.length->w.rangeAt b (off+i*64) ((bs.getD i []).map (Value.int .u16)))
theorem Ob.sb{e w B v}{bs}(h:Ob e w B v bs):Sb w v bs:=by
 obtain⟨C,R⟩:=h;have I:=R;obtain⟨_,G⟩:=R;refine⟨C,?_⟩;rcases G with⟨rfl,A⟩|⟨g,M,T,N,P,a,E,t,q,Q⟩
 ·grind
 ·refine .inr ⟨g,0,M,N,E,v9x,fun i hi j x J=>?_⟩
  have S:j<64:=by
   have Z:=(List.getElem?_eq_some_iff.1 J).1;have D:=(C _ (Tri.getD_in hi)).1;rw[List.length_map,D]at Z;exact Z
  have U:=z1T C;have H:i*64+j<bs.flatten.length:=f6J
  have:=I.cells (g:=g) U5P (i*64+j) x (by
   rw[<- J,x2j,List.getElem?_map,List.getElem?_map];congr 1;have p:=x8T C hi S;have F:=(C _ (Tri.getD_in hi)).1;simp only[List.getD,List.getElem?_eq_getElem H,Option.getD_some]at p;rw[List.getElem?_eq_getElem H,p];simp only[List.getD]at F ⊢;rw[List.getElem?_eq_getElem f6J]
   simp)
  rw[addr_add]at this;rw[Nat.zero_add,<- this];simp
theorem Sb.shape{w v bs}(h:Sb w v bs):∃ao cap,v=.slice ao bs.length cap/\bs.length<=cap/\cap<=9223372036854775807:=by
 rcases h.2 with⟨rfl,ao,cap,N,z⟩|⟨b,P,cap,N,S,z,_⟩
 ·exact I7v
 ·exact S0K
theorem Sb.place{w v bs}(h:Sb w v bs)(A:0<bs.length):∃b off cap,v=.slice (some ⟨b,off,none⟩) bs.length cap/\bs.length<=cap/\cap<=9223372036854775807/\∀i,i<bs.length->w.rangeAt b (off+i*64) ((bs.getD i []).map (Value.int .u16)):=by
 rcases h.2 with⟨rfl,_⟩|h
 ·simp at A
 ·exact h
theorem x6b{w w':World}{B sz n e v xs}(h:w.ownsRow B e sz v n xs)(G:∀k,B<=k->k<w.heap.size->w'.heap[k]?=w.heap[k]?):w'.ownsRow B e sz v n xs:=by
 obtain⟨Z,D|⟨g,M,T,N,C,a,r⟩⟩:=h
 ·exact⟨Z,.inl D⟩
 ·refine⟨Z,.inr ⟨g,M,T,N,C,?_,r⟩⟩;rw[G g C (Array.getElem?_eq_some_iff.1 a).1];exact a
def T4(w:World)(B:Nat)(t:Value)(rs:List Tri.Rg)(d:Int):Prop :=
 Tri.Val 0 rs/\(0<=d/\d<=65535)/\∃g iv bv,t=.pointer (some ⟨g,0,none⟩)/\B<=g/\w.heap[g]?=some (.cells #[iv,bv,.int .i64 d] 269 (0,0)) /\
  Ok .u16 270 w B iv ((Tri.idx (Tri.get d rs)).map fun n:Nat=>(n:Int))/\Ob 272 w B bv (Tri.bls (Tri.get d rs))
theorem T4.keep{w w' B t}{rs:List Tri.Rg}{d}(h:T4 w B t rs d)(_:w.heap.size<=w'.heap.size)(G:∀k,B<=k->k<w.heap.size->w'.heap[k]?=w.heap[k]?):T4 w' B t rs d:=by
 obtain⟨Z,D,g,A,P,R,H,p,F,o⟩:=h;refine⟨Z,D,g,A,P,R,H,?_,⟨F.1,F.2.1,x6b F.2.2 G⟩,⟨o.1,x6b o.2 G⟩⟩;rw[G g H (Array.getElem?_eq_some_iff.1 p).1];exact p
theorem T4.below{w w' B t}{rs:List Tri.Rg}{d}(h:T4 w B t rs d)(Y:Bw w w'):T4 w' B t rs d:=h.keep Y.size fun k _ G=>Y.block k G
theorem T4.parts{w B t}{rs:List Tri.Rg}{d}(h:T4 w B t rs d):∃g Z P,t=.pointer (some ⟨g,0,none⟩) /\
  w.cell? ⟨g,0,none⟩=some Z/\w.cell? ⟨g,1,none⟩=some P/\w.cell? ⟨g,2,none⟩=some (.int .i64 d) /\
  Sk .u16 w Z ((Tri.idx (Tri.get d rs)).map fun n:Nat=>(n:Int))/\Sb w P (Tri.bls (Tri.get d rs)):=by
 obtain⟨A,D,g,Z,P,R,H,p,F,o⟩:=h;exact⟨g,Z,P,R,w5q,w5q,w5q,F.sk,o.sb⟩
theorem T4.get_ok{w B t}{rs:List Tri.Rg}{d}(h:T4 w B t rs d) c:0<=Tri.get d rs c/\Tri.get d rs c<=65535:=Tri.y0A h.2.1 h.1
theorem z8E(l:List Nat) p(L:p<l.length):((l.map fun n:Nat=>(n:Int)).getD p 0)=((l.getD p 0:Nat):Int):=by
 simp[List.getD,L]
theorem z1q f n:((Tri.blk f (n / 64)).map (Value.int .u16))[n%64]?=some (.int .u16 (f n)):=by
 have Z:=Tri.z3G f (n / 64) (n%64) f6J;rw[(f6J:64*(n / 64)+n%64=n)]at Z;have D:=Tri.y7e f (n / 64);have R:n%64<(Tri.blk f (n / 64)).length:=f6J;rw[<- Z,List.getElem?_map,List.getElem?_eq_getElem R];simp[List.getD,R]
theorem T4.at{w B t}{rs:List Tri.Rg}{d}(h:T4 w B t rs d) n(a:n<1114112):∃g R oi L D C M m A z,t=.pointer (some ⟨g,0,none⟩) /\
  w.cell? ⟨g,0,none⟩=some (.slice (some ⟨R,oi,none⟩) L D)/\w.cell? ⟨g,1,none⟩=some (.slice (some ⟨C,M,none⟩) m A)/\w.cell? ⟨g,2,none⟩=some (.int .i64 d) /\
  n / 64<L/\L<=20000/\L<=D/\D<=9223372036854775807/\z<m/\m<=20000/\m<=A/\A<=9223372036854775807 /\
  w.cell? ⟨R,oi+n / 64,none⟩=some (.int .u16 (z:Nat))/\w.cell? ⟨C,M+z*64+n%64,none⟩=some (.int .u16 (Tri.get d rs n)):=by
 obtain⟨g,Z,P,Q,l,j,K,hi,Y⟩:=h.parts;have U:((Tri.idx (Tri.get d rs)).map fun n:Nat=>(n:Int)).length=(Tri.idx (Tri.get d rs)).length:=List.length_map _;have b:=Tri.idx_len (Tri.get d rs);have T:=Tri.y7g (Tri.get d rs);have J:=Tri.y7f (Tri.get d rs) (n / 64) f6J;obtain⟨I,W⟩:=J;obtain⟨R,oi,D,rfl,N,S,X⟩:=hi.place f6J;have H:=X (n / 64) f6J;rw[z8E _ _ f6J]at H;obtain⟨C,M,A,rfl,E,F,s⟩:=Y.place f6J;have G:=s _ W;rw[I]at G;have y:=G (n%64) _ (z1q _ n);exact⟨g,R,oi,_,D,C,M,_,A,_,Q,l,j,K,f6J,f6J,N,S,W,f6J,E,F,H,y⟩
theorem get4 t(rs:List Tri.Rg) d c w(h:∃B,T4 w B t rs d)(I:Fi c):Calls prog 146 #[t,.int .i64 c] w (x1r w (Tri.get d rs c)):=by
 obtain⟨B,h⟩:=h;obtain⟨o,q⟩:=I;by_cases a:c<0
 ·obtain⟨g,Z,P,rfl,l,j,K,hi,Y⟩:=h.parts;rw[Tri.x6z h.1 a];exact I8s
 ·by_cases E:1114111<c
  ·obtain⟨g,Z,P,rfl,l,j,K,hi,Y⟩:=h.parts;rw[Tri.y8v h.1 E];exact I8s
  ·obtain⟨n,rfl⟩:∃n:Nat,c=(n:Int):=⟨c.toNat,f6J⟩;have Q:(n:Int).tdiv 64=((n / 64:Nat):Int):=(by grind);have U:(n:Int).tmod 64=((n%64:Nat):Int):=(by grind);obtain⟨F,N⟩:=h.get_ok n;obtain⟨g,R,W,L,D,C,M,m,A,z,rfl,l,j,K,u,S,p,b,f,i,T,J,H,y⟩:=h.at n f6J;have G:n%64<64:=Nat.mod_lt _ f6J;go_enter func146,ntmps146;go_wp2;go_quiet(fail);go_wp2;go_ret;exact⟨rfl,nq,rfl⟩
end Go.Proofs.YtbmckadcjdedcaaGreatDoor.Ti
namespace Go.Proofs.YtbmckadcjdedcaaGreatDoor.Ti
open Go.Proofs.Tryz
open Go.RowKit
theorem Tryz.info270:(prog.info? 270).map (fun i=>(i.zero,i.size,i.bytes))=some (some (.int .u16 0),1,2):=f4x
theorem x6D{zs:List Int}(h:zs.length=64):(prog.info? 272).map (·.size)=some (zs.map (Value.int .u16)).length:=by rw[List.length_map,h];exact f4x
def Zs:List Int:=List.replicate 64 0
theorem z7u:Zs.length=64:=by simp[Zs]
end Go.Proofs.YtbmckadcjdedcaaGreatDoor.Ti
