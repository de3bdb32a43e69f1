/- Lemmas. -/
import Derived.Test.YtkfcabdmkmljjaaGreatDoorH0
import Derived.Deep.QuietTactic
import Derived.BigQuiet
import Derived.Maps.AppendAt
import Derived.Laws.AppendOwnNone
import Derived.ChangeKeysEq
import Derived.Deep.WholeRow
import Derived.Deep.MidRow
import Derived.Deep.Cut
import Derived.Laws.Rows
import Derived.DeepKeys4
import Derived.Maps.Views
import Derived.Maps.OwnSet
import Derived.Lib.SliceRun
namespace Go.Proofs.YtkfcabdmkmljjaaGreatDoor
section
variable{p:Prop}
theorem v0k(h:p:=by rw[cell_of_row _ _ _ _ _ _ K];rfl):p:=h
theorem W5h(h:p:=by simp[rcells,x0A]at X;subst X;simp[Addr.add]):p:=h
theorem P1G(h:p:=by have S:=h.lt;unfold Blk at h ⊢;rw[Below.heap_alloc w o g S];exact h):p:=h
theorem e9U(h:p:=by rw[Nat.zero_add];exact⟨by rw[h.cell X];rfl,h.frozen j⟩):p:=h
theorem N9T(h:p:=by rw[heap_setCell_same w g i _ _ _ h];simp[arrA,List.map_set]):p:=h
theorem E2f(h:p:=by simp only[World.cell?,h];simp[arrA,List.getD,hi]):p:=h
theorem R7Q(h:p:=by simp only[x6V,x9q];exact f6J):p:=h
theorem P0q(h:p:=by go_enter func38,ntmps38;go_wp2;go_ret;exact⟨rfl,0,rfl⟩):p:=h
theorem f5W(h:p:=by first| rfl | trivial):p:=h
theorem i6c(h:p:=by rintro⟨⟨_,_,_,_,_,J⟩,H⟩;exact⟨J.mono f6J,H⟩):p:=h
theorem f9c(h:p:=by simp[ab]):p:=h
end
end Go.Proofs.YtkfcabdmkmljjaaGreatDoor
namespace Go.Proofs.YtkfcabdmkmljjaaGreatDoor.Ti.Tri
set_option linter.unusedSimpArgs false
abbrev Rg:=Int×Int×Int
def lo(r:Rg):Int:=r.1
def hi(r:Rg):Int:=r.2.1
def vl(r:Rg):Int:=r.2.2
theorem x6V a b c:lo (a,b,c)=a:=rfl
theorem x9q a b c:hi (a,b,c)=b:=rfl
theorem vl_mk a b c:vl (a,b,c)=c:=rfl
def get(d:Int):List Rg->Int->Int
 | [],_=>d
 | r::rs,c=>if lo r<=c/\c<=hi r then vl r else get d rs c
theorem y9c d a b v(rs:List Rg) c:get d ((a,b,v)::rs) c=if a<=c/\c<=b then v else get d rs c:=rfl
theorem x1q d(r:Rg)(rs:List Rg) c:get d (r::rs) c=if lo r<=c/\c<=hi r then vl r else get d rs c:=rfl
def bad(p:Option Int)(r:Rg):Int :=
 if lo r<0\/1114111<hi r\/hi r<lo r then 40
 else if vl r<0\/65535<vl r then 42
 else match p with
  | none=>0
  | some h=>if lo r<=h then 41 else 0
def x1w(d:Int):Nat->Option Int->List Rg->Int×Int
 | i,_,[]=>if d<0\/65535<d then((i:Int),42)else(0,0)
 | i,p,r::rs=>if bad p r=0 then x1w d (i+1) (some (hi r)) rs else((i:Int),bad p r)
def check(d:Int)(rs:List Rg):Int×Int:=x1w d 0 none rs
def Val:Int->List Rg->Prop
 | _,[]=>True
 | b,r::rs=>b<=lo r/\lo r<=hi r/\hi r<=1114111/\0<=vl r/\vl r<=65535/\Val (hi r+1) rs
theorem Val.mono{b b'}{rs:List Rg}(h:Val b rs)(Y:b'<=b):Val b' rs:=by
 cases rs with
 | nil=>trivial
 | cons r rs=>exact⟨Int.le_trans Y h.1,h.2⟩
theorem y7Z d i(p:Option Int)(rs:List Rg):(x1w d i p rs).2=0↔(Val (match p with | none=>0 | some h=>max 0 (h+1)) rs/\0<=d/\d<=65535):=by
 induction rs generalizing i p with
 | nil =>
  simp only[x1w,Val,true_and];split
  ·exact f4R
  ·exact f4R
 | cons r rs ih =>
  simp only[x1w];by_cases Y:bad p r=0
  ·rw[if_pos Y,ih];unfold bad at Y;split at Y
   ·simp at Y
   ·rename_i Z
    split at Y
    ·simp at Y
    ·rename_i D
     cases p with
     | none =>
      simp only[Val];constructor
      ·rintro⟨J,H⟩;exact⟨⟨f6J,f6J,f6J,f6J,f6J,J.mono f6J⟩,H⟩
      ·exact i6c
     | some h =>
      simp only at Y;split at Y
      ·simp at Y
      ·simp only[Val];constructor
       ·grind
       ·exact i6c
  ·rw[if_neg Y];constructor
   ·intro h;exact absurd h Y
   ·rintro⟨⟨Z,D,J,H,K,_⟩,_⟩;exfalso;apply Y;unfold bad
    cases p with
    | none=>simp only at Z;rw[if_neg f6J,if_neg f6J]
    | some h=>simp only at Z;rw[if_neg f6J,if_neg f6J];simp only;rw[if_neg f6J]
theorem x3X{d}{rs:List Rg}:(check d rs).2=0↔Val 0 rs/\0<=d/\d<=65535:=y7Z d 0 none rs
theorem x4I{d} i(p:Option Int)(rs:List Rg)(h:(x1w d i p rs).2=0):(x1w d i p rs).1=0:=by
 induction rs generalizing i p with
 | nil =>
  simp only[x1w]at h ⊢;split at h
  ·simp at h
  ·rename_i h1;rw[if_neg h1]
 | cons r rs ih =>
  simp only[x1w]at h ⊢;by_cases Y:bad p r=0
  ·grind
  ·grind
theorem x6J{d b c}{rs:List Rg}(h:Val b rs)(I:c<b):get d rs c=d:=by
 induction rs generalizing b with
 | nil=>rfl
 | cons r rs ih =>
  obtain⟨Z,D,J,H,K,y⟩:=h;simp only[get];rw[if_neg f6J];exact ih y f6J
theorem y0U{d c}(hd:0<=d/\d<=65535){b}{rs:List Rg}(h:Val b rs):0<=get d rs c/\get d rs c<=65535:=by
 induction rs generalizing b with
 | nil=>exact hd
 | cons r rs ih =>
  obtain⟨Z,D,J,H,K,y⟩:=h;simp only[get];split
  ·omega
  ·exact ih y
theorem y9a{d c b}{rs:List Rg}(h:Val b rs)(I:1114111<c):get d rs c=d:=by
 induction rs generalizing b with
 | nil=>rfl
 | cons r rs ih =>
  obtain⟨Z,D,J,H,K,y⟩:=h;simp only[get];rw[if_neg f6J];exact ih y
def cutA(d:Int):Int->List Rg->List Int->List Rg
 | _,[],_=>[]
 | at_,r::rs,ks =>
  let k:=ks.headD 1
  (if k%3=0/\at_<lo r then[(at_+k%(lo r-at_),lo r-1,d)]else[]) ++
   (if lo r<hi r then[(lo r,lo r+k%(hi r-lo r),vl r),(lo r+k%(hi r-lo r)+1,hi r,vl r)]else[r])++cutA d (hi r+1) rs ks.tail
theorem z4V{d}(hd:0<=d/\d<=65535)(rs:List Rg) at_ ks(h:Val at_ rs)(R:0<=at_):Val at_ (cutA d at_ rs ks)/\∀c,get d (cutA d at_ rs ks) c=get d rs c:=by
 induction rs generalizing at_ ks with
 | nil=>exact⟨trivial,fun c=>rfl⟩
 | cons r rs ih =>
  obtain⟨J,P,f,X,t,A⟩:=h;obtain⟨D,H⟩:=ih (hi r+1) ks.tail A f6J;simp only[cutA];generalize ks.headD 1=k;have o:∀m:Int,0<m->0<=k%m/\k%m<m:=fun m F=>⟨Int.emod_nonneg _ f6J,Int.emod_lt_of_pos _ F⟩
  have B:Val (lo r) ((if lo r<hi r then[(lo r,lo r+k%(hi r-lo r),vl r),(lo r+k%(hi r-lo r)+1,hi r,vl r)]else[r])++cutA d (hi r+1) rs ks.tail) /\
    ∀c,get d ((if lo r<hi r then[(lo r,lo r+k%(hi r-lo r),vl r),(lo r+k%(hi r-lo r)+1,hi r,vl r)]else[r])++cutA d (hi r+1) rs ks.tail) c=get d (r::rs) c:=by
   by_cases E:lo r<hi r
   ·rw[if_pos E];have G:=o (hi r-lo r) f6J;generalize k%(hi r-lo r)=q at *;refine⟨⟨by simp[x6V],R7Q,R7Q,X,t,R7Q,R7Q,f,X,t,D⟩,fun c=>?_⟩;simp only[List.cons_append,List.nil_append];rw[y9c,y9c,H,x1q];by_cases y:lo r<=c/\c<=hi r
    ·omega
    ·omega
   ·rw[if_neg E];refine⟨⟨f6J,P,f,X,t,D⟩,fun c=>?_⟩;simp only[List.cons_append,List.nil_append];rw[x1q,x1q,H]
  rw[List.append_assoc];obtain⟨I,r2⟩:=B;by_cases C:k%3=0/\at_<lo r
  ·rw[if_pos C];have G:=o (lo r-at_) f6J;refine⟨⟨by simp only[x6V];exact f6J,R7Q,R7Q,hd.1,hd.2,I.mono R7Q⟩,fun c=>?_⟩;simp only[List.cons_append,List.nil_append];rw[y9c];split
   ·rename_i hc
    rw[x1q,if_neg f6J];exact(x6J A f6J).symm
   ·exact r2 c
  ·rw[if_neg C];exact⟨I.mono f6J,r2⟩
end Go.Proofs.YtkfcabdmkmljjaaGreatDoor.Ti.Tri
namespace Go.Proofs.YtkfcabdmkmljjaaGreatDoor.Ti
open Go.Proofs.Tryz
open Go.RowKit
def Sz(sz:Nat)(w:World)(v:Value)(len:Nat)(us:List Value):Prop :=
 us.length=len*sz/\len<=5864062014805 /\
  ((len=0/\∃ao cap,v=.slice ao 0 cap/\cap<=9223372036854775807/\(ao=none->cap=0)) \/
   ∃b off cap,v=.slice (some ⟨b,off,none⟩) len cap/\len<=cap/\cap<=9223372036854775807/\∀i,i<len*sz->w.cell? ⟨b,off+i,none⟩=some (us.getD i undef))
theorem Sz.below{sz len w w' v us}(h:Sz sz w v len us)(Y:Bw w w'):Sz sz w' v len us:=by
 obtain⟨Z,D,J⟩:=h;refine⟨Z,D,?_⟩;exact n1Z
theorem Sz.shape{sz len w v us}(h:Sz sz w v len us):∃ao cap,v=.slice ao len cap/\len<=cap/\cap<=9223372036854775807:=by
 rcases h.2.2 with⟨rfl,ao,cap,N,o,_⟩ | ⟨b,P,cap,N,S,o,_⟩
 ·exact w2I
 ·exact r6l
theorem Sz.place{sz len w v us}(h:Sz sz w v len us)(t:0<len) :
  ∃b off cap,v=.slice (some ⟨b,off,none⟩) len cap/\len<=cap/\cap<=9223372036854775807/\∀i,i<len*sz->w.cell? ⟨b,off+i,none⟩=some (us.getD i undef):=by
 rcases h.2.2 with⟨rfl,_⟩ | h
 ·omega
 ·exact h
def x0A(r:Tri.Rg):List Value:=[.int .i64 (Tri.lo r),.int .i64 (Tri.hi r),.int .i64 (Tri.vl r)]
def rcells:List Tri.Rg->List Value
 | []=>[]
 | r::rs=>x0A r++rcells rs
theorem x1K(rs:List Tri.Rg):(rcells rs).length=rs.length*3:=by
 induction rs with
 | nil=>rfl
 | cons r rs ih=>simp[rcells,x0A,ih];omega
theorem x2f(a b:List Tri.Rg):rcells (a++b)=rcells a++rcells b:=by
 induction a with
 | nil=>rfl
 | cons r a ih=>simp[rcells,ih]
theorem y2Z(rs:List Tri.Rg) k:(rcells rs).take (k*3)=rcells (rs.take k):=by
 induction rs generalizing k with
 | nil=>simp[rcells]
 | cons r rs ih =>
  cases k with
  | zero=>simp[rcells]
  | succ k =>
   have:=ih k;simp only[rcells,x0A,List.take_succ_cons,(f6J:(k+1)*3=k*3+1+1+1),List.cons_append,List.nil_append];rw[this]
theorem x1s(rs:List Tri.Rg) i(hi:i<rs.length):(rcells rs).getD (i*3) undef=.int .i64 (Tri.lo (rs.getD i (0,0,0)))/\(rcells rs).getD (i*3+1) undef=.int .i64 (Tri.hi (rs.getD i (0,0,0)))/\(rcells rs).getD (i*3+2) undef=.int .i64 (Tri.vl (rs.getD i (0,0,0))):=by
 induction rs generalizing i with
 | nil=>exact v5E
 | cons r rs ih =>
  cases i with
  | zero=>exact⟨rfl,rfl,rfl⟩
  | succ i =>
   have:=ih i w3z;have e:∀j,(rcells (r::rs)).getD (j+3) undef=(rcells rs).getD j undef:=fun j=>rfl;rw[(f6J:(i+1)*3=i*3+3),(f6J:i*3+3+1=(i*3+1)+3),(f6J:i*3+3+2=(i*3+2)+3),e,e,e];exact this
def Fi(z:Int):Prop:=-9223372036854775808<=z/\z<=9223372036854775807
def FitR(rs:List Tri.Rg):Prop:=∀r∈rs,Fi (Tri.lo r)/\Fi (Tri.hi r)/\Fi (Tri.vl r)
theorem FitR.at{rs:List Tri.Rg}(h:FitR rs) i:Fi (Tri.lo (rs.getD i (0,0,0)))/\Fi (Tri.hi (rs.getD i (0,0,0)))/\Fi (Tri.vl (rs.getD i (0,0,0))):=by
 rcases Nat.lt_or_ge i rs.length with hi | hi
 ·exact e4m
 ·simp only[List.getD,List.getElem?_eq_none hi,Option.getD_none];simp[Fi,Tri.lo,Tri.hi,Tri.vl]
def Sr(w:World)(v:Value)(rs:List Tri.Rg):Prop:=FitR rs/\Sz 3 w v rs.length (rcells rs)
theorem Sr.below{w w' v}{rs:List Tri.Rg}(h:Sr w v rs)(Y:Bw w w'):Sr w' v rs:=⟨h.1,h.2.below Y⟩
theorem Sr.shape{w v}{rs:List Tri.Rg}(h:Sr w v rs):∃ao cap,v=.slice ao rs.length cap/\rs.length<=cap/\cap<=9223372036854775807:=h.2.shape
theorem Sr.len{w v}{rs:List Tri.Rg}(h:Sr w v rs):rs.length<=5864062014805:=h.2.2.1
theorem Sr.place{w v}{rs:List Tri.Rg}(h:Sr w v rs)(t:0<rs.length) :
  ∃b off cap,v=.slice (some ⟨b,off,none⟩) rs.length cap/\rs.length<=cap/\cap<=9223372036854775807/\∀i,i<rs.length ->
   w.cell? ⟨b,off+i*3,none⟩=some (.int .i64 (Tri.lo (rs.getD i (0,0,0))))/\w.cell? ⟨b,off+i*3+1,none⟩=some (.int .i64 (Tri.hi (rs.getD i (0,0,0))))/\w.cell? ⟨b,off+i*3+2,none⟩=some (.int .i64 (Tri.vl (rs.getD i (0,0,0)))):=by
 obtain⟨b,off,cap,Z,D,J,H⟩:=h.2.place t;refine⟨b,off,cap,Z,D,J,fun i hi=>?_⟩;have u:=x1s rs i hi;have x:=H (i*3) f6J;have M:=H (i*3+1) f6J;have o:=H (i*3+2) f6J;rw[u.1]at x;rw[u.2.1]at M;rw[u.2.2]at o;exact⟨x,M,o⟩
end Go.Proofs.YtkfcabdmkmljjaaGreatDoor.Ti
namespace Go.Proofs.YtkfcabdmkmljjaaGreatDoor.Ti
open Go.Proofs.Tryz
open Go.RowKit
end Go.Proofs.YtkfcabdmkmljjaaGreatDoor.Ti
namespace Go.Proofs.YtkfcabdmkmljjaaGreatDoor.Ti
open Go.Proofs.Tryz
open Go.RowKit
def x2l(w:World)(r:Int×Int)(e:Ending)(w':World):Prop:=e=.returned (.tuple #[.int .i64 r.1,.int .i64 r.2])/\Below w.heap.size w w'
theorem x2l.mk{w w'}{r:Int×Int}{a b}(h:r=(a,b))(Y:Bw w w'):x2l w r (.returned (.tuple #[.int .i64 a,.int .i64 b])) w':=E1n
def prv(rs:List Tri.Rg):Nat->Option Int
 | 0=>none
 | k+1=>some (Tri.hi (rs.getD k (0,0,0)))
theorem y5o{d}{rs:List Tri.Rg}{k}(G:k<rs.length):Tri.x1w d k (prv rs k) (rs.drop k)=if Tri.bad (prv rs k) (rs.getD k (0,0,0))=0 then Tri.x1w d (k+1) (prv rs (k+1)) (rs.drop (k+1))else((k:Int),Tri.bad (prv rs k) (rs.getD k (0,0,0))):=by
 rw[List.drop_eq_getElem_cons G];have e:rs.getD k (0,0,0)=rs[k]:=(by grind);have E:prv rs (k+1)=some (Tri.hi rs[k]):=(by rw[<- e];rfl);rw[E,e];simp only[Tri.x1w]
theorem x6u{p:Option Int}{r:Tri.Rg}(h:Tri.lo r<0\/1114111<Tri.hi r\/Tri.hi r<Tri.lo r):Tri.bad p r=40:=by unfold Tri.bad;rw[if_pos h]
theorem y7C{p:Option Int}{r:Tri.Rg}(h:¬(Tri.lo r<0\/1114111<Tri.hi r\/Tri.hi r<Tri.lo r))(D:Tri.vl r<0\/65535<Tri.vl r):Tri.bad p r=42:=by unfold Tri.bad;rw[if_neg h,if_pos D]
theorem y7B{x}{r:Tri.Rg}(h:¬(Tri.lo r<0\/1114111<Tri.hi r\/Tri.hi r<Tri.lo r))(D:¬(Tri.vl r<0\/65535<Tri.vl r))(J:Tri.lo r<=x):Tri.bad (some x) r=41:=by unfold Tri.bad;rw[if_neg h,if_neg D];simp only;rw[if_pos J]
theorem z2f{x}{r:Tri.Rg}(h:¬(Tri.lo r<0\/1114111<Tri.hi r\/Tri.hi r<Tri.lo r))(D:¬(Tri.vl r<0\/65535<Tri.vl r))(J:¬Tri.lo r<=x):Tri.bad (some x) r=0:=by unfold Tri.bad;rw[if_neg h,if_neg D];simp only;rw[if_neg J]
end Go.Proofs.YtkfcabdmkmljjaaGreatDoor.Ti
namespace Go.Proofs.YtkfcabdmkmljjaaGreatDoor.Ti
open Go.Proofs.Tryz
open Go.RowKit
theorem Tryz.info272:(prog.info? 272).map (fun i=>(i.zero,i.size,i.bytes))=some (some (.agg #[.int .i64 0,.int .i64 0,.int .i64 0]),3,24):=f4x
def Or4(w:World)(B:Nat)(v:Value)(rs:List Tri.Rg):Prop:=FitR rs/\rs.length<=5864062014805/\w.ownsRow B 272 3 v rs.length (rcells rs)
theorem Or4.sr{w B v}{rs:List Tri.Rg}(h:Or4 w B v rs):Sr w v rs:=by
 obtain⟨Z,D,J⟩:=h;have P:=J;obtain⟨_,I⟩:=J;refine⟨Z,x1K rs,D,?_⟩;rcases I with⟨rfl,R⟩ | ⟨g,M,Q,N,C,H,F,G,f,U⟩
 ·grind
 ·refine .inr ⟨g,0,M,N,F,V3H,fun i hi=>?_⟩;have S:=x1K rs;have:=P.cells (g:=g) U5P i ((rcells rs).getD i undef) (by simp[List.getD,(f6J:i<(rcells rs).length)]);rw[addr_add]at this;exact this
theorem Or4.nil w B:Or4 w B (.slice none 0 0) []:=⟨fun r hr=>by simp at hr,M7K,World.ownsRow_nil _ _ _ _⟩
theorem x8L{w w' B sz e v}{n xs}(h:w.ownsRow B e sz v n xs)(Y:Bw w w'):w'.ownsRow B e sz v n xs:=by
 refine h.kept (row:=none) ⟨Y.os,Y.tape,Y.output,Y.size,fun k G _=>Y.block k G⟩ ?_
 exact W0k
theorem Or4.below{w w' B v}{rs:List Tri.Rg}(h:Or4 w B v rs)(Y:Bw w w'):Or4 w' B v rs:=⟨h.1,h.2.1,x8L h.2.2 Y⟩
theorem x4W(rs:List Tri.Rg):∀u∈rcells rs,u.oneCell'=true:=by
 induction rs with
 | nil=>intro u hu;simp[rcells]at hu
 | cons r rs ih =>
  intro u hu;simp only[rcells,x0A,List.mem_append,List.mem_cons,List.mem_nil_iff,or_false]at hu;rcases hu with(rfl | rfl | rfl) | hu
  ·rfl
  ·rfl
  ·rfl
  ·exact ih u hu
end Go.Proofs.YtkfcabdmkmljjaaGreatDoor.Ti
namespace Go.Proofs.YtkfcabdmkmljjaaGreatDoor.Ti
open Go.Proofs.Tryz
open Go.RowKit
end Go.Proofs.YtkfcabdmkmljjaaGreatDoor.Ti
namespace Go.Proofs.YtkfcabdmkmljjaaGreatDoor.Ti
open Go.Proofs.Tryz
open Go.RowKit
theorem q1m{b}{rs:List Tri.Rg}(h:Tri.Val b rs)(Y:0<=b) k(G:k<rs.length):0<=Tri.lo (rs.getD k (0,0,0))/\Tri.lo (rs.getD k (0,0,0))<=Tri.hi (rs.getD k (0,0,0))/\Tri.hi (rs.getD k (0,0,0))<=1114111/\0<=Tri.vl (rs.getD k (0,0,0))/\Tri.vl (rs.getD k (0,0,0))<=65535:=by
 induction rs generalizing b k with
 | nil=>simp at G
 | cons r rs ih =>
  obtain⟨Z,D,J,H,K,y⟩:=h
  cases k with
  | zero=>grind
  | succ k=>grind
def y7q(w:World)(rs:List Tri.Rg)(e:Ending)(w':World):Prop:=∃v,e=.returned v/\Or4 w' w.heap.size v rs/\Below w.heap.size w w'
theorem y7P(w:World)(r:Tri.Rg):∀(j:Nat) (u:Value),(rcells [r])[j]?=some u->(w.alloc (.cells #[.int .i64 (Tri.lo r),.int .i64 (Tri.hi r),.int .i64 (Tri.vl r)] 272)).cell? ((⟨w.heap.size,0,none⟩:Addr).add j)=some u:=by
 intro j u X
 match j,X with
 | 0,X=>exact W5h
 | 1,X=>exact W5h
 | 2,X=>exact W5h
 | j+3,X=>simp[rcells,x0A]at X
end Go.Proofs.YtkfcabdmkmljjaaGreatDoor.Ti
namespace Go.Proofs.YtkfcabdmkmljjaaGreatDoor.Ti.Tri
def blk(f:Int->Int)(p:Nat):List Int:=(List.range 64).map fun i=>f ((64*p+i:Nat):Int)
def pcs(f:Int->Int):List (List Int):=(List.range 17408).map (blk f)
def push(bs:List (List Int))(b:List Int):List (List Int):=if b∈bs then bs else bs++[b]
def idxA:List (List Int)->List (List Int)->List Nat
 | _,[]=>[]
 | bs,b::r=>bs.idxOf b::idxA (push bs b) r
def blkA:List (List Int)->List (List Int)->List (List Int)
 | bs,[]=>bs
 | bs,b::r=>blkA (push bs b) r
def idx(f:Int->Int):List Nat:=idxA [] (pcs f)
def bls(f:Int->Int):List (List Int):=blkA [] (pcs f)
theorem y3K bs a b:blkA bs (a++b)=blkA (blkA bs a) b:=by
 induction a generalizing bs with
 | nil=>rfl
 | cons x a ih=>simp only[List.cons_append,blkA,ih]
theorem z0z{bs b}(h:b∈bs):push bs b=bs:=by unfold push;rw[if_pos h]
theorem x4U f:(pcs f).length=17408:=by simp[pcs]
theorem z3i bs ps:(idxA bs ps).length=ps.length:=by
 induction ps generalizing bs with
 | nil=>rfl
 | cons p ps ih=>simp[idxA,ih]
theorem idx_len f:(idx f).length=17408:=by rw[idx,z3i,x4U]
theorem y3L bs ps:bs.length<=(blkA bs ps).length/\(blkA bs ps).length<=bs.length+ps.length:=by
 induction ps generalizing bs with
 | nil=>simp[blkA]
 | cons p ps ih =>
  have:=ih (push bs p);have D:bs.length<=(push bs p).length/\(push bs p).length<=bs.length+1:=(by unfold push;exact f1X);simp only[blkA,List.length_cons];omega
theorem y7K f:(bls f).length<=17408:=by
 have:=y3L [] (pcs f);rw[x4U]at this;simpa[bls]using this.2
end Go.Proofs.YtkfcabdmkmljjaaGreatDoor.Ti.Tri
namespace Go.Proofs.YtkfcabdmkmljjaaGreatDoor.Ti
open Go.Proofs.Tryz
open Go.RowKit
def z5z(w:World)(n:Int)(e:Ending)(w':World):Prop:=e=.returned (.int .i64 n)/\Below w.heap.size w w'
def x1a(w:World)(n:Int)(e:Ending)(w':World):Prop:=e=.returned (.int .i64 n)/\∃m,w'=w.drewN m
def x6p(T:World->Value->List Tri.Rg->Int->Prop)(w:World)(rs:List Tri.Rg)(d:Int)(e:Ending)(w':World):Prop :=
 Below w.heap.size w w'/\(((Tri.check d rs).2=0/\∃a,e=.returned (.tuple #[.pointer (some a),.int .i64 0,.int .i64 0])/\T w' (.pointer (some a)) rs d) \/
  ((Tri.check d rs).2≠0/\e=.returned (.tuple #[.pointer none,.int .i64 (Tri.check d rs).1,.int .i64 (Tri.check d rs).2])))
end Go.Proofs.YtkfcabdmkmljjaaGreatDoor.Ti
namespace Go.Proofs.YtkfcabdmkmljjaaGreatDoor.Ti
open Go.Proofs.Tryz
open Go.RowKit
def arrA(zs:List Int):Array Value:=(zs.map (Value.int .u16)).toArray
theorem x1L zs:(arrA zs).size=zs.length:=by simp[arrA]
theorem x8Y zs:(arrA zs).all (·.oneCell')=true:=by
 simp[arrA,Value.oneCell']
def Box(w:World)(g:Nat)(zs:List Int):Prop:=w.rangeAt g 0 (zs.map (Value.int .u16))
end Go.Proofs.YtkfcabdmkmljjaaGreatDoor.Ti
namespace Go.Proofs.YtkfcabdmkmljjaaGreatDoor.Ti.Tri
theorem push_len bs p:(push bs p).length=if bs.idxOf p=bs.length then bs.length+1 else bs.length:=by
 unfold push;by_cases h:p∈bs
 ·grind
 ·grind
theorem z7G bs p:(push bs p).getD (bs.idxOf p) []=p/\bs.idxOf p<(push bs p).length:=by
 unfold push;by_cases h:p∈bs
 ·grind
 ·grind
theorem y9k bs ps i(hi:i<ps.length):(idxA bs ps).getD i 0=(blkA bs (ps.take i)).idxOf (ps.getD i []):=by
 induction ps generalizing bs i with
 | nil=>exact v5E
 | cons p ps ih =>
  cases i with
  | zero=>simp[idxA,blkA]
  | succ i =>
   have:=ih (push bs p) i w3y;simpa[idxA,blkA]using this
theorem y0s(bs ps:List (List Int)) i(hi:i<ps.length):blkA bs (ps.take (i+1))=push (blkA bs (ps.take i)) (ps.getD i []):=by
 have h:ps.take (i+1)=ps.take i++[ps.getD i []]:=f0h;rw[h,y3K];rfl
def nx(f:Int->Int)(i:Nat):Nat:=(blkA [] ((pcs f).take i)).length
theorem y6w{bs p}(h:bs.Nodup):(push bs p).Nodup:=by
 unfold push;split
 ·exact h
 ·grind
theorem y5g{bs ps}(h:bs.Nodup):(blkA bs ps).Nodup:=by
 induction ps generalizing bs with
 | nil=>exact h
 | cons p ps ih=>exact ih (y6w h)
theorem getD_in{l:List (List Int)}{i}(hi:i<l.length):l.getD i []∈l:=by grind
theorem y6v bs p i(hi:i<bs.length):(push bs p).getD i []=bs.getD i []/\i<(push bs p).length:=by
 unfold push;split
 ·exact⟨rfl,hi⟩
 ·grind
theorem y5f bs ps i(hi:i<bs.length):(blkA bs ps).getD i []=bs.getD i []/\i<(blkA bs ps).length:=by
 induction ps generalizing bs with
 | nil=>exact⟨rfl,hi⟩
 | cons p ps ih =>
  have Z:=y6v bs p i hi;have D:=ih (push bs p) Z.2;exact⟨by simp only[blkA];rw[D.1,Z.1],D.2⟩
theorem y7J f p(s:p<17408):(bls f).getD ((idx f).getD p 0) []=blk f p/\(idx f).getD p 0<(bls f).length:=by
 have S:=x4U f;have e:pcs f=(pcs f).take (p+1)++(pcs f).drop (p+1):=(List.take_append_drop _ _).symm
 have Y:bls f=blkA (push (blkA [] ((pcs f).take p)) ((pcs f).getD p [])) ((pcs f).drop (p+1)):=by
  unfold bls
  conv=>lhs;rw[e]
  rw[y3K,y0s _ _ _ f6J]
 have hi:(idx f).getD p 0=(blkA [] ((pcs f).take p)).idxOf ((pcs f).getD p []):=(by rw[idx,y9k _ _ _ f6J]);have g:=z7G (blkA [] ((pcs f).take p)) ((pcs f).getD p []);have z:=y5f _ ((pcs f).drop (p+1)) _ g.2;rw[Y,hi];refine⟨?_,z.2⟩;rw[z.1,g.1];simp[pcs,List.getD,s]
theorem y7I f p:(blk f p).length=64:=by simp[blk]
theorem z4Q f p i(hi:i<64):(blk f p).getD i 0=f ((64*p+i:Nat):Int):=by simp[blk,List.getD,hi]
theorem push_sub{bs p x}(h:x∈push bs p):x∈bs\/x=p:=by
 unfold push at h;split at h
 ·exact .inl h
 ·grind
theorem blkA_sub{bs ps x}(h:x∈blkA bs ps):x∈bs\/x∈ps:=by
 induction ps generalizing bs with
 | nil=>exact .inl h
 | cons p ps ih =>
  rcases ih h with h1 | h1
  ·rcases push_sub h1 with h2 | h2
   ·exact .inl h2
   ·exact .inr (by simp[h2])
  ·grind
end Go.Proofs.YtkfcabdmkmljjaaGreatDoor.Ti.Tri
namespace Go.Proofs.YtkfcabdmkmljjaaGreatDoor.Ti
open Go.Proofs.Tryz
open Go.RowKit
def Blk(w:World)(g:Nat)(zs:List Int):Prop:=w.heap[g]?=some (.cells (arrA zs) 146 (0,0))
theorem Blk.lt{w g zs}(h:Blk w g zs):g<w.heap.size:=by
 have:=Array.getElem?_eq_some_iff.1 h;exact this.1
theorem Blk.cell{w g zs}(h:Blk w g zs){i}(hi:i<zs.length):w.cell? ⟨g,i,none⟩=some (.int .u16 (zs.getD i 0)):=by
 unfold Blk at h;exact E2f
theorem Blk.frozen{w g zs}(h:Blk w g zs) i:w.frozen? ⟨g,i,none⟩=false:=by
 unfold Blk at h;simp[World.frozen?,h]
theorem Blk.set{w g zs}(h:Blk w g zs) i v:Blk (w.setCell ⟨g,i,none⟩ (.int .u16 v)) g (zs.set i v):=by
 unfold Blk at h ⊢;exact N9T
theorem Blk.other{w g zs}(h:Blk w g zs){a}(t:g≠a.block) v:Blk (w.setCell a v) g zs:=by
 unfold Blk at h ⊢;rw[heap_setCell_other w a g v t];exact h
theorem Blk.new(w:World) zs C(o:C=arrA zs):Blk (w.alloc (.cells C 146)) w.heap.size zs:=by
 subst o;exact heap_alloc_last w _
theorem Blk.alloc{w g zs}(h:Blk w g zs) o:Blk (w.alloc o) g zs:=P1G
theorem Blk.there{w g zs}(h:Blk w g zs):w.there g 0 zs.length:=fun j X=>e9U
theorem x9Y{fn}{p:Tmp}{ty}(h:fn.results=#[.cell p ty]) tmps P w :
  (results fn tmps).run P w=((asAddr (tmps.getD p undef)).run P w).andThen fun a w₁=>(loadVar ty a).run P w₁:=by
 simp only[results,h];simp[Sem.run_bind,Result.andThen]
theorem x2t{fn p ty}(h:fn.results=#[.cell p ty]) tmps P w g v(s:tmps.getD p undef=.pointer (some ⟨g,0,none⟩))(f:(loadVar ty ⟨g,0,none⟩).run P w=.ok v w) :
  (results fn tmps).run P w=.ok v w:=by
 rw[x9Y h,s];simp[asAddr,Result.andThen,f]
namespace Tri
theorem q1n{b}{rs:List Rg}(h:Val b rs) k(G:k<rs.length):b<=lo (rs.getD k (0,0,0)):=by
 induction rs generalizing b k with
 | nil=>simp at G
 | cons r rs ih =>
  obtain⟨Z,D,J,H,K,y⟩:=h
  cases k with
  | zero=>exact Z
  | succ k=>grind
theorem z3g{b d c}{rs:List Rg}(A:Val b rs) k(G:k<rs.length):get d (rs.take (k+1)) c=if lo (rs.getD k (0,0,0))<=c/\c<=hi (rs.getD k (0,0,0))then vl (rs.getD k (0,0,0))else get d (rs.take k) c:=by
 induction rs generalizing b k with
 | nil=>simp at G
 | cons r rs ih =>
  obtain⟨Z,D,J,H,K,y⟩:=A
  cases k with
  | zero =>
   simp only[List.take_succ_cons,List.take_zero,List.getD_cons_zero,x1q]
  | succ k =>
   have B:k<rs.length:=E9n;have:=ih y k B;simp only[List.take_succ_cons,List.getD_cons_succ,x1q];rw[this];by_cases I:lo r<=c/\c<=hi r
   ·rw[if_pos I];have N:hi r+1<=lo (rs.getD k (0,0,0)):=q1n y k B;rw[if_neg f6J,if_pos I]
   ·omega
end Tri
theorem x8P(zs:List Int) i j v(hi:i<zs.length):(zs.set i v).getD j 0=if j=i then v else zs.getD j 0:=by grind
theorem x0E{B g:Nat}{a:World}(Y:B<=g):∀(T:List Value) (o:Nat) (w:World),Below B a w->Below B a (w.setCells g o T)
 | [],_,_,h=>h
 | v::T,o,_,h=>x0E Y T (o+1) _ (h.setCell (p:=⟨g,o,none⟩) Y v)
def y7g(w:World)(zs:List Int)(e:Ending)(w':World):Prop:=e=.returned (.agg (arrA zs))/\Below w.heap.size w w'
theorem z5V f p zs(S:zs.length=64)(h:∀j,j<64->zs.getD j 0=f ((64*p+j:Nat):Int)):zs=Tri.blk f p:=by
 apply List.ext_getElem (by rw[S,Tri.y7I]);intro i a b;have Z:=h i f6J;have D:=Tri.z4Q f p i f6J;rw[<- D]at Z;simpa[List.getD,a,b]using Z
end Go.Proofs.YtkfcabdmkmljjaaGreatDoor.Ti
namespace Go.Proofs.YtkfcabdmkmljjaaGreatDoor.Ti
open Go.Proofs.Tryz
open Go.RowKit Go.Maps
theorem z3p:laidOutB prog=true:=f4x
theorem y3G:Keyed prog 147:=Keyed.of_law (deep_law_laid z3p (m:=3) e8N (o0d f4x) f4x f4x)
def Good(zs:List Int):Prop:=zs.length=64/\∀z∈zs,0<=z/\z<=65535
theorem y3M{f}(h:∀c,0<=f c/\f c<=65535) p:Good (Tri.blk f p):=by
 refine⟨by simp[Tri.blk],fun z T=>?_⟩;simp only[Tri.blk,List.mem_map]at T;obtain⟨i,_,rfl⟩:=T;exact h _
theorem z3C{α β:Type}(l:List α)(f:α->Option β)(g:α->β)(h:∀x∈l,f x=some (g x)):l.mapM f=some (l.map g):=by
 induction l with
 | nil=>rfl
 | cons x l ih=>grind
theorem z5v{z}(h:0<=z/\z<=65535):(Lit.int .u16 z).wf=true:=w7O
theorem y3O:prog.cellsOf 147=64:=f4x
theorem z2A:prog.cellsOf 145=1:=f4x
theorem y5W:prog.keyType 147=true:=f4x
theorem y2L zs(h:Good zs) D:prog.keyLits (D+2) 147 (arrA zs).toList=some (((List.range 64).map fun i=>[Lit.int .u16 (zs.getD i 0)]).flatten):=by
 have S:(arrA zs).toList.length=64:=(by rw[Array.length_toList,x1L,h.1]);rw[Program.keyLits.eq_def];simp only[underlying147,y3O,z2A];rw[if_pos S,z3C (List.range 64) _ (fun i=>[Lit.int .u16 (zs.getD i 0)])]
 ·rfl
 ·intro i hi;have K:i<zs.length:=(by rw[h.1];exact List.mem_range.1 hi);have T:zs.getD i 0=zs[i]:=by grind
  have e:((arrA zs).toList.drop (i*1)).take 1=[Value.int .u16 (zs.getD i 0)]:=by
   rw[Nat.mul_one,arrA];rw[List.drop_eq_getElem_cons (by simpa using K),T];simp
  rw[e,Program.keyLits.eq_def];simp only[underlying145];have m:(Lit.int .u16 (zs.getD i 0)).wf=true:=z5v (by rw[T];exact h.2 _ (List.getElem_mem K));rw[if_pos ⟨trivial,m⟩]
def keyL(zs:List Int):Lit:=.string (keyBytes (((List.range 64).map fun i=>[Lit.int .u16 (zs.getD i 0)]).flatten))
theorem y4n{zs}(h:Good zs):keyOf prog 147 (.agg (arrA zs))=some (keyL zs):=by
 have z:(Value.agg (arrA zs)).formed prog 147=true:=by
  simp[Value.formed,underlying147,y3O,x1L,h.1]
 have F:∃n,prog.types.size+1=n+2:=⟨prog.types.size-1,m4z⟩;obtain⟨n,F⟩:=F;unfold keyOf;simp only[underlying147,y5W,z,Bool.and_self,if_true,Value.cells,F,y2L zs h n];rfl
theorem key_inj{xs ys}(A:Good xs)(hy:Good ys)(h:keyL xs=keyL ys):xs=ys:=by
 have Z:=y4n A;have D:=y4n hy;rw[<- h]at D;have J:=y3G.inj Z D;simp only[Value.agg.injEq,arrA]at J;have H:xs.map (Value.int .u16)=ys.map (Value.int .u16):=I8T;exact List.map_inj_right (fun a b e=>N5i) |>.1 H
theorem y9z{zs}(h:Good zs):WideAt.IsKeyLit (keyL zs):=y3G.key (y4n h)
def datA(i:Nat)(m:DataW Unit):List (List Int)->DataW Unit
 | []=>m
 | b::r=>datA (i+1) (m.put (keyL b) (.lit (.int .u16 (i:Int)))) r
def dat(bs:List (List Int)):DataW Unit:=datA 0 (.map []) bs
theorem y8k i(m:DataW Unit) bs b:datA i m (bs++[b])=(datA i m bs).put (keyL b) (.lit (.int .u16 ((i+bs.length:Nat):Int))):=by
 induction bs generalizing i m with
 | nil=>simp[datA]
 | cons x bs ih =>
  simp only[List.cons_append,datA];rw[ih];congr 3;simp only[List.length_cons];omega
theorem y3T bs b:dat (bs++[b])=(dat bs).put (keyL b) (.lit (.int .u16 (bs.length:Int))):=by
 rw[dat,y8k,Nat.zero_add];rfl
theorem y8l bs:IsMap (dat bs):=by
 have:∀(bs:List (List Int)) i m,IsMap m->IsMap (datA i m bs):=by
  intro bs
  induction bs with
  | nil=>exact fun i m h=>h
  | cons b bs ih=>exact fun i m h=>ih _ _ (h.put _ _)
 exact this bs 0 _ isMap_empty
theorem z6l n bs(d:bs.length=n)(C:∀b∈bs,Good b)(F:bs.Nodup) x(A:Good x) :
  Maps.has (dat bs) (keyL x)=decide (x∈bs)/\(x∈bs->∀z,(dat bs).atKey (keyL x) z=.lit (.int .u16 (bs.idxOf x:Int))):=by
 induction n generalizing bs with
 | zero =>
  rw[List.eq_nil_of_length_eq_zero d];exact⟨by simp[dat,datA,Maps.has],fun h=>m5j⟩
 | succ n ih =>
  obtain⟨bs,b,rfl⟩:∃L b,bs=L++[b]:=⟨bs.dropLast,bs.getLast (by intro h;rw[h]at d;cases d),(List.dropLast_concat_getLast _).symm⟩;have T:∀c∈bs,Good c:=fun c I=>C c (List.mem_append_left _ I);have Y:Good b:=C b M7K;rw[List.nodup_append]at F;obtain⟨D,H⟩:=ih bs (by simpa using d) T F.1;have N:b ∉ bs:=fun h=>F.2.2 b h b M7K rfl;rw[y3T];by_cases B:x=b
  ·subst B;refine⟨?_,fun _ z=>?_⟩
   ·rw[has_put_same (y8l bs) (y9z A)];simp
   ·rw[atKey_put_same (y8l bs) (y9z A)];have:(bs++[x]).idxOf x=bs.length:=(by grind);rw[this]
  ·have t:keyL x≠keyL b:=fun h=>B (key_inj A Y h);refine⟨?_,fun o z=>?_⟩
   ·rw[has_put_other t,D];simp[B]
   ·have E:x∈bs:=by
     rcases List.mem_append.1 o with h | h
     ·exact h
     ·simp at h;exact absurd h B
    rw[atKey_put_other t,H E];rw[List.idxOf_append,if_pos E]
theorem z9q bs(C:∀b∈bs,Good b)(F:bs.Nodup) x(A:Good x) :
  Maps.has (dat bs) (keyL x)=decide (x∈bs)/\(x∈bs->∀z,(dat bs).atKey (keyL x) z=.lit (.int .u16 (bs.idxOf x:Int))):=z6l _ bs rfl C F x A
end Go.Proofs.YtkfcabdmkmljjaaGreatDoor.Ti
namespace Go.Proofs.YtkfcabdmkmljjaaGreatDoor.Ti
open Go.Proofs.Tryz
open Go.RowKit
def x1Y(bs:List (List Int)):List Value:=bs.flatten.map (Value.int .u16)
def x6o(bs:List (List Int)):Prop:=∀b∈bs,Good b
theorem z2U{bs}(h:x6o bs):bs.flatten.length=bs.length*64:=by
 induction bs with
 | nil=>rfl
 | cons b bs ih =>
  simp only[List.flatten_cons,List.length_append,List.length_cons];rw[ih (fun c I=>h c (List.mem_cons_of_mem _ I)),(h b M7K).1];omega
theorem x9m{bs}(h:x6o bs){i j}(hi:i<bs.length)(X:j<64):bs.flatten.getD (i*64+j) 0=(bs.getD i []).getD j 0:=by
 induction bs generalizing i with
 | nil=>exact v5E
 | cons b bs ih =>
  have Y:=(h b M7L).1
  cases i with
  | zero=>grind
  | succ i =>
   have Z:=ih (fun c I=>h c (List.mem_cons_of_mem _ I)) (i:=i) w3A;simp only[List.flatten_cons,List.getD_cons_succ];rw[<- Z,List.getD,List.getD,List.getElem?_append_right f6J];congr 2;omega
theorem y5d a b:x1Y (a++b)=x1Y a++x1Y b:=by simp[x1Y]
theorem x9a b:x1Y [b]=b.map (Value.int .u16):=by simp[x1Y]
def Ob(e:TypeId)(w:World)(B:Nat)(v:Value)(bs:List (List Int)):Prop:=x6o bs/\w.ownsRow B e 64 v bs.length (x1Y bs)
def Sb(w:World)(v:Value)(bs:List (List Int)):Prop:=x6o bs /\
 ((bs=[]/\∃ao cap,v=.slice ao 0 cap/\cap<=9223372036854775807) \/
  ∃b off cap,v=.slice (some ⟨b,off,none⟩) bs.length cap/\bs.length<=cap/\cap<=9223372036854775807/\∀i,i<bs.length->w.rangeAt b (off+i*64) ((bs.getD i []).map (Value.int .u16)))
theorem Ob.sb{e w B v}{bs}(h:Ob e w B v bs):Sb w v bs:=by
 obtain⟨C,J⟩:=h;have P:=J;obtain⟨_,I⟩:=J;refine⟨C,?_⟩;rcases I with⟨rfl,R⟩ | ⟨g,M,Q,N,L,H,F,G,f,U⟩
 ·grind
 ·refine .inr ⟨g,0,M,N,F,V3H,fun i hi j x A=>?_⟩
  have S:j<64:=by
   have Z:=(List.getElem?_eq_some_iff.1 A).1;have D:=(C _ (Tri.getD_in hi)).1;rw[List.length_map,D]at Z;exact Z
  have T:=z2U C;have E:i*64+j<bs.flatten.length:=f6J
  have:=P.cells (g:=g) U5P (i*64+j) x (by
   rw[<- A,x1Y,List.getElem?_map,List.getElem?_map];congr 1;have K:=x9m C hi S;have y:=(C _ (Tri.getD_in hi)).1;simp only[List.getD,List.getElem?_eq_getElem E,Option.getD_some]at K;rw[List.getElem?_eq_getElem E,K];simp only[List.getD]at y ⊢;rw[List.getElem?_eq_getElem f6J]
   simp)
  rw[addr_add]at this;rw[Nat.zero_add,<- this];simp
theorem Sb.shape{w v bs}(h:Sb w v bs):∃ao cap,v=.slice ao bs.length cap/\bs.length<=cap/\cap<=9223372036854775807:=by
 rcases h.2 with⟨rfl,ao,cap,N,o⟩ | ⟨b,P,cap,N,S,o,_⟩
 ·exact w2I
 ·exact r6l
theorem Sb.place{w v bs}(h:Sb w v bs)(R:0<bs.length):∃b off cap,v=.slice (some ⟨b,off,none⟩) bs.length cap/\bs.length<=cap/\cap<=9223372036854775807/\∀i,i<bs.length->w.rangeAt b (off+i*64) ((bs.getD i []).map (Value.int .u16)):=by
 rcases h.2 with⟨rfl,_⟩ | h
 ·simp at R
 ·exact h
theorem x6j{w w':World}{B sz n e v xs}(h:w.ownsRow B e sz v n xs)(G:∀k,B<=k->k<w.heap.size->w'.heap[k]?=w.heap[k]?):w'.ownsRow B e sz v n xs:=by
 obtain⟨Z,D | ⟨g,M,Q,N,C,H,r⟩⟩:=h
 ·exact⟨Z,.inl D⟩
 ·refine⟨Z,.inr ⟨g,M,Q,N,C,?_,r⟩⟩;rw[G g C (Array.getElem?_eq_some_iff.1 H).1];exact H
def T4(w:World)(B:Nat)(t:Value)(rs:List Tri.Rg)(d:Int):Prop :=
 Tri.Val 0 rs/\(0<=d/\d<=65535)/\∃g iv bv,t=.pointer (some ⟨g,0,none⟩)/\B<=g/\w.heap[g]?=some (.cells #[iv,bv,.int .i64 d] 144 (0,0)) /\
  Ok .u16 145 w B iv ((Tri.idx (Tri.get d rs)).map fun n:Nat=>(n:Int))/\Ob 147 w B bv (Tri.bls (Tri.get d rs))
theorem T4.keep{w w' B t}{rs:List Tri.Rg}{d}(h:T4 w B t rs d)(_:w.heap.size<=w'.heap.size)(G:∀k,B<=k->k<w.heap.size->w'.heap[k]?=w.heap[k]?):T4 w' B t rs d:=by
 obtain⟨Z,D,g,A,P,J,H,K,y,x⟩:=h;refine⟨Z,D,g,A,P,J,H,?_,⟨y.1,y.2.1,x6j y.2.2 G⟩,⟨x.1,x6j x.2 G⟩⟩;rw[G g H (Array.getElem?_eq_some_iff.1 K).1];exact K
theorem T4.below{w w' B t}{rs:List Tri.Rg}{d}(h:T4 w B t rs d)(Y:Bw w w'):T4 w' B t rs d:=h.keep Y.size fun k _ G=>Y.block k G
theorem T4.parts{w B t}{rs:List Tri.Rg}{d}(h:T4 w B t rs d):∃g Z P,t=.pointer (some ⟨g,0,none⟩) /\
  w.cell? ⟨g,0,none⟩=some Z/\w.cell? ⟨g,1,none⟩=some P/\w.cell? ⟨g,2,none⟩=some (.int .i64 d) /\
  Sk .u16 w Z ((Tri.idx (Tri.get d rs)).map fun n:Nat=>(n:Int))/\Sb w P (Tri.bls (Tri.get d rs)):=by
 obtain⟨A,D,g,Z,P,J,H,K,y,x⟩:=h;exact⟨g,Z,P,J,v0k,v0k,v0k,y.sk,x.sb⟩
theorem T4.get_ok{w B t}{rs:List Tri.Rg}{d}(h:T4 w B t rs d) c:0<=Tri.get d rs c/\Tri.get d rs c<=65535:=Tri.y0U h.2.1 h.1
theorem q0g(l:List Nat) p(s:p<l.length):((l.map fun n:Nat=>(n:Int)).getD p 0)=((l.getD p 0:Nat):Int):=by
 simp[List.getD,s]
theorem z2m f n:((Tri.blk f (n / 64)).map (Value.int .u16))[n%64]?=some (.int .u16 (f n)):=by
 have Z:=Tri.z4Q f (n / 64) (n%64) f6J;rw[(f6J:64*(n / 64)+n%64=n)]at Z;have D:=Tri.y7I f (n / 64);have J:n%64<(Tri.blk f (n / 64)).length:=f6J;rw[<- Z,List.getElem?_map,List.getElem?_eq_getElem J];simp[List.getD,J]
theorem T4.at{w B t}{rs:List Tri.Rg}{d}(h:T4 w B t rs d) n(W:n<1114112):∃g Q oi L D l J m G z,t=.pointer (some ⟨g,0,none⟩) /\
  w.cell? ⟨g,0,none⟩=some (.slice (some ⟨Q,oi,none⟩) L D)/\w.cell? ⟨g,1,none⟩=some (.slice (some ⟨l,J,none⟩) m G)/\w.cell? ⟨g,2,none⟩=some (.int .i64 d) /\
  n / 64<L/\L<=20000/\L<=D/\D<=9223372036854775807/\z<m/\m<=20000/\m<=G/\G<=9223372036854775807 /\
  w.cell? ⟨Q,oi+n / 64,none⟩=some (.int .u16 (z:Nat))/\w.cell? ⟨l,J+z*64+n%64,none⟩=some (.int .u16 (Tri.get d rs n)):=by
 obtain⟨g,Z,P,p,X,y,q,hi,Y⟩:=h.parts;have T:((Tri.idx (Tri.get d rs)).map fun n:Nat=>(n:Int)).length=(Tri.idx (Tri.get d rs)).length:=List.length_map _;have I:=Tri.idx_len (Tri.get d rs);have C:=Tri.y7K (Tri.get d rs);have A:=Tri.y7J (Tri.get d rs) (n / 64) f6J;obtain⟨N,E⟩:=A;obtain⟨Q,oi,D,rfl,U,x,b⟩:=hi.place f6J;have R:=b (n / 64) f6J;rw[q0g _ _ f6J]at R;obtain⟨l,J,G,rfl,F,M,S⟩:=Y.place f6J;have H:=S _ E;rw[N]at H;have K:=H (n%64) _ (z2m _ n);exact⟨g,Q,oi,_,D,l,J,_,G,_,p,X,y,q,f6J,f6J,U,x,E,f6J,F,M,R,K⟩
theorem get4 t(rs:List Tri.Rg) d c w(h:∃B,T4 w B t rs d)(I:Fi c):Calls prog 38 #[t,.int .i64 c] w (x1a w (Tri.get d rs c)):=by
 obtain⟨B,h⟩:=h;obtain⟨l,H⟩:=I;by_cases N:c<0
 ·obtain⟨g,Z,P,rfl,X,y,q,hi,Y⟩:=h.parts;rw[Tri.x6J h.1 N];exact P0q
 ·by_cases J:1114111<c
  ·obtain⟨g,Z,P,rfl,X,y,q,hi,Y⟩:=h.parts;rw[Tri.y9a h.1 J];exact P0q
  ·obtain⟨n,rfl⟩:∃n:Nat,c=(n:Int):=⟨c.toNat,f6J⟩;have T:(n:Int).tdiv 64=((n / 64:Nat):Int):=(by grind);have M:(n:Int).tmod 64=((n%64:Nat):Int):=(by grind);obtain⟨A,C⟩:=h.get_ok n;obtain⟨g,Q,U,L,D,a,b,m,G,z,rfl,X,y,q,S,p,f,j,i,u,k,E,R,K⟩:=h.at n f6J;have F:n%64<64:=Nat.mod_lt _ f6J;go_enter func38,ntmps38;go_wp2;go_quiet(fail);go_wp2;go_ret;exact⟨rfl,nq,rfl⟩
end Go.Proofs.YtkfcabdmkmljjaaGreatDoor.Ti
namespace Go.Proofs.YtkfcabdmkmljjaaGreatDoor.Ti
open Go.Proofs.Tryz
open Go.RowKit
theorem Tryz.info145:(prog.info? 145).map (fun i=>(i.zero,i.size,i.bytes))=some (some (.int .u16 0),1,2):=f4x
theorem x6O{zs:List Int}(h:zs.length=64):(prog.info? 147).map (·.size)=some (zs.map (Value.int .u16)).length:=by rw[List.length_map,h];exact f4x
def Zs:List Int:=List.replicate 64 0
theorem z8N:Zs.length=64:=by simp[Zs]
end Go.Proofs.YtkfcabdmkmljjaaGreatDoor.Ti
