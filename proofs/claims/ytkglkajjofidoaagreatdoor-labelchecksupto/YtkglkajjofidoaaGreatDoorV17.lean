/- TiTri4 TiSz4 TiRefG4 TiRefC4 TiRefR4 TiFew4 TiRefN4 TiTriB4 TiCon4 TiArr4 TiTriC4 TiRefB4 TiMet4 TiTrA4 TiTrB4 -/
import Derived.Test.YtkglkajjofidoaaGreatDoorV1
import Derived.Deep.QuietTactic
import Derived.BigQuiet
import Derived.Maps.AppendAt
import Derived.Laws.AppendOwnNone
import Derived.ChangeKeysEq
import Derived.Deep.WholeRow
import Derived.Deep.MidRow
import Derived.Deep.Cut
import Derived.Laws.Rows
import Derived.DeepKeys4
import Derived.Maps.Views
import Derived.Maps.OwnSet
import Derived.Lib.SliceRun
namespace Go.Proofs.YtkglkajjofidoaaGreatDoor.Ti.Tri
set_option linter.unusedSimpArgs false
abbrev Rg:=Int × Int × Int
def lo (r:Rg):Int:=r.1
def hi (r:Rg):Int:=r.2.1
def vl (r:Rg):Int:=r.2.2
theorem z1J (a b c:Int):lo (a,b,c)=a:=rfl
theorem z1B (a b c:Int):hi (a,b,c)=b:=rfl
theorem vl_mk (a b c:Int):vl (a,b,c)=c:=rfl
def get (d:Int):List Rg->Int->Int
 | [],_=>d
 | r :: rs,c=>if lo r<=c/\c<=hi r then vl r else get d rs c
theorem x2y (d:Int) (r:Rg) (rs:List Rg) (c:Int):get d (r :: rs) c=if lo r<=c/\c<=hi r then vl r else get d rs c:=rfl
def bad (p:Option Int) (r:Rg):Int :=
 if lo r<0\/1114111<hi r\/hi r<lo r then 40
 else if vl r<0\/65535<vl r then 42
 else match p with
  | none=>0
  | some h=>if lo r<=h then 41 else 0
def x1o (d:Int):Nat->Option Int->List Rg->Int × Int
 | i,_,[]=>if d<0\/65535<d then ((i:Int),42) else (0,0)
 | i,p,r :: rs=>if bad p r=0 then x1o d (i+1) (some (hi r)) rs else ((i:Int),bad p r)
def check (d:Int) (rs:List Rg):Int × Int:=x1o d 0 none rs
def Val:Int->List Rg->Prop
 | _,[]=>True
 | b,r :: rs=>b<=lo r/\lo r<=hi r/\hi r<=1114111/\0<=vl r/\vl r<=65535/\Val (hi r+1) rs
theorem Val.mono {b b':Int} {rs:List Rg} (h:Val b rs) (hb:b'<=b):Val b' rs:=by
 cases rs with
 | nil=>trivial
 | cons r rs=>exact ⟨Int.le_trans hb h.1,h.2⟩
theorem y3q (d:Int) (i:Nat) (p:Option Int) (rs:List Rg):(x1o d i p rs).2=0↔(Val (match p with | none=>0 | some h=>max 0 (h+1)) rs/\0<=d/\d<=65535):=by
 induction rs generalizing i p with
 | nil =>
  simp only [x1o,Val,true_and];split
  ·simp; omega
  ·simp; omega
 | cons r rs ih =>
  simp only [x1o];by_cases hb:bad p r=0
  ·rw [if_pos hb,ih];unfold bad at hb;split at hb
   ·simp at hb
   ·rename_i h1
    split at hb
    ·simp at hb
    ·rename_i h2
     cases p with
     | none =>
      simp only [Val];constructor
      ·rintro ⟨h3,h4⟩;exact ⟨⟨by omega,by omega,by omega,by omega,by omega,h3.mono (by omega)⟩,h4⟩
      ·rintro ⟨⟨_,_,_,_,_,h3⟩,h4⟩;exact ⟨h3.mono (by omega),h4⟩
     | some h =>
      simp only at hb;split at hb
      ·simp at hb
      ·simp only [Val];constructor
       ·rintro ⟨h3,h4⟩;exact ⟨⟨by omega,by omega,by omega,by omega,by omega,h3.mono (by omega)⟩,h4⟩
       ·rintro ⟨⟨_,_,_,_,_,h3⟩,h4⟩;exact ⟨h3.mono (by omega),h4⟩
  ·rw [if_neg hb];constructor
   ·intro h; exact absurd h hb
   ·rintro ⟨⟨h1,h2,h3,h4,h5,_⟩,_⟩;exfalso;apply hb;unfold bad
    cases p with
    | none=>simp only at h1; rw [if_neg (by omega),if_neg (by omega)]
    | some h=>simp only at h1; rw [if_neg (by omega),if_neg (by omega)]; simp only; rw [if_neg (by omega)]
theorem x3b {d:Int} {rs:List Rg}:(check d rs).2=0↔Val 0 rs/\0<=d/\d<=65535:=y3q d 0 none rs
theorem x3w {d:Int} (i:Nat) (p:Option Int) (rs:List Rg) (h:(x1o d i p rs).2=0):(x1o d i p rs).1=0:=by
 induction rs generalizing i p with
 | nil =>
  simp only [x1o] at h ⊢;split at h
  ·simp at h
  ·rename_i h1; rw [if_neg h1]
 | cons r rs ih =>
  simp only [x1o] at h ⊢;by_cases hb:bad p r=0
  ·rw [if_pos hb] at h ⊢; exact ih _ _ h
  ·rw [if_neg hb] at h; exact absurd h hb
theorem x7Q {d b c:Int} {rs:List Rg} (h:Val b rs) (hc:c<b):get d rs c=d:=by
 induction rs generalizing b with
 | nil=>rfl
 | cons r rs ih =>
  obtain ⟨h1,h2,h3,h4,h5,h6⟩:=h;simp only [get];rw [if_neg (by omega)];exact ih h6 (by omega)
theorem x7R {d c:Int} (hd:0<=d/\d<=65535) {b:Int} {rs:List Rg} (h:Val b rs):0<=get d rs c/\get d rs c<=65535:=by
 induction rs generalizing b with
 | nil=>exact hd
 | cons r rs ih =>
  obtain ⟨h1,h2,h3,h4,h5,h6⟩:=h;simp only [get];split
  ·omega
  ·exact ih h6
theorem y3W {d c:Int} {b:Int} {rs:List Rg} (h:Val b rs) (hc:1114111<c):get d rs c=d:=by
 induction rs generalizing b with
 | nil=>rfl
 | cons r rs ih =>
  obtain ⟨h1,h2,h3,h4,h5,h6⟩:=h;simp only [get];rw [if_neg (by omega)];exact ih h6
end Go.Proofs.YtkglkajjofidoaaGreatDoor.Ti.Tri
namespace Go.Proofs.YtkglkajjofidoaaGreatDoor.Ti
open Go.Proofs.Tryz
open Go.RowKit
def Sz (sz:Nat) (w:World) (v:Value) (len:Nat) (us:List Value):Prop :=
 us.length=len * sz/\len<=5864062014805 /\
  ((len=0/\∃ ao cap,v=.slice ao 0 cap/\cap<=9223372036854775807/\(ao=none->cap=0)) \/
   ∃ b off cap,v=.slice (some ⟨b,off,none⟩) len cap/\len<=cap/\cap<=9223372036854775807/\∀ i,i<len * sz->w.cell? ⟨b,off+i,none⟩=some (us.getD i undef))
theorem Sz.below {sz len:Nat} {w w':World} {v:Value} {us:List Value} (h:Sz sz w v len us) (hb:Bw w w'):Sz sz w' v len us:=by
 obtain ⟨h1,h2,h3⟩:=h;refine ⟨h1,h2,?_⟩;rcases h3 with h3 | ⟨b,off,cap,hv,hl,hm,hc⟩
 ·exact .inl h3
 ·refine .inr ⟨b,off,cap,hv,hl,hm,fun i hi=>?_⟩;rw [hb.cell (x0a (hc i hi))];exact hc i hi
theorem Sz.shape {sz len:Nat} {w:World} {v:Value} {us:List Value} (h:Sz sz w v len us):∃ ao cap,v=.slice ao len cap/\len<=cap/\cap<=9223372036854775807:=by
 rcases h.2.2 with ⟨rfl,ao,cap,hv,hm,_⟩ | ⟨b,off,cap,hv,hl,hm,_⟩
 ·exact ⟨ao,cap,hv,by simp,hm⟩
 ·exact ⟨_,cap,hv,hl,hm⟩
theorem Sz.place {sz len:Nat} {w:World} {v:Value} {us:List Value} (h:Sz sz w v len us) (ag:0<len) :
  ∃ b off cap,v=.slice (some ⟨b,off,none⟩) len cap/\len<=cap/\cap<=9223372036854775807/\∀ i,i<len * sz->w.cell? ⟨b,off+i,none⟩=some (us.getD i undef):=by
 rcases h.2.2 with ⟨rfl,_⟩ | h
 ·omega
 ·exact h
def x0u (r:Tri.Rg):List Value:=[.int .i64 (Tri.lo r),.int .i64 (Tri.hi r),.int .i64 (Tri.vl r)]
def rcells:List Tri.Rg->List Value
 | []=>[]
 | r :: rs=>x0u r++rcells rs
theorem x1x (rs:List Tri.Rg):(rcells rs).length=rs.length * 3:=by
 induction rs with
 | nil=>rfl
 | cons r rs ih=>simp [rcells,x0u,ih]; omega
theorem x1Q (a b:List Tri.Rg):rcells (a++b)=rcells a++rcells b:=by
 induction a with
 | nil=>rfl
 | cons r a ih=>simp [rcells,ih]
theorem x9B (rs:List Tri.Rg) (k:Nat):(rcells rs).take (k * 3)=rcells (rs.take k):=by
 induction rs generalizing k with
 | nil=>simp [rcells]
 | cons r rs ih =>
  cases k with
  | zero=>simp [rcells]
  | succ k =>
   have:=ih k;simp only [rcells,x0u,List.take_succ_cons,show (k+1) * 3=k * 3+1+1+1 by omega,List.cons_append,List.nil_append];rw [this]
theorem x1j (rs:List Tri.Rg) (i:Nat) (hi:i<rs.length):(rcells rs).getD (i * 3) undef=.int .i64 (Tri.lo (rs.getD i (0,0,0)))/\(rcells rs).getD (i * 3+1) undef=.int .i64 (Tri.hi (rs.getD i (0,0,0)))/\(rcells rs).getD (i * 3+2) undef=.int .i64 (Tri.vl (rs.getD i (0,0,0))):=by
 induction rs generalizing i with
 | nil=>simp at hi
 | cons r rs ih =>
  cases i with
  | zero=>exact ⟨rfl,rfl,rfl⟩
  | succ i =>
   have:=ih i (by simpa using hi);have e:∀ j,(rcells (r :: rs)).getD (j+3) undef=(rcells rs).getD j undef:=fun j=>rfl;rw [show (i+1) * 3=i * 3+3 by omega,show i * 3+3+1=(i * 3+1)+3 by omega,show i * 3+3+2=(i * 3+2)+3 by omega,e,e,e];exact this
def Fi (z:Int):Prop:=-9223372036854775808<=z/\z<=9223372036854775807
def FitR (rs:List Tri.Rg):Prop:=∀ r∈rs,Fi (Tri.lo r)/\Fi (Tri.hi r)/\Fi (Tri.vl r)
theorem FitR.at {rs:List Tri.Rg} (h:FitR rs) (i:Nat):Fi (Tri.lo (rs.getD i (0,0,0)))/\Fi (Tri.hi (rs.getD i (0,0,0)))/\Fi (Tri.vl (rs.getD i (0,0,0))):=by
 rcases Nat.lt_or_ge i rs.length with hi | hi
 ·simp only [List.getD,List.getElem?_eq_getElem hi,Option.getD_some]; exact h _ (List.getElem_mem hi)
 ·simp only [List.getD,List.getElem?_eq_none hi,Option.getD_none];simp [Fi,Tri.lo,Tri.hi,Tri.vl]
def Sr (w:World) (v:Value) (rs:List Tri.Rg):Prop:=FitR rs/\Sz 3 w v rs.length (rcells rs)
theorem Sr.below {w w':World} {v:Value} {rs:List Tri.Rg} (h:Sr w v rs) (hb:Bw w w'):Sr w' v rs:=⟨h.1,h.2.below hb⟩
theorem Sr.shape {w:World} {v:Value} {rs:List Tri.Rg} (h:Sr w v rs):∃ ao cap,v=.slice ao rs.length cap/\rs.length<=cap/\cap<=9223372036854775807:=h.2.shape
theorem Sr.len {w:World} {v:Value} {rs:List Tri.Rg} (h:Sr w v rs):rs.length<=5864062014805:=h.2.2.1
theorem Sr.place {w:World} {v:Value} {rs:List Tri.Rg} (h:Sr w v rs) (ag:0<rs.length) :
  ∃ b off cap,v=.slice (some ⟨b,off,none⟩) rs.length cap/\rs.length<=cap/\cap<=9223372036854775807/\∀ i,i<rs.length ->
   w.cell? ⟨b,off+i * 3,none⟩=some (.int .i64 (Tri.lo (rs.getD i (0,0,0))))/\w.cell? ⟨b,off+i * 3+1,none⟩=some (.int .i64 (Tri.hi (rs.getD i (0,0,0))))/\w.cell? ⟨b,off+i * 3+2,none⟩=some (.int .i64 (Tri.vl (rs.getD i (0,0,0)))):=by
 obtain ⟨b,off,cap,h1,h2,h3,h4⟩:=h.2.place ag;refine ⟨b,off,cap,h1,h2,h3,fun i hi=>?_⟩;have hr:=x1j rs i hi;have k0:=h4 (i * 3) (by omega);have k1:=h4 (i * 3+1) (by omega);have k2:=h4 (i * 3+2) (by omega);rw [hr.1] at k0;rw [hr.2.1] at k1;rw [hr.2.2] at k2;exact ⟨k0,k1,k2⟩
end Go.Proofs.YtkglkajjofidoaaGreatDoor.Ti
namespace Go.Proofs.YtkglkajjofidoaaGreatDoor.Ti
open Go.Proofs.Tryz
open Go.RowKit
end Go.Proofs.YtkglkajjofidoaaGreatDoor.Ti
namespace Go.Proofs.YtkglkajjofidoaaGreatDoor.Ti
open Go.Proofs.Tryz
open Go.RowKit
def x1V (w:World) (r:Int × Int) (e:Ending) (w':World):Prop:=e=.returned (.tuple #[.int .i64 r.1,.int .i64 r.2])/\Below w.heap.size w w'
theorem x1V.mk {w w':World} {r:Int × Int} {a b:Int} (h:r=(a,b)) (hb:Bw w w'):x1V w r (.returned (.tuple #[.int .i64 a,.int .i64 b])) w':=by subst h; exact ⟨rfl,hb⟩
def prv (rs:List Tri.Rg):Nat->Option Int
 | 0=>none
 | k+1=>some (Tri.hi (rs.getD k (0,0,0)))
theorem y1r {d:Int} {rs:List Tri.Rg} {k:Nat} (hk:k<rs.length):Tri.x1o d k (prv rs k) (rs.drop k)=if Tri.bad (prv rs k) (rs.getD k (0,0,0))=0 then Tri.x1o d (k+1) (prv rs (k+1)) (rs.drop (k+1)) else ((k:Int),Tri.bad (prv rs k) (rs.getD k (0,0,0))):=by
 rw [List.drop_eq_getElem_cons hk];have e:rs.getD k (0,0,0)=rs[k]:=(by simp [List.getD,hk]);have e2:prv rs (k+1)=some (Tri.hi rs[k]):=(by rw [<- e]; rfl);rw [e2,e];generalize prv rs k=p;simp only [Tri.x1o]
theorem x4F {p:Option Int} {r:Tri.Rg} (h:Tri.lo r<0\/1114111<Tri.hi r\/Tri.hi r<Tri.lo r):Tri.bad p r=40:=by unfold Tri.bad; rw [if_pos h]
theorem y2W {p:Option Int} {r:Tri.Rg} (h:¬ (Tri.lo r<0\/1114111<Tri.hi r\/Tri.hi r<Tri.lo r)) (h2:Tri.vl r<0\/65535<Tri.vl r):Tri.bad p r=42:=by unfold Tri.bad; rw [if_neg h,if_pos h2]
theorem y2V {x:Int} {r:Tri.Rg} (h:¬ (Tri.lo r<0\/1114111<Tri.hi r\/Tri.hi r<Tri.lo r)) (h2:¬ (Tri.vl r<0\/65535<Tri.vl r)) (h3:Tri.lo r<=x):Tri.bad (some x) r=41:=by unfold Tri.bad; rw [if_neg h,if_neg h2]; simp only; rw [if_pos h3]
theorem y5Z {x:Int} {r:Tri.Rg} (h:¬ (Tri.lo r<0\/1114111<Tri.hi r\/Tri.hi r<Tri.lo r)) (h2:¬ (Tri.vl r<0\/65535<Tri.vl r)) (h3:¬ Tri.lo r<=x):Tri.bad (some x) r=0:=by unfold Tri.bad; rw [if_neg h,if_neg h2]; simp only; rw [if_neg h3]
end Go.Proofs.YtkglkajjofidoaaGreatDoor.Ti
namespace Go.Proofs.YtkglkajjofidoaaGreatDoor.Ti
open Go.Proofs.Tryz
open Go.RowKit
theorem Tryz.info208:(prog.info? 208).map (fun i=>(i.zero,i.size,i.bytes))=some (some (.agg #[.int .i64 0,.int .i64 0,.int .i64 0]),3,24):=by kernel_rfl
def Or4 (w:World) (B:Nat) (v:Value) (rs:List Tri.Rg):Prop:=FitR rs/\rs.length<=5864062014805/\w.ownsRow B 208 3 v rs.length (rcells rs)
theorem Or4.sr {w:World} {B:Nat} {v:Value} {rs:List Tri.Rg} (h:Or4 w B v rs):Sr w v rs:=by
 obtain ⟨h1,h2,h3⟩:=h;have h3':=h3;obtain ⟨_,ac⟩:=h3;refine ⟨h1,x1x rs,h2,?_⟩;rcases ac with ⟨rfl,h0⟩ | ⟨g,cap,cur,hv,hg,hh,hn,hcap,hsz,htake⟩
 ·exact .inl ⟨h0,none,0,rfl,by omega,fun _=>rfl⟩
 ·refine .inr ⟨g,0,cap,hv,hn,by unfold maxLen at hcap; omega,fun i hi=>?_⟩;have hl:=x1x rs;have:=h3'.cells (g:=g) (by rw [hv]; rfl) i ((rcells rs).getD i undef) (by simp [List.getD,show i<(rcells rs).length by omega]);rw [addr_add] at this;exact this
theorem Or4.nil (w:World) (B:Nat):Or4 w B (.slice none 0 0) []:=⟨fun r hr=>by simp at hr,by simp,World.ownsRow_nil _ _ _ _⟩
theorem x6n {w w':World} {B sz:Nat} {e:TypeId} {v:Value} {n:Nat} {xs:List Value} (h:w.ownsRow B e sz v n xs) (hb:Bw w w'):w'.ownsRow B e sz v n xs:=by
 refine h.kept (row:=none) ⟨hb.os,hb.tape,hb.output,hb.size,fun k hk _=>hb.block k hk⟩ ?_
 cases h':v.ownBlock with
 | none=>exact .inl rfl
 | some k=>exact .inr (by simp)
theorem Or4.below {w w':World} {B:Nat} {v:Value} {rs:List Tri.Rg} (h:Or4 w B v rs) (hb:Bw w w'):Or4 w' B v rs:=⟨h.1,h.2.1,x6n h.2.2 hb⟩
theorem x3C (rs:List Tri.Rg):∀ u∈rcells rs,u.oneCell'=true:=by
 induction rs with
 | nil=>intro u hu; simp [rcells] at hu
 | cons r rs ih =>
  intro u hu;simp only [rcells,x0u,List.mem_append,List.mem_cons,List.mem_nil_iff,or_false] at hu;rcases hu with (rfl | rfl | rfl) | hu
  ·rfl
  ·rfl
  ·rfl
  ·exact ih u hu
end Go.Proofs.YtkglkajjofidoaaGreatDoor.Ti
namespace Go.Proofs.YtkglkajjofidoaaGreatDoor.Ti
open Go.Proofs.Tryz
open Go.RowKit
end Go.Proofs.YtkglkajjofidoaaGreatDoor.Ti
namespace Go.Proofs.YtkglkajjofidoaaGreatDoor.Ti
open Go.Proofs.Tryz
open Go.RowKit
theorem z2D {b:Int} {rs:List Tri.Rg} (h:Tri.Val b rs) (hb:0<=b) (k:Nat) (hk:k<rs.length):0<=Tri.lo (rs.getD k (0,0,0))/\Tri.lo (rs.getD k (0,0,0))<=Tri.hi (rs.getD k (0,0,0))/\Tri.hi (rs.getD k (0,0,0))<=1114111/\0<=Tri.vl (rs.getD k (0,0,0))/\Tri.vl (rs.getD k (0,0,0))<=65535:=by
 induction rs generalizing b k with
 | nil=>simp at hk
 | cons r rs ih =>
  obtain ⟨h1,h2,h3,h4,h5,h6⟩:=h
  cases k with
  | zero=>exact ⟨Int.le_trans hb h1,h2,h3,h4,h5⟩
  | succ k=>exact ih h6 (by omega) k (by simpa using hk)
def y2R (w:World) (rs:List Tri.Rg) (e:Ending) (w':World):Prop:=∃ v,e=.returned v/\Or4 w' w.heap.size v rs/\Below w.heap.size w w'
theorem y3h (w:World) (r:Tri.Rg):∀ (j:Nat) (u:Value),(rcells [r])[j]?=some u->(w.alloc (.cells #[.int .i64 (Tri.lo r),.int .i64 (Tri.hi r),.int .i64 (Tri.vl r)] 208)).cell? ((⟨w.heap.size,0,none⟩:Addr).add j)=some u:=by
 intro j u hj
 match j,hj with
 | 0,hj=>simp [rcells,x0u] at hj; subst hj; simp [Addr.add]
 | 1,hj=>simp [rcells,x0u] at hj; subst hj; simp [Addr.add]
 | 2,hj=>simp [rcells,x0u] at hj; subst hj; simp [Addr.add]
 | j+3,hj=>simp [rcells,x0u] at hj
end Go.Proofs.YtkglkajjofidoaaGreatDoor.Ti
namespace Go.Proofs.YtkglkajjofidoaaGreatDoor.Ti.Tri
def blk (f:Int->Int) (p:Nat):List Int:=(List.range 64).map fun i=>f ((64 * p+i:Nat):Int)
def pcs (f:Int->Int):List (List Int):=(List.range 17408).map (blk f)
def push (bs:List (List Int)) (b:List Int):List (List Int):=if b∈bs then bs else bs++[b]
def idxA:List (List Int)->List (List Int)->List Nat
 | _,[]=>[]
 | bs,b :: r=>bs.idxOf b :: idxA (push bs b) r
def blkA:List (List Int)->List (List Int)->List (List Int)
 | bs,[]=>bs
 | bs,b :: r=>blkA (push bs b) r
def idx (f:Int->Int):List Nat:=idxA [] (pcs f)
def bls (f:Int->Int):List (List Int):=blkA [] (pcs f)
theorem y0b (bs a b:List (List Int)):blkA bs (a++b)=blkA (blkA bs a) b:=by
 induction a generalizing bs with
 | nil=>rfl
 | cons x a ih=>simp only [List.cons_append,blkA,ih]
theorem y4T {bs:List (List Int)} {b:List Int} (h:b∈bs):push bs b=bs:=by unfold push; rw [if_pos h]
theorem x3A (f:Int->Int):(pcs f).length=17408:=by simp [pcs]
theorem y6K (bs ps:List (List Int)):(idxA bs ps).length=ps.length:=by
 induction ps generalizing bs with
 | nil=>rfl
 | cons p ps ih=>simp [idxA,ih]
theorem idx_len (f:Int->Int):(idx f).length=17408:=by rw [idx,y6K,x3A]
theorem y0c (bs ps:List (List Int)):bs.length<=(blkA bs ps).length/\(blkA bs ps).length<=bs.length+ps.length:=by
 induction ps generalizing bs with
 | nil=>simp [blkA]
 | cons p ps ih =>
  have:=ih (push bs p);have h2:bs.length<=(push bs p).length/\(push bs p).length<=bs.length+1:=(by unfold push; split <;> simp);simp only [blkA,List.length_cons]; omega
theorem y3d (f:Int->Int):(bls f).length<=17408:=by
 have:=y0c [] (pcs f);rw [x3A] at this;simpa [bls] using this.2
end Go.Proofs.YtkglkajjofidoaaGreatDoor.Ti.Tri
namespace Go.Proofs.YtkglkajjofidoaaGreatDoor.Ti
open Go.Proofs.Tryz
open Go.RowKit
def y8O (w:World) (n:Int) (e:Ending) (w':World):Prop:=e=.returned (.int .i64 n)/\Below w.heap.size w w'
def x1e (w:World) (n:Int) (e:Ending) (w':World):Prop:=e=.returned (.int .i64 n)/\∃ m,w'=w.drewN m
def x4z (T:World->Value->List Tri.Rg->Int->Prop) (w:World) (rs:List Tri.Rg) (d:Int) (e:Ending) (w':World):Prop :=
 Below w.heap.size w w'/\(((Tri.check d rs).2=0/\∃ a,e=.returned (.tuple #[.pointer (some a),.int .i64 0,.int .i64 0])/\T w' (.pointer (some a)) rs d) \/
  ((Tri.check d rs).2≠0/\e=.returned (.tuple #[.pointer none,.int .i64 (Tri.check d rs).1,.int .i64 (Tri.check d rs).2])))
end Go.Proofs.YtkglkajjofidoaaGreatDoor.Ti
namespace Go.Proofs.YtkglkajjofidoaaGreatDoor.Ti
open Go.Proofs.Tryz
open Go.RowKit
def arrA (zs:List Int):Array Value:=(zs.map (Value.int .u16)).toArray
theorem x1y (zs:List Int):(arrA zs).size=zs.length:=by simp [arrA]
theorem x6s (zs:List Int):(arrA zs).all (·.oneCell')=true:=by
 simp [arrA,Value.oneCell']
def Box (w:World) (g:Nat) (zs:List Int):Prop:=w.rangeAt g 0 (zs.map (Value.int .u16))
end Go.Proofs.YtkglkajjofidoaaGreatDoor.Ti
namespace Go.Proofs.YtkglkajjofidoaaGreatDoor.Ti.Tri
theorem z0i (bs:List (List Int)) (p:List Int):(push bs p).getD (bs.idxOf p) []=p/\bs.idxOf p<(push bs p).length:=by
 unfold push;by_cases h:p∈bs
 ·rw [if_pos h];have h1:=List.idxOf_lt_length_iff.2 h;refine ⟨?_,h1⟩;have h2:bs[bs.idxOf p]=p:=List.getElem_idxOf h1;rw [List.getD,List.getElem?_eq_getElem h1,h2]; rfl
 ·rw [if_neg h];have h1:¬ bs.idxOf p<bs.length:=fun h2=>h (List.idxOf_lt_length_iff.1 h2);have h2:bs.idxOf p<=bs.length:=List.idxOf_le_length;have h3:bs.idxOf p=bs.length:=(by omega);rw [h3];exact ⟨by simp [List.getD],by simp⟩
theorem y4d (bs ps:List (List Int)) (i:Nat) (hi:i<ps.length):(idxA bs ps).getD i 0=(blkA bs (ps.take i)).idxOf (ps.getD i []):=by
 induction ps generalizing bs i with
 | nil=>simp at hi
 | cons p ps ih =>
  cases i with
  | zero=>simp [idxA,blkA]
  | succ i =>
   have:=ih (push bs p) i (by simpa using hi);simpa [idxA,blkA] using this
theorem x7v (bs ps:List (List Int)) (i:Nat) (hi:i<ps.length):blkA bs (ps.take (i+1))=push (blkA bs (ps.take i)) (ps.getD i []):=by
 have h:ps.take (i+1)=ps.take i++[ps.getD i []]:=by
  rw [List.take_add_one]; simp [List.getD,hi]
 rw [h,y0b]; rfl
theorem y2d {bs:List (List Int)} {p:List Int} (h:bs.Nodup):(push bs p).Nodup:=by
 unfold push;split
 ·exact h
 ·rename_i hn
  rw [List.nodup_append];refine ⟨h,by simp,?_⟩;intro a ha b hb;simp at hb;subst hb;intro e; subst e; exact hn ha
theorem y1j {bs ps:List (List Int)} (h:bs.Nodup):(blkA bs ps).Nodup:=by
 induction ps generalizing bs with
 | nil=>exact h
 | cons p ps ih=>exact ih (y2d h)
theorem getD_in {l:List (List Int)} {i:Nat} (hi:i<l.length):l.getD i []∈l:=by
 rw [List.getD,List.getElem?_eq_getElem hi]; exact List.getElem_mem hi
theorem y2c (bs:List (List Int)) (p:List Int) (i:Nat) (hi:i<bs.length):(push bs p).getD i []=bs.getD i []/\i<(push bs p).length:=by
 unfold push;split
 ·exact ⟨rfl,hi⟩
 ·exact ⟨by simp [List.getD,List.getElem?_append_left hi],by simp; omega⟩
theorem y1i (bs ps:List (List Int)) (i:Nat) (hi:i<bs.length):(blkA bs ps).getD i []=bs.getD i []/\i<(blkA bs ps).length:=by
 induction ps generalizing bs with
 | nil=>exact ⟨rfl,hi⟩
 | cons p ps ih =>
  have h1:=y2c bs p i hi;have h2:=ih (push bs p) h1.2;exact ⟨by simp only [blkA]; rw [h2.1,h1.1],h2.2⟩
theorem y3c (f:Int->Int) (p:Nat) (hp:p<17408):(bls f).getD ((idx f).getD p 0) []=blk f p/\(idx f).getD p 0<(bls f).length:=by
 have hl:=x3A f;have e:pcs f=(pcs f).take (p+1)++(pcs f).drop (p+1):=(List.take_append_drop _ _).symm
 have hb:bls f=blkA (push (blkA [] ((pcs f).take p)) ((pcs f).getD p [])) ((pcs f).drop (p+1)):=by
  unfold bls
  conv=>lhs; rw [e]
  rw [y0b,x7v _ _ _ (by omega)]
 have hi:(idx f).getD p 0=(blkA [] ((pcs f).take p)).idxOf ((pcs f).getD p []):=(by rw [idx,y4d _ _ _ (by omega)]);have ha:=z0i (blkA [] ((pcs f).take p)) ((pcs f).getD p []);have hf:=y1i _ ((pcs f).drop (p+1)) _ ha.2;rw [hb,hi];refine ⟨?_,hf.2⟩;rw [hf.1,ha.1];simp [pcs,List.getD,hp]
theorem y3b (f:Int->Int) (p:Nat):(blk f p).length=64:=by simp [blk]
theorem y8a (f:Int->Int) (p i:Nat) (hi:i<64):(blk f p).getD i 0=f ((64 * p+i:Nat):Int):=by simp [blk,List.getD,hi]
theorem push_sub {bs:List (List Int)} {p x:List Int} (h:x∈push bs p):x∈bs\/x=p:=by
 unfold push at h;split at h
 ·exact .inl h
 ·rcases List.mem_append.1 h with h | h
  ·exact .inl h
  ·simp at h; exact .inr h
theorem blkA_sub {bs ps:List (List Int)} {x:List Int} (h:x∈blkA bs ps):x∈bs\/x∈ps:=by
 induction ps generalizing bs with
 | nil=>exact .inl h
 | cons p ps ih =>
  rcases ih h with h1 | h1
  ·rcases push_sub h1 with h2 | h2
   ·exact .inl h2
   ·exact .inr (by simp [h2])
  ·exact .inr (List.mem_cons_of_mem _ h1)
end Go.Proofs.YtkglkajjofidoaaGreatDoor.Ti.Tri
namespace Go.Proofs.YtkglkajjofidoaaGreatDoor.Ti
open Go.Proofs.Tryz
open Go.RowKit
def Blk (w:World) (g:Nat) (zs:List Int):Prop:=w.heap[g]?=some (.cells (arrA zs) 108 (0,0))
theorem Blk.lt {w:World} {g:Nat} {zs:List Int} (h:Blk w g zs):g<w.heap.size:=by
 have:=Array.getElem?_eq_some_iff.1 h;exact this.1
theorem Blk.cell {w:World} {g:Nat} {zs:List Int} (h:Blk w g zs) {i:Nat} (hi:i<zs.length):w.cell? ⟨g,i,none⟩=some (.int .u16 (zs.getD i 0)):=by
 unfold Blk at h;simp only [World.cell?,h];simp [arrA,List.getD,hi]
theorem Blk.frozen {w:World} {g:Nat} {zs:List Int} (h:Blk w g zs) (i:Nat):w.frozen? ⟨g,i,none⟩=false:=by
 unfold Blk at h;simp [World.frozen?,h]
theorem Blk.set {w:World} {g:Nat} {zs:List Int} (h:Blk w g zs) (i:Nat) (v:Int):Blk (w.setCell ⟨g,i,none⟩ (.int .u16 v)) g (zs.set i v):=by
 unfold Blk at h ⊢;rw [heap_setCell_same w g i _ _ _ h];simp [arrA,List.map_set]
theorem Blk.other {w:World} {g:Nat} {zs:List Int} (h:Blk w g zs) {a:Addr} (ag:g≠a.block) (v:Value):Blk (w.setCell a v) g zs:=by
 unfold Blk at h ⊢;rw [heap_setCell_other w a g v ag]; exact h
theorem Blk.new (w:World) (zs:List Int) (C:Array Value) (hC:C=arrA zs):Blk (w.alloc (.cells C 108)) w.heap.size zs:=by
 subst hC;exact heap_alloc_last w _
theorem Blk.alloc {w:World} {g:Nat} {zs:List Int} (h:Blk w g zs) (o:Obj):Blk (w.alloc o) g zs:=by
 have hl:=h.lt;unfold Blk at h ⊢;rw [Below.heap_alloc w o g hl]; exact h
theorem Blk.there {w:World} {g:Nat} {zs:List Int} (h:Blk w g zs):w.there g 0 zs.length:=fun j hj=>by
 rw [Nat.zero_add];exact ⟨by rw [h.cell hj]; rfl,h.frozen j⟩
theorem x7j {fn:Func} {p:Tmp} {ty:TypeId} (h:fn.results=#[.cell p ty]) (ae:Array Value) (P:Program) (w:World) :
  (results fn ae).run P w=((asAddr (ae.getD p undef)).run P w).andThen fun a w₁=>(loadVar ty a).run P w₁:=by
 simp only [results,h];simp [Sem.run_bind,Result.andThen]
theorem x2e {fn:Func} {p:Tmp} {ty:TypeId} (h:fn.results=#[.cell p ty]) (ae:Array Value) (P:Program) (w:World) (g:Nat) (v:Value) (hp:ae.getD p undef=.pointer (some ⟨g,0,none⟩)) (au:(loadVar ty ⟨g,0,none⟩).run P w=.ok v w) :
  (results fn ae).run P w=.ok v w:=by
 rw [x7j h,hp];simp [asAddr,Result.andThen,au]
namespace Tri
theorem z2E {b:Int} {rs:List Rg} (h:Val b rs) (k:Nat) (hk:k<rs.length):b<=lo (rs.getD k (0,0,0)):=by
 induction rs generalizing b k with
 | nil=>simp at hk
 | cons r rs ih =>
  obtain ⟨h1,h2,h3,h4,h5,h6⟩:=h
  cases k with
  | zero=>exact h1
  | succ k =>
   have:=ih h6 k (by simpa using hk);simp only [List.getD_cons_succ];omega
theorem y6I {b d c:Int} {rs:List Rg} (hv:Val b rs) (k:Nat) (hk:k<rs.length):get d (rs.take (k+1)) c=if lo (rs.getD k (0,0,0))<=c/\c<=hi (rs.getD k (0,0,0)) then vl (rs.getD k (0,0,0)) else get d (rs.take k) c:=by
 induction rs generalizing b k with
 | nil=>simp at hk
 | cons r rs ih =>
  obtain ⟨h1,h2,h3,h4,h5,h6⟩:=hv
  cases k with
  | zero =>
   simp only [List.take_succ_cons,List.take_zero,List.getD_cons_zero,x2y]
  | succ k =>
   have hk':k<rs.length:=(by simpa using hk);have:=ih h6 k hk';simp only [List.take_succ_cons,List.getD_cons_succ,x2y];rw [this];by_cases hc:lo r<=c/\c<=hi r
   ·rw [if_pos hc];have aj:hi r+1<=lo (rs.getD k (0,0,0)):=z2E h6 k hk';rw [if_neg (by omega),if_pos hc]
   ·rw [if_neg hc];split <;> rfl
end Tri
theorem x5r (zs:List Int) (i j:Nat) (v:Int) (hi:i<zs.length):(zs.set i v).getD j 0=if j=i then v else zs.getD j 0:=by
 simp only [List.getD,List.getElem?_set];by_cases h:i=j
 ·subst h; simp [hi]
 ·rw [if_neg h,if_neg (fun e=>h e.symm)]
theorem x0z {B g:Nat} {a:World} (hb:B<=g):∀ (vs:List Value) (o:Nat) (w:World),Below B a w->Below B a (w.setCells g o vs)
 | [],_,_,h=>h
 | v :: vs,o,_,h=>x0z hb vs (o+1) _ (h.setCell (p:=⟨g,o,none⟩) hb v)
def y2I (w:World) (zs:List Int) (e:Ending) (w':World):Prop:=e=.returned (.agg (arrA zs))/\Below w.heap.size w w'
theorem y9c (f:Int->Int) (p:Nat) (zs:List Int) (hl:zs.length=64) (h:∀ j,j<64->zs.getD j 0=f ((64 * p+j:Nat):Int)):zs=Tri.blk f p:=by
 apply List.ext_getElem (by rw [hl,Tri.y3b]);intro i a b;have h1:=h i (by omega);have h2:=Tri.y8a f p i (by omega);rw [<- h2] at h1;simpa [List.getD,a,b] using h1
end Go.Proofs.YtkglkajjofidoaaGreatDoor.Ti
namespace Go.Proofs.YtkglkajjofidoaaGreatDoor.Ti
open Go.Proofs.Tryz
open Go.RowKit Go.Maps
theorem y6Q:laidOutB prog=true:=by kernel_rfl
theorem x9Z:Keyed prog 109:=Keyed.of_law (deep_law_laid y6Q (m:=3) (by decide) (o0d (by kernel_rfl)) (by kernel_rfl) (by kernel_rfl))
def Good (zs:List Int):Prop:=zs.length=64/\∀ z∈zs,0<=z/\z<=65535
theorem y0d {f:Int->Int} (h:∀ c,0<=f c/\f c<=65535) (p:Nat):Good (Tri.blk f p):=by
 refine ⟨by simp [Tri.blk],fun z hz=>?_⟩;simp only [Tri.blk,List.mem_map] at hz;obtain ⟨i,_,rfl⟩:=hz;exact h _
theorem y6Z {α β:Type} (l:List α) (f:α->Option β) (g:α->β) (h:∀ x∈l,f x=some (g x)):l.mapM f=some (l.map g):=by
 induction l with
 | nil=>rfl
 | cons x l ih =>
  rw [List.mapM_cons,h x (by simp),ih (fun y hy=>h y (List.mem_cons_of_mem _ hy))];rfl
theorem y8M {z:Int} (h:0<=z/\z<=65535):(Lit.int .u16 z).wf=true:=by
 simp [Lit.wf,IntKind.min,IntKind.max,IntKind.signed,IntKind.bits]; omega
theorem y0e:prog.cellsOf 109=64:=by kernel_rfl
theorem y6p:prog.cellsOf 107=1:=by kernel_rfl
theorem y1P:prog.keyType 109=true:=by kernel_rfl
theorem x9r (zs:List Int) (h:Good zs) (D:Nat):prog.keyLits (D+2) 109 (arrA zs).toList=some (((List.range 64).map fun i=>[Lit.int .u16 (zs.getD i 0)]).flatten):=by
 have hl:(arrA zs).toList.length=64:=(by rw [Array.length_toList,x1y,h.1]);rw [Program.keyLits.eq_def];simp only [underlying109,y0e,y6p];rw [if_pos hl,y6Z (List.range 64) _ (fun i=>[Lit.int .u16 (zs.getD i 0)])]
 ·rfl
 ·intro i hi;have hi':i<zs.length:=(by rw [h.1]; exact List.mem_range.1 hi);have hz:zs.getD i 0=zs[i]:=by simp [List.getD,hi']
  have e:((arrA zs).toList.drop (i * 1)).take 1=[Value.int .u16 (zs.getD i 0)]:=by
   rw [Nat.mul_one,arrA];rw [List.drop_eq_getElem_cons (by simpa using hi'),hz];simp
  rw [e,Program.keyLits.eq_def];simp only [underlying107];have hw:(Lit.int .u16 (zs.getD i 0)).wf=true:=y8M (by rw [hz]; exact h.2 _ (List.getElem_mem hi'));rw [if_pos ⟨trivial,hw⟩]
def keyL (zs:List Int):Lit:=.string (keyBytes (((List.range 64).map fun i=>[Lit.int .u16 (zs.getD i 0)]).flatten))
theorem y0B {zs:List Int} (h:Good zs):keyOf prog 109 (.agg (arrA zs))=some (keyL zs):=by
 have hf:(Value.agg (arrA zs)).formed prog 109=true:=by
  simp [Value.formed,underlying109,y0e,x1y,h.1]
 have hn:∃ n,prog.types.size+1=n+2:=⟨prog.types.size - 1,by have:0<prog.types.size:=o0d (by kernel_rfl); omega⟩;obtain ⟨n,hn⟩:=hn;unfold keyOf;simp only [underlying109,y1P,hf,Bool.and_self,if_true,Value.cells,hn,x9r zs h n];rfl
theorem key_inj {xs ys:List Int} (hx:Good xs) (hy:Good ys) (h:keyL xs=keyL ys):xs=ys:=by
 have h1:=y0B hx;have h2:=y0B hy;rw [<- h] at h2;have h3:=x9Z.inj h1 h2;simp only [Value.agg.injEq,arrA] at h3;have h4:xs.map (Value.int .u16)=ys.map (Value.int .u16):=(by simpa using h3);exact List.map_inj_right (fun a b e=>by simpa using e) |>.1 h4
theorem y4o {zs:List Int} (h:Good zs):WideAt.IsKeyLit (keyL zs):=x9Z.key (y0B h)
def datA (i:Nat) (m:DataW Unit):List (List Int)->DataW Unit
 | []=>m
 | b :: r=>datA (i+1) (m.put (keyL b) (.lit (.int .u16 (i:Int)))) r
def dat (bs:List (List Int)):DataW Unit:=datA 0 (.map []) bs
theorem y3t (i:Nat) (m:DataW Unit) (bs:List (List Int)) (b:List Int):datA i m (bs++[b])=(datA i m bs).put (keyL b) (.lit (.int .u16 ((i+bs.length:Nat):Int))):=by
 induction bs generalizing i m with
 | nil=>simp [datA]
 | cons x bs ih =>
  simp only [List.cons_append,datA];rw [ih];congr 3;simp only [List.length_cons]; omega
theorem y0l (bs:List (List Int)) (b:List Int):dat (bs++[b])=(dat bs).put (keyL b) (.lit (.int .u16 (bs.length:Int))):=by
 rw [dat,y3t,Nat.zero_add]; rfl
theorem y3u (bs:List (List Int)):IsMap (dat bs):=by
 have:∀ (bs:List (List Int)) i m,IsMap m->IsMap (datA i m bs):=by
  intro bs
  induction bs with
  | nil=>exact fun i m h=>h
  | cons b bs ih=>exact fun i m h=>ih _ _ (h.put _ _)
 exact this bs 0 _ isMap_empty
theorem y9n (n:Nat) (bs:List (List Int)) (ad:bs.length=n) (hg:∀ b∈bs,Good b) (hn:bs.Nodup) (x:List Int) (hx:Good x) :
  Maps.has (dat bs) (keyL x)=decide (x∈bs)/\(x∈bs->∀ z,(dat bs).atKey (keyL x) z=.lit (.int .u16 (bs.idxOf x:Int))):=by
 induction n generalizing bs with
 | zero =>
  rw [List.eq_nil_of_length_eq_zero ad];exact ⟨by simp [dat,datA,Maps.has],fun h=>by cases h⟩
 | succ n ih =>
  obtain ⟨bs,b,rfl⟩:∃ L b,bs=L++[b]:=⟨bs.dropLast,bs.getLast (by intro h; rw [h] at ad; cases ad),(List.dropLast_concat_getLast _).symm⟩;have aq:∀ c∈bs,Good c:=fun c hc=>hg c (List.mem_append_left _ hc);have hb:Good b:=hg b (by simp);rw [List.nodup_append] at hn;obtain ⟨i1,i2⟩:=ih bs (by simpa using ad) aq hn.1;have av:b ∉ bs:=fun h=>hn.2.2 b h b (by simp) rfl;rw [y0l];by_cases hxb:x=b
  ·subst hxb;refine ⟨?_,fun _ z=>?_⟩
   ·rw [has_put_same (y3u bs) (y4o hx)]; simp
   ·rw [atKey_put_same (y3u bs) (y4o hx)]
    have:(bs++[x]).idxOf x=bs.length:=by
     rw [List.idxOf_append,if_neg av]; simp
    rw [this]
  ·have ag:keyL x≠keyL b:=fun h=>hxb (key_inj hx hb h);refine ⟨?_,fun hm z=>?_⟩
   ·rw [has_put_other ag,i1];simp [hxb]
   ·have al:x∈bs:=by
     rcases List.mem_append.1 hm with h | h
     ·exact h
     ·simp at h; exact absurd h hxb
    rw [atKey_put_other ag,i2 al];rw [List.idxOf_append,if_pos al]
theorem z1s (bs:List (List Int)) (hg:∀ b∈bs,Good b) (hn:bs.Nodup) (x:List Int) (hx:Good x) :
  Maps.has (dat bs) (keyL x)=decide (x∈bs)/\(x∈bs->∀ z,(dat bs).atKey (keyL x) z=.lit (.int .u16 (bs.idxOf x:Int))):=y9n _ bs rfl hg hn x hx
end Go.Proofs.YtkglkajjofidoaaGreatDoor.Ti
namespace Go.Proofs.YtkglkajjofidoaaGreatDoor.Ti
open Go.Proofs.Tryz
open Go.RowKit
def x1J (bs:List (List Int)):List Value:=bs.flatten.map (Value.int .u16)
def x4y (bs:List (List Int)):Prop:=∀ b∈bs,Good b
theorem y6D {bs:List (List Int)} (h:x4y bs):bs.flatten.length=bs.length * 64:=by
 induction bs with
 | nil=>rfl
 | cons b bs ih =>
  simp only [List.flatten_cons,List.length_append,List.length_cons];rw [ih (fun c hc=>h c (List.mem_cons_of_mem _ hc)),(h b (by simp)).1]; omega
theorem x6E {bs:List (List Int)} (h:x4y bs) {i j:Nat} (hi:i<bs.length) (hj:j<64):bs.flatten.getD (i * 64+j) 0=(bs.getD i []).getD j 0:=by
 induction bs generalizing i with
 | nil=>simp at hi
 | cons b bs ih =>
  have hb:=(h b (by simp)).1
  cases i with
  | zero =>
   simp only [List.flatten_cons,Nat.zero_mul,Nat.zero_add,List.getD_cons_zero];simp [List.getD,List.getElem?_append_left (show j<b.length by omega)]
  | succ i =>
   have h1:=ih (fun c hc=>h c (List.mem_cons_of_mem _ hc)) (i:=i) (by simpa using hi);simp only [List.flatten_cons,List.getD_cons_succ];rw [<- h1,List.getD,List.getD,List.getElem?_append_right (by omega)];congr 2; omega
theorem y1g (a b:List (List Int)):x1J (a++b)=x1J a++x1J b:=by simp [x1J]
theorem x6u (b:List Int):x1J [b]=b.map (Value.int .u16):=by simp [x1J]
def Ob (e:TypeId) (w:World) (B:Nat) (v:Value) (bs:List (List Int)):Prop:=x4y bs/\w.ownsRow B e 64 v bs.length (x1J bs)
def Sb (w:World) (v:Value) (bs:List (List Int)):Prop:=x4y bs /\
 ((bs=[]/\∃ ao cap,v=.slice ao 0 cap/\cap<=9223372036854775807) \/
  ∃ b off cap,v=.slice (some ⟨b,off,none⟩) bs.length cap/\bs.length<=cap/\cap<=9223372036854775807/\∀ i,i<bs.length->w.rangeAt b (off+i * 64) ((bs.getD i []).map (Value.int .u16)))
theorem Ob.sb {e:TypeId} {w:World} {B:Nat} {v:Value} {bs:List (List Int)} (h:Ob e w B v bs):Sb w v bs:=by
 obtain ⟨hg,h3⟩:=h;have h3':=h3;obtain ⟨_,ac⟩:=h3;refine ⟨hg,?_⟩;rcases ac with ⟨rfl,h0⟩ | ⟨g,cap,cur,hv,hgB,hh,hn,hcap,hsz,htake⟩
 ·exact .inl ⟨List.eq_nil_of_length_eq_zero h0,none,0,rfl,by omega⟩
 ·refine .inr ⟨g,0,cap,hv,hn,by unfold maxLen at hcap; omega,fun i hi j x hx=>?_⟩
  have hl:j<64:=by
   have h1:=(List.getElem?_eq_some_iff.1 hx).1;have h2:=(hg _ (Tri.getD_in hi)).1;rw [List.length_map,h2] at h1; exact h1
  have h64:=y6D hg;have ak:i * 64+j<bs.flatten.length:=by omega
  have:=h3'.cells (g:=g) (by rw [hv]; rfl) (i * 64+j) x (by
   rw [<- hx,x1J,List.getElem?_map,List.getElem?_map];congr 1;have h5:=x6E hg hi hl;have h6:=(hg _ (Tri.getD_in hi)).1;simp only [List.getD,List.getElem?_eq_getElem ak,Option.getD_some] at h5;rw [List.getElem?_eq_getElem ak,h5];simp only [List.getD] at h6 ⊢;rw [List.getElem?_eq_getElem (by omega)]
   simp)
  rw [addr_add] at this;rw [Nat.zero_add,<- this];simp
theorem Sb.shape {w:World} {v:Value} {bs:List (List Int)} (h:Sb w v bs):∃ ao cap,v=.slice ao bs.length cap/\bs.length<=cap/\cap<=9223372036854775807:=by
 rcases h.2 with ⟨rfl,ao,cap,hv,hm⟩ | ⟨b,off,cap,hv,hl,hm,_⟩
 ·exact ⟨ao,cap,hv,by simp,hm⟩
 ·exact ⟨_,cap,hv,hl,hm⟩
theorem Sb.place {w:World} {v:Value} {bs:List (List Int)} (h:Sb w v bs) (h0:0<bs.length):∃ b off cap,v=.slice (some ⟨b,off,none⟩) bs.length cap/\bs.length<=cap/\cap<=9223372036854775807/\∀ i,i<bs.length->w.rangeAt b (off+i * 64) ((bs.getD i []).map (Value.int .u16)):=by
 rcases h.2 with ⟨rfl,_⟩ | h
 ·simp at h0
 ·exact h
theorem x4v {w w':World} {B sz n:Nat} {e:TypeId} {v:Value} {xs:List Value} (h:w.ownsRow B e sz v n xs) (hk:∀ k,B<=k->k<w.heap.size->w'.heap[k]?=w.heap[k]?):w'.ownsRow B e sz v n xs:=by
 obtain ⟨h1,h2 | ⟨g,cap,cur,hv,hg,hh,r⟩⟩:=h
 ·exact ⟨h1,.inl h2⟩
 ·refine ⟨h1,.inr ⟨g,cap,cur,hv,hg,?_,r⟩⟩;rw [hk g hg (Array.getElem?_eq_some_iff.1 hh).1]; exact hh
def T4 (w:World) (B:Nat) (t:Value) (rs:List Tri.Rg) (d:Int):Prop :=
 Tri.Val 0 rs/\(0<=d/\d<=65535)/\∃ g iv bv,t=.pointer (some ⟨g,0,none⟩)/\B<=g/\w.heap[g]?=some (.cells #[iv,bv,.int .i64 d] 106 (0,0)) /\
  Ok .u16 107 w B iv ((Tri.idx (Tri.get d rs)).map fun n:Nat=>(n:Int))/\Ob 109 w B bv (Tri.bls (Tri.get d rs))
theorem T4.keep {w w':World} {B:Nat} {t:Value} {rs:List Tri.Rg} {d:Int} (h:T4 w B t rs d) (_:w.heap.size<=w'.heap.size) (hk:∀ k,B<=k->k<w.heap.size->w'.heap[k]?=w.heap[k]?):T4 w' B t rs d:=by
 obtain ⟨h1,h2,g,iv,bv,h3,h4,h5,h6,h7⟩:=h;refine ⟨h1,h2,g,iv,bv,h3,h4,?_,⟨h6.1,h6.2.1,x4v h6.2.2 hk⟩,⟨h7.1,x4v h7.2 hk⟩⟩;rw [hk g h4 (Array.getElem?_eq_some_iff.1 h5).1]; exact h5
theorem T4.below {w w':World} {B:Nat} {t:Value} {rs:List Tri.Rg} {d:Int} (h:T4 w B t rs d) (hb:Bw w w'):T4 w' B t rs d:=h.keep hb.size fun k _ hk=>hb.block k hk
theorem T4.parts {w:World} {B:Nat} {t:Value} {rs:List Tri.Rg} {d:Int} (h:T4 w B t rs d):∃ g iv bv,t=.pointer (some ⟨g,0,none⟩) /\
  w.cell? ⟨g,0,none⟩=some iv/\w.cell? ⟨g,1,none⟩=some bv/\w.cell? ⟨g,2,none⟩=some (.int .i64 d) /\
  Sk .u16 w iv ((Tri.idx (Tri.get d rs)).map fun n:Nat=>(n:Int))/\Sb w bv (Tri.bls (Tri.get d rs)):=by
 obtain ⟨h1,h2,g,iv,bv,h3,h4,h5,h6,h7⟩:=h;exact ⟨g,iv,bv,h3,by rw [cell_of_row _ _ _ _ _ _ h5]; rfl,by rw [cell_of_row _ _ _ _ _ _ h5]; rfl,by rw [cell_of_row _ _ _ _ _ _ h5]; rfl,h6.sk,h7.sb⟩
theorem T4.get_ok {w:World} {B:Nat} {t:Value} {rs:List Tri.Rg} {d:Int} (h:T4 w B t rs d) (c:Int):0<=Tri.get d rs c/\Tri.get d rs c<=65535:=Tri.x7R h.2.1 h.1
theorem z1O (l:List Nat) (p:Nat) (hp:p<l.length):((l.map fun n:Nat=>(n:Int)).getD p 0)=((l.getD p 0:Nat):Int):=by
 simp [List.getD,hp]
theorem y6f (f:Int->Int) (n:Nat):((Tri.blk f (n / 64)).map (Value.int .u16))[n % 64]?=some (.int .u16 (f n)):=by
 have h1:=Tri.y8a f (n / 64) (n % 64) (by omega);rw [show 64 * (n / 64)+n % 64=n by omega] at h1;have h2:=Tri.y3b f (n / 64);have h3:n % 64<(Tri.blk f (n / 64)).length:=(by omega);rw [<- h1,List.getElem?_map,List.getElem?_eq_getElem h3];simp [List.getD,h3]
theorem T4.at {w:World} {B:Nat} {t:Value} {rs:List Tri.Rg} {d:Int} (h:T4 w B t rs d) (n:Nat) (hn:n<1114112):∃ g bi oi L ab bb ob m aa z,t=.pointer (some ⟨g,0,none⟩) /\
  w.cell? ⟨g,0,none⟩=some (.slice (some ⟨bi,oi,none⟩) L ab)/\w.cell? ⟨g,1,none⟩=some (.slice (some ⟨bb,ob,none⟩) m aa)/\w.cell? ⟨g,2,none⟩=some (.int .i64 d) /\
  n / 64<L/\L<=20000/\L<=ab/\ab<=9223372036854775807/\z<m/\m<=20000/\m<=aa/\aa<=9223372036854775807 /\
  w.cell? ⟨bi,oi+n / 64,none⟩=some (.int .u16 (z:Nat))/\w.cell? ⟨bb,ob+z * 64+n % 64,none⟩=some (.int .u16 (Tri.get d rs n)):=by
 obtain ⟨g,iv,bv,ht,c0,c1,c2,hi,hb⟩:=h.parts;have ad:((Tri.idx (Tri.get d rs)).map fun n:Nat=>(n:Int)).length=(Tri.idx (Tri.get d rs)).length:=List.length_map _;have hil:=Tri.idx_len (Tri.get d rs);have hbn:=Tri.y3d (Tri.get d rs);have hx:=Tri.y3c (Tri.get d rs) (n / 64) (by omega);obtain ⟨hx1,hx2⟩:=hx;obtain ⟨bi,oi,ab,rfl,hi1,hi2,ar⟩:=hi.place (by omega);have ah:=ar (n / 64) (by omega);rw [z1O _ _ (by omega)] at ah;obtain ⟨bb,ob,aa,rfl,am,an,ap⟩:=hb.place (by omega);have ai:=ap _ hx2;rw [hx1] at ai;have af:=ai (n % 64) _ (y6f _ n);exact ⟨g,bi,oi,_,ab,bb,ob,_,aa,_,ht,c0,c1,c2,by omega,by omega,hi1,hi2,hx2,by omega,am,an,ah,af⟩
theorem get4 (t:Value) (rs:List Tri.Rg) (d c:Int) (w:World) (h:∃ B,T4 w B t rs d) (hc:Fi c):Calls prog 35 #[t,.int .i64 c] w (x1e w (Tri.get d rs c)):=by
 obtain ⟨B,h⟩:=h;obtain ⟨hc1,hc2⟩:=hc;by_cases aj:c<0
 ·obtain ⟨g,iv,bv,rfl,c0,c1,c2,hi,hb⟩:=h.parts;rw [Tri.x7Q h.1 aj];clear hi hb h;go_enter func35,ntmps35;go_wp2;go_ret;exact ⟨rfl,0,rfl⟩
 ·by_cases hhi:1114111<c
  ·obtain ⟨g,iv,bv,rfl,c0,c1,c2,hi,hb⟩:=h.parts;rw [Tri.y3W h.1 hhi];clear hi hb h;go_enter func35,ntmps35;go_wp2;go_ret;exact ⟨rfl,0,rfl⟩
  ·obtain ⟨n,rfl⟩:∃ n:Nat,c=(n:Int):=⟨c.toNat,by omega⟩;have htd:(n:Int).tdiv 64=((n / 64:Nat):Int):=(by rw [Int.tdiv_eq_ediv_of_nonneg (by omega)]; omega);have htr:(n:Int).tmod 64=((n % 64:Nat):Int):=(by rw [Int.tmod_eq_emod_of_nonneg (by omega)]; omega);obtain ⟨hr1,hr2⟩:=h.get_ok n;obtain ⟨g,bi,oi,L,ab,bb,ob,m,aa,z,rfl,c0,c1,c2,x1,x2,x3,x4,x5,x6,x7,x8,ah,af⟩:=h.at n (by omega);clear h;generalize Tri.get d rs n=v at *;have hm64:n % 64<64:=Nat.mod_lt _ (by omega);generalize n % 64=j at *;generalize n / 64=q at *;go_enter func35,ntmps35;go_wp2;go_quiet (fail);go_wp2;go_ret;exact ⟨rfl,nq,rfl⟩
end Go.Proofs.YtkglkajjofidoaaGreatDoor.Ti
namespace Go.Proofs.YtkglkajjofidoaaGreatDoor.Ti
open Go.Proofs.Tryz
open Go.RowKit
theorem Tryz.info107:(prog.info? 107).map (fun i=>(i.zero,i.size,i.bytes))=some (some (.int .u16 0),1,2):=by kernel_rfl
theorem x4T {zs:List Int} (h:zs.length=64):(prog.info? 109).map (·.size)=some (zs.map (Value.int .u16)).length:=by rw [List.length_map,h]; kernel_rfl
def Zs:List Int:=List.replicate 64 0
theorem z0S:Zs.length=64:=by simp [Zs]
end Go.Proofs.YtkglkajjofidoaaGreatDoor.Ti
