/- TiTri4 TiSz4 TiRefG4 TiRefC4 TiRefR4 TiFew4 TiRefN4 TiTriB4 TiCon4 TiArr4 TiTriC4 TiRefB4 TiMet4 TiTrA4 TiTrB4 -/
import Derived.Test.YtihhhjodonkkcaaGreatDoorX1
import Derived.Deep.QuietTactic
import Derived.BigQuiet
import Derived.Maps.AppendAt
import Derived.Laws.AppendOwnNone
import Derived.ChangeKeysEq
import Derived.Deep.WholeRow
import Derived.Deep.MidRow
import Derived.Deep.Cut
import Derived.Laws.Rows
import Derived.DeepKeys4
import Derived.Maps.Views
import Derived.Maps.OwnSet
import Derived.Lib.SliceRun
namespace Go.Proofs.YtihhhjodonkkcaaGreatDoor.Ti.Tri
set_option linter.unusedSimpArgs false
abbrev Rg:=Int × Int × Int
def lo (r:Rg):Int:=r.1
def hi (r:Rg):Int:=r.2.1
def vl (r:Rg):Int:=r.2.2
theorem lo_mk a b c:lo (a,b,c)=a:=rfl
theorem hi_mk a b c:hi (a,b,c)=b:=rfl
theorem vl_mk a b c:vl (a,b,c)=c:=rfl
def get (d:Int):List Rg→Int→Int
 | [],_=>d
 | r :: rs,c=>if lo r≤c∧c≤hi r then vl r else get d rs c
theorem get_cons d (r:Rg) (rs:List Rg) c:get d (r :: rs) c=if lo r≤c∧c≤hi r then vl r else get d rs c:=rfl
def bad (p:Option Int) (r:Rg):Int :=
 if lo r<0∨1114111<hi r∨hi r<lo r then 40
 else if vl r<0∨65535<vl r then 42
 else match p with
  | none=>0
  | some h=>if lo r≤h then 41 else 0
def checkA (d:Int):Nat→Option Int→List Rg→Int × Int
 | i,_,[]=>if d<0∨65535<d then ((i:Int),42) else (0,0)
 | i,p,r :: rs=>if bad p r=0 then checkA d (i+1) (some (hi r)) rs else ((i:Int),bad p r)
def check (d:Int) (rs:List Rg):Int × Int:=checkA d 0 none rs
def Val:Int→List Rg→Prop
 | _,[]=>True
 | b,r :: rs=>b≤lo r∧lo r≤hi r∧hi r≤1114111∧0≤vl r∧vl r≤65535∧Val (hi r+1) rs
theorem Val.mono {b b'} {rs:List Rg} (h:Val b rs) (hb:b'≤b):Val b' rs:=by
 cases rs with
 | nil=>trivial
 | cons r rs=>exact ⟨Int.le_trans hb h.1,h.2⟩
theorem check_val d i (p:Option Int) (rs:List Rg):(checkA d i p rs).2=0↔(Val (match p with | none=>0 | some h=>max 0 (h+1)) rs∧0≤d∧d≤65535):=by
 induction rs generalizing i p with
 | nil =>
  simp only [checkA,Val,true_and]
  split
  ·simp; omega
  ·simp; omega
 | cons r rs ih =>
  simp only [checkA]
  by_cases hb:bad p r=0
  ·rw [if_pos hb,ih]
   unfold bad at hb
   split at hb
   ·simp at hb
   ·rename_i h1
    split at hb
    ·simp at hb
    ·rename_i h2
     cases p with
     | none =>
      simp only [Val]
      constructor
      ·rintro ⟨h3,h4⟩
       exact ⟨⟨by omega,by omega,by omega,by omega,by omega,h3.mono (by omega)⟩,h4⟩
      ·rintro ⟨⟨_,_,_,_,_,h3⟩,h4⟩
       exact ⟨h3.mono (by omega),h4⟩
     | some h =>
      simp only at hb
      split at hb
      ·simp at hb
      ·simp only [Val]
       constructor
       ·grind
       ·rintro ⟨⟨_,_,_,_,_,h3⟩,h4⟩
        exact ⟨h3.mono (by omega),h4⟩
  ·rw [if_neg hb]
   constructor
   ·intro h; exact absurd h hb
   ·rintro ⟨⟨h1,h2,h3,h4,h5,_⟩,_⟩
    exfalso
    apply hb
    unfold bad
    cases p with
    | none=>simp only at h1; rw [if_neg (by omega),if_neg (by omega)]
    | some h=>simp only at h1; rw [if_neg (by omega),if_neg (by omega)]; simp only; rw [if_neg (by omega)]
theorem check_ok {d} {rs:List Rg}:(check d rs).2=0↔Val 0 rs∧0≤d∧d≤65535:=check_val d 0 none rs
theorem check_zero {d} i (p:Option Int) (rs:List Rg) (h:(checkA d i p rs).2=0):(checkA d i p rs).1=0:=by
 induction rs generalizing i p with
 | nil =>
  simp only [checkA] at h ⊢
  split at h
  ·simp at h
  ·rename_i h1; rw [if_neg h1]
 | cons r rs ih =>
  simp only [checkA] at h ⊢
  by_cases hb:bad p r=0
  ·grind
  ·grind
theorem get_below {d b c} {rs:List Rg} (h:Val b rs) (hc:c<b):get d rs c=d:=by
 induction rs generalizing b with
 | nil=>rfl
 | cons r rs ih =>
  obtain ⟨h1,h2,h3,h4,h5,h6⟩:=h
  simp only [get]
  rw [if_neg (by omega)]
  exact ih h6 (by omega)
theorem get_range {d c} (hd:0≤d∧d≤65535) {b} {rs:List Rg} (h:Val b rs):0≤get d rs c∧get d rs c≤65535:=by
 induction rs generalizing b with
 | nil=>exact hd
 | cons r rs ih =>
  obtain ⟨h1,h2,h3,h4,h5,h6⟩:=h
  simp only [get]
  split
  ·omega
  ·exact ih h6
theorem get_above {d c b} {rs:List Rg} (h:Val b rs) (hc:1114111<c):get d rs c=d:=by
 induction rs generalizing b with
 | nil=>rfl
 | cons r rs ih =>
  obtain ⟨h1,h2,h3,h4,h5,h6⟩:=h
  simp only [get]
  rw [if_neg (by omega)]
  exact ih h6
end Go.Proofs.YtihhhjodonkkcaaGreatDoor.Ti.Tri
namespace Go.Proofs.YtihhhjodonkkcaaGreatDoor.Ti
open Go.RowKit
def Sz (sz:Nat) (w:World) (v:Value) (len:Nat) (us:List Value):Prop :=
 us.length=len * sz∧len≤5864062014805 ∧
  ((len=0∧∃ ao cap,v=.slice ao 0 cap∧cap≤9223372036854775807∧(ao=none→cap=0)) ∨
   ∃ b off cap,v=.slice (some ⟨b,off,none⟩) len cap∧len≤cap∧cap≤9223372036854775807∧∀ i,i<len * sz→w.cell? ⟨b,off+i,none⟩=some (us.getD i undef))
theorem Sz.below {sz len w w' v us} (h:Sz sz w v len us) (hb:Below w.heap.size w w'):Sz sz w' v len us:=by
 obtain ⟨h1,h2,h3⟩:=h
 refine ⟨h1,h2,?_⟩
 rcases h3 with h3 | ⟨b,off,cap,hv,hl,hm,hc⟩
 ·exact .inl h3
 ·refine .inr ⟨b,off,cap,hv,hl,hm,fun i hi=>?_⟩
  rw [hb.cell (lt_of_cell? (hc i hi))]
  exact hc i hi
theorem Sz.shape {sz len w v us} (h:Sz sz w v len us):∃ ao cap,v=.slice ao len cap∧len≤cap∧cap≤9223372036854775807:=by
 rcases h.2.2 with ⟨rfl,ao,cap,hv,hm,_⟩ | ⟨b,off,cap,hv,hl,hm,_⟩
 ·exact ⟨ao,cap,hv,by simp,hm⟩
 ·exact ⟨_,cap,hv,hl,hm⟩
theorem Sz.place {sz len w v us} (h:Sz sz w v len us) (hne:0<len) :
  ∃ b off cap,v=.slice (some ⟨b,off,none⟩) len cap∧len≤cap∧cap≤9223372036854775807∧∀ i,i<len * sz→w.cell? ⟨b,off+i,none⟩=some (us.getD i undef):=by
 rcases h.2.2 with ⟨rfl,_⟩ | h
 ·omega
 ·exact h
def rcell (r:Tri.Rg):List Value:=[.int .i64 (Tri.lo r),.int .i64 (Tri.hi r),.int .i64 (Tri.vl r)]
def rcells:List Tri.Rg→List Value
 | []=>[]
 | r :: rs=>rcell r++rcells rs
theorem rcells_len (rs:List Tri.Rg):(rcells rs).length=rs.length * 3:=by
 induction rs with
 | nil=>rfl
 | cons r rs ih=>simp [rcells,rcell,ih]; omega
theorem rcells_app (a b:List Tri.Rg):rcells (a++b)=rcells a++rcells b:=by
 induction a with
 | nil=>rfl
 | cons r a ih=>simp [rcells,ih]
theorem rcells_take (rs:List Tri.Rg) k:(rcells rs).take (k * 3)=rcells (rs.take k):=by
 induction rs generalizing k with
 | nil=>simp [rcells]
 | cons r rs ih =>
  cases k with
  | zero=>simp [rcells]
  | succ k =>
   have:=ih k
   simp only [rcells,rcell,List.take_succ_cons,show (k+1) * 3=k * 3+1+1+1 by omega,List.cons_append,List.nil_append]
   rw [this]
theorem rcells_at (rs:List Tri.Rg) i (hi:i<rs.length):(rcells rs).getD (i * 3) undef=.int .i64 (Tri.lo (rs.getD i (0,0,0)))∧(rcells rs).getD (i * 3+1) undef=.int .i64 (Tri.hi (rs.getD i (0,0,0)))∧(rcells rs).getD (i * 3+2) undef=.int .i64 (Tri.vl (rs.getD i (0,0,0))):=by
 induction rs generalizing i with
 | nil=>simp at hi
 | cons r rs ih =>
  cases i with
  | zero=>exact ⟨rfl,rfl,rfl⟩
  | succ i =>
   have:=ih i (by simpa using hi)
   have e:∀ j,(rcells (r :: rs)).getD (j+3) undef=(rcells rs).getD j undef:=fun j=>rfl
   rw [show (i+1) * 3=i * 3+3 by omega,show i * 3+3+1=(i * 3+1)+3 by omega,show i * 3+3+2=(i * 3+2)+3 by omega,e,e,e]
   exact this
def Fi (z:Int):Prop:=-9223372036854775808≤z∧z≤9223372036854775807
def FitR (rs:List Tri.Rg):Prop:=∀ r∈rs,Fi (Tri.lo r)∧Fi (Tri.hi r)∧Fi (Tri.vl r)
theorem FitR.at {rs:List Tri.Rg} (h:FitR rs) i:Fi (Tri.lo (rs.getD i (0,0,0)))∧Fi (Tri.hi (rs.getD i (0,0,0)))∧Fi (Tri.vl (rs.getD i (0,0,0))):=by
 rcases Nat.lt_or_ge i rs.length with hi | hi
 ·simp only [List.getD,List.getElem?_eq_getElem hi,Option.getD_some]; exact h _ (List.getElem_mem hi)
 ·simp only [List.getD,List.getElem?_eq_none hi,Option.getD_none]
  simp [Fi,Tri.lo,Tri.hi,Tri.vl]
def Sr (w:World) (v:Value) (rs:List Tri.Rg):Prop:=FitR rs∧Sz 3 w v rs.length (rcells rs)
theorem Sr.below {w w' v} {rs:List Tri.Rg} (h:Sr w v rs) (hb:Below w.heap.size w w'):Sr w' v rs:=⟨h.1,h.2.below hb⟩
theorem Sr.shape {w v} {rs:List Tri.Rg} (h:Sr w v rs):∃ ao cap,v=.slice ao rs.length cap∧rs.length≤cap∧cap≤9223372036854775807:=h.2.shape
theorem Sr.len {w v} {rs:List Tri.Rg} (h:Sr w v rs):rs.length≤5864062014805:=h.2.2.1
theorem Sr.place {w v} {rs:List Tri.Rg} (h:Sr w v rs) (hne:0<rs.length) :
  ∃ b off cap,v=.slice (some ⟨b,off,none⟩) rs.length cap∧rs.length≤cap∧cap≤9223372036854775807∧∀ i,i<rs.length →
   w.cell? ⟨b,off+i * 3,none⟩=some (.int .i64 (Tri.lo (rs.getD i (0,0,0))))∧w.cell? ⟨b,off+i * 3+1,none⟩=some (.int .i64 (Tri.hi (rs.getD i (0,0,0))))∧w.cell? ⟨b,off+i * 3+2,none⟩=some (.int .i64 (Tri.vl (rs.getD i (0,0,0)))):=by
 obtain ⟨b,off,cap,h1,h2,h3,h4⟩:=h.2.place hne
 refine ⟨b,off,cap,h1,h2,h3,fun i hi=>?_⟩
 have hr:=rcells_at rs i hi
 have k0:=h4 (i * 3) (by omega)
 have k1:=h4 (i * 3+1) (by omega)
 have k2:=h4 (i * 3+2) (by omega)
 rw [hr.1] at k0
 rw [hr.2.1] at k1
 rw [hr.2.2] at k2
 exact ⟨k0,k1,k2⟩
end Go.Proofs.YtihhhjodonkkcaaGreatDoor.Ti
namespace Go.Proofs.YtihhhjodonkkcaaGreatDoor.Ti
open Go.RowKit
end Go.Proofs.YtihhhjodonkkcaaGreatDoor.Ti
namespace Go.Proofs.YtihhhjodonkkcaaGreatDoor.Ti
open Go.RowKit
def TwoPost (w:World) (r:Int × Int) (e:Ending) (w':World):Prop:=e=.returned (.tuple #[.int .i64 r.1,.int .i64 r.2])∧Below w.heap.size w w'
theorem TwoPost.mk {w w'} {r:Int × Int} {a b} (h:r=(a,b)) (hb:Below w.heap.size w w'):TwoPost w r (.returned (.tuple #[.int .i64 a,.int .i64 b])) w':=by subst h; exact ⟨rfl,hb⟩
def prv (rs:List Tri.Rg):Nat→Option Int
 | 0=>none
 | k+1=>some (Tri.hi (rs.getD k (0,0,0)))
theorem check_step {d} {rs:List Tri.Rg} {k} (hk:k<rs.length):Tri.checkA d k (prv rs k) (rs.drop k)=if Tri.bad (prv rs k) (rs.getD k (0,0,0))=0 then Tri.checkA d (k+1) (prv rs (k+1)) (rs.drop (k+1)) else ((k:Int),Tri.bad (prv rs k) (rs.getD k (0,0,0))):=by
 rw [List.drop_eq_getElem_cons hk]
 have e:rs.getD k (0,0,0)=rs[k]:=by grind
 have e2:prv rs (k+1)=some (Tri.hi rs[k]):=by rw [← e]; rfl
 rw [e2,e]
 simp only [Tri.checkA]
theorem bad_range {p:Option Int} {r:Tri.Rg} (h:Tri.lo r<0∨1114111<Tri.hi r∨Tri.hi r<Tri.lo r):Tri.bad p r=40:=by unfold Tri.bad; rw [if_pos h]
theorem bad_value {p:Option Int} {r:Tri.Rg} (h:¬ (Tri.lo r<0∨1114111<Tri.hi r∨Tri.hi r<Tri.lo r)) (h2:Tri.vl r<0∨65535<Tri.vl r):Tri.bad p r=42:=by unfold Tri.bad; rw [if_neg h,if_pos h2]
theorem bad_order {x} {r:Tri.Rg} (h:¬ (Tri.lo r<0∨1114111<Tri.hi r∨Tri.hi r<Tri.lo r)) (h2:¬ (Tri.vl r<0∨65535<Tri.vl r)) (h3:Tri.lo r≤x):Tri.bad (some x) r=41:=by unfold Tri.bad; rw [if_neg h,if_neg h2]; simp only; rw [if_pos h3]
theorem bad_some {x} {r:Tri.Rg} (h:¬ (Tri.lo r<0∨1114111<Tri.hi r∨Tri.hi r<Tri.lo r)) (h2:¬ (Tri.vl r<0∨65535<Tri.vl r)) (h3:¬ Tri.lo r≤x):Tri.bad (some x) r=0:=by unfold Tri.bad; rw [if_neg h,if_neg h2]; simp only; rw [if_neg h3]
end Go.Proofs.YtihhhjodonkkcaaGreatDoor.Ti
namespace Go.Proofs.YtihhhjodonkkcaaGreatDoor.Ti
open Go.RowKit
theorem Tryz.info218:(Tryz.prog.info? 218).map (fun i=>(i.zero,i.size,i.bytes))=some (some (.agg #[.int .i64 0,.int .i64 0,.int .i64 0]),3,24):=by kernel_rfl
def Or4 (w:World) (B:Nat) (v:Value) (rs:List Tri.Rg):Prop:=FitR rs∧rs.length≤5864062014805∧w.ownsRow B 218 3 v rs.length (rcells rs)
theorem Or4.sr {w B v} {rs:List Tri.Rg} (h:Or4 w B v rs):Sr w v rs:=by
 obtain ⟨h1,h2,h3⟩:=h
 have h3':=h3
 obtain ⟨_,hcase⟩:=h3
 refine ⟨h1,rcells_len rs,h2,?_⟩
 rcases hcase with ⟨rfl,h0⟩ | ⟨g,cap,cur,hv,hg,hh,hn,hcap,hsz,htake⟩
 ·grind
 ·refine .inr ⟨g,0,cap,hv,hn,by unfold maxLen at hcap; omega,fun i hi=>?_⟩
  have hl:=rcells_len rs
  have:=h3'.cells (g:=g) (by rw [hv]; rfl) i ((rcells rs).getD i undef) (by simp [List.getD,show i<(rcells rs).length by omega])
  rw [addr_add] at this
  exact this
theorem Or4.nil w B:Or4 w B (.slice none 0 0) []:=⟨fun r hr=>by simp at hr,by simp,World.ownsRow_nil _ _ _ _⟩
theorem row_below3 {w w' B sz e v} {n xs} (h:w.ownsRow B e sz v n xs) (hb:Below w.heap.size w w'):w'.ownsRow B e sz v n xs:=by
 refine h.kept (row:=none) ⟨hb.os,hb.tape,hb.output,hb.size,fun k hk _=>hb.block k hk⟩ ?_
 cases h':v.ownBlock with
 | none=>exact .inl rfl
 | some k=>exact .inr (by simp)
theorem Or4.below {w w' B v} {rs:List Tri.Rg} (h:Or4 w B v rs) (hb:Below w.heap.size w w'):Or4 w' B v rs:=⟨h.1,h.2.1,row_below3 h.2.2 hb⟩
theorem rcells_one (rs:List Tri.Rg):∀ u∈rcells rs,u.oneCell'=true:=by
 induction rs with
 | nil=>intro u hu; simp [rcells] at hu
 | cons r rs ih =>
  intro u hu
  simp only [rcells,rcell,List.mem_append,List.mem_cons,List.mem_nil_iff,or_false] at hu
  rcases hu with (rfl | rfl | rfl) | hu
  ·rfl
  ·rfl
  ·rfl
  ·exact ih u hu
end Go.Proofs.YtihhhjodonkkcaaGreatDoor.Ti
namespace Go.Proofs.YtihhhjodonkkcaaGreatDoor.Ti
open Go.RowKit
end Go.Proofs.YtihhhjodonkkcaaGreatDoor.Ti
namespace Go.Proofs.YtihhhjodonkkcaaGreatDoor.Ti
open Go.RowKit
theorem val_at {b} {rs:List Tri.Rg} (h:Tri.Val b rs) (hb:0≤b) k (hk:k<rs.length):0≤Tri.lo (rs.getD k (0,0,0))∧Tri.lo (rs.getD k (0,0,0))≤Tri.hi (rs.getD k (0,0,0))∧Tri.hi (rs.getD k (0,0,0))≤1114111∧0≤Tri.vl (rs.getD k (0,0,0))∧Tri.vl (rs.getD k (0,0,0))≤65535:=by
 induction rs generalizing b k with
 | nil=>simp at hk
 | cons r rs ih =>
  obtain ⟨h1,h2,h3,h4,h5,h6⟩:=h
  cases k with
  | zero=>grind
  | succ k=>grind
def RgsPost (w:World) (rs:List Tri.Rg) (e:Ending) (w':World):Prop:=∃ v,e=.returned v∧Or4 w' w.heap.size v rs∧Below w.heap.size w w'
theorem cell3_new (w:World) (r:Tri.Rg):∀ (j:Nat) (u:Value),(rcells [r])[j]?=some u→(w.alloc (.cells #[.int .i64 (Tri.lo r),.int .i64 (Tri.hi r),.int .i64 (Tri.vl r)] 218)).cell? ((⟨w.heap.size,0,none⟩:Addr).add j)=some u:=by
 intro j u hj
 match j,hj with
 | 0,hj=>simp [rcells,rcell] at hj; subst hj; simp [Addr.add]
 | 1,hj=>simp [rcells,rcell] at hj; subst hj; simp [Addr.add]
 | 2,hj=>simp [rcells,rcell] at hj; subst hj; simp [Addr.add]
 | j+3,hj=>simp [rcells,rcell] at hj
end Go.Proofs.YtihhhjodonkkcaaGreatDoor.Ti
namespace Go.Proofs.YtihhhjodonkkcaaGreatDoor.Ti.Tri
def blk (f:Int→Int) (p:Nat):List Int:=(List.range 64).map fun i=>f ((64 * p+i:Nat):Int)
def pcs (f:Int→Int):List (List Int):=(List.range 17408).map (blk f)
def push (bs:List (List Int)) (b:List Int):List (List Int):=if b∈bs then bs else bs++[b]
def idxA:List (List Int)→List (List Int)→List Nat
 | _,[]=>[]
 | bs,b :: r=>bs.idxOf b :: idxA (push bs b) r
def blkA:List (List Int)→List (List Int)→List (List Int)
 | bs,[]=>bs
 | bs,b :: r=>blkA (push bs b) r
def idx (f:Int→Int):List Nat:=idxA [] (pcs f)
def bls (f:Int→Int):List (List Int):=blkA [] (pcs f)
theorem blkA_app bs a b:blkA bs (a++b)=blkA (blkA bs a) b:=by
 induction a generalizing bs with
 | nil=>rfl
 | cons x a ih=>simp only [List.cons_append,blkA,ih]
theorem push_same {bs b} (h:b∈bs):push bs b=bs:=by unfold push; rw [if_pos h]
theorem pcs_len f:(pcs f).length=17408:=by simp [pcs]
theorem idxA_len bs ps:(idxA bs ps).length=ps.length:=by
 induction ps generalizing bs with
 | nil=>rfl
 | cons p ps ih=>simp [idxA,ih]
theorem idx_len f:(idx f).length=17408:=by rw [idx,idxA_len,pcs_len]
theorem blkA_len bs ps:bs.length≤(blkA bs ps).length∧(blkA bs ps).length≤bs.length+ps.length:=by
 induction ps generalizing bs with
 | nil=>simp [blkA]
 | cons p ps ih =>
  have:=ih (push bs p)
  have h2:bs.length≤(push bs p).length∧(push bs p).length≤bs.length+1:=by unfold push; split <;> simp
  simp only [blkA,List.length_cons]; omega
theorem bls_len f:(bls f).length≤17408:=by
 have:=blkA_len [] (pcs f)
 rw [pcs_len] at this
 simpa [bls] using this.2
end Go.Proofs.YtihhhjodonkkcaaGreatDoor.Ti.Tri
namespace Go.Proofs.YtihhhjodonkkcaaGreatDoor.Ti
open Go.RowKit
def IntPost (w:World) (n:Int) (e:Ending) (w':World):Prop:=e=.returned (.int .i64 n)∧Below w.heap.size w w'
def IntDraws (w:World) (n:Int) (e:Ending) (w':World):Prop:=e=.returned (.int .i64 n)∧∃ m,w'=w.drewN m
def BuildPost (T:World→Value→List Tri.Rg→Int→Prop) (w:World) (rs:List Tri.Rg) (d:Int) (e:Ending) (w':World):Prop :=
 Below w.heap.size w w'∧(((Tri.check d rs).2=0∧∃ a,e=.returned (.tuple #[.pointer (some a),.int .i64 0,.int .i64 0])∧T w' (.pointer (some a)) rs d) ∨
  ((Tri.check d rs).2≠0∧e=.returned (.tuple #[.pointer none,.int .i64 (Tri.check d rs).1,.int .i64 (Tri.check d rs).2])))
end Go.Proofs.YtihhhjodonkkcaaGreatDoor.Ti
namespace Go.Proofs.YtihhhjodonkkcaaGreatDoor.Ti
open Go.RowKit
def arrA (zs:List Int):Array Value:=(zs.map (Value.int .u16)).toArray
theorem arrA_size zs:(arrA zs).size=zs.length:=by simp [arrA]
theorem arrA_one zs:(arrA zs).all (·.oneCell')=true:=by
 simp [arrA,Value.oneCell']
def Box (w:World) (g:Nat) (zs:List Int):Prop:=w.rangeAt g 0 (zs.map (Value.int .u16))
end Go.Proofs.YtihhhjodonkkcaaGreatDoor.Ti
namespace Go.Proofs.YtihhhjodonkkcaaGreatDoor.Ti.Tri
theorem push_len bs p:(push bs p).length=if bs.idxOf p=bs.length then bs.length+1 else bs.length:=by
 unfold push
 by_cases h:p∈bs
 ·grind
 ·grind
theorem push_at bs p:(push bs p).getD (bs.idxOf p) []=p∧bs.idxOf p<(push bs p).length:=by
 unfold push
 by_cases h:p∈bs
 ·grind
 ·grind
theorem idxA_at bs ps i (hi:i<ps.length):(idxA bs ps).getD i 0=(blkA bs (ps.take i)).idxOf (ps.getD i []):=by
 induction ps generalizing bs i with
 | nil=>simp at hi
 | cons p ps ih =>
  cases i with
  | zero=>simp [idxA,blkA]
  | succ i =>
   have:=ih (push bs p) i (by simpa using hi)
   simpa [idxA,blkA] using this
theorem blkA_next (bs ps:List (List Int)) i (hi:i<ps.length):blkA bs (ps.take (i+1))=push (blkA bs (ps.take i)) (ps.getD i []):=by
 have h:ps.take (i+1)=ps.take i++[ps.getD i []]:=by simp_all
 rw [h,blkA_app]; rfl
theorem push_nodup {bs p} (h:bs.Nodup):(push bs p).Nodup:=by
 unfold push
 split
 ·exact h
 ·grind
theorem blkA_nodup {bs ps} (h:bs.Nodup):(blkA bs ps).Nodup:=by
 induction ps generalizing bs with
 | nil=>exact h
 | cons p ps ih=>exact ih (push_nodup h)
theorem getD_in {l:List (List Int)} {i} (hi:i<l.length):l.getD i []∈l:=by grind
theorem push_front bs p i (hi:i<bs.length):(push bs p).getD i []=bs.getD i []∧i<(push bs p).length:=by
 unfold push
 split
 ·exact ⟨rfl,hi⟩
 ·grind
theorem blkA_front bs ps i (hi:i<bs.length):(blkA bs ps).getD i []=bs.getD i []∧i<(blkA bs ps).length:=by
 induction ps generalizing bs with
 | nil=>exact ⟨rfl,hi⟩
 | cons p ps ih =>
  have h1:=push_front bs p i hi
  have h2:=ih (push bs p) h1.2
  exact ⟨by simp only [blkA]; rw [h2.1,h1.1],h2.2⟩
theorem bls_idx f p (hp:p<17408):(bls f).getD ((idx f).getD p 0) []=blk f p∧(idx f).getD p 0<(bls f).length:=by
 have hl:=pcs_len f
 have e:pcs f=(pcs f).take (p+1)++(pcs f).drop (p+1):=(List.take_append_drop _ _).symm
 have hb:bls f=blkA (push (blkA [] ((pcs f).take p)) ((pcs f).getD p [])) ((pcs f).drop (p+1)):=by
  unfold bls
  conv=>lhs; rw [e]
  rw [blkA_app,blkA_next _ _ _ (by omega)]
 have hi:(idx f).getD p 0=(blkA [] ((pcs f).take p)).idxOf ((pcs f).getD p []):=by rw [idx,idxA_at _ _ _ (by omega)]
 have ha:=push_at (blkA [] ((pcs f).take p)) ((pcs f).getD p [])
 have hf:=blkA_front _ ((pcs f).drop (p+1)) _ ha.2
 rw [hb,hi]
 refine ⟨?_,hf.2⟩
 rw [hf.1,ha.1]
 simp [pcs,List.getD,hp]
theorem blk_len f p:(blk f p).length=64:=by simp [blk]
theorem blk_at f p i (hi:i<64):(blk f p).getD i 0=f ((64 * p+i:Nat):Int):=by simp [blk,List.getD,hi]
theorem push_sub {bs p x} (h:x∈push bs p):x∈bs∨x=p:=by
 unfold push at h
 split at h
 ·exact .inl h
 ·grind
theorem blkA_sub {bs ps x} (h:x∈blkA bs ps):x∈bs∨x∈ps:=by
 induction ps generalizing bs with
 | nil=>exact .inl h
 | cons p ps ih =>
  rcases ih h with h1 | h1
  ·rcases push_sub h1 with h2 | h2
   ·exact .inl h2
   ·exact .inr (by simp [h2])
  ·grind
end Go.Proofs.YtihhhjodonkkcaaGreatDoor.Ti.Tri
namespace Go.Proofs.YtihhhjodonkkcaaGreatDoor.Ti
open Go.RowKit
def Blk (w:World) (g:Nat) (zs:List Int):Prop:=w.heap[g]?=some (.cells (arrA zs) 115 (0,0))
theorem Blk.lt {w g zs} (h:Blk w g zs):g<w.heap.size:=by
 have:=Array.getElem?_eq_some_iff.1 h
 exact this.1
theorem Blk.cell {w g zs} (h:Blk w g zs) {i} (hi:i<zs.length):w.cell? ⟨g,i,none⟩=some (.int .u16 (zs.getD i 0)):=by
 unfold Blk at h
 simp only [World.cell?,h]
 simp [arrA,List.getD,hi]
theorem Blk.frozen {w g zs} (h:Blk w g zs) i:w.frozen? ⟨g,i,none⟩=false:=by
 unfold Blk at h
 simp [World.frozen?,h]
theorem Blk.set {w g zs} (h:Blk w g zs) i v:Blk (w.setCell ⟨g,i,none⟩ (.int .u16 v)) g (zs.set i v):=by
 unfold Blk at h ⊢
 rw [heap_setCell_same w g i _ _ _ h]
 simp [arrA,List.map_set]
theorem Blk.other {w g zs} (h:Blk w g zs) {a} (hne:g≠a.block) v:Blk (w.setCell a v) g zs:=by
 unfold Blk at h ⊢
 rw [heap_setCell_other w a g v hne]; exact h
theorem Blk.new (w:World) zs C (hC:C=arrA zs):Blk (w.alloc (.cells C 115)) w.heap.size zs:=by
 subst hC
 exact heap_alloc_last w _
theorem Blk.alloc {w g zs} (h:Blk w g zs) o:Blk (w.alloc o) g zs:=by
 have hl:=h.lt
 unfold Blk at h ⊢
 rw [Below.heap_alloc w o g hl]; exact h
theorem Blk.there {w g zs} (h:Blk w g zs):w.there g 0 zs.length:=fun j hj=>by
 rw [Nat.zero_add]
 exact ⟨by rw [h.cell hj]; rfl,h.frozen j⟩
theorem results_cell1 {fn} {p:Tmp} {ty} (h:fn.results=#[.cell p ty]) tmps P w :
  (results fn tmps).run P w=((asAddr (tmps.getD p undef)).run P w).andThen fun a w₁=>(loadVar ty a).run P w₁:=by
 simp only [results,h]
 simp [Sem.run_bind,Result.andThen]
theorem results_cellM {fn p ty} (h:fn.results=#[.cell p ty]) tmps P w g v (hp:tmps.getD p undef=.pointer (some ⟨g,0,none⟩)) (hld:(loadVar ty ⟨g,0,none⟩).run P w=.ok v w) :
  (results fn tmps).run P w=.ok v w:=by
 rw [results_cell1 h,hp]
 simp [asAddr,Result.andThen,hld]
namespace Tri
theorem val_ge {b} {rs:List Rg} (h:Val b rs) k (hk:k<rs.length):b≤lo (rs.getD k (0,0,0)):=by
 induction rs generalizing b k with
 | nil=>simp at hk
 | cons r rs ih =>
  obtain ⟨h1,h2,h3,h4,h5,h6⟩:=h
  cases k with
  | zero=>exact h1
  | succ k=>grind
theorem get_take {b d c} {rs:List Rg} (hv:Val b rs) k (hk:k<rs.length):get d (rs.take (k+1)) c=if lo (rs.getD k (0,0,0))≤c∧c≤hi (rs.getD k (0,0,0)) then vl (rs.getD k (0,0,0)) else get d (rs.take k) c:=by
 induction rs generalizing b k with
 | nil=>simp at hk
 | cons r rs ih =>
  obtain ⟨h1,h2,h3,h4,h5,h6⟩:=hv
  cases k with
  | zero =>
   simp only [List.take_succ_cons,List.take_zero,List.getD_cons_zero,get_cons]
  | succ k =>
   have hk':k<rs.length:=by simpa using hk
   have:=ih h6 k hk'
   simp only [List.take_succ_cons,List.getD_cons_succ,get_cons]
   rw [this]
   by_cases hc:lo r≤c∧c≤hi r
   ·rw [if_pos hc]
    have hlo:hi r+1≤lo (rs.getD k (0,0,0)):=val_ge h6 k hk'
    rw [if_neg (by omega),if_pos hc]
   ·omega
end Tri
theorem set_at (zs:List Int) i j v (hi:i<zs.length):(zs.set i v).getD j 0=if j=i then v else zs.getD j 0:=by grind
theorem below_setCells4 {B g:Nat} {a:World} (hb:B≤g):∀ (vs:List Value) (o:Nat) (w:World),Below B a w→Below B a (w.setCells g o vs)
 | [],_,_,h=>h
 | v :: vs,o,_,h=>below_setCells4 hb vs (o+1) _ (h.setCell (p:=⟨g,o,none⟩) hb v)
def ArrPost (w:World) (zs:List Int) (e:Ending) (w':World):Prop:=e=.returned (.agg (arrA zs))∧Below w.heap.size w w'
theorem blk_ext f p zs (hl:zs.length=64) (h:∀ j,j<64→zs.getD j 0=f ((64 * p+j:Nat):Int)):zs=Tri.blk f p:=by
 apply List.ext_getElem (by rw [hl,Tri.blk_len])
 intro i a b
 have h1:=h i (by omega)
 have h2:=Tri.blk_at f p i (by omega)
 rw [← h2] at h1
 simpa [List.getD,a,b] using h1
end Go.Proofs.YtihhhjodonkkcaaGreatDoor.Ti
namespace Go.Proofs.YtihhhjodonkkcaaGreatDoor.Ti
open Go.RowKit Go.Maps
theorem laidOut4:laidOutB Tryz.prog=true:=by kernel_rfl
theorem arrLaw:Keyed Tryz.prog 116:=Keyed.of_law (deep_law_laid laidOut4 (m:=3) (by decide) (of_decide_eq_true (by kernel_rfl)) (by kernel_rfl) (by kernel_rfl))
def Good (zs:List Int):Prop:=zs.length=64∧∀ z∈zs,0≤z∧z≤65535
theorem blk_good {f} (h:∀ c,0≤f c∧f c≤65535) p:Good (Tri.blk f p):=by
 refine ⟨by simp [Tri.blk],fun z hz=>?_⟩
 simp only [Tri.blk,List.mem_map] at hz
 obtain ⟨i,_,rfl⟩:=hz
 exact h _
theorem mapM_all {α β:Type} (l:List α) (f:α→Option β) (g:α→β) (h:∀ x∈l,f x=some (g x)):l.mapM f=some (l.map g):=by
 induction l with
 | nil=>rfl
 | cons x l ih=>grind
theorem u16_wf {z} (h:0≤z∧z≤65535):(Lit.int .u16 z).wf=true:=by
 simp [Lit.wf,IntKind.min,IntKind.max,IntKind.signed,IntKind.bits]; omega
theorem cellsArr:Tryz.prog.cellsOf 116=64:=by kernel_rfl
theorem cellsU16:Tryz.prog.cellsOf 114=1:=by kernel_rfl
theorem keyTypeArr:Tryz.prog.keyType 116=true:=by kernel_rfl
theorem keyLits_arr zs (h:Good zs) D:Tryz.prog.keyLits (D+2) 116 (arrA zs).toList=some (((List.range 64).map fun i=>[Lit.int .u16 (zs.getD i 0)]).flatten):=by
 have hl:(arrA zs).toList.length=64:=by rw [Array.length_toList,arrA_size,h.1]
 rw [Program.keyLits.eq_def]
 simp only [Tryz.underlying116,cellsArr,cellsU16]
 rw [if_pos hl,mapM_all (List.range 64) _ (fun i=>[Lit.int .u16 (zs.getD i 0)])]
 ·rfl
 ·intro i hi
  have hi':i<zs.length:=by rw [h.1]; exact List.mem_range.1 hi
  have hz:zs.getD i 0=zs[i]:=by grind
  have e:((arrA zs).toList.drop (i * 1)).take 1=[Value.int .u16 (zs.getD i 0)]:=by
   rw [Nat.mul_one,arrA]
   rw [List.drop_eq_getElem_cons (by simpa using hi'),hz]
   simp
  rw [e,Program.keyLits.eq_def]
  simp only [Tryz.underlying114]
  have hw:(Lit.int .u16 (zs.getD i 0)).wf=true:=u16_wf (by rw [hz]; exact h.2 _ (List.getElem_mem hi'))
  rw [if_pos ⟨trivial,hw⟩]
def keyL (zs:List Int):Lit:=.string (keyBytes (((List.range 64).map fun i=>[Lit.int .u16 (zs.getD i 0)]).flatten))
theorem key_of {zs} (h:Good zs):keyOf Tryz.prog 116 (.agg (arrA zs))=some (keyL zs):=by
 have hf:(Value.agg (arrA zs)).formed Tryz.prog 116=true:=by
  simp [Value.formed,Tryz.underlying116,cellsArr,arrA_size,h.1]
 have hn:∃ n,Tryz.prog.types.size+1=n+2:=⟨Tryz.prog.types.size - 1,by have:0<Tryz.prog.types.size:=of_decide_eq_true (by kernel_rfl); omega⟩
 obtain ⟨n,hn⟩:=hn
 unfold keyOf
 simp only [Tryz.underlying116,keyTypeArr,hf,Bool.and_self,if_true,Value.cells,hn,keyLits_arr zs h n]
 rfl
theorem key_inj {xs ys} (hx:Good xs) (hy:Good ys) (h:keyL xs=keyL ys):xs=ys:=by
 have h1:=key_of hx
 have h2:=key_of hy
 rw [← h] at h2
 have h3:=arrLaw.inj h1 h2
 simp only [Value.agg.injEq,arrA] at h3
 have h4:xs.map (Value.int .u16)=ys.map (Value.int .u16):=by simpa using h3
 exact List.map_inj_right (fun a b e=>by simpa using e) |>.1 h4
theorem key_lit {zs} (h:Good zs):WideAt.IsKeyLit (keyL zs):=arrLaw.key (key_of h)
def datA (i:Nat) (m:DataW Unit):List (List Int)→DataW Unit
 | []=>m
 | b :: r=>datA (i+1) (m.put (keyL b) (.lit (.int .u16 (i:Int)))) r
def dat (bs:List (List Int)):DataW Unit:=datA 0 (.map []) bs
theorem datA_snoc i (m:DataW Unit) bs b:datA i m (bs++[b])=(datA i m bs).put (keyL b) (.lit (.int .u16 ((i+bs.length:Nat):Int))):=by
 induction bs generalizing i m with
 | nil=>simp [datA]
 | cons x bs ih =>
  simp only [List.cons_append,datA]
  rw [ih]
  congr 3
  simp only [List.length_cons]; omega
theorem dat_snoc bs b:dat (bs++[b])=(dat bs).put (keyL b) (.lit (.int .u16 (bs.length:Int))):=by
 rw [dat,datA_snoc,Nat.zero_add]; rfl
theorem dat_map bs:IsMap (dat bs):=by
 have:∀ (bs:List (List Int)) i m,IsMap m→IsMap (datA i m bs):=by
  intro bs
  induction bs with
  | nil=>exact fun i m h=>h
  | cons b bs ih=>exact fun i m h=>ih _ _ (h.put _ _)
 exact this bs 0 _ isMap_empty
theorem dat_atN n bs (hlen:bs.length=n) (hg:∀ b∈bs,Good b) (hn:bs.Nodup) x (hx:Good x) :
  Maps.has (dat bs) (keyL x)=decide (x∈bs)∧(x∈bs→∀ z,(dat bs).atKey (keyL x) z=.lit (.int .u16 (bs.idxOf x:Int))):=by
 induction n generalizing bs with
 | zero =>
  rw [List.eq_nil_of_length_eq_zero hlen]
  exact ⟨by simp [dat,datA,Maps.has],fun h=>by cases h⟩
 | succ n ih =>
  obtain ⟨bs,b,rfl⟩:∃ L b,bs=L++[b]:=⟨bs.dropLast,bs.getLast (by intro h; rw [h] at hlen; cases hlen),(List.dropLast_concat_getLast _).symm⟩
  have hgb:∀ c∈bs,Good c:=fun c hc=>hg c (List.mem_append_left _ hc)
  have hb:Good b:=hg b (by simp)
  rw [List.nodup_append] at hn
  obtain ⟨i1,i2⟩:=ih bs (by simpa using hlen) hgb hn.1
  have hnb:b ∉ bs:=fun h=>hn.2.2 b h b (by simp) rfl
  rw [dat_snoc]
  by_cases hxb:x=b
  ·subst hxb
   refine ⟨?_,fun _ z=>?_⟩
   ·rw [has_put_same (dat_map bs) (key_lit hx)]; simp
   ·rw [atKey_put_same (dat_map bs) (key_lit hx)]
    have:(bs++[x]).idxOf x=bs.length:=by grind
    rw [this]
  ·have hne:keyL x≠keyL b:=fun h=>hxb (key_inj hx hb h)
   refine ⟨?_,fun hm z=>?_⟩
   ·rw [has_put_other hne,i1]
    simp [hxb]
   ·have hxm:x∈bs:=by
     rcases List.mem_append.1 hm with h | h
     ·exact h
     ·simp at h; exact absurd h hxb
    rw [atKey_put_other hne,i2 hxm]
    rw [List.idxOf_append,if_pos hxm]
theorem dat_at bs (hg:∀ b∈bs,Good b) (hn:bs.Nodup) x (hx:Good x) :
  Maps.has (dat bs) (keyL x)=decide (x∈bs)∧(x∈bs→∀ z,(dat bs).atKey (keyL x) z=.lit (.int .u16 (bs.idxOf x:Int))):=dat_atN _ bs rfl hg hn x hx
end Go.Proofs.YtihhhjodonkkcaaGreatDoor.Ti
namespace Go.Proofs.YtihhhjodonkkcaaGreatDoor.Ti
open Go.RowKit
def bcells (bs:List (List Int)):List Value:=bs.flatten.map (Value.int .u16)
def AllGood (bs:List (List Int)):Prop:=∀ b∈bs,Good b
theorem flat_len {bs} (h:AllGood bs):bs.flatten.length=bs.length * 64:=by
 induction bs with
 | nil=>rfl
 | cons b bs ih =>
  simp only [List.flatten_cons,List.length_append,List.length_cons]
  rw [ih (fun c hc=>h c (List.mem_cons_of_mem _ hc)),(h b (by simp)).1]; omega
theorem flat_at {bs} (h:AllGood bs) {i j} (hi:i<bs.length) (hj:j<64):bs.flatten.getD (i * 64+j) 0=(bs.getD i []).getD j 0:=by
 induction bs generalizing i with
 | nil=>simp at hi
 | cons b bs ih =>
  have hb:=(h b (by simp)).1
  cases i with
  | zero=>grind
  | succ i =>
   have h1:=ih (fun c hc=>h c (List.mem_cons_of_mem _ hc)) (i:=i) (by simpa using hi)
   simp only [List.flatten_cons,List.getD_cons_succ]
   rw [← h1,List.getD,List.getD,List.getElem?_append_right (by omega)]
   congr 2; omega
theorem bcells_app a b:bcells (a++b)=bcells a++bcells b:=by simp [bcells]
theorem bcells_single b:bcells [b]=b.map (Value.int .u16):=by simp [bcells]
def Ob (e:TypeId) (w:World) (B:Nat) (v:Value) (bs:List (List Int)):Prop:=AllGood bs∧w.ownsRow B e 64 v bs.length (bcells bs)
def Sb (w:World) (v:Value) (bs:List (List Int)):Prop:=AllGood bs ∧
 ((bs=[]∧∃ ao cap,v=.slice ao 0 cap∧cap≤9223372036854775807) ∨
  ∃ b off cap,v=.slice (some ⟨b,off,none⟩) bs.length cap∧bs.length≤cap∧cap≤9223372036854775807∧∀ i,i<bs.length→w.rangeAt b (off+i * 64) ((bs.getD i []).map (Value.int .u16)))
theorem Ob.sb {e w B v} {bs} (h:Ob e w B v bs):Sb w v bs:=by
 obtain ⟨hg,h3⟩:=h
 have h3':=h3
 obtain ⟨_,hcase⟩:=h3
 refine ⟨hg,?_⟩
 rcases hcase with ⟨rfl,h0⟩ | ⟨g,cap,cur,hv,hgB,hh,hn,hcap,hsz,htake⟩
 ·grind
 ·refine .inr ⟨g,0,cap,hv,hn,by unfold maxLen at hcap; omega,fun i hi j x hx=>?_⟩
  have hl:j<64:=by
   have h1:=(List.getElem?_eq_some_iff.1 hx).1
   have h2:=(hg _ (Tri.getD_in hi)).1
   rw [List.length_map,h2] at h1; exact h1
  have h64:=flat_len hg
  have hlt:i * 64+j<bs.flatten.length:=by omega
  have:=h3'.cells (g:=g) (by rw [hv]; rfl) (i * 64+j) x (by
   rw [← hx,bcells,List.getElem?_map,List.getElem?_map]
   congr 1
   have h5:=flat_at hg hi hl
   have h6:=(hg _ (Tri.getD_in hi)).1
   simp only [List.getD,List.getElem?_eq_getElem hlt,Option.getD_some] at h5
   rw [List.getElem?_eq_getElem hlt,h5]
   simp only [List.getD] at h6 ⊢
   rw [List.getElem?_eq_getElem (by omega)]
   simp)
  rw [addr_add] at this
  rw [Nat.zero_add,← this]
  simp
theorem Sb.shape {w v bs} (h:Sb w v bs):∃ ao cap,v=.slice ao bs.length cap∧bs.length≤cap∧cap≤9223372036854775807:=by
 rcases h.2 with ⟨rfl,ao,cap,hv,hm⟩ | ⟨b,off,cap,hv,hl,hm,_⟩
 ·exact ⟨ao,cap,hv,by simp,hm⟩
 ·exact ⟨_,cap,hv,hl,hm⟩
theorem Sb.place {w v bs} (h:Sb w v bs) (h0:0<bs.length):∃ b off cap,v=.slice (some ⟨b,off,none⟩) bs.length cap∧bs.length≤cap∧cap≤9223372036854775807∧∀ i,i<bs.length→w.rangeAt b (off+i * 64) ((bs.getD i []).map (Value.int .u16)):=by
 rcases h.2 with ⟨rfl,_⟩ | h
 ·simp at h0
 ·exact h
theorem row_keep {w w':World} {B sz n e v xs} (h:w.ownsRow B e sz v n xs) (hk:∀ k,B≤k→k<w.heap.size→w'.heap[k]?=w.heap[k]?):w'.ownsRow B e sz v n xs:=by
 obtain ⟨h1,h2 | ⟨g,cap,cur,hv,hg,hh,r⟩⟩:=h
 ·exact ⟨h1,.inl h2⟩
 ·refine ⟨h1,.inr ⟨g,cap,cur,hv,hg,?_,r⟩⟩
  rw [hk g hg (Array.getElem?_eq_some_iff.1 hh).1]; exact hh
def T4 (w:World) (B:Nat) (t:Value) (rs:List Tri.Rg) (d:Int):Prop :=
 Tri.Val 0 rs∧(0≤d∧d≤65535)∧∃ g iv bv,t=.pointer (some ⟨g,0,none⟩)∧B≤g∧w.heap[g]?=some (.cells #[iv,bv,.int .i64 d] 113 (0,0)) ∧
  Ok .u16 114 w B iv ((Tri.idx (Tri.get d rs)).map fun n:Nat=>(n:Int))∧Ob 116 w B bv (Tri.bls (Tri.get d rs))
theorem T4.keep {w w' B t} {rs:List Tri.Rg} {d} (h:T4 w B t rs d) (_:w.heap.size≤w'.heap.size) (hk:∀ k,B≤k→k<w.heap.size→w'.heap[k]?=w.heap[k]?):T4 w' B t rs d:=by
 obtain ⟨h1,h2,g,iv,bv,h3,h4,h5,h6,h7⟩:=h
 refine ⟨h1,h2,g,iv,bv,h3,h4,?_,⟨h6.1,h6.2.1,row_keep h6.2.2 hk⟩,⟨h7.1,row_keep h7.2 hk⟩⟩
 rw [hk g h4 (Array.getElem?_eq_some_iff.1 h5).1]; exact h5
theorem T4.below {w w' B t} {rs:List Tri.Rg} {d} (h:T4 w B t rs d) (hb:Below w.heap.size w w'):T4 w' B t rs d:=h.keep hb.size fun k _ hk=>hb.block k hk
theorem T4.parts {w B t} {rs:List Tri.Rg} {d} (h:T4 w B t rs d):∃ g iv bv,t=.pointer (some ⟨g,0,none⟩) ∧
  w.cell? ⟨g,0,none⟩=some iv∧w.cell? ⟨g,1,none⟩=some bv∧w.cell? ⟨g,2,none⟩=some (.int .i64 d) ∧
  Sk .u16 w iv ((Tri.idx (Tri.get d rs)).map fun n:Nat=>(n:Int))∧Sb w bv (Tri.bls (Tri.get d rs)):=by
 obtain ⟨h1,h2,g,iv,bv,h3,h4,h5,h6,h7⟩:=h
 exact ⟨g,iv,bv,h3,by rw [cell_of_row _ _ _ _ _ _ h5]; rfl,by rw [cell_of_row _ _ _ _ _ _ h5]; rfl,by rw [cell_of_row _ _ _ _ _ _ h5]; rfl,h6.sk,h7.sb⟩
theorem T4.get_ok {w B t} {rs:List Tri.Rg} {d} (h:T4 w B t rs d) c:0≤Tri.get d rs c∧Tri.get d rs c≤65535:=Tri.get_range h.2.1 h.1
theorem nat_at (l:List Nat) p (hp:p<l.length):((l.map fun n:Nat=>(n:Int)).getD p 0)=((l.getD p 0:Nat):Int):=by
 simp [List.getD,hp]
theorem blk_cell f n:((Tri.blk f (n / 64)).map (Value.int .u16))[n % 64]?=some (.int .u16 (f n)):=by
 have h1:=Tri.blk_at f (n / 64) (n % 64) (by omega)
 rw [show 64 * (n / 64)+n % 64=n by omega] at h1
 have h2:=Tri.blk_len f (n / 64)
 have h3:n % 64<(Tri.blk f (n / 64)).length:=by omega
 rw [← h1,List.getElem?_map,List.getElem?_eq_getElem h3]
 simp [List.getD,h3]
theorem T4.at {w B t} {rs:List Tri.Rg} {d} (h:T4 w B t rs d) n (hn:n<1114112):∃ g bi oi L capi bb ob m capb z,t=.pointer (some ⟨g,0,none⟩) ∧
  w.cell? ⟨g,0,none⟩=some (.slice (some ⟨bi,oi,none⟩) L capi)∧w.cell? ⟨g,1,none⟩=some (.slice (some ⟨bb,ob,none⟩) m capb)∧w.cell? ⟨g,2,none⟩=some (.int .i64 d) ∧
  n / 64<L∧L≤20000∧L≤capi∧capi≤9223372036854775807∧z<m∧m≤20000∧m≤capb∧capb≤9223372036854775807 ∧
  w.cell? ⟨bi,oi+n / 64,none⟩=some (.int .u16 (z:Nat))∧w.cell? ⟨bb,ob+z * 64+n % 64,none⟩=some (.int .u16 (Tri.get d rs n)):=by
 obtain ⟨g,iv,bv,ht,c0,c1,c2,hi,hb⟩:=h.parts
 have hlen:((Tri.idx (Tri.get d rs)).map fun n:Nat=>(n:Int)).length=(Tri.idx (Tri.get d rs)).length:=List.length_map _
 have hil:=Tri.idx_len (Tri.get d rs)
 have hbn:=Tri.bls_len (Tri.get d rs)
 have hx:=Tri.bls_idx (Tri.get d rs) (n / 64) (by omega)
 obtain ⟨hx1,hx2⟩:=hx
 obtain ⟨bi,oi,capi,rfl,hi1,hi2,hi3⟩:=hi.place (by omega)
 have hix:=hi3 (n / 64) (by omega)
 rw [nat_at _ _ (by omega)] at hix
 obtain ⟨bb,ob,capb,rfl,hb1,hb2,hb3⟩:=hb.place (by omega)
 have hbl:=hb3 _ hx2
 rw [hx1] at hbl
 have hcell:=hbl (n % 64) _ (blk_cell _ n)
 exact ⟨g,bi,oi,_,capi,bb,ob,_,capb,_,ht,c0,c1,c2,by omega,by omega,hi1,hi2,hx2,by omega,hb1,hb2,hix,hcell⟩
theorem get4 t (rs:List Tri.Rg) d c w (h:∃ B,T4 w B t rs d) (hc:Fi c):Calls Tryz.prog 42 #[t,.int .i64 c] w (IntDraws w (Tri.get d rs c)):=by
 obtain ⟨B,h⟩:=h
 obtain ⟨hc1,hc2⟩:=hc
 by_cases hlo:c<0
 ·obtain ⟨g,iv,bv,rfl,c0,c1,c2,hi,hb⟩:=h.parts
  rw [Tri.get_below h.1 hlo]
  go_enter Tryz.func42,Tryz.ntmps42
  go_wp2
  go_ret
  exact ⟨rfl,0,rfl⟩
 ·by_cases hhi:1114111<c
  ·obtain ⟨g,iv,bv,rfl,c0,c1,c2,hi,hb⟩:=h.parts
   rw [Tri.get_above h.1 hhi]
   go_enter Tryz.func42,Tryz.ntmps42
   go_wp2
   go_ret
   exact ⟨rfl,0,rfl⟩
  ·obtain ⟨n,rfl⟩:∃ n:Nat,c=(n:Int):=⟨c.toNat,by omega⟩
   have htd:(n:Int).tdiv 64=((n / 64:Nat):Int):=by grind
   have htr:(n:Int).tmod 64=((n % 64:Nat):Int):=by grind
   obtain ⟨hr1,hr2⟩:=h.get_ok n
   obtain ⟨g,bi,oi,L,capi,bb,ob,m,capb,z,rfl,c0,c1,c2,x1,x2,x3,x4,x5,x6,x7,x8,hix,hcell⟩:=h.at n (by omega)
   have hm64:n % 64<64:=Nat.mod_lt _ (by omega)
   go_enter Tryz.func42,Tryz.ntmps42
   go_wp2
   go_quiet (fail)
   go_wp2
   go_ret
   exact ⟨rfl,nq,rfl⟩
end Go.Proofs.YtihhhjodonkkcaaGreatDoor.Ti
namespace Go.Proofs.YtihhhjodonkkcaaGreatDoor.Ti
open Go.RowKit
theorem Tryz.info114:(Tryz.prog.info? 114).map (fun i=>(i.zero,i.size,i.bytes))=some (some (.int .u16 0),1,2):=by kernel_rfl
theorem infoBl {zs:List Int} (h:zs.length=64):(Tryz.prog.info? 116).map (·.size)=some (zs.map (Value.int .u16)).length:=by rw [List.length_map,h]; kernel_rfl
def Zs:List Int:=List.replicate 64 0
theorem Zs_len:Zs.length=64:=by simp [Zs]
end Go.Proofs.YtihhhjodonkkcaaGreatDoor.Ti
