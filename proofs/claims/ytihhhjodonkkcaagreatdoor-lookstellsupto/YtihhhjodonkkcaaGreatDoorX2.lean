/- Cm7 Cv7 TbA7 Con7 TbB7 TbC7 Co7 -/
import Derived.Test.YtihhhjodonkkcaaGreatDoorX0
import Derived.Handy
import Derived.KernelRfl
import Derived.Deep.RegionHeld3
namespace Go.Proofs.YtihhhjodonkkcaaGreatDoor.Cn
def walk (l:List Rec):Nat→List Int→Int→List Int→List Int × Int
 | 0,way,c,out=>if opn l c=[] then (if 32≤out.length then ([],2) else (out++[c],0)) else if c∈way then ([],72) else ([],73)
 | f+1,way,c,out =>
  if opn l c=[] then (if 32≤out.length then ([],2) else (out++[c],0)) else if c∈way then ([],72)
  else (opn l c).foldl (fun s d=>if s.2=0 then walk l f (way++[c]) d s.1 else s) (out,0)
def full (l:List Rec) (c:Int):List Int × Int:=walk l 16 [] c []
def nameL (b:ByteArray):Bool:=match b.data.toList.map (·.toNat) with
 | [a,b,c,d]=>decide (65≤a∧a≤90∧97≤b∧b≤122∧97≤c∧c≤122∧97≤d∧d≤122)
 | _=>false
def weight (u:Nat):Bool:=decide (u≤9218868437227405312)
def scalar (c:Int):Bool:=decide (0≤c∧c≤1114111∧¬ (55296≤c∧c≤57343))
def list (x:List Int) (least most:Nat):Bool:=decide (least≤x.length∧x.length≤most) && x.all scalar
def bare (r:Rec) (n tq name other w:Bool):Bool :=
 (n || decide (r.n=0)) && (tq || decide (r.to.length=0)) && (name || decide (r.name.size=0)) && (other || decide (r.other.size=0)) && (w || decide (r.wt=0))
def right (r:Rec):Int :=
 if fam r.kind=0 then 60
 else if r.kind=15 then (if r.lo=0∧r.hi=0∧bare r false false true true true=true∧nameL r.name=true∧nameL r.other=true∧r.name≠r.other∧weight r.wt=true then 0 else 61)
 else if (decide (0≤r.lo∧r.lo≤r.hi∧r.hi≤1114111) && (
  if r.kind=1∨r.kind=2∨r.kind=11 then bare r false false false false false
  else if r.kind=3 then bare r false true false false false && list r.to 1 24
  else if r.kind=4 then bare r true true false false false && decide (1≤r.n∧r.n≤64) && list r.to 1 1 && decide (r.to.getD 0 0+r.hi - r.lo≤1114111∧(r.to.getD 0 0+r.hi - r.lo<55296∨57343<r.to.getD 0 0))
  else if r.kind=5 then decide (r.lo=r.hi) && scalar r.lo && bare r false true false false false && list r.to 0 24
  else if r.kind=13 then decide (r.lo=r.hi) && scalar r.lo && bare r false true false false false && list r.to 1 24
  else if r.kind=6 then bare r true false false false false && decide (1≤r.n∧r.n≤254)
  else if r.kind=7 then decide (r.lo=r.hi) && scalar r.lo && bare r false true false false false && list r.to 2 2
  else if r.kind=8 then decide (r.lo=r.hi) && scalar r.lo && bare r false true false false false && list r.to 1 2
  else if r.kind=9 then bare r true false false false false && decide (0≤r.n∧r.n≤10)
  else if r.kind=10 then bare r true false false false false && decide (0≤r.n∧r.n≤5)
  else if r.kind=12 then bare r false false true false false && nameL r.name
  else bare r false false false false true && weight r.wt))=true then 0 else 61
def clashA (b:Rec) (s hi:Int):Nat→Int→Bool
 | 0,_=>false
 | k+1,c=>if c≤hi then (speaks b c || clashA b s hi k (c+s)) else false
def clash (a b:Rec):Bool :=
 if fam a.kind≠fam b.kind then false
 else if a.kind=15 then decide ((a.name=b.name∧a.other=b.other)∨(a.name=b.other∧a.other=b.name))
 else clashA b (step a) (min a.hi b.hi) 64 (if a.lo<max a.lo b.lo then a.lo+(max a.lo b.lo - a.lo+step a - 1) / step a * step a else a.lo)
def rightA:Nat→List Rec→Option (Nat × Int)
 | _,[]=>Option.none
 | i,r :: l=>if right r=0 then rightA (i+1) l else some (i,right r)
def twiceA (l:List Rec):Nat→List Rec→Option Nat
 | _,[]=>Option.none
 | i,r :: m=>if (l.take i).any (fun k=>clash k r) then some i else twiceA l (i+1) m
def check6 (l:List Rec):Nat × Int :=
 if 4096<l.length then (0,3) else match rightA 0 l with
  | some x=>x
  | Option.none=>match twiceA l 0 l with
   | some i=>(i,62)
   | Option.none=>(0,0)
def covers (r:Rec) (lo hi:Int):Bool:=decide (r.lo≤hi∧lo≤r.hi)
def jl (c:Int):Bool:=decide (4352≤c∧c≤4370)
def jv (c:Int):Bool:=decide (4449≤c∧c≤4469)
def jt (c:Int):Bool:=decide (4520≤c∧c≤4546)
def fallsA (l:List Rec):List Int→Bool
 | a :: b :: r=>(decide (cls l b≠0∧cls l b<cls l a)) || fallsA l (b :: r)
 | _=>false
def pair (l:List Rec) (i:Nat) (r:Rec):Bool :=
 !(decide (cls l r.lo≠0) || decide (cls l (r.to.getD 0 0)≠0) || decide (opn l (r.to.getD 1 0)≠[]) || (decide (opn l (r.to.getD 0 0)≠[]) && (prim l (r.to.getD 0 0)).isNone) || decide (r.to.getD 1 0<128) || decide (r.to.getD 0 0=46)) &&
 !((l.take i).any fun k=>decide (k.kind=7∧k.to.getD 0 0=r.to.getD 0 0∧k.to.getD 1 0=r.to.getD 1 0))
def record (l:List Rec) (i:Nat) (r:Rec):Int :=
 if fam r.kind≠2∧fam r.kind≠3 then 0
 else if covers r 0 127 then 70
 else if covers r 4352 4370 || covers r 4449 4469 || covers r 4520 4546 || covers r 44032 55203 then 71
 else if r.kind=7∧((jl (r.to.getD 0 0) && jv (r.to.getD 1 0)) || (syl (r.to.getD 0 0) && decide ((r.to.getD 0 0 - 44032) % 28=0) && jt (r.to.getD 1 0)))=true then 71
 else if fam r.kind=2 then 0
 else if (full l r.lo).2≠0 then (full l r.lo).2
 else if fallsA l (full l r.lo).1 then 75
 else if r.kind=7∧pair l i r=false then 74
 else 0
def recordA (l:List Rec):Nat→List Rec→Option (Nat × Int)
 | _,[]=>Option.none
 | i,r :: m=>if record l i r=0 then recordA l (i+1) m else some (i,record l i r)
def plain (l:List Rec) (c:Int):Bool:=match hit l 1 c with | some r=>decide (r.kind=1) | Option.none=>false
def baseOf (c:Int):Bool:=decide (c=45∨c=46∨(48≤c∧c≤57)∨97≤c)
def baseA (l:List Rec):Nat→Int→Bool
 | 0,_=>true
 | k+1,c=>(!(baseOf c) || plain l c) && baseA l k (c+1)
def check (l:List Rec):Nat × Int :=
 if (check6 l).2≠0 then check6 l else match recordA l 0 l with
  | some x=>x
  | Option.none=>if baseA l 78 45 then (0,0) else (l.length,70)
end Go.Proofs.YtihhhjodonkkcaaGreatDoor.Cn
namespace Go.Proofs.YtihhhjodonkkcaaGreatDoor
open Go.RowKit
def Rune (c:Int):Prop:=-2147483648≤c∧c≤2147483647
def FullB (w:World) (r:List Int × Int) (e:Ending) (w':World):Prop:=∃ v,e=.returned (.tuple #[v,.int .i64 r.2])∧Ok .i32 21 w' w.heap.size v r.1∧Below w.heap.size w w'
def CheckB (w:World) (r:Nat × Int) (e:Ending) (w':World):Prop:=e=.returned (.tuple #[.int .i64 (r.1:Int),.int .i64 r.2])∧Below w.heap.size w w'
def Tells (w:World) (b:Bool) (e:Ending) (w':World):Prop:=e=.returned (.bool b)∧Below w.heap.size w w'
theorem Rcs.nil w:Rcs w (.slice none 0 0) []:=⟨by simp,fun _ h=>(by cases h),.inl ⟨rfl,none,0,rfl,by omega⟩⟩
def RFullC:Prop:=∀ (v:Value) (rs:List Rec) (c:Int) (w:World),Rcs w v rs→Rune c→Calls Tryz.prog 71 #[v,.int .i32 c] w (FullB w (Cn.full rs c))
theorem rune_of {w v zs} (h:Sk .i32 w v zs) {i} (hi:i<zs.length):Rune (zs.getD i 0):=by
 have:=h.1 (zs.getD i 0) (by simp [List.getD,hi])
 unfold Rune
 simpa [IntKind.min,IntKind.max,IntKind.signed,IntKind.bits] using this
def RCheckC:Prop:=∀ (v:Value) (rs:List Rec) (w:World),Rcs w v rs→Calls Tryz.prog 27 #[v] w (CheckB w (Cn.check rs))
structure Row9 where
 word:ByteArray
 fam:Int
 least:Int
 most:Int
 low:Int
 high:Int
 said:ByteArray
 scr:Int
 wei:Bool
namespace Cn
def txt (s:String):ByteArray:=s.toUTF8
def rowT:Nat→Row9
 | 1 => ⟨txt "valid", 1, 0, 0, 0, 0, ⟨#[]⟩, 0, false⟩
 | 2 => ⟨txt "ignored", 1, 0, 0, 0, 0, ⟨#[]⟩, 0, false⟩
 | 3 => ⟨txt "mapped", 1, 1, 24, 0, 0, ⟨#[]⟩, 0, false⟩
 | 4 => ⟨txt "shift", 1, 1, 1, 1, 64, ⟨#[]⟩, 0, false⟩
 | 5 => ⟨txt "deviation", 1, 0, 24, 0, 0, ⟨#[]⟩, 0, false⟩
 | 6 => ⟨txt "class", 2, 0, 0, 1, 254, ⟨#[]⟩, 0, false⟩
 | 7 => ⟨txt "decomp", 3, 2, 2, 0, 0, ⟨#[]⟩, 0, false⟩
 | 8 => ⟨txt "opens", 3, 1, 2, 0, 0, ⟨#[]⟩, 0, false⟩
 | 9 => ⟨txt "bidi", 4, 0, 0, 0, 10, txt "L R AL AN EN ES CS ET ON BN NSM", 0, false⟩
 | 10 => ⟨txt "join", 5, 0, 0, 0, 5, txt "U R L D C T", 0, false⟩
 | 11 => ⟨txt "mark", 6, 0, 0, 0, 0, ⟨#[]⟩, 0, false⟩
 | 12 => ⟨txt "script", 7, 0, 0, 0, 0, ⟨#[]⟩, 1, false⟩
 | 13 => ⟨txt "looks", 8, 1, 24, 0, 0, ⟨#[]⟩, 0, false⟩
 | 14 => ⟨txt "weight", 9, 0, 0, 0, 0, ⟨#[]⟩, 0, true⟩
 | 15 => ⟨txt "mix", 10, 0, 0, 0, 0, ⟨#[]⟩, 2, true⟩
 | _=>⟨⟨#[]⟩,0,0,0,0,0,⟨#[]⟩,0,false⟩
def rowK (k:Int):Row9:=if k<0∨16≤k then rowT 0 else rowT k.toNat
theorem rowK_fam k:(rowK k).fam=fam k:=by
 unfold rowK
 split
 ·next h =>
  unfold fam
  rw [if_pos (by omega)]
  rfl
 ·next h =>
  obtain ⟨n,rfl⟩:∃ n:Nat,k=n:=⟨k.toNat,by omega⟩
  have hn:n<16:=by omega
  rw [Int.toNat_natCast]
  have:∀ n,n<16→(rowT n).fam=fam n:=by decide
  exact this n hn
end Cn
structure RowAt (w:World) (o:Nat) (r:Row9):Prop where
 c0:w.cell? ⟨1,o,none⟩=some (.string r.word)
 c1:w.cell? ⟨1,o+1,none⟩=some (.int .i64 r.fam)
 c2:w.cell? ⟨1,o+2,none⟩=some (.int .i64 r.least)
 c3:w.cell? ⟨1,o+3,none⟩=some (.int .i64 r.most)
 c4:w.cell? ⟨1,o+4,none⟩=some (.int .i64 r.low)
 c5:w.cell? ⟨1,o+5,none⟩=some (.int .i64 r.high)
 c6:w.cell? ⟨1,o+6,none⟩=some (.string r.said)
 c7:w.cell? ⟨1,o+7,none⟩=some (.int .i64 r.scr)
 c8:w.cell? ⟨1,o+8,none⟩=some (.bool r.wei)
def Glob (w:World):Prop:=∀ k,k<16→RowAt w (k * 9) (Cn.rowT k)
theorem Glob.on {w w'} (h:Glob w) (hb:Below w.heap.size w w'):Glob w':=fun k hk=>by
 obtain ⟨h0,h1,h2,h3,h4,h5,h6,h7,h8⟩:=h k hk
 exact ⟨by rw [hb.cell (lt_of_cell? h0)]; exact h0,by rw [hb.cell (lt_of_cell? h1)]; exact h1,by rw [hb.cell (lt_of_cell? h2)]; exact h2,by rw [hb.cell (lt_of_cell? h3)]; exact h3,by rw [hb.cell (lt_of_cell? h4)]; exact h4,
  by rw [hb.cell (lt_of_cell? h5)]; exact h5,by rw [hb.cell (lt_of_cell? h6)]; exact h6,by rw [hb.cell (lt_of_cell? h7)]; exact h7,by rw [hb.cell (lt_of_cell? h8)]; exact h8⟩
def rowV (r:Row9):Value:=.agg #[.string r.word,.int .i64 r.fam,.int .i64 r.least,.int .i64 r.most,.int .i64 r.low,.int .i64 r.high,.string r.said,.int .i64 r.scr,.bool r.wei]
def shV (k:Int):Value:=.agg #[.int .i64 k]
set_option maxRecDepth 8000 in
set_option maxHeartbeats 2000000 in
theorem row_any k w (hg:Glob w) (hk:I64 k):Calls Tryz.prog 183 #[shV k] w (fun e w'=>e=.returned (rowV (Cn.rowK k))∧Below w.heap.size w w'):=by
 obtain ⟨k0,k1⟩:=hk
 have hb:Below w.heap.size w ((w.alloc (.cells #[.int .i64 k] 215)).alloc (.cells #[.string ⟨#[]⟩,.int .i64 0,.int .i64 0,.int .i64 0,.int .i64 0,.int .i64 0,.string ⟨#[]⟩,.int .i64 0,.bool false] 250)):=((Below.refl _ _).alloc (Nat.le_refl _) _).alloc (by simp) _
 unfold shV Cn.rowK
 by_cases h:k<0
 ·rw [if_pos (.inl h)]
  go_enter Tryz.func183,Tryz.ntmps183
  go_wp2
  go_returns
  exact ⟨rfl,hb⟩
 ·by_cases h2:16≤k
  ·rw [if_pos (.inr h2)]
   go_enter Tryz.func183,Tryz.ntmps183
   go_wp2
   go_returns
   exact ⟨rfl,hb⟩
  ·rw [if_neg (by omega)]
   obtain ⟨n,rfl⟩:∃ n:Nat,k=n:=⟨k.toNat,by omega⟩
   rw [Int.toNat_natCast]
   have hn:n<16:=by omega
   have hb2:=Below.refl w.heap.size w
   obtain ⟨x0,x1,x2,x3,x4,x5,x6,x7,x8⟩:=(hg.on hb) n hn
   have HF:∀ W,Below w.heap.size w W→Below w.heap.size w W:=fun W h=>h
   go_enter Tryz.func183,Tryz.ntmps183
   go_wp2
   go_returns
   exact ⟨rfl,((Below.refl _ _).alloc (Nat.le_refl _) _).alloc (by simp) _⟩
theorem fld1 (r:Row9) w:(Instr.field 250 (.agg #[.string r.word,.int .i64 r.fam,.int .i64 r.least,.int .i64 r.most,.int .i64 r.low,.int .i64 r.high,.string r.said,.int .i64 r.scr,.bool r.wei]) 1).run Tryz.prog w=.ok (.int .i64 r.fam) w:=by kernel_rfl
theorem fld7 (r:Row9) w:(Instr.field 250 (.agg #[.string r.word,.int .i64 r.fam,.int .i64 r.least,.int .i64 r.most,.int .i64 r.low,.int .i64 r.high,.string r.said,.int .i64 r.scr,.bool r.wei]) 7).run Tryz.prog w=.ok (.int .i64 r.scr) w:=by kernel_rfl
theorem fld8 (r:Row9) w:(Instr.field 250 (.agg #[.string r.word,.int .i64 r.fam,.int .i64 r.least,.int .i64 r.most,.int .i64 r.low,.int .i64 r.high,.string r.said,.int .i64 r.scr,.bool r.wei]) 8).run Tryz.prog w=.ok (.bool r.wei) w:=by kernel_rfl
set_option maxRecDepth 8000 in
set_option maxHeartbeats 1000000 in
theorem sharedFam_any k w (hg:Glob w) (hk:I64 k):Calls Tryz.prog 155 #[shV k] w (IntB w (Cn.fam k)):=by
 have hb:Below w.heap.size w (w.alloc (.cells #[.int .i64 k] 215)):=(Below.refl _ _).alloc (Nat.le_refl _) _
 have K:=Hd (row_any k (w.alloc (.cells #[.int .i64 k] 215)) (hg.on hb) hk)
 rw [← Cn.rowK_fam]
 generalize Cn.rowK k=r at *
 have f1:=fld1 r
 unfold shV rowV at *
 go_enter Tryz.func155,Tryz.ntmps155
 go_wp2_with fail
 refine (Uh K).mono ?_
 rintro e w1 ⟨rfl,hb1⟩
 have HF:IntB w r.fam (.returned (.int .i64 r.fam)) w1:=⟨rfl,bthen hb hb1⟩
 go_wp2
 go_ret
 exact HF
set_option maxRecDepth 8000 in
set_option maxHeartbeats 1000000 in
theorem family_any k w (hg:Glob w) (hk:I64 k):Calls Tryz.prog 122 #[.int .i64 k] w (IntB w (Cn.fam k)):=by
 have K:=Hd (sharedFam_any k w hg hk)
 unfold shV at K
 go_enter Tryz.func122,Tryz.ntmps122
 go_wp2_with fail
 refine (Uh K).mono ?_
 rintro e w1 ⟨rfl,hb1⟩
 go_wp2
 go_ret
 exact ⟨rfl,hb1⟩
def shape (k:Int):Value:=.iface (if k=4 then 246 else if k=5∨k=7∨k=8∨k=13 then 247 else if k=15 then 248 else 244) (shV k)
set_option maxHeartbeats 2000000 in
theorem shapeOf_any k w (hk:I64 k):Calls Tryz.prog 153 #[.int .i64 k] w (fun e w'=>e=.returned (shape k)∧Below w.heap.size w w'):=by
 have hb:Below w.heap.size w (w.alloc (.cells #[.int .i64 k] 215)):=(Below.refl _ _).alloc (Nat.le_refl _) _
 unfold shape shV
 obtain ⟨k0,k1⟩:=hk
 by_cases h4:k=4
 ·subst h4
  go_enter Tryz.func153,Tryz.ntmps153
  go_wp2
  go_ret
  exact ⟨rfl,hb⟩
 ·by_cases h5:k=5∨k=7∨k=8∨k=13
  ·rcases h5 with rfl | rfl | rfl | rfl
   all_goals
    go_enter Tryz.func153,Tryz.ntmps153
    go_wp2
    go_ret
    exact ⟨rfl,hb⟩
  ·by_cases h15:k=15
   ·subst h15
    go_enter Tryz.func153,Tryz.ntmps153
    go_wp2
    go_ret
    exact ⟨rfl,hb⟩
   ·rw [if_neg h4,if_neg h5,if_neg h15]
    have q4:(k==4)=false:=beq_eq_false_iff_ne.2 h4
    have q5:(k==5)=false:=beq_eq_false_iff_ne.2 (by omega)
    have q7:(k==7)=false:=beq_eq_false_iff_ne.2 (by omega)
    have q8:(k==8)=false:=beq_eq_false_iff_ne.2 (by omega)
    have q13:(k==13)=false:=beq_eq_false_iff_ne.2 (by omega)
    have q15:(k==15)=false:=beq_eq_false_iff_ne.2 h15
    go_enter Tryz.func153,Tryz.ntmps153
    go_wp2
    go_ret
    exact ⟨rfl,hb⟩
/-! What a call through a kind's shape comes tq. -/
theorem mFamilyShifted k w : (method 407 246 (.agg #[.int .i64 k]) "endonym/table.family").run Tryz.prog w = .ok (155, .agg #[.int .i64 k]) w := by kernel_rfl
theorem mPlacedShifted k w : (method 407 246 (.agg #[.int .i64 k]) "endonym/table.placed").run Tryz.prog w = .ok (255, .agg #[.int .i64 k]) w := by kernel_rfl
theorem mTargetedShifted k w : (method 407 246 (.agg #[.int .i64 k]) "endonym/table.targeted").run Tryz.prog w = .ok (241, .agg #[.int .i64 k]) w := by kernel_rfl
theorem mNumberedShifted k w : (method 407 246 (.agg #[.int .i64 k]) "endonym/table.numbered").run Tryz.prog w = .ok (238, .agg #[.int .i64 k]) w := by kernel_rfl
theorem mNamedShifted k w : (method 407 246 (.agg #[.int .i64 k]) "endonym/table.named").run Tryz.prog w = .ok (236, .agg #[.int .i64 k]) w := by kernel_rfl
theorem mWeighedShifted k w : (method 407 246 (.agg #[.int .i64 k]) "endonym/table.weighed").run Tryz.prog w = .ok (242, .agg #[.int .i64 k]) w := by kernel_rfl
theorem mSpokenShifted k w : (method 407 246 (.agg #[.int .i64 k]) "endonym/table.spoken").run Tryz.prog w = .ok (256, .agg #[.int .i64 k]) w := by kernel_rfl
theorem mFamilySingle k w : (method 407 247 (.agg #[.int .i64 k]) "endonym/table.family").run Tryz.prog w = .ok (155, .agg #[.int .i64 k]) w := by kernel_rfl
theorem mPlacedSingle k w : (method 407 247 (.agg #[.int .i64 k]) "endonym/table.placed").run Tryz.prog w = .ok (259, .agg #[.int .i64 k]) w := by kernel_rfl
theorem mTargetedSingle k w : (method 407 247 (.agg #[.int .i64 k]) "endonym/table.targeted").run Tryz.prog w = .ok (241, .agg #[.int .i64 k]) w := by kernel_rfl
theorem mNumberedSingle k w : (method 407 247 (.agg #[.int .i64 k]) "endonym/table.numbered").run Tryz.prog w = .ok (238, .agg #[.int .i64 k]) w := by kernel_rfl
theorem mNamedSingle k w : (method 407 247 (.agg #[.int .i64 k]) "endonym/table.named").run Tryz.prog w = .ok (236, .agg #[.int .i64 k]) w := by kernel_rfl
theorem mWeighedSingle k w : (method 407 247 (.agg #[.int .i64 k]) "endonym/table.weighed").run Tryz.prog w = .ok (242, .agg #[.int .i64 k]) w := by kernel_rfl
theorem mSpokenSingle k w : (method 407 247 (.agg #[.int .i64 k]) "endonym/table.spoken").run Tryz.prog w = .ok (240, .agg #[.int .i64 k]) w := by kernel_rfl
theorem mFamilyPaired k w : (method 407 248 (.agg #[.int .i64 k]) "endonym/table.family").run Tryz.prog w = .ok (155, .agg #[.int .i64 k]) w := by kernel_rfl
theorem mPlacedPaired k w : (method 407 248 (.agg #[.int .i64 k]) "endonym/table.placed").run Tryz.prog w = .ok (262, .agg #[.int .i64 k]) w := by kernel_rfl
theorem mTargetedPaired k w : (method 407 248 (.agg #[.int .i64 k]) "endonym/table.targeted").run Tryz.prog w = .ok (241, .agg #[.int .i64 k]) w := by kernel_rfl
theorem mNumberedPaired k w : (method 407 248 (.agg #[.int .i64 k]) "endonym/table.numbered").run Tryz.prog w = .ok (238, .agg #[.int .i64 k]) w := by kernel_rfl
theorem mNamedPaired k w : (method 407 248 (.agg #[.int .i64 k]) "endonym/table.named").run Tryz.prog w = .ok (236, .agg #[.int .i64 k]) w := by kernel_rfl
theorem mWeighedPaired k w : (method 407 248 (.agg #[.int .i64 k]) "endonym/table.weighed").run Tryz.prog w = .ok (242, .agg #[.int .i64 k]) w := by kernel_rfl
theorem mFamilySpanned k w : (method 407 244 (.agg #[.int .i64 k]) "endonym/table.family").run Tryz.prog w = .ok (155, .agg #[.int .i64 k]) w := by kernel_rfl
theorem mPlacedSpanned k w : (method 407 244 (.agg #[.int .i64 k]) "endonym/table.placed").run Tryz.prog w = .ok (254, .agg #[.int .i64 k]) w := by kernel_rfl
theorem mTargetedSpanned k w : (method 407 244 (.agg #[.int .i64 k]) "endonym/table.targeted").run Tryz.prog w = .ok (241, .agg #[.int .i64 k]) w := by kernel_rfl
theorem mNumberedSpanned k w : (method 407 244 (.agg #[.int .i64 k]) "endonym/table.numbered").run Tryz.prog w = .ok (238, .agg #[.int .i64 k]) w := by kernel_rfl
theorem mNamedSpanned k w : (method 407 244 (.agg #[.int .i64 k]) "endonym/table.named").run Tryz.prog w = .ok (236, .agg #[.int .i64 k]) w := by kernel_rfl
theorem mWeighedSpanned k w : (method 407 244 (.agg #[.int .i64 k]) "endonym/table.weighed").run Tryz.prog w = .ok (242, .agg #[.int .i64 k]) w := by kernel_rfl
theorem mSpokenSpanned k w : (method 407 244 (.agg #[.int .i64 k]) "endonym/table.spoken").run Tryz.prog w = .ok (240, .agg #[.int .i64 k]) w := by kernel_rfl
def ClassC:Prop:=∀ (v:Value) (rs:List Rec) (c:Int) (w:World),Glob w→Rcs w v rs→Rune c→Calls Tryz.prog 180 #[v,.int .i32 c] w (IntB w (Cn.cls rs c))
def OpenC:Prop:=∀ (v:Value) (rs:List Rec) (c:Int) (w:World),Glob w→Rcs w v rs→Rune c→Calls Tryz.prog 101 #[v,.int .i32 c] w (RunesNew w (Cn.opn rs c))
def PrimC:Prop:=∀ (v:Value) (rs:List Rec) (c:Int) (w:World),Glob w→Rcs w v rs→Rune c→Calls Tryz.prog 181 #[v,.int .i32 c] w (PairB w (Cn.prim rs c))
def CheckC:Prop:=∀ (v:Value) (rs:List Rec) (w:World),Glob w→Rcs w v rs→Calls Tryz.prog 47 #[v] w (CheckB w (Cn.check rs))
def isPt (c:Int):Bool:=decide (0≤c∧c≤1114111)
theorem isPoint_any c w (hc:I64 c):Calls Tryz.prog 182 #[.int .i64 c] w fun e w'=>e=.returned (.bool (isPt c))∧w'=w:=by
 obtain ⟨c0,c1⟩:=hc
 unfold isPt
 by_cases h0:0≤c
 ·by_cases h1:c≤1114111
  ·rw [decide_eq_true ⟨h0,h1⟩]
   go_enter Tryz.func182,Tryz.ntmps182
   go_wp2
   go_ret
   exact ⟨rfl,rfl⟩
  ·rw [decide_eq_false (by omega)]
   go_enter Tryz.func182,Tryz.ntmps182
   go_wp2
   go_ret
   exact ⟨rfl,rfl⟩
 ·rw [decide_eq_false (by omega)]
  go_enter Tryz.func182,Tryz.ntmps182
  go_wp2
  go_ret
  exact ⟨rfl,rfl⟩
def runV (lo hi s:Int):Value:=.agg #[.int .i64 lo,.int .i64 hi,.int .i64 s]
def hasB (lo hi s c:Int):Bool:=decide (0≤c∧c≤1114111∧lo≤c∧c≤hi∧0<s∧(c - lo) % s=0)
theorem wrap_diff {c lo} (h0:0≤c) (h1:c≤1114111) (h2:lo≤c) (h3:-9223372036854775808≤lo):IntKind.u64.wrap (IntKind.i64.wrap (c - lo))=c - lo:=by
 by_cases hn:c - lo≤9223372036854775807
 ·rw [IntWalk.i64_in _ ⟨by omega,by omega⟩,IntWalk.u64_in _ ⟨by omega,by omega⟩]
 ·have e:IntKind.i64.wrap (c - lo)=c - lo - 18446744073709551616:=by
   unfold IntKind.wrap
   have hb:(2:Int) ^ IntKind.i64.bits=18446744073709551616:=by decide
   have hb2:(2:Int) ^ (IntKind.i64.bits - 1)=9223372036854775808:=by decide
   simp only [hb,hb2,IntKind.signed]
   simp
   omega
  rw [e]
  unfold IntKind.wrap
  have hb:(2:Int) ^ IntKind.u64.bits=18446744073709551616:=by decide
  rw [hb]
  simp [IntKind.signed]
  omega
set_option maxRecDepth 8000 in
set_option maxHeartbeats 4000000 in
theorem has_any lo hi s c w (hl:I64 lo) (hh:I64 hi) (hs:I64 s) (hc:I64 c):Calls Tryz.prog 154 #[runV lo hi s,.int .i64 c] w (BoolB w (hasB lo hi s c)):=by
 have hb:Below w.heap.size w (w.alloc (.cells #[.int .i64 lo,.int .i64 hi,.int .i64 s] 208)):=(Below.refl _ _).alloc (Nat.le_refl _) _
 have K:=Hd (isPoint_any c (w.alloc (.cells #[.int .i64 lo,.int .i64 hi,.int .i64 s] 208)) hc)
 obtain ⟨l0,l1⟩:=hl
 obtain ⟨g0,g1⟩:=hh
 obtain ⟨s0,s1⟩:=hs
 obtain ⟨c0,c1⟩:=hc
 unfold runV
 by_cases p1:0≤c∧c≤1114111
 ·have e1:isPt c=true:=decide_eq_true p1
  rw [e1] at K
  by_cases p2:lo≤c
  ·by_cases p3:c≤hi
   ·by_cases p4:0<s
    ·have d:=wrap_diff p1.1 p1.2 p2 l0
     have ds:IntKind.u64.wrap s=s:=IntWalk.u64_in _ ⟨by omega,by omega⟩
     have dm:(c - lo).tmod s=(c - lo) % s:=Int.tmod_eq_emod_of_nonneg (by omega)
     have dn:(s==0)=false:=beq_eq_false_iff_ne.2 (by omega)
     have e:hasB lo hi s c=((c - lo) % s==0):=by
      unfold hasB
      by_cases q:(c - lo) % s=0
      ·rw [decide_eq_true ⟨p1.1,p1.2,p2,p3,p4,q⟩,q]; rfl
      ·rw [decide_eq_false (fun h=>q h.2.2.2.2.2),beq_eq_false_iff_ne.2 q]
     rw [e]
     obtain ⟨p5,p6⟩:=p1
     go_enter Tryz.func154,Tryz.ntmps154
     go_wp2_with fail
     refine (Uh K).mono ?_
     rintro e w1 ⟨rfl,hw1⟩
     subst w1
     go_wp2
     go_ret
     refine ⟨?_,hb⟩
     show Ending.returned (.bool ((IntKind.u64.wrap (wrap64 (c - lo))).tmod s==0))=_
     rw [← IntWalk.i64_left,d,dm]
    ·have e:hasB lo hi s c=false:=decide_eq_false (by omega)
     rw [e]
     go_enter Tryz.func154,Tryz.ntmps154
     go_wp2_with fail
     refine (Uh K).mono ?_
     rintro e w1 ⟨rfl,hw1⟩
     subst w1
     go_wp2
     go_ret
     exact ⟨rfl,hb⟩
   ·have e:hasB lo hi s c=false:=decide_eq_false (by omega)
    rw [e]
    go_enter Tryz.func154,Tryz.ntmps154
    go_wp2_with fail
    refine (Uh K).mono ?_
    rintro e w1 ⟨rfl,hw1⟩
    subst w1
    go_wp2
    go_ret
    exact ⟨rfl,hb⟩
  ·have e:hasB lo hi s c=false:=decide_eq_false (by omega)
   rw [e]
   go_enter Tryz.func154,Tryz.ntmps154
   go_wp2_with fail
   refine (Uh K).mono ?_
   rintro e w1 ⟨rfl,hw1⟩
   subst w1
   go_wp2
   go_ret
   exact ⟨rfl,hb⟩
 ·have e1:isPt c=false:=decide_eq_false p1
  rw [e1] at K
  have e:hasB lo hi s c=false:=decide_eq_false (by omega)
  rw [e]
  go_enter Tryz.func154,Tryz.ntmps154
  go_wp2_with fail
  refine (Uh K).mono ?_
  rintro e w1 ⟨rfl,hw1⟩
  subst w1
  go_wp2
  go_ret
  exact ⟨rfl,hb⟩
set_option maxRecDepth 8000 in
set_option maxHeartbeats 2000000 in
theorem sharedSpoken_any k r vt w:Calls Tryz.prog 240 #[shV k,recV r vt] w (fun e w'=>e=.returned (runV r.lo r.hi 1)∧Below w.heap.size w w'):=by
 unfold shV recV runV
 go_enter Tryz.func240,Tryz.ntmps240
 go_wp2
 go_returns
 exact ⟨rfl,(((Below.refl _ _).alloc (Nat.le_refl _) _).alloc (by simp) _).alloc (by simp; omega) _⟩
set_option maxRecDepth 8000 in
set_option maxHeartbeats 2000000 in
theorem shiftedSpoken_any k r vt w:Calls Tryz.prog 256 #[shV k,recV r vt] w (fun e w'=>e=.returned (runV r.lo r.hi r.n)∧Below w.heap.size w w'):=by
 unfold shV recV runV
 go_enter Tryz.func256,Tryz.ntmps256
 go_wp2
 go_returns
 exact ⟨rfl,(((Below.refl _ _).alloc (Nat.le_refl _) _).alloc (by simp) _).alloc (by simp; omega) _⟩
def stepP (r:Rec):Int:=if r.kind=4 then r.n else 1
theorem hasB_speaks r c (h:r.kind≠15):hasB r.lo r.hi (stepP r) c=Cn.speaks r c:=by
 unfold hasB stepP Cn.speaks Cn.step
 refine decide_eq_decide.2 ?_
 by_cases h4:r.kind=4
 ·grind
 ·grind
theorem rd9 {P : Program} {ops : Array Oper} {Q : Exit → Act → World → Prop} {md : Region.Mode} {S : World → Prop} (i : Nat) {o : Oper} {fuel : Nat} {listed : Array Bool} {a : Act} {w : World} (h : ∀ K' : Act → World → Prop, Shut (∀ a w, S w → (S w → wpAnyH P md ops Q S fuel (listed.setIfInBounds i true) a w) → K' a w) → if Region.wanted o (yielded ops a.tmps) = true then Oper.wp P o a w K' Q else K' (a.put o.dst undef) w) (ho : ops.toList[i]? = some o := by exact rfl) (hr : Region.ready md ops listed = [i] := by kernel_rfl) : wpAnyH P md ops Q S (fuel + 1) listed a w := wpAnyH_ready hr (by simp) (AllReadyH.cons (by rw [← ho]; simp) h AllReadyH.nil)
def spokenF (k:Int):Nat:=if k=4 then 256 else 240
theorem spoken_any (k:Int) (r:Rec) (vt:Value) (w:World) (hk:r.kind=k):Calls Tryz.prog (spokenF k) #[shV k,recV r vt] w (fun e w'=>e=.returned (runV r.lo r.hi (stepP r))∧Below w.heap.size w w'):=by
 unfold spokenF stepP
 by_cases h4:k=4
 ·rw [if_pos h4,if_pos (hk.trans h4)]
  exact shiftedSpoken_any k r vt w
 ·rw [if_neg h4,if_neg (fun e=>h4 (hk.symm.trans e))]
  exact sharedSpoken_any k r vt w
theorem enters_sp4:∀ args w,(callFunc 256 args).run Tryz.prog w=.ok (.enter 256 args) w:=by simp_all
theorem enters_sp:∀ args w,(callFunc 240 args).run Tryz.prog w=.ok (.enter 240 args) w:=by simp_all
set_option maxRecDepth 20000 in
set_option maxHeartbeats 4000000 in
theorem find1_any (r:Rec) (vt:Value) (f c:Int) (B C:Nat) (w:World) (hf:RecFit r) (hg:Glob w) (hB:w.cell? ⟨B,0,none⟩=some (.int .i64 f)) (hC:w.cell? ⟨C,0,none⟩=some (.int .i32 c)) (hfi:0<f∧f<10) (hc:-2147483648≤c∧c≤2147483647) :
  Calls Tryz.prog 152 #[recV r vt,.pointer (some ⟨B,0,none⟩),.pointer (some ⟨C,0,none⟩)] w (BoolB w (decide (Cn.fam r.kind=f) && Cn.speaks r c)):=by
 have hkb:=hf.kind
 have hlb:=hf.lo
 have hhb:=hf.hi
 have hnb:=hf.n
 have hsb:I64 (stepP r):=by
  unfold stepP
  split
  ·exact hnb
  ·unfold I64; omega
 by_cases hfam:Cn.fam r.kind=f
 ·have hk15:r.kind≠15:=fun e=>by rw [e,show Cn.fam 15=10 by decide] at hfam; omega
  have e:(decide (Cn.fam r.kind=f) && Cn.speaks r c)=hasB r.lo r.hi (stepP r) c:=by rw [decide_eq_true hfam,hasB_speaks r c hk15]; rfl
  rw [e]
  subst hfam
  have KF:Hid (∀ W,Below w.heap.size w W→Calls Tryz.prog 122 #[.int .i64 r.kind] W (IntB W (Cn.fam r.kind))):=fun W h=>family_any r.kind W (hg.on h) hkb
  have KS:Hid (∀ W,Calls Tryz.prog 153 #[.int .i64 r.kind] W (fun e w'=>e=.returned (shape r.kind)∧Below W.heap.size W w')):=fun W=>shapeOf_any r.kind W hkb
  have KP:Hid (∀ W,Calls Tryz.prog (spokenF r.kind) #[shV r.kind,recV r vt] W (fun e w'=>e=.returned (runV r.lo r.hi (stepP r))∧Below W.heap.size W w')):=fun W=>spoken_any r.kind r vt W rfl
  have KH:Hid (∀ W,Calls Tryz.prog 154 #[runV r.lo r.hi (stepP r),.int .i64 c] W (BoolB W (hasB r.lo r.hi (stepP r) c))):=fun W=>has_any _ _ _ _ W hlb hhb hsb ⟨by omega,by omega⟩
  have hq:(Cn.fam r.kind==Cn.fam r.kind)=true:=beq_self_eq_true _
  obtain ⟨T, fp, es, ef, hm, eg⟩ : ∃ T fp, shape r.kind = .iface T (.agg #[.int .i64 r.kind]) ∧ spokenF r.kind = fp ∧ (∀ W, (method 407 T (.agg #[.int .i64 r.kind]) "endonym/table.spoken").run Tryz.prog W = .ok (fp, .agg #[.int .i64 r.kind]) W) ∧ ∀ args W, (callFunc fp args).run Tryz.prog W = .ok (.enter fp args) W := by
   unfold shape shV spokenF
   by_cases h4:r.kind=4
   ·rw [if_pos h4,if_pos h4]
    exact ⟨_,_,rfl,rfl,mSpokenShifted _,enters_sp4⟩
   ·rw [if_neg h4,if_neg h4]
    by_cases h5:r.kind=5∨r.kind=7∨r.kind=8∨r.kind=13
    ·rw [if_pos h5]
     exact ⟨_,_,rfl,rfl,mSpokenSingle _,enters_sp⟩
    ·rw [if_neg h5,if_neg hk15]
     exact ⟨_,_,rfl,rfl,mSpokenSpanned _,enters_sp⟩
  rw [es] at KS
  rw [ef] at KP
  clear es ef
  generalize hasB r.lo r.hi (stepP r) c=res at *
  generalize stepP r=st at *
  generalize Cn.fam r.kind=fr at *
  clear hf hg e
  unfold recV shV runV at *
  have hwc:IntKind.i64.wrap c=c:=IntWalk.i64_in _ ⟨by omega,by omega⟩
  generalize r.kind=kd at *
  generalize r.n=n at *
  generalize r.lo=lo at *
  generalize r.hi=hi at *
  generalize r.name=nm at *
  generalize r.other=ot at *
  generalize r.wt=wt at *
  have hb0:Below w.heap.size w (w.alloc (.cells #[.int .i64 kd,.int .i64 lo,.int .i64 hi,.int .i64 n,vt,.string nm,.string ot,.float .f64 wt] 59)):=(Below.refl _ _).alloc (Nat.le_refl _) _
  have hh0:(w.alloc (.cells #[.int .i64 kd,.int .i64 lo,.int .i64 hi,.int .i64 n,vt,.string nm,.string ot,.float .f64 wt] 59)).heap[w.heap.size]?=some (.cells #[.int .i64 kd,.int .i64 lo,.int .i64 hi,.int .i64 n,vt,.string nm,.string ot,.float .f64 wt] 59 (0,0)):=by
   show (w.heap.push _)[w.heap.size]?=_
   simp
  go_enter Tryz.func152,Tryz.ntmps152
  go_wp2
  generalize (w.alloc (.cells #[.int .i64 kd,.int .i64 lo,.int .i64 hi,.int .i64 n,vt,.string nm,.string ot,.float .f64 wt] 59))=W0 at *
  have SM:Hid (∀ W,Below W0.heap.size W0 W→W.cell? ⟨B,0,none⟩=some (.int .i64 fr)∧W.cell? ⟨C,0,none⟩=some (.int .i32 c)∧W.heap[w.heap.size]?=some (.cells #[.int .i64 kd,.int .i64 lo,.int .i64 hi,.int .i64 n,vt,.string nm,.string ot,.float .f64 wt] 59 (0,0))∧Hid (Below W0.heap.size W0 W)):=fun W h=>by
   have h1:Below w.heap.size w W:=bthen hb0 h
   have h2:W.heap[w.heap.size]?=_:=(h.block _ (by
    rcases Nat.lt_or_ge w.heap.size W0.heap.size with a | a
    ·exact a
    ·rw [Array.getElem?_eq_none a] at hh0; cases hh0)).trans hh0
   exact ⟨by rw [h1.cell (lt_of_cell? hB)]; exact hB,by rw [h1.cell (lt_of_cell? hC)]; exact hC,h2,h⟩
  have SI:Hid (∀ W,(W.cell? ⟨B,0,none⟩=some (.int .i64 fr)∧W.cell? ⟨C,0,none⟩=some (.int .i32 c)∧W.heap[w.heap.size]?=some (.cells #[.int .i64 kd,.int .i64 lo,.int .i64 hi,.int .i64 n,vt,.string nm,.string ot,.float .f64 wt] 59 (0,0))∧Hid (Below W0.heap.size W0 W))→Below W0.heap.size W0 W):=fun W h=>h.2.2.2
  clear hB hC
  refine wp_region_held_drew (S:=fun w'=>w'.cell? ⟨B,0,none⟩=some (.int .i64 fr)∧w'.cell? ⟨C,0,none⟩=some (.int .i32 c)∧w'.heap[w.heap.size]?=some (.cells #[.int .i64 kd,.int .i64 lo,.int .i64 hi,.int .i64 n,vt,.string nm,.string ot,.float .f64 wt] 59 (0,0))∧Hid (Below W0.heap.size W0 w')) (by kernel_rfl) ((Uh SM) _ (drewB ⟨1,rfl⟩)) (fun hHeld=>?_)
  refine tk9 0 (.pointer (some ⟨w.heap.size,0,none⟩)) ?_ (hy:=by (intro w hSw; obtain ⟨_,_,rb,_⟩:=id hSw; obtain ⟨_,_,_,_,_,_,_,_⟩:=cells8 rb; go_simp))
  refine tk9 1 (.int .i64 kd) ?_ (hy:=by (intro w hSw; obtain ⟨_,_,rb,_⟩:=id hSw; obtain ⟨_,_,_,_,_,_,_,_⟩:=cells8 rb; go_simp))
  refine tk9 3 (.int .i64 fr) ?_ (hy:=by (intro w hSw; obtain ⟨_,_,rb,_⟩:=id hSw; obtain ⟨_,_,_,_,_,_,_,_⟩:=cells8 rb; go_simp))
  refine rd9 2 fun K hK=>?_
  go_simp
  refine ((Uh KF) _ (bthen hb0 ((Uh SI) _ hHeld))).mono ?_
  rintro e w1 ⟨rfl,hb1⟩
  go_wp2_with fail
  refine hK.out _ _ ?_ (fun hHeld=>?_)
  ·exact (Uh SM) _ (bthen ((Uh SI) _ hHeld) hb1)
  clear hK K
  try simp only [Act.put,sa9,sb9,sc9]
  refine tk9 4 (.bool true) ?_ (hy:=by (intro w hSw; obtain ⟨_,_,rb,_⟩:=id hSw; obtain ⟨_,_,_,_,_,_,_,_⟩:=cells8 rb; go_simp))
  refine tk9 5 (.bool true) ?_ (hy:=by (intro w hSw; obtain ⟨_,_,rb,_⟩:=id hSw; obtain ⟨_,_,_,_,_,_,_,_⟩:=cells8 rb; go_simp))
  refine tk9 6 (.pointer (some ⟨w.heap.size,0,none⟩)) ?_ (hy:=by (intro w hSw; obtain ⟨_,_,rb,_⟩:=id hSw; obtain ⟨_,_,_,_,_,_,_,_⟩:=cells8 rb; go_simp))
  refine tk9 7 (.int .i64 kd) ?_ (hy:=by (intro w hSw; obtain ⟨_,_,rb,_⟩:=id hSw; obtain ⟨_,_,_,_,_,_,_,_⟩:=cells8 rb; go_simp))
  refine tk9 9 (.agg #[.int .i64 kd,.int .i64 lo,.int .i64 hi,.int .i64 n,vt,.string nm,.string ot,.float .f64 wt]) ?_ (hy:=by (intro w hSw; obtain ⟨_,_,rb,_⟩:=id hSw; obtain ⟨_,_,_,_,_,_,_,_⟩:=cells8 rb; go_simp))
  refine tk9 11 (.int .i32 c) ?_ (hy:=by (intro w hSw; obtain ⟨_,_,rb,_⟩:=id hSw; obtain ⟨_,_,_,_,_,_,_,_⟩:=cells8 rb; go_simp))
  refine tk9 12 (.int .i64 c) ?_ (hy:=by (intro w hSw; obtain ⟨_,_,rb,_⟩:=id hSw; obtain ⟨_,_,_,_,_,_,_,_⟩:=cells8 rb; go_simp))
  refine rd9 8 fun K hK=>?_
  go_simp
  refine ((Uh KS) _).mono ?_
  rintro e w2 ⟨rfl,hb2⟩
  go_wp2_with fail
  refine hK.out _ _ ?_ (fun hHeld=>?_)
  ·exact (Uh SM) _ (bthen ((Uh SI) _ hHeld) hb2)
  clear hK K
  try simp only [Act.put,sa9,sb9,sc9]
  refine rd9 10 fun K hK=>?_
  go_simp
  refine ((Uh KP) _).mono ?_
  rintro e w3 ⟨rfl,hb3⟩
  go_wp2_with fail
  refine hK.out _ _ ?_ (fun hHeld=>?_)
  ·exact (Uh SM) _ (bthen ((Uh SI) _ hHeld) hb3)
  clear hK K
  try simp only [Act.put,sa9,sb9,sc9]
  refine rd9 13 fun K hK=>?_
  go_simp
  refine ((Uh KH) _).mono ?_
  rintro e w4 ⟨rfl,hb4⟩
  go_wp2_with fail
  refine hK.out _ _ ?_ (fun hHeld=>?_)
  ·exact (Uh SM) _ (bthen ((Uh SI) _ hHeld) hb4)
  clear hK K
  try simp only [Act.put,sa9,sb9,sc9]
  refine tk9 14 (.bool res) ?_ (hy:=by (intro w hSw; obtain ⟨_,_,rb,_⟩:=id hSw; obtain ⟨_,_,_,_,_,_,_,_⟩:=cells8 rb; go_simp))
  refine tk9 15 (.bool res) ?_ (hy:=by (intro w hSw; obtain ⟨_,_,rb,_⟩:=id hSw; obtain ⟨_,_,_,_,_,_,_,_⟩:=cells8 rb; go_simp))
  refine wpAnyH_done (by kernel_rfl) ?_ _
  have HF:BoolB w res (.returned (.bool res)) w4:=⟨rfl,bthen hb0 ((Uh SI) _ hHeld)⟩
  clear hHeld KF KS KP KH SM SI
  go_wp2
  go_ret
  exact HF
 ·have e:(decide (Cn.fam r.kind=f) && Cn.speaks r c)=false:=by rw [decide_eq_false hfam]; rfl
  rw [e]
  have hq:(Cn.fam r.kind==f)=false:=beq_eq_false_iff_ne.2 hfam
  have KF:Hid (∀ W,Below w.heap.size w W→Calls Tryz.prog 122 #[.int .i64 r.kind] W (IntB W (Cn.fam r.kind))):=fun W h=>family_any r.kind W (hg.on h) hkb
  generalize Cn.fam r.kind=fr at *
  clear hf hg e hsb
  unfold recV
  generalize r.kind=kd at *
  generalize r.n=n at *
  generalize r.lo=lo at *
  generalize r.hi=hi at *
  generalize r.name=nm at *
  generalize r.other=ot at *
  generalize r.wt=wt at *
  have hb0:Below w.heap.size w (w.alloc (.cells #[.int .i64 kd,.int .i64 lo,.int .i64 hi,.int .i64 n,vt,.string nm,.string ot,.float .f64 wt] 59)):=(Below.refl _ _).alloc (Nat.le_refl _) _
  have hh0:(w.alloc (.cells #[.int .i64 kd,.int .i64 lo,.int .i64 hi,.int .i64 n,vt,.string nm,.string ot,.float .f64 wt] 59)).heap[w.heap.size]?=some (.cells #[.int .i64 kd,.int .i64 lo,.int .i64 hi,.int .i64 n,vt,.string nm,.string ot,.float .f64 wt] 59 (0,0)):=by
   show (w.heap.push _)[w.heap.size]?=_
   simp
  go_enter Tryz.func152,Tryz.ntmps152
  go_wp2
  generalize (w.alloc (.cells #[.int .i64 kd,.int .i64 lo,.int .i64 hi,.int .i64 n,vt,.string nm,.string ot,.float .f64 wt] 59))=W0 at *
  have SM:Hid (∀ W,Below W0.heap.size W0 W→W.cell? ⟨B,0,none⟩=some (.int .i64 f)∧W.cell? ⟨C,0,none⟩=some (.int .i32 c)∧W.heap[w.heap.size]?=some (.cells #[.int .i64 kd,.int .i64 lo,.int .i64 hi,.int .i64 n,vt,.string nm,.string ot,.float .f64 wt] 59 (0,0))∧Hid (Below W0.heap.size W0 W)):=fun W h=>by
   have h1:Below w.heap.size w W:=bthen hb0 h
   have h2:W.heap[w.heap.size]?=_:=(h.block _ (by
    rcases Nat.lt_or_ge w.heap.size W0.heap.size with a | a
    ·exact a
    ·rw [Array.getElem?_eq_none a] at hh0; cases hh0)).trans hh0
   exact ⟨by rw [h1.cell (lt_of_cell? hB)]; exact hB,by rw [h1.cell (lt_of_cell? hC)]; exact hC,h2,h⟩
  have SI:Hid (∀ W,(W.cell? ⟨B,0,none⟩=some (.int .i64 f)∧W.cell? ⟨C,0,none⟩=some (.int .i32 c)∧W.heap[w.heap.size]?=some (.cells #[.int .i64 kd,.int .i64 lo,.int .i64 hi,.int .i64 n,vt,.string nm,.string ot,.float .f64 wt] 59 (0,0))∧Hid (Below W0.heap.size W0 W))→Below W0.heap.size W0 W):=fun W h=>h.2.2.2
  clear hB hC
  refine wp_region_held_drew (S:=fun w'=>w'.cell? ⟨B,0,none⟩=some (.int .i64 f)∧w'.cell? ⟨C,0,none⟩=some (.int .i32 c)∧w'.heap[w.heap.size]?=some (.cells #[.int .i64 kd,.int .i64 lo,.int .i64 hi,.int .i64 n,vt,.string nm,.string ot,.float .f64 wt] 59 (0,0))∧Hid (Below W0.heap.size W0 w')) (by kernel_rfl) ((Uh SM) _ (drewB ⟨1,rfl⟩)) (fun hHeld=>?_)
  refine tk9 0 (.pointer (some ⟨w.heap.size,0,none⟩)) ?_ (hy:=by (intro w hSw; obtain ⟨_,_,rb,_⟩:=id hSw; obtain ⟨_,_,_,_,_,_,_,_⟩:=cells8 rb; go_simp))
  refine tk9 1 (.int .i64 kd) ?_ (hy:=by (intro w hSw; obtain ⟨_,_,rb,_⟩:=id hSw; obtain ⟨_,_,_,_,_,_,_,_⟩:=cells8 rb; go_simp))
  refine tk9 3 (.int .i64 f) ?_ (hy:=by (intro w hSw; obtain ⟨_,_,rb,_⟩:=id hSw; obtain ⟨_,_,_,_,_,_,_,_⟩:=cells8 rb; go_simp))
  refine rd9 2 fun K hK=>?_
  go_simp
  refine ((Uh KF) _ (bthen hb0 ((Uh SI) _ hHeld))).mono ?_
  rintro e w1 ⟨rfl,hb1⟩
  go_wp2_with fail
  refine hK.out _ _ ?_ (fun hHeld=>?_)
  ·exact (Uh SM) _ (bthen ((Uh SI) _ hHeld) hb1)
  clear hK K
  try simp only [Act.put,sa9,sb9,sc9]
  refine tk9 4 (.bool false) ?_ (hy:=by (intro w hSw; obtain ⟨_,_,rb,_⟩:=id hSw; obtain ⟨_,_,_,_,_,_,_,_⟩:=cells8 rb; go_simp))
  refine tk9 5 (.bool false) ?_ (hy:=by (intro w hSw; obtain ⟨_,_,rb,_⟩:=id hSw; obtain ⟨_,_,_,_,_,_,_,_⟩:=cells8 rb; go_simp))
  refine tn9 6 ?_
  refine tn9 7 ?_
  refine tn9 8 ?_
  refine tn9 9 ?_
  refine tn9 10 ?_
  refine tn9 11 ?_
  refine tn9 12 ?_
  refine tn9 13 ?_
  refine tk9 14 (.bool false) ?_ (hy:=by (intro w hSw; obtain ⟨_,_,rb,_⟩:=id hSw; obtain ⟨_,_,_,_,_,_,_,_⟩:=cells8 rb; go_simp))
  refine tk9 15 (.bool false) ?_ (hy:=by (intro w hSw; obtain ⟨_,_,rb,_⟩:=id hSw; obtain ⟨_,_,_,_,_,_,_,_⟩:=cells8 rb; go_simp))
  refine wpAnyH_done (by kernel_rfl) ?_ _
  have HF:BoolB w false (.returned (.bool false)) w1:=⟨rfl,bthen hb0 ((Uh SI) _ hHeld)⟩
  clear hHeld KF SM SI
  go_wp2
  go_ret
  exact HF
end Go.Proofs.YtihhhjodonkkcaaGreatDoor
namespace Go.Proofs.YtihhhjodonkkcaaGreatDoor.Cn
theorem walk_leaf {l c} (h:opn l c=[]) f way out:walk l f way c out=if 32≤out.length then ([],2) else (out++[c],0):=by
 cases f <;> rw [walk,if_pos h]
theorem walk_loop {l c} (h:opn l c≠[]) f {way} (hw:c∈way) out:walk l f way c out=([],72):=by
 cases f <;> rw [walk,if_neg h,if_pos hw]
theorem walk_deep {l c} (h:opn l c≠[]) {way} (hw:¬ c∈way) out:walk l 0 way c out=([],73):=by
 rw [walk,if_neg h,if_neg hw]
def stepW (l:List Rec) (f:Nat) (way:List Int) (s:List Int × Int) (d:Int):List Int × Int:=if s.2=0 then walk l f way d s.1 else s
theorem walk_go {l c} (h:opn l c≠[]) f {way} (hw:¬ c∈way) out:walk l (f+1) way c out=(opn l c).foldl (stepW l f (way++[c])) (out,0):=by
 rw [walk,if_neg h,if_neg hw]; rfl
theorem fold_stuck (l:List Rec) (f:Nat) (way:List Int):∀ (xs:List Int) (s:List Int × Int),s.2≠0→xs.foldl (stepW l f way) s=s
 | [],_,_=>rfl
 | x :: xs,s,h=>by
  rw [List.foldl_cons,stepW,if_neg h]
  exact fold_stuck l f way xs s h
theorem fold_step {l f} {way xs out:List Int} {k} (hk:k<xs.length):(xs.drop k).foldl (stepW l f way) (out,0)=(xs.drop (k+1)).foldl (stepW l f way) (walk l f way (xs.getD k 0) out):=by
 rw [List.drop_eq_getElem_cons hk,List.foldl_cons]
 simp [stepW,List.getD,hk]
theorem walk_len l:∀ (f:Nat) (way:List Int) (c:Int) (out:List Int),out.length≤32→(walk l f way c out).1.length≤32:=by
 intro f
 induction f with
 | zero =>
  intro way c out h
  rw [walk]
  split
  ·grind
  ·split <;> simp
 | succ f ih =>
  intro way c out h
  rw [walk]
  split
  ·split
   ·simp
   ·simp; omega
  ·split
   ·simp
   ·have key:∀ (xs:List Int) (s:List Int × Int),s.1.length≤32→(xs.foldl (stepW l f (way++[c])) s).1.length≤32:=by
     intro xs
     induction xs with
     | nil=>intro s hs; exact hs
     | cons x xs ihx =>
      intro s hs
      rw [List.foldl_cons]
      refine ihx _ ?_
      unfold stepW
      split
      ·exact ih _ _ _ hs
      ·exact hs
    exact key _ _ h
theorem full_len l c:(full l c).1.length≤32:=walk_len l 16 [] c [] (by simp)
theorem walk_err l:∀ (f:Nat) (way:List Int) (c:Int) (out:List Int),(walk l f way c out).2≠0→(walk l f way c out).1=[]:=by
 intro f
 induction f with
 | zero =>
  intro way c out
  rw [walk]
  split
  ·grind
  ·split <;> (intro _; rfl)
 | succ f ih =>
  intro way c out
  rw [walk]
  split
  ·split
   ·intro _; rfl
   ·intro h; exact absurd rfl h
  ·split
   ·intro _; rfl
   ·have key:∀ (xs:List Int) (s:List Int × Int),(s.2≠0→s.1=[])→(xs.foldl (stepW l f (way++[c])) s).2≠0→(xs.foldl (stepW l f (way++[c])) s).1=[]:=by
     intro xs
     induction xs with
     | nil=>intro s hs h; exact hs h
     | cons x xs ihx =>
      intro s hs
      rw [List.foldl_cons]
      refine ihx _ ?_
      unfold stepW
      split
      ·exact ih _ _ _
      ·exact hs
    exact key _ _ (fun h=>absurd rfl h)
end Go.Proofs.YtihhhjodonkkcaaGreatDoor.Cn
