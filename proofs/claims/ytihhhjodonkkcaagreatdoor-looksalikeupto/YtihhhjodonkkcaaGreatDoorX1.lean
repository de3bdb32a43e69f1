/- Seq Scn Scp Scl Str5 Rng5 -/
import Derived.OrdersHeld
import Derived.WalkKit
import Derived.WalkSpells
import Derived.WalkLawsBesides
import Derived.OpenShut
import Derived.Laws.BytesArg
import Derived.Laws.AppendOwnNone
import Derived.Test.YtihhhjodonkkcaaGreatDoorProg
import Derived.Lib.OthersKept
import Derived.Lib.DecodeN
namespace Go.Proofs.YtihhhjodonkkcaaGreatDoor
theorem sa9 {α : Type} (l : List α) (i : Nat) (a : α) : l.toArray.setIfInBounds i a = (l.set i a).toArray := by simp
theorem sb9 {α : Type} (a b : α) (l : List α) : (a :: l).set 0 b = b :: l := rfl
theorem sc9 {α : Type} (a b : α) (l : List α) (n : Nat) : (a :: l).set (n + 1) b = a :: l.set n b := rfl
theorem tk9 {P : Program} {ops : Array Oper} {Q : Exit → Act → World → Prop} {md : Region.Mode} {S : World → Prop} (i : Nat) (v : Value) {oi : Oper} {fuel : Nat} {listed : Array Bool} {a a' : Act} {w : World} (h : wpAnyH P md ops Q S fuel (listed.setIfInBounds i true) a' w) (hi : ops.toList[i]? = some oi := by exact rfl) (hy : ∀ w, S w → (execOp a.eval oi).run P w = .ok (.value v) w := by (intro w hSw; go_simp)) (ha : a.put oi.dst v = a' := by (try simp only [Act.put, sa9, sb9, sc9]); exact rfl) (hS : S w := by assumption) (hw : Region.wanted oi (yielded ops a.tmps) = true := by rfl) (hs : Region.noSelect ops = true := by kernel_rfl) (hf : Region.free md ops listed i = true := by kernel_rfl) (hr : (Region.ready md ops listed).contains i = true := by kernel_rfl) (hQ : ∀ c a w, Q (.panic c) (a.put oi.dst v) w → Q (.panic c) a w := by exact fun _ _ _ h => h) : wpAnyH P md ops Q S (fuel + 1) listed a w := wpAnyH_take (by rw [← hi]; simp) hs hf hr hQ (Or.inl ⟨hw, hy⟩) hS (by rw [ha]; exact h)
theorem tn9 {P : Program} {ops : Array Oper} {Q : Exit → Act → World → Prop} {md : Region.Mode} {S : World → Prop} (i : Nat) {oi : Oper} {fuel : Nat} {listed : Array Bool} {a a' : Act} {w : World} (h : wpAnyH P md ops Q S fuel (listed.setIfInBounds i true) a' w) (hi : ops.toList[i]? = some oi := by exact rfl) (ha : a.put oi.dst undef = a' := by (try simp only [Act.put, sa9, sb9, sc9]); exact rfl) (hS : S w := by assumption) (hw : Region.wanted oi (yielded ops a.tmps) = false := by rfl) (hs : Region.noSelect ops = true := by kernel_rfl) (hf : Region.free md ops listed i = true := by kernel_rfl) (hr : (Region.ready md ops listed).contains i = true := by kernel_rfl) (hQ : ∀ c a w, Q (.panic c) (a.put oi.dst undef) w → Q (.panic c) a w := by exact fun _ _ _ h => h) : wpAnyH P md ops Q S (fuel + 1) listed a w := wpAnyH_take (by rw [← hi]; simp) hs hf hr hQ (Or.inr ⟨hw, rfl⟩) hS (by rw [ha]; exact h)
open Go.RowKit
theorem Hd {p:Prop} (h:p):Hid p:=h
theorem Uh {p:Prop} (h:Hid p):p:=h
theorem bthen {a b c} (h:Below a.heap.size a b) (k:Below b.heap.size b c):Below a.heap.size a c:=h.trans (k.mono h.size)
theorem lt_of_cell? {w:World} {b o v} (h:w.cell? ⟨b,o,none⟩=some v):b<w.heap.size:=World.block_lt_of_cell? w _ h
theorem addr_add b off j:(⟨b,off,none⟩:Addr).add j=⟨b,off+j,none⟩:=by unfold Addr.add; split <;> simp_all
def Sv (w:World) (v:Value) (us:List Value):Prop :=
 us.length≤140737488355328 ∧
  ((us=[]∧∃ ao cap,v=.slice ao 0 cap∧cap≤9223372036854775807∧(ao=none→cap=0)) ∨
   ∃ b off cap,v=.slice (some ⟨b,off,none⟩) us.length cap∧us.length≤cap∧cap≤9223372036854775807∧∀ i,i<us.length→w.cell? ⟨b,off+i,none⟩=some (us.getD i undef))
theorem Sv.nil w:Sv w (.slice none 0 0) []:=⟨by simp,.inl ⟨rfl,none,0,rfl,by omega,fun _=>rfl⟩⟩
theorem Sv.below {w w' v us} (h:Sv w v us) (hb:Below w.heap.size w w'):Sv w' v us:=by
 obtain ⟨h2,h3⟩:=h
 refine ⟨h2,?_⟩
 rcases h3 with h3 | ⟨b,off,cap,hv,hl,hm,hc⟩
 ·exact .inl h3
 ·refine .inr ⟨b,off,cap,hv,hl,hm,fun i hi=>?_⟩
  rw [hb.cell (lt_of_cell? (hc i hi))]
  exact hc i hi
theorem Sv.shape {w v us} (h:Sv w v us):∃ ao cap,v=.slice ao us.length cap∧us.length≤cap∧cap≤9223372036854775807:=by
 rcases h.2 with ⟨rfl,ao,cap,hv,hm,_⟩ | ⟨b,off,cap,hv,hl,hm,_⟩
 ·exact ⟨ao,cap,hv,by simp,hm⟩
 ·exact ⟨_,cap,hv,hl,hm⟩
theorem Sv.place {w v us} (h:Sv w v us) (hne:0<us.length) :
  ∃ b off cap,v=.slice (some ⟨b,off,none⟩) us.length cap∧us.length≤cap∧cap≤9223372036854775807∧∀ i,i<us.length→w.cell? ⟨b,off+i,none⟩=some (us.getD i undef):=by
 rcases h.2 with ⟨rfl,_⟩ | h
 ·simp at hne
 ·exact h
theorem Sv.cut {w ao len cap l h m us} (hs:Sv w (.slice ao len cap) us) (h1:l≤h) (h2:h≤len) (h3:h≤m) (h4:m≤cap) :
  Sv w (sliced ao l h m 1) ((us.drop l).take (h - l)):=by
 obtain ⟨b2,b3⟩:=hs
 rcases b3 with ⟨rfl,ao',cap',hv,hm,hnil⟩ | ⟨b,off,cap',hv,hl,hm,hc⟩
 ·simp only [Value.slice.injEq] at hv
  obtain ⟨rfl,rfl,rfl⟩:=hv
  refine ⟨by simp,.inl ⟨by simp,(if m=l then ao else ao.map (·.add (l * 1))),m - l,?_,by omega,fun hn=>?_⟩⟩
  ·have:h - l=0:=by omega
   simp only [sliced,this]
  ·split at hn
   ·omega
   ·simp_all
 ·simp only [Value.slice.injEq] at hv
  obtain ⟨rfl,rfl,rfl⟩:=hv
  have hlen:((us.drop l).take (h - l)).length=h - l:=by simp; omega
  refine ⟨by omega,?_⟩
  by_cases he:h=l
  ·refine .inl ⟨by rw [he]; simp,(if m=l then some ⟨b,off,none⟩ else (some ⟨b,off,none⟩:Option Addr).map (·.add (l * 1))),m - l,?_,by omega,fun hn=>?_⟩
   ·have:h - l=0:=by omega
    simp only [sliced,this]
   ·split at hn <;> simp at hn
  ·refine .inr ⟨b,off+l,m - l,?_,by omega,by omega,fun i hi=>?_⟩
   ·rw [hlen]
    have:¬ m=l:=by omega
    simp only [sliced,this,if_false,Option.map_some,Nat.mul_one,addr_add]
   ·grind
theorem Sv.head {w ao len cap k us} (hs:Sv w (.slice ao len cap) us) (hk:k≤len) (hl:len≤cap):Sv w (.slice ao k cap) (us.take k):=by
 have h:=hs.cut (l:=0) (h:=k) (m:=cap) (by omega) (by omega) (by omega) (by omega)
 have e:sliced ao 0 k cap 1=.slice ao k cap:=by
  unfold sliced
  congr 1
  split
  ·rfl
  ·cases ao <;> simp [Addr.add]
 rw [e] at h
 simpa using h
theorem Sv.src {w v us} (h:Sv w v us):(us=[]∧v=.slice none 0 0) ∨
  ∃ ad cap,v=.slice (some ad) us.length cap∧∀ j u,us[j]?=some u→w.cell? (ad.add j)=some u:=by
 rcases h.2 with ⟨rfl,ao,cap,rfl,_,hnil⟩ | ⟨b,off,cap,rfl,hl,hm,hc⟩
 ·cases ao with
  | none=>grind
  | some ad=>grind
 ·refine .inr ⟨_,cap,rfl,fun j u hj=>?_⟩
  have hjl:=(List.getElem?_eq_some_iff.1 hj).1
  rw [addr_add,hc j hjl]
  simp [List.getD,hj]
def Fit (K:IntKind) (zs:List Int):Prop:=∀ z∈zs,K.min≤z∧z≤K.max
theorem Fit.nil K:Fit K []:=by intro z h; cases h
theorem Fit.snoc {K zs} (h:Fit K zs) {c} (h0:K.min≤c∧c≤K.max):Fit K (zs++[c]):=by
 intro z hz
 rcases List.mem_append.1 hz with hz | hz
 ·exact h z hz
 ·simp at hz; subst hz; exact h0
theorem Fit.app {K zs ys} (h:Fit K zs) (k:Fit K ys):Fit K (zs++ys):=by
 intro z hz
 rcases List.mem_append.1 hz with hz | hz
 ·exact h z hz
 ·exact k z hz
theorem Fit.take {K zs} (h:Fit K zs) n:Fit K (zs.take n):=fun z hz=>h z (List.mem_of_mem_take hz)
theorem Fit.at {K zs} (h:Fit K zs) i (hK:K.min≤0∧0≤K.max):K.min≤zs.getD i 0∧zs.getD i 0≤K.max:=by
 rcases Nat.lt_or_ge i zs.length with hi | hi
 ·simp only [List.getD,List.getElem?_eq_getElem hi,Option.getD_some]; exact h _ (List.getElem_mem hi)
 ·grind
theorem fit_i32 {z} (h:IntKind.i32.min≤z∧z≤IntKind.i32.max):-2147483648≤z∧z≤2147483647:=by
 simpa [IntKind.min,IntKind.max,IntKind.signed,IntKind.bits] using h
theorem i32_fit {z} (h:-2147483648≤z∧z≤2147483647):IntKind.i32.min≤z∧z≤IntKind.i32.max:=by
 simpa [IntKind.min,IntKind.max,IntKind.signed,IntKind.bits] using h
theorem Fit.i32at {zs} (h:Fit .i32 zs) i:-2147483648≤zs.getD i 0∧zs.getD i 0≤2147483647:=fit_i32 (h.at i (i32_fit (by omega)))
def Sk (K:IntKind) (w:World) (v:Value) (zs:List Int):Prop:=Fit K zs∧Sv w v (zs.map (Value.int K))
theorem Sk.len {K w v zs} (h:Sk K w v zs):zs.length≤140737488355328:=by simpa using h.2.1
theorem Sk.nil K w:Sk K w (.slice none 0 0) []:=⟨Fit.nil K,Sv.nil w⟩
theorem Sk.below {K w w' v zs} (h:Sk K w v zs) (hb:Below w.heap.size w w'):Sk K w' v zs:=⟨h.1,h.2.below hb⟩
theorem Sk.shape {K w v zs} (h:Sk K w v zs):∃ ao cap,v=.slice ao zs.length cap∧zs.length≤cap∧cap≤9223372036854775807:=by simpa using h.2.shape
theorem map_getD K (zs:List Int) i (hi:i<zs.length):(zs.map (Value.int K)).getD i undef=.int K (zs.getD i 0):=by simp [List.getD,hi]
theorem Sk.place {K w v zs} (h:Sk K w v zs) (hne:0<zs.length) :
  ∃ b off cap,v=.slice (some ⟨b,off,none⟩) zs.length cap∧zs.length≤cap∧cap≤9223372036854775807∧∀ i,i<zs.length→w.cell? ⟨b,off+i,none⟩=some (.int K (zs.getD i 0)):=by
 obtain ⟨b,off,cap,h1,h2,h3,h4⟩:=h.2.place (by simpa using hne)
 simp only [List.length_map] at h1 h2 h4
 exact ⟨b,off,cap,h1,h2,h3,fun i hi=>by rw [h4 i hi,map_getD K zs i hi]⟩
theorem Sk.head {K w ao len cap k} {zs} (hs:Sk K w (.slice ao len cap) zs) (hk:k≤len) (hl:len≤cap):Sk K w (.slice ao k cap) (zs.take k) :=
 ⟨hs.1.take k,by simpa using hs.2.head hk hl⟩
theorem ints_one K (zs:List Int):∀ u∈zs.map (Value.int K),u.oneCell'=true:=by
 intro u hu
 obtain ⟨z,_,rfl⟩:=List.mem_map.1 hu
 rfl
theorem int_one K c:∀ u∈[Value.int K c],u.oneCell'=true:=by intro u hu; simp at hu; subst hu; rfl
def Ow (e:TypeId) (w:World) (B:Nat) (v:Value) (us:List Value):Prop:=us.length≤140737488355328∧w.ownsRow B e 1 v us.length us
theorem Ow.nil e w B:Ow e w B (.slice none 0 0) []:=⟨by simp,World.ownsRow_nil _ _ _ _⟩
theorem Ow.sv {e w B v} {us} (h:Ow e w B v us):Sv w v us:=by
 obtain ⟨h2,h3⟩:=h
 have h3':=h3
 obtain ⟨_,hcase⟩:=h3
 refine ⟨h2,?_⟩
 rcases hcase with ⟨rfl,h0⟩ | ⟨g,cap,cur,hv,hg,hh,hn,hcap,hsz,htake⟩
 ·grind
 ·refine .inr ⟨g,0,cap,hv,hn,by unfold maxLen at hcap; omega,fun i hi=>?_⟩
  subst hv
  have:=h3'.cellAt i (by omega)
  rw [Nat.zero_add,this]
  simp [List.getD,hi]
theorem Ow.below {e w w' B v} {us} (h:Ow e w B v us) (hb:Below w.heap.size w w'):Ow e w' B v us:=by
 refine ⟨h.1,h.2.kept (row:=none) ⟨hb.os,hb.tape,hb.output,hb.size,fun k hk _=>hb.block k hk⟩ ?_⟩
 cases h':v.ownBlock with
 | none=>exact .inl rfl
 | some k=>exact .inr (by simp)
theorem Ow.lower {e w B B' v} {us} (h:Ow e w B v us) (hB:B'≤B):Ow e w B' v us:=by
 refine ⟨h.1,h.2.1,?_⟩
 rcases h.2.2 with h2 | ⟨g,cap,cur,hv,hg,r⟩
 ·exact .inl h2
 ·exact .inr ⟨g,cap,cur,hv,by omega,r⟩
def Ok (K:IntKind) (e:TypeId) (w:World) (B:Nat) (v:Value) (zs:List Int):Prop:=Fit K zs∧Ow e w B v (zs.map (Value.int K))
theorem Ok.sk {K e w B} {v zs} (h:Ok K e w B v zs):Sk K w v zs:=⟨h.1,h.2.sv⟩
theorem Ok.below {K e w w' B} {v zs} (h:Ok K e w B v zs) (hb:Below w.heap.size w w'):Ok K e w' B v zs:=⟨h.1,h.2.below hb⟩
theorem Ok.lower {K e w B B'} {v zs} (h:Ok K e w B v zs) (hB:B'≤B):Ok K e w B' v zs:=⟨h.1,h.2.lower hB⟩
theorem Ok.nil K e w B:Ok K e w B (.slice none 0 0) []:=⟨Fit.nil K,Ow.nil e w B⟩
theorem Ok.row {K e w B} {v zs} (h:Ok K e w B v zs):w.ownsRow B e 1 v zs.length (zs.map (Value.int K)):=by simpa using h.2.2
theorem Ok.of {K e w B n} {v zs us} (hf:Fit K zs) (hl:zs.length≤140737488355328) (h:w.ownsRow B e 1 v n us) (hn:n=zs.length) (hu:us=zs.map (Value.int K)):Ok K e w B v zs:=by
 subst hu; subst hn
 exact ⟨hf,by simpa using hl,by simpa using h⟩
theorem below_append {e w wr w1 v us} {n o B} (hB:B≤wr.heap.size) (hown:wr.ownsRow B e 1 v n us)
  (hbel:Below B w wr) (hg:(wr.alloc o).grownBy w1 v.ownBlock):Below B w w1 :=
 (hbel.alloc hB o).grown hg (by simp; omega) (fun k hk=>(hown.lt k hk).1)
theorem below_append0 {e w wr w1 v us} {n B} (hB:B≤wr.heap.size) (hown:wr.ownsRow B e 1 v n us)
  (hbel:Below B w wr) (hg:wr.grownBy w1 v.ownBlock):Below B w w1 :=
 hbel.grown hg hB (fun k hk=>(hown.lt k hk).1)
theorem plain_of_cell {w:World} {x v} (h:w.cell? x=some v):x=⟨x.block,x.off,none⟩:=by
 obtain ⟨b,o,s⟩:=x
 cases s with
 | none=>rfl
 | some s =>
  unfold World.cell? at h
  split at h <;> simp at h
theorem fit_of_wf {K zs} (h:∀ n∈zs,(Lit.int K n).wf=true):Fit K zs:=by
 intro z hz
 have:=h z hz
 simpa [Lit.wf] using this
theorem sk_of_row {K w a len cap} {zs} (h:(a=none∧len=0∧cap=0∧zs=[]) ∨
  ∃ x,a=some x∧len≤cap∧cap≤maxLen∧zs.length=cap∧(∀ i,i<zs.length→w.cell? (x.add i)=some (.int K (zs.getD i 0)))∧∀ n∈zs,(Lit.int K n).wf=true) (hl:len≤140737488351232) :
  Sk K w (.slice a len cap) (zs.take len):=by
 rcases h with ⟨rfl,rfl,rfl,rfl⟩ | ⟨x,rfl,h1,h2,h3,h4,h5⟩
 ·exact Sk.nil K w
 ·unfold maxLen at h2
  have hb:Fit K (zs.take len):=(fit_of_wf h5).take len
  have hlen:(zs.take len).length=len:=by simp; omega
  refine ⟨hb,by simp; omega,?_⟩
  rcases Nat.eq_zero_or_pos len with h0 | h0
  ·subst h0
   exact .inl ⟨by simp,some x,cap,rfl,by omega,fun h=>by cases h⟩
  ·have hx:=h4 0 (by omega)
   have hx0:x.add 0=x:=by simp [Addr.add]
   rw [hx0] at hx
   have hp:=plain_of_cell hx
   generalize x.block=b at *
   generalize x.off=o at *
   subst hp
   refine .inr ⟨b,o,cap,by rw [List.length_map,hlen],by simp; omega,by omega,fun i hi=>?_⟩
   simp only [List.length_map] at hi
   rw [← addr_add,h4 i (by omega),map_getD K _ i hi]
   simp [List.getD,List.getElem?_take_of_lt (show i<len by omega)]
end Go.Proofs.YtihhhjodonkkcaaGreatDoor
namespace Go.Proofs.YtihhhjodonkkcaaGreatDoor.Scn
abbrev small (c:Int):Prop:=97≤c∧c≤122
def name (l:List Int):Bool:=decide (l.length=4∧65≤l.getD 0 0∧l.getD 0 0≤90∧small (l.getD 1 0)∧small (l.getD 2 0)∧small (l.getD 3 0))
end Go.Proofs.YtihhhjodonkkcaaGreatDoor.Scn
namespace Go.Proofs.YtihhhjodonkkcaaGreatDoor.Scn
end Go.Proofs.YtihhhjodonkkcaaGreatDoor.Scn
namespace Go.Proofs.YtihhhjodonkkcaaGreatDoor.Scn
end Go.Proofs.YtihhhjodonkkcaaGreatDoor.Scn
namespace Go.Proofs.YtihhhjodonkkcaaGreatDoor
open Go.RowKit
def Byt (zs:List Int):Prop:=∀ z∈zs,0≤z∧z≤255
theorem Byt.at {zs} (h:Byt zs) k:0≤zs.getD k 0∧zs.getD k 0≤255:=by
 rcases Nat.lt_or_ge k zs.length with hk | hk
 ·simp only [List.getD,List.getElem?_eq_getElem hk,Option.getD_some]; exact h _ (List.getElem_mem hk)
 ·grind
def nums (s:ByteArray):List Int:=s.data.toList.map fun b=>(b.toNat:Int)
theorem nums_length s:(nums s).length=s.size:=by
 rw [nums,List.length_map,Array.length_toList]; rfl
theorem nums_byt s:Byt (nums s):=by
 intro z hz
 obtain ⟨b,_,rfl⟩:=List.mem_map.1 hz
 have:=b.toNat_lt
 omega
theorem nums_at s k (hk:k<s.size):((s[k]'hk).toNat:Int)=(nums s).getD k 0:=by
 have h:k<s.data.size:=hk
 have e:(nums s)[k]?=some ((s.data[k]'h).toNat:Int):=by
  rw [nums,List.getElem?_map,Array.getElem?_toList,Array.getElem?_eq_getElem h]; rfl
 rw [List.getD,e]; rfl
theorem run_at s (i:Int) (k:Nat) (hi:i=k) (hk:k<s.size) w:(Instr.index 9 (.string s) (.int .i64 i)).run Tryz.prog w=.ok (.int .u8 ((nums s).getD k 0)) w:=by
 subst hi
 rw [run_index_string w 9 s .i64 (k:Int) Tryz.underlying9,dif_pos (by omega),← nums_at s k hk]
 simp
theorem get_num s k:(((s.get! k).toNat:Nat):Int)=(nums s).getD k 0:=by
 rcases Nat.lt_or_ge k s.size with h | h
 ·rw [← nums_at s k h]
  have e:s.get! k=s[k]'h:=by
   simp [ByteArray.get!,getElem!_pos,h]
   rfl
  rw [e]
 ·have h2:¬ k<s.data.size:=by have:s.size=s.data.size:=rfl; omega
  have e:s.get! k=default:=by
   simp only [ByteArray.get!]
   exact getElem!_neg s.data k h2
  rw [e,List.getD,List.getElem?_eq_none (by rw [nums_length]; exact h)]
  rfl
theorem dec_low s pos (h:pos<s.size) (ha:(nums s).getD pos 0<128):((Utf8.decode s pos).1:Int)=(nums s).getD pos 0∧(Utf8.decode s pos).2=1:=by
 have e:=nums_at s pos h
 rw [decode_ascii s pos h (by omega)]
 exact ⟨by omega,rfl⟩
theorem dec_high s pos (h:pos<s.size) (ha:128≤(nums s).getD pos 0) :
  128≤((Utf8.decode s pos).1:Int)∧1≤(Utf8.decode s pos).2∧pos+(Utf8.decode s pos).2≤s.size∧∀ j,pos≤j→j<pos+(Utf8.decode s pos).2→128≤(nums s).getD j 0:=by
 have e:=nums_at s pos h
 obtain ⟨h1,h2⟩:=decode_high s pos h (by omega)
 refine ⟨by omega,h2,?_⟩
 have g0:=get_num s pos
 have g1:=get_num s (pos+1)
 have g2:=get_num s (pos+2)
 have g3:=get_num s (pos+3)
 rw [Lib.decode_at]
 generalize (s.get! (pos+1)).toNat=b1 at *
 generalize (s.get! (pos+2)).toNat=b2 at *
 generalize (s.get! (pos+3)).toNat=b3 at *
 have key:∀ n,(n=1∨(n=2∧1<s.size - pos∧b1 / 64=2)∨(n=3∧2<s.size - pos∧b1 / 64=2∧b2 / 64=2)∨(n=4∧3<s.size - pos∧b1 / 64=2∧b2 / 64=2∧b3 / 64=2))→pos+n≤s.size∧∀ j,pos≤j→j<pos+n→128≤(nums s).getD j 0:=by
  intro n hn
  refine ⟨by omega,fun j j1 j2=>?_⟩
  obtain rfl | rfl | rfl | rfl:j=pos∨j=pos+1∨j=pos+2∨j=pos+3:=by omega
  ·exact ha
  ·omega
  ·omega
  ·omega
 apply key
 unfold Lib.decodeN
 repeat' split
 all_goals simp_all
theorem dec_top s pos:((Utf8.decode s pos).1:Int)≤2147483647:=by
 have:=decode_le s pos
 omega
namespace Scn
end Scn
end Go.Proofs.YtihhhjodonkkcaaGreatDoor
