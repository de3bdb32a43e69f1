/- Seq Str5 Scn Scp Scl Rng5 -/
import Derived.OrdersHeld
import Derived.WalkKit
import Derived.WalkSpells
import Derived.WalkLawsBesides
import Derived.OpenShut
import Derived.Laws.BytesArg
import Derived.Laws.AppendOwnNone
import Derived.Test.YtkglkajjofidoaaGreatDoorProg
import Derived.Lib.OthersKept
import Derived.Lib.DecodeN
namespace Go.Proofs.YtkglkajjofidoaaGreatDoor
open Go.Proofs.Tryz
open Go.RowKit
@[simp] abbrev Bw (w W:World):Prop:=Below w.heap.size w W
theorem b0r {n:Nat} {w:World}:Below n w w:=Below.refl n w
theorem d0f {p:Prop} [Decidable p] (h:¬p):decide p=false:=decide_eq_false h
theorem d0t {p:Prop} [Decidable p] (h:p):decide p=true:=decide_eq_true h
theorem o0d {p:Prop} [Decidable p] (h:decide p=true):p:=of_decide_eq_true h
theorem b0f {α:Type} [BEq α] [LawfulBEq α] {a b:α} (h:a≠b):(a==b)=false:=beq_eq_false_iff_ne.2 h
theorem l0r (n:Nat):n≤n:=Nat.le_refl n
theorem sa9 {α : Type} (l : List α) (i : Nat) (a : α) : l.toArray.setIfInBounds i a = (l.set i a).toArray := by simp
theorem sb9 {α : Type} (a b : α) (l : List α) : (a :: l).set 0 b = b :: l := rfl
theorem sc9 {α : Type} (a b : α) (l : List α) (n : Nat) : (a :: l).set (n + 1) b = a :: l.set n b := rfl
theorem tk9 {P : Program} {ab : Array Oper} {Q : Exit -> Act -> World -> Prop} {md : Region.Mode} {S : World -> Prop} (i : Nat) (v : Value) {oi : Oper} {ac : Nat} {aa : Array Bool} {a a' : Act} {w : World} (h : wpAnyH P md ab Q S ac (aa.setIfInBounds i true) a' w) (hi : ab.toList[i]? = some oi := by exact rfl) (hy : ∀ w, S w -> (execOp a.eval oi).run P w = .ok (.value v) w := by (intro w hSw; go_simp)) (ha : a.put oi.dst v = a' := by (try simp only [Act.put, sa9, sb9, sc9]); exact rfl) (hS : S w := by assumption) (hw : Region.wanted oi (yielded ab a.tmps) = true := by rfl) (hs : Region.noSelect ab = true := by kernel_rfl) (hf : Region.free md ab aa i = true := by kernel_rfl) (hr : (Region.ready md ab aa).contains i = true := by kernel_rfl) (hQ : ∀ c a w, Q (.panic c) (a.put oi.dst v) w -> Q (.panic c) a w := by exact fun _ _ _ h => h) : wpAnyH P md ab Q S (ac + 1) aa a w := wpAnyH_take (by rw [<- hi]; simp) hs hf hr hQ (Or.inl ⟨hw, hy⟩) hS (by rw [ha]; exact h)
theorem tn9 {P : Program} {ab : Array Oper} {Q : Exit -> Act -> World -> Prop} {md : Region.Mode} {S : World -> Prop} (i : Nat) {oi : Oper} {ac : Nat} {aa : Array Bool} {a a' : Act} {w : World} (h : wpAnyH P md ab Q S ac (aa.setIfInBounds i true) a' w) (hi : ab.toList[i]? = some oi := by exact rfl) (ha : a.put oi.dst undef = a' := by (try simp only [Act.put, sa9, sb9, sc9]); exact rfl) (hS : S w := by assumption) (hw : Region.wanted oi (yielded ab a.tmps) = false := by rfl) (hs : Region.noSelect ab = true := by kernel_rfl) (hf : Region.free md ab aa i = true := by kernel_rfl) (hr : (Region.ready md ab aa).contains i = true := by kernel_rfl) (hQ : ∀ c a w, Q (.panic c) (a.put oi.dst undef) w -> Q (.panic c) a w := by exact fun _ _ _ h => h) : wpAnyH P md ab Q S (ac + 1) aa a w := wpAnyH_take (by rw [<- hi]; simp) hs hf hr hQ (Or.inr ⟨hw, rfl⟩) hS (by rw [ha]; exact h)
open Go.RowKit
theorem O {p:Prop} (h:p):Hid p:=h
theorem V {p:Prop} (h:Hid p):p:=h
theorem x0b {a b c:World} (h:Bw a b) (k:Bw b c):Bw a c:=h.trans (k.mono h.size)
theorem x0a {w:World} {b o:Nat} {v:Value} (h:w.cell? ⟨b,o,none⟩=some v):b<w.heap.size:=World.block_lt_of_cell? w _ h
theorem addr_add (b off j:Nat):(⟨b,off,none⟩:Addr).add j=⟨b,off+j,none⟩:=by unfold Addr.add; split <;> simp_all
def Sv (w:World) (v:Value) (us:List Value):Prop :=
 us.length<=140737488355328 /\
  ((us=[]/\∃ ao cap,v=.slice ao 0 cap/\cap<=9223372036854775807/\(ao=none->cap=0)) \/
   ∃ b off cap,v=.slice (some ⟨b,off,none⟩) us.length cap/\us.length<=cap/\cap<=9223372036854775807/\∀ i,i<us.length->w.cell? ⟨b,off+i,none⟩=some (us.getD i undef))
theorem Sv.nil (w:World):Sv w (.slice none 0 0) []:=⟨by simp,.inl ⟨rfl,none,0,rfl,by omega,fun _=>rfl⟩⟩
theorem Sv.below {w w':World} {v:Value} {us:List Value} (h:Sv w v us) (hb:Bw w w'):Sv w' v us:=by
 obtain ⟨h2,h3⟩:=h;refine ⟨h2,?_⟩;rcases h3 with h3 | ⟨b,off,cap,hv,hl,hm,hc⟩
 ·exact .inl h3
 ·refine .inr ⟨b,off,cap,hv,hl,hm,fun i hi=>?_⟩;rw [hb.cell (x0a (hc i hi))];exact hc i hi
theorem Sv.shape {w:World} {v:Value} {us:List Value} (h:Sv w v us):∃ ao cap,v=.slice ao us.length cap/\us.length<=cap/\cap<=9223372036854775807:=by
 rcases h.2 with ⟨rfl,ao,cap,hv,hm,_⟩ | ⟨b,off,cap,hv,hl,hm,_⟩
 ·exact ⟨ao,cap,hv,by simp,hm⟩
 ·exact ⟨_,cap,hv,hl,hm⟩
theorem Sv.place {w:World} {v:Value} {us:List Value} (h:Sv w v us) (ai:0<us.length) :
  ∃ b off cap,v=.slice (some ⟨b,off,none⟩) us.length cap/\us.length<=cap/\cap<=9223372036854775807/\∀ i,i<us.length->w.cell? ⟨b,off+i,none⟩=some (us.getD i undef):=by
 rcases h.2 with ⟨rfl,_⟩ | h
 ·simp at ai
 ·exact h
theorem Sv.cut {w:World} {ao:Option Addr} {len cap l h m:Nat} {us:List Value} (hs:Sv w (.slice ao len cap) us) (h1:l<=h) (h2:h<=len) (h3:h<=m) (h4:m<=cap) :
  Sv w (sliced ao l h m 1) ((us.drop l).take (h - l)):=by
 obtain ⟨b2,b3⟩:=hs;rcases b3 with ⟨rfl,ao',cap',hv,hm,hnil⟩ | ⟨b,off,cap',hv,hl,hm,hc⟩
 ·simp only [Value.slice.injEq] at hv;obtain ⟨rfl,rfl,rfl⟩:=hv;refine ⟨by simp,.inl ⟨by simp,(if m=l then ao else ao.map (·.add (l * 1))),m - l,?_,by omega,fun hn=>?_⟩⟩
  ·have:h - l=0:=(by omega);simp only [sliced,this]
  ·split at hn
   ·omega
   ·have:=hnil (by simpa using hn);omega
 ·simp only [Value.slice.injEq] at hv;obtain ⟨rfl,rfl,rfl⟩:=hv;have af:((us.drop l).take (h - l)).length=h - l:=(by simp; omega);refine ⟨by omega,?_⟩;by_cases he:h=l
  ·refine .inl ⟨by rw [he]; simp,(if m=l then some ⟨b,off,none⟩ else (some ⟨b,off,none⟩:Option Addr).map (·.add (l * 1))),m - l,?_,by omega,fun hn=>?_⟩
   ·have:h - l=0:=(by omega);simp only [sliced,this]
   ·split at hn <;> simp at hn
  ·refine .inr ⟨b,off+l,m - l,?_,by omega,by omega,fun i hi=>?_⟩
   ·rw [af];have:¬ m=l:=(by omega);simp only [sliced,this,if_false,Option.map_some,Nat.mul_one,addr_add]
   ·rw [Nat.add_assoc,hc (l+i) (by omega)];simp [List.getD,List.getElem?_take_of_lt (show i<h - l by omega),List.getElem?_drop]
theorem Sv.head {w:World} {ao:Option Addr} {len cap k:Nat} {us:List Value} (hs:Sv w (.slice ao len cap) us) (hk:k<=len) (hl:len<=cap):Sv w (.slice ao k cap) (us.take k):=by
 have h:=hs.cut (l:=0) (h:=k) (m:=cap) (by omega) (by omega) (by omega) (by omega)
 have e:sliced ao 0 k cap 1=.slice ao k cap:=by
  unfold sliced;congr 1;split
  ·rfl
  ·cases ao <;> simp [Addr.add]
 rw [e] at h;simpa using h
theorem Sv.src {w:World} {v:Value} {us:List Value} (h:Sv w v us):(us=[]/\v=.slice none 0 0) \/
  ∃ ad cap,v=.slice (some ad) us.length cap/\∀ j u,us[j]?=some u->w.cell? (ad.add j)=some u:=by
 rcases h.2 with ⟨rfl,ao,cap,rfl,_,hnil⟩ | ⟨b,off,cap,rfl,hl,hm,hc⟩
 ·cases ao with
  | none=>exact .inl ⟨rfl,by rw [hnil rfl]⟩
  | some ad=>exact .inr ⟨ad,cap,rfl,fun j u hj=>by simp at hj⟩
 ·refine .inr ⟨_,cap,rfl,fun j u hj=>?_⟩;have aj:=(List.getElem?_eq_some_iff.1 hj).1;rw [addr_add,hc j aj];simp [List.getD,hj]
def Fit (K:IntKind) (zs:List Int):Prop:=∀ z∈zs,K.min<=z/\z<=K.max
theorem Fit.nil (K:IntKind):Fit K []:=by intro z h; cases h
theorem Fit.snoc {K:IntKind} {zs:List Int} (h:Fit K zs) {c:Int} (h0:K.min<=c/\c<=K.max):Fit K (zs++[c]):=by
 intro z hz;rcases List.mem_append.1 hz with hz | hz
 ·exact h z hz
 ·simp at hz; subst hz; exact h0
theorem Fit.app {K:IntKind} {zs ys:List Int} (h:Fit K zs) (k:Fit K ys):Fit K (zs++ys):=by
 intro z hz;rcases List.mem_append.1 hz with hz | hz
 ·exact h z hz
 ·exact k z hz
theorem Fit.take {K:IntKind} {zs:List Int} (h:Fit K zs) (n:Nat):Fit K (zs.take n):=fun z hz=>h z (List.mem_of_mem_take hz)
theorem Fit.at {K:IntKind} {zs:List Int} (h:Fit K zs) (i:Nat) (hK:K.min<=0/\0<=K.max):K.min<=zs.getD i 0/\zs.getD i 0<=K.max:=by
 rcases Nat.lt_or_ge i zs.length with hi | hi
 ·simp only [List.getD,List.getElem?_eq_getElem hi,Option.getD_some]; exact h _ (List.getElem_mem hi)
 ·simpa [List.getD,List.getElem?_eq_none hi] using hK
theorem y9z {z:Int} (h:IntKind.i32.min<=z/\z<=IntKind.i32.max):-2147483648<=z/\z<=2147483647:=by
 simpa [IntKind.min,IntKind.max,IntKind.signed,IntKind.bits] using h
theorem x1X {z:Int} (h:-2147483648<=z/\z<=2147483647):IntKind.i32.min<=z/\z<=IntKind.i32.max:=by
 simpa [IntKind.min,IntKind.max,IntKind.signed,IntKind.bits] using h
theorem Fit.i32at {zs:List Int} (h:Fit .i32 zs) (i:Nat):-2147483648<=zs.getD i 0/\zs.getD i 0<=2147483647:=y9z (h.at i (x1X (by omega)))
def Sk (K:IntKind) (w:World) (v:Value) (zs:List Int):Prop:=Fit K zs/\Sv w v (zs.map (Value.int K))
theorem Sk.len {K:IntKind} {w:World} {v:Value} {zs:List Int} (h:Sk K w v zs):zs.length<=140737488355328:=by simpa using h.2.1
theorem Sk.nil (K:IntKind) (w:World):Sk K w (.slice none 0 0) []:=⟨Fit.nil K,Sv.nil w⟩
theorem Sk.below {K:IntKind} {w w':World} {v:Value} {zs:List Int} (h:Sk K w v zs) (hb:Bw w w'):Sk K w' v zs:=⟨h.1,h.2.below hb⟩
theorem Sk.shape {K:IntKind} {w:World} {v:Value} {zs:List Int} (h:Sk K w v zs):∃ ao cap,v=.slice ao zs.length cap/\zs.length<=cap/\cap<=9223372036854775807:=by simpa using h.2.shape
theorem x6S (K:IntKind) (zs:List Int) (i:Nat) (hi:i<zs.length):(zs.map (Value.int K)).getD i undef=.int K (zs.getD i 0):=by simp [List.getD,hi]
theorem Sk.place {K:IntKind} {w:World} {v:Value} {zs:List Int} (h:Sk K w v zs) (ai:0<zs.length) :
  ∃ b off cap,v=.slice (some ⟨b,off,none⟩) zs.length cap/\zs.length<=cap/\cap<=9223372036854775807/\∀ i,i<zs.length->w.cell? ⟨b,off+i,none⟩=some (.int K (zs.getD i 0)):=by
 obtain ⟨b,off,cap,h1,h2,h3,h4⟩:=h.2.place (by simpa using ai);simp only [List.length_map] at h1 h2 h4;exact ⟨b,off,cap,h1,h2,h3,fun i hi=>by rw [h4 i hi,x6S K zs i hi]⟩
theorem Sk.head {K:IntKind} {w:World} {ao:Option Addr} {len cap k:Nat} {zs:List Int} (hs:Sk K w (.slice ao len cap) zs) (hk:k<=len) (hl:len<=cap):Sk K w (.slice ao k cap) (zs.take k) :=
 ⟨hs.1.take k,by simpa using hs.2.head hk hl⟩
theorem x4q (K:IntKind) (zs:List Int):∀ u∈zs.map (Value.int K),u.oneCell'=true:=by
 intro u hu;obtain ⟨z,_,rfl⟩:=List.mem_map.1 hu;rfl
theorem x2O (K:IntKind) (c:Int):∀ u∈[Value.int K c],u.oneCell'=true:=by intro u hu; simp at hu; subst hu; rfl
def Ow (e:TypeId) (w:World) (B:Nat) (v:Value) (us:List Value):Prop:=us.length<=140737488355328/\w.ownsRow B e 1 v us.length us
theorem Ow.nil (e:TypeId) (w:World) (B:Nat):Ow e w B (.slice none 0 0) []:=⟨by simp,World.ownsRow_nil _ _ _ _⟩
theorem Ow.sv {e:TypeId} {w:World} {B:Nat} {v:Value} {us:List Value} (h:Ow e w B v us):Sv w v us:=by
 obtain ⟨h2,h3⟩:=h;have h3':=h3;obtain ⟨_,ah⟩:=h3;refine ⟨h2,?_⟩;rcases ah with ⟨rfl,h0⟩ | ⟨g,cap,cur,hv,hg,hh,hn,hcap,hsz,htake⟩
 ·exact .inl ⟨List.eq_nil_of_length_eq_zero h0,none,0,rfl,by omega,fun _=>rfl⟩
 ·refine .inr ⟨g,0,cap,hv,hn,by unfold maxLen at hcap; omega,fun i hi=>?_⟩;subst hv;have:=h3'.cellAt i (by omega);rw [Nat.zero_add,this];simp [List.getD,hi]
theorem Ow.below {e:TypeId} {w w':World} {B:Nat} {v:Value} {us:List Value} (h:Ow e w B v us) (hb:Bw w w'):Ow e w' B v us:=by
 refine ⟨h.1,h.2.kept (row:=none) ⟨hb.os,hb.tape,hb.output,hb.size,fun k hk _=>hb.block k hk⟩ ?_⟩
 cases h':v.ownBlock with
 | none=>exact .inl rfl
 | some k=>exact .inr (by simp)
theorem Ow.lower {e:TypeId} {w:World} {B B':Nat} {v:Value} {us:List Value} (h:Ow e w B v us) (hB:B'<=B):Ow e w B' v us:=by
 refine ⟨h.1,h.2.1,?_⟩;rcases h.2.2 with h2 | ⟨g,cap,cur,hv,hg,r⟩
 ·exact .inl h2
 ·exact .inr ⟨g,cap,cur,hv,by omega,r⟩
def Ok (K:IntKind) (e:TypeId) (w:World) (B:Nat) (v:Value) (zs:List Int):Prop:=Fit K zs/\Ow e w B v (zs.map (Value.int K))
theorem Ok.sk {K:IntKind} {e:TypeId} {w:World} {B:Nat} {v:Value} {zs:List Int} (h:Ok K e w B v zs):Sk K w v zs:=⟨h.1,h.2.sv⟩
theorem Ok.below {K:IntKind} {e:TypeId} {w w':World} {B:Nat} {v:Value} {zs:List Int} (h:Ok K e w B v zs) (hb:Bw w w'):Ok K e w' B v zs:=⟨h.1,h.2.below hb⟩
theorem Ok.lower {K:IntKind} {e:TypeId} {w:World} {B B':Nat} {v:Value} {zs:List Int} (h:Ok K e w B v zs) (hB:B'<=B):Ok K e w B' v zs:=⟨h.1,h.2.lower hB⟩
theorem Ok.nil (K:IntKind) (e:TypeId) (w:World) (B:Nat):Ok K e w B (.slice none 0 0) []:=⟨Fit.nil K,Ow.nil e w B⟩
theorem Ok.row {K:IntKind} {e:TypeId} {w:World} {B:Nat} {v:Value} {zs:List Int} (h:Ok K e w B v zs):w.ownsRow B e 1 v zs.length (zs.map (Value.int K)):=by simpa using h.2.2
theorem Ok.of {K:IntKind} {e:TypeId} {w:World} {B n:Nat} {v:Value} {zs:List Int} {us:List Value} (hf:Fit K zs) (hl:zs.length<=140737488355328) (h:w.ownsRow B e 1 v n us) (hn:n=zs.length) (hu:us=zs.map (Value.int K)):Ok K e w B v zs:=by
 subst hu; subst hn;exact ⟨hf,by simpa using hl,by simpa using h⟩
theorem x7u {e:TypeId} {w wr w1:World} {v:Value} {us:List Value} {n:Nat} {o:Obj} {B:Nat} (hB:B<=wr.heap.size) (ag:wr.ownsRow B e 1 v n us)
  (ae:Below B w wr) (hg:(wr.alloc o).grownBy w1 v.ownBlock):Below B w w1 :=
 (ae.alloc hB o).grown hg (by simp; omega) (fun k hk=>(ag.lt k hk).1)
theorem x6v {e:TypeId} {w wr w1:World} {v:Value} {us:List Value} {n:Nat} {B:Nat} (hB:B<=wr.heap.size) (ag:wr.ownsRow B e 1 v n us)
  (ae:Below B w wr) (hg:wr.grownBy w1 v.ownBlock):Below B w w1 :=
 ae.grown hg hB (fun k hk=>(ag.lt k hk).1)
theorem x8j {e:TypeId} {w:World} {B n:Nat} {v:Value} {us:List Value} (h:w.ownsRow B e 1 v n us) (hn:0<n):∃ g cap,v=.slice (some ⟨g,0,none⟩) n cap/\n<=cap/\cap<=9223372036854775807:=by
 rcases h.2 with ⟨_,h0⟩ | ⟨g,cap,cur,hv,hg,hh,hn',hcap,hsz,htake⟩
 ·omega
 ·exact ⟨g,cap,hv,hn',by unfold maxLen at hcap; omega⟩
theorem plain_of_cell {w:World} {x:Addr} {v:Value} (h:w.cell? x=some v):x=⟨x.block,x.off,none⟩:=by
 obtain ⟨b,o,s⟩:=x
 cases s with
 | none=>rfl
 | some s =>
  unfold World.cell? at h;split at h <;> simp at h
theorem y3L {K:IntKind} {zs:List Int} (h:∀ n∈zs,(Lit.int K n).wf=true):Fit K zs:=by
 intro z hz;have:=h z hz;simpa [Lit.wf] using this
theorem y5p {K:IntKind} {w:World} {a:Option Addr} {len cap:Nat} {zs:List Int} (h:(a=none/\len=0/\cap=0/\zs=[]) \/
  ∃ x,a=some x/\len<=cap/\cap<=maxLen/\zs.length=cap/\(∀ i,i<zs.length->w.cell? (x.add i)=some (.int K (zs.getD i 0)))/\∀ n∈zs,(Lit.int K n).wf=true) (hl:len<=140737488351232) :
  Sk K w (.slice a len cap) (zs.take len):=by
 rcases h with ⟨rfl,rfl,rfl,rfl⟩ | ⟨x,rfl,h1,h2,h3,h4,h5⟩
 ·exact Sk.nil K w
 ·unfold maxLen at h2;have hb:Fit K (zs.take len):=(y3L h5).take len;have af:(zs.take len).length=len:=(by simp; omega);refine ⟨hb,by simp; omega,?_⟩;rcases Nat.eq_zero_or_pos len with h0 | h0
  ·subst h0;exact .inl ⟨by simp,some x,cap,rfl,by omega,fun h=>by cases h⟩
  ·have hx:=h4 0 (by omega);have hx0:x.add 0=x:=(by simp [Addr.add]);rw [hx0] at hx;have hp:=plain_of_cell hx;generalize x.block=b at *;generalize x.off=o at *;subst hp;refine .inr ⟨b,o,cap,by rw [List.length_map,af],by simp; omega,by omega,fun i hi=>?_⟩;simp only [List.length_map] at hi;rw [<- addr_add,h4 i (by omega),x6S K _ i hi];simp [List.getD,List.getElem?_take_of_lt (show i<len by omega)]
def Byt (zs:List Int):Prop:=∀ z∈zs,0<=z/\z<=255
theorem Byt.at {zs:List Int} (h:Byt zs) (k:Nat):0<=zs.getD k 0/\zs.getD k 0<=255:=by
 rcases Nat.lt_or_ge k zs.length with hk | hk
 ·simp only [List.getD,List.getElem?_eq_getElem hk,Option.getD_some]; exact h _ (List.getElem_mem hk)
 ·simp [List.getD,List.getElem?_eq_none hk]
def nums (s:ByteArray):List Int:=s.data.toList.map fun b=>(b.toNat:Int)
theorem nums_length (s:ByteArray):(nums s).length=s.size:=by
 rw [nums,List.length_map,Array.length_toList]; rfl
theorem x7a (s:ByteArray):Byt (nums s):=by
 intro z hz;obtain ⟨b,_,rfl⟩:=List.mem_map.1 hz;have:=b.toNat_lt;omega
theorem x6Z (s:ByteArray) (k:Nat) (hk:k<s.size):((s[k]'hk).toNat:Int)=(nums s).getD k 0:=by
 have h:k<s.data.size:=hk
 have e:(nums s)[k]?=some ((s.data[k]'h).toNat:Int):=by
  rw [nums,List.getElem?_map,Array.getElem?_toList,Array.getElem?_eq_getElem h]; rfl
 rw [List.getD,e]; rfl
theorem y8A (s:ByteArray) (i:Int) (k:Nat) (hi:i=k) (hk:k<s.size) (w:World):(Instr.index 9 (.string s) (.int .i64 i)).run prog w=.ok (.int .u8 ((nums s).getD k 0)) w:=by
 subst hi;rw [run_index_string w 9 s .i64 (k:Int) underlying9,dif_pos (by omega),<- x6Z s k hk];simp
end Go.Proofs.YtkglkajjofidoaaGreatDoor
namespace Go.Proofs.YtkglkajjofidoaaGreatDoor.Scn
open Go.Proofs.Tryz
abbrev small (c:Int):Prop:=97<=c/\c<=122
def name (l:List Int):Bool:=decide (l.length=4/\65<=l.getD 0 0/\l.getD 0 0<=90/\small (l.getD 1 0)/\small (l.getD 2 0)/\small (l.getD 3 0))
end Go.Proofs.YtkglkajjofidoaaGreatDoor.Scn
namespace Go.Proofs.YtkglkajjofidoaaGreatDoor.Scn
open Go.Proofs.Tryz
end Go.Proofs.YtkglkajjofidoaaGreatDoor.Scn
namespace Go.Proofs.YtkglkajjofidoaaGreatDoor.Scn
open Go.Proofs.Tryz
end Go.Proofs.YtkglkajjofidoaaGreatDoor.Scn
namespace Go.Proofs.YtkglkajjofidoaaGreatDoor
open Go.Proofs.Tryz
open Go.RowKit
theorem x6G (s:ByteArray) (k:Nat):(((s.get! k).toNat:Nat):Int)=(nums s).getD k 0:=by
 rcases Nat.lt_or_ge k s.size with h | h
 ·rw [<- x6Z s k h]
  have e:s.get! k=s[k]'h:=by
   simp [ByteArray.get!,getElem!_pos,h];rfl
  rw [e]
 ·have h2:¬ k<s.data.size:=by have:s.size=s.data.size:=rfl; omega
  have e:s.get! k=default:=by
   simp only [ByteArray.get!];exact getElem!_neg s.data k h2
  rw [e,List.getD,List.getElem?_eq_none (by rw [nums_length]; exact h)];rfl
theorem y3w (s:ByteArray) (pos:Nat) (h:pos<s.size) (ha:(nums s).getD pos 0<128):((Utf8.decode s pos).1:Int)=(nums s).getD pos 0/\(Utf8.decode s pos).2=1:=by
 have e:=x6Z s pos h;rw [decode_ascii s pos h (by omega)];exact ⟨by omega,rfl⟩
theorem y6t (s:ByteArray) (pos:Nat) (h:pos<s.size) (ha:128<=(nums s).getD pos 0) :
  128<=((Utf8.decode s pos).1:Int)/\1<=(Utf8.decode s pos).2/\pos+(Utf8.decode s pos).2<=s.size/\∀ j,pos<=j->j<pos+(Utf8.decode s pos).2->128<=(nums s).getD j 0:=by
 have e:=x6Z s pos h;obtain ⟨h1,h2⟩:=decode_high s pos h (by omega);refine ⟨by omega,h2,?_⟩;have g0:=x6G s pos;have g1:=x6G s (pos+1);have g2:=x6G s (pos+2);have g3:=x6G s (pos+3);rw [Lib.decode_at];generalize (s.get! pos).toNat=b0 at *;generalize (s.get! (pos+1)).toNat=b1 at *;generalize (s.get! (pos+2)).toNat=b2 at *;generalize (s.get! (pos+3)).toNat=b3 at *
 have ak:∀ n,(n=1\/(n=2/\1<s.size - pos/\b1 / 64=2)\/(n=3/\2<s.size - pos/\b1 / 64=2/\b2 / 64=2)\/(n=4/\3<s.size - pos/\b1 / 64=2/\b2 / 64=2/\b3 / 64=2))->pos+n<=s.size/\∀ j,pos<=j->j<pos+n->128<=(nums s).getD j 0:=by
  intro n hn;refine ⟨by omega,fun j j1 j2=>?_⟩;obtain rfl | rfl | rfl | rfl:j=pos\/j=pos+1\/j=pos+2\/j=pos+3:=by omega
  ·exact ha
  ·omega
  ·omega
  ·omega
 apply ak;unfold Lib.decodeN
 repeat' split
 all_goals simp_all
theorem y9o (s:ByteArray) (pos:Nat):((Utf8.decode s pos).1:Int)<=2147483647:=by
 have:=decode_le s pos;omega
namespace Scn
end Scn
