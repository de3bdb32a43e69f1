/- Lemmas. -/
import Derived.OrdersHeld
import Derived.WalkKit
import Derived.WalkSpells
import Derived.WalkLawsBesides
import Derived.OpenShut
import Derived.Laws.BytesArg
import Derived.Laws.AppendOwnNone
import Derived.Test.YtkfcabdmkmljjaaGreatDoorProg
import Derived.Lib.OthersKept
import Derived.Lib.DecodeN
namespace Go.Proofs.YtkfcabdmkmljjaaGreatDoor
open Go.Proofs.Tryz
open Go.RowKit
section
variable{p:Prop}
theorem f6J(h:p:=by omega):p:=h
theorem f4x(h:p:=by kernel_rfl):p:=h
theorem e8M(h:p:=by decide):p:=h
theorem M7K(h:p:=by simp):p:=h
theorem f0h(h:p:=by simp_all):p:=h
theorem n7A(h:p:=by simp[List.getD,hi]):p:=h
theorem w3y(h:p:=by simpa using hi):p:=h
theorem p3f(h:p:=by simpa[IntKind.min,IntKind.max,IntKind.signed,IntKind.bits]using h):p:=h
theorem n1Z(h:p:=by
 rcases J with J | ⟨b,P,M,N,S,o,I⟩
 ·exact .inl J
 ·refine .inr ⟨b,P,M,N,S,o,fun i hi=>?_⟩;rw[Y.cell (x0a (I i hi))];exact I i hi):p:=h
theorem I8A(h:p:=by simp[Region.wanted,T]):p:=h
theorem e4m(h:p:=by simp only[List.getD,List.getElem?_eq_getElem hi,Option.getD_some];exact h _ (List.getElem_mem hi)):p:=h
theorem S8d(h:p:=by simp[List.getD,X]):p:=h
theorem w7O(h:p:=by simp[Lit.wf,IntKind.min,IntKind.max,IntKind.signed,IntKind.bits];omega):p:=h
theorem F3e(h:p:=by intro z T;obtain⟨b,_,rfl⟩:=List.mem_map.1 T;have:=b.toNat_lt;omega):p:=h
theorem E1n(h:p:=by subst h;exact⟨rfl,Y⟩):p:=h
theorem e8m(h:p:=by intro u W;simp at W;subst W;rfl):p:=h
theorem f1X(h:p:=by split<;>simp):p:=h
theorem P8P(h:p:=by simp;exact f6J):p:=h
theorem f4y(h:p:=by kernel_rfl):p:=h
theorem e8N(h:p:=by decide):p:=h
theorem T7W(h:p:=by unfold maxLen;exact f6J):p:=h
theorem g7T(h:p:=by simp[intOf];omega):p:=h
theorem M7L(h:p:=by simp):p:=h
theorem g9T(h:p:=by exact⟨rfl,rfl⟩):p:=h
theorem V3H(h:p:=by unfold maxLen at G;exact f6J):p:=h
theorem m5j(h:p:=by cases h):p:=h
theorem w3z(h:p:=by simpa using hi):p:=h
theorem S4r(h:p:=by simpa using h):p:=h
theorem W0k(h:p:=by
 cases h':v.ownBlock with
 | none=>exact U3y
 | some k=>exact .inr M7K):p:=h
theorem E9n(h:p:=by simpa using G):p:=h
theorem f4R(h:p:=by simp;omega):p:=h
theorem w2I(h:p:=by exact⟨ao,cap,N,M7K,o⟩):p:=h
theorem T7X(h:p:=by unfold maxLen;exact f6J):p:=h
theorem M7M(h:p:=by simp):p:=h
theorem m4z(h:p:=by have:0<prog.types.size:=o0d f4y;exact f6J):p:=h
theorem t2Y(h:p:=by simpa using S):p:=h
theorem N5i(h:p:=by simpa using e):p:=h
theorem r6l(h:p:=by exact⟨_,cap,N,S,o⟩):p:=h
theorem g7W(h:p:=by simp[intOf];omega):p:=h
theorem n7C(h:p:=by simp[List.getD,hi]):p:=h
theorem w4F(h:p:=by have:h-l=0:=f6J;simp only[sliced,this]):p:=h
theorem m5l(h:p:=by cases h):p:=h
theorem I8T(h:p:=by simpa using J):p:=h
theorem U5P(h:p:=by rw[N];rfl):p:=h
theorem n5N(h:p:=by rw[e]):p:=h
theorem w3A(h:p:=by simpa using hi):p:=h
theorem s4M(h:p:=by rw[List.drop_zero]):p:=h
theorem R6O(h:p:=by rw[List.drop_zero];rfl):p:=h
theorem f9w(h:p:=by simp[A]):p:=h
theorem P8U(h:p:=by simp;exact f6J):p:=h
theorem M9h(h:p:=by intro w;go_simp):p:=h
theorem v5E(h:p:=by simp at hi):p:=h
theorem M7N(h:p:=by simp):p:=h
theorem U3y(h:p:=by exact .inl rfl):p:=h
end
@[simp] abbrev Bw (w W:World):Prop:=Below w.heap.size w W
theorem b0r{n:Nat}{w:World}:Below n w w:=Below.refl n w
theorem d0f{p:Prop}[Decidable p](h:¬p):decide p=false:=decide_eq_false h
theorem d0t{p:Prop}[Decidable p](h:p):decide p=true:=decide_eq_true h
theorem o0d{p:Prop}[Decidable p](h:decide p=true):p:=of_decide_eq_true h
theorem b0f{α:Type}[BEq α][LawfulBEq α]{a b:α}(h:a≠b):(a==b)=false:=beq_eq_false_iff_ne.2 h
theorem l0r(n:Nat):n≤n:=Nat.le_refl n
theorem c1m{P f a w}{r:Ending}{Q:World→Prop}{R}(h:Calls P f a w fun e W=>e=r∧Q W)(k:∀W,Q W→R r W):Calls P f a w R:=h.mono fun _ W h=>h.1▸k W h.2
theorem c0m{P f a w}{r:Ending}{Q:World→Prop}{R}(h:Hid (Calls P f a w fun e W=>e=r∧Q W))(k:∀W,Q W→R r W):Calls P f a w R:=c1m h k
theorem sa9{α : Type}(l : List α)(i : Nat)(a : α) : l.toArray.setIfInBounds i a = (l.set i a).toArray := M7K
theorem sb9{α : Type}(a b : α)(l : List α) : (a::l).set 0 b = b::l := rfl
theorem sc9{α : Type}(a b : α)(l : List α)(n : Nat) : (a::l).set (n + 1) b = a::l.set n b := rfl
theorem tk9{P : Program}{A : Array Oper}{Q : Exit -> Act -> World -> Prop}{D : Region.Mode}{S : World -> Prop}(i : Nat)(v : Value){oi : Oper}{B : Nat}{listed : Array Bool}{a M : Act}{w : World}(h : wpAnyH P D A Q S B (listed.setIfInBounds i true) M w)(hi : A.toList[i]? = some oi := by exact rfl)(hy : ∀w, S w -> (execOp a.eval oi).run P w = .ok (.value v) w := by(intro w hSw;go_simp))(g : a.put oi.dst v = M := by(try simp only[Act.put, sa9, sb9, sc9]);exact rfl)(K : S w := by assumption)(m : Region.wanted oi (yielded A a.tmps) = true := by rfl)(L : Region.noSelect A = true := by kernel_rfl)(z : Region.free D A listed i = true := by kernel_rfl)(hr : (Region.ready D A listed).contains i = true := by kernel_rfl)(p : ∀c a w, Q (.panic c) (a.put oi.dst v) w -> Q (.panic c) a w := by exact fun _ _ _ h => h) : wpAnyH P D A Q S (B + 1) listed a w := wpAnyH_take (by rw[<- hi];exact M7K) L z hr p (Or.inl ⟨m, hy⟩) K (by rw[g];exact h)
theorem tn9{P : Program}{A : Array Oper}{Q : Exit -> Act -> World -> Prop}{D : Region.Mode}{S : World -> Prop}(i : Nat){oi : Oper}{B : Nat}{listed : Array Bool}{a M : Act}{w : World}(h : wpAnyH P D A Q S B (listed.setIfInBounds i true) M w)(hi : A.toList[i]? = some oi := by exact rfl)(g : a.put oi.dst undef = M := by(try simp only[Act.put, sa9, sb9, sc9]);exact rfl)(K : S w := by assumption)(m : Region.wanted oi (yielded A a.tmps) = false := by rfl)(L : Region.noSelect A = true := by kernel_rfl)(z : Region.free D A listed i = true := by kernel_rfl)(hr : (Region.ready D A listed).contains i = true := by kernel_rfl)(p : ∀c a w, Q (.panic c) (a.put oi.dst undef) w -> Q (.panic c) a w := by exact fun _ _ _ h => h) : wpAnyH P D A Q S (B + 1) listed a w := wpAnyH_take (by rw[<- hi];exact M7K) L z hr p (Or.inr ⟨m, rfl⟩) K (by rw[g];exact h)
open Go.RowKit
theorem O{p:Prop}(h:p):Hid p:=h
theorem V{p:Prop}(h:Hid p):p:=h
theorem bthen{a b c}(h:Bw a b)(k:Bw b c):Bw a c:=h.trans (k.mono h.size)
theorem x0a{w:World}{b o v}(h:w.cell? ⟨b,o,none⟩=some v):b<w.heap.size:=World.block_lt_of_cell? w _ h
theorem addr_add b off j:(⟨b,off,none⟩:Addr).add j=⟨b,off+j,none⟩:=by unfold Addr.add;split<;>simp_all
def Sv(w:World)(v:Value)(us:List Value):Prop :=
 us.length<=140737488355328 /\
  ((us=[]/\∃ao cap,v=.slice ao 0 cap/\cap<=9223372036854775807/\(ao=none->cap=0)) \/
   ∃b off cap,v=.slice (some ⟨b,off,none⟩) us.length cap/\us.length<=cap/\cap<=9223372036854775807/\∀i,i<us.length->w.cell? ⟨b,off+i,none⟩=some (us.getD i undef))
theorem Sv.nil w:Sv w (.slice none 0 0) []:=⟨M7L,.inl ⟨rfl,none,0,rfl,f6J,fun _=>rfl⟩⟩
theorem Sv.below{w w' v us}(h:Sv w v us)(Y:Bw w w'):Sv w' v us:=by
 obtain⟨D,J⟩:=h;refine⟨D,?_⟩;exact n1Z
theorem Sv.shape{w v us}(h:Sv w v us):∃ao cap,v=.slice ao us.length cap/\us.length<=cap/\cap<=9223372036854775807:=by
 rcases h.2 with⟨rfl,ao,cap,N,o,_⟩ | ⟨b,P,cap,N,S,o,_⟩
 ·exact w2I
 ·exact r6l
theorem Sv.place{w v us}(h:Sv w v us)(t:0<us.length) :
  ∃b off cap,v=.slice (some ⟨b,off,none⟩) us.length cap/\us.length<=cap/\cap<=9223372036854775807/\∀i,i<us.length->w.cell? ⟨b,off+i,none⟩=some (us.getD i undef):=by
 rcases h.2 with⟨rfl,_⟩ | h
 ·simp at t
 ·exact h
theorem Sv.cut{w ao len cap l h m us}(L:Sv w (.slice ao len cap) us)(Z:l<=h)(D:h<=len)(J:h<=m)(H:m<=cap) :
  Sv w (sliced ao l h m 1) ((us.drop l).take (h-l)):=by
 obtain⟨u,z⟩:=L;rcases z with⟨rfl,Q,A,N,o,a⟩ | ⟨b,P,A,N,S,o,I⟩
 ·simp only[Value.slice.injEq]at N;obtain⟨rfl,rfl,rfl⟩:=N;refine⟨M7M,.inl ⟨M7M,(if m=l then ao else ao.map (·.add (l*1))),m-l,?_,f6J,fun F=>?_⟩⟩
  ·exact w4F
  ·split at F
   ·omega
   ·simp_all
 ·simp only[Value.slice.injEq]at N;obtain⟨rfl,rfl,rfl⟩:=N;have d:((us.drop l).take (h-l)).length=h-l:=P8P;refine⟨f6J,?_⟩;by_cases q:h=l
  ·refine .inl ⟨by rw[q];exact M7M,(if m=l then some ⟨b,P,none⟩else(some ⟨b,P,none⟩:Option Addr).map (·.add (l*1))),m-l,?_,f6J,fun F=>?_⟩
   ·exact w4F
   ·split at F<;>simp at F
  ·refine .inr ⟨b,P+l,m-l,?_,f6J,f6J,fun i hi=>?_⟩
   ·rw[d];have:¬m=l:=f6J;simp only[sliced,this,if_false,Option.map_some,Nat.mul_one,addr_add]
   ·grind
theorem Sv.head{w ao len cap k us}(L:Sv w (.slice ao len cap) us)(G:k<=len)(S:len<=cap):Sv w (.slice ao k cap) (us.take k):=by
 have h:=L.cut (l:=0) (h:=k) (m:=cap) f6J f6J f6J f6J
 have e:sliced ao 0 k cap 1=.slice ao k cap:=by
  unfold sliced;congr 1;split
  ·rfl
  ·cases ao<;>simp[Addr.add]
 rw[e]at h;exact S4r
theorem Sv.src{w v us}(h:Sv w v us):(us=[]/\v=.slice none 0 0) \/
  ∃C cap,v=.slice (some C) us.length cap/\∀j u,us[j]?=some u->w.cell? (C.add j)=some u:=by
 rcases h.2 with⟨rfl,B,cap,rfl,_,a⟩ | ⟨b,P,cap,rfl,S,o,I⟩
 ·cases B with
  | none=>grind
  | some C=>grind
 ·refine .inr ⟨_,cap,rfl,fun j u X=>?_⟩;have m:=(List.getElem?_eq_some_iff.1 X).1;rw[addr_add,I j m];exact S8d
def Fit(K:IntKind)(zs:List Int):Prop:=∀z∈zs,K.min<=z/\z<=K.max
theorem Fit.nil K:Fit K []:=by intro z h;exact m5j
theorem Fit.snoc{K zs}(h:Fit K zs){c}(R:K.min<=c/\c<=K.max):Fit K (zs++[c]):=by
 intro z hz;rcases List.mem_append.1 hz with hz | hz
 ·exact h z hz
 ·simp at hz;subst hz;exact R
theorem Fit.app{K zs ys}(h:Fit K zs)(k:Fit K ys):Fit K (zs++ys):=by
 intro z hz;rcases List.mem_append.1 hz with hz | hz
 ·exact h z hz
 ·exact k z hz
theorem Fit.take{K zs}(h:Fit K zs) n:Fit K (zs.take n):=fun z T=>h z (List.mem_of_mem_take T)
theorem Fit.drop{K zs}(h:Fit K zs) n:Fit K (zs.drop n):=fun z T=>h z (List.mem_of_mem_drop T)
theorem Fit.at{K zs}(h:Fit K zs) i(hK:K.min<=0/\0<=K.max):K.min<=zs.getD i 0/\zs.getD i 0<=K.max:=by
 rcases Nat.lt_or_ge i zs.length with hi | hi
 ·exact e4m
 ·grind
theorem z6J{z}(h:IntKind.i32.min<=z/\z<=IntKind.i32.max):-2147483648<=z/\z<=2147483647:=p3f
theorem x1j{z}(h:-2147483648<=z/\z<=2147483647):IntKind.i32.min<=z/\z<=IntKind.i32.max:=p3f
theorem z9B{z}(h:IntKind.u8.min<=z/\z<=IntKind.u8.max):0<=z/\z<=255:=p3f
theorem x8Q{z}(h:0<=z/\z<=255):IntKind.u8.min<=z/\z<=IntKind.u8.max:=p3f
theorem Fit.i32at{zs}(h:Fit .i32 zs) i:-2147483648<=zs.getD i 0/\zs.getD i 0<=2147483647:=z6J (h.at i (x1j f6J))
theorem Fit.u8at{zs}(h:Fit .u8 zs) i:0<=zs.getD i 0/\zs.getD i 0<=255:=z9B (h.at i (x8Q f6J))
def Sk(K:IntKind)(w:World)(v:Value)(zs:List Int):Prop:=Fit K zs/\Sv w v (zs.map (Value.int K))
theorem Sk.len{K w v zs}(h:Sk K w v zs):zs.length<=140737488355328:=by simpa using h.2.1
theorem Sk.nil K w:Sk K w (.slice none 0 0) []:=⟨Fit.nil K,Sv.nil w⟩
theorem Sk.below{K w w' v zs}(h:Sk K w v zs)(Y:Bw w w'):Sk K w' v zs:=⟨h.1,h.2.below Y⟩
theorem Sk.shape{K w v zs}(h:Sk K w v zs):∃ao cap,v=.slice ao zs.length cap/\zs.length<=cap/\cap<=9223372036854775807:=by simpa using h.2.shape
theorem x9H K(zs:List Int) i(hi:i<zs.length):(zs.map (Value.int K)).getD i undef=.int K (zs.getD i 0):=n7A
theorem Sk.place{K w v zs}(h:Sk K w v zs)(t:0<zs.length) :
  ∃b off cap,v=.slice (some ⟨b,off,none⟩) zs.length cap/\zs.length<=cap/\cap<=9223372036854775807/\∀i,i<zs.length->w.cell? ⟨b,off+i,none⟩=some (.int K (zs.getD i 0)):=by
 obtain⟨b,off,cap,Z,D,J,H⟩:=h.2.place (by simpa using t);simp only[List.length_map]at Z D H;exact⟨b,off,cap,Z,D,J,fun i hi=>by rw[H i hi,x9H K zs i hi]⟩
theorem Sk.cut{K w ao len cap l h m}{zs}(L:Sk K w (.slice ao len cap) zs)(Z:l<=h)(D:h<=len)(J:h<=m)(H:m<=cap) :
  Sk K w (sliced ao l h m 1) ((zs.drop l).take (h-l)):=⟨(L.1.drop l).take _,by simpa using L.2.cut Z D J H⟩
theorem Sk.head{K w ao len cap k}{zs}(L:Sk K w (.slice ao len cap) zs)(G:k<=len)(S:len<=cap):Sk K w (.slice ao k cap) (zs.take k) :=
 ⟨L.1.take k,by simpa using L.2.head G S⟩
theorem x0O K(zs:List Int):∀u∈zs.map (Value.int K),u.oneCell'=true:=by
 intro u W;obtain⟨z,_,rfl⟩:=List.mem_map.1 W;rfl
theorem x1k K c:∀u∈[Value.int K c],u.oneCell'=true:=e8m
def Ow(e:TypeId)(w:World)(B:Nat)(v:Value)(us:List Value):Prop:=us.length<=140737488355328/\w.ownsRow B e 1 v us.length us
theorem Ow.nil e w B:Ow e w B (.slice none 0 0) []:=⟨M7K,World.ownsRow_nil _ _ _ _⟩
theorem Ow.sv{e w B v}{us}(h:Ow e w B v us):Sv w v us:=by
 obtain⟨D,J⟩:=h;have P:=J;obtain⟨_,I⟩:=J;refine⟨D,?_⟩;rcases I with⟨rfl,R⟩ | ⟨g,M,Q,N,C,H,F,G,f,U⟩
 ·grind
 ·refine .inr ⟨g,0,M,N,F,V3H,fun i hi=>?_⟩;subst N;have:=P.cellAt i f6J;rw[Nat.zero_add,this];exact n7C
theorem Ow.below{e w w' B v}{us}(h:Ow e w B v us)(Y:Bw w w'):Ow e w' B v us:=by
 refine⟨h.1,h.2.kept (row:=none) ⟨Y.os,Y.tape,Y.output,Y.size,fun k G _=>Y.block k G⟩ ?_⟩
 exact W0k
theorem Ow.lower{e w B B' v}{us}(h:Ow e w B v us)(m:B'<=B):Ow e w B' v us:=by
 refine⟨h.1,h.2.1,?_⟩;rcases h.2.2 with D | ⟨g,M,Q,N,C,r⟩
 ·exact .inl D
 ·exact .inr ⟨g,M,Q,N,f6J,r⟩
def Ok(K:IntKind)(e:TypeId)(w:World)(B:Nat)(v:Value)(zs:List Int):Prop:=Fit K zs/\Ow e w B v (zs.map (Value.int K))
theorem Ok.sk{K e w B}{v zs}(h:Ok K e w B v zs):Sk K w v zs:=⟨h.1,h.2.sv⟩
theorem Ok.below{K e w w' B}{v zs}(h:Ok K e w B v zs)(Y:Bw w w'):Ok K e w' B v zs:=⟨h.1,h.2.below Y⟩
theorem Ok.lower{K e w B B'}{v zs}(h:Ok K e w B v zs)(m:B'<=B):Ok K e w B' v zs:=⟨h.1,h.2.lower m⟩
theorem Ok.nil K e w B:Ok K e w B (.slice none 0 0) []:=⟨Fit.nil K,Ow.nil e w B⟩
theorem Ok.row{K e w B}{v zs}(h:Ok K e w B v zs):w.ownsRow B e 1 v zs.length (zs.map (Value.int K)):=by simpa using h.2.2
theorem Ok.of{K e w B n}{v zs us}(z:Fit K zs)(S:zs.length<=140737488355328)(h:w.ownsRow B e 1 v n us)(F:n=zs.length)(W:us=zs.map (Value.int K)):Ok K e w B v zs:=by
 subst W;subst F;exact⟨z,t2Y,S4r⟩
theorem x0z{e w wr w1 v us}{n o B}(m:B<=wr.heap.size)(F:wr.ownsRow B e 1 v n us)
  (T:Below B w wr) (C:(wr.alloc o).grownBy w1 v.ownBlock):Below B w w1 :=
 (T.alloc m o).grown C P8P (fun k G=>(F.lt k G).1)
theorem x1A{e w wr w1 v us}{n B}(m:B<=wr.heap.size)(F:wr.ownsRow B e 1 v n us)
  (T:Below B w wr) (C:wr.grownBy w1 v.ownBlock):Below B w w1 :=
 T.grown C m (fun k G=>(F.lt k G).1)
theorem z0q{e}{w:World}{B n v us}(h:w.ownsRow B e 1 v n us)(F:0<n):∃g cap,v=.slice (some ⟨g,0,none⟩) n cap/\n<=cap/\cap<=9223372036854775807:=by
 rcases h.2 with⟨_,R⟩ | ⟨g,cap,Q,N,C,H,L,G,f,U⟩
 ·omega
 ·exact⟨g,cap,N,L,V3H⟩
theorem plain_of_cell{w:World}{x v}(h:w.cell? x=some v):x=⟨x.block,x.off,none⟩:=by
 obtain⟨b,o,s⟩:=x
 cases s with
 | none=>rfl
 | some s =>
  unfold World.cell? at h;split at h<;>simp at h
theorem y8N{K zs}(h:∀n∈zs,(Lit.int K n).wf=true):Fit K zs:=by
 intro z T;have:=h z T;simpa[Lit.wf]using this
theorem z1c{K w a len cap}{zs}(h:(a=none/\len=0/\cap=0/\zs=[]) \/
  ∃x,a=some x/\len<=cap/\cap<=maxLen/\zs.length=cap/\(∀i,i<zs.length->w.cell? (x.add i)=some (.int K (zs.getD i 0)))/\∀n∈zs,(Lit.int K n).wf=true) (S:len<=140737488351232) :
  Sk K w (.slice a len cap) (zs.take len):=by
 rcases h with⟨rfl,rfl,rfl,rfl⟩ | ⟨x,rfl,Z,D,J,H,B⟩
 ·exact Sk.nil K w
 ·unfold maxLen at D;have Y:Fit K (zs.take len):=(y8N B).take len;have d:(zs.take len).length=len:=P8P;refine⟨Y,P8P,?_⟩;rcases Nat.eq_zero_or_pos len with h0 | h0
  ·subst h0;exact .inl ⟨M7M,some x,cap,rfl,f6J,fun h=>m5l⟩
  ·have A:=H 0 f6J;have L:x.add 0=x:=(by simp[Addr.add]);rw[L]at A;have s:=plain_of_cell A;generalize x.block=b,x.off=o at *;subst s;refine .inr ⟨b,o,cap,by rw[List.length_map,d],P8P,f6J,fun i hi=>?_⟩;simp only[List.length_map]at hi;rw[<- addr_add,H i f6J,x9H K _ i hi];simp[List.getD,List.getElem?_take_of_lt (f6J:i<len)]
end Go.Proofs.YtkfcabdmkmljjaaGreatDoor
namespace Go.Proofs.YtkfcabdmkmljjaaGreatDoor.Scn
open Go.Proofs.Tryz
abbrev small(c:Int):Prop:=97<=c/\c<=122
def name(l:List Int):Bool:=decide (l.length=4/\65<=l.getD 0 0/\l.getD 0 0<=90/\small (l.getD 1 0)/\small (l.getD 2 0)/\small (l.getD 3 0))
end Go.Proofs.YtkfcabdmkmljjaaGreatDoor.Scn
namespace Go.Proofs.YtkfcabdmkmljjaaGreatDoor.Scn
open Go.Proofs.Tryz
end Go.Proofs.YtkfcabdmkmljjaaGreatDoor.Scn
namespace Go.Proofs.YtkfcabdmkmljjaaGreatDoor.Scn
open Go.Proofs.Tryz
end Go.Proofs.YtkfcabdmkmljjaaGreatDoor.Scn
namespace Go.Proofs.YtkfcabdmkmljjaaGreatDoor
open Go.Proofs.Tryz
open Go.RowKit
def Byt(zs:List Int):Prop:=∀z∈zs,0<=z/\z<=255
theorem Byt.at{zs}(h:Byt zs) k:0<=zs.getD k 0/\zs.getD k 0<=255:=by
 rcases Nat.lt_or_ge k zs.length with hk | hk
 ·simp only[List.getD,List.getElem?_eq_getElem hk,Option.getD_some];exact h _ (List.getElem_mem hk)
 ·grind
def nums(s:ByteArray):List Int:=s.data.toList.map fun b=>(b.toNat:Int)
theorem nums_length s:(nums s).length=s.size:=by
 rw[nums,List.length_map,Array.length_toList];rfl
theorem y4y s:Byt (nums s):=F3e
theorem x4T s k(G:k<s.size):((s[k]'G).toNat:Int)=(nums s).getD k 0:=by
 have h:k<s.data.size:=G
 have e:(nums s)[k]?=some ((s.data[k]'h).toNat:Int):=by
  rw[nums,List.getElem?_map,Array.getElem?_toList,Array.getElem?_eq_getElem h];rfl
 rw[List.getD,e];rfl
theorem x2A s(i:Int)(k:Nat)(hi:i=k)(G:k<s.size) w:(Instr.index 9 (.string s) (.int .i64 i)).run prog w=.ok (.int .u8 ((nums s).getD k 0)) w:=by
 subst hi;rw[run_index_string w 9 s .i64 (k:Int) underlying9,dif_pos f6J,<- x4T s k G];simp
theorem x9p s k:(((s.get! k).toNat:Nat):Int)=(nums s).getD k 0:=by
 rcases Nat.lt_or_ge k s.size with h | h
 ·rw[<- x4T s k h]
  have e:s.get! k=s[k]'h:=by
   simp[ByteArray.get!,getElem!_pos,h];rfl
  rw[e]
 ·have D:¬k<s.data.size:=by have:s.size=s.data.size:=rfl;omega
  have e:s.get! k=default:=by
   simp only[ByteArray.get!];exact getElem!_neg s.data k D
  rw[e,List.getD,List.getElem?_eq_none (by rw[nums_length];exact h)];rfl
theorem y8o s pos(h:pos<s.size)(g:(nums s).getD pos 0<128):((Utf8.decode s pos).1:Int)=(nums s).getD pos 0/\(Utf8.decode s pos).2=1:=by
 have e:=x4T s pos h;rw[decode_ascii s pos h f6J];exact⟨f6J,rfl⟩
theorem z2H s pos(h:pos<s.size)(g:128<=(nums s).getD pos 0) :
  128<=((Utf8.decode s pos).1:Int)/\1<=(Utf8.decode s pos).2/\pos+(Utf8.decode s pos).2<=s.size/\∀j,pos<=j->j<pos+(Utf8.decode s pos).2->128<=(nums s).getD j 0:=by
 have e:=x4T s pos h;obtain⟨Z,D⟩:=decode_high s pos h f6J;refine⟨f6J,D,?_⟩;have m:=x9p s pos;have i:=x9p s (pos+1);have A:=x9p s (pos+2);have M:=x9p s (pos+3);rw[Lib.decode_at];generalize(s.get! (pos+1)).toNat=b1,(s.get! (pos+2)).toNat=b2,(s.get! (pos+3)).toNat=z at *
 have S:∀n,(n=1\/(n=2/\1<s.size-pos/\b1 / 64=2)\/(n=3/\2<s.size-pos/\b1 / 64=2/\b2 / 64=2)\/(n=4/\3<s.size-pos/\b1 / 64=2/\b2 / 64=2/\z / 64=2))->pos+n<=s.size/\∀j,pos<=j->j<pos+n->128<=(nums s).getD j 0:=by
  intro n F;refine⟨f6J,fun j N a=>?_⟩;obtain rfl | rfl | rfl | rfl:j=pos\/j=pos+1\/j=pos+2\/j=pos+3:=f6J
  ·exact g
  ·omega
  ·omega
  ·omega
 apply S;unfold Lib.decodeN
 repeat' split
 all_goals simp_all
theorem z6o s pos:((Utf8.decode s pos).1:Int)<=2147483647:=by
 have:=decode_le s pos;omega
namespace Scn
end Scn
