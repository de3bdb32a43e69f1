/- Lemmas. -/
import Derived.Test.YtbmckadcjdedcaaGreatDoorK6
import Derived.Test.YtbmckadcjdedcaaGreatDoorK38
import Derived.Test.YtbmckadcjdedcaaGreatDoorK50
set_option maxHeartbeats 8000000
set_option maxRecDepth 100000
namespace Go.Proofs.YtbmckadcjdedcaaGreatDoor
open Go.Proofs.Tryz
open Go.RowKit
open Ti
section
variable{p:Prop}
theorem M3k(h:p:=by decide +kernel):p:=h
theorem N9q(h:p:=by intro z o;simp only[List.mem_cons,List.not_mem_nil,or_false]at o;unfold Utf.okc;omega):p:=h
theorem m6c(h:p:=by simp[o]):p:=h
theorem v3Q(h:p:=by refine⟨M3j,M3j,M3j⟩):p:=h
theorem R0w(h:p:=by intro z o;cases o):p:=h
end
namespace Cn
theorem x3v{c}(h:scalar c=true):Utf.okc c:=by
 unfold scalar at h;have:=o0d h;unfold Utf.okc;omega
theorem z5k{k}(h:fam k=1):1<=k/\k<=5:=by
 unfold fam at h
 (repeat' split at h)<;>omega
theorem z2U{r}(h:right r=0)(U:fam r.kind=1):∀c∈r.to,scalar c=true:=by
 have G:=z5k U;have s:=x0w h;unfold right at h;rw[if_neg s,if_neg f6J]at h;have T:=x1z h;rw[Bool.and_eq_true]at T;have D:=T.2;by_cases Z:r.kind=1\/r.kind=2\/r.kind=11
 ·rw[if_pos Z]at D;unfold bare at D;simp only[Bool.and_eq_true,Bool.false_or]at D;have:=o0d D.1.1.1.2;intro c T;rw[List.eq_nil_of_length_eq_zero this]at T;cases T
 ·rw[if_neg Z]at D;by_cases R:r.kind=3
  ·rw[if_pos R,Bool.and_eq_true]at D;exact(x0t D.2).2
  ·rw[if_neg R]at D;by_cases z:r.kind=4
   ·rw[if_pos z]at D;simp only[Bool.and_eq_true]at D;exact(x0t D.1.2).2
   ·rw[if_neg z,if_pos f6J]at D;simp only[Bool.and_eq_true]at D;exact(x0t D.2).2
theorem y1a{r}(h:right r=0)(z:r.kind=4):r.to.getD 0 0+r.hi-r.lo<55296\/57343<r.to.getD 0 0:=by
 have U:=x0w h;unfold right at h;rw[if_neg U,if_neg f6J]at h;have T:=x1z h;rw[Bool.and_eq_true,if_neg f6J,if_neg f6J,if_pos z]at T;have D:=T.2;simp only[Bool.and_eq_true]at D;exact(o0d D.2).2
theorem x6R{rs}(q:(check6 rs).2=0) c:Id.Snd (mapping rs c):=by
 unfold mapping;split
 ·rename_i h4
  have y:=x4p q c h4;rcases rget_cases q (f:=1) e8M c with⟨_,e⟩ | ⟨_,_,_,X,u⟩
  ·rw[e]at h4;exact absurd h4 e8M
  ·have H:=y1a u h4;intro z o;rw[List.mem_singleton]at o;subst o;have:=x1X X;unfold Utf.okc;omega
 ·rcases rget_cases q (f:=1) e8M c with⟨_,e⟩ | ⟨_,_,U,_,u⟩
  ·rw[e];exact R0w
  ·exact fun z o=>x3v (z2U u U z o)
theorem z6o{rs}(q:(check6 rs).2=0) t{c}(T:Utf.okc c):Id.Snd (x9r rs t c):=by
 unfold x9r;split
 ·exact R0w
 ·split
  ·exact x6R q c
  ·split
   ·exact x6R q c
   ·intro z o;rw[List.mem_singleton]at o;subst o;exact T
theorem z6c{rs}(q:(check6 rs).2=0) t{X}(h:Id.Snd X):Id.Snd (x0H (x9r rs t) X):=fun z o=>by
 unfold x0H at o;obtain⟨l,S,o⟩:=List.mem_flatten.1 o;obtain⟨c,T,rfl⟩:=List.mem_map.1 S;exact z6o q t (h c T) z o
theorem z6q{rs}(q:(check6 rs).2=0) c:Id.Snd (opn rs c):=by
 unfold opn;split
 ·rename_i X
  unfold syl at X;have X:=o0d X;split
  ·exact N9q
  ·exact N9q
 ·split
  ·rename_i r he
   obtain⟨M,T,I⟩:=(x1U q e8M r).1 he;have u:=(x0m.1 q).2.1 r M;rcases fam_three T with F | h8
   ·exact fun z o=>x3v ((x0t (x0A u F).2.2).2 z o)
   ·exact fun z o=>x3v ((x0t (x2H u h8).2.2).2 z o)
  ·exact R0w
theorem z3q{rs}(q:(check6 rs).2=0):∀(f:Nat) (B:List Int) (c:Int) (out:List Int),Utf.okc c->Id.Snd out->Id.Snd (walk rs f B c out).1:=by
 have leaf:∀(c:Int) (out:List Int),Utf.okc c->Id.Snd out->Id.Snd (if 32<=out.length then(([]:List Int),(2:Int))else(out++[c],0)).1:=fun c out T j=>by
  split
  ·exact R0w
  ·intro z o;rcases List.mem_append.1 o with h | h
   ·exact j z h
   ·rw[List.mem_singleton]at h;subst h;exact T
 intro f
 induction f with
 | zero =>
  intro B c out T j;rw[walk];split
  ·exact leaf c out T j
  ·split
   ·exact R0w
   ·exact R0w
 | succ f ih =>
  intro B c out T j;rw[walk];split
  ·exact leaf c out T j
  ·split
   ·exact R0w
   ·have y:=z6q q c;revert y;generalize opn rs c=l
    suffices ∀(l:List Int) (s:List Int×Int),Id.Snd l->Id.Snd s.1->Id.Snd (l.foldl (fun s d=>if s.2=0 then walk rs f (B++[c]) d s.1 else s) s).1 from fun h=>this l (out,0) h j
    intro l
    induction l with
    | nil=>intro s _ X;exact X
    | cons d l ihl =>
     intro s S X;refine ihl _ (fun z o=>S z m6c) ?_;show Id.Snd (if s.2=0 then walk rs f (B++[c]) d s.1 else s).1;split
     ·exact ih _ _ _ (S d M7K) X
     ·exact X
theorem z6j{rs}(q:(check6 rs).2=0){X}(h:Id.Snd X):Id.Snd (nfd rs X):=fun z o=>by
 have Z:=Od.y9y (fun c=>x4c q c) o;unfold openAll at Z;obtain⟨l,S,o⟩:=List.mem_flatten.1 Z;obtain⟨c,T,rfl⟩:=List.mem_map.1 S;exact z3q q 16 [] c [] (h c T) (fun z o=>by cases o) z o
theorem z4S{rs}(q:(check6 rs).2=0) a b(h:(cmp9 rs a b).2=true):Utf.okc (cmp9 rs a b).1:=by
 unfold cmp9 at h ⊢;split
 ·rename_i hs
  unfold sylOf at hs ⊢;split
  ·rename_i h1
   unfold jl jv at h1;simp only[Bool.and_eq_true,decide_eq_true_eq]at h1;unfold Utf.okc;show(0<=44032+((a-4352)*21+b-4449)*28/\_)\/_;omega
  ·rename_i h1
   rw[if_neg h1]at hs;split
   ·rename_i h2
    unfold bare2 jt syl at h2;simp only[Bool.and_eq_true,decide_eq_true_eq]at h2;unfold Utf.okc;show(0<=a+b-4520+1/\_)\/_;omega
   ·rename_i h2
    rw[if_neg h2]at hs;simp at hs
 ·rename_i hs
  rw[if_neg hs]at h
  cases hp:x2b rs a b with
  | none=>rw[hp]at h;simp at h
  | some p =>
   unfold x2b at hp;obtain⟨r,u,rfl⟩:=Option.map_eq_some_iff.1 hp;have y:=List.mem_reverse.1 (List.mem_of_find?_eq_some u);have A:isP a b r=true:=List.find?_some u;have hi:r.kind=7/\r.to.getD 0 0=a/\r.to.getD 1 0=b:=o0d A;exact x3v (x0A ((x0m.1 q).2.1 r y) hi.1).2.1
theorem z4V{rs}(q:(check6 rs).2=0){X}(h:Id.Snd X):Id.Snd (Nm.cps (cls rs) (cmp9 rs) X):=by
 unfold Nm.cps Nm.run
 suffices ∀(X:List Int) (s:List Int×Int),Id.Snd X->Id.Snd s.1->Id.Snd (X.foldl (Nm.stp (cls rs) (cmp9 rs)) s).1 from this X ([],-1) h (fun z o=>by cases o)
 intro X
 induction X with
 | nil=>intro s _ A;exact A
 | cons c X ih =>
  intro s D A;refine ih _ (fun z o=>D z m6c) ?_;unfold Nm.stp;split
  ·rename_i hf
   unfold Nm.fits at hf;simp only[Bool.and_eq_true]at hf;intro z o;rcases List.mem_or_eq_of_mem_set o with h1 | h1
   ·exact A z h1
   ·subst h1;exact z4S q _ _ hf.2.2
  ·intro z o;rcases List.mem_append.1 o with h1 | h1
   ·exact A z h1
   ·rw[List.mem_singleton]at h1;subst h1;exact D _ M7K
end Cn
namespace Bd
end Bd
theorem z2D{F:List (List Int)}{p}(h:∀i,i<F.length->p (F.getD i [])=false):F.any p=false:=P3h
theorem z0V{F:List (List Int)}{p i}(hi:i<F.length)(h:p (F.getD i [])=true):F.any p=true:=by grind
theorem z8s(g b:Nat)(Z:∀args w,(callFunc g args).run prog w=.ok (.enter g args) w) p lv Xs w(J:x5D w lv Xs)(L:∀k,k<Xs.length->∀W f,Bw w W->Sk .i32 W f (Xs.getD k [])->Calls prog g #[f,.pointer (some ⟨b,0,none⟩)] W (x0c W (p (Xs.getD k [])))) :
  Calls prog 107 #[lv,.func (.func g) #[] #[.pointer (some ⟨b,0,none⟩)]] w (IdxB w (Xs.any p)):=by
 have s:=J.1;obtain⟨R,M,rfl,_,_⟩:=J.shape;have B:Hid (∀i,i<Xs.length->∀W,Bw w W->∃b P f,R=some ⟨b,P,none⟩/\W.cell? ⟨b,P+i,none⟩=some f/\Sk .i32 W f (Xs.getD i [])):=fun i hi W U=>(J.below U).at hi;have KP:=O L;have l:Hid ((∀q,q<Xs.length->p (Xs.getD q [])=false)->Xs.any p=false):=fun h=>z2D h;have E:Hid (∀q,q<Xs.length->p (Xs.getD q [])=true->Xs.any p=true):=fun q m h=>z0V m h;go_enter func107,ntmps107;go_wp2;go_loopw[5,8] (fun _ S wr=>∃k:Nat,S=.int .i64 k/\k<=Xs.length/\(∀q,q<k->p (Xs.getD q [])=false)/\Bw w wr) (fun _ S _=>Xs.length-(intOf S).toNat)
 case atStart=>exact t1A
 case round =>
  obtain⟨k,rfl,G,m,r⟩:=hrel;by_cases H:k<Xs.length
  ·have v:(k:Int)<Xs.length:=f6J;obtain⟨b1,P,f,rfl,x,A⟩:=V B k H wr r;have K:=O (V KP k H wr f r A);obtain⟨F,T,C,_,_⟩:=A.shape;subst C;have D:=O (V E k H)
   have Y:Hid (p (Xs.getD k [])=false->∀q,q<k+1->p (Xs.getD q [])=false):=fun h q j=>F6F
   have N:=O r;generalize p (Xs.getD k [])=z,(Xs.getD k []).length=X at *
   exact M5X
  ·have n:=O (V l fun q h=>m q f6J);have v:¬((k:Int)<Xs.length):=f6J;exact e2S
theorem z7M(g b:Nat)(Z:∀args w,(callFunc g args).run prog w=.ok (.enter g args) w) p lv Xs w(J:x5D w lv Xs)(L:∀k,k<Xs.length->∀W f,Bw w W->Sk .i32 W f (Xs.getD k [])->Calls prog g #[f,.pointer (some ⟨b,0,none⟩)] W (x0c W (p (Xs.getD k [])))) :
  Calls prog 65 #[lv,.func (.func g) #[] #[.pointer (some ⟨b,0,none⟩)]] w (x0c w (Xs.any p)):=by
 have K:=O (z8s g b Z p lv Xs w J L);obtain⟨R,M,rfl,_,_⟩:=J.shape;generalize Xs.any p=Q at *;go_enter func65,ntmps65;go_wp2_with fail;refine(V K).mono ?_;rintro e I ⟨n,rfl,E,b1⟩;subst E;go_wp2;go_ret;exact⟨rfl,b1⟩
theorem y1U:∀args w,(callFunc 66 args).run prog w=.ok (.enter 66 args) w:=f0h
theorem z5c{pv b r w}{xv X}(J:Sk .i32 w xv X)(d:Calls prog 67 #[.pointer pv,xv] w (x0c w r))(Q:w.cell? ⟨b,0,none⟩=some (.pointer pv)):Calls prog 66 #[xv,.pointer (some ⟨b,0,none⟩)] w (x0c w r):=by
 have K:=O d;obtain⟨R,M,rfl,_,_⟩:=J.shape;go_enter func66,ntmps66;exact w6b
theorem z7Y{pv p w lv}{Xs}(J:x5D w lv Xs)(d:∀W f X,Bw w W->Sk .i32 W f X->Calls prog 67 #[.pointer pv,f] W (x0c W (p X))):Calls prog 37 #[.pointer pv,lv] w (x0c w (Xs.any p)):=by
 have H:∀(fn:Fn) (first M:Array Value) (w:World),(Instr.makeFunc fn first M).run prog w=.ok (.func fn first M) w:=fun _ _ _ _=>rfl;have A:∀o,Bw w (w.alloc o):=fun o=>(b0r).alloc (l0r _) o
 have K:Hid (Calls prog 65 #[lv,.func (.func 66) #[] #[.pointer (some ⟨w.heap.size,0,none⟩)]] (w.alloc (.cells #[.pointer pv] 22)) (x0c (w.alloc (.cells #[.pointer pv] 22)) (Xs.any p))):=by
  refine z7M _ _ y1U _ lv Xs _ (J.below (A _)) fun k G W f U C=>z5c C (d W f _ (x0b (A _) U) C) ?_;rw[U.cell M7K];simp
 obtain⟨R,M,rfl,_,_⟩:=J.shape;go_enter func37,ntmps37;exact N8n
open Ti
namespace Cn
def y0G(rs:List Rec)(X:List Int):List Int:=Nm.cps (cls rs) (cmp9 rs) (nfd rs X)
def y2g(rs:List Rec)(X:List Int):Bool:=Bd.has (X.map (vget rs 4))
def z4O(rs:List Rec)(fl:Int)(X:List Int)(rtl dec:Bool):Nat:=Lb.err (of18 rs X) fl rtl dec X
def y2r(rs:List Rec)(fl:Int)(X:List Int):List Int:=x0H (x9r rs (tr15 fl)) X
def proc19(rs:List Rec)(fl:Int)(zs:List Int):List (List Int)×Nat:=Id.proc (y2r rs fl) (y0G rs) (y2g rs) (z4O rs fl) zs
end Cn
theorem z5F{B p rs w}(C:Glob w)(E:x0n w B p rs)(G:(Cn.check rs).2=0)(l:∀r∈rs,RecFit r) fl:IdC p fl (Cn.y2r rs fl) (Cn.y0G rs) (Cn.y2g rs) (Cn.z4O rs fl) w:=by
 have q:=x4a G;refine⟨fun W f X U J S=>?_,fun W f X U J S=>?_,fun X S=>?_,fun W H F U J=>?_,fun W f X rtl dec U J S=>?_,fun X rtl dec=>?_,fun X h=>?_,fun X h=>?_⟩
 ·exact y8Y p fl _ f X W J f6J (z8Q fl W (E.below U) q l)
 ·exact z8H (z8J (E.below U) G) (z3Q (C.on U) (E.below U) G) J S
 ·have Z:=Cn.y9l G X;have D:=(Nm.z0e (cl:=Cn.cls rs) (cp:=Cn.cmp9 rs) (Cn.nfd rs X)).2;unfold Cn.y0G Nm.cps;omega
 ·exact z7Y J fun A f X L I=>z8r ((z8S (E.below U) q).on L) I
 ·exact z7C (plb18 (C.on U) (E.below U) G J S) J S fl rtl dec
 ·exact Nat.lt_of_lt_of_le Lb.z8b e8N
 ·exact Cn.z6c q (tr15 fl) h
 ·exact Cn.z4V q (Cn.z6j q h)
open Ti
namespace Cn
theorem tp1:proc19 x2l 47 [70,111,111,195,160,46,66]=([[102,111,111,224],[98]],0):=M3j
theorem tp2:proc19 x2l 47 [120,110,45,45,102,111,111,45,99,108,97,46,98]=([[102,111,111,224],[98]],0):=M3j
theorem tp3:proc19 x2l 47 [97,95,98]=([[97,95,98]],384):=M3j
theorem ta1:Id.toA (bits .and .i64 47 32==32) ([[102,111,111,224],[98]],0)=([120,110,45,45,102,111,111,45,99,108,97,46,98],0):=M3j
theorem ta3:Id.toA (bits .and .i64 47 32==32) ([[97,95,98]],384)=([],384):=M3j
theorem tu2 zs:Id.toU ([[102,111,111,224],[98]],0) zs=([102,111,111,195,160,46,98],0):=by
 unfold Id.toU;rw[if_neg M3j];exact M3j
end Cn
theorem z5t:Pu.fine [102,111,111,224]:=v3Q
open Ti
theorem z9M(x:List Int)(y:List Int)(P:List Int->Prop)(A:P [])(J:P x)(hy:P y):∀k,P (([x,y]:List (List Int)).getD k [])
 | 0=>J
 | 1=>hy
 | k+2=>by simpa[List.getD]using A
theorem z5u:Pu.fine [98]:=v3Q
theorem z5v:Pu.fine [97,95,98]:=v3Q
structure Lit19(q:Nat)(w:World):Prop where
 a:∀W,Below w.heap.size w W->Calls prog 26 #[.pointer (some ⟨q,0,none⟩),.string ⟨#[70,111,111,195,160,46,66]⟩] W (fun e w'=>e=.returned (.tuple #[.string ⟨#[120,110,45,45,102,111,111,45,99,108,97,46,98]⟩,.int .i64 0])/\Below W.heap.size W w')
 u:∀W,Below w.heap.size w W->Calls prog 20 #[.pointer (some ⟨q,0,none⟩),.string ⟨#[120,110,45,45,102,111,111,45,99,108,97,46,98]⟩] W (fun e w'=>e=.returned (.tuple #[.string ⟨#[102,111,111,195,160,46,98]⟩,.int .i64 0])/\Below W.heap.size W w')
 b:∀W,Below w.heap.size w W->Calls prog 26 #[.pointer (some ⟨q,0,none⟩),.string ⟨#[97,95,98]⟩] W (fun e w'=>e=.returned (.tuple #[.string ⟨#[]⟩,.int .i64 384])/\Below W.heap.size W w')
theorem lit19{B p q w}(C:Glob w)(E:x0n w B p Cn.x2l)(G:(Cn.check Cn.x2l).2=0)(H:EngAt w q 47 p):Lit19 q w:=by
 have P:∀W,Bw w W->∀s:ByteArray,Calls prog 18 #[.pointer (some ⟨q,0,none⟩),.string s] W (x9O W (Cn.proc19 Cn.x2l 47 (nums s))):=fun W U s=>y0S (z5F (C.on U) (E.below U) G z3N 47) (H.on U) s;refine⟨fun W U=>?_,fun W U=>?_,fun W U=>?_⟩
 ·have h:=P W U ⟨#[70,111,111,195,160,46,66]⟩;rw[show nums ⟨#[70,111,111,195,160,46,66]⟩=[70,111,111,195,160,46,66]from rfl,Cn.tp1]at h;refine(y1m (H.on U) h e8M (fun _=>⟨e8M,e8M,z9M _ _ (fun x=>x.length<=1000000000) e8M e8M e8M,fun k G A f J=>?_,z9M _ _ (fun x=>(Pu.encode x).1.length<=1000000000) M3k M3k M3k,M3k⟩) M3k).mono fun e l h=>?_
  ·match k,G with
   | 0,_=>exact x4P 1 z0l f _ A J e8M M3k (fun _=>z5t)
   | 1,_=>exact x4P 1 z0l f _ A J e8M M3k (fun _=>z5u)
  ·rw[Cn.ta1]at h;exact h
 ·have h:=P W U ⟨#[120,110,45,45,102,111,111,45,99,108,97,46,98]⟩;rw[show nums ⟨#[120,110,45,45,102,111,111,45,99,108,97,46,98]⟩=[120,110,45,45,102,111,111,45,99,108,97,46,98]from rfl,Cn.tp2]at h;refine(y2T h e8M e8M).mono fun e l h=>?_;rw[Cn.tu2]at h;exact h
 ·have h:=P W U ⟨#[97,95,98]⟩;rw[show nums ⟨#[97,95,98]⟩=[97,95,98]from rfl,Cn.tp3]at h;refine(y1m (H.on U) h e8M (fun _=>⟨e8M,e8M,fun k=>?_,fun k G A f J=>?_,fun k=>?_,M3k⟩) M3k).mono fun e l h=>?_
  ·match k with
   | 0=>decide
   | k+1=>exact I1M
  ·match k,G with
   | 0,_=>exact x4P 1 z0l f _ A J e8M M3k (fun _=>z5v)
  ·match k with
   | 0=>exact M3k
   | k+1=>show(Pu.encode (([[97,95,98]]:List (List Int)).getD (k+1) [])).1.length<=_;rw[(I1M:(([[97,95,98]]:List (List Int)).getD (k+1) [])=[])];decide +kernel
  ·rw[Cn.ta3]at h;exact h
open Ti
theorem z4j w(hg:Glob w):Calls prog 10 #[] w (x2T w true):=by
 have o:=O (y5u w);have HG:=O hg;clear hg;go_enter func10,ntmps10;go_wp2_with fail;refine(V o).mono ?_;rintro e1 w1 ⟨v1,aj,rfl,p1,l,b1⟩;have x:=y2B l p1 e8M z3N;have K2:=O (y3P _ _ w1 ((V HG).on b1) x);rw[Cn.z8z]at K2;obtain⟨a1,Y,r,_,U⟩:=x.shape;subst r;have Q:=O b1;clear o x l b1 p1;go_wp2_with fail;refine(V K2).mono ?_;rintro e2 w2 ⟨m,h2⟩;have i:=O (x0b (V Q) m);clear K2 m Q;rcases h2 with⟨ae,_⟩ | ⟨n,p,v2,ab,rfl,hD,r2,p2⟩
 ·exact absurd (by rw[Cn.y0z]) ae
 ·obtain⟨a2,ag,s⟩:∃a c,v2=.slice a ab.length c:=by
   rcases r2.1.2 with⟨h,h0⟩ | ⟨g,af,ai,e,_⟩
   ·exact⟨none,0,by rw[h,h0]⟩
   ·exact⟨_,_,e⟩
  subst s;have d:=O hD;have T:=O n;clear r2 p2 hD n;generalize ab.length=pl at *;have K3:=O (z8G p 47 e8M e8M w2);go_wp2_with fail;refine(V K3).mono ?_;rintro e3 w3 ⟨q,rfl,hE,b3⟩;have L:=O (lit19 ((V HG).on (x0b (V i) b3)) ((V d).below b3) (V T) hE);have X:=O (x0b (V i) b3);have H:=O hE;have S:=O (z2C 0 w3);clear K3 i d T b3 hE;go_wp2_with fail;refine c0m S fun w4 R=>?_;have K5:=O (z2B p 64 (.inr e8M) w4);clear S;go_wp2_with fail;refine c0m K5 fun w5 b5=>?_;have A:=x0b R b5;have W:=O ((V L).a w5 A);clear K5 R b5;go_wp2_with fail;refine c0m W fun w6 j=>?_;have B:=x0b A j;have K7:=O ((V L).u w6 B);clear W j A;go_wp2_with fail;refine c0m K7 fun w7 b7=>?_;have C:=x0b B b7;have K8:=O ((V L).b w7 C);clear K7 b7 B;go_wp2_with fail;refine c0m K8 fun w8 b8=>?_;have D:=x0b C b8;have E:=(V H).on D;have N:=E.f;have k:=O (y2g 47 8 w8);rw[(M3k:(bits .and .i64 47 8==8)=true)]at k;clear K8 b8 C L H;go_wp2_with fail;refine c0m k fun w9 G=>?_;have M:=x0b D G;have F:=E.on G;have y:=F.f;have z:=O (y2g 47 16 w9);rw[(M3k:(bits .and .i64 47 16==16)=false)]at z;clear k G D E N;go_wp2_with fail;refine c0m z fun Z J=>?_;have v:=x0b M J;have P:=(F.on J).f;have I:=O (y2c 47 Z);clear z J M F y;go_wp2_with fail;refine c0m I fun am K=>?_;have t:=O (x0b (V X) (x0b v K));clear I K v P X;go_wp2;go_ret;exact⟨rfl,V t⟩
