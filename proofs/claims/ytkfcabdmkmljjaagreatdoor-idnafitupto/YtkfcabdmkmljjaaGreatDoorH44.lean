/- Lemmas. -/
import Derived.Test.YtkfcabdmkmljjaaGreatDoorH6
import Derived.Test.YtkfcabdmkmljjaaGreatDoorH35
import Derived.Test.YtkfcabdmkmljjaaGreatDoorH47
import Derived.Lib.MinMaxS
import Derived.Test.YtkfcabdmkmljjaaGreatDoorH48
set_option maxHeartbeats 8000000
set_option maxRecDepth 100000
namespace Go.Proofs.YtkfcabdmkmljjaaGreatDoor
open Go.Proofs.Tryz
open Go.RowKit
open Ti
section
variable{p:Prop}
theorem U6r(h:p:=by obtain⟨rfl,rfl⟩:=Prod.mk.inj hc;exact⟨rfl,.inr rfl⟩):p:=h
theorem M3k(h:p:=by decide +kernel):p:=h
theorem f4W(h:p:=by intro z T;simp only[List.mem_cons,List.not_mem_nil,or_false]at T;unfold Utf.okc;omega):p:=h
theorem V6c(h:p:=by intro z T;cases T):p:=h
theorem v3Q(h:p:=by refine⟨M3j,M3j,M3j⟩):p:=h
end
namespace Cn
theorem x3h{c}(h:scalar c=true):Utf.okc c:=by
 unfold scalar at h;have:=o0d h;unfold Utf.okc;omega
theorem z6x{k}(h:fam k=1):1<=k/\k<=5:=by
 unfold fam at h
 (repeat' split at h)<;>omega
theorem z4c{r}(h:right r=0)(z:fam r.kind=1):∀c∈r.to,scalar c=true:=by
 have G:=z6x z;have m:=x0x h;unfold right at h;rw[if_neg m,if_neg f6J]at h;have I:=x1v h;rw[Bool.and_eq_true]at I;have D:=I.2;by_cases Z:r.kind=1\/r.kind=2\/r.kind=11
 ·rw[if_pos Z]at D;unfold bare at D;simp only[Bool.and_eq_true,Bool.false_or]at D;have:=o0d D.1.1.1.2;intro c I;rw[List.eq_nil_of_length_eq_zero this]at I;cases I
 ·rw[if_neg Z]at D;by_cases J:r.kind=3
  ·rw[if_pos J,Bool.and_eq_true]at D;exact(x0v D.2).2
  ·rw[if_neg J]at D;by_cases H:r.kind=4
   ·rw[if_pos H]at D;simp only[Bool.and_eq_true]at D;exact(x0v D.1.2).2
   ·rw[if_neg H,if_pos f6J]at D;simp only[Bool.and_eq_true]at D;exact(x0v D.2).2
theorem y1E{r}(h:right r=0)(H:r.kind=4):r.to.getD 0 0+r.hi-r.lo<55296\/57343<r.to.getD 0 0:=by
 have z:=x0x h;unfold right at h;rw[if_neg z,if_neg f6J]at h;have I:=x1v h;rw[Bool.and_eq_true,if_neg f6J,if_neg f6J,if_pos H]at I;have D:=I.2;simp only[Bool.and_eq_true]at D;exact(o0d D.2).2
theorem x7d{rs}(y:(check6 rs).2=0) c:Id.Snd (mapping rs c):=by
 unfold mapping;split
 ·rename_i h4
  have o:=x4m y c h4;rcases rget_cases y (f:=1) e8M c with⟨_,e⟩ | ⟨_,_,_,L,u⟩
  ·rw[e]at h4;exact absurd h4 e8M
  ·have K:=y1E u h4;intro z T;rw[List.mem_singleton]at T;subst T;have:=x2v L;unfold Utf.okc;omega
 ·rcases rget_cases y (f:=1) e8M c with⟨_,e⟩ | ⟨_,_,A,_,u⟩
  ·rw[e];exact V6c
  ·exact fun z T=>x3h (z4c u A z T)
theorem z7z{rs}(y:(check6 rs).2=0) t{c}(I:Utf.okc c):Id.Snd (y2T rs t c):=by
 unfold y2T;split
 ·exact V6c
 ·split
  ·exact x7d y c
  ·split
   ·exact x7d y c
   ·intro z T;rw[List.mem_singleton]at T;subst T;exact I
theorem z7o{rs}(y:(check6 rs).2=0) t{X}(h:Id.Snd X):Id.Snd (x0G (y2T rs t) X):=fun z T=>by
 unfold x0G at T;obtain⟨l,S,T⟩:=List.mem_flatten.1 T;obtain⟨c,I,rfl⟩:=List.mem_map.1 S;exact z7z y t (h c I) z T
theorem z7B{rs}(y:(check6 rs).2=0) c:Id.Snd (opn rs c):=by
 unfold opn;split
 ·rename_i L
  unfold syl at L;have L:=o0d L;split
  ·exact f4W
  ·exact f4W
 ·split
  ·rename_i r he
   obtain⟨i,A,M⟩:=(x1N y e8M r).1 he;have u:=(x0k.1 y).2.1 r i;rcases fam_three A with x | h8
   ·exact fun z T=>x3h ((x0v (x0C u x).2.2).2 z T)
   ·exact fun z T=>x3h ((x0v (x2u u h8).2.2).2 z T)
  ·intro z T;cases T
theorem z4E{rs}(y:(check6 rs).2=0):∀(f:Nat) (B:List Int) (c:Int) (out:List Int),Utf.okc c->Id.Snd out->Id.Snd (walk rs f B c out).1:=by
 have A:∀(c:Int) (out:List Int),Utf.okc c->Id.Snd out->Id.Snd (if 32<=out.length then(([]:List Int),(2:Int))else(out++[c],0)).1:=fun c out I X=>by
  split
  ·exact V6c
  ·intro z T;rcases List.mem_append.1 T with h | h
   ·exact X z h
   ·rw[List.mem_singleton]at h;subst h;exact I
 intro f
 induction f with
 | zero =>
  intro B c out I X;rw[walk];split
  ·exact A c out I X
  ·split
   ·exact V6c
   ·exact V6c
 | succ f ih =>
  intro B c out I X;rw[walk];split
  ·exact A c out I X
  ·split
   ·exact V6c
   ·have n:=z7B y c;revert n;generalize opn rs c=l
    suffices ∀(l:List Int) (s:List Int×Int),Id.Snd l->Id.Snd s.1->Id.Snd (l.foldl (fun s d=>if s.2=0 then walk rs f (B++[c]) d s.1 else s) s).1 from fun h=>this l (out,0) h X
    intro l
    induction l with
    | nil=>intro s _ L;exact L
    | cons d l ihl =>
     intro s S L;refine ihl _ (fun z T=>S z W9c) ?_;show Id.Snd (if s.2=0 then walk rs f (B++[c]) d s.1 else s).1;split
     ·exact ih _ _ _ (S d M7K) L
     ·exact L
theorem z7w{rs}(y:(check6 rs).2=0){X}(h:Id.Snd X):Id.Snd (nfd rs X):=fun z T=>by
 have Z:=Od.z0p (fun c=>x3Y y c) T;unfold openAll at Z;obtain⟨l,S,T⟩:=List.mem_flatten.1 Z;obtain⟨c,I,rfl⟩:=List.mem_map.1 S;exact z4E y 16 [] c [] (h c I) (fun z T=>by cases T) z T
theorem z6f{rs}(y:(check6 rs).2=0) a b(h:(cmp9 rs a b).2=true):Utf.okc (cmp9 rs a b).1:=by
 unfold cmp9 at h ⊢;split
 ·rename_i hs
  unfold sylOf at hs ⊢;split
  ·rename_i h1
   unfold jl jv at h1;simp only[Bool.and_eq_true,decide_eq_true_eq]at h1;unfold Utf.okc;show(0<=44032+((a-4352)*21+b-4449)*28/\_)\/_;omega
  ·rename_i h1
   rw[if_neg h1]at hs;split
   ·rename_i h2
    unfold bare2 jt syl at h2;simp only[Bool.and_eq_true,decide_eq_true_eq]at h2;unfold Utf.okc;show(0<=a+b-4520+1/\_)\/_;omega
   ·rename_i h2
    rw[if_neg h2]at hs;simp at hs
 ·rename_i hs
  rw[if_neg hs]at h
  cases hp:x2z rs a b with
  | none=>rw[hp]at h;simp at h
  | some p =>
   unfold x2z at hp;obtain⟨r,u,rfl⟩:=Option.map_eq_some_iff.1 hp;have o:=List.mem_reverse.1 (List.mem_of_find?_eq_some u);have A:isP a b r=true:=List.find?_some u;have hi:r.kind=7/\r.to.getD 0 0=a/\r.to.getD 1 0=b:=o0d A;exact x3h (x0C ((x0k.1 y).2.1 r o) hi.1).2.1
theorem z6g{rs}(y:(check6 rs).2=0){X}(h:Id.Snd X):Id.Snd (Nm.cps (cls rs) (cmp9 rs) X):=by
 unfold Nm.cps Nm.run
 suffices ∀(X:List Int) (s:List Int×Int),Id.Snd X->Id.Snd s.1->Id.Snd (X.foldl (Nm.stp (cls rs) (cmp9 rs)) s).1 from this X ([],-1) h (fun z T=>by cases T)
 intro X
 induction X with
 | nil=>intro s _ L;exact L
 | cons c X ih =>
  intro s I L;refine ih _ (fun z T=>I z W9c) ?_;unfold Nm.stp;split
  ·rename_i hf
   unfold Nm.fits at hf;simp only[Bool.and_eq_true]at hf;intro z T;rcases List.mem_or_eq_of_mem_set T with h1 | h1
   ·exact L z h1
   ·subst h1;exact z6f y _ _ hf.2.2
  ·intro z T;rcases List.mem_append.1 T with h1 | h1
   ·exact L z h1
   ·rw[List.mem_singleton]at h1;subst h1;exact I _ M7K
end Cn
namespace Bd
end Bd
theorem z3M{E:List (List Int)}{p}(h:∀i,i<E.length->p (E.getD i [])=false):E.any p=false:=W6w
theorem z1S{E:List (List Int)}{p i}(hi:i<E.length)(h:p (E.getD i [])=true):E.any p=true:=by grind
theorem z9N(g b:Nat)(m:∀args w,(callFunc g args).run prog w=.ok (.enter g args) w) p lv Xs w(A:x5G w lv Xs)(s:∀k,k<Xs.length->∀W u,Bw w W->Sk .i32 W u (Xs.getD k [])->Calls prog g #[u,.pointer (some ⟨b,0,none⟩)] W (x0g W (p (Xs.getD k [])))) :
  Calls prog 117 #[lv,.func (.func g) #[] #[.pointer (some ⟨b,0,none⟩)]] w (IdxB w (Xs.any p)):=by
 have d:=A.1;obtain⟨B,M,rfl,_,_⟩:=A.shape;have C:Hid (∀i,i<Xs.length->∀W,Bw w W->∃b P u,B=some ⟨b,P,none⟩/\W.cell? ⟨b,P+i,none⟩=some u/\Sk .i32 W u (Xs.getD i [])):=fun i hi W R=>(A.below R).at hi;have KP:=O s;have H:Hid ((∀q,q<Xs.length->p (Xs.getD q [])=false)->Xs.any p=false):=fun h=>z3M h;have t:Hid (∀q,q<Xs.length->p (Xs.getD q [])=true->Xs.any p=true):=fun q y h=>z1S y h;go_enter func117,ntmps117;go_wp2;go_loopw[5,8] (fun _ Z wr=>∃k:Nat,Z=.int .i64 k/\k<=Xs.length/\(∀q,q<k->p (Xs.getD q [])=false)/\Bw w wr) (fun _ Z _=>Xs.length-(intOf Z).toNat)
 case atStart=>exact t1A
 case round =>
  obtain⟨k,rfl,G,y,J⟩:=hrel;by_cases E:k<Xs.length
  ·have U:(k:Int)<Xs.length:=f6J;obtain⟨b1,P,u,rfl,j,f⟩:=V C k E wr J;have K:=O (V KP k E wr u J f);obtain⟨I,N,F,_,_⟩:=f.shape;subst F;have o:=O (V t k E)
   have a:Hid (p (Xs.getD k [])=false->∀q,q<k+1->p (Xs.getD q [])=false):=fun h q L=>f3H
   have Y:=O J;generalize p (Xs.getD k [])=z,(Xs.getD k []).length=S at *
   cases z with
   | true =>
    have n:=O (V o rfl);go_wp2_with(go_at_fn g;refine(V K).mono ?_;rintro e Q ⟨rfl,b1⟩);have l:=O (bthen (V Y) b1);go_ret;exact⟨_,rfl,t3b,V l⟩
   | false =>
    have D:=O (V a rfl);go_wp2_with(go_at_fn g;refine(V K).mono ?_;rintro e Q ⟨rfl,b1⟩);have l:=O (bthen (V Y) b1)
    go_roundw
    case rel=>exact⟨k+1,g2A,f6J,V D,V l⟩
    case measure=>exact g7T
  ·have n:=O (V H fun q h=>y q f6J);have U:¬((k:Int)<Xs.length):=f6J;exact G4u
theorem z9g(g b:Nat)(m:∀args w,(callFunc g args).run prog w=.ok (.enter g args) w) p lv Xs w(A:x5G w lv Xs)(s:∀k,k<Xs.length->∀W u,Bw w W->Sk .i32 W u (Xs.getD k [])->Calls prog g #[u,.pointer (some ⟨b,0,none⟩)] W (x0g W (p (Xs.getD k [])))) :
  Calls prog 71 #[lv,.func (.func g) #[] #[.pointer (some ⟨b,0,none⟩)]] w (x0g w (Xs.any p)):=by
 have K:=O (z9N g b m p lv Xs w A s);obtain⟨B,M,rfl,_,_⟩:=A.shape;generalize Xs.any p=Y at *;go_enter func71,ntmps71;go_wp2_with fail;refine(V K).mono ?_;rintro e Q ⟨n,rfl,F,b1⟩;subst F;go_wp2;go_ret;exact⟨rfl,b1⟩
theorem y2t:∀args w,(callFunc 72 args).run prog w=.ok (.enter 72 args) w:=f0h
theorem z6p{pv b r w}{xv X}(A:Sk .i32 w xv X)(z:Calls prog 73 #[.pointer pv,xv] w (x0g w r))(Y:w.cell? ⟨b,0,none⟩=some (.pointer pv)):Calls prog 72 #[xv,.pointer (some ⟨b,0,none⟩)] w (x0g w r):=by
 have K:=O z;obtain⟨B,M,rfl,_,_⟩:=A.shape;go_enter func72,ntmps72;exact G8t
theorem z9t{pv p w lv}{Xs}(A:x5G w lv Xs)(z:∀W u X,Bw w W->Sk .i32 W u X->Calls prog 73 #[.pointer pv,u] W (x0g W (p X))):Calls prog 42 #[.pointer pv,lv] w (x0g w (Xs.any p)):=by
 have J:∀(fn:Fn) (first M:Array Value) (w:World),(Instr.makeFunc fn first M).run prog w=.ok (.func fn first M) w:=fun _ _ _ _=>rfl;have f:∀o,Bw w (w.alloc o):=fun o=>(b0r).alloc (l0r _) o
 have K:Hid (Calls prog 71 #[lv,.func (.func 72) #[] #[.pointer (some ⟨w.heap.size,0,none⟩)]] (w.alloc (.cells #[.pointer pv] 23)) (x0g (w.alloc (.cells #[.pointer pv] 23)) (Xs.any p))):=by
  refine z9g _ _ y2t _ lv Xs _ (A.below (f _)) fun k G W u R L=>z6p L (z W u _ (bthen (f _) R) L) ?_;rw[R.cell M7K];simp
 obtain⟨B,M,rfl,_,_⟩:=A.shape;go_enter func42,ntmps42;go_wp2_with fail;refine c0m K fun Q b1=>?_;have x:=O (bthen (f _) b1);go_wp2;go_ret;exact⟨rfl,V x⟩
open Ti
namespace Cn
def x4n(rs:List Rec)(X:List Int):List Int:=Nm.cps (cls rs) (cmp9 rs) (nfd rs X)
def x6L(rs:List Rec)(X:List Int):Bool:=Bd.has (X.map (vget rs 4))
def x3B(rs:List Rec)(fl:Int)(X:List Int)(rtl dec:Bool):Nat:=Lb.err (of18 rs X) fl rtl dec X
def y6h(rs:List Rec)(fl:Int)(X:List Int):List Int:=x0G (y2T rs (tr15 fl)) X
def proc19(rs:List Rec)(fl:Int)(zs:List Int):List (List Int)×Nat:=Id.proc (y6h rs fl) (x4n rs) (x6L rs) (x3B rs fl) zs
end Cn
theorem z6T{B p rs w}(C:Glob w)(F:x0m w B p rs)(G:(Cn.check rs).2=0)(s:∀r∈rs,RecFit r) fl:IdC p fl (Cn.y6h rs fl) (Cn.x4n rs) (Cn.x6L rs) (Cn.x3B rs fl) w:=by
 have y:=x2H G;refine⟨fun W u X R A S=>?_,fun W u X R A S=>?_,fun X S=>?_,fun W H E R A=>?_,fun W u X rtl dec R A S=>?_,fun X rtl dec=>?_,fun X h=>?_,fun X h=>?_⟩
 ·exact y9L p fl _ u X W A f6J (q0s fl W (F.below R) y s)
 ·exact q0i (q0k (F.below R) G) (z5k (C.on R) (F.below R) G) A S
 ·have Z:=Cn.y9Z G X;have D:=(Nm.z5s (cl:=Cn.cls rs) (cp:=Cn.cmp9 rs) (Cn.nfd rs X)).2;unfold Cn.x4n Nm.cps;omega
 ·exact z9t A fun N u X J L=>z9M ((q0u (F.below R) y).on J) L
 ·exact z8W (plb18 (C.on R) (F.below R) G A S) A S fl rtl dec
 ·exact Nat.lt_of_lt_of_le Lb.z9w e8N
 ·exact Cn.z7o y (tr15 fl) h
 ·exact Cn.z6g y (Cn.z7w y h)
open Ti
namespace Cn
theorem tp1:proc19 x2c 47 [70,111,111,195,160,46,66]=([[102,111,111,224],[98]],0):=M3j
theorem tp2:proc19 x2c 47 [120,110,45,45,102,111,111,45,99,108,97,46,98]=([[102,111,111,224],[98]],0):=M3j
theorem tp3:proc19 x2c 47 [97,95,98]=([[97,95,98]],384):=M3j
theorem ta1:Id.toA (bits .and .i64 47 32==32) ([[102,111,111,224],[98]],0)=([120,110,45,45,102,111,111,45,99,108,97,46,98],0):=M3j
theorem ta3:Id.toA (bits .and .i64 47 32==32) ([[97,95,98]],384)=([],384):=M3j
theorem tu2 zs:Id.toU ([[102,111,111,224],[98]],0) zs=([102,111,111,195,160,46,98],0):=by
 unfold Id.toU;rw[if_neg M3j];exact M3j
end Cn
theorem z6G:Pu.fine [102,111,111,224]:=v3Q
open Ti
theorem q1i(x:List Int)(y:List Int)(P:List Int->Prop)(R:P [])(A:P x)(hy:P y):∀k,P (([x,y]:List (List Int)).getD k [])
 | 0=>A
 | 1=>hy
 | k+2=>by simpa[List.getD]using R
theorem z6H:Pu.fine [98]:=v3Q
theorem z6I:Pu.fine [97,95,98]:=v3Q
structure Lit19(q:Nat)(w:World):Prop where
 a:∀W,Below w.heap.size w W->Calls prog 11 #[.pointer (some ⟨q,0,none⟩),.string ⟨#[70,111,111,195,160,46,66]⟩] W (fun e w'=>e=.returned (.tuple #[.string ⟨#[120,110,45,45,102,111,111,45,99,108,97,46,98]⟩,.int .i64 0])/\Below W.heap.size W w')
 u:∀W,Below w.heap.size w W->Calls prog 12 #[.pointer (some ⟨q,0,none⟩),.string ⟨#[120,110,45,45,102,111,111,45,99,108,97,46,98]⟩] W (fun e w'=>e=.returned (.tuple #[.string ⟨#[102,111,111,195,160,46,98]⟩,.int .i64 0])/\Below W.heap.size W w')
 b:∀W,Below w.heap.size w W->Calls prog 11 #[.pointer (some ⟨q,0,none⟩),.string ⟨#[97,95,98]⟩] W (fun e w'=>e=.returned (.tuple #[.string ⟨#[]⟩,.int .i64 384])/\Below W.heap.size W w')
theorem lit19{B p q w}(C:Glob w)(F:x0m w B p Cn.x2c)(G:(Cn.check Cn.x2c).2=0)(S:EngAt w q 47 p):Lit19 q w:=by
 have P:∀W,Bw w W->∀s:ByteArray,Calls prog 17 #[.pointer (some ⟨q,0,none⟩),.string s] W (y7n W (Cn.proc19 Cn.x2c 47 (nums s))):=fun W R s=>y1v (z6T (C.on R) (F.below R) G z5h 47) (S.on R) s;refine⟨fun W R=>?_,fun W R=>?_,fun W R=>?_⟩
 ·have h:=P W R ⟨#[70,111,111,195,160,46,66]⟩;rw[show nums ⟨#[70,111,111,195,160,46,66]⟩=[70,111,111,195,160,46,66]from rfl,Cn.tp1]at h;refine(x7z (S.on R) h e8M (fun _=>⟨e8M,e8M,q1i _ _ (fun x=>x.length<=1000000000) e8M e8M e8M,fun k G N u A=>?_,q1i _ _ (fun x=>(Pu.encode x).1.length<=1000000000) M3k M3k M3k,M3k⟩) M3k).mono fun e a h=>?_
  ·match k,G with
   | 0,_=>exact x3a 1 y4M u _ N A e8M M3k (fun _=>z6G)
   | 1,_=>exact x3a 1 y4M u _ N A e8M M3k (fun _=>z6H)
  ·rw[Cn.ta1]at h;exact h
 ·have h:=P W R ⟨#[120,110,45,45,102,111,111,45,99,108,97,46,98]⟩;rw[show nums ⟨#[120,110,45,45,102,111,111,45,99,108,97,46,98]⟩=[120,110,45,45,102,111,111,45,99,108,97,46,98]from rfl,Cn.tp2]at h;refine(y3r h e8M e8M).mono fun e a h=>?_;rw[Cn.tu2]at h;exact h
 ·have h:=P W R ⟨#[97,95,98]⟩;rw[show nums ⟨#[97,95,98]⟩=[97,95,98]from rfl,Cn.tp3]at h;refine(x7z (S.on R) h e8M (fun _=>⟨e8M,e8M,fun k=>?_,fun k G N u A=>?_,fun k=>?_,M3k⟩) M3k).mono fun e a h=>?_
  ·match k with
   | 0=>decide
   | k+1=>exact I1O
  ·match k,G with
   | 0,_=>exact x3a 1 y4M u _ N A e8M M3k (fun _=>z6I)
  ·match k with
   | 0=>exact M3k
   | k+1=>show(Pu.encode (([[97,95,98]]:List (List Int)).getD (k+1) [])).1.length<=_;rw[(I1O:(([[97,95,98]]:List (List Int)).getD (k+1) [])=[])];decide +kernel
  ·rw[Cn.ta3]at h;exact h
open Ti
theorem q1h w(hg:Glob w):Calls prog 9 #[] w (z1X w true):=by
 have i:=O (y6c w);have W:=O hg;clear hg;go_enter func9,ntmps9;go_wp2_with fail;refine(V i).mono ?_;rintro e1 w1 ⟨v1,ar,rfl,p1,r1,b1⟩;have P:=y3a r1 p1 e8M z5h;have j:=O (y4t _ _ w1 ((V W).on b1) P);rw[Cn.z9Z]at j;obtain⟨a1,G,d,_,ai⟩:=P.shape;subst d;have l:=O b1;clear i P r1 b1 p1;go_wp2_with fail;refine(V j).mono ?_;rintro e2 w2 ⟨b2,h2⟩;have T:=O (bthen (V l) b2);clear j b2 l;rcases h2 with⟨t,_⟩ | ⟨ae,p,v2,af,rfl,hD,r2,p2⟩
 ·exact absurd (by rw[Cn.y1d]) t
 ·obtain⟨a2,am,X⟩:∃a c,v2=.slice a af.length c:=by
   rcases r2.1.2 with⟨h,h0⟩ | ⟨g,aj,aq,e,_⟩
   ·exact⟨none,0,by rw[h,h0]⟩
   ·exact⟨_,_,e⟩
  subst X;have K:=O hD;have I:=O ae;clear r2 p2 hD ae;generalize af.length=pl at *;have k:=O (q0h p 47 e8M e8M w2);go_wp2_with fail;refine(V k).mono ?_;rintro e3 w3 ⟨q,rfl,S,z⟩;have L:=O (lit19 ((V W).on (bthen (V T) z)) ((V K).below z) (V I) S);have ab:=O (bthen (V T) z);have D:=O S;have K4:=O (z3L 0 w3);clear k T K I z S;go_wp2_with fail;refine c0m K4 fun w4 U=>?_;have F:=O (z3K p 64 (.inr e8M) w4);clear K4;go_wp2_with fail;refine c0m F fun w5 m=>?_;have o:=bthen U m;have K6:=O ((V L).a w5 o);clear F U m;go_wp2_with fail;refine c0m K6 fun w6 R=>?_;have s:=bthen o R;have N:=O ((V L).u w6 s);clear K6 R o;go_wp2_with fail;refine c0m N fun w7 r=>?_;have v:=bthen s r;have Q:=O ((V L).b w7 v);clear N r s;go_wp2_with fail;refine c0m Q fun w8 b8=>?_;have y:=bthen v b8;have A:=(V D).on y;have c8:=A.f;have C:=O (x6L 47 8 w8);rw[(M3k:(bits .and .i64 47 8==8)=true)]at C;clear Q b8 v L D;go_wp2_with fail;refine c0m C fun w9 b9=>?_;have J:=bthen y b9;have B:=A.on b9;have c9:=B.f;have Z:=O (x6L 47 16 w9);rw[(M3k:(bits .and .i64 47 16==16)=false)]at Z;clear C b9 y A c8;go_wp2_with fail;refine c0m Z fun ag n=>?_;have Y:=bthen J n;have M:=(B.on n).f;have E:=O (y2B 47 ag);clear Z n J B c9;go_wp2_with fail;refine c0m E fun aw H=>?_;have x:=O (bthen (V ab) (bthen Y H));clear E H Y M ab;go_wp2;go_ret;exact⟨rfl,V x⟩
open Ti
namespace Id
theorem or4{a b}(g:a%4=0)(Y:b%4=0):(a|||b)%4=0:=by
 have h:=Nat.or_mod_two_pow (a:=a) (b:=b) (n:=2);rw[(e8M:(2:Nat)^2=4),g,Y]at h;exact h
theorem ite4{c:Prop}[Decidable c]{a b}(g:a%4=0)(Y:b%4=0):(if c then a else b)%4=0:=by split<;>assumption
theorem z6N:∀(l:List Nat) (a:Nat),a%4=0->(∀z∈l,z%4=0)->l.foldl (·|||·) a%4=0
 | [],_,ha,_=>ha
 | z::l,_,ha,h=>z6N l _ (or4 ha (h z M7K)) fun y hy=>h y M4u
theorem err4{o fl rtl dec X}:Lb.err o fl rtl dec X%4=0:=by
 have F:∀c,Lb.nb o fl dec c%4=0:=fun c=>or4 (or4 (ite4 e8M e8M) (ite4 e8M e8M)) (ite4 e8M e8M)
 have A:Lb.num o fl dec X%4=0:=by
  have:=z6N (X.map (Lb.nb o fl dec)) 0 rfl fun z T=>(by obtain⟨c,_,rfl⟩:=List.mem_map.1 T;exact F c);rwa [List.foldl_map]at this
 exact ite4 rfl (or4 (or4 (or4 (or4 (or4 (ite4 e8M e8M) (ite4 (ite4 e8M e8M) (ite4 e8M e8M))) (ite4 e8M e8M)) A) (ite4 e8M e8M)) (ite4 e8M e8M))
theorem rdc4 x:rdc x%4=0:=by
 unfold rdc rd;split
 ·rfl
 ·split
  ·show 2048%4=0;decide
  ·split
   ·show 4096%4=0;decide
   ·rfl
theorem acc4{ck}(h:∀X r d,ck X r d%4=0) rtl xss:acc ck rtl xss%4=0 :=
 z6N _ 0 rfl fun z T=>by
  obtain⟨x,_,rfl⟩:=List.mem_map.1 T;exact ite4 (h _ _ _) (rdc4 x)
theorem ways{mp nc hr ck}(S:∀X:List Int,X.length<=65536->(nc X).length<=2097152)(C:∀X r d,ck X r d%4=0)(o:∀X,Snd X->Snd (mp X))(F:∀X,Snd X->Snd (nc X)){zs}(Y:Utf.Byt zs) :
  (∃c,proc mp nc hr ck zs=([],c)/\(c=1\/c=2))\/∃T n,proc mp nc hr ck zs=(T,n)/\n%4=0/\0<T.length/\T.length<=2097153/\Spl.total T<=16777216/\∀y∈T,Snd y:=by
 rcases hc:cut mp nc zs with⟨B,c⟩;by_cases R:c=0
 ·subst R;by_cases H:16384<cnt (Utf.encA 0 (Spl.join (read B)))
  ·exact .inl ⟨2,y4D hc H,.inr rfl⟩
  ·obtain⟨g,D,p⟩:=y8j S hc;refine .inr ⟨_,_,z0y hc H,acc4 C _ _,by simpa[read]using g,by simpa[read]using D,?_,y4H (y8i o F Y hc)⟩;have:=x8J B;omega
 ·have A:B=[]/\(c=1\/c=2):=by
   unfold cut at hc;split at hc
   ·exact U6r
   ·split at hc
    ·obtain⟨rfl,rfl⟩:=Prod.mk.inj hc;exact⟨rfl,.inl rfl⟩
    ·split at hc
     ·exact U6r
     ·exact absurd (Prod.mk.inj hc).2.symm R
  obtain⟨rfl,h⟩:=A;exact .inl ⟨c,z0x hc R,h⟩
theorem ur4{n}(h:n%4=0):ur n=false:=by
 have Z:bits .and .i64 (n:Int) 3=0:=by
  show IntKind.i64.wrap (((BitVec.ofInt 64 (n:Int)&&&BitVec.ofInt 64 ((3:Nat):Int)).toNat:Nat):Int)=_;rw[BitVec.ofInt_natCast,BitVec.ofInt_natCast,BitVec.toNat_and,BitVec.toNat_ofNat,BitVec.toNat_ofNat,(e8N:3%2^64=2^2-1),Nat.and_two_pow_sub_one_eq_mod,(f6J:n%2^64%2^2=0)];rfl
 unfold ur;rw[Z];rfl
end Id
theorem ways19{p fl rs w}(h:IdC p fl (Cn.y6h rs fl) (Cn.x4n rs) (Cn.x6L rs) (Cn.x3B rs fl) w) s :
  (∃c,Cn.proc19 rs fl (nums s)=([],c)/\(c=1\/c=2))\/∃T n,Cn.proc19 rs fl (nums s)=(T,n)/\n%4=0/\0<T.length/\T.length<=2097153/\Spl.total T<=16777216/\∀y∈T,Id.Snd y :=
 Id.ways h.len (fun _ _ _=>Id.err4) h.ms h.ns (x0T s)
namespace Pu
theorem z1K(xs:List Int):∀(r:List Nat) (T out:List Int),(wr1 xs r T out).2.length=out.length+r.length
 | [],_,_=>rfl
 | c::r,T,out=>by rw[wr1,z1K xs r];exact P8P
theorem z5x(xs:List Int):∀(r:List Nat) (T:List Int) (p n i bias:Int) (f:Bool) (out:List Int),wok xs r T p n i=true->(wr2 xs r T p n i bias f out).1.length<=out.length+32*r.length
 | [],_,_,_,_,_,_,out,_=>by rw[wr2];exact M7L
 | c::r,T,p,n,i,bias,f,out,h=>by
  obtain⟨R,_,D⟩:=y0m h;by_cases N:2147483647<dlt xs c T p n i
  ·rw[x6m N];simp
  ·rw[x4B N];have m:=D.resolve_left N;have:=z5x xs r _ _ _ _ (adapt (dlt xs c T p n i) (p+1) f) false (out++wrNum (dlt xs c T p n i) bias) m;have F:=x7H (v:=dlt xs c T p n i) (bias:=bias) R f6J;rw[List.length_append]at this;rw[List.length_cons];omega
theorem encode_len{xs:List Int}(S:xs.length<=16384):(encode xs).1.length<=600000:=by
 unfold encode;split
 ·simp
 ·rename_i hs
  obtain⟨_,v,t⟩:=y3Z S (by simpa using hs);refine Nat.le_trans (z5x xs _ _ _ _ _ _ _ _ t) ?_;rw[List.length_append,z1K];have:(if(idx xs lowq).length=0 then([]:List Int)else[45]).length<=1:=f1X;simp only[List.length_nil];omega
end Pu
namespace Id
theorem z8T{x}(S:x.length<=16384):(ca x).1.length<=600004:=by
 have Z:=Pu.encode_len S;have D:(txt x).length<=4*x.length:=Utf.x9i 0 _;unfold ca;split
 ·simp only;omega
 ·split
  ·simp
  ·exact f4R
theorem y9u{M:Nat}:∀l:List (List Int),(∀y∈l,y.length<=M)->(Spl.join l).length<=l.length*(M+1)
 | [],_=>by simp[Spl.join]
 | [a],h=>by have:=h a M7L;simp[Spl.join];exact f6J
 | a::b::l,h=>by
  have Z:=h a M7L;have D:=y9u (b::l) fun y hy=>h y F7M;rw[Spl.join_cons a M7L,List.length_append,List.length_cons,List.length_cons,Nat.succ_mul];omega
theorem z1F{T:List (List Int)}(S:∀y∈T,y.length<=16384)(F:T.length<=2097153):(whole T).length<=140737488355328:=by
 have:=y9u (M:=600004) (T.map fun y=>(ca y).1) fun y hy=>by
  obtain⟨x,A,rfl⟩:=List.mem_map.1 hy;exact z8T (S x A)
 rw[List.length_map]at this;unfold whole;exact Nat.le_trans this (Nat.le_trans (Nat.mul_le_mul_right _ F) e8M)
theorem z2y v yss:(carry v yss).2<65536:=by
 refine Nat.or_lt_two_pow (n:=16) (Nat.or_lt_two_pow (n:=16) (z6s v yss) ?_) ?_
 ·split<;>decide
 ·split<;>decide
theorem y6t{mp nc hr ck zs}(h:∀X r d,ck X r d<65536):(proc mp nc hr ck zs).2<65536:=by
 unfold proc;split
 ·unfold cut
  repeat' split
  all_goals simp only
  all_goals decide
 ·split
  ·simp only;decide
  ·exact x5p h _ _
theorem y4E{mp nc hr ck zs}(L:∀y∈(proc mp nc hr ck zs).1,Snd y){y}(hy:y∈(proc mp nc hr ck zs).1):y.length<=16384:=by
 unfold proc at L hy;split at hy
 ·cases hy
 ·rename_i h0
  rw[if_neg h0]at L;split at hy
  ·cases hy
  ·rename_i h1
   rw[if_neg h1]at L;simp only at L hy;have D:=y8c (x9x L);obtain⟨k,G,rfl⟩:=List.mem_iff_getElem.1 hy;have J:=x9Z (read (cut mp nc zs).1) k;rw[(w7Y:(read (cut mp nc zs).1).getD k []=(read (cut mp nc zs).1)[k])]at J;omega
def Way(r:List (List Int)×Nat):Prop:=(∃c,r=([],c)/\(c=1\/c=2))\/∃yss n,r=(yss,n)/\n%4=0/\0<yss.length/\yss.length<=2097153/\Spl.total yss<=16777216/\∀y∈yss,Snd y
end Id
theorem toA19{w q p fl rs}(L:IdC p fl (Cn.y6h rs fl) (Cn.x4n rs) (Cn.x6L rs) (Cn.x3B rs fl) w)(S:EngAt w q fl p){s}(H:Calls prog 17 #[.pointer (some ⟨q,0,none⟩),.string s] w (y7n w (Cn.proc19 rs fl (nums s)))) :
  Calls prog 11 #[.pointer (some ⟨q,0,none⟩),.string s] w (y4V w (Id.toA (bits .and .i64 fl 32==32) (Cn.proc19 rs fl (nums s)))):=by
 have u:(Cn.proc19 rs fl (nums s)).2<65536:=Id.y6t L.lt;refine x7z S H u (fun B=>?_) (Id.z2y _ _);rcases ways19 L s with⟨c,h,I⟩ | ⟨T,n,h,_,l,E,_,v⟩
 ·rw[h]at B;rcases I with rfl | rfl<;>exact absurd B e8N
 ·have J:∀y∈(Cn.proc19 rs fl (nums s)).1,y.length<=16384:=fun y hy=>Id.y4E (by
   show ∀y∈(Cn.proc19 rs fl (nums s)).1,Id.Snd y
   rw[h];exact v) hy
  rw[h]at J ⊢
  have hk:∀k,(T.getD k []).length<=16384:=fun k=>by
   rcases Nat.lt_or_ge k T.length with hk | hk
   ·rw[List.getD,List.getElem?_eq_getElem hk];exact J _ (List.getElem_mem hk)
   ·rw[List.getD,List.getElem?_eq_none hk];exact Nat.zero_le _
  exact⟨l,by simp only;exact f6J,fun k=>Nat.le_trans (hk k) e8N,fun k _ W C A=>y5B C _ W A (hk k),fun k=>Nat.le_trans (Pu.encode_len (hk k)) e8N,Id.z1F J E⟩
