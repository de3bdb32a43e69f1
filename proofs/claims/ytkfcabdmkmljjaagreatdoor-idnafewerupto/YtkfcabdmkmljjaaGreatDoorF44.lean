/- Lemmas. -/
import Derived.Test.YtkfcabdmkmljjaaGreatDoorF6
import Derived.Test.YtkfcabdmkmljjaaGreatDoorF35
import Derived.Test.YtkfcabdmkmljjaaGreatDoorF47
import Derived.Lib.MinMaxS
import Derived.Test.YtkfcabdmkmljjaaGreatDoorF48
set_option maxHeartbeats 8000000
set_option maxRecDepth 100000
namespace Go.Proofs.YtkfcabdmkmljjaaGreatDoor
open Go.Proofs.Tryz
open Go.RowKit
open Ti
section
variable{p:Prop}
theorem U6r(h:p:=by obtain⟨rfl,rfl⟩:=Prod.mk.inj hc;exact⟨rfl,.inr rfl⟩):p:=h
theorem M3k(h:p:=by decide +kernel):p:=h
theorem i9W(h:p:=by rw[BitVec.toNat_and];exact Nat.lt_of_le_of_lt Nat.and_le_right e8M):p:=h
theorem w1z(h:p:=by intro z u;simp only[List.mem_cons,List.not_mem_nil,or_false]at u;unfold Utf.okc;omega):p:=h
theorem W1A(h:p:=by intro z u;cases u):p:=h
theorem v3Q(h:p:=by refine⟨M3j,M3j,M3j⟩):p:=h
theorem m0o(h:p:=by rw[<- hs,ByteArray.size_extract];exact f6J):p:=h
theorem G8v(h:p:=by simp only[IntKind.wrap,IntKind.bits,IntKind.signed];simp;omega):p:=h
theorem E1D(h:p:=by go_wp2;go_ret;exact⟨rfl,V P⟩):p:=h
theorem E7f(h:p:=by exact x2A (x1h hI Y s) f6J (Id.Way.total (ways19 hI s))):p:=h
theorem N2v(h:p:=by exact⟨none,0,by rw[h,h0]⟩):p:=h
end
namespace Cn
theorem x3j{c}(h:scalar c=true):Utf.okc c:=by
 unfold scalar at h;have:=o0d h;unfold Utf.okc;omega
theorem z6x{k}(h:fam k=1):1<=k/\k<=5:=by
 unfold fam at h
 (repeat' split at h)<;>omega
theorem z4e{r}(h:right r=0)(C:fam r.kind=1):∀c∈r.to,scalar c=true:=by
 have G:=z6x C;have l:=x0z h;unfold right at h;rw[if_neg l,if_neg f6J]at h;have I:=x1x h;rw[Bool.and_eq_true]at I;have D:=I.2;by_cases Z:r.kind=1\/r.kind=2\/r.kind=11
 ·rw[if_pos Z]at D;unfold bare at D;simp only[Bool.and_eq_true,Bool.false_or]at D;have:=o0d D.1.1.1.2;intro c I;rw[List.eq_nil_of_length_eq_zero this]at I;cases I
 ·rw[if_neg Z]at D;by_cases J:r.kind=3
  ·rw[if_pos J,Bool.and_eq_true]at D;exact(x0x D.2).2
  ·rw[if_neg J]at D;by_cases F:r.kind=4
   ·rw[if_pos F]at D;simp only[Bool.and_eq_true]at D;exact(x0x D.1.2).2
   ·rw[if_neg F,if_pos f6J]at D;simp only[Bool.and_eq_true]at D;exact(x0x D.2).2
theorem y1D{r}(h:right r=0)(F:r.kind=4):r.to.getD 0 0+r.hi-r.lo<55296\/57343<r.to.getD 0 0:=by
 have C:=x0z h;unfold right at h;rw[if_neg C,if_neg f6J]at h;have I:=x1x h;rw[Bool.and_eq_true,if_neg f6J,if_neg f6J,if_pos F]at I;have D:=I.2;simp only[Bool.and_eq_true]at D;exact(o0d D.2).2
theorem x7d{rs}(q:(check6 rs).2=0) c:Id.Snd (mapping rs c):=by
 unfold mapping;split
 ·rename_i h4
  have o:=x4m q c h4;rcases rget_cases q (f:=1) e8M c with⟨_,e⟩ | ⟨_,_,_,L,X⟩
  ·rw[e]at h4;exact absurd h4 e8M
  ·have E:=y1D X h4;intro z u;rw[List.mem_singleton]at u;subst u;have:=x2y L;unfold Utf.okc;omega
 ·rcases rget_cases q (f:=1) e8M c with⟨_,e⟩ | ⟨_,_,C,_,X⟩
  ·rw[e];exact W1A
  ·exact fun z u=>x3j (z4e X C z u)
theorem z7B{rs}(q:(check6 rs).2=0) t{c}(I:Utf.okc c):Id.Snd (y1m rs t c):=by
 unfold y1m;split
 ·exact W1A
 ·split
  ·exact x7d q c
  ·split
   ·exact x7d q c
   ·intro z u;rw[List.mem_singleton]at u;subst u;exact I
theorem z7p{rs}(q:(check6 rs).2=0) t{X}(h:Id.Snd X):Id.Snd (x0I (y1m rs t) X):=fun z u=>by
 unfold x0I at u;obtain⟨l,S,u⟩:=List.mem_flatten.1 u;obtain⟨c,I,rfl⟩:=List.mem_map.1 S;exact z7B q t (h c I) z u
theorem z7D{rs}(q:(check6 rs).2=0) c:Id.Snd (opn rs c):=by
 unfold opn;split
 ·rename_i L
  unfold syl at L;have L:=o0d L;split
  ·exact w1z
  ·exact w1z
 ·split
  ·rename_i r he
   obtain⟨a,A,K⟩:=(x1M q e8M r).1 he;have X:=(x0k.1 q).2.1 r a;rcases fam_three A with y | h8
   ·exact fun z u=>x3j ((x0x (x0E X y).2.2).2 z u)
   ·exact fun z u=>x3j ((x0x (x2x X h8).2.2).2 z u)
  ·intro z u;cases u
theorem z4G{rs}(q:(check6 rs).2=0):∀(f:Nat) (K:List Int) (c:Int) (out:List Int),Utf.okc c->Id.Snd out->Id.Snd (walk rs f K c out).1:=by
 have A:∀(c:Int) (out:List Int),Utf.okc c->Id.Snd out->Id.Snd (if 32<=out.length then(([]:List Int),(2:Int))else(out++[c],0)).1:=fun c out I R=>by
  split
  ·exact W1A
  ·intro z u;rcases List.mem_append.1 u with h | h
   ·exact R z h
   ·rw[List.mem_singleton]at h;subst h;exact I
 intro f
 induction f with
 | zero =>
  intro K c out I R;rw[walk];split
  ·exact A c out I R
  ·split
   ·exact W1A
   ·exact W1A
 | succ f ih =>
  intro K c out I R;rw[walk];split
  ·exact A c out I R
  ·split
   ·exact W1A
   ·have n:=z7D q c;revert n;generalize opn rs c=l
    suffices ∀(l:List Int) (s:List Int×Int),Id.Snd l->Id.Snd s.1->Id.Snd (l.foldl (fun s d=>if s.2=0 then walk rs f (K++[c]) d s.1 else s) s).1 from fun h=>this l (out,0) h R
    intro l
    induction l with
    | nil=>intro s _ L;exact L
    | cons d l ihl =>
     intro s S L;refine ihl _ (fun z u=>S z t0o) ?_;show Id.Snd (if s.2=0 then walk rs f (K++[c]) d s.1 else s).1;split
     ·exact ih _ _ _ (S d M7K) L
     ·exact L
theorem z7w{rs}(q:(check6 rs).2=0){X}(h:Id.Snd X):Id.Snd (nfd rs X):=fun z u=>by
 have Z:=Od.z0r (fun c=>x3Y q c) u;unfold openAll at Z;obtain⟨l,S,u⟩:=List.mem_flatten.1 Z;obtain⟨c,I,rfl⟩:=List.mem_map.1 S;exact z4G q 16 [] c [] (h c I) (fun z u=>by cases u) z u
theorem z6h{rs}(q:(check6 rs).2=0) a b(h:(cmp9 rs a b).2=true):Utf.okc (cmp9 rs a b).1:=by
 unfold cmp9 at h ⊢;split
 ·rename_i hs
  unfold sylOf at hs ⊢;split
  ·rename_i h1
   unfold jl jv at h1;simp only[Bool.and_eq_true,decide_eq_true_eq]at h1;unfold Utf.okc;show(0<=44032+((a-4352)*21+b-4449)*28/\_)\/_;omega
  ·rename_i h1
   rw[if_neg h1]at hs;split
   ·rename_i h2
    unfold bare2 jt syl at h2;simp only[Bool.and_eq_true,decide_eq_true_eq]at h2;unfold Utf.okc;show(0<=a+b-4520+1/\_)\/_;omega
   ·rename_i h2
    rw[if_neg h2]at hs;simp at hs
 ·rename_i hs
  rw[if_neg hs]at h
  cases hp:x2D rs a b with
  | none=>rw[hp]at h;simp at h
  | some p =>
   unfold x2D at hp;obtain⟨r,X,rfl⟩:=Option.map_eq_some_iff.1 hp;have o:=List.mem_reverse.1 (List.mem_of_find?_eq_some X);have A:isP a b r=true:=List.find?_some X;have hi:r.kind=7/\r.to.getD 0 0=a/\r.to.getD 1 0=b:=o0d A;exact x3j (x0E ((x0k.1 q).2.1 r o) hi.1).2.1
theorem z6i{rs}(q:(check6 rs).2=0){X}(h:Id.Snd X):Id.Snd (Nm.cps (cls rs) (cmp9 rs) X):=by
 unfold Nm.cps Nm.run
 suffices ∀(X:List Int) (s:List Int×Int),Id.Snd X->Id.Snd s.1->Id.Snd (X.foldl (Nm.stp (cls rs) (cmp9 rs)) s).1 from this X ([],-1) h (fun z u=>by cases u)
 intro X
 induction X with
 | nil=>intro s _ L;exact L
 | cons c X ih =>
  intro s t L;refine ih _ (fun z u=>t z t0o) ?_;unfold Nm.stp;split
  ·rename_i hf
   unfold Nm.fits at hf;simp only[Bool.and_eq_true]at hf;intro z u;rcases List.mem_or_eq_of_mem_set u with h1 | h1
   ·exact L z h1
   ·subst h1;exact z6h q _ _ hf.2.2
  ·intro z u;rcases List.mem_append.1 u with h1 | h1
   ·exact L z h1
   ·rw[List.mem_singleton]at h1;subst h1;exact t _ M7K
end Cn
namespace Bd
end Bd
theorem z3J{C:List (List Int)}{p}(h:∀i,i<C.length->p (C.getD i [])=false):C.any p=false:=W6w
theorem z1P{C:List (List Int)}{p i}(hi:i<C.length)(h:p (C.getD i [])=true):C.any p=true:=by grind
theorem z9U(g b:Nat)(D:∀args w,(callFunc g args).run prog w=.ok (.enter g args) w) p lv Xs w(A:x5B w lv Xs)(s:∀k,k<Xs.length->∀W v,Bw w W->Sk .i32 W v (Xs.getD k [])->Calls prog g #[v,.pointer (some ⟨b,0,none⟩)] W (x0g W (p (Xs.getD k [])))) :
  Calls prog 117 #[lv,.func (.func g) #[] #[.pointer (some ⟨b,0,none⟩)]] w (IdxB w (Xs.any p)):=by
 have B:=A.1;obtain⟨J,M,rfl,_,_⟩:=A.shape;have Y:Hid (∀i,i<Xs.length->∀W,Bw w W->∃b P v,J=some ⟨b,P,none⟩/\W.cell? ⟨b,P+i,none⟩=some v/\Sk .i32 W v (Xs.getD i [])):=fun i hi W U=>(A.below U).at hi;have KP:=O s;have m:Hid ((∀q,q<Xs.length->p (Xs.getD q [])=false)->Xs.any p=false):=fun h=>z3J h;have a:Hid (∀q,q<Xs.length->p (Xs.getD q [])=true->Xs.any p=true):=fun q d h=>z1P d h;go_enter func117,ntmps117;go_wp2;go_loopw[5,8] (fun _ Z wr=>∃k:Nat,Z=.int .i64 k/\k<=Xs.length/\(∀q,q<k->p (Xs.getD q [])=false)/\Bw w wr) (fun _ Z _=>Xs.length-(intOf Z).toNat)
 case atStart=>exact t1A
 case round =>
  obtain⟨k,rfl,G,d,C⟩:=hrel;by_cases E:k<Xs.length
  ·have r:(k:Int)<Xs.length:=f6J;obtain⟨b1,P,v,rfl,j,f⟩:=V Y k E wr C;have K:=O (V KP k E wr v C f);obtain⟨F,I,H,_,_⟩:=f.shape;subst H;have X:=O (V a k E)
   have o:Hid (p (Xs.getD k [])=false->∀q,q<k+1->p (Xs.getD q [])=false):=fun h q L=>u1U
   have N:=O C;generalize p (Xs.getD k [])=z,(Xs.getD k []).length=S at *
   cases z with
   | true =>
    have n:=O (V X rfl);go_wp2_with(go_at_fn g;refine(V K).mono ?_;rintro e Q ⟨rfl,b1⟩);have R:=O (bthen (V N) b1);go_ret;exact⟨_,rfl,t3a,V R⟩
   | false =>
    have y:=O (V o rfl);go_wp2_with(go_at_fn g;refine(V K).mono ?_;rintro e Q ⟨rfl,b1⟩);have R:=O (bthen (V N) b1)
    go_roundw
    case rel=>exact t4u
    case measure=>exact g7T
  ·have n:=O (V m fun q h=>d q f6J);have r:¬((k:Int)<Xs.length):=f6J;have N:=O C;exact w7P
theorem z9m(g b:Nat)(D:∀args w,(callFunc g args).run prog w=.ok (.enter g args) w) p lv Xs w(A:x5B w lv Xs)(s:∀k,k<Xs.length->∀W v,Bw w W->Sk .i32 W v (Xs.getD k [])->Calls prog g #[v,.pointer (some ⟨b,0,none⟩)] W (x0g W (p (Xs.getD k [])))) :
  Calls prog 71 #[lv,.func (.func g) #[] #[.pointer (some ⟨b,0,none⟩)]] w (x0g w (Xs.any p)):=by
 have K:=O (z9U g b D p lv Xs w A s);obtain⟨J,M,rfl,_,_⟩:=A.shape;generalize Xs.any p=Y at *;go_enter func71,ntmps71;go_wp2_with fail;refine(V K).mono ?_;rintro e Q ⟨n,rfl,F,b1⟩;subst F;go_wp2;go_ret;exact⟨rfl,b1⟩
theorem y2s:∀args w,(callFunc 72 args).run prog w=.ok (.enter 72 args) w:=f0h
theorem z6p{pv b r w}{xv X}(A:Sk .i32 w xv X)(u:Calls prog 73 #[.pointer pv,xv] w (x0g w r))(Y:w.cell? ⟨b,0,none⟩=some (.pointer pv)):Calls prog 72 #[xv,.pointer (some ⟨b,0,none⟩)] w (x0g w r):=by
 have K:=O u;obtain⟨J,M,rfl,_,_⟩:=A.shape;go_enter func72,ntmps72;exact G8t
theorem z9z{pv p w lv}{Xs}(A:x5B w lv Xs)(u:∀W v X,Bw w W->Sk .i32 W v X->Calls prog 73 #[.pointer pv,v] W (x0g W (p X))):Calls prog 42 #[.pointer pv,lv] w (x0g w (Xs.any p)):=by
 have z:∀(fn:Fn) (first M:Array Value) (w:World),(Instr.makeFunc fn first M).run prog w=.ok (.func fn first M) w:=fun _ _ _ _=>rfl;have f:∀o,Bw w (w.alloc o):=fun o=>(b0r).alloc (l0r _) o
 have K:Hid (Calls prog 71 #[lv,.func (.func 72) #[] #[.pointer (some ⟨w.heap.size,0,none⟩)]] (w.alloc (.cells #[.pointer pv] 23)) (x0g (w.alloc (.cells #[.pointer pv] 23)) (Xs.any p))):=by
  refine z9m _ _ y2s _ lv Xs _ (A.below (f _)) fun k G W v U L=>z6p L (u W v _ (bthen (f _) U) L) ?_;rw[U.cell M7K];simp
 obtain⟨J,M,rfl,_,_⟩:=A.shape;go_enter func42,ntmps42;go_wp2_with fail;refine c0m K fun Q b1=>?_;have x:=O (bthen (f _) b1);go_wp2;go_ret;exact⟨rfl,V x⟩
open Ti
namespace Cn
def nfc19(rs:List Rec)(X:List Int):List Int:=Nm.cps (cls rs) (cmp9 rs) (nfd rs X)
def x5G(rs:List Rec)(X:List Int):Bool:=Bd.has (X.map (vget rs 4))
def x5C(rs:List Rec)(fl:Int)(X:List Int)(rtl dec:Bool):Nat:=Lb.err (of18 rs X) fl rtl dec X
def map19(rs:List Rec)(fl:Int)(X:List Int):List Int:=x0I (y1m rs (tr15 fl)) X
def proc19(rs:List Rec)(fl:Int)(zs:List Int):List (List Int)×Nat:=Id.proc (map19 rs fl) (nfc19 rs) (x5G rs) (x5C rs fl) zs
end Cn
theorem x5H{B p rs w}(H:Glob w)(F:x0n w B p rs)(G:(Cn.check rs).2=0)(K:∀r∈rs,RecFit r) fl:IdC p fl (Cn.map19 rs fl) (Cn.nfc19 rs) (Cn.x5G rs) (Cn.x5C rs fl) w:=by
 have q:=x2K G;refine⟨fun W v X U A S=>?_,fun W v X U A S=>?_,fun X S=>?_,fun W E C U A=>?_,fun W v X rtl dec U A S=>?_,fun X rtl dec=>?_,fun X h=>?_,fun X h=>?_⟩
 ·exact y9N p fl _ v X W A f6J (q0v fl W (F.below U) q K)
 ·exact q0m (q0o (F.below U) G) (z5j (H.on U) (F.below U) G) A S
 ·have Z:=Cn.z0b G X;have D:=(Nm.z5r (cl:=Cn.cls rs) (cp:=Cn.cmp9 rs) (Cn.nfd rs X)).2;unfold Cn.nfc19 Nm.cps;omega
 ·exact z9z A fun N v X P L=>z9T ((q0x (F.below U) q).on P) L
 ·exact z9c (plb18 (H.on U) (F.below U) G A S) A S fl rtl dec
 ·exact Nat.lt_of_lt_of_le Lb.z9D e8N
 ·exact Cn.z7p q (tr15 fl) h
 ·exact Cn.z6i q (Cn.z7w q h)
open Ti
namespace Cn
theorem tp1:proc19 x2d 47 [70,111,111,195,160,46,66]=([[102,111,111,224],[98]],0):=M3j
theorem tp2:proc19 x2d 47 [120,110,45,45,102,111,111,45,99,108,97,46,98]=([[102,111,111,224],[98]],0):=M3j
theorem tp3:proc19 x2d 47 [97,95,98]=([[97,95,98]],384):=M3j
theorem ta1:Id.toA (bits .and .i64 47 32==32) ([[102,111,111,224],[98]],0)=([120,110,45,45,102,111,111,45,99,108,97,46,98],0):=M3j
theorem ta3:Id.toA (bits .and .i64 47 32==32) ([[97,95,98]],384)=([],384):=M3j
theorem tu2 zs:Id.toU ([[102,111,111,224],[98]],0) zs=([102,111,111,195,160,46,98],0):=by
 unfold Id.toU;rw[if_neg M3j];exact M3j
end Cn
theorem z6G:Pu.fine [102,111,111,224]:=v3Q
open Ti
theorem q1j(x:List Int)(y:List Int)(P:List Int->Prop)(U:P [])(A:P x)(hy:P y):∀k,P (([x,y]:List (List Int)).getD k [])
 | 0=>A
 | 1=>hy
 | k+2=>by simpa[List.getD]using U
theorem z6H:Pu.fine [98]:=v3Q
theorem z6I:Pu.fine [97,95,98]:=v3Q
structure Lit19(q:Nat)(w:World):Prop where
 a:∀W,Below w.heap.size w W->Calls prog 11 #[.pointer (some ⟨q,0,none⟩),.string ⟨#[70,111,111,195,160,46,66]⟩] W (fun e w'=>e=.returned (.tuple #[.string ⟨#[120,110,45,45,102,111,111,45,99,108,97,46,98]⟩,.int .i64 0])/\Below W.heap.size W w')
 u:∀W,Below w.heap.size w W->Calls prog 12 #[.pointer (some ⟨q,0,none⟩),.string ⟨#[120,110,45,45,102,111,111,45,99,108,97,46,98]⟩] W (fun e w'=>e=.returned (.tuple #[.string ⟨#[102,111,111,195,160,46,98]⟩,.int .i64 0])/\Below W.heap.size W w')
 b:∀W,Below w.heap.size w W->Calls prog 11 #[.pointer (some ⟨q,0,none⟩),.string ⟨#[97,95,98]⟩] W (fun e w'=>e=.returned (.tuple #[.string ⟨#[]⟩,.int .i64 384])/\Below W.heap.size W w')
theorem lit19{B p q w}(H:Glob w)(F:x0n w B p Cn.x2d)(G:(Cn.check Cn.x2d).2=0)(Y:EngAt w q 47 p):Lit19 q w:=by
 have P:∀W,Bw w W->∀s:ByteArray,Calls prog 17 #[.pointer (some ⟨q,0,none⟩),.string s] W (y1Z W (Cn.proc19 Cn.x2d 47 (nums s))):=fun W U s=>x1h (x5H (H.on U) (F.below U) G z5g 47) (Y.on U) s;refine⟨fun W U=>?_,fun W U=>?_,fun W U=>?_⟩
 ·have h:=P W U ⟨#[70,111,111,195,160,46,66]⟩;rw[show nums ⟨#[70,111,111,195,160,46,66]⟩=[70,111,111,195,160,46,66]from rfl,Cn.tp1]at h;refine(x7y (Y.on U) h e8M (fun _=>⟨e8M,e8M,q1j _ _ (fun x=>x.length<=1000000000) e8M e8M e8M,fun k G N v A=>?_,q1j _ _ (fun x=>(Pu.encode x).1.length<=1000000000) M3k M3k M3k,M3k⟩) M3k).mono fun e C h=>?_
  ·match k,G with
   | 0,_=>exact x3b 1 y4F v _ N A e8M M3k (fun _=>z6G)
   | 1,_=>exact x3b 1 y4F v _ N A e8M M3k (fun _=>z6H)
  ·rw[Cn.ta1]at h;exact h
 ·have h:=P W U ⟨#[120,110,45,45,102,111,111,45,99,108,97,46,98]⟩;rw[show nums ⟨#[120,110,45,45,102,111,111,45,99,108,97,46,98]⟩=[120,110,45,45,102,111,111,45,99,108,97,46,98]from rfl,Cn.tp2]at h;refine(x2A h e8M e8M).mono fun e C h=>?_;rw[Cn.tu2]at h;exact h
 ·have h:=P W U ⟨#[97,95,98]⟩;rw[show nums ⟨#[97,95,98]⟩=[97,95,98]from rfl,Cn.tp3]at h;refine(x7y (Y.on U) h e8M (fun _=>⟨e8M,e8M,fun k=>?_,fun k G N v A=>?_,fun k=>?_,M3k⟩) M3k).mono fun e C h=>?_
  ·match k with
   | 0=>decide
   | k+1=>simp[List.getD]
  ·match k,G with
   | 0,_=>exact x3b 1 y4F v _ N A e8M M3k (fun _=>z6I)
  ·match k with
   | 0=>exact M3k
   | k+1=>show(Pu.encode (([[97,95,98]]:List (List Int)).getD (k+1) [])).1.length<=_;rw[show(([[97,95,98]]:List (List Int)).getD (k+1) [])=[]by simp[List.getD]];decide +kernel
  ·rw[Cn.ta3]at h;exact h
open Ti
theorem z1t w(hg:Glob w):Calls prog 9 #[] w (y4Q w true):=by
 have l:=O (y5X w);have o:=O hg;clear hg;go_enter func9,ntmps9;go_wp2_with fail;refine(V l).mono ?_;rintro e1 w1 ⟨v1,ay,rfl,W,s,b1⟩;have R1:=y3a s W e8M z5g;have j:=O (x6f _ _ w1 ((V o).on b1) R1);rw[Cn.q0c]at j;obtain⟨a1,ar,d,_,am⟩:=R1.shape;subst d;have R:=O b1;clear l R1 s b1 W;go_wp2_with fail;refine(V j).mono ?_;rintro e2 w2 ⟨i,h2⟩;have X:=O (bthen (V R) i);clear j i R;rcases h2 with⟨y,_⟩ | ⟨n,p,v2,m,rfl,hD,r2,Z⟩
 ·exact absurd (by rw[Cn.y1b]) y
 ·obtain⟨a2,aw,C⟩:∃a c,v2=.slice a m.length c:=by
   rcases r2.1.2 with⟨h,h0⟩ | ⟨g,aq,t,e,_⟩
   ·exact N2v
   ·exact m4S
  subst C;have ae:=O hD;have ab:=O n;clear r2 Z hD n;generalize m.length=pl at *;have k:=O (y6e p 47 e8M e8M w2);go_wp2_with fail;refine(V k).mono ?_;rintro e3 w3 ⟨q,rfl,Y,b3⟩;have L:=O (lit19 ((V o).on (bthen (V X) b3)) ((V ae).below b3) (V ab) Y);have J:=O (bthen (V X) b3);have M:=O Y;have K4:=O (z3I 0 w3);clear k X ae ab b3 Y;go_wp2_with fail;refine c0m K4 fun w4 b4=>?_;have K5:=O (z3H p 64 (.inr e8M) w4);clear K4;go_wp2_with fail;refine c0m K5 fun w5 T=>?_;have D:=bthen b4 T;have K6:=O ((V L).a w5 D);clear K5 b4 T;go_wp2_with fail;refine c0m K6 fun w6 z=>?_;have E:=bthen D z;have K7:=O ((V L).u w6 E);clear K6 z D;go_wp2_with fail;refine c0m K7 fun w7 b7=>?_;have F:=bthen E b7;have N:=O ((V L).b w7 F);clear K7 b7 E;go_wp2_with fail;refine c0m N fun w8 Q=>?_;have G:=bthen F Q;have H:=(V M).on G;have c8:=H.f;have K9:=O (x5G 47 8 w8);rw[(M3k:(bits .and .i64 47 8==8)=true)]at K9;clear N Q F L M;go_wp2_with fail;refine c0m K9 fun w9 b9=>?_;have P:=bthen G b9;have K:=H.on b9;have U:=K.f;have r:=O (x5G 47 16 w9);rw[(M3k:(bits .and .i64 47 16==16)=false)]at r;clear K9 b9 G H c8;go_wp2_with fail;refine c0m r fun I B=>?_;have A:=bthen P B;have aj:=(K.on B).f;have v:=O (y2A 47 I);clear r B P K U;go_wp2_with fail;refine c0m v fun aA S=>?_;have x:=O (bthen (V J) (bthen A S));clear v S A aj J;go_wp2;go_ret;exact⟨rfl,V x⟩
open Ti
namespace Id
theorem or4{a b}(E:a%4=0)(Y:b%4=0):(a|||b)%4=0:=by
 have h:=Nat.or_mod_two_pow (a:=a) (b:=b) (n:=2);rw[(e8M:(2:Nat)^2=4),E,Y]at h;exact h
theorem ite4{c:Prop}[Decidable c]{a b}(E:a%4=0)(Y:b%4=0):(if c then a else b)%4=0:=by split<;>assumption
theorem z6M:∀(l:List Nat) (a:Nat),a%4=0->(∀z∈l,z%4=0)->l.foldl (·|||·) a%4=0
 | [],_,ha,_=>ha
 | z::l,_,ha,h=>z6M l _ (or4 ha (h z M7K)) fun y hy=>h y (by simp[hy])
theorem err4{o fl rtl dec X}:Lb.err o fl rtl dec X%4=0:=by
 have F:∀c,Lb.nb o fl dec c%4=0:=fun c=>or4 (or4 (ite4 e8M e8M) (ite4 e8M e8M)) (ite4 e8M e8M)
 have C:Lb.num o fl dec X%4=0:=by
  have:=z6M (X.map (Lb.nb o fl dec)) 0 rfl fun z u=>(by obtain⟨c,_,rfl⟩:=List.mem_map.1 u;exact F c);rwa [List.foldl_map]at this
 exact ite4 rfl (or4 (or4 (or4 (or4 (or4 (ite4 e8M e8M) (ite4 (ite4 e8M e8M) (ite4 e8M e8M))) (ite4 e8M e8M)) C) (ite4 e8M e8M)) (ite4 e8M e8M))
theorem rdc4 x:rdc x%4=0:=by
 unfold rdc rd;split
 ·rfl
 ·split
  ·show 2048%4=0;decide
  ·split
   ·show 4096%4=0;decide
   ·rfl
theorem acc4{ck}(h:∀X r d,ck X r d%4=0) rtl xss:acc ck rtl xss%4=0 :=
 z6M _ 0 rfl fun z u=>by
  obtain⟨x,_,rfl⟩:=List.mem_map.1 u;exact ite4 (h _ _ _) (rdc4 x)
theorem ways{mp nc hr ck}(S:∀X:List Int,X.length<=65536->(nc X).length<=2097152)(F:∀X r d,ck X r d%4=0)(o:∀X,Snd X->Snd (mp X))(C:∀X,Snd X->Snd (nc X)){zs}(Y:Utf.Byt zs) :
  (∃c,proc mp nc hr ck zs=([],c)/\(c=1\/c=2))\/∃E n,proc mp nc hr ck zs=(E,n)/\n%4=0/\0<E.length/\E.length<=2097153/\Spl.total E<=16777216/\∀y∈E,Snd y:=by
 rcases hc:cut mp nc zs with⟨B,c⟩;by_cases U:c=0
 ·subst U;by_cases t:16384<cnt (Utf.encA 0 (Spl.join (read B)))
  ·exact .inl ⟨2,y4z hc t,.inr rfl⟩
  ·obtain⟨p,D,G⟩:=y8g S hc;refine .inr ⟨_,_,z0z hc t,acc4 F _ _,by simpa[read]using p,by simpa[read]using D,?_,y4B (y8f o C Y hc)⟩;have:=x8F B;omega
 ·have A:B=[]/\(c=1\/c=2):=by
   unfold cut at hc;split at hc
   ·exact U6r
   ·split at hc
    ·obtain⟨rfl,rfl⟩:=Prod.mk.inj hc;exact⟨rfl,.inl rfl⟩
    ·split at hc
     ·exact U6r
     ·exact absurd (Prod.mk.inj hc).2.symm U
  obtain⟨rfl,h⟩:=A;exact .inl ⟨c,z0y hc U,h⟩
theorem z5K fl:∃f:Nat,f<64/\bits .and .i64 fl 63=(f:Int):=by
 refine⟨(BitVec.ofInt 64 fl&&&BitVec.ofInt 64 63).toNat,?_,?_⟩
 ·exact i9W
 ·have h:(BitVec.ofInt 64 fl&&&BitVec.ofInt 64 63).toNat<64:=i9W
  show IntKind.i64.wrap (((BitVec.ofInt 64 fl&&&BitVec.ofInt 64 63).toNat:Nat):Int)=_;generalize(BitVec.ofInt 64 fl&&&BitVec.ofInt 64 63).toNat=n at *;exact G8v
theorem ur4{n}(h:n%4=0):ur n=false:=by
 have Z:bits .and .i64 (n:Int) 3=0:=by
  show IntKind.i64.wrap (((BitVec.ofInt 64 (n:Int)&&&BitVec.ofInt 64 ((3:Nat):Int)).toNat:Nat):Int)=_;rw[BitVec.ofInt_natCast,BitVec.ofInt_natCast,BitVec.toNat_and,BitVec.toNat_ofNat,BitVec.toNat_ofNat,(e8N:3%2^64=2^2-1),Nat.and_two_pow_sub_one_eq_mod,(f6J:n%2^64%2^2=0)];rfl
 unfold ur;rw[Z];rfl
end Id
theorem ways19{p fl rs w}(h:IdC p fl (Cn.map19 rs fl) (Cn.nfc19 rs) (Cn.x5G rs) (Cn.x5C rs fl) w) s :
  (∃c,Cn.proc19 rs fl (nums s)=([],c)/\(c=1\/c=2))\/∃E n,Cn.proc19 rs fl (nums s)=(E,n)/\n%4=0/\0<E.length/\E.length<=2097153/\Spl.total E<=16777216/\∀y∈E,Id.Snd y :=
 Id.ways h.len (fun _ _ _=>Id.err4) h.ms h.ns (x0B s)
theorem Mu.shape19{w B U v xss}(h:Mu w B U v xss):∃a c,v=.slice a xss.length c:=by
 obtain⟨j,Z,D,_⟩:=h;rcases D.2 with⟨h,A⟩ | ⟨g,M,t,e,_⟩
 ·exact⟨none,0,by rw[h,A]⟩
 ·exact m4S
namespace Pu
theorem z1H(xs:List Int):∀(r:List Nat) (T out:List Int),(wr1 xs r T out).2.length=out.length+r.length
 | [],_,_=>rfl
 | c::r,T,out=>by rw[wr1,z1H xs r];exact P8P
theorem z5w(xs:List Int):∀(r:List Nat) (T:List Int) (p n i bias:Int) (f:Bool) (out:List Int),wok xs r T p n i=true->(wr2 xs r T p n i bias f out).1.length<=out.length+32*r.length
 | [],_,_,_,_,_,_,out,_=>by rw[wr2];exact M7L
 | c::r,T,p,n,i,bias,f,out,h=>by
  obtain⟨U,_,D⟩:=y0j h;by_cases N:2147483647<dlt xs c T p n i
  ·rw[y0k N];simp
  ·rw[y0l N];have y:=D.resolve_left N;have:=z5w xs r _ _ _ _ (adapt (dlt xs c T p n i) (p+1) f) false (out++wrNum (dlt xs c T p n i) bias) y;have F:=x7F (v:=dlt xs c T p n i) (bias:=bias) U f6J;rw[List.length_append]at this;rw[List.length_cons];omega
theorem encode_len{xs:List Int}(S:xs.length<=16384):(encode xs).1.length<=600000:=by
 unfold encode;split
 ·simp
 ·rename_i hs
  obtain⟨_,M,r⟩:=y3Y S (by simpa using hs);refine Nat.le_trans (z5w xs _ _ _ _ _ _ _ _ r) ?_;rw[List.length_append,z1H];have:(if(idx xs lowq).length=0 then([]:List Int)else[45]).length<=1:=f1Z;simp only[List.length_nil];omega
end Pu
namespace Id
theorem z8Z{x}(S:x.length<=16384):(ca x).1.length<=600004:=by
 have Z:=Pu.encode_len S;have D:(txt x).length<=4*x.length:=Utf.x9e 0 _;unfold ca;split
 ·simp only;omega
 ·split
  ·simp
  ·exact f4R
theorem y9w{M:Nat}:∀l:List (List Int),(∀y∈l,y.length<=M)->(Spl.join l).length<=l.length*(M+1)
 | [],_=>by simp[Spl.join]
 | [a],h=>by have:=h a M7L;simp[Spl.join];exact f6J
 | a::b::l,h=>by
  have Z:=h a M7L;have D:=y9w (b::l) fun y hy=>h y F7M;rw[Spl.join_cons a M7L,List.length_append,List.length_cons,List.length_cons,Nat.succ_mul];omega
theorem z1D{E:List (List Int)}(S:∀y∈E,y.length<=16384)(F:E.length<=2097153):(whole E).length<=140737488355328:=by
 have:=y9w (M:=600004) (E.map fun y=>(ca y).1) fun y g=>by
  obtain⟨x,A,rfl⟩:=List.mem_map.1 g;exact z8Z (S x A)
 rw[List.length_map]at this;unfold whole;exact Nat.le_trans this (Nat.le_trans (Nat.mul_le_mul_right _ F) e8M)
theorem z2v v yss:(carry v yss).2<65536:=by
 refine Nat.or_lt_two_pow (n:=16) (Nat.or_lt_two_pow (n:=16) (z6s v yss) ?_) ?_
 ·split<;>decide
 ·split<;>decide
theorem y6p{mp nc hr ck zs}(h:∀X r d,ck X r d<65536):(proc mp nc hr ck zs).2<65536:=by
 unfold proc;split
 ·unfold cut
  repeat' split
  all_goals simp only
  all_goals decide
 ·split
  ·simp only;decide
  ·exact x5l h _ _
theorem z3V{mp nc hr ck zs}(L:∀y∈(proc mp nc hr ck zs).1,Snd y){y}(hy:y∈(proc mp nc hr ck zs).1):y.length<=16384:=by
 unfold proc at L hy;split at hy
 ·cases hy
 ·rename_i h0
  rw[if_neg h0]at L;split at hy
  ·cases hy
  ·rename_i h1
   rw[if_neg h1]at L;simp only at L hy;have D:=y7Y (x9t L);obtain⟨k,G,rfl⟩:=List.mem_iff_getElem.1 hy;have J:=x9W (read (cut mp nc zs).1) k;rw[(w7Y:(read (cut mp nc zs).1).getD k []=(read (cut mp nc zs).1)[k])]at J;omega
theorem y3H{rs}{g:Int}{zs}(S:zs.length<=16384)(hd:(Utf.dec 0 zs).2.2≠0):Cn.proc19 rs g zs=([],1):=by
 unfold Cn.proc19 proc;rw[y8e f6J hd];rfl
def Sub(a b:Nat):Prop:=∀i,a.testBit i=true->b.testBit i=true
theorem Sub.refl a:Sub a a:=fun _ h=>h
theorem Sub.or{a b c d}(Z:Sub a c)(D:Sub b d):Sub (a|||b) (c|||d):=fun i h=>by
 rw[Nat.testBit_or,Bool.or_eq_true]at h ⊢;exact h.imp (Z i) (D i)
theorem Sub.left a b:Sub a (a|||b):=fun i h=>by rw[Nat.testBit_or,h];rfl
theorem Sub.zero{a b}(h:Sub a b)(Y:b=0):a=0:=by
 subst Y;apply Nat.eq_of_testBit_eq;intro i;rw[Nat.zero_testBit]
 cases e:a.testBit i with
 | false=>rfl
 | true=>have:=h i e;rw[Nat.zero_testBit]at this;cases this
theorem z7y{a b:Nat}(h:Sub a b):bits .andNot .i64 (a:Int) (b:Int)=0:=by
 have U:BitVec.ofNat 64 a&&&~~~ (BitVec.ofNat 64 b)=0#64:=by
  apply BitVec.eq_of_getLsbD_eq;intro i hi;rw[BitVec.getLsbD_and,BitVec.getLsbD_not,BitVec.getLsbD_ofNat,BitVec.getLsbD_ofNat,d0t hi]
  cases e:a.testBit i with
  | false=>simp
  | true=>simp[h i e]
 show IntKind.i64.wrap (((BitVec.ofInt 64 (a:Int)&&&~~~ (BitVec.ofInt 64 (b:Int))).toNat:Nat):Int)=_;rw[BitVec.ofInt_natCast,BitVec.ofInt_natCast,U];rfl
theorem z8p v r:Sub r.2 (toA v r).2:=by
 unfold toA
 repeat' split
 ·exact Sub.refl _
 ·exact Sub.left _ _
 ·rename_i h
  have U:r.2|||(carry v r.1).2=0:=Decidable.of_not_not h;have:=(Sub.left r.2 (carry v r.1).2).zero U;rw[this];exact Sub.refl _
def Way(r:List (List Int)×Nat):Prop:=(∃c,r=([],c)/\(c=1\/c=2))\/∃yss n,r=(yss,n)/\n%4=0/\0<yss.length/\yss.length<=2097153/\Spl.total yss<=16777216/\∀y∈yss,Snd y
theorem Way.total{r}(h:Way r):Spl.total r.1+r.1.length<=1000000000:=by
 rcases h with⟨c,rfl,_⟩ | ⟨E,n,rfl,_,_,Z,D,_⟩
 ·simp[Spl.total]
 ·simp only;omega
theorem Way.len{r}(h:Way r):r.1.length<=2097153:=by
 rcases h with⟨c,rfl,_⟩ | ⟨E,n,rfl,_,_,Z,_,_⟩
 ·simp
 ·exact Z
end Id
theorem z8o{w q p fl rs}(S:IdC p fl (Cn.map19 rs fl) (Cn.nfc19 rs) (Cn.x5G rs) (Cn.x5C rs fl) w)(Y:EngAt w q fl p){s}(l:Calls prog 17 #[.pointer (some ⟨q,0,none⟩),.string s] w (y1Z w (Cn.proc19 rs fl (nums s)))) :
  Calls prog 11 #[.pointer (some ⟨q,0,none⟩),.string s] w (x6s w (Id.toA (bits .and .i64 fl 32==32) (Cn.proc19 rs fl (nums s)))):=by
 have X:(Cn.proc19 rs fl (nums s)).2<65536:=Id.y6p S.lt;refine x7y Y l X (fun d=>?_) (Id.z2v _ _);rcases ways19 S s with⟨c,h,I⟩ | ⟨E,n,h,_,R,F,_,o⟩
 ·rw[h]at d;rcases I with rfl | rfl<;>exact absurd d e8N
 ·have Q:∀y∈(Cn.proc19 rs fl (nums s)).1,y.length<=16384:=fun y g=>Id.z3V (by
   show ∀y∈(Cn.proc19 rs fl (nums s)).1,Id.Snd y
   rw[h];exact o) g
  rw[h]at Q ⊢
  have hk:∀k,(E.getD k []).length<=16384:=fun k=>by
   rcases Nat.lt_or_ge k E.length with hk | hk
   ·rw[List.getD,List.getElem?_eq_getElem hk];exact Q _ (List.getElem_mem hk)
   ·rw[List.getD,List.getElem?_eq_none hk];exact Nat.zero_le _
  exact⟨R,by simp only;exact f6J,fun k=>Nat.le_trans (hk k) e8N,fun k _ W v A=>y5w v _ W A (hk k),fun k=>Nat.le_trans (Pu.encode_len (hk k)) e8N,Id.z1D Q F⟩
