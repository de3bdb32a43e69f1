/- It19 Bg17 Bt17 Ik19 Im19 In19 Io19 -/
import Derived.Test.YtbmckadcjdedcaaGreatDoorD6
import Derived.Test.YtbmckadcjdedcaaGreatDoorD38
import Derived.Test.YtbmckadcjdedcaaGreatDoorD50
set_option maxHeartbeats 8000000
set_option maxRecDepth 100000
namespace Go.Proofs.YtbmckadcjdedcaaGreatDoor
open Go.Proofs.Tryz
open Go.RowKit
open Ti
section
variable{p:Prop}
theorem M3k(h:p:=by decide +kernel):p:=h
theorem N9q(h:p:=by intro z o;simp only[List.mem_cons,List.not_mem_nil,or_false]at o;unfold Utf.okc;omega):p:=h
theorem R0v(h:p:=by intro z o;cases o):p:=h
theorem v3Q(h:p:=by refine⟨M3j,M3j,M3j⟩):p:=h
theorem m0v(h:p:=by exact⟨none,0,by rw[h,T]⟩):p:=h
end
namespace Cn
theorem x3r{c:Int}(h:scalar c=true):Utf.okc c:=by
 unfold scalar at h;have:=o0d h;unfold Utf.okc;omega
theorem z4G{k:Int}(h:fam k=1):1<=k/\k<=5:=by
 unfold fam at h
 (repeat' split at h)<;>omega
theorem z2t{r:Rec}(h:right r=0)(z:fam r.kind=1):∀c∈r.to,scalar c=true:=by
 have G:=z4G z;have C:=x0v h;unfold right at h;rw[if_neg C,if_neg f6J]at h;have I:=x1y h;rw[Bool.and_eq_true]at I;have Z:=I.2;by_cases D:r.kind=1\/r.kind=2\/r.kind=11
 ·rw[if_pos D]at Z;unfold bare at Z;simp only[Bool.and_eq_true,Bool.false_or]at Z;have:=o0d Z.1.1.1.2;intro c I;rw[List.eq_nil_of_length_eq_zero this]at I;cases I
 ·rw[if_neg D]at Z;by_cases R:r.kind=3
  ·rw[if_pos R,Bool.and_eq_true]at Z;exact(x0t Z.2).2
  ·rw[if_neg R]at Z;by_cases H:r.kind=4
   ·rw[if_pos H]at Z;simp only[Bool.and_eq_true]at Z;exact(x0t Z.1.2).2
   ·rw[if_neg H,if_pos f6J]at Z;simp only[Bool.and_eq_true]at Z;exact(x0t Z.2).2
theorem y0V{r:Rec}(h:right r=0)(H:r.kind=4):r.to.getD 0 0+r.hi-r.lo<55296\/57343<r.to.getD 0 0:=by
 have z:=x0v h;unfold right at h;rw[if_neg z,if_neg f6J]at h;have I:=x1y h;rw[Bool.and_eq_true,if_neg f6J,if_neg f6J,if_pos H]at I;have Z:=I.2;simp only[Bool.and_eq_true]at Z;exact(o0d Z.2).2
theorem x6L{rs:List Rec}(F:(check6 rs).2=0)(c:Int):Id.Snd (mapping rs c):=by
 unfold mapping;split
 ·rename_i h4
  have U:=x4k F c h4;rcases rget_cases F (f:=1) e8M c with⟨_,e⟩ | ⟨_,_,_,X,u⟩
  ·rw[e]at h4;exact absurd h4 e8M
  ·have p:=y0V u h4;intro z o;rw[List.mem_singleton]at o;subst o;have:=x2E X;unfold Utf.okc;omega
 ·rcases rget_cases F (f:=1) e8M c with⟨_,e⟩ | ⟨_,_,A,_,u⟩
  ·rw[e];exact R0v
  ·exact fun z o=>x3r (z2t u A z o)
theorem z5H{rs:List Rec}(F:(check6 rs).2=0)(t:Bool){c:Int}(I:Utf.okc c):Id.Snd (y2k rs t c):=by
 unfold y2k;split
 ·exact R0v
 ·split
  ·exact x6L F c
  ·split
   ·exact x6L F c
   ·intro z o;rw[List.mem_singleton]at o;subst o;exact I
theorem z5w{rs:List Rec}(F:(check6 rs).2=0)(t:Bool){X:List Int}(h:Id.Snd X):Id.Snd (x0I (y2k rs t) X):=fun z o=>by
 unfold x0I at o;obtain⟨l,S,o⟩:=List.mem_flatten.1 o;obtain⟨c,I,rfl⟩:=List.mem_map.1 S;exact z5H F t (h c I) z o
theorem z5J{rs:List Rec}(F:(check6 rs).2=0)(c:Int):Id.Snd (opn rs c):=by
 unfold opn;split
 ·rename_i X
  unfold syl at X;have X:=o0d X;split
  ·exact N9q
  ·exact N9q
 ·split
  ·rename_i r he
   obtain⟨i,U,M⟩:=(x1T F e8M r).1 he;have u:=(x0m.1 F).2.1 r i;rcases fam_three U with x | h8
   ·exact fun z o=>x3r ((x0t (x0A u x).2.2).2 z o)
   ·exact fun z o=>x3r ((x0t (x2D u h8).2.2).2 z o)
  ·intro z o;cases o
theorem z2P{rs:List Rec}(F:(check6 rs).2=0):∀(f:Nat) (B:List Int) (c:Int) (out:List Int),Utf.okc c->Id.Snd out->Id.Snd (walk rs f B c out).1:=by
 have leaf:∀(c:Int) (out:List Int),Utf.okc c->Id.Snd out->Id.Snd (if 32<=out.length then(([]:List Int),(2:Int))else(out++[c],0)).1:=fun c out I y=>by
  split
  ·exact R0v
  ·intro z o;rcases List.mem_append.1 o with h | h
   ·exact y z h
   ·rw[List.mem_singleton]at h;subst h;exact I
 intro f
 induction f with
 | zero =>
  intro B c out I y;rw[walk];split
  ·exact leaf c out I y
  ·split
   ·exact R0v
   ·exact R0v
 | succ f ih =>
  intro B c out I y;rw[walk];split
  ·exact leaf c out I y
  ·split
   ·exact R0v
   ·have i:=z5J F c;revert i;generalize opn rs c=l
    suffices ∀(l:List Int) (s:List Int×Int),Id.Snd l->Id.Snd s.1->Id.Snd (l.foldl (fun s d=>if s.2=0 then walk rs f (B++[c]) d s.1 else s) s).1 from fun h=>this l (out,0) h y
    intro l
    induction l with
    | nil=>intro s _ X;exact X
    | cons d l ihl =>
     intro s S X;refine ihl _ (fun z o=>S z m6g) ?_;show Id.Snd (if s.2=0 then walk rs f (B++[c]) d s.1 else s).1;split
     ·exact ih _ _ _ (S d M7K) X
     ·exact X
theorem z5D{rs:List Rec}(F:(check6 rs).2=0){X:List Int}(h:Id.Snd X):Id.Snd (nfd rs X):=fun z o=>by
 have D:=Od.y9c (fun c=>x3Z F c) o;unfold openAll at D;obtain⟨l,S,o⟩:=List.mem_flatten.1 D;obtain⟨c,I,rfl⟩:=List.mem_map.1 S;exact z2P F 16 [] c [] (h c I) (fun z o=>by cases o) z o
theorem z4p{rs:List Rec}(F:(check6 rs).2=0)(a b:Int)(h:(cmp9 rs a b).2=true):Utf.okc (cmp9 rs a b).1:=by
 unfold cmp9 at h ⊢;split
 ·rename_i hs
  unfold sylOf at hs ⊢;split
  ·rename_i h1
   unfold jl jv at h1;simp only[Bool.and_eq_true,decide_eq_true_eq]at h1;unfold Utf.okc;show(0<=44032+((a-4352)*21+b-4449)*28/\_)\/_;omega
  ·rename_i h1
   rw[if_neg h1]at hs;split
   ·rename_i h2
    unfold bare2 jt syl at h2;simp only[Bool.and_eq_true,decide_eq_true_eq]at h2;unfold Utf.okc;show(0<=a+b-4520+1/\_)\/_;omega
   ·rename_i h2
    rw[if_neg h2]at hs;simp at hs
 ·rename_i hs
  rw[if_neg hs]at h
  cases hp:x2K rs a b with
  | none=>rw[hp]at h;simp at h
  | some p =>
   unfold x2K at hp;obtain⟨r,u,rfl⟩:=Option.map_eq_some_iff.1 hp;have U:=List.mem_reverse.1 (List.mem_of_find?_eq_some u);have A:isP a b r=true:=List.find?_some u;have hi:r.kind=7/\r.to.getD 0 0=a/\r.to.getD 1 0=b:=o0d A;exact x3r (x0A ((x0m.1 F).2.1 r U) hi.1).2.1
theorem z4r{rs:List Rec}(F:(check6 rs).2=0){X:List Int}(h:Id.Snd X):Id.Snd (Nm.cps (cls rs) (cmp9 rs) X):=by
 unfold Nm.cps Nm.run
 suffices ∀(X:List Int) (s:List Int×Int),Id.Snd X->Id.Snd s.1->Id.Snd (X.foldl (Nm.stp (cls rs) (cmp9 rs)) s).1 from this X ([],-1) h (fun z o=>by cases o)
 intro X
 induction X with
 | nil=>intro s _ A;exact A
 | cons c X ih =>
  intro s C A;refine ih _ (fun z o=>C z m6g) ?_;unfold Nm.stp;split
  ·rename_i hf
   unfold Nm.fits at hf;simp only[Bool.and_eq_true]at hf;intro z o;rcases List.mem_or_eq_of_mem_set o with h1 | h1
   ·exact A z h1
   ·subst h1;exact z4p F _ _ hf.2.2
  ·intro z o;rcases List.mem_append.1 o with h1 | h1
   ·exact A z h1
   ·rw[List.mem_singleton]at h1;subst h1;exact C _ M7K
end Cn
namespace Bd
end Bd
theorem z2e{N:List (List Int)}{p:List Int->Bool}(h:∀i,i<N.length->p (N.getD i [])=false):N.any p=false:=P3h
theorem z0y{N:List (List Int)}{p:List Int->Bool}{i:Nat}(hi:i<N.length)(h:p (N.getD i [])=true):N.any p=true:=by grind
theorem z7J(g b:Nat)(y:∀args w,(callFunc g args).run prog w=.ok (.enter g args) w)(p:List Int->Bool)(c:Value)(N:List (List Int))(w:World)(J:x5u w c N)(A:∀k,k<N.length->∀W a,Bw w W->Sk .i32 W a (N.getD k [])->Calls prog g #[a,.pointer (some ⟨b,0,none⟩)] W (x0c W (p (N.getD k [])))) :
  Calls prog 107 #[c,.func (.func g) #[] #[.pointer (some ⟨b,0,none⟩)]] w (IdxB w (N.any p)):=by
 have d:=J.1;obtain⟨s,M,rfl,_,_⟩:=J.shape;have f:Hid (∀i,i<N.length->∀W,Bw w W->∃b P a,s=some ⟨b,P,none⟩/\W.cell? ⟨b,P+i,none⟩=some a/\Sk .i32 W a (N.getD i [])):=fun i hi W t=>(J.below t).at hi;have KP:=O A;have m:Hid ((∀q,q<N.length->p (N.getD q [])=false)->N.any p=false):=fun h=>z2e h;have E:Hid (∀q,q<N.length->p (N.getD q [])=true->N.any p=true):=fun q L h=>z0y L h;go_enter func107,ntmps107;go_wp2;go_loopw[5,8] (fun _ S wr=>∃k:Nat,S=.int .i64 k/\k<=N.length/\(∀q,q<k->p (N.getD q [])=false)/\Bw w wr) (fun _ S _=>N.length-(intOf S).toNat)
 case atStart=>exact t1A
 case round =>
  obtain⟨k,rfl,G,L,r⟩:=hrel;by_cases H:k<N.length
  ·have j:(k:Int)<N.length:=f6J;obtain⟨b1,P,a,rfl,F,U⟩:=V f k H wr r;have K:=O (V KP k H wr a r U);obtain⟨C,I,B,_,_⟩:=U.shape;subst B;have x:=O (V E k H)
   have T:Hid (p (N.getD k [])=false->∀q,q<k+1->p (N.getD q [])=false):=fun h q D=>by
    rcases Nat.lt_or_ge q k with h1 | h1
    ·exact L q h1
    ·exact P3A
   have R:=O r;generalize p (N.getD k [])=z,(N.getD k []).length=X at *
   cases z with
   | true =>
    have n:=O (V x rfl);go_wp2_with(go_at_fn g;refine(V K).mono ?_;rintro e Q ⟨rfl,b1⟩);have l:=O (x0b (V R) b1);go_ret;exact⟨_,rfl,t3b,V l⟩
   | false =>
    have Z:=O (V T rfl);go_wp2_with(go_at_fn g;refine(V K).mono ?_;rintro e Q ⟨rfl,b1⟩);have l:=O (x0b (V R) b1)
    go_roundw
    case rel=>exact⟨k+1,g2A,f6J,V Z,V l⟩
    case measure=>exact g7T
  ·have n:=O (V m fun q h=>L q f6J);have j:¬((k:Int)<N.length):=f6J;exact E1w
theorem z7d(g b:Nat)(y:∀args w,(callFunc g args).run prog w=.ok (.enter g args) w)(p:List Int->Bool)(q:Value)(N:List (List Int))(w:World)(J:x5u w q N)(A:∀k,k<N.length->∀W a,Bw w W->Sk .i32 W a (N.getD k [])->Calls prog g #[a,.pointer (some ⟨b,0,none⟩)] W (x0c W (p (N.getD k [])))) :
  Calls prog 65 #[q,.func (.func g) #[] #[.pointer (some ⟨b,0,none⟩)]] w (x0c w (N.any p)):=by
 have K:=O (z7J g b y p q N w J A);obtain⟨s,M,rfl,_,_⟩:=J.shape;generalize N.any p=C at *;go_enter func65,ntmps65;go_wp2_with fail;refine(V K).mono ?_;rintro e Q ⟨n,rfl,E,b1⟩;subst E;go_wp2;go_ret;exact⟨rfl,b1⟩
theorem y1M:∀args w,(callFunc 66 args).run prog w=.ok (.enter 66 args) w:=f0h
theorem z4A{A:Option Addr}{b:Nat}{r:Bool}{w:World}{a:Value}{X:List Int}(J:Sk .i32 w a X)(u:Calls prog 67 #[.pointer A,a] w (x0c w r))(C:w.cell? ⟨b,0,none⟩=some (.pointer A)):Calls prog 66 #[a,.pointer (some ⟨b,0,none⟩)] w (x0c w r):=by
 have K:=O u;obtain⟨s,M,rfl,_,_⟩:=J.shape;go_enter func66,ntmps66;exact G8t
theorem z7p{A:Option Addr}{p:List Int->Bool}{w:World}{q:Value}{N:List (List Int)}(J:x5u w q N)(u:∀W a X,Bw w W->Sk .i32 W a X->Calls prog 67 #[.pointer A,a] W (x0c W (p X))):Calls prog 37 #[.pointer A,q] w (x0c w (N.any p)):=by
 have v:∀(Z:Fn) (first M:Array Value) (w:World),(Instr.makeFunc Z first M).run prog w=.ok (.func Z first M) w:=fun _ _ _ _=>rfl;have U:∀o,Bw w (w.alloc o):=fun o=>(b0r).alloc (l0r _) o
 have K:Hid (Calls prog 65 #[q,.func (.func 66) #[] #[.pointer (some ⟨w.heap.size,0,none⟩)]] (w.alloc (.cells #[.pointer A] 22)) (x0c (w.alloc (.cells #[.pointer A] 22)) (N.any p))):=by
  refine z7d _ _ y1M _ q N _ (J.below (U _)) fun k G W a t D=>z4A D (u W a _ (x0b (U _) t) D) ?_;rw[t.cell M7K];simp
 obtain⟨s,M,rfl,_,_⟩:=J.shape;go_enter func37,ntmps37;exact u2f
open Ti
namespace Cn
def z2d(rs:List Rec)(X:List Int):List Int:=Nm.cps (cls rs) (cmp9 rs) (nfd rs X)
def y0q(rs:List Rec)(X:List Int):Bool:=Bd.has (X.map (vget rs 4))
def z4l(rs:List Rec)(fl:Int)(X:List Int)(rtl dec:Bool):Nat:=Lb.err (of18 rs X) fl rtl dec X
def z5v(rs:List Rec)(fl:Int)(X:List Int):List Int:=x0I (y2k rs (tr15 fl)) X
def proc19(rs:List Rec)(fl:Int)(zs:List Int):List (List Int)×Nat:=Id.proc (z5v rs fl) (z2d rs) (y0q rs) (z4l rs fl) zs
end Cn
theorem z5b{B p:Nat}{rs:List Rec}{w:World}(Y:Glob w)(b:x0n w B p rs)(G:(Cn.check rs).2=0)(o:∀r∈rs,RecFit r)(fl:Int):IdC p fl (Cn.z5v rs fl) (Cn.z2d rs) (Cn.y0q rs) (Cn.z4l rs fl) w:=by
 have F:=x2S G;refine⟨fun W a X t J S=>?_,fun W a X t J S=>?_,fun X S=>?_,fun W q N t J=>?_,fun W a X rtl dec t J S=>?_,fun X rtl dec=>?_,fun X h=>?_,fun X h=>?_⟩
 ·exact y8C p fl _ a X W J f6J (z8h fl W (b.below t) F o)
 ·exact z7Y (z8a (b.below t) G) (z3q (Y.on t) (b.below t) G) J S
 ·have D:=Cn.y8P G X;have Z:=(Nm.z3y (cl:=Cn.cls rs) (cp:=Cn.cmp9 rs) (Cn.nfd rs X)).2;unfold Cn.z2d Nm.cps;omega
 ·exact z7p J fun Q a X K A=>z7I ((z8j (b.below t) F).on K) A
 ·exact z6T (plb18 (Y.on t) (b.below t) G J S) J S fl rtl dec
 ·exact Nat.lt_of_lt_of_le Lb.z7s e8N
 ·exact Cn.z5w F (tr15 fl) h
 ·exact Cn.z4r F (Cn.z5D F h)
open Ti
namespace Cn
theorem tp1:proc19 little 47 [70,111,111,195,160,46,66]=([[102,111,111,224],[98]],0):=M3j
theorem tp2:proc19 little 47 [120,110,45,45,102,111,111,45,99,108,97,46,98]=([[102,111,111,224],[98]],0):=M3j
theorem tp3:proc19 little 47 [97,95,98]=([[97,95,98]],384):=M3j
theorem ta1:Id.toA (bits .and .i64 47 32==32) ([[102,111,111,224],[98]],0)=([120,110,45,45,102,111,111,45,99,108,97,46,98],0):=M3j
theorem ta3:Id.toA (bits .and .i64 47 32==32) ([[97,95,98]],384)=([],384):=M3j
theorem tu2(zs:List Int):Id.toU ([[102,111,111,224],[98]],0) zs=([102,111,111,195,160,46,98],0):=by
 unfold Id.toU;rw[if_neg M3j];exact M3j
end Cn
theorem z4P:Pu.fine [102,111,111,224]:=v3Q
open Ti
theorem z9c(x:List Int)(y:List Int)(P:List Int->Prop)(T:P [])(J:P x)(hy:P y):∀k,P (([x,y]:List (List Int)).getD k [])
 | 0=>J
 | 1=>hy
 | k+2=>by simpa[List.getD]using T
theorem z4Q:Pu.fine [98]:=v3Q
theorem z4R:Pu.fine [97,95,98]:=v3Q
structure Lit19(q:Nat)(w:World):Prop where
 a:∀W,Below w.heap.size w W->Calls prog 26 #[.pointer (some ⟨q,0,none⟩),.string ⟨#[70,111,111,195,160,46,66]⟩] W (fun e w'=>e=.returned (.tuple #[.string ⟨#[120,110,45,45,102,111,111,45,99,108,97,46,98]⟩,.int .i64 0])/\Below W.heap.size W w')
 u:∀W,Below w.heap.size w W->Calls prog 20 #[.pointer (some ⟨q,0,none⟩),.string ⟨#[120,110,45,45,102,111,111,45,99,108,97,46,98]⟩] W (fun e w'=>e=.returned (.tuple #[.string ⟨#[102,111,111,195,160,46,98]⟩,.int .i64 0])/\Below W.heap.size W w')
 b:∀W,Below w.heap.size w W->Calls prog 26 #[.pointer (some ⟨q,0,none⟩),.string ⟨#[97,95,98]⟩] W (fun e w'=>e=.returned (.tuple #[.string ⟨#[]⟩,.int .i64 384])/\Below W.heap.size W w')
theorem lit19{B p q:Nat}{w:World}(Y:Glob w)(b:x0n w B p Cn.little)(G:(Cn.check Cn.little).2=0)(Z:EngAt w q 47 p):Lit19 q w:=by
 have P:∀W,Bw w W->∀s:ByteArray,Calls prog 18 #[.pointer (some ⟨q,0,none⟩),.string s] W (y6j W (Cn.proc19 Cn.little 47 (nums s))):=fun W t s=>y0N (z5b (Y.on t) (b.below t) G y8z 47) (Z.on t) s;refine⟨fun W t=>?_,fun W t=>?_,fun W t=>?_⟩
 ·have h:=P W t ⟨#[70,111,111,195,160,46,66]⟩;rw[show nums ⟨#[70,111,111,195,160,46,66]⟩=[70,111,111,195,160,46,66]from rfl,Cn.tp1]at h;refine(y1h (Z.on t) h e8M (fun _=>⟨e8M,e8M,z9c _ _ (fun x=>x.length<=1000000000) e8M e8M e8M,fun k G Q a J=>?_,z9c _ _ (fun x=>(Pu.encode x).1.length<=1000000000) M3k M3k M3k,M3k⟩) M3k).mono fun e R h=>?_
  ·match k,G with
   | 0,_=>exact x4H 1 y9O a _ Q J e8M M3k (fun _=>z4P)
   | 1,_=>exact x4H 1 y9O a _ Q J e8M M3k (fun _=>z4Q)
  ·rw[Cn.ta1]at h;exact h
 ·have h:=P W t ⟨#[120,110,45,45,102,111,111,45,99,108,97,46,98]⟩;rw[show nums ⟨#[120,110,45,45,102,111,111,45,99,108,97,46,98]⟩=[120,110,45,45,102,111,111,45,99,108,97,46,98]from rfl,Cn.tp2]at h;refine(x3R h e8M e8M).mono fun e R h=>?_;rw[Cn.tu2]at h;exact h
 ·have h:=P W t ⟨#[97,95,98]⟩;rw[show nums ⟨#[97,95,98]⟩=[97,95,98]from rfl,Cn.tp3]at h;refine(y1h (Z.on t) h e8M (fun _=>⟨e8M,e8M,fun k=>?_,fun k G Q a J=>?_,fun k=>?_,M3k⟩) M3k).mono fun e R h=>?_
  ·match k with
   | 0=>decide
   | k+1=>simp[List.getD]
  ·match k,G with
   | 0,_=>exact x4H 1 y9O a _ Q J e8M M3k (fun _=>z4R)
  ·match k with
   | 0=>exact M3k
   | k+1=>show(Pu.encode (([[97,95,98]]:List (List Int)).getD (k+1) [])).1.length<=_;rw[show(([[97,95,98]]:List (List Int)).getD (k+1) [])=[]by simp[List.getD]];decide +kernel
  ·rw[Cn.ta3]at h;exact h
open Ti
theorem z0h(w:World)(Y:Glob w):Calls prog 10 #[] w (y6o w true):=by
 have i:=O (x7Z w);have W:=O Y;clear Y;go_enter func10,ntmps10;go_wp2_with fail;refine(V i).mono ?_;rintro e1 w1 ⟨v1,az,rfl,r,r1,b1⟩;have X:=x9s r1 r e8M y8z;have j:=O (x9f _ _ w1 ((V W).on b1) X);rw[Cn.z3n]at j;obtain⟨a1,aw,n,_,aq⟩:=X.shape;subst n;have l:=O b1;clear i X r1 b1 r;go_wp2_with fail;refine(V j).mono ?_;rintro e2 w2 ⟨m,h2⟩;have d:=O (x0b (V l) m);clear j m l;rcases h2 with⟨ai,_⟩ | ⟨ag,p,v2,t,rfl,hD,r2,v⟩
 ·exact absurd (by rw[Cn.x5n]) ai
 ·obtain⟨a2,s,aj⟩:∃a c,v2=.slice a t.length c:=by
   rcases r2.1.2 with⟨h,h0⟩ | ⟨g,ar,ay,e,_⟩
   ·exact⟨none,0,by rw[h,h0]⟩
   ·exact⟨_,_,e⟩
  subst aj;have K:=O hD;have ae:=O ag;clear r2 v hD ag;generalize t.length=pl at *;have S:=O (z5C p 47 e8M e8M w2);go_wp2_with fail;refine(V S).mono ?_;rintro e3 w3 ⟨q,rfl,Z,b3⟩;have L:=O (lit19 ((V W).on (x0b (V d) b3)) ((V K).below b3) (V ae) Z);have I:=O (x0b (V d) b3);have F:=O Z;have U:=O (z2c 0 w3);clear S d K ae b3 Z;go_wp2_with fail;refine c0m U fun w4 z=>?_;have y:=O (y3B p 64 (.inr e8M) w4);clear U;go_wp2_with fail;refine c0m y fun w5 b5=>?_;have x:=x0b z b5;have K6:=O ((V L).a w5 x);clear y z b5;go_wp2_with fail;refine c0m K6 fun w6 k=>?_;have ab:=x0b x k;have H:=O ((V L).u w6 ab);clear K6 k x;go_wp2_with fail;refine c0m H fun w7 P=>?_;have B:=x0b ab P;have T:=O ((V L).b w7 B);clear H P ab;go_wp2_with fail;refine c0m T fun w8 M=>?_;have C:=x0b B M;have D:=(V F).on C;have N:=D.f;have K9:=O (y0q 47 8 w8);rw[(M3k:(bits .and .i64 47 8==8)=true)]at K9;clear T M B L F;go_wp2_with fail;refine c0m K9 fun w9 b9=>?_;have af:=x0b C b9;have E:=D.on b9;have c9:=E.f;have Q:=O (y0q 47 16 w9);rw[(M3k:(bits .and .i64 47 16==16)=false)]at Q;clear K9 b9 C D N;go_wp2_with fail;refine c0m Q fun am o=>?_;have A:=x0b af o;have R:=(E.on o).f;have G:=O (x8L 47 am);clear Q o af E c9;go_wp2_with fail;refine c0m G fun aA J=>?_;have HB:=O (x0b (V I) (x0b A J));clear G J A R I;go_wp2;go_ret;exact⟨rfl,V HB⟩
