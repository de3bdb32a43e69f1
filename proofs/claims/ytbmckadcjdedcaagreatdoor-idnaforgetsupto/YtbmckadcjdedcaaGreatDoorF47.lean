import Derived.Test.YtbmckadcjdedcaaGreatDoorF6
import Derived.Test.YtbmckadcjdedcaaGreatDoorF38
import Derived.Test.YtbmckadcjdedcaaGreatDoorF50
set_option maxHeartbeats 8000000
set_option maxRecDepth 100000
namespace Go.Proofs.YtbmckadcjdedcaaGreatDoor
open Go.Proofs.Tryz
open Go.RowKit
open Ti
section
variable{p:Prop}
theorem M3k(h:p:=by decide +kernel):p:=h
theorem N9q(h:p:=by intro z o;simp only[List.mem_cons,List.not_mem_nil,or_false]at o;unfold Utf.okc;omega):p:=h
theorem v3Q(h:p:=by refine⟨M3j,M3j,M3j⟩):p:=h
theorem R0w(h:p:=by intro z o;cases o):p:=h
end
namespace Cn
theorem x3y{c}(h:scalar c=true):Utf.okc c:=by
 unfold scalar at h;have:=o0d h;unfold Utf.okc;omega
theorem z5o{k}(h:fam k=1):1<=k/\k<=5:=by
 unfold fam at h
 (repeat' split at h)<;>omega
theorem z2Z{r}(h:right r=0)(X:fam r.kind=1):∀c∈r.to,scalar c=true:=by
 have G:=z5o X;have s:=x0v h;unfold right at h;rw[if_neg s,if_neg f6J]at h;have I:=x1j h;rw[Bool.and_eq_true]at I;have D:=I.2;by_cases Z:r.kind=1\/r.kind=2\/r.kind=11
 ·rw[if_pos Z]at D;unfold bare at D;simp only[Bool.and_eq_true,Bool.false_or]at D;have:=o0d D.1.1.1.2;intro c I;rw[List.eq_nil_of_length_eq_zero this]at I;cases I
 ·rw[if_neg Z]at D;by_cases R:r.kind=3
  ·rw[if_pos R,Bool.and_eq_true]at D;exact(x0u D.2).2
  ·rw[if_neg R]at D;by_cases H:r.kind=4
   ·rw[if_pos H]at D;simp only[Bool.and_eq_true]at D;exact(x0u D.1.2).2
   ·rw[if_neg H,if_pos f6J]at D;simp only[Bool.and_eq_true]at D;exact(x0u D.2).2
theorem y1k{r}(h:right r=0)(H:r.kind=4):r.to.getD 0 0+r.hi-r.lo<55296\/57343<r.to.getD 0 0:=by
 have X:=x0v h;unfold right at h;rw[if_neg X,if_neg f6J]at h;have I:=x1j h;rw[Bool.and_eq_true,if_neg f6J,if_neg f6J,if_pos H]at I;have D:=I.2;simp only[Bool.and_eq_true]at D;exact(o0d D.2).2
theorem x6Q{rs}(F:(check6 rs).2=0) c:Id.Snd (mapping rs c):=by
 unfold mapping;split
 ·rename_i h4
  have A:=x4p F c h4;rcases rget_cases F (f:=1) e8M c with⟨_,e⟩ | ⟨_,_,_,U,u⟩
  ·rw[e]at h4;exact absurd h4 e8M
  ·have p:=y1k u h4;intro z o;rw[List.mem_singleton]at o;subst o;have:=x1Y U;unfold Utf.okc;omega
 ·rcases rget_cases F (f:=1) e8M c with⟨_,e⟩ | ⟨_,_,X,_,u⟩
  ·rw[e];exact R0w
  ·exact fun z o=>x3y (z2Z u X z o)
theorem z6p{rs}(F:(check6 rs).2=0) t{c}(I:Utf.okc c):Id.Snd (one15 rs t c):=by
 unfold one15;split
 ·exact R0w
 ·split
  ·exact x6Q F c
  ·split
   ·exact x6Q F c
   ·intro z o;rw[List.mem_singleton]at o;subst o;exact I
theorem z6d{rs}(F:(check6 rs).2=0) t{X}(h:Id.Snd X):Id.Snd (flat15 (one15 rs t) X):=fun z o=>by
 unfold flat15 at o;obtain⟨l,S,o⟩:=List.mem_flatten.1 o;obtain⟨c,I,rfl⟩:=List.mem_map.1 S;exact z6p F t (h c I) z o
theorem z6r{rs}(F:(check6 rs).2=0) c:Id.Snd (opn rs c):=by
 unfold opn;split
 ·rename_i U
  unfold syl at U;have U:=o0d U;split
  ·exact N9q
  ·exact N9q
 ·split
  ·rename_i r he
   obtain⟨J,I,M⟩:=(x1z F e8M r).1 he;have u:=(x0m.1 F).2.1 r J;rcases fam_three I with A|h8
   ·exact fun z o=>x3y ((x0u (x0s u A).2.2).2 z o)
   ·exact fun z o=>x3y ((x0u (x2K u h8).2.2).2 z o)
  ·exact R0w
theorem z3v{rs}(F:(check6 rs).2=0):∀(f:Nat) (B:List Int) (c:Int) (out:List Int),Utf.okc c->Id.Snd out->Id.Snd (walk rs f B c out).1:=by
 have A:∀(c:Int) (out:List Int),Utf.okc c->Id.Snd out->Id.Snd (if 32<=out.length then(([]:List Int),(2:Int))else(out++[c],0)).1:=fun c out I y=>by
  split
  ·exact R0w
  ·intro z o;rcases List.mem_append.1 o with h|h
   ·exact y z h
   ·rw[List.mem_singleton]at h;subst h;exact I
 intro f
 induction f with
 | zero =>
  intro B c out I y;rw[walk];split
  ·exact A c out I y
  ·split
   ·exact R0w
   ·exact R0w
 | succ f ih =>
  intro B c out I y;rw[walk];split
  ·exact A c out I y
  ·split
   ·exact R0w
   ·have i:=z6r F c;revert i;generalize opn rs c=l
    suffices ∀(l:List Int) (s:List Int×Int),Id.Snd l->Id.Snd s.1->Id.Snd (l.foldl (fun s d=>if s.2=0 then walk rs f (B++[c]) d s.1 else s) s).1 from fun h=>this l (out,0) h y
    intro l
    induction l with
    | nil=>intro s _ U;exact U
    | cons d l ihl =>
     intro s S U;refine ihl _ (fun z o=>S z m6c) ?_;show Id.Snd (if s.2=0 then walk rs f (B++[c]) d s.1 else s).1;split
     ·exact ih _ _ _ (S d M7K) U
     ·exact U
theorem z6l{rs}(F:(check6 rs).2=0){X}(h:Id.Snd X):Id.Snd (nfd rs X):=fun z o=>by
 have Z:=Od.y2C (fun c=>x2l F c) o;unfold openAll at Z;obtain⟨l,S,o⟩:=List.mem_flatten.1 Z;obtain⟨c,I,rfl⟩:=List.mem_map.1 S;exact z3v F 16 [] c [] (h c I) (fun z o=>by cases o) z o
theorem z4W{rs}(F:(check6 rs).2=0) a b(h:(cmp9 rs a b).2=true):Utf.okc (cmp9 rs a b).1:=by
 unfold cmp9 at h ⊢;split
 ·rename_i hs
  unfold sylOf at hs ⊢;split
  ·rename_i h1
   unfold jl jv at h1;simp only[Bool.and_eq_true,decide_eq_true_eq]at h1;unfold Utf.okc;show(0<=44032+((a-4352)*21+b-4449)*28/\_)\/_;omega
  ·rename_i h1
   rw[if_neg h1]at hs;split
   ·rename_i h2
    unfold bare2 jt syl at h2;simp only[Bool.and_eq_true,decide_eq_true_eq]at h2;unfold Utf.okc;show(0<=a+b-4520+1/\_)\/_;omega
   ·rename_i h2
    rw[if_neg h2]at hs;simp at hs
 ·rename_i hs
  rw[if_neg hs]at h
  cases hp:x2c rs a b with
  | none=>rw[hp]at h;simp at h
  | some p =>
   unfold x2c at hp;obtain⟨r,u,rfl⟩:=Option.map_eq_some_iff.1 hp;have z:=List.mem_reverse.1 (List.mem_of_find?_eq_some u);have A:isP a b r=true:=List.find?_some u;have hi:r.kind=7/\r.to.getD 0 0=a/\r.to.getD 1 0=b:=o0d A;exact x3y (x0s ((x0m.1 F).2.1 r z) hi.1).2.1
theorem z4Y{rs}(F:(check6 rs).2=0){X}(h:Id.Snd X):Id.Snd (Nm.cps (cls rs) (cmp9 rs) X):=by
 unfold Nm.cps Nm.run
 suffices ∀(X:List Int) (s:List Int×Int),Id.Snd X->Id.Snd s.1->Id.Snd (X.foldl (Nm.stp (cls rs) (cmp9 rs)) s).1 from this X ([],-1) h (fun z o=>by cases o)
 intro X
 induction X with
 | nil=>intro s _ U;exact U
 | cons c X ih =>
  intro s D U;refine ih _ (fun z o=>D z m6c) ?_;unfold Nm.stp;split
  ·rename_i hf
   unfold Nm.fits at hf;simp only[Bool.and_eq_true]at hf;intro z o;rcases List.mem_or_eq_of_mem_set o with h1|h1
   ·exact U z h1
   ·subst h1;exact z4W F _ _ hf.2.2
  ·intro z o;rcases List.mem_append.1 o with h1|h1
   ·exact U z h1
   ·rw[List.mem_singleton]at h1;subst h1;exact D _ M7K
end Cn
namespace Bd
end Bd
theorem z2G{E:List (List Int)}{p}(h:∀i,i<E.length->p (E.getD i [])=false):E.any p=false:=P3h
theorem z0Y{E:List (List Int)}{p i}(hi:i<E.length)(h:p (E.getD i [])=true):E.any p=true:=by grind
theorem z8s(g b:Nat)(a:∀args w,(callFunc g args).run prog w=.ok (.enter g args) w) p lv Xs w(J:x5z w lv Xs)(L:∀k,k<Xs.length->∀W u,Bw w W->Sk .i32 W u (Xs.getD k [])->Calls prog g #[u,.pointer (some ⟨b,0,none⟩)] W (x0c W (p (Xs.getD k [])))) :
  Calls prog 107 #[lv,.func (.func g) #[] #[.pointer (some ⟨b,0,none⟩)]] w (IdxB w (Xs.any p)):=by
 have s:=J.1;obtain⟨R,M,rfl,_,_⟩:=J.shape;have I:Hid (∀i,i<Xs.length->∀W,Bw w W->∃b P u,R=some ⟨b,P,none⟩/\W.cell? ⟨b,P+i,none⟩=some u/\Sk .i32 W u (Xs.getD i [])):=fun i hi W t=>(J.below t).at hi;have KP:=O L;have l:Hid ((∀q,q<Xs.length->p (Xs.getD q [])=false)->Xs.any p=false):=fun h=>z2G h;have E:Hid (∀q,q<Xs.length->p (Xs.getD q [])=true->Xs.any p=true):=fun q m h=>z0Y m h;go_enter func107,ntmps107;go_wp2;go_loopw[5,8] (fun _ Z wr=>∃k:Nat,Z=.int .i64 k/\k<=Xs.length/\(∀q,q<k->p (Xs.getD q [])=false)/\Bw w wr) (fun _ Z _=>Xs.length-(intOf Z).toNat)
 case atStart=>exact t1A
 case round =>
  obtain⟨k,rfl,G,m,N⟩:=hrel;by_cases H:k<Xs.length
  ·have r:(k:Int)<Xs.length:=f6J;obtain⟨b1,P,u,rfl,c,A⟩:=V I k H wr N;have K:=O (V KP k H wr u N A);obtain⟨B,C,v,_,_⟩:=A.shape;subst v;have D:=O (V E k H)
   have T:Hid (p (Xs.getD k [])=false->∀q,q<k+1->p (Xs.getD q [])=false):=fun h q Y=>F6F
   have S:=O N;generalize p (Xs.getD k [])=z,(Xs.getD k []).length=F at *
   exact t5j
  ·have n:=O (V l fun q h=>m q f6J);have r:¬((k:Int)<Xs.length):=f6J;exact f6E
theorem z7N(g b:Nat)(D:∀args w,(callFunc g args).run prog w=.ok (.enter g args) w) p lv Xs w(J:x5z w lv Xs)(L:∀k,k<Xs.length->∀W u,Bw w W->Sk .i32 W u (Xs.getD k [])->Calls prog g #[u,.pointer (some ⟨b,0,none⟩)] W (x0c W (p (Xs.getD k [])))) :
  Calls prog 65 #[lv,.func (.func g) #[] #[.pointer (some ⟨b,0,none⟩)]] w (x0c w (Xs.any p)):=by
 have K:=O (z8s g b D p lv Xs w J L);obtain⟨R,M,rfl,_,_⟩:=J.shape;generalize Xs.any p=Y at *;go_enter func65,ntmps65;go_wp2_with fail;refine(V K).mono ?_;rintro e Q ⟨n,rfl,E,b1⟩;subst E;go_wp2;go_ret;exact⟨rfl,b1⟩
theorem y2d:∀args w,(callFunc 66 args).run prog w=.ok (.enter 66 args) w:=f0h
theorem z5h{pv b r w}{xv X}(J:Sk .i32 w xv X)(d:Calls prog 67 #[.pointer pv,xv] w (x0c w r))(Y:w.cell? ⟨b,0,none⟩=some (.pointer pv)):Calls prog 66 #[xv,.pointer (some ⟨b,0,none⟩)] w (x0c w r):=by
 have K:=O d;obtain⟨R,M,rfl,_,_⟩:=J.shape;go_enter func66,ntmps66;exact G8t
theorem z7Z{pv p w lv}{Xs}(J:x5z w lv Xs)(d:∀W u X,Bw w W->Sk .i32 W u X->Calls prog 67 #[.pointer pv,u] W (x0c W (p X))):Calls prog 37 #[.pointer pv,lv] w (x0c w (Xs.any p)):=by
 have j:∀(fn:Fn) (first M:Array Value) (w:World),(Instr.makeFunc fn first M).run prog w=.ok (.func fn first M) w:=fun _ _ _ _=>rfl;have A:∀o,Bw w (w.alloc o):=fun o=>(b0r).alloc (l0r _) o
 have K:Hid (Calls prog 65 #[lv,.func (.func 66) #[] #[.pointer (some ⟨w.heap.size,0,none⟩)]] (w.alloc (.cells #[.pointer pv] 22)) (x0c (w.alloc (.cells #[.pointer pv] 22)) (Xs.any p))):=by
  refine z7N _ _ y2d _ lv Xs _ (J.below (A _)) fun k G W u t U=>z5h U (d W u _ (x0b (A _) t) U) ?_;rw[t.cell M7K];simp
 obtain⟨R,M,rfl,_,_⟩:=J.shape;go_enter func37,ntmps37;exact r1W
open Ti
namespace Cn
def nfc19(rs:List Rec)(X:List Int):List Int:=Nm.cps (cls rs) (cmp9 rs) (nfd rs X)
def y0C(rs:List Rec)(X:List Int):Bool:=Bd.has (X.map (vget rs 4))
def z1A(rs:List Rec)(fl:Int)(X:List Int)(rtl dec:Bool):Nat:=Lb.err (of18 rs X) fl rtl dec X
def map19(rs:List Rec)(fl:Int)(X:List Int):List Int:=flat15 (one15 rs (tr15 fl)) X
def proc19(rs:List Rec)(fl:Int)(zs:List Int):List (List Int)×Nat:=Id.proc (map19 rs fl) (nfc19 rs) (y0C rs) (z1A rs fl) zs
end Cn
theorem z5H{B p rs w}(C:Glob w)(N:x0o w B p rs)(G:(Cn.check rs).2=0)(l:∀r∈rs,RecFit r) fl:IdC p fl (Cn.map19 rs fl) (Cn.nfc19 rs) (Cn.y0C rs) (Cn.z1A rs fl) w:=by
 have F:=x1U G;refine⟨fun W u X t J S=>?_,fun W u X t J S=>?_,fun X S=>?_,fun W H E t J=>?_,fun W u X rtl dec t J S=>?_,fun X rtl dec=>?_,fun X h=>?_,fun X h=>?_⟩
 ·exact y0L p fl _ u X W J f6J (z4a fl W (N.below t) F l)
 ·exact z8G (z8I (N.below t) G) (z3W (C.on t) (N.below t) G) J S
 ·have Z:=Cn.y9q G X;have D:=(Nm.z4g (cl:=Cn.cls rs) (cp:=Cn.cmp9 rs) (Cn.nfd rs X)).2;unfold Cn.nfc19 Nm.cps;omega
 ·exact z7Z J fun A u X K U=>z8r ((z8S (N.below t) F).on K) U
 ·exact z7D (plb18 (C.on t) (N.below t) G J S) J S fl rtl dec
 ·exact Nat.lt_of_lt_of_le Lb.z8c e8N
 ·exact Cn.z6d F (tr15 fl) h
 ·exact Cn.z4Y F (Cn.z6l F h)
open Ti
namespace Cn
theorem tp1:proc19 x2o 47 [70,111,111,195,160,46,66]=([[102,111,111,224],[98]],0):=M3j
theorem tp2:proc19 x2o 47 [120,110,45,45,102,111,111,45,99,108,97,46,98]=([[102,111,111,224],[98]],0):=M3j
theorem tp3:proc19 x2o 47 [97,95,98]=([[97,95,98]],384):=M3j
theorem ta1:Id.toA (bits .and .i64 47 32==32) ([[102,111,111,224],[98]],0)=([120,110,45,45,102,111,111,45,99,108,97,46,98],0):=M3j
theorem ta3:Id.toA (bits .and .i64 47 32==32) ([[97,95,98]],384)=([],384):=M3j
theorem tu2 zs:Id.toU ([[102,111,111,224],[98]],0) zs=([102,111,111,195,160,46,98],0):=by
 unfold Id.toU;rw[if_neg M3j];exact M3j
end Cn
theorem z5x:Pu.fine [102,111,111,224]:=v3Q
open Ti
theorem z9M(x:List Int)(y:List Int)(P:List Int->Prop)(A:P [])(J:P x)(hy:P y):∀k,P (([x,y]:List (List Int)).getD k [])
 | 0=>J
 | 1=>hy
 | k+2=>by simpa[List.getD]using A
theorem z5y:Pu.fine [98]:=v3Q
theorem z5z:Pu.fine [97,95,98]:=v3Q
structure Lit19(q:Nat)(w:World):Prop where
 a:∀W,Below w.heap.size w W->Calls prog 26 #[.pointer (some ⟨q,0,none⟩),.string ⟨#[70,111,111,195,160,46,66]⟩] W (fun e w'=>e=.returned (.tuple #[.string ⟨#[120,110,45,45,102,111,111,45,99,108,97,46,98]⟩,.int .i64 0])/\Below W.heap.size W w')
 u:∀W,Below w.heap.size w W->Calls prog 20 #[.pointer (some ⟨q,0,none⟩),.string ⟨#[120,110,45,45,102,111,111,45,99,108,97,46,98]⟩] W (fun e w'=>e=.returned (.tuple #[.string ⟨#[102,111,111,195,160,46,98]⟩,.int .i64 0])/\Below W.heap.size W w')
 b:∀W,Below w.heap.size w W->Calls prog 26 #[.pointer (some ⟨q,0,none⟩),.string ⟨#[97,95,98]⟩] W (fun e w'=>e=.returned (.tuple #[.string ⟨#[]⟩,.int .i64 384])/\Below W.heap.size W w')
theorem lit19{B p q w}(C:Glob w)(N:x0o w B p Cn.x2o)(G:(Cn.check Cn.x2o).2=0)(Z:EngAt w q 47 p):Lit19 q w:=by
 have P:∀W,Bw w W->∀s:ByteArray,Calls prog 18 #[.pointer (some ⟨q,0,none⟩),.string s] W (y1K W (Cn.proc19 Cn.x2o 47 (nums s))):=fun W t s=>y1c (z5H (C.on t) (N.below t) G z3S 47) (Z.on t) s;refine⟨fun W t=>?_,fun W t=>?_,fun W t=>?_⟩
 ·have h:=P W t ⟨#[70,111,111,195,160,46,66]⟩;rw[show nums ⟨#[70,111,111,195,160,46,66]⟩=[70,111,111,195,160,46,66]from rfl,Cn.tp1]at h;refine(y1w (Z.on t) h e8M (fun _=>⟨e8M,e8M,z9M _ _ (fun x=>x.length<=1000000000) e8M e8M e8M,fun k G A u J=>?_,z9M _ _ (fun x=>(Pu.encode x).1.length<=1000000000) M3k M3k M3k,M3k⟩) M3k).mono fun e l h=>?_
  ·match k,G with
   | 0,_=>exact x4N 1 z0p u _ A J e8M M3k (fun _=>z5x)
   | 1,_=>exact x4N 1 z0p u _ A J e8M M3k (fun _=>z5y)
  ·rw[Cn.ta1]at h;exact h
 ·have h:=P W t ⟨#[120,110,45,45,102,111,111,45,99,108,97,46,98]⟩;rw[show nums ⟨#[120,110,45,45,102,111,111,45,99,108,97,46,98]⟩=[120,110,45,45,102,111,111,45,99,108,97,46,98]from rfl,Cn.tp2]at h;refine(y3d h e8M e8M).mono fun e l h=>?_;rw[Cn.tu2]at h;exact h
 ·have h:=P W t ⟨#[97,95,98]⟩;rw[show nums ⟨#[97,95,98]⟩=[97,95,98]from rfl,Cn.tp3]at h;refine(y1w (Z.on t) h e8M (fun _=>⟨e8M,e8M,fun k=>?_,fun k G A u J=>?_,fun k=>?_,M3k⟩) M3k).mono fun e l h=>?_
  ·match k with
   | 0=>decide
   | k+1=>simp[List.getD]
  ·match k,G with
   | 0,_=>exact x4N 1 z0p u _ A J e8M M3k (fun _=>z5z)
  ·match k with
   | 0=>exact M3k
   | k+1=>show(Pu.encode (([[97,95,98]]:List (List Int)).getD (k+1) [])).1.length<=_;rw[show(([[97,95,98]]:List (List Int)).getD (k+1) [])=[]by simp[List.getD]];decide +kernel
  ·rw[Cn.ta3]at h;exact h
open Ti
theorem z9L w(hg:Glob w):Calls prog 10 #[] w (x2S w true):=by
 have K1:=O (y5E w);have W:=O hg;clear hg;go_enter func10,ntmps10;go_wp2_with fail;refine(V K1).mono ?_;rintro e1 w1 ⟨v1,aq,rfl,p1,S,b1⟩;have Y:=y2J S p1 e8M z3S;have o:=O (y3Z _ _ w1 ((V W).on b1) Y);rw[Cn.z8z]at o;obtain⟨a1,aj,x,_,r⟩:=Y.shape;subst x;have U:=O b1;clear K1 Y S b1 p1;go_wp2_with fail;refine(V o).mono ?_;rintro e2 w2 ⟨m,D⟩;have i:=O (x0b (V U) m);clear o m U;rcases D with⟨F,_⟩|⟨n,p,v2,af,rfl,hD,r2,p2⟩
 ·exact absurd (by rw[Cn.y0I]) F
 ·obtain⟨a2,y,E⟩:∃a c,v2=.slice a af.length c:=by
   rcases r2.1.2 with⟨h,h0⟩|⟨g,ai,am,e,_⟩
   ·exact⟨none,0,by rw[h,h0]⟩
   ·exact⟨_,_,e⟩
  subst E;have v:=O hD;have t:=O n;clear r2 p2 hD n;generalize af.length=pl at *;have G:=O (z8F p 47 e8M e8M w2);go_wp2_with fail;refine(V G).mono ?_;rintro e3 w3 ⟨q,rfl,Z,b3⟩;have L:=O (lit19 ((V W).on (x0b (V i) b3)) ((V v).below b3) (V t) Z);have ae:=O (x0b (V i) b3);have P:=O Z;have k:=O (z2F 0 w3);clear G i v t b3 Z;go_wp2_with fail;refine c0m k fun w4 X=>?_;have K5:=O (z2E p 64 (.inr e8M) w4);clear k;go_wp2_with fail;refine c0m K5 fun w5 b5=>?_;have I:=x0b X b5;have K6:=O ((V L).a w5 I);clear K5 X b5;go_wp2_with fail;refine c0m K6 fun w6 b6=>?_;have J:=x0b I b6;have K7:=O ((V L).u w6 J);clear K6 b6 I;go_wp2_with fail;refine c0m K7 fun w7 s=>?_;have K:=x0b J s;have K8:=O ((V L).b w7 K);clear K7 s J;go_wp2_with fail;refine c0m K8 fun w8 l=>?_;have ab:=x0b K l;have M:=(V P).on ab;have T:=M.f;have H:=O (y0C 47 8 w8);rw[(M3k:(bits .and .i64 47 8==8)=true)]at H;clear K8 l K L P;go_wp2_with fail;refine c0m H fun w9 B=>?_;have Q:=x0b ab B;have N:=M.on B;have c9:=N.f;have j:=O (y0C 47 16 w9);rw[(M3k:(bits .and .i64 47 16==16)=false)]at j;clear H B ab M T;go_wp2_with fail;refine c0m j fun ag d=>?_;have C:=x0b Q d;have R:=(N.on d).f;have A:=O (y2l 47 ag);clear j d Q N c9;go_wp2_with fail;refine c0m A fun ar z=>?_;have HB:=O (x0b (V ae) (x0b C z));clear A z C R ae;go_wp2;go_ret;exact⟨rfl,V HB⟩
