import Derived.Test.YtbmckadcjdedcaaGreatDoorF3
import Derived.Deep.QuietTactic
import Derived.BigQuiet
set_option maxHeartbeats 2000000
namespace Go.Proofs.YtbmckadcjdedcaaGreatDoor
section
variable{p:Prop}
theorem g6j(h:p:=by unfold okc;exact f6J):p:=h
theorem E1z(h:p:=by simpa using Z):p:=h
theorem m4H(h:p:=by generalize xs.drop f=p at *;go_wp2_with fail;refine(V HQ).mono ?_;rintro e Q ⟨X,rfl,S,E⟩;obtain⟨Z,m1,m2,m3,Y,m5⟩:=I.below E;have ab:Bw w Q:=x0b A E;have T:=E.size;obtain⟨L,g,z,_,_⟩:=S.sk.shape;subst z;go_wp2_with(at_builtin;refine wpList_append_own _ rfl (.tmp 27) (.tmp 32) 49 rfl w.heap.size 40 j0 (.slice none 0 0) 1 24 underlying49 K G ae W rfl e8P _ _ _ rfl (m2.alloc _) ⟨Q.heap.size,0,none⟩ 1 1 [.slice L p.length g] rfl rfl (cell_one_new _ _ _) (x3o _ _ _) T7X f6J P8P ?_);intro v9 w9 x C _;have t:=Mu.snoc D m1 m2 m3 Y m5 S x C;have d:Bw w w9:=x0p f6J m2 ab C;go_wp2;go_ret;exact⟨_,rfl,t,d⟩):p:=h
theorem F0o(h:p:=by rw[List.length_drop];exact f6J):p:=h
theorem s1p(h:p:=by obtain rfl:k=xs.length:=f6J;have a:=L _ A s;go_wp2;go_ret;exact a):p:=h
theorem v6Y(h:p:=by rw[List.eq_nil_of_length_eq_zero h0];rfl):p:=h
end
end Go.Proofs.YtbmckadcjdedcaaGreatDoor
namespace Go.Proofs.YtbmckadcjdedcaaGreatDoor.Utf
open Go.Proofs.Tryz
abbrev okc(c:Int):Prop:=(0<=c/\c<=55295)\/(57344<=c/\c<=1114111)
def form(c:Int):List Int :=
 if c<128 then[c]
 else if c<2048 then[192+c / 64,128+c%64]
 else if c<65536 then[224+c / 4096,128+c / 64%64,128+c%64]
 else[240+c / 262144,128+c / 4096%64,128+c / 64%64,128+c%64]
def lead(b:Int):Option (Nat×Int×Int×Int) :=
 if b<128 then some (0,0,0,b)
 else if 194<=b/\b<=223 then some (1,128,191,b%32)
 else if b=224 then some (2,160,191,b%16)
 else if b=237 then some (2,128,159,b%16)
 else if 225<=b/\b<=239 then some (2,128,191,b%16)
 else if b=240 then some (3,144,191,b%8)
 else if 241<=b/\b<=243 then some (3,128,191,b%8)
 else if b=244 then some (3,128,143,b%8)
 else none
def x0I:Nat->Int->Int->Int->Nat->List Int->Except Nat (Nat×Int)
 | 0,_,_,c,k,_=>.ok (k,c)
 | _+1,_,_,_,k,[]=>.error k
 | n+1,lo,hi,c,k,b::r=>if b<lo\/hi<b then .error k else x0I n 128 191 (c*64+b%64) (k+1) r
def one:List Int->Except Nat (Nat×Int)
 | []=>.error 0
 | b::r=>match lead b with
  | none=>.error 0
  | some (n,lo,hi,c)=>x0I n lo hi c 1 r
def glue(acc:List Int)(r:List Int×Int×Int):List Int×Int×Int:=if r.2.2=0 then(acc++r.1,0,0)else([],r.2.1,r.2.2)
def decF:Nat->Nat->List Int->List Int×Int×Int
 | 0,_,_=>([],0,0)
 | f+1,p,zs=>if zs=[]then([],0,0)else match one zs with
  | .error k=>([],((p+k:Nat):Int),30)
  | .ok (n,c)=>glue [c] (decF f (p+n) (zs.drop n))
def dec(p:Nat)(zs:List Int):List Int×Int×Int:=decF zs.length p zs
def Byt(zs:List Int):Prop:=∀z∈zs,0<=z/\z<=255
theorem x4f{n lo hi c k r}{m d}(h:x0I n lo hi c k r=.ok (m,d)):m=k+n/\n<=r.length:=by
 induction n generalizing lo hi c k r with
 | zero=>simp[x0I]at h;simp[h.1]
 | succ n ih =>
  cases r with
  | nil=>simp[x0I]at h
  | cons b r =>
   simp only[x0I]at h;split at h
   ·simp at h
   ·have:=ih h;exact f4R
theorem y7z{n lo hi c k r}{m}(h:x0I n lo hi c k r=.error m):k<=m/\m<=k+r.length/\m<k+n:=by
 induction n generalizing lo hi c k r with
 | zero=>simp[x0I]at h
 | succ n ih =>
  cases r with
  | nil=>simp[x0I]at h;exact f4R
  | cons b r =>
   simp only[x0I]at h;split at h
   ·simp at h;exact f4R
   ·have:=ih h;exact f4R
theorem x9x{zs n c}(h:one zs=.ok (n,c)):1<=n/\n<=zs.length:=by
 cases zs with
 | nil=>simp[one]at h
 | cons b r =>
  simp only[one]at h;split at h
  ·simp at h
  ·have:=x4f h;exact f4R
theorem z6o{zs k}(h:one zs=.error k):k<=zs.length/\k<=3:=by
 cases zs with
 | nil=>simp[one]at h;omega
 | cons b r =>
  simp only[one]at h;split at h
  ·simp at h;omega
  ·rename_i n lo hi c hl
   have:=y7z h
   have R:n<=3:=by
    unfold lead at hl
    repeat' split at hl
    all_goals simp_all
    all_goals omega
   exact f4R
theorem z5U{b}(h:194<=b/\b<=223):lead b=some (1,128,191,b%32):=by
 unfold lead;rw[if_neg f6J,if_pos h]
theorem z5V{b}(h:224<=b/\b<=239):lead b=some (2,if b=224 then 160 else 128,if b=237 then 159 else 191,b%16):=by
 unfold lead;rw[if_neg f6J,if_neg f6J];by_cases Z:b=224
 ·subst Z;simp
 ·grind
theorem z5W{b}(h:240<=b/\b<=244):lead b=some (3,if b=240 then 144 else 128,if b=244 then 143 else 191,b%8):=by
 unfold lead;rw[if_neg f6J,if_neg f6J,if_neg f6J,if_neg f6J,if_neg f6J];by_cases Z:b=240
 ·subst Z;simp
 ·grind
theorem z2I{c}(h:okc c) t:one (form c++t)=.ok ((form c).length,c):=by
 unfold okc at h;unfold form;split
 ·simp[one,lead,x0I, *]
 ·split
  ·simp only[List.cons_append,List.nil_append,one,z5U (f6J:194<=192+c / 64/\192+c / 64<=223),x0I];rw[if_neg f6J];exact f4R
  ·split
   ·simp only[List.cons_append,List.nil_append,one,z5V (f6J:224<=224+c / 4096/\224+c / 4096<=239),x0I];rw[if_neg (by split<;>split<;>omega),if_neg f6J];exact f4R
   ·simp only[List.cons_append,List.nil_append,one,z5W (f6J:240<=240+c / 262144/\240+c / 262144<=244),x0I];rw[if_neg (by split<;>split<;>omega),if_neg f6J,if_neg f6J];exact f4R
theorem z1U{zs n c}(Y:Byt zs)(h:one zs=.ok (n,c)):okc c/\zs.take n=form c:=by
 cases zs with
 | nil=>simp[one]at h
 | cons b r =>
  have A:=Y b M7L;by_cases Z:b<128
  ·simp[one,lead,Z,x0I]at h;obtain⟨rfl,rfl⟩:=h;refine⟨g6j,?_⟩;simp[form,Z]
  ·by_cases D:194<=b/\b<=223
   ·simp only[one,z5U D]at h
    match r,h with
    | [],h=>simp[x0I]at h
    | b1::r,h =>
     simp only[x0I]at h;split at h
     ·simp at h
     ·simp at h;obtain⟨rfl,rfl⟩:=h;refine⟨g6j,?_⟩;unfold form;rw[if_neg f6J,if_pos f6J];simp;omega
   ·by_cases R:224<=b/\b<=239
    ·simp only[one,z5V R]at h
     match r,h with
     | [],h=>simp[x0I]at h
     | [b1],h=>exact absurd (x4f h).2 M7L
     | b1::b2::r,h =>
      simp only[x0I]at h;by_cases g:b1<(if b=224 then 160 else 128)\/(if b=237 then 159 else 191)<b1
      ·rw[if_pos g]at h;simp at h
      ·rw[if_neg g]at h;split at h
       ·simp at h
       ·simp at h;obtain⟨rfl,rfl⟩:=h
        have G:(128<=b1/\b1<=191)/\(b=224->160<=b1)/\(b=237->b1<=159):=by
         split at g<;>split at g<;>omega
        refine⟨g6j,?_⟩;unfold form;rw[if_neg f6J,if_neg f6J,if_pos f6J];simp;omega
    ·by_cases H:240<=b/\b<=244
     ·simp only[one,z5W H]at h
      match r,h with
      | [],h=>simp[x0I]at h
      | [b1],h=>exact absurd (x4f h).2 M7L
      | [b1,b2],h=>exact absurd (x4f h).2 M7L
      | b1::b2::b3::r,h =>
       simp only[x0I]at h;by_cases g:b1<(if b=240 then 144 else 128)\/(if b=244 then 143 else 191)<b1
       ·rw[if_pos g]at h;simp at h
       ·rw[if_neg g]at h;split at h
        ·simp at h
        ·split at h
         ·simp at h
         ·simp at h;obtain⟨rfl,rfl⟩:=h
          have G:(128<=b1/\b1<=191)/\(b=240->144<=b1)/\(b=244->b1<=143):=by
           split at g<;>split at g<;>omega
          refine⟨g6j,?_⟩;unfold form;rw[if_neg f6J,if_neg f6J,if_neg f6J];simp;omega
     ·have:lead b=none:=by
       unfold lead;rw[if_neg Z,if_neg D,if_neg f6J,if_neg f6J,if_neg f6J,if_neg f6J,if_neg f6J,if_neg f6J]
      simp[one,this]at h
theorem x4j c:1<=(form c).length/\(form c).length<=4:=by
 unfold form;repeat' split
 all_goals simp
theorem x8U{c}(h:okc c):Byt (form c):=by
 unfold okc at h;intro z o;unfold form at o
 repeat' split at o
 all_goals simp at o
 all_goals omega
end Go.Proofs.YtbmckadcjdedcaaGreatDoor.Utf
namespace Go.Proofs.YtbmckadcjdedcaaGreatDoor
open Go.Proofs.Tryz
open Go.RowKit
theorem x2S.mk'{w w' b c}(h:b=c)(Y:Bw w w'):x2S w c (.returned (.bool b)) w':=E1n
theorem y6y{xs ys:List Int}{k}(h:xs.take k=ys.take k)(J:k<xs.length)(hy:k<ys.length)(d:xs.getD k 0=ys.getD k 0):xs.take (k+1)=ys.take (k+1):=G3D
theorem x1x.mk'{w w' b c}(h:b=c)(Y:∃m,w'=w.drewN m):x1x w c (.returned (.bool b)) w':=E1n
theorem z9A v u xs ys w(N:Sk .i32 w v xs)(W:Sk .i32 w u ys) :
  Calls prog 39 #[v,u] w (x1x w (decide (xs=ys))):=by
 have t:=N.len;have af:=W.len;by_cases E:xs.length=ys.length
 ·rcases Nat.eq_zero_or_pos xs.length with h0|h0
  ·have T:∀l,(∃m,l=w.drewN m)->x1x w (decide (xs=ys)) (.returned (.bool true)) l:=fun l Y=>x1x.mk' (by
    have Z:=List.eq_nil_of_length_eq_zero h0;have D:=List.eq_nil_of_length_eq_zero (E ▸ h0)
    simp[Z,D]) Y
   exact p9k
  ·have L:∀l,(∃m,l=w.drewN m)->xs.take xs.length=ys.take xs.length->x1x w (decide (xs=ys)) (.returned (.bool true)) l:=fun l Y Q=>x1x.mk' (by
    rw[List.take_length,E,List.take_length]at Q
    simp[Q]) Y
   have f:∀l k,(∃m,l=w.drewN m)->¬xs.getD k 0=ys.getD k 0->x1x w (decide (xs=ys)) (.returned (.bool false)) l:=fun l k Y Q=>x1x.mk' (by
    symm;rw[decide_eq_false_iff_not];intro h;subst h;exact Q rfl) Y
   have c:∀wr,Bw w wr->Sk .i32 wr v xs/\Sk .i32 wr u ys:=fun wr Y=>⟨N.below Y,W.below Y⟩;obtain⟨b,P,M,rfl,o,q,I⟩:=N.place h0;obtain⟨d,U,J,rfl,p,S,r⟩:=W.place f6J
   have C:∀wr,Bw w wr->∀i,i<xs.length->wr.cell? ⟨b,P+i,none⟩=some (.int .i32 (xs.getD i 0))/\wr.cell? ⟨d,U+i,none⟩=some (.int .i32 (ys.getD i 0)):=G3N
   rw[<- E]at p ⊢;have ab:=O N.1;have ae:=O W.1;have g:=O E;go_enter func39,ntmps39;go_wp2;go_loopw[5] (fun i wr=>∃k:Nat,i=.int .i64 k/\k<=xs.length/\xs.take k=ys.take k/\∃m,wr=w.drewN m) (fun i _=>xs.length-(intOf i).toNat)
   case atStart=>exact w7P
   case round =>
    obtain⟨k,rfl,G,s,A⟩:=hrel;by_cases H:k<xs.length
    ·obtain⟨j,K⟩:=C _ (x0k A) k H;have n:=O s
     cases he:(xs.getD k 0 != ys.getD k 0)with
     | true =>
      have a:=fun l Y=>f l k Y M2T;generalize xs.getD k 0=x,ys.getD k 0=y at *;go_wp2;go_quiet(fail);go_wp2;go_ret;exact a _ (x4M A nq)
     | false =>
      have z:xs.getD k 0=ys.getD k 0:=M2T;have X:=O (y6y (V n) H M8f z);generalize xs.getD k 0=x at *;go_wp2;go_quiet(fail);go_wp2
      go_roundw
      case rel=>exact⟨k+1,g2A,f6J,V X,x4M A nq⟩
      case measure=>exact g7V
    ·exact s1p
 ·have T:x1x w (decide (xs=ys)) (.returned (.bool false)) w:=x1x.mk' (by
   symm;rw[decide_eq_false_iff_not];intro h;subst h;exact E rfl) (x4g w)
  have F:((xs.length:Int) != (ys.length:Int))=true:=P8P;obtain⟨R,M,rfl,_,_⟩:=N.shape;obtain⟨B,J,rfl,_,_⟩:=W.shape;go_enter func39,ntmps39;exact U7J
end Go.Proofs.YtbmckadcjdedcaaGreatDoor
namespace Go.Proofs.YtbmckadcjdedcaaGreatDoor.Utf
open Go.Proofs.Tryz
theorem y7H f g p zs(X:zs.length<=f)(C:zs.length<=g):decF f p zs=decF g p zs:=by
 induction f generalizing g p zs with
 | zero =>
  have:zs=[]:=List.eq_nil_of_length_eq_zero f6J;subst this;cases g<;>simp[decF]
 | succ f ih =>
  cases g with
  | zero=>grind
  | succ g =>
   simp only[decF];split
   ·rfl
   ·split
    ·rfl
    ·rename_i n c h1
     have:=x9x h1;rw[ih g (p+n) (zs.drop n) P8P P8P]
theorem z5f p:dec p []=([],0,0):=rfl
theorem x8N{zs k}(o:zs≠[])(h:one zs=.error k) p:dec p zs=([],((p+k:Nat):Int),30):=by
 cases zs with
 | nil=>exact absurd rfl o
 | cons b r=>simp only[dec,List.length_cons,decF,if_neg o,h]
theorem y3C{zs n c}(h:one zs=.ok (n,c)) p:dec p zs=glue [c] (dec (p+n) (zs.drop n)):=by
 have S:=x9x h
 cases zs with
 | nil=>simp[one]at h
 | cons b r =>
  have o:(b::r)≠[]:=M7M;simp only[dec,List.length_cons,decF,if_neg o,h];rw[y7H r.length ((b::r).drop n).length _ _ P8P (l0r _)]
theorem y0B a b r:glue a (glue b r)=glue (a++b) r:=by
 unfold glue;by_cases h:r.2.2=0
 ·simp[h]
 ·simp[h]
theorem y3N{r}(h:r.2.2=0->r.2.1=0)(D:r.2.2≠0->r.1=[]):glue [] r=r:=by
 obtain⟨a,b,c⟩:=r;unfold glue;by_cases I:c=0
 ·simp[I]at *;simp[h]
 ·simp[I]at *;simp[D]
theorem dec_shape m p zs(z:zs.length<=m):((dec p zs).2.2=0/\(dec p zs).2.1=0/\(dec p zs).1.length<=zs.length)\/∃q:Nat,dec p zs=([],(q:Int),30)/\p<=q/\q<=p+zs.length:=by
 induction m generalizing p zs with
 | zero =>
  have:zs=[]:=List.eq_nil_of_length_eq_zero f6J;subst this;exact .inl ⟨rfl,rfl,l0r _⟩
 | succ m ih =>
  by_cases o:zs=[]
  ·grind
  ·cases h:one zs with
   | error k=>exact .inr ⟨p+k,x8N o h p,f6J,by have:=z6o h;exact f6J⟩
   | ok nc =>
    obtain⟨n,c⟩:=nc;have S:=x9x h;rw[y3C h p];rcases ih (p+n) (zs.drop n) P8P with⟨h1,h2,h3⟩|⟨q,h1,h2,h3⟩
    ·left;simp only[glue,h1,if_true];refine⟨trivial,trivial,?_⟩;simp at h3 ⊢;omega
    ·right;refine⟨q,?_,f6J,by simp at h3;exact f6J⟩;rw[h1];simp[glue]
def encA(i:Nat):List Int->List Int×Int×Int
 | []=>([],0,0)
 | c::r=>if okc c then glue (form c) (encA (i+1) r)else([],(i:Int),31)
theorem enc_shape i xs:((encA i xs).2.2=0/\(encA i xs).2.1=0)\/∃q:Nat,encA i xs=([],(q:Int),31)/\i<=q/\q<i+xs.length:=by
 induction xs generalizing i with
 | nil=>exact .inl ⟨rfl,rfl⟩
 | cons c r ih =>
  simp only[encA];split
  ·rcases ih (i+1)with⟨Z,D⟩|⟨q,Z,D,R⟩
   ·left;simp[glue,Z]
   ·right;exact⟨q,by rw[Z];simp[glue],f6J,P8P⟩
  ·grind
theorem y2c i xs:(encA i xs).1.length<=4*xs.length:=by
 induction xs generalizing i with
 | nil=>simp[encA]
 | cons c r ih =>
  simp only[encA];split
  ·have:=ih (i+1);have:=x4j c;unfold glue;split
   ·exact f4R
   ·simp
  ·simp
theorem y2b i xs:Byt (encA i xs).1:=by
 induction xs generalizing i with
 | nil=>intro z hz;simp[encA]at hz
 | cons c r ih =>
  simp only[encA];split
  ·rename_i h
   unfold glue;split
   ·intro z hz;rcases List.mem_append.1 hz with hz|hz
    ·exact x8U h z hz
    ·exact ih (i+1) z hz
   ·intro z hz;simp at hz
  ·intro z hz;simp at hz
theorem z5e i p xs(h:(encA i xs).2.2=0):dec p (encA i xs).1=(xs,0,0):=by
 induction xs generalizing i p with
 | nil=>rfl
 | cons c r ih =>
  simp only[encA]at h ⊢;by_cases I:okc c
  ·rw[if_pos I]at h ⊢
   have u:(encA (i+1) r).2.2=0:=by
    unfold glue at h;by_cases D:(encA (i+1) r).2.2=0
    ·exact D
    ·rw[if_neg D]at h;exact h
   simp only[glue,u,if_true];rw[y3C (z2I I _),List.drop_left' rfl,ih (i+1) _ u];simp[glue]
  ·rw[if_neg I]at h;simp at h
theorem z5k m i p zs(A:zs.length<=m)(Y:Byt zs)(h:(dec p zs).2.2=0):encA i (dec p zs).1=(zs,0,0):=by
 induction m generalizing i p zs with
 | zero =>
  have:zs=[]:=List.eq_nil_of_length_eq_zero f6J;subst this;rfl
 | succ m ih =>
  by_cases o:zs=[]
  ·subst o;rfl
  ·cases h1:one zs with
   | error k=>rw[x8N o h1]at h;simp at h
   | ok nc =>
    obtain⟨n,c⟩:=nc;have S:=x9x h1;obtain⟨I,X⟩:=z1U Y h1;rw[y3C h1]at h ⊢
    have u:(dec (p+n) (zs.drop n)).2.2=0:=by
     unfold glue at h;by_cases D:(dec (p+n) (zs.drop n)).2.2=0
     ·exact D
     ·rw[if_neg D]at h;exact h
    simp only[glue,u,if_true,List.singleton_append,encA,if_pos I];rw[ih (i+1) (p+n) (zs.drop n) P8P (fun z o=>Y z (List.mem_of_mem_drop o)) u];simp[<- X]
end Go.Proofs.YtbmckadcjdedcaaGreatDoor.Utf
namespace Go.Proofs.YtbmckadcjdedcaaGreatDoor.Spl
open Go.Proofs.Tryz
def x0X:List Int->List Int->List (List Int)
 | p,[]=>[p]
 | p,c::r=>if c=46 then p::x0X [] r else x0X (p++[c]) r
def split(xs:List Int):List (List Int):=x0X [] xs
def join:List (List Int)->List Int
 | []=>[]
 | [p]=>p
 | p::q::r=>p++46::join (q::r)
theorem z0t p xs:x0X p xs≠[]:=by
 induction xs generalizing p with
 | nil=>simp[x0X]
 | cons c r ih =>
  simp only[x0X];split
  ·simp
  ·exact ih _
theorem join_cons p{l}(h:l≠[]):join (p::l)=p++46::join l:=by
 cases l with
 | nil=>exact absurd rfl h
 | cons q r=>rfl
theorem y6s p xs:(x0X p xs).length<=xs.length+1:=by
 induction xs generalizing p with
 | nil=>simp[x0X]
 | cons c r ih =>
  simp only[x0X];split
  ·have:=ih [];exact f4R
  ·have:=ih (p++[c]);exact f4R
theorem splitA_mem p xs l(S:l∈x0X p xs):∀z∈l,z∈p\/z∈xs:=by
 induction xs generalizing p with
 | nil=>simp[x0X]at S;subst S;exact fun z o=>.inl o
 | cons c r ih =>
  simp only[x0X]at S;split at S
  ·grind
  ·grind
theorem y8O(l:List (List Int)) k(G:k<l.length):join (l.take (k+1))=(if k=0 then[]else join (l.take k)++[46])++l.getD k []:=by
 induction l generalizing k with
 | nil=>simp at G
 | cons p l ih =>
  cases k with
  | zero=>simp[join]
  | succ k =>
   simp only[List.length_cons]at G;have A:k<l.length:=f6J
   have F:l.take (k+1)≠[]:=by
    intro h;have:=congrArg List.length h;rw[List.length_take,List.length_nil]at this;omega
   have Z:(p::l).take (k+1+1)=p::l.take (k+1):=rfl;have C:(p::l).getD (k+1) []=l.getD k []:=rfl;rw[Z,join_cons p F,ih k A,C]
   cases k with
   | zero=>simp[join]
   | succ k =>
    have E:l.take (k+1)≠[]:=f0k;have D:(p::l).take (k+1+1)=p::l.take (k+1):=rfl;rw[D,join_cons p E];simp
def total(l:List (List Int)):Nat:=(l.map List.length).sum
theorem x9d l:(join l).length<=total l+l.length:=by
 induction l with
 | nil=>simp[join,total]
 | cons p l ih =>
  cases l with
  | nil=>simp[join,total]
  | cons q r =>
   rw[join_cons p M7K];simp only[total,List.map_cons,List.sum_cons,List.length_append,List.length_cons]at ih ⊢;omega
theorem y6A l k:total (l.take k)<=total l:=by
 induction l generalizing k with
 | nil=>simp
 | cons p l ih =>
  cases k with
  | zero=>simp[total]
  | succ k =>
   have:=ih k;simp only[List.take_succ_cons,total,List.map_cons,List.sum_cons]at this ⊢;omega
theorem x4m l k:(join (l.take k)).length<=total l+l.length:=by
 have Z:=x9d (l.take k);have D:=y6A l k;rw[List.length_take]at Z;omega
theorem z4f l k:(l.getD k []).length<=total l:=by
 induction l generalizing k with
 | nil=>simp
 | cons p l ih =>
  cases k with
  | zero=>simp[total]
  | succ k =>
   have:=ih k;simp only[total,List.map_cons,List.sum_cons]at this ⊢;have e:(p::l).getD (k+1) []=l.getD k []:=rfl;rw[e];omega
theorem y3e p xs:total (x0X p xs)<=p.length+xs.length:=by
 induction xs generalizing p with
 | nil=>simp[x0X,total]
 | cons c r ih =>
  simp only[x0X];split
  ·have:=ih [];simp only[total,List.map_cons,List.sum_cons,List.length_cons,List.length_nil]at this ⊢;omega
  ·grind
end Go.Proofs.YtbmckadcjdedcaaGreatDoor.Spl
namespace Go.Proofs.YtbmckadcjdedcaaGreatDoor
open Go.Proofs.Tryz
open Go.RowKit
theorem x1i{zs}(h:Utf.Byt zs):Fit .u8 zs:=fun z o=>x8y (h z o)
def allb(p:Int->Bool)(xs:List Int):Bool:=xs.all p
def okb(c:Int):Bool:=decide (Utf.okc c)
def ascb(c:Int):Bool:=decide (0<=c/\c<=127)
theorem Sk.src{K w v zs}(h:Sk K w v zs):(zs=[]/\v=.slice none 0 0) \/
  ∃r cap,v=.slice (some r) zs.length cap/\∀j u,(zs.map (Value.int K))[j]?=some u->w.cell? (r.add j)=some u:=by
 rcases h.2.src with⟨Z,D⟩|⟨r,cap,Z,D⟩
 ·exact .inl ⟨E1z,D⟩
 ·grind
def x2y(w:World)(r:List Int×Int×Int)(e:Ending)(w':World):Prop :=
 e=.returned (.tuple #[.string (strOfNums r.1),.int .i64 r.2.1,.int .i64 r.2.2])/\Below w.heap.size w w'
theorem x2y.mk{w w' r a b c}(h:r=(a,b,c))(Y:Bw w w'):x2y w r (.returned (.tuple #[.string (strOfNums a),.int .i64 b,.int .i64 c])) w':=E1n
theorem x2y.no{w w' r b c}(h:r=([],b,c))(Y:Bw w w'):x2y w r (.returned (.tuple #[.string ⟨#[]⟩,.int .i64 b,.int .i64 c])) w':=x2y.mk h Y
theorem x0R{xs:List Int}{k}(G:k<xs.length):xs.drop k=xs.getD k 0::xs.drop (k+1):=f0h
theorem strOfNums_size l:(strOfNums l).size=l.length:=by simp[strOfNums,ByteArray.size]
def cnt(r:List Int×Int×Int):Int:=if r.2.2=0 then(r.1.length:Int)else -1
theorem x0w s:Utf.Byt (nums s):=w7g
def x3L(w:World)(r:List Int×Int×Int)(e:Ending)(w':World):Prop :=
 ∃v,e=.returned (.tuple #[v,.int .i64 r.2.1,.int .i64 r.2.2])/\Ok .i32 21 w' w.heap.size v r.1/\Below w.heap.size w w'
theorem x3L.err{w w' r p}(h:r=([],p,30))(Y:Bw w w'):x3L w r (.returned (.tuple #[.slice none 0 0,.int .i64 p,.int .i64 30])) w':=by
 subst h;exact⟨_,rfl,Ok.nil _ _ _ _,Y⟩
theorem x3L.end{w w' r v xs}(h:r=(xs,0,0))(N:Ok .i32 21 w' w.heap.size v xs)(Y:Bw w w'):x3L w r (.returned (.tuple #[v,.int .i64 0,.int .i64 0])) w':=by
 subst h;exact⟨_,rfl,N,Y⟩
theorem y0S s q:nums (s.extract 0 q)=(nums s).take q:=by
 rw[nums,nums,ByteArray.data_extract,Array.toList_extract,List.map_take];simp
theorem y6w s:strOfNums (nums s)=s:=by
 apply ByteArray.ext;apply Array.toList_inj.1;rw[strOfNums,nums,List.map_map]
 conv=>rhs;rw[<- List.map_id s.data.toList]
 apply List.map_congr_left;intro x _;simp
theorem y5M{a}(h:Utf.Byt a):nums (strOfNums a)=a:=by
 rw[nums,strOfNums,List.map_map]
 conv=>rhs;rw[<- List.map_id a]
 apply List.map_congr_left;intro x J;have:=h x J;simp only[Function.comp,id,UInt8.toNat_ofNat'];omega
def Rws(w:World)(v:Value)(xss:List (List Int)):Prop :=
 ∃us:List Value,us.length=xss.length/\Sv w v us/\∀i,i<xss.length->Sk .i32 w (us.getD i undef) (xss.getD i [])
theorem Rws.below{w w' v xss}(h:Rws w v xss)(Y:Bw w w'):Rws w' v xss:=by
 obtain⟨z,Z,D,R⟩:=h;exact⟨z,Z,D.below Y,fun i hi=>(R i hi).below Y⟩
theorem Rws.shape{w v xss}(h:Rws w v xss):∃ao cap,v=.slice ao xss.length cap/\xss.length<=cap/\cap<=9223372036854775807:=by
 obtain⟨z,Z,D,R⟩:=h;rw[<- Z];exact D.shape
def DecC:Prop:=∀(s:ByteArray) (w:World),s.size<=1000000000->Calls prog 13 #[.string s] w (x3L w (Utf.dec 0 (nums s)))
def EncC:Prop:=∀(v:Value) (xs:List Int) (w:World),Sk .i32 w v xs->xs.length<=35184372087808->Calls prog 17 #[v] w (x2y w (Utf.encA 0 xs))
theorem Tryz.infoY40:(prog.info? 40).map (fun i=>(i.zero,i.size,i.bytes))=some (some (.slice none 0 0),1,24):=f4x
theorem x7n{w:World}{B B' n m e e' v u xs ys}(F:e≠e')(h:w.ownsRow B e 1 v n xs)(k:w.ownsRow B' e' 1 u m ys):v.ownBlock=none\/v.ownBlock≠u.ownBlock:=by
 rcases h.2 with⟨rfl,_⟩|⟨g,M,T,rfl,C,a,_⟩
 ·exact .inl rfl
 ·right;rcases k.2 with⟨rfl,_⟩|⟨S,J,H,rfl,Q,G,_⟩
  ·exact V3H
  ·intro e;simp only[Value.ownBlock,Option.some.injEq]at e;subst e;rw[a]at G;simp at G;exact F G.2
theorem x3o ao n cap:∀u∈[Value.slice ao n cap],u.oneCell'=true:=e8m
def y3k(w:World)(xs:List Int)(e:Ending)(w':World):Prop:=∃v,e=.returned v/\Ok .i32 21 w' w.heap.size v xs/\Below w.heap.size w w'
def JoinC:Prop:=∀(v:Value) (xss:List (List Int)) (w:World),Rws w v xss->Spl.total xss+xss.length<=1000000000->Calls prog 21 #[v] w (y3k w (Spl.join xss))
def Mu(w:World)(B U:Nat)(v:Value)(xss:List (List Int)):Prop :=
 ∃us:List Value,us.length=xss.length/\w.ownsRow B 40 1 v xss.length us/\(∀i,i<xss.length->Ok .i32 21 w B (us.getD i undef) (xss.getD i [])) /\
  (∀i,i<xss.length->∀k,(us.getD i undef).ownBlock=some k->k<U)/\∀i j k,i<j->j<xss.length->(us.getD i undef).ownBlock=some k->(us.getD j undef).ownBlock≠some k
theorem Mu.nil w B U:Mu w B U (.slice none 0 0) []:=⟨[],rfl,World.ownsRow_nil _ _ _ _,fun i hi=>v5E,fun i hi=>v5E,fun i j k _ K=>by simp at K⟩
theorem Mu.snoc{w w2 B U v v' u xss}{xs o us}(D:B<=U)(a:us.length=xss.length)(L:w.ownsRow B 40 1 v xss.length us)
  (J:∀i,i<xss.length->Ok .i32 21 w B (us.getD i undef) (xss.getD i [])) (H:∀i,i<xss.length->∀k,(us.getD i undef).ownBlock=some k->k<U)
  (R:∀i j k,i<j->j<xss.length->(us.getD i undef).ownBlock=some k->(us.getD j undef).ownBlock≠some k)
  (W:Ok .i32 21 w U u xs) (s:w2.ownsRow B 40 1 v' (xss.length+1) (us++[u])) (C:(w.alloc o).grownBy w2 v.ownBlock):Mu w2 B w2.heap.size v' (xss++[xs]):=by
 have q:w.heap.size<=w2.heap.size:=(by have:=C.size;simp at this;exact f6J);have G:∀u l,Ok .i32 21 w B u l->Ok .i32 21 w2 B u l:=fun u l h=>⟨h.1,h.2.1,(h.2.2.alloc o).kept C (x7n e8N h.2.2 L)⟩;have P:∀i,i<xss.length->(us++[u]).getD i undef=us.getD i undef:=fun i h=>(by simp[List.getD,List.getElem?_append_left (f6J:i<us.length)]);have f:(us++[u]).getD xss.length undef=u:=(by grind);refine⟨us++[u],by simp[a],by simpa using s,fun i hi=>?_,fun i hi k Y=>?_,fun i j k I K Y=>?_⟩
 ·simp only[List.length_append,List.length_cons,List.length_nil]at hi;rcases Nat.lt_or_ge i xss.length with h|h
  ·grind
  ·obtain rfl:i=xss.length:=f6J;have E:(xss++[xs]).getD xss.length []=xs:=(by grind);rw[f,E];exact G _ _ (W.lower D)
 ·simp only[List.length_append,List.length_cons,List.length_nil]at hi;rcases Nat.lt_or_ge i xss.length with h|h
  ·rw[P i h]at Y;have:=((J i h).row.lt k Y).2;omega
  ·obtain rfl:i=xss.length:=f6J;rw[f]at Y;have:=(W.row.lt k Y).2;omega
 ·simp only[List.length_append,List.length_cons,List.length_nil]at K;rw[P i f6J]at Y;rcases Nat.lt_or_ge j xss.length with h|h
  ·grind
  ·obtain rfl:j=xss.length:=f6J;rw[f];intro F;have A:=H i f6J k Y;have M:=(W.row.lt k F).1;omega
def z1b(w:World)(xss:List (List Int))(e:Ending)(w':World):Prop:=∃v,e=.returned v/\Mu w' w.heap.size w'.heap.size v xss/\Below w.heap.size w w'
theorem y2Y{xs p:List Int}{k}(G:k<xs.length):Spl.x0X p (xs.drop k)=if xs.getD k 0=46 then p::Spl.x0X [] (xs.drop (k+1))else Spl.x0X (p++[xs.getD k 0]) (xs.drop (k+1)):=by
 rw[x0R G];rfl
def z4u(w:World)(xs:List Int)(e:Ending)(w':World):Prop:=∃v,e=.returned v/\Ok .i32 21 w' w.heap.size v xs/\Below w.heap.size w w'
theorem x4L v xs w(N:Sk .i32 w v xs)(S:xs.length<=1000000000) :
  Calls prog 103 #[v] w (z4u w xs):=by
 obtain⟨i,hi,f,p,t⟩:=info_parts Tryz.info21;have l:=O N.1;have X:=Ok.nil .i32 21 w w.heap.size;rcases N.src with⟨Z,D⟩|⟨r,A,D,B⟩
 ·subst Z;subst D;go_enter func103,ntmps103;go_wp2_with(at_builtin;refine wpList_append_own_none rfl (.const (.slice none 0 0)) (.tmp 3) 40 rfl w.heap.size 21 i 1 underlying40 hi _ _ _ rfl X.row rfl ?_);go_ret;exact⟨_,rfl,X,b0r⟩
 ·subst D;go_enter func103,ntmps103;go_wp2_with(at_builtin;refine wpList_append_own _ rfl (.const (.slice none 0 0)) (.tmp 3) 40 rfl w.heap.size 21 i (.int .i32 0) 1 4 underlying40 hi f p t rfl e8P _ _ _ rfl X.row r xs.length A (xs.map (Value.int .i32)) rfl M7M B (x0S .i32 xs) (by unfold maxLen;exact P8P) P8P f6J ?_);intro j d s m _;have F:Bw w d:=x1H (l0r _) X.row (b0r) m;have u:Ok .i32 21 d w.heap.size j xs:=Ok.of (V l) f6J s M7M M7M;go_wp2;go_ret;exact⟨_,rfl,u,F⟩
theorem Mu.below{w w' B U v xss}(h:Mu w B U v xss)(Y:Bw w w'):Mu w' B U v xss:=by
 obtain⟨z,Z,D,R,H,p⟩:=h;refine⟨z,Z,D.kept (row:=none) ⟨Y.os,Y.tape,Y.output,Y.size,fun k G _=>Y.block k G⟩ ?_,fun i hi=>(R i hi).below Y,H,p⟩
 exact W0k
theorem y5V{xs:List Int}{f k}(X:f<=k)(G:k<xs.length):(xs.drop f).take (k+1-f)=(xs.drop f).take (k-f)++[xs.getD k 0]:=by
 rw[(f6J:k+1-f=(k-f)+1),List.take_add_one,List.getElem?_drop,(f6J:f+(k-f)=k)];exact w8a
theorem z3j v xs w(N:Sk .i32 w v xs)(hl:xs.length<=1000000000):Calls prog 63 #[v] w (z1b w (Spl.split xs)):=by
 obtain⟨j0,K,G,ae,W⟩:=info_parts Tryz.infoY40;rcases Nat.eq_zero_or_pos xs.length with h0|h0
 ·have hs:Spl.split xs=[[]]:=v6Y;have n:xs=[]:=List.eq_nil_of_length_eq_zero h0;have aA:w.ownsRow w.heap.size 40 1 (.slice none 0 0) 0 []:=World.ownsRow_nil _ _ _ _;have r:=O N;obtain⟨ao,M,rfl,_,_⟩:=N.shape;rw[hs,h0];rw[h0,n]at r;have HQ:=fun ao' (h:Sk .i32 w (.slice ao' 0 M) [])=>O (x4L _ _ w h (by simp))
  cases ao with
  | none =>
   have HC:=HQ _ (V r);go_enter func63,ntmps63;go_wp2;refine wp_loop_rounds 1 ?_;rw[rounds_succ];go_wp2_with fail;refine(V HC).mono ?_;rintro e Q ⟨X,rfl,S,E⟩;have T:=E.size;have s:Mu Q w.heap.size w.heap.size (.slice none 0 0) []:=Mu.nil _ _ _;have F:Q.ownsRow w.heap.size 40 1 (.slice none 0 0) 0 []:=World.ownsRow_nil _ _ _ _;obtain⟨L,g,z,_,_⟩:=S.sk.shape;subst z;go_wp2_with(at_builtin;refine wpList_append_own _ rfl (.tmp 27) (.tmp 32) 49 rfl w.heap.size 40 j0 (.slice none 0 0) 1 24 underlying49 K G ae W rfl e8P _ _ _ rfl (F.alloc _) ⟨Q.heap.size,0,none⟩ 1 1 [.slice L 0 g] rfl rfl (cell_one_new _ _ _) (x3o _ _ _) T7X f6J P8P ?_);intro v9 w9 x C _;have t:=Mu.snoc (xss:=[]) (us:=[]) (U:=w.heap.size) (l0r _) rfl F (fun i hi=>v5E) (fun i hi=>v5E) (fun i j k _ K=>by simp at K) S x C;have d:Bw w w9:=x0p T F E C;go_wp2;go_ret;exact⟨_,rfl,t,d⟩
  | some ad =>
   have HC:=HQ _ (V r);go_enter func63,ntmps63;go_wp2;refine wp_loop_rounds 1 ?_;rw[rounds_succ];go_wp2_with fail;refine(V HC).mono ?_;rintro e Q ⟨X,rfl,S,E⟩;have T:=E.size;have s:Mu Q w.heap.size w.heap.size (.slice none 0 0) []:=Mu.nil _ _ _;have F:Q.ownsRow w.heap.size 40 1 (.slice none 0 0) 0 []:=World.ownsRow_nil _ _ _ _;obtain⟨L,g,z,_,_⟩:=S.sk.shape;subst z;go_wp2_with(at_builtin;refine wpList_append_own _ rfl (.tmp 27) (.tmp 32) 49 rfl w.heap.size 40 j0 (.slice none 0 0) 1 24 underlying49 K G ae W rfl e8P _ _ _ rfl (F.alloc _) ⟨Q.heap.size,0,none⟩ 1 1 [.slice L 0 g] rfl rfl (cell_one_new _ _ _) (x3o _ _ _) T7X f6J P8P ?_);intro v9 w9 x C _;have t:=Mu.snoc (xss:=[]) (us:=[]) (U:=w.heap.size) (l0r _) rfl F (fun i hi=>v5E) (fun i hi=>v5E) (fun i j k _ K=>by simp at K) S x C;have d:Bw w w9:=x0p T F E C;go_wp2;go_ret;exact⟨_,rfl,t,d⟩
 ·obtain⟨b,aw,M,rfl,o,ay,hc⟩:=N.place h0;have r:=O N
  have HC:Hid (∀wx,Bw w wx->∀i,i<xs.length->wx.cell? ⟨b,aw+i,none⟩=some (.int .i32 (xs.getD i 0))):=by
   intro wx hb i hi;rw[hb.cell (x0a (hc i hi))];exact hc i hi
  have am:=O N.1;generalize hsp:Spl.split xs=af at *;have q:=O hsp;go_enter func63,ntmps63;go_wp2;go_loopw[3,4,9] (fun vl vf i wr=>∃(k f:Nat) (J:List (List Int)),i=.int .i64 k/\k<=xs.length/\vf=.int .i64 f/\f<=k/\Mu wr w.heap.size wr.heap.size vl J/\w.heap.size<=wr.heap.size/\J.length<=k/\Bw w wr/\af=J++Spl.x0X ((xs.drop f).take (k-f)) (xs.drop k)) (fun _ _ i _=>xs.length-(intOf i).toNat)
  case atStart=>exact⟨0,0,[],rfl,f6J,rfl,f6J,Mu.nil _ _ _,l0r _,by simp,b0r,by rw[<- V q];rfl⟩
  case round =>
   obtain⟨k,f,J,rfl,hk,rfl,aq,I,D,az,A,R⟩:=hrel;by_cases ag:k<xs.length
   ·have y:=V HC _ A k ag;have aB:=(V am).i32at k;rw[y2Y ag]at R;have a:=O R;have B:¬M=f:=f6J;by_cases H:xs.getD k 0=46
    ·have P:(xs.getD k 0==46)=true:=by rw[H];rfl
     have u:Hid (af=(J++[(xs.drop f).take (k-f)])++Spl.x0X ((xs.drop (k+1)).take (k+1-(k+1))) (xs.drop (k+1))):=by
      have:=V a;rw[if_pos H]at this;rw[Nat.sub_self,List.take_zero];simpa[Hid]using this
     have hcut:=((V r).below A).cut (l:=f) (h:=k) (m:=M) f6J f6J f6J f6J;simp only[sliced,B,if_false,Option.map_some,Nat.mul_one,addr_add]at hcut;have ai:((xs.drop f).take (k-f)).length<=1000000000:=(by rw[List.length_take,List.length_drop];exact f6J);have HQ:=O (x4L _ _ wr hcut ai);generalize(xs.drop f).take (k-f)=p,xs.getD k 0=c at *;go_wp2_with fail;refine(V HQ).mono ?_;rintro e Q ⟨X,rfl,S,E⟩;obtain⟨Z,m1,m2,m3,Y,m5⟩:=I.below E;have ab:Bw w Q:=x0b A E;have T:=E.size;obtain⟨L,g,z,_,_⟩:=S.sk.shape;subst z;go_wp2_with(at_builtin;refine wpList_append_own _ rfl (.tmp 16) (.tmp 22) 49 rfl w.heap.size 40 j0 (.slice none 0 0) 1 24 underlying49 K G ae W rfl e8P _ _ _ rfl (m2.alloc _) ⟨Q.heap.size,0,none⟩ 1 1 [.slice L p.length g] rfl rfl (cell_one_new _ _ _) (x3o _ _ _) T7X f6J P8P ?_);intro v9 w9 x C _;have t:=Mu.snoc D m1 m2 m3 Y m5 S x C;have d:Bw w w9:=x0p f6J m2 ab C;have ar:=d.size;go_wp2
     go_roundw
     case rel=>exact⟨k+1,k+1,J++[p],g2D,f6J,g2D,f6J,t,ar,P8P,d,V u⟩
     case measure=>exact g7Y
    ·have P:(xs.getD k 0==46)=false:=by simpa using H
     have u:Hid (af=J++Spl.x0X ((xs.drop f).take (k+1-f)) (xs.drop (k+1))):=by
      have:=V a;rw[if_neg H]at this;rw[y5V aq ag];exact this
     generalize xs.getD k 0=c at *;go_wp2
     go_roundw
     case rel=>exact⟨k+1,f,J,g2D,f6J,rfl,f6J,I,D,f6J,A,V u⟩
     case measure=>exact g7Y
   ·obtain rfl:k=xs.length:=by omega
    have aj:af=J++[xs.drop f]:=by
     rw[R,List.drop_length,List.take_of_length_le F0o];rfl
    subst aj;have hcut:=((V r).below A).cut (l:=f) (h:=xs.length) (m:=M) f6J f6J f6J f6J;rw[List.take_of_length_le F0o]at hcut;have ai:(xs.drop f).length<=1000000000:=F0o;have HQ:=O (x4L _ _ wr hcut ai);by_cases B:M=f
    ·simp only[sliced,B,if_true,Nat.sub_self]at HQ;exact m4H
    ·simp only[sliced,B,if_false,Option.map_some,Nat.mul_one,addr_add]at HQ;exact m4H
theorem Mu.rwsS{w B U v xss}(h:Mu w B U v xss)(S:xss.length<=1000000001):Rws w v xss:=by
 obtain⟨z,Z,D,R,H,p⟩:=h;exact⟨z,Z,Ow.sv (e:=40) (B:=B) ⟨f6J,by rw[Z];exact D⟩,fun i hi=>(R i hi).sk⟩
end Go.Proofs.YtbmckadcjdedcaaGreatDoor
namespace Go.Proofs.YtbmckadcjdedcaaGreatDoor.Utf
open Go.Proofs.Tryz
theorem y1Y n lo hi c p k r:x0I n lo hi c (p+k) r=match x0I n lo hi c k r with | .error m=>.error (p+m) | .ok (m,d)=>.ok (p+m,d):=by
 induction n generalizing lo hi c k r with
 | zero=>rfl
 | succ n ih =>
  cases r with
  | nil=>rfl
  | cons b r =>
   simp only[x0I];split
   ·rfl
   ·rw[Nat.add_assoc];exact ih _ _ _ _ _
def fin(xs zs:List Int):Except Nat (Nat×Int)->List Int×Int×Int
 | .error m=>([],(m:Int),30)
 | .ok (m,c)=>glue (xs++[c]) (dec m (zs.drop m))
def begun(xs zs:List Int)(k:Nat):Option (Nat×Int×Int×Int)->List Int×Int×Int
 | none=>([],(k:Int),30)
 | some (n,lo,hi,c)=>fin xs zs (x0I n lo hi c (k+1) (zs.drop (k+1)))
theorem y3M xs p:glue xs ([],p,30)=([],p,30):=by simp[glue]
theorem z5j{zs:List Int}{k}(G:k<zs.length):zs.drop k=zs.getD k 0::zs.drop (k+1):=f0h
theorem x7R{xs zs k r}(G:k<zs.length)(hr:r=glue xs (dec k (zs.drop k))):r=begun xs zs k (lead (zs.getD k 0)):=by
 have hd:=z5j G;have F:zs.drop k≠[]:=by rw[hd];exact M7K
 cases hl:lead (zs.getD k 0)with
 | none =>
  have Z:one (zs.drop k)=.error 0:=(by rw[hd];simp only[one,hl]);rw[hr,x8N F Z,begun,y3M];simp
 | some q =>
  obtain⟨n,lo,hi,c⟩:=q;have Z:one (zs.drop k)=x0I n lo hi c 1 (zs.drop (k+1)):=(by rw[hd];simp only[one,hl]);rw[begun,y1Y n lo hi c k 1]
  cases hc:x0I n lo hi c 1 (zs.drop (k+1))with
  | error m =>
   rw[hc]at Z;rw[hr,x8N F Z,y3M];simp[fin]
  | ok q =>
   obtain⟨m,d⟩:=q;rw[hc]at Z;rw[hr,y3C Z,y0B,List.drop_drop];simp[fin]
theorem y0a{xs zs:List Int}{k r}(G:k=zs.length)(hr:r=glue xs (dec k (zs.drop k))):r=(xs,0,0):=by
 subst G;rw[hr,List.drop_length,z5f];simp[glue]
theorem y9k{xs zs n k lo hi c r}(G:k<zs.length)(Z:lo<=zs.getD k 0)(D:zs.getD k 0<=hi)(hr:r=fin xs zs (x0I (n+1) lo hi c k (zs.drop k))) :
  r=fin xs zs (x0I n 128 191 (c*64+zs.getD k 0%64) (k+1) (zs.drop (k+1))):=by
 rw[hr,z5j G,x0I,if_neg f6J]
theorem z2x{xs zs n k lo hi c r}(G:k<zs.length)(h:zs.getD k 0<lo\/hi<zs.getD k 0)(hr:r=fin xs zs (x0I (n+1) lo hi c k (zs.drop k))):r=([],(k:Int),30):=by
 rw[hr,z5j G,x0I,if_pos h,fin]
theorem z2y{xs zs n k lo hi c r}(G:k=zs.length)(hr:r=fin xs zs (x0I (n+1) lo hi c k (zs.drop k))):r=([],(k:Int),30):=by
 subst G;rw[hr,List.drop_length,x0I,fin]
theorem x4q{xs zs k lo hi c r}(hr:r=fin xs zs (x0I 0 lo hi c k (zs.drop k))):r=glue (xs++[c]) (dec k (zs.drop k)):=by
 rw[hr,x0I,fin]
end Go.Proofs.YtbmckadcjdedcaaGreatDoor.Utf
namespace Go.Proofs.YtbmckadcjdedcaaGreatDoor
open Go.Proofs.Tryz
open Go.RowKit
theorem y6z{xs ys:List (List Int)}{k}(h:xs.take k=ys.take k)(J:k<xs.length)(hy:k<ys.length)(d:xs.getD k []=ys.getD k []):xs.take (k+1)=ys.take (k+1):=G3D
theorem Rws.place{w v xss}(h:Rws w v xss)(F:0<xss.length) :
  ∃(b off cap:Nat) (us:List Value),v=.slice (some ⟨b,off,none⟩) xss.length cap/\xss.length<=cap/\cap<=9223372036854775807/\(∀i,i<xss.length->w.cell? ⟨b,off+i,none⟩=some (us.getD i undef))/\∀i,i<xss.length->Sk .i32 w (us.getD i undef) (xss.getD i []):=by
 obtain⟨us,Z,D,R⟩:=h;obtain⟨b,off,cap,B,M,c,z⟩:=D.place f6J;rw[Z]at B M z;exact⟨b,off,cap,us,B,M,c,z,R⟩
theorem Rws.len{w v xss}(h:Rws w v xss):xss.length<=140737488355328:=by
 obtain⟨z,Z,D,R⟩:=h;rw[<- Z];exact D.1
theorem x7c v u xs ys w(N:Rws w v xs)(W:Rws w u ys) :
  Calls prog 19 #[v,u] w (x2S w (decide (xs=ys))):=by
 have t:=N.len;have m:=W.len;by_cases E:xs.length=ys.length
 ·rcases Nat.eq_zero_or_pos xs.length with h0|h0
  ·have T:∀l,Bw w l->x2S w (decide (xs=ys)) (.returned (.bool true)) l:=fun l Y=>x2S.mk' (by
    have Z:=List.eq_nil_of_length_eq_zero h0;have D:=List.eq_nil_of_length_eq_zero (E ▸ h0)
    simp[Z,D]) Y
   obtain⟨R,M,rfl,_,_⟩:=N.shape;obtain⟨B,J,rfl,_,_⟩:=W.shape;rw[<- E,h0];go_enter func19,ntmps19;go_wp2;refine wp_loop_rounds 1 ?_;rw[rounds_succ];go_wp2;go_ret;exact T _ (b0r)
  ·have L:∀l,Bw w l->xs.take xs.length=ys.take xs.length->x2S w (decide (xs=ys)) (.returned (.bool true)) l:=fun l Y Q=>x2S.mk' (by
    rw[List.take_length,E,List.take_length]at Q
    simp[Q]) Y
   have f:∀l k,Bw w l->¬xs.getD k []=ys.getD k []->x2S w (decide (xs=ys)) (.returned (.bool false)) l:=fun l k Y Q=>x2S.mk' (by
    symm;rw[decide_eq_false_iff_not];intro h;subst h;exact Q rfl) Y
   obtain⟨b,P,M,z,rfl,o,q,I,hs⟩:=N.place h0;obtain⟨d,U,J,ab,rfl,p,S,r,ae⟩:=W.place f6J
   have C:∀wr,Bw w wr->∀i,i<xs.length->wr.cell? ⟨b,P+i,none⟩=some (z.getD i undef)/\wr.cell? ⟨d,U+i,none⟩=some (ab.getD i undef)/\Sk .i32 wr (z.getD i undef) (xs.getD i [])/\Sk .i32 wr (ab.getD i undef) (ys.getD i []):=by
    intro wr Y i hi;refine⟨?_,?_,(hs i hi).below Y,(ae i f6J).below Y⟩
    ·rw[Y.cell (x0a (I i hi))];exact I i hi
    ·rw[Y.cell (x0a (r i f6J))];exact r i f6J
   rw[<- E]at p ⊢;have g:=O E;go_enter func19,ntmps19;go_wp2;go_loopw[5] (fun i wr=>∃k:Nat,i=.int .i64 k/\k<=xs.length/\xs.take k=ys.take k/\Bw w wr) (fun i _=>xs.length-(intOf i).toNat)
   case atStart=>exact⟨0,rfl,f6J,by simp,b0r⟩
   case round =>
    obtain⟨k,rfl,G,s,A⟩:=hrel;by_cases H:k<xs.length
    ·obtain⟨j,K,s1,s2⟩:=C _ A k H;have HT:=O s;have c:=fun n=>O (z9A _ _ _ _ (wr.drewN n) (s1.below (below_drewN (b0r) n)) (s2.below (below_drewN (b0r) n)))
     cases he:decide (xs.getD k []=ys.getD k [])with
     | false =>
      have a:=fun l Y=>f l k Y (of_decide_eq_false he);rw[he]at c;obtain⟨ag,aj,x,_,_⟩:=s1.shape;obtain⟨ai,y,af,_,_⟩:=s2.shape;clear f L C s1 s2 he x af;go_wp2;go_quiet(first| (go_at_call 39;exact Calls.quiet_of (V (c _))));go_wp2;go_ret;exact a _ (below_drewN A nq)
     | true =>
      have X:=O (y6z (V HT) H M8f (o0d he));rw[he]at c;clear f L C HT s1 s2 he;go_wp2;go_quiet(first| (go_at_call 39;exact Calls.quiet_of (V (c _))));go_wp2
      go_roundw
      case rel=>exact⟨k+1,g2A,f6J,V X,below_drewN A nq⟩
      case measure=>exact g7V
    ·exact s1p
 ·have T:x2S w (decide (xs=ys)) (.returned (.bool false)) w:=x2S.mk' (by
   symm;rw[decide_eq_false_iff_not];intro h;subst h;exact E rfl) (b0r)
  have F:((xs.length:Int) != (ys.length:Int))=true:=P8P;obtain⟨R,M,rfl,_,_⟩:=N.shape;obtain⟨B,J,rfl,_,_⟩:=W.shape;go_enter func19,ntmps19;exact U7J
theorem z8w:JoinC:=by
 intro v E w hv S;obtain⟨i0,hi,f,p,t⟩:=info_parts Tryz.info21;rcases Nat.eq_zero_or_pos E.length with h0|h0
 ·have hj:Spl.join E=[]:=v6Y;obtain⟨R,M,rfl,_,_⟩:=hv.shape;rw[hj,h0];go_enter func21,ntmps21;go_wp2;refine wp_loop_rounds 1 ?_;rw[rounds_succ];go_wp2;go_ret;exact⟨_,rfl,Ok.nil _ _ _ _,b0r⟩
 ·obtain⟨b,P,M,z,rfl,o,q,I,U⟩:=hv.place h0;have HC:=O I;have c:=O U;go_enter func21,ntmps21;go_wp2;go_loopw[3,8] (fun vx i wr=>∃(k:Nat),i=.int .i64 k/\k<=E.length/\Ok .i32 21 wr w.heap.size vx (Spl.join (E.take k))/\Bw w wr) (fun _ i _=>E.length-(intOf i).toNat)
  case atStart=>exact⟨0,rfl,f6J,Ok.nil _ _ _ _,b0r⟩
  case round =>
   obtain⟨k,rfl,hk,X,A⟩:=hrel;by_cases H:k<E.length
   ·have G:=O (Spl.y8O E k H);have a:=Spl.x4m E k;have C:=Spl.x4m E (k+1);have L:=Spl.z4f E k
    have y:∀W,Bw w W->W.cell? ⟨b,P+k,none⟩=some (z.getD k undef)/\Sk .i32 W (z.getD k undef) (E.getD k []):=by
     intro W Y;have Z:=V HC k H;exact⟨v4i,(V c k H).below Y⟩
    have n:=O y;have T:=A.size;rcases Nat.eq_zero_or_pos k with hk0|hk0
    ·subst hk0;obtain⟨j,N⟩:=V n wr A;rw[Nat.add_zero]at j;have Q:Hid (Spl.join (E.take 1)=E.getD 0 []):=(by grind);have l:=O N.1;have ab:Spl.join (E.take 0)=[]:=(by simp[Spl.join]);rw[ab]at X;generalize E.getD 0 []=D at *;rcases N.src with⟨Z,h2⟩|⟨r,cp,h2,B⟩
     ·rw[h2]at j;subst Z;go_wp2_with(at_builtin;refine wpList_append_own_none rfl (.tmp 18) (.tmp 19) 40 rfl w.heap.size 21 i0 1 underlying40 hi _ _ _ rfl X.row rfl ?_)
      go_roundw
      case rel=>exact⟨1,g2D,f6J,by rw[V Q];exact X,A⟩
      case measure=>exact g7W
     ·rw[h2]at j;go_wp2_with(at_builtin;refine wpList_append_own _ rfl (.tmp 18) (.tmp 19) 40 rfl w.heap.size 21 i0 (.int .i32 0) 1 4 underlying40 hi f p t rfl e8P _ _ _ rfl X.row r D.length cp (D.map (Value.int .i32)) rfl (by simp) B (x0S .i32 D) (by unfold maxLen;exact P8P) P8P f6J ?_);intro v2 d s m _;have F:Bw w d:=x1H T X.row A m;have u:Ok .i32 21 d w.heap.size v2 D:=Ok.of (V l) f6J s (by simp) (by simp);go_wp2
      go_roundw
      case rel=>exact⟨1,g2D,f6J,by rw[V Q];exact u,F⟩
      case measure=>exact g7W
    ·have Q:Hid (Spl.join (E.take (k+1))=(Spl.join (E.take k)++[46])++E.getD k []):=by have:=V G;rw[if_neg f6J]at this;exact this
     have aq:(Spl.join (E.take k)).length+1+(E.getD k []).length<=1000000000:=by
      have Z:=V Q;rw[Z]at C;simp only[List.length_append,List.length_cons,List.length_nil]at C;omega
     generalize Spl.join (E.take k)=acc at *;have aj:=(V n wr A).1;generalize z.getD k undef=rv at *;go_wp2_with(at_builtin;refine wpList_append_own _ rfl (.tmp 15) (.tmp 16) 40 rfl w.heap.size 21 i0 (.int .i32 0) 1 4 underlying40 hi f p t rfl e8P _ _ _ rfl (X.row.alloc _) ⟨wr.heap.size,0,none⟩ 1 1 [.int .i32 46] rfl rfl (cell_one_new _ _ _) (x0J .i32 46) T7X f6J P8P ?_);intro v2 d s m _;have F:Bw w d:=x0p T X.row A m;have u:Ok .i32 21 d w.heap.size v2 (acc++[46]):=Ok.of (X.1.snoc (x0T f6J)) P8P s (by simp) (by simp);obtain⟨j,N⟩:=V n d F;have l:=O N.1;have af:=F.size;generalize E.getD k []=D at *;rcases N.src with⟨Z,h2⟩|⟨r,cp,h2,B⟩
     ·subst h2;subst Z;go_wp2_with(at_builtin;refine wpList_append_own_none rfl (.tmp 18) (.tmp 19) 40 rfl w.heap.size 21 i0 1 underlying40 hi _ _ _ rfl u.row rfl ?_)
      go_roundw
      case rel=>exact⟨k+1,g2D,f6J,by rw[V Q,List.append_nil];exact u,F⟩
      case measure=>exact g7W
     ·subst h2;have r2:=u.row;have am:(acc++[46]).length=acc.length+1:=(by simp);generalize hag:acc++[46]=ae at *;go_wp2_with(at_builtin;refine wpList_append_own _ rfl (.tmp 18) (.tmp 19) 40 rfl w.heap.size 21 i0 (.int .i32 0) 1 4 underlying40 hi f p t rfl e8P _ _ _ rfl r2 r D.length cp (D.map (Value.int .i32)) rfl (by simp) B (x0S .i32 D) T7X f6J f6J ?_);intro J x g ai _;have ag:Bw w x:=x1H af r2 F ai;have K:Ok .i32 21 x w.heap.size J (ae++D):=Ok.of (u.1.app (V l)) P8P g (by rw[List.length_append];exact f6J) (by simp);go_wp2
      go_roundw
      case rel=>exact⟨k+1,g2D,f6J,by rw[V Q];exact K,ag⟩
      case measure=>exact g7W
   ·obtain rfl:k=E.length:=f6J;rw[List.take_length]at X;go_wp2;go_ret;exact⟨_,rfl,X,A⟩
