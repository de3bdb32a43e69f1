/- Lemmas. -/
import Derived.Test.YtkfcabdmkmljjaaGreatDoorH3
import Derived.Deep.QuietTactic
import Derived.BigQuiet
set_option maxHeartbeats 2000000
namespace Go.Proofs.YtkfcabdmkmljjaaGreatDoor
section
variable{p:Prop}
theorem g6j(h:p:=by unfold okc;exact f6J):p:=h
theorem E1x(h:p:=by simpa using Z):p:=h
theorem P7P(h:p:=by generalize xs.drop f=p at *;go_wp2_with fail;refine(V a).mono ?_;rintro e Q ⟨v1,rfl,q,F⟩;obtain⟨d,u,Z,m3,L,m5⟩:=E.below F;have H:Bw w Q:=bthen T F;have N:=F.size;obtain⟨D,S,r,_,_⟩:=q.sk.shape;subst r;go_wp2_with(at_builtin;refine wpList_append_own _ rfl (.tmp 27) (.tmp 32) 44 rfl w.heap.size 36 K (.slice none 0 0) 1 24 underlying44 hj B o W rfl e8Q _ _ _ rfl (Z.alloc _) ⟨Q.heap.size,0,none⟩ 1 1 [.slice D p.length S] rfl rfl (cell_one_new _ _ _) (x2W _ _ _) T7X f6J P8P ?_);intro v9 w9 t ab _;have g:=Mu.snoc z u Z m3 L m5 q t ab;have n:Bw w w9:=x0z f6J Z H ab;go_wp2;go_ret;exact⟨_,rfl,g,n⟩):p:=h
theorem F0o(h:p:=by rw[List.length_drop];exact f6J):p:=h
theorem v6Z(h:p:=by rw[List.eq_nil_of_length_eq_zero h0];rfl):p:=h
end
end Go.Proofs.YtkfcabdmkmljjaaGreatDoor
namespace Go.Proofs.YtkfcabdmkmljjaaGreatDoor.Utf
open Go.Proofs.Tryz
abbrev okc(c:Int):Prop:=(0<=c/\c<=55295)\/(57344<=c/\c<=1114111)
def form(c:Int):List Int :=
 if c<128 then[c]
 else if c<2048 then[192+c / 64,128+c%64]
 else if c<65536 then[224+c / 4096,128+c / 64%64,128+c%64]
 else[240+c / 262144,128+c / 4096%64,128+c / 64%64,128+c%64]
def lead(b:Int):Option (Nat×Int×Int×Int) :=
 if b<128 then some (0,0,0,b)
 else if 194<=b/\b<=223 then some (1,128,191,b%32)
 else if b=224 then some (2,160,191,b%16)
 else if b=237 then some (2,128,159,b%16)
 else if 225<=b/\b<=239 then some (2,128,191,b%16)
 else if b=240 then some (3,144,191,b%8)
 else if 241<=b/\b<=243 then some (3,128,191,b%8)
 else if b=244 then some (3,128,143,b%8)
 else none
def x0P:Nat->Int->Int->Int->Nat->List Int->Except Nat (Nat×Int)
 | 0,_,_,c,k,_=>.ok (k,c)
 | _+1,_,_,_,k,[]=>.error k
 | n+1,lo,hi,c,k,b::r=>if b<lo\/hi<b then .error k else x0P n 128 191 (c*64+b%64) (k+1) r
def one:List Int->Except Nat (Nat×Int)
 | []=>.error 0
 | b::r=>match lead b with
  | none=>.error 0
  | some (n,lo,hi,c)=>x0P n lo hi c 1 r
def glue(acc:List Int)(r:List Int×Int×Int):List Int×Int×Int:=if r.2.2=0 then(acc++r.1,0,0)else([],r.2.1,r.2.2)
def decF:Nat->Nat->List Int->List Int×Int×Int
 | 0,_,_=>([],0,0)
 | f+1,p,zs=>if zs=[]then([],0,0)else match one zs with
  | .error k=>([],((p+k:Nat):Int),30)
  | .ok (n,c)=>glue [c] (decF f (p+n) (zs.drop n))
def dec(p:Nat)(zs:List Int):List Int×Int×Int:=decF zs.length p zs
def Byt(zs:List Int):Prop:=∀z∈zs,0<=z/\z<=255
theorem x4b{n lo hi c k r}{m d}(h:x0P n lo hi c k r=.ok (m,d)):m=k+n/\n<=r.length:=by
 induction n generalizing lo hi c k r with
 | zero=>simp[x0P]at h;simp[h.1]
 | succ n ih =>
  cases r with
  | nil=>simp[x0P]at h
  | cons b r =>
   simp only[x0P]at h;split at h
   ·simp at h
   ·have:=ih h;exact f4R
theorem y8g{n lo hi c k r}{m}(h:x0P n lo hi c k r=.error m):k<=m/\m<=k+r.length/\m<k+n:=by
 induction n generalizing lo hi c k r with
 | zero=>simp[x0P]at h
 | succ n ih =>
  cases r with
  | nil=>simp[x0P]at h;exact f4R
  | cons b r =>
   simp only[x0P]at h;split at h
   ·simp at h;exact f4R
   ·have:=ih h;exact f4R
theorem x9P{zs n c}(h:one zs=.ok (n,c)):1<=n/\n<=zs.length:=by
 cases zs with
 | nil=>simp[one]at h
 | cons b r =>
  simp only[one]at h;split at h
  ·simp at h
  ·have:=x4b h;exact f4R
theorem z7y{zs k}(h:one zs=.error k):k<=zs.length/\k<=3:=by
 cases zs with
 | nil=>simp[one]at h;omega
 | cons b r =>
  simp only[one]at h;split at h
  ·simp at h;omega
  ·rename_i n lo hi c hl
   have:=y8g h
   have J:n<=3:=by
    unfold lead at hl
    repeat' split at hl
    all_goals simp_all
    all_goals omega
   exact f4R
theorem z9U{b}(h:194<=b/\b<=223):lead b=some (1,128,191,b%32):=by
 unfold lead;rw[if_neg f6J,if_pos h]
theorem z9V{b}(h:224<=b/\b<=239):lead b=some (2,if b=224 then 160 else 128,if b=237 then 159 else 191,b%16):=by
 unfold lead;rw[if_neg f6J,if_neg f6J];by_cases Z:b=224
 ·subst Z;simp
 ·grind
theorem z9W{b}(h:240<=b/\b<=244):lead b=some (3,if b=240 then 144 else 128,if b=244 then 143 else 191,b%8):=by
 unfold lead;rw[if_neg f6J,if_neg f6J,if_neg f6J,if_neg f6J,if_neg f6J];by_cases Z:b=240
 ·subst Z;simp
 ·grind
theorem z2V{zs n c}(Y:Byt zs)(h:one zs=.ok (n,c)):okc c/\zs.take n=form c:=by
 cases zs with
 | nil=>simp[one]at h
 | cons b r =>
  have f:=Y b M7L;by_cases Z:b<128
  ·simp[one,lead,Z,x0P]at h;obtain⟨rfl,rfl⟩:=h;refine⟨g6j,?_⟩;simp[form,Z]
  ·by_cases D:194<=b/\b<=223
   ·simp only[one,z9U D]at h
    match r,h with
    | [],h=>simp[x0P]at h
    | b1::r,h =>
     simp only[x0P]at h;split at h
     ·simp at h
     ·simp at h;obtain⟨rfl,rfl⟩:=h;refine⟨g6j,?_⟩;unfold form;rw[if_neg f6J,if_pos f6J];simp;omega
   ·by_cases J:224<=b/\b<=239
    ·simp only[one,z9V J]at h
     match r,h with
     | [],h=>simp[x0P]at h
     | [b1],h=>exact absurd (x4b h).2 M7L
     | b1::b2::r,h =>
      simp only[x0P]at h;by_cases g:b1<(if b=224 then 160 else 128)\/(if b=237 then 159 else 191)<b1
      ·rw[if_pos g]at h;simp at h
      ·rw[if_neg g]at h;split at h
       ·simp at h
       ·simp at h;obtain⟨rfl,rfl⟩:=h
        have G:(128<=b1/\b1<=191)/\(b=224->160<=b1)/\(b=237->b1<=159):=by
         split at g<;>split at g<;>omega
        refine⟨g6j,?_⟩;unfold form;rw[if_neg f6J,if_neg f6J,if_pos f6J];simp;omega
    ·by_cases H:240<=b/\b<=244
     ·simp only[one,z9W H]at h
      match r,h with
      | [],h=>simp[x0P]at h
      | [b1],h=>exact absurd (x4b h).2 M7L
      | [b1,b2],h=>exact absurd (x4b h).2 M7L
      | b1::b2::b3::r,h =>
       simp only[x0P]at h;by_cases g:b1<(if b=240 then 144 else 128)\/(if b=244 then 143 else 191)<b1
       ·rw[if_pos g]at h;simp at h
       ·rw[if_neg g]at h;split at h
        ·simp at h
        ·split at h
         ·simp at h
         ·simp at h;obtain⟨rfl,rfl⟩:=h
          have G:(128<=b1/\b1<=191)/\(b=240->144<=b1)/\(b=244->b1<=143):=by
           split at g<;>split at g<;>omega
          refine⟨g6j,?_⟩;unfold form;rw[if_neg f6J,if_neg f6J,if_neg f6J];simp;omega
     ·have:lead b=none:=by
       unfold lead;rw[if_neg Z,if_neg D,if_neg f6J,if_neg f6J,if_neg f6J,if_neg f6J,if_neg f6J,if_neg f6J]
      simp[one,this]at h
theorem x4f c:1<=(form c).length/\(form c).length<=4:=by
 unfold form;repeat' split
 all_goals simp
theorem x9n{c}(h:okc c):Byt (form c):=by
 unfold okc at h;intro z T;unfold form at T
 repeat' split at T
 all_goals simp at T
 all_goals omega
end Go.Proofs.YtkfcabdmkmljjaaGreatDoor.Utf
namespace Go.Proofs.YtkfcabdmkmljjaaGreatDoor
open Go.Proofs.Tryz
open Go.RowKit
end Go.Proofs.YtkfcabdmkmljjaaGreatDoor
namespace Go.Proofs.YtkfcabdmkmljjaaGreatDoor.Utf
open Go.Proofs.Tryz
theorem y8n f g p zs(z:zs.length<=f)(C:zs.length<=g):decF f p zs=decF g p zs:=by
 induction f generalizing g p zs with
 | zero =>
  have:zs=[]:=List.eq_nil_of_length_eq_zero f6J;subst this;cases g<;>simp[decF]
 | succ f ih =>
  cases g with
  | zero=>grind
  | succ g =>
   simp only[decF];split
   ·rfl
   ·split
    ·rfl
    ·rename_i n c h1
     have:=x9P h1;rw[ih g (p+n) (zs.drop n) P8P P8P]
theorem z6m p:dec p []=([],0,0):=rfl
theorem x9g{zs k}(T:zs≠[])(h:one zs=.error k) p:dec p zs=([],((p+k:Nat):Int),30):=by
 cases zs with
 | nil=>exact absurd rfl T
 | cons b r=>simp only[dec,List.length_cons,decF,if_neg T,h]
theorem y8p{zs n c}(h:one zs=.ok (n,c)) p:dec p zs=glue [c] (dec (p+n) (zs.drop n)):=by
 have S:=x9P h
 cases zs with
 | nil=>simp[one]at h
 | cons b r =>
  have T:(b::r)≠[]:=M7M;simp only[dec,List.length_cons,decF,if_neg T,h];rw[y8n r.length ((b::r).drop n).length _ _ P8P (l0r _)]
theorem y0V a b r:glue a (glue b r)=glue (a++b) r:=by
 unfold glue;by_cases h:r.2.2=0
 ·simp[h]
 ·simp[h]
theorem y4h{r}(h:r.2.2=0->r.2.1=0)(t:r.2.2≠0->r.1=[]):glue [] r=r:=by
 obtain⟨a,b,c⟩:=r;unfold glue;by_cases I:c=0
 ·simp[I]at *;simp[h]
 ·simp[I]at *;simp[t]
theorem dec_shape m p zs(o:zs.length<=m):((dec p zs).2.2=0/\(dec p zs).2.1=0/\(dec p zs).1.length<=zs.length)\/∃q:Nat,dec p zs=([],(q:Int),30)/\p<=q/\q<=p+zs.length:=by
 induction m generalizing p zs with
 | zero =>
  have:zs=[]:=List.eq_nil_of_length_eq_zero f6J;subst this;exact .inl ⟨rfl,rfl,l0r _⟩
 | succ m ih =>
  by_cases T:zs=[]
  ·grind
  ·cases h:one zs with
   | error k=>exact .inr ⟨p+k,x9g T h p,f6J,by have:=z7y h;exact f6J⟩
   | ok nc =>
    obtain⟨n,c⟩:=nc;have S:=x9P h;rw[y8p h p];rcases ih (p+n) (zs.drop n) P8P with⟨h1,h2,h3⟩ | ⟨q,h1,h2,h3⟩
    ·left;simp only[glue,h1,if_true];refine⟨trivial,trivial,?_⟩;simp at h3 ⊢;omega
    ·right;refine⟨q,?_,f6J,by simp at h3;exact f6J⟩;rw[h1];simp[glue]
def encA(i:Nat):List Int->List Int×Int×Int
 | []=>([],0,0)
 | c::r=>if okc c then glue (form c) (encA (i+1) r)else([],(i:Int),31)
theorem enc_shape i xs:((encA i xs).2.2=0/\(encA i xs).2.1=0)\/∃q:Nat,encA i xs=([],(q:Int),31)/\i<=q/\q<i+xs.length:=by
 induction xs generalizing i with
 | nil=>exact .inl ⟨rfl,rfl⟩
 | cons c r ih =>
  simp only[encA];split
  ·rcases ih (i+1)with⟨Z,D⟩ | ⟨q,Z,D,J⟩
   ·left;simp[glue,Z]
   ·right;exact⟨q,by rw[Z];simp[glue],f6J,P8P⟩
  ·grind
theorem x9i i xs:(encA i xs).1.length<=4*xs.length:=by
 induction xs generalizing i with
 | nil=>simp[encA]
 | cons c r ih =>
  simp only[encA];split
  ·have:=ih (i+1);have:=x4f c;unfold glue;split
   ·exact f4R
   ·simp
  ·simp
theorem y8t i xs:Byt (encA i xs).1:=by
 induction xs generalizing i with
 | nil=>intro z hz;simp[encA]at hz
 | cons c r ih =>
  simp only[encA];split
  ·rename_i h
   unfold glue;split
   ·intro z hz;rcases List.mem_append.1 hz with hz | hz
    ·exact x9n h z hz
    ·exact ih (i+1) z hz
   ·intro z hz;simp at hz
  ·intro z hz;simp at hz
theorem z6t m i p zs(o:zs.length<=m)(Y:Byt zs)(h:(dec p zs).2.2=0):encA i (dec p zs).1=(zs,0,0):=by
 induction m generalizing i p zs with
 | zero =>
  have:zs=[]:=List.eq_nil_of_length_eq_zero f6J;subst this;rfl
 | succ m ih =>
  by_cases T:zs=[]
  ·subst T;rfl
  ·cases h1:one zs with
   | error k=>rw[x9g T h1]at h;simp at h
   | ok nc =>
    obtain⟨n,c⟩:=nc;have S:=x9P h1;obtain⟨I,A⟩:=z2V Y h1;rw[y8p h1]at h ⊢
    have u:(dec (p+n) (zs.drop n)).2.2=0:=by
     unfold glue at h;by_cases t:(dec (p+n) (zs.drop n)).2.2=0
     ·exact t
     ·rw[if_neg t]at h;exact h
    simp only[glue,u,if_true,List.singleton_append,encA,if_pos I];rw[ih (i+1) (p+n) (zs.drop n) P8P (fun z T=>Y z (List.mem_of_mem_drop T)) u];simp[<- A]
end Go.Proofs.YtkfcabdmkmljjaaGreatDoor.Utf
namespace Go.Proofs.YtkfcabdmkmljjaaGreatDoor.Spl
open Go.Proofs.Tryz
def x0U:List Int->List Int->List (List Int)
 | p,[]=>[p]
 | p,c::r=>if c=46 then p::x0U [] r else x0U (p++[c]) r
def split(xs:List Int):List (List Int):=x0U [] xs
def join:List (List Int)->List Int
 | []=>[]
 | [p]=>p
 | p::q::r=>p++46::join (q::r)
theorem z1g p xs:x0U p xs≠[]:=by
 induction xs generalizing p with
 | nil=>simp[x0U]
 | cons c r ih =>
  simp only[x0U];split
  ·simp
  ·exact ih _
theorem join_cons p{l}(h:l≠[]):join (p::l)=p++46::join l:=by
 cases l with
 | nil=>exact absurd rfl h
 | cons q r=>rfl
theorem y6R p xs:(x0U p xs).length<=xs.length+1:=by
 induction xs generalizing p with
 | nil=>simp[x0U]
 | cons c r ih =>
  simp only[x0U];split
  ·have:=ih [];exact f4R
  ·have:=ih (p++[c]);exact f4R
theorem splitA_mem p xs l(S:l∈x0U p xs):∀z∈l,z∈p\/z∈xs:=by
 induction xs generalizing p with
 | nil=>simp[x0U]at S;subst S;exact fun z T=>.inl T
 | cons c r ih =>
  simp only[x0U]at S;split at S
  ·grind
  ·grind
theorem y9v(l:List (List Int)) k(G:k<l.length):join (l.take (k+1))=(if k=0 then[]else join (l.take k)++[46])++l.getD k []:=by
 induction l generalizing k with
 | nil=>simp at G
 | cons p l ih =>
  cases k with
  | zero=>simp[join]
  | succ k =>
   simp only[List.length_cons]at G;have B:k<l.length:=f6J
   have t:l.take (k+1)≠[]:=by
    intro h;have:=congrArg List.length h;rw[List.length_take,List.length_nil]at this;omega
   have Z:(p::l).take (k+1+1)=p::l.take (k+1):=rfl;have C:(p::l).getD (k+1) []=l.getD k []:=rfl;rw[Z,join_cons p t,ih k B,C]
   cases k with
   | zero=>simp[join]
   | succ k =>
    have I:l.take (k+1)≠[]:=f0k;have D:(p::l).take (k+1+1)=p::l.take (k+1):=rfl;rw[D,join_cons p I];simp
def total(l:List (List Int)):Nat:=(l.map List.length).sum
theorem x9w l:(join l).length<=total l+l.length:=by
 induction l with
 | nil=>simp[join,total]
 | cons p l ih =>
  cases l with
  | nil=>simp[join,total]
  | cons q r =>
   rw[join_cons p M7K];simp only[total,List.map_cons,List.sum_cons,List.length_append,List.length_cons]at ih ⊢;omega
theorem y6X l k:total (l.take k)<=total l:=by
 induction l generalizing k with
 | nil=>simp
 | cons p l ih =>
  cases k with
  | zero=>simp[total]
  | succ k =>
   have:=ih k;simp only[List.take_succ_cons,total,List.map_cons,List.sum_cons]at this ⊢;omega
theorem x4j l k:(join (l.take k)).length<=total l+l.length:=by
 have Z:=x9w (l.take k);have D:=y6X l k;rw[List.length_take]at Z;omega
theorem z5r l k:(l.getD k []).length<=total l:=by
 induction l generalizing k with
 | nil=>simp
 | cons p l ih =>
  cases k with
  | zero=>simp[total]
  | succ k =>
   have:=ih k;simp only[total,List.map_cons,List.sum_cons]at this ⊢;have e:(p::l).getD (k+1) []=l.getD k []:=rfl;rw[e];omega
theorem y3s p xs:total (x0U p xs)<=p.length+xs.length:=by
 induction xs generalizing p with
 | nil=>simp[x0U,total]
 | cons c r ih =>
  simp only[x0U];split
  ·have:=ih [];simp only[total,List.map_cons,List.sum_cons,List.length_cons,List.length_nil]at this ⊢;omega
  ·grind
end Go.Proofs.YtkfcabdmkmljjaaGreatDoor.Spl
namespace Go.Proofs.YtkfcabdmkmljjaaGreatDoor
open Go.Proofs.Tryz
open Go.RowKit
theorem x2M{zs}(h:Utf.Byt zs):Fit .u8 zs:=fun z T=>x8Q (h z T)
def allb(p:Int->Bool)(xs:List Int):Bool:=xs.all p
def okb(c:Int):Bool:=decide (Utf.okc c)
def ascb(c:Int):Bool:=decide (0<=c/\c<=127)
theorem Sk.src{K w v zs}(h:Sk K w v zs):(zs=[]/\v=.slice none 0 0) \/
  ∃C cap,v=.slice (some C) zs.length cap/\∀j u,(zs.map (Value.int K))[j]?=some u->w.cell? (C.add j)=some u:=by
 rcases h.2.src with⟨Z,D⟩ | ⟨C,cap,Z,D⟩
 ·exact .inl ⟨E1x,D⟩
 ·grind
def x2j(w:World)(r:List Int×Int×Int)(e:Ending)(w':World):Prop :=
 e=.returned (.tuple #[.string (strOfNums r.1),.int .i64 r.2.1,.int .i64 r.2.2])/\Below w.heap.size w w'
theorem x2j.mk{w w' r a b c}(h:r=(a,b,c))(Y:Bw w w'):x2j w r (.returned (.tuple #[.string (strOfNums a),.int .i64 b,.int .i64 c])) w':=E1n
theorem x2j.no{w w' r b c}(h:r=([],b,c))(Y:Bw w w'):x2j w r (.returned (.tuple #[.string ⟨#[]⟩,.int .i64 b,.int .i64 c])) w':=x2j.mk h Y
theorem x0N{xs:List Int}{k}(G:k<xs.length):xs.drop k=xs.getD k 0::xs.drop (k+1):=f0h
theorem strOfNums_size l:(strOfNums l).size=l.length:=by simp[strOfNums,ByteArray.size]
def cnt(r:List Int×Int×Int):Int:=if r.2.2=0 then(r.1.length:Int)else -1
theorem x0T s:Utf.Byt (nums s):=F3e
def x3x(w:World)(r:List Int×Int×Int)(e:Ending)(w':World):Prop :=
 ∃v,e=.returned (.tuple #[v,.int .i64 r.2.1,.int .i64 r.2.2])/\Ok .i32 21 w' w.heap.size v r.1/\Below w.heap.size w w'
theorem x3x.err{w w' r p}(h:r=([],p,30))(Y:Bw w w'):x3x w r (.returned (.tuple #[.slice none 0 0,.int .i64 p,.int .i64 30])) w':=by
 subst h;exact⟨_,rfl,Ok.nil _ _ _ _,Y⟩
theorem x3x.end{w w' r v xs}(h:r=(xs,0,0))(N:Ok .i32 21 w' w.heap.size v xs)(Y:Bw w w'):x3x w r (.returned (.tuple #[v,.int .i64 0,.int .i64 0])) w':=by
 subst h;exact⟨_,rfl,N,Y⟩
theorem y1m s q:nums (s.extract 0 q)=(nums s).take q:=by
 rw[nums,nums,ByteArray.data_extract,Array.toList_extract,List.map_take];simp
theorem x5k s:strOfNums (nums s)=s:=by
 apply ByteArray.ext;apply Array.toList_inj.1;rw[strOfNums,nums,List.map_map]
 conv=>rhs;rw[<- List.map_id s.data.toList]
 apply List.map_congr_left;intro x _;simp
theorem x8C{a}(h:Utf.Byt a):nums (strOfNums a)=a:=by
 rw[nums,strOfNums,List.map_map]
 conv=>rhs;rw[<- List.map_id a]
 apply List.map_congr_left;intro x A;have:=h x A;simp only[Function.comp,id,UInt8.toNat_ofNat'];omega
def Rws(w:World)(v:Value)(xss:List (List Int)):Prop :=
 ∃us:List Value,us.length=xss.length/\Sv w v us/\∀i,i<xss.length->Sk .i32 w (us.getD i undef) (xss.getD i [])
theorem Rws.shape{w v xss}(h:Rws w v xss):∃ao cap,v=.slice ao xss.length cap/\xss.length<=cap/\cap<=9223372036854775807:=by
 obtain⟨a,Z,D,J⟩:=h;rw[<- Z];exact D.shape
def DecC:Prop:=∀(s:ByteArray) (w:World),s.size<=1000000000->Calls prog 19 #[.string s] w (x3x w (Utf.dec 0 (nums s)))
def EncC:Prop:=∀(v:Value) (xs:List Int) (w:World),Sk .i32 w v xs->xs.length<=35184372087808->Calls prog 56 #[v] w (x2j w (Utf.encA 0 xs))
theorem Tryz.infoY36:(prog.info? 36).map (fun i=>(i.zero,i.size,i.bytes))=some (some (.slice none 0 0),1,24):=f4x
theorem x7C{w:World}{B B' n m e e' v u xs ys}(t:e≠e')(h:w.ownsRow B e 1 v n xs)(k:w.ownsRow B' e' 1 u m ys):v.ownBlock=none\/v.ownBlock≠u.ownBlock:=by
 rcases h.2 with⟨rfl,_⟩ | ⟨g,M,Q,rfl,C,H,_⟩
 ·exact U3y
 ·right;rcases k.2 with⟨rfl,_⟩ | ⟨S,A,J,rfl,U,T,_⟩
  ·exact V3I
  ·intro e;simp only[Value.ownBlock,Option.some.injEq]at e;subst e;rw[H]at T;simp at T;exact t T.2
theorem x2W ao n cap:∀u∈[Value.slice ao n cap],u.oneCell'=true:=e8m
def y3y(w:World)(xs:List Int)(e:Ending)(w':World):Prop:=∃v,e=.returned v/\Ok .i32 21 w' w.heap.size v xs/\Below w.heap.size w w'
def JoinC:Prop:=∀(v:Value) (xss:List (List Int)) (w:World),Rws w v xss->Spl.total xss+xss.length<=1000000000->Calls prog 30 #[v] w (y3y w (Spl.join xss))
def Mu(w:World)(B U:Nat)(v:Value)(xss:List (List Int)):Prop :=
 ∃us:List Value,us.length=xss.length/\w.ownsRow B 36 1 v xss.length us/\(∀i,i<xss.length->Ok .i32 21 w B (us.getD i undef) (xss.getD i [])) /\
  (∀i,i<xss.length->∀k,(us.getD i undef).ownBlock=some k->k<U)/\∀i j k,i<j->j<xss.length->(us.getD i undef).ownBlock=some k->(us.getD j undef).ownBlock≠some k
theorem Mu.nil w B U:Mu w B U (.slice none 0 0) []:=⟨[],rfl,World.ownsRow_nil _ _ _ _,fun i hi=>v5E,fun i hi=>v5E,fun i j k _ X=>by simp at X⟩
theorem Mu.snoc{w w2 B U v v' u xss}{xs o us}(z:B<=U)(S:us.length=xss.length)(J:w.ownsRow B 36 1 v xss.length us)
  (L:∀i,i<xss.length->Ok .i32 21 w B (us.getD i undef) (xss.getD i [])) (A:∀i,i<xss.length->∀k,(us.getD i undef).ownBlock=some k->k<U)
  (D:∀i j k,i<j->j<xss.length->(us.getD i undef).ownBlock=some k->(us.getD j undef).ownBlock≠some k)
  (W:Ok .i32 21 w U u xs) (s:w2.ownsRow B 36 1 v' (xss.length+1) (us++[u])) (C:(w.alloc o).grownBy w2 v.ownBlock):Mu w2 B w2.heap.size v' (xss++[xs]):=by
 have f:w.heap.size<=w2.heap.size:=(by have:=C.size;simp at this;exact f6J);have G:∀u l,Ok .i32 21 w B u l->Ok .i32 21 w2 B u l:=fun u l h=>⟨h.1,h.2.1,(h.2.2.alloc o).kept C (x7C e8N h.2.2 J)⟩;have P:∀i,i<xss.length->(us++[u]).getD i undef=us.getD i undef:=fun i h=>(by simp[List.getD,List.getElem?_append_left (f6J:i<us.length)]);have E:(us++[u]).getD xss.length undef=u:=(by grind);refine⟨us++[u],by simp[S],by simpa using s,fun i hi=>?_,fun i hi k Y=>?_,fun i j k p X Y=>?_⟩
 ·simp only[List.length_append,List.length_cons,List.length_nil]at hi;rcases Nat.lt_or_ge i xss.length with h | h
  ·grind
  ·obtain rfl:i=xss.length:=f6J;have N:(xss++[xs]).getD xss.length []=xs:=(by grind);rw[E,N];exact G _ _ (W.lower z)
 ·simp only[List.length_append,List.length_cons,List.length_nil]at hi;rcases Nat.lt_or_ge i xss.length with h | h
  ·rw[P i h]at Y;have:=((L i h).row.lt k Y).2;omega
  ·obtain rfl:i=xss.length:=f6J;rw[E]at Y;have:=(W.row.lt k Y).2;omega
 ·simp only[List.length_append,List.length_cons,List.length_nil]at X;rw[P i f6J]at Y;rcases Nat.lt_or_ge j xss.length with h | h
  ·grind
  ·obtain rfl:j=xss.length:=f6J;rw[E];intro H;have d:=A i f6J k Y;have F:=(W.row.lt k H).1;omega
def z1V(w:World)(xss:List (List Int))(e:Ending)(w':World):Prop:=∃v,e=.returned v/\Mu w' w.heap.size w'.heap.size v xss/\Below w.heap.size w w'
theorem y3o{xs p:List Int}{k}(G:k<xs.length):Spl.x0U p (xs.drop k)=if xs.getD k 0=46 then p::Spl.x0U [] (xs.drop (k+1))else Spl.x0U (p++[xs.getD k 0]) (xs.drop (k+1)):=by
 rw[x0N G];rfl
def z5y(w:World)(xs:List Int)(e:Ending)(w':World):Prop:=∃v,e=.returned v/\Ok .i32 21 w' w.heap.size v xs/\Below w.heap.size w w'
theorem x4J v xs w(N:Sk .i32 w v xs)(S:xs.length<=1000000000) :
  Calls prog 115 #[v] w (z5y w xs):=by
 obtain⟨r,hi,d,Y,R⟩:=info_parts Tryz.info21;have E:=O N.1;have o:=Ok.nil .i32 21 w w.heap.size;rcases N.src with⟨Z,D⟩ | ⟨C,U,D,g⟩
 ·subst Z;subst D;go_enter func115,ntmps115;go_wp2_with(at_builtin;refine wpList_append_own_none rfl (.const (.slice none 0 0)) (.tmp 3) 36 rfl w.heap.size 21 r 1 underlying36 hi _ _ _ rfl o.row rfl ?_);go_ret;exact⟨_,rfl,o,b0r⟩
 ·subst D;go_enter func115,ntmps115;go_wp2_with(at_builtin;refine wpList_append_own _ rfl (.const (.slice none 0 0)) (.tmp 3) 36 rfl w.heap.size 21 r (.int .i32 0) 1 4 underlying36 hi d Y R rfl e8P _ _ _ rfl o.row C xs.length U (xs.map (Value.int .i32)) rfl M7M g (x0O .i32 xs) (by unfold maxLen;exact P8P) P8P f6J ?_);intro A t s b _;have H:Bw w t:=x1A (l0r _) o.row (b0r) b;have W:Ok .i32 21 t w.heap.size A xs:=Ok.of (V E) f6J s M7M M7M;go_wp2;go_ret;exact⟨_,rfl,W,H⟩
theorem Mu.below{w w' B U v xss}(h:Mu w B U v xss)(Y:Bw w w'):Mu w' B U v xss:=by
 obtain⟨a,Z,D,J,H,K⟩:=h;refine⟨a,Z,D.kept (row:=none) ⟨Y.os,Y.tape,Y.output,Y.size,fun k G _=>Y.block k G⟩ ?_,fun i hi=>(J i hi).below Y,H,K⟩
 exact W0k
theorem y6s{xs:List Int}{f k}(z:f<=k)(G:k<xs.length):(xs.drop f).take (k+1-f)=(xs.drop f).take (k-f)++[xs.getD k 0]:=by
 rw[(f6J:k+1-f=(k-f)+1),List.take_add_one,List.getElem?_drop,(f6J:f+(k-f)=k)];exact w8a
theorem z4p v xs w(hv:Sk .i32 w v xs)(hl:xs.length<=1000000000):Calls prog 68 #[v] w (z1V w (Spl.split xs)):=by
 obtain⟨K,hj,B,o,W⟩:=info_parts Tryz.infoY36;rcases Nat.eq_zero_or_pos xs.length with h0 | h0
 ·have hs:Spl.split xs=[[]]:=v6Z;have aw:xs=[]:=List.eq_nil_of_length_eq_zero h0;have aC:w.ownsRow w.heap.size 36 1 (.slice none 0 0) 0 []:=World.ownsRow_nil _ _ _ _;have HV:=O hv;obtain⟨ao,M,rfl,_,_⟩:=hv.shape;rw[hs,h0];rw[h0,aw]at HV;have a:=fun ao' (h:Sk .i32 w (.slice ao' 0 M) [])=>O (x4J _ _ w h M7N)
  cases ao with
  | none =>
   have C:=a _ (V HV);go_enter func68,ntmps68;go_wp2;refine wp_loop_rounds 1 ?_;rw[rounds_succ];go_wp2_with fail;refine(V C).mono ?_;rintro e Q ⟨v1,rfl,q,F⟩;have N:=F.size;have aq:Mu Q w.heap.size w.heap.size (.slice none 0 0) []:=Mu.nil _ _ _;have A:Q.ownsRow w.heap.size 36 1 (.slice none 0 0) 0 []:=World.ownsRow_nil _ _ _ _;obtain⟨D,S,r,_,_⟩:=q.sk.shape;subst r;go_wp2_with(at_builtin;refine wpList_append_own _ rfl (.tmp 27) (.tmp 32) 44 rfl w.heap.size 36 K (.slice none 0 0) 1 24 underlying44 hj B o W rfl e8Q _ _ _ rfl (A.alloc _) ⟨Q.heap.size,0,none⟩ 1 1 [.slice D 0 S] rfl rfl (cell_one_new _ _ _) (x2W _ _ _) T7X f6J P8P ?_);intro v9 w9 t ab _;have g:=Mu.snoc (xss:=[]) (us:=[]) (U:=w.heap.size) (l0r _) rfl A (fun i hi=>v5E) (fun i hi=>v5E) (fun i j k _ hj=>by simp at hj) q t ab;have n:Bw w w9:=x0z N A F ab;go_wp2;go_ret;exact⟨_,rfl,g,n⟩
  | some ad =>
   have C:=a _ (V HV);go_enter func68,ntmps68;go_wp2;refine wp_loop_rounds 1 ?_;rw[rounds_succ];go_wp2_with fail;refine(V C).mono ?_;rintro e Q ⟨v1,rfl,q,F⟩;have N:=F.size;have aq:Mu Q w.heap.size w.heap.size (.slice none 0 0) []:=Mu.nil _ _ _;have A:Q.ownsRow w.heap.size 36 1 (.slice none 0 0) 0 []:=World.ownsRow_nil _ _ _ _;obtain⟨D,S,r,_,_⟩:=q.sk.shape;subst r;go_wp2_with(at_builtin;refine wpList_append_own _ rfl (.tmp 27) (.tmp 32) 44 rfl w.heap.size 36 K (.slice none 0 0) 1 24 underlying44 hj B o W rfl e8Q _ _ _ rfl (A.alloc _) ⟨Q.heap.size,0,none⟩ 1 1 [.slice D 0 S] rfl rfl (cell_one_new _ _ _) (x2W _ _ _) T7X f6J P8P ?_);intro v9 w9 t ab _;have g:=Mu.snoc (xss:=[]) (us:=[]) (U:=w.heap.size) (l0r _) rfl A (fun i hi=>v5E) (fun i hi=>v5E) (fun i j k _ hj=>by simp at hj) q t ab;have n:Bw w w9:=x0z N A F ab;go_wp2;go_ret;exact⟨_,rfl,g,n⟩
 ·obtain⟨b,P,M,rfl,az,aA,hc⟩:=hv.place h0;have HV:=O hv
  have C:Hid (∀wx,Bw w wx->∀i,i<xs.length->wx.cell? ⟨b,P+i,none⟩=some (.int .i32 (xs.getD i 0))):=by
   intro wx Y i hi;rw[Y.cell (x0a (hc i hi))];exact hc i hi
  have s:=O hv.1;generalize hsp:Spl.split xs=R at *;have ag:=O hsp;go_enter func68,ntmps68;go_wp2;go_loopw[3,4,9] (fun vl vf i wr=>∃(k f:Nat) (G:List (List Int)),i=.int .i64 k/\k<=xs.length/\vf=.int .i64 f/\f<=k/\Mu wr w.heap.size wr.heap.size vl G/\w.heap.size<=wr.heap.size/\G.length<=k/\Bw w wr/\R=G++Spl.x0U ((xs.drop f).take (k-f)) (xs.drop k)) (fun _ _ i _=>xs.length-(intOf i).toNat)
  case atStart=>exact⟨0,0,[],rfl,f6J,rfl,f6J,Mu.nil _ _ _,l0r _,M7N,b0r,by rw[<- V ag];rfl⟩
  case round =>
   obtain⟨k,f,G,rfl,hk,rfl,am,E,z,aB,T,J⟩:=hrel;by_cases ae:k<xs.length
   ·have aj:=V C _ T k ae;have aD:=(V s).i32at k;rw[y3o ae]at J;have HR:=O J;have X:¬M=f:=f6J;by_cases x:xs.getD k 0=46
    ·have ai:(xs.getD k 0==46)=true:=by rw[x];rfl
     have y:Hid (R=(G++[(xs.drop f).take (k-f)])++Spl.x0U ((xs.drop (k+1)).take (k+1-(k+1))) (xs.drop (k+1))):=by
      have:=V HR;rw[if_pos x]at this;rw[Nat.sub_self,List.take_zero];simpa[Hid]using this
     have hcut:=((V HV).below T).cut (l:=f) (h:=k) (m:=M) f6J f6J f6J f6J;simp only[sliced,X,if_false,Option.map_some,Nat.mul_one,addr_add]at hcut;have af:((xs.drop f).take (k-f)).length<=1000000000:=(by rw[List.length_take,List.length_drop];exact f6J);have a:=O (x4J _ _ wr hcut af);generalize(xs.drop f).take (k-f)=p,xs.getD k 0=c at *;go_wp2_with fail;refine(V a).mono ?_;rintro e Q ⟨v1,rfl,q,F⟩;obtain⟨d,u,Z,m3,L,m5⟩:=E.below F;have H:Bw w Q:=bthen T F;have N:=F.size;obtain⟨D,S,r,_,_⟩:=q.sk.shape;subst r;go_wp2_with(at_builtin;refine wpList_append_own _ rfl (.tmp 16) (.tmp 22) 44 rfl w.heap.size 36 K (.slice none 0 0) 1 24 underlying44 hj B o W rfl e8Q _ _ _ rfl (Z.alloc _) ⟨Q.heap.size,0,none⟩ 1 1 [.slice D p.length S] rfl rfl (cell_one_new _ _ _) (x2W _ _ _) T7X f6J P8P ?_);intro v9 w9 t ab _;have g:=Mu.snoc z u Z m3 L m5 q t ab;have n:Bw w w9:=x0z f6J Z H ab;have ar:=n.size;go_wp2
     go_roundw
     case rel=>exact⟨k+1,k+1,G++[p],g2D,f6J,g2D,f6J,g,ar,P8P,n,V y⟩
     case measure=>exact g8b
    ·have ai:(xs.getD k 0==46)=false:=by simpa using x
     have y:Hid (R=G++Spl.x0U ((xs.drop f).take (k+1-f)) (xs.drop (k+1))):=by
      have:=V HR;rw[if_neg x]at this;rw[y6s am ae];exact this
     generalize xs.getD k 0=c at *;go_wp2
     go_roundw
     case rel=>exact⟨k+1,f,G,g2D,f6J,rfl,f6J,E,z,f6J,T,V y⟩
     case measure=>exact g8b
   ·obtain rfl:k=xs.length:=by omega
    have I:R=G++[xs.drop f]:=by
     rw[J,List.drop_length,List.take_of_length_le F0o];rfl
    subst I;have hcut:=((V HV).below T).cut (l:=f) (h:=xs.length) (m:=M) f6J f6J f6J f6J;rw[List.take_of_length_le F0o]at hcut;have af:(xs.drop f).length<=1000000000:=F0o;have a:=O (x4J _ _ wr hcut af);by_cases X:M=f
    ·simp only[sliced,X,if_true,Nat.sub_self]at a;exact P7P
    ·simp only[sliced,X,if_false,Option.map_some,Nat.mul_one,addr_add]at a;exact P7P
theorem Mu.rwsS{w B U v xss}(h:Mu w B U v xss)(S:xss.length<=1000000001):Rws w v xss:=by
 obtain⟨a,Z,D,J,H,K⟩:=h;exact⟨a,Z,Ow.sv (e:=36) (B:=B) ⟨f6J,by rw[Z];exact D⟩,fun i hi=>(J i hi).sk⟩
end Go.Proofs.YtkfcabdmkmljjaaGreatDoor
namespace Go.Proofs.YtkfcabdmkmljjaaGreatDoor.Utf
open Go.Proofs.Tryz
theorem y2p n lo hi c p k r:x0P n lo hi c (p+k) r=match x0P n lo hi c k r with | .error m=>.error (p+m) | .ok (m,d)=>.ok (p+m,d):=by
 induction n generalizing lo hi c k r with
 | zero=>rfl
 | succ n ih =>
  cases r with
  | nil=>rfl
  | cons b r =>
   simp only[x0P];split
   ·rfl
   ·rw[Nat.add_assoc];exact ih _ _ _ _ _
def fin(xs zs:List Int):Except Nat (Nat×Int)->List Int×Int×Int
 | .error m=>([],(m:Int),30)
 | .ok (m,c)=>glue (xs++[c]) (dec m (zs.drop m))
def begun(xs zs:List Int)(k:Nat):Option (Nat×Int×Int×Int)->List Int×Int×Int
 | none=>([],(k:Int),30)
 | some (n,lo,hi,c)=>fin xs zs (x0P n lo hi c (k+1) (zs.drop (k+1)))
theorem y4g xs p:glue xs ([],p,30)=([],p,30):=by simp[glue]
theorem z6r{zs:List Int}{k}(G:k<zs.length):zs.drop k=zs.getD k 0::zs.drop (k+1):=f0h
theorem x8g{xs zs k r}(G:k<zs.length)(hr:r=glue xs (dec k (zs.drop k))):r=begun xs zs k (lead (zs.getD k 0)):=by
 have hd:=z6r G;have t:zs.drop k≠[]:=by rw[hd];exact M7K
 cases hl:lead (zs.getD k 0)with
 | none =>
  have Z:one (zs.drop k)=.error 0:=(by rw[hd];simp only[one,hl]);rw[hr,x9g t Z,begun,y4g];simp
 | some q =>
  obtain⟨n,lo,hi,c⟩:=q;have Z:one (zs.drop k)=x0P n lo hi c 1 (zs.drop (k+1)):=(by rw[hd];simp only[one,hl]);rw[begun,y2p n lo hi c k 1]
  cases hc:x0P n lo hi c 1 (zs.drop (k+1))with
  | error m =>
   rw[hc]at Z;rw[hr,x9g t Z,y4g];simp[fin]
  | ok q =>
   obtain⟨m,d⟩:=q;rw[hc]at Z;rw[hr,y8p Z,y0V,List.drop_drop];simp[fin]
theorem y7G{xs zs:List Int}{k r}(G:k=zs.length)(hr:r=glue xs (dec k (zs.drop k))):r=(xs,0,0):=by
 subst G;rw[hr,List.drop_length,z6m];simp[glue]
theorem y9T{xs zs n k lo hi c r}(G:k<zs.length)(Z:lo<=zs.getD k 0)(D:zs.getD k 0<=hi)(hr:r=fin xs zs (x0P (n+1) lo hi c k (zs.drop k))) :
  r=fin xs zs (x0P n 128 191 (c*64+zs.getD k 0%64) (k+1) (zs.drop (k+1))):=by
 rw[hr,z6r G,x0P,if_neg f6J]
theorem z3D{xs zs n k lo hi c r}(G:k<zs.length)(h:zs.getD k 0<lo\/hi<zs.getD k 0)(hr:r=fin xs zs (x0P (n+1) lo hi c k (zs.drop k))):r=([],(k:Int),30):=by
 rw[hr,z6r G,x0P,if_pos h,fin]
theorem z3E{xs zs n k lo hi c r}(G:k=zs.length)(hr:r=fin xs zs (x0P (n+1) lo hi c k (zs.drop k))):r=([],(k:Int),30):=by
 subst G;rw[hr,List.drop_length,x0P,fin]
theorem y9S{xs zs k lo hi c r}(hr:r=fin xs zs (x0P 0 lo hi c k (zs.drop k))):r=glue (xs++[c]) (dec k (zs.drop k)):=by
 rw[hr,x0P,fin]
end Go.Proofs.YtkfcabdmkmljjaaGreatDoor.Utf
namespace Go.Proofs.YtkfcabdmkmljjaaGreatDoor
open Go.Proofs.Tryz
open Go.RowKit
theorem Rws.place{w v xss}(h:Rws w v xss)(t:0<xss.length) :
  ∃(b off cap:Nat) (us:List Value),v=.slice (some ⟨b,off,none⟩) xss.length cap/\xss.length<=cap/\cap<=9223372036854775807/\(∀i,i<xss.length->w.cell? ⟨b,off+i,none⟩=some (us.getD i undef))/\∀i,i<xss.length->Sk .i32 w (us.getD i undef) (xss.getD i []):=by
 obtain⟨us,Z,D,J⟩:=h;obtain⟨b,off,cap,M,o,S,I⟩:=D.place f6J;rw[Z]at M o I;exact⟨b,off,cap,us,M,o,S,I,J⟩
theorem z9T:JoinC:=by
 intro v F w N S;obtain⟨r,hi,d,Y,R⟩:=info_parts Tryz.info21;rcases Nat.eq_zero_or_pos F.length with h0 | h0
 ·have X:Spl.join F=[]:=v6Z;obtain⟨ao,M,rfl,_,_⟩:=N.shape;rw[X,h0];go_enter func30,ntmps30;go_wp2;refine wp_loop_rounds 1 ?_;rw[rounds_succ];go_wp2;go_ret;exact⟨_,rfl,Ok.nil _ _ _ _,b0r⟩
 ·obtain⟨b,P,M,a,rfl,l,aq,I,hs⟩:=N.place h0;have HC:=O I;have HS:=O hs;go_enter func30,ntmps30;go_wp2;go_loopw[3,8] (fun z i wr=>∃(k:Nat),i=.int .i64 k/\k<=F.length/\Ok .i32 21 wr w.heap.size z (Spl.join (F.take k))/\Bw w wr) (fun _ i _=>F.length-(intOf i).toNat)
  case atStart=>exact⟨0,rfl,f6J,Ok.nil _ _ _ _,b0r⟩
  case round =>
   obtain⟨k,rfl,hk,o,T⟩:=hrel;by_cases E:k<F.length
   ·have am:=O (Spl.y9v F k E);have ar:=Spl.x4j F k;have q:=Spl.x4j F (k+1);have J:=Spl.z5r F k
    have K:∀m,Bw w m->m.cell? ⟨b,P+k,none⟩=some (a.getD k undef)/\Sk .i32 m (a.getD k undef) (F.getD k []):=by
     intro m hb;have Z:=V HC k E;exact⟨by rw[hb.cell (x0a Z)];exact Z,(V HS k E).below hb⟩
    have p:=O K;have n:=T.size;rcases Nat.eq_zero_or_pos k with hk0 | hk0
    ·subst hk0;obtain⟨y,U⟩:=V p wr T;rw[Nat.add_zero]at y;have f:Hid (Spl.join (F.take 1)=F.getD 0 []):=(by grind);have ab:=O U.1;have af:Spl.join (F.take 0)=[]:=(by simp[Spl.join]);rw[af]at o;generalize F.getD 0 []=c at *;rcases U.src with⟨Z,D⟩ | ⟨C,cp,D,g⟩
     ·rw[D]at y;subst Z;go_wp2_with(at_builtin;refine wpList_append_own_none rfl (.tmp 18) (.tmp 19) 36 rfl w.heap.size 21 r 1 underlying36 hi _ _ _ rfl o.row rfl ?_)
      go_roundw
      case rel=>exact⟨1,g2D,f6J,by rw[V f];exact o,T⟩
      case measure=>exact g7W
     ·rw[D]at y;go_wp2_with(at_builtin;refine wpList_append_own _ rfl (.tmp 18) (.tmp 19) 36 rfl w.heap.size 21 r (.int .i32 0) 1 4 underlying36 hi d Y R rfl e8Q _ _ _ rfl o.row C c.length cp (c.map (Value.int .i32)) rfl M7N g (x0O .i32 c) (by unfold maxLen;exact P8P) P8P f6J ?_);intro v2 t s ae _;have H:Bw w t:=x1A n o.row T ae;have W:Ok .i32 21 t w.heap.size v2 c:=Ok.of (V ab) f6J s M7N M7N;go_wp2
      go_roundw
      case rel=>exact⟨1,g2D,f6J,by rw[V f];exact W,H⟩
      case measure=>exact g7W
    ·have f:Hid (Spl.join (F.take (k+1))=(Spl.join (F.take k)++[46])++F.getD k []):=by have:=V am;rw[if_neg f6J]at this;exact this
     have Q:(Spl.join (F.take k)).length+1+(F.getD k []).length<=1000000000:=by
      have Z:=V f;rw[Z]at q;simp only[List.length_append,List.length_cons,List.length_nil]at q;omega
     generalize Spl.join (F.take k)=acc at *;have B:=(V p wr T).1;generalize a.getD k undef=rv at *;go_wp2_with(at_builtin;refine wpList_append_own _ rfl (.tmp 15) (.tmp 16) 36 rfl w.heap.size 21 r (.int .i32 0) 1 4 underlying36 hi d Y R rfl e8Q _ _ _ rfl (o.row.alloc _) ⟨wr.heap.size,0,none⟩ 1 1 [.int .i32 46] rfl rfl (cell_one_new _ _ _) (x1k .i32 46) T7X f6J P8P ?_);intro v2 t s ae _;have H:Bw w t:=x0z n o.row T ae;have W:Ok .i32 21 t w.heap.size v2 (acc++[46]):=Ok.of (o.1.snoc (x1j f6J)) P8P s M7N M7N;obtain⟨y,U⟩:=V p t H;have ab:=O U.1;have ai:=H.size;generalize F.getD k []=c at *;rcases U.src with⟨Z,D⟩ | ⟨C,cp,D,g⟩
     ·subst D;subst Z;go_wp2_with(at_builtin;refine wpList_append_own_none rfl (.tmp 18) (.tmp 19) 36 rfl w.heap.size 21 r 1 underlying36 hi _ _ _ rfl W.row rfl ?_)
      go_roundw
      case rel=>exact⟨k+1,g2D,f6J,by rw[V f,List.append_nil];exact W,H⟩
      case measure=>exact g7W
     ·subst D;have r2:=W.row;have x:(acc++[46]).length=acc.length+1:=M7N;generalize hag:acc++[46]=ag at *;go_wp2_with(at_builtin;refine wpList_append_own _ rfl (.tmp 18) (.tmp 19) 36 rfl w.heap.size 21 r (.int .i32 0) 1 4 underlying36 hi d Y R rfl e8Q _ _ _ rfl r2 C c.length cp (c.map (Value.int .i32)) rfl M7N g (x0O .i32 c) T7X f6J f6J ?_);intro u G j aj _;have L:Bw w G:=x1A ai r2 H aj;have A:Ok .i32 21 G w.heap.size u (ag++c):=Ok.of (W.1.app (V ab)) P8P j (by rw[List.length_append];exact f6J) M7N;go_wp2
      go_roundw
      case rel=>exact⟨k+1,g2D,f6J,by rw[V f];exact A,L⟩
      case measure=>exact g7W
   ·obtain rfl:k=F.length:=f6J;rw[List.take_length]at o;go_wp2;go_ret;exact⟨_,rfl,o,T⟩
