/- YUtf3 YSameC3 YUtfD3 YSpl3 YPost3 YRows3 YOwnW3 YMu3 YScS3 YUtfM3 YSameA3 YScJ3 -/
import Derived.Test.YtbmckadcjdedcaaGreatDoorD3
import Derived.Deep.QuietTactic
import Derived.BigQuiet
set_option maxHeartbeats 2000000
namespace Go.Proofs.YtbmckadcjdedcaaGreatDoor
section
variable{p:Prop}
theorem e2V(h:p:=by simpa using D):p:=h
theorem g6j(h:p:=by unfold okc;exact f6J):p:=h
theorem v8T(h:p:=by generalize xs.drop f=p at *;go_wp2_with fail;refine(V T).mono ?_;rintro e Q ⟨v1,rfl,s,E⟩;obtain⟨ms,S,B,u,G,m5⟩:=C.below E;have F:Bw w Q:=x0b A E;have N:=E.size;obtain⟨L,Z,d,_,_⟩:=s.sk.shape;subst d;go_wp2_with(at_builtin;refine wpList_append_own _ rfl (.tmp 27) (.tmp 32) 49 rfl w.heap.size 40 j0 (.slice none 0 0) 1 24 underlying49 K ab ae af rfl e8S _ _ _ rfl (B.alloc _) ⟨Q.heap.size,0,none⟩ 1 1 [.slice L p.length Z] rfl rfl (cell_one_new _ _ _) (x3h _ _ _) T7X f6J P8P ?_);intro X q Y R _;have a:=Mu.snoc r S B u G m5 s Y R;have x:Bw w q:=x0p f6J B F R;go_wp2;go_ret;exact⟨_,rfl,a,x⟩):p:=h
theorem F0o(h:p:=by rw[List.length_drop];exact f6J):p:=h
theorem v6Z(h:p:=by rw[List.eq_nil_of_length_eq_zero h0];rfl):p:=h
theorem n7y(h:p:=by intro W hb i hi;rw[hb.cell (x0a (hc i hi))];exact hc i hi):p:=h
end
end Go.Proofs.YtbmckadcjdedcaaGreatDoor
namespace Go.Proofs.YtbmckadcjdedcaaGreatDoor.Utf
open Go.Proofs.Tryz
abbrev okc(c:Int):Prop:=(0<=c/\c<=55295)\/(57344<=c/\c<=1114111)
def form(c:Int):List Int :=
 if c<128 then[c]
 else if c<2048 then[192+c / 64,128+c%64]
 else if c<65536 then[224+c / 4096,128+c / 64%64,128+c%64]
 else[240+c / 262144,128+c / 4096%64,128+c / 64%64,128+c%64]
def lead(b:Int):Option (Nat×Int×Int×Int) :=
 if b<128 then some (0,0,0,b)
 else if 194<=b/\b<=223 then some (1,128,191,b%32)
 else if b=224 then some (2,160,191,b%16)
 else if b=237 then some (2,128,159,b%16)
 else if 225<=b/\b<=239 then some (2,128,191,b%16)
 else if b=240 then some (3,144,191,b%8)
 else if 241<=b/\b<=243 then some (3,128,191,b%8)
 else if b=244 then some (3,128,143,b%8)
 else none
def x0S:Nat->Int->Int->Int->Nat->List Int->Except Nat (Nat×Int)
 | 0,_,_,c,k,_=>.ok (k,c)
 | _+1,_,_,_,k,[]=>.error k
 | n+1,lo,hi,c,k,b::r=>if b<lo\/hi<b then .error k else x0S n 128 191 (c*64+b%64) (k+1) r
def one:List Int->Except Nat (Nat×Int)
 | []=>.error 0
 | b::r=>match lead b with
  | none=>.error 0
  | some (n,lo,hi,c)=>x0S n lo hi c 1 r
def glue(acc:List Int)(r:List Int×Int×Int):List Int×Int×Int:=if r.2.2=0 then(acc++r.1,0,0)else([],r.2.1,r.2.2)
def decF:Nat->Nat->List Int->List Int×Int×Int
 | 0,_,_=>([],0,0)
 | f+1,p,zs=>if zs=[]then([],0,0)else match one zs with
  | .error k=>([],((p+k:Nat):Int),30)
  | .ok (n,c)=>glue [c] (decF f (p+n) (zs.drop n))
def dec(p:Nat)(zs:List Int):List Int×Int×Int:=decF zs.length p zs
def Byt(zs:List Int):Prop:=∀z∈zs,0<=z/\z<=255
theorem x4b{n:Nat}{lo hi c:Int}{k:Nat}{r:List Int}{m:Nat}{d:Int}(h:x0S n lo hi c k r=.ok (m,d)):m=k+n/\n<=r.length:=by
 induction n generalizing lo hi c k r with
 | zero=>simp[x0S]at h;simp[h.1]
 | succ n ih =>
  cases r with
  | nil=>simp[x0S]at h
  | cons b r =>
   simp only[x0S]at h;split at h
   ·simp at h
   ·have:=ih h;exact f4S
theorem y6X{n:Nat}{lo hi c:Int}{k:Nat}{r:List Int}{m:Nat}(h:x0S n lo hi c k r=.error m):k<=m/\m<=k+r.length/\m<k+n:=by
 induction n generalizing lo hi c k r with
 | zero=>simp[x0S]at h
 | succ n ih =>
  cases r with
  | nil=>simp[x0S]at h;exact f4S
  | cons b r =>
   simp only[x0S]at h;split at h
   ·simp at h;exact f4S
   ·have:=ih h;exact f4S
theorem x9p{zs:List Int}{n:Nat}{c:Int}(h:one zs=.ok (n,c)):1<=n/\n<=zs.length:=by
 cases zs with
 | nil=>simp[one]at h
 | cons b r =>
  simp only[one]at h;split at h
  ·simp at h
  ·have:=x4b h;exact f4S
theorem z5G{zs:List Int}{k:Nat}(h:one zs=.error k):k<=zs.length/\k<=3:=by
 cases zs with
 | nil=>simp[one]at h;omega
 | cons b r =>
  simp only[one]at h;split at h
  ·simp at h;omega
  ·rename_i n lo hi c hl
   have:=y6X h
   have R:n<=3:=by
    unfold lead at hl
    repeat' split at hl
    all_goals simp_all
    all_goals omega
   exact f4S
theorem z7N{b:Int}(h:194<=b/\b<=223):lead b=some (1,128,191,b%32):=by
 unfold lead;rw[if_neg f6J,if_pos h]
theorem z7O{b:Int}(h:224<=b/\b<=239):lead b=some (2,if b=224 then 160 else 128,if b=237 then 159 else 191,b%16):=by
 unfold lead;rw[if_neg f6J,if_neg f6J];by_cases D:b=224
 ·subst D;simp
 ·grind
theorem z7P{b:Int}(h:240<=b/\b<=244):lead b=some (3,if b=240 then 144 else 128,if b=244 then 143 else 191,b%8):=by
 unfold lead;rw[if_neg f6J,if_neg f6J,if_neg f6J,if_neg f6J,if_neg f6J];by_cases D:b=240
 ·subst D;simp
 ·grind
theorem z1r{zs:List Int}{n:Nat}{c:Int}(C:Byt zs)(h:one zs=.ok (n,c)):okc c/\zs.take n=form c:=by
 cases zs with
 | nil=>simp[one]at h
 | cons b r =>
  have U:=C b M7L;by_cases D:b<128
  ·simp[one,lead,D,x0S]at h;obtain⟨rfl,rfl⟩:=h;refine⟨g6j,?_⟩;simp[form,D]
  ·by_cases Z:194<=b/\b<=223
   ·simp only[one,z7N Z]at h
    match r,h with
    | [],h=>simp[x0S]at h
    | b1::r,h =>
     simp only[x0S]at h;split at h
     ·simp at h
     ·simp at h;obtain⟨rfl,rfl⟩:=h;refine⟨g6j,?_⟩;unfold form;rw[if_neg f6J,if_pos f6J];simp;omega
   ·by_cases R:224<=b/\b<=239
    ·simp only[one,z7O R]at h
     match r,h with
     | [],h=>simp[x0S]at h
     | [b1],h=>exact absurd (x4b h).2 M7L
     | b1::b2::r,h =>
      simp only[x0S]at h;by_cases L:b1<(if b=224 then 160 else 128)\/(if b=237 then 159 else 191)<b1
      ·rw[if_pos L]at h;simp at h
      ·rw[if_neg L]at h;split at h
       ·simp at h
       ·simp at h;obtain⟨rfl,rfl⟩:=h
        have G:(128<=b1/\b1<=191)/\(b=224->160<=b1)/\(b=237->b1<=159):=by
         split at L<;>split at L<;>omega
        refine⟨g6j,?_⟩;unfold form;rw[if_neg f6J,if_neg f6J,if_pos f6J];simp;omega
    ·by_cases H:240<=b/\b<=244
     ·simp only[one,z7P H]at h
      match r,h with
      | [],h=>simp[x0S]at h
      | [b1],h=>exact absurd (x4b h).2 M7L
      | [b1,b2],h=>exact absurd (x4b h).2 M7L
      | b1::b2::b3::r,h =>
       simp only[x0S]at h;by_cases L:b1<(if b=240 then 144 else 128)\/(if b=244 then 143 else 191)<b1
       ·rw[if_pos L]at h;simp at h
       ·rw[if_neg L]at h;split at h
        ·simp at h
        ·split at h
         ·simp at h
         ·simp at h;obtain⟨rfl,rfl⟩:=h
          have G:(128<=b1/\b1<=191)/\(b=240->144<=b1)/\(b=244->b1<=143):=by
           split at L<;>split at L<;>omega
          refine⟨g6j,?_⟩;unfold form;rw[if_neg f6J,if_neg f6J,if_neg f6J];simp;omega
     ·have:lead b=none:=by
       unfold lead;rw[if_neg D,if_neg Z,if_neg f6J,if_neg f6J,if_neg f6J,if_neg f6J,if_neg f6J,if_neg f6J]
      simp[one,this]at h
theorem x4e(c:Int):1<=(form c).length/\(form c).length<=4:=by
 unfold form;repeat' split
 all_goals simp
theorem x8N{c:Int}(h:okc c):Byt (form c):=by
 unfold okc at h;intro z o;unfold form at o
 repeat' split at o
 all_goals simp at o
 all_goals omega
end Go.Proofs.YtbmckadcjdedcaaGreatDoor.Utf
namespace Go.Proofs.YtbmckadcjdedcaaGreatDoor
open Go.Proofs.Tryz
open Go.RowKit
end Go.Proofs.YtbmckadcjdedcaaGreatDoor
namespace Go.Proofs.YtbmckadcjdedcaaGreatDoor.Utf
open Go.Proofs.Tryz
theorem y7e(f g p:Nat)(zs:List Int)(z:zs.length<=f)(Y:zs.length<=g):decF f p zs=decF g p zs:=by
 induction f generalizing g p zs with
 | zero =>
  have:zs=[]:=List.eq_nil_of_length_eq_zero f6J;subst this;cases g<;>simp[decF]
 | succ f ih =>
  cases g with
  | zero=>grind
  | succ g =>
   simp only[decF];split
   ·rfl
   ·split
    ·rfl
    ·rename_i n c h1
     have:=x9p h1;rw[ih g (p+n) (zs.drop n) P8P P8P]
theorem z4x(p:Nat):dec p []=([],0,0):=rfl
theorem x8G{zs:List Int}{k:Nat}(o:zs≠[])(h:one zs=.error k)(p:Nat):dec p zs=([],((p+k:Nat):Int),30):=by
 cases zs with
 | nil=>exact absurd rfl o
 | cons b r=>simp only[dec,List.length_cons,decF,if_neg o,h]
theorem y7g{zs:List Int}{n:Nat}{c:Int}(h:one zs=.ok (n,c))(p:Nat):dec p zs=glue [c] (dec (p+n) (zs.drop n)):=by
 have S:=x9p h
 cases zs with
 | nil=>simp[one]at h
 | cons b r =>
  have o:(b::r)≠[]:=M7N;simp only[dec,List.length_cons,decF,if_neg o,h];rw[y7e r.length ((b::r).drop n).length _ _ P8P (l0r _)]
theorem y0p(a b:List Int)(r:List Int×Int×Int):glue a (glue b r)=glue (a++b) r:=by
 unfold glue;by_cases h:r.2.2=0
 ·simp[h]
 ·simp[h]
theorem y3o{r:List Int×Int×Int}(h:r.2.2=0->r.2.1=0)(D:r.2.2≠0->r.1=[]):glue [] r=r:=by
 obtain⟨a,b,c⟩:=r;unfold glue;by_cases I:c=0
 ·simp[I]at *;simp[h]
 ·simp[I]at *;simp[D]
theorem dec_shape(m p:Nat)(zs:List Int)(U:zs.length<=m):((dec p zs).2.2=0/\(dec p zs).2.1=0/\(dec p zs).1.length<=zs.length)\/∃q:Nat,dec p zs=([],(q:Int),30)/\p<=q/\q<=p+zs.length:=by
 induction m generalizing p zs with
 | zero =>
  have:zs=[]:=List.eq_nil_of_length_eq_zero f6J;subst this;exact .inl ⟨rfl,rfl,l0r _⟩
 | succ m ih =>
  by_cases o:zs=[]
  ·grind
  ·cases h:one zs with
   | error k=>exact .inr ⟨p+k,x8G o h p,f6J,by have:=z5G h;exact f6J⟩
   | ok nc =>
    obtain⟨n,c⟩:=nc;have S:=x9p h;rw[y7g h p];rcases ih (p+n) (zs.drop n) P8P with⟨h1,h2,h3⟩ | ⟨q,h1,h2,h3⟩
    ·left;simp only[glue,h1,if_true];refine⟨trivial,trivial,?_⟩;simp at h3 ⊢;omega
    ·right;refine⟨q,?_,f6J,by simp at h3;exact f6J⟩;rw[h1];simp[glue]
def encA(i:Nat):List Int->List Int×Int×Int
 | []=>([],0,0)
 | c::r=>if okc c then glue (form c) (encA (i+1) r)else([],(i:Int),31)
theorem enc_shape(i:Nat)(xs:List Int):((encA i xs).2.2=0/\(encA i xs).2.1=0)\/∃q:Nat,encA i xs=([],(q:Int),31)/\i<=q/\q<i+xs.length:=by
 induction xs generalizing i with
 | nil=>exact .inl ⟨rfl,rfl⟩
 | cons c r ih =>
  simp only[encA];split
  ·rcases ih (i+1)with⟨D,Z⟩ | ⟨q,D,Z,R⟩
   ·left;simp[glue,D]
   ·right;exact⟨q,by rw[D];simp[glue],f6J,P8P⟩
  ·grind
theorem y1L(i:Nat)(xs:List Int):(encA i xs).1.length<=4*xs.length:=by
 induction xs generalizing i with
 | nil=>simp[encA]
 | cons c r ih =>
  simp only[encA];split
  ·have:=ih (i+1);have:=x4e c;unfold glue;split
   ·exact f4S
   ·simp
  ·simp
theorem y7n(i:Nat)(xs:List Int):Byt (encA i xs).1:=by
 induction xs generalizing i with
 | nil=>intro z hz;simp[encA]at hz
 | cons c r ih =>
  simp only[encA];split
  ·rename_i h
   unfold glue;split
   ·intro z hz;rcases List.mem_append.1 hz with hz | hz
    ·exact x8N h z hz
    ·exact ih (i+1) z hz
   ·intro z hz;simp at hz
  ·intro z hz;simp at hz
theorem z4D(m i p:Nat)(zs:List Int)(U:zs.length<=m)(C:Byt zs)(h:(dec p zs).2.2=0):encA i (dec p zs).1=(zs,0,0):=by
 induction m generalizing i p zs with
 | zero =>
  have:zs=[]:=List.eq_nil_of_length_eq_zero f6J;subst this;rfl
 | succ m ih =>
  by_cases o:zs=[]
  ·subst o;rfl
  ·cases h1:one zs with
   | error k=>rw[x8G o h1]at h;simp at h
   | ok nc =>
    obtain⟨n,c⟩:=nc;have S:=x9p h1;obtain⟨I,A⟩:=z1r C h1;rw[y7g h1]at h ⊢
    have u:(dec (p+n) (zs.drop n)).2.2=0:=by
     unfold glue at h;by_cases D:(dec (p+n) (zs.drop n)).2.2=0
     ·exact D
     ·rw[if_neg D]at h;exact h
    simp only[glue,u,if_true,List.singleton_append,encA,if_pos I];rw[ih (i+1) (p+n) (zs.drop n) P8P (fun z o=>C z (List.mem_of_mem_drop o)) u];simp[<- A]
end Go.Proofs.YtbmckadcjdedcaaGreatDoor.Utf
namespace Go.Proofs.YtbmckadcjdedcaaGreatDoor.Spl
open Go.Proofs.Tryz
def x0X:List Int->List Int->List (List Int)
 | p,[]=>[p]
 | p,c::r=>if c=46 then p::x0X [] r else x0X (p++[c]) r
def split(xs:List Int):List (List Int):=x0X [] xs
def join:List (List Int)->List Int
 | []=>[]
 | [p]=>p
 | p::q::r=>p++46::join (q::r)
theorem y9S(p xs:List Int):x0X p xs≠[]:=by
 induction xs generalizing p with
 | nil=>simp[x0X]
 | cons c r ih =>
  simp only[x0X];split
  ·simp
  ·exact ih _
theorem join_cons(p:List Int){l:List (List Int)}(h:l≠[]):join (p::l)=p++46::join l:=by
 cases l with
 | nil=>exact absurd rfl h
 | cons q r=>rfl
theorem y5Q(p xs:List Int):(x0X p xs).length<=xs.length+1:=by
 induction xs generalizing p with
 | nil=>simp[x0X]
 | cons c r ih =>
  simp only[x0X];split
  ·have:=ih [];exact f4S
  ·have:=ih (p++[c]);exact f4S
theorem splitA_mem(p xs:List Int)(l:List Int)(S:l∈x0X p xs):∀z∈l,z∈p\/z∈xs:=by
 induction xs generalizing p with
 | nil=>simp[x0X]at S;subst S;exact fun z o=>.inl o
 | cons c r ih =>
  simp only[x0X]at S;split at S
  ·grind
  ·grind
theorem y8l(l:List (List Int))(k:Nat)(G:k<l.length):join (l.take (k+1))=(if k=0 then[]else join (l.take k)++[46])++l.getD k []:=by
 induction l generalizing k with
 | nil=>simp at G
 | cons p l ih =>
  cases k with
  | zero=>simp[join]
  | succ k =>
   simp only[List.length_cons]at G;have A:k<l.length:=f6J
   have F:l.take (k+1)≠[]:=by
    intro h;have:=congrArg List.length h;rw[List.length_take,List.length_nil]at this;omega
   have D:(p::l).take (k+1+1)=p::l.take (k+1):=rfl;have Y:(p::l).getD (k+1) []=l.getD k []:=rfl;rw[D,join_cons p F,ih k A,Y]
   cases k with
   | zero=>simp[join]
   | succ k =>
    have H:l.take (k+1)≠[]:=f0k;have Z:(p::l).take (k+1+1)=p::l.take (k+1):=rfl;rw[Z,join_cons p H];simp
def total(l:List (List Int)):Nat:=(l.map List.length).sum
theorem x5Q(l:List (List Int)):(join l).length<=total l+l.length:=by
 induction l with
 | nil=>simp[join,total]
 | cons p l ih =>
  cases l with
  | nil=>simp[join,total]
  | cons q r =>
   rw[join_cons p M7K];simp only[total,List.map_cons,List.sum_cons,List.length_append,List.length_cons]at ih ⊢;omega
theorem y5V(l:List (List Int))(k:Nat):total (l.take k)<=total l:=by
 induction l generalizing k with
 | nil=>simp
 | cons p l ih =>
  cases k with
  | zero=>simp[total]
  | succ k =>
   have:=ih k;simp only[List.take_succ_cons,total,List.map_cons,List.sum_cons]at this ⊢;omega
theorem x4h(l:List (List Int))(k:Nat):(join (l.take k)).length<=total l+l.length:=by
 have D:=x5Q (l.take k);have Z:=y5V l k;rw[List.length_take]at D;omega
theorem z3x(l:List (List Int))(k:Nat):(l.getD k []).length<=total l:=by
 induction l generalizing k with
 | nil=>simp
 | cons p l ih =>
  cases k with
  | zero=>simp[total]
  | succ k =>
   have:=ih k;simp only[total,List.map_cons,List.sum_cons]at this ⊢;have e:(p::l).getD (k+1) []=l.getD k []:=rfl;rw[e];omega
theorem y2H(p xs:List Int):total (x0X p xs)<=p.length+xs.length:=by
 induction xs generalizing p with
 | nil=>simp[x0X,total]
 | cons c r ih =>
  simp only[x0X];split
  ·have:=ih [];simp only[total,List.map_cons,List.sum_cons,List.length_cons,List.length_nil]at this ⊢;omega
  ·grind
end Go.Proofs.YtbmckadcjdedcaaGreatDoor.Spl
namespace Go.Proofs.YtbmckadcjdedcaaGreatDoor
open Go.Proofs.Tryz
open Go.RowKit
theorem x1j{zs:List Int}(h:Utf.Byt zs):Fit .u8 zs:=fun z o=>x8q (h z o)
def allb(p:Int->Bool)(xs:List Int):Bool:=xs.all p
def okb(c:Int):Bool:=decide (Utf.okc c)
def ascb(c:Int):Bool:=decide (0<=c/\c<=127)
theorem Sk.src{K:IntKind}{w:World}{v:Value}{zs:List Int}(h:Sk K w v zs):(zs=[]/\v=.slice none 0 0) \/
  ∃p cap,v=.slice (some p) zs.length cap/\∀j u,(zs.map (Value.int K))[j]?=some u->w.cell? (p.add j)=some u:=by
 rcases h.2.src with⟨D,Z⟩ | ⟨p,cap,D,Z⟩
 ·exact .inl ⟨e2V,Z⟩
 ·grind
def x2c(w:World)(r:List Int×Int×Int)(e:Ending)(w':World):Prop :=
 e=.returned (.tuple #[.string (strOfNums r.1),.int .i64 r.2.1,.int .i64 r.2.2])/\Below w.heap.size w w'
theorem x2c.mk{w w':World}{r:List Int×Int×Int}{a:List Int}{b c:Int}(h:r=(a,b,c))(C:Bw w w'):x2c w r (.returned (.tuple #[.string (strOfNums a),.int .i64 b,.int .i64 c])) w':=n0M
theorem x2c.no{w w':World}{r:List Int×Int×Int}{b c:Int}(h:r=([],b,c))(C:Bw w w'):x2c w r (.returned (.tuple #[.string ⟨#[]⟩,.int .i64 b,.int .i64 c])) w':=x2c.mk h C
theorem x0Q{xs:List Int}{k:Nat}(G:k<xs.length):xs.drop k=xs.getD k 0::xs.drop (k+1):=f0h
theorem strOfNums_size(l:List Int):(strOfNums l).size=l.length:=by simp[strOfNums,ByteArray.size]
def cnt(r:List Int×Int×Int):Int:=if r.2.2=0 then(r.1.length:Int)else -1
theorem x0x(s:ByteArray):Utf.Byt (nums s):=w7g
def x3E(w:World)(r:List Int×Int×Int)(e:Ending)(w':World):Prop :=
 ∃v,e=.returned (.tuple #[v,.int .i64 r.2.1,.int .i64 r.2.2])/\Ok .i32 21 w' w.heap.size v r.1/\Below w.heap.size w w'
theorem x3E.err{w w':World}{r:List Int×Int×Int}{p:Int}(h:r=([],p,30))(C:Bw w w'):x3E w r (.returned (.tuple #[.slice none 0 0,.int .i64 p,.int .i64 30])) w':=by
 subst h;exact⟨_,rfl,Ok.nil _ _ _ _,C⟩
theorem x3E.end{w w':World}{r:List Int×Int×Int}{v:Value}{xs:List Int}(h:r=(xs,0,0))(N:Ok .i32 21 w' w.heap.size v xs)(C:Bw w w'):x3E w r (.returned (.tuple #[v,.int .i64 0,.int .i64 0])) w':=by
 subst h;exact⟨_,rfl,N,C⟩
theorem y0E(s:ByteArray)(q:Nat):nums (s.extract 0 q)=(nums s).take q:=by
 rw[nums,nums,ByteArray.data_extract,Array.toList_extract,List.map_take];simp
theorem x8p(s:ByteArray):strOfNums (nums s)=s:=by
 apply ByteArray.ext;apply Array.toList_inj.1;rw[strOfNums,nums,List.map_map]
 conv=>rhs;rw[<- List.map_id s.data.toList]
 apply List.map_congr_left;intro x _;simp
theorem y5l{a:List Int}(h:Utf.Byt a):nums (strOfNums a)=a:=by
 rw[nums,strOfNums,List.map_map]
 conv=>rhs;rw[<- List.map_id a]
 apply List.map_congr_left;intro x J;have:=h x J;simp only[Function.comp,id,UInt8.toNat_ofNat'];omega
def Rws(w:World)(v:Value)(xss:List (List Int)):Prop :=
 ∃us:List Value,us.length=xss.length/\Sv w v us/\∀i,i<xss.length->Sk .i32 w (us.getD i undef) (xss.getD i [])
theorem Rws.below{w w':World}{v:Value}{xss:List (List Int)}(h:Rws w v xss)(C:Bw w w'):Rws w' v xss:=by
 obtain⟨j,D,Z,R⟩:=h;exact⟨j,D,Z.below C,fun i hi=>(R i hi).below C⟩
theorem Rws.shape{w:World}{v:Value}{xss:List (List Int)}(h:Rws w v xss):∃ao cap,v=.slice ao xss.length cap/\xss.length<=cap/\cap<=9223372036854775807:=by
 obtain⟨j,D,Z,R⟩:=h;rw[<- D];exact Z.shape
def DecC:Prop:=∀(s:ByteArray) (w:World),s.size<=1000000000->Calls prog 13 #[.string s] w (x3E w (Utf.dec 0 (nums s)))
def EncC:Prop:=∀(v:Value) (xs:List Int) (w:World),Sk .i32 w v xs->xs.length<=35184372087808->Calls prog 17 #[v] w (x2c w (Utf.encA 0 xs))
theorem Tryz.infoY40:(prog.info? 40).map (fun i=>(i.zero,i.size,i.bytes))=some (some (.slice none 0 0),1,24):=f4x
theorem x7f{w:World}{B E n m:Nat}{e S:TypeId}{v u:Value}{xs ys:List Value}(F:e≠S)(h:w.ownsRow B e 1 v n xs)(k:w.ownsRow E S 1 u m ys):v.ownBlock=none\/v.ownBlock≠u.ownBlock:=by
 rcases h.2 with⟨rfl,_⟩ | ⟨g,M,P,rfl,Y,t,_⟩
 ·exact .inl rfl
 ·right;rcases k.2 with⟨rfl,_⟩ | ⟨c,J,o,rfl,Q,G,_⟩
  ·exact V3H
  ·intro e;simp only[Value.ownBlock,Option.some.injEq]at e;subst e;rw[t]at G;simp at G;exact F G.2
theorem x3h(ao:Option Addr)(n cap:Nat):∀u∈[Value.slice ao n cap],u.oneCell'=true:=e8m
def x8u(w:World)(xs:List Int)(e:Ending)(w':World):Prop:=∃v,e=.returned v/\Ok .i32 21 w' w.heap.size v xs/\Below w.heap.size w w'
def JoinC:Prop:=∀(v:Value) (xss:List (List Int)) (w:World),Rws w v xss->Spl.total xss+xss.length<=1000000000->Calls prog 21 #[v] w (x8u w (Spl.join xss))
def Mu(w:World)(B U:Nat)(v:Value)(xss:List (List Int)):Prop :=
 ∃us:List Value,us.length=xss.length/\w.ownsRow B 40 1 v xss.length us/\(∀i,i<xss.length->Ok .i32 21 w B (us.getD i undef) (xss.getD i [])) /\
  (∀i,i<xss.length->∀k,(us.getD i undef).ownBlock=some k->k<U)/\∀i j k,i<j->j<xss.length->(us.getD i undef).ownBlock=some k->(us.getD j undef).ownBlock≠some k
theorem Mu.nil(w:World)(B U:Nat):Mu w B U (.slice none 0 0) []:=⟨[],rfl,World.ownsRow_nil _ _ _ _,fun i hi=>v5L,fun i hi=>v5L,fun i j k _ K=>by simp at K⟩
theorem Mu.snoc{w w2:World}{B U:Nat}{v v' u:Value}{xss:List (List Int)}{xs:List Int}{o:Obj}{us:List Value}(r:B<=U)(d:us.length=xss.length)(a:w.ownsRow B 40 1 v xss.length us)
  (L:∀i,i<xss.length->Ok .i32 21 w B (us.getD i undef) (xss.getD i [])) (H:∀i,i<xss.length->∀k,(us.getD i undef).ownBlock=some k->k<U)
  (m:∀i j k,i<j->j<xss.length->(us.getD i undef).ownBlock=some k->(us.getD j undef).ownBlock≠some k)
  (W:Ok .i32 21 w U u xs) (P:w2.ownsRow B 40 1 v' (xss.length+1) (us++[u])) (Y:(w.alloc o).grownBy w2 v.ownBlock):Mu w2 B w2.heap.size v' (xss++[xs]):=by
 have I:w.heap.size<=w2.heap.size:=(by have:=Y.size;simp at this;exact f6J);have G:∀u l,Ok .i32 21 w B u l->Ok .i32 21 w2 B u l:=fun u l h=>⟨h.1,h.2.1,(h.2.2.alloc o).kept Y (x7f e8N h.2.2 a)⟩;have N:∀i,i<xss.length->(us++[u]).getD i undef=us.getD i undef:=fun i h=>(by simp[List.getD,List.getElem?_append_left (f6J:i<us.length)]);have f:(us++[u]).getD xss.length undef=u:=(by grind);refine⟨us++[u],by simp[d],by simpa using P,fun i hi=>?_,fun i hi k C=>?_,fun i j k p K C=>?_⟩
 ·simp only[List.length_append,List.length_cons,List.length_nil]at hi;rcases Nat.lt_or_ge i xss.length with h | h
  ·grind
  ·obtain rfl:i=xss.length:=f6J;have E:(xss++[xs]).getD xss.length []=xs:=(by grind);rw[f,E];exact G _ _ (W.lower r)
 ·simp only[List.length_append,List.length_cons,List.length_nil]at hi;rcases Nat.lt_or_ge i xss.length with h | h
  ·rw[N i h]at C;have:=((L i h).row.lt k C).2;omega
  ·obtain rfl:i=xss.length:=f6J;rw[f]at C;have:=(W.row.lt k C).2;omega
 ·simp only[List.length_append,List.length_cons,List.length_nil]at K;rw[N i f6J]at C;rcases Nat.lt_or_ge j xss.length with h | h
  ·grind
  ·obtain rfl:j=xss.length:=f6J;rw[f];intro F;have A:=H i f6J k C;have J:=(W.row.lt k F).1;omega
def z0B(w:World)(xss:List (List Int))(e:Ending)(w':World):Prop:=∃v,e=.returned v/\Mu w' w.heap.size w'.heap.size v xss/\Below w.heap.size w w'
theorem y2E{xs p:List Int}{k:Nat}(G:k<xs.length):Spl.x0X p (xs.drop k)=if xs.getD k 0=46 then p::Spl.x0X [] (xs.drop (k+1))else Spl.x0X (p++[xs.getD k 0]) (xs.drop (k+1)):=by
 rw[x0Q G];rfl
def z3L(w:World)(xs:List Int)(e:Ending)(w':World):Prop:=∃v,e=.returned v/\Ok .i32 21 w' w.heap.size v xs/\Below w.heap.size w w'
theorem x4G(v:Value)(xs:List Int)(w:World)(N:Sk .i32 w v xs)(S:xs.length<=1000000000) :
  Calls prog 103 #[v] w (z3L w xs):=by
 obtain⟨r,hi,i,d,f⟩:=info_parts Tryz.info21;have o:=O N.1;have y:=Ok.nil .i32 21 w w.heap.size;rcases N.src with⟨D,Z⟩ | ⟨p,u,Z,B⟩
 ·subst D;subst Z;go_enter func103,ntmps103;go_wp2_with(at_builtin;refine wpList_append_own_none rfl (.const (.slice none 0 0)) (.tmp 3) 40 rfl w.heap.size 21 r 1 underlying40 hi _ _ _ rfl y.row rfl ?_);go_ret;exact⟨_,rfl,y,b0r⟩
 ·subst Z;go_enter func103,ntmps103;go_wp2_with(at_builtin;refine wpList_append_own _ rfl (.const (.slice none 0 0)) (.tmp 3) 40 rfl w.heap.size 21 r (.int .i32 0) 1 4 underlying40 hi i d f rfl e8P _ _ _ rfl y.row p xs.length u (xs.map (Value.int .i32)) rfl M7N B (x0R .i32 xs) (by unfold maxLen;exact P8P) P8P f6J ?_);intro R A P m _;have F:Bw w A:=x1G (l0r _) y.row (b0r) m;have K:Ok .i32 21 A w.heap.size R xs:=Ok.of (V o) f6J P M7N M7N;go_wp2;go_ret;exact⟨_,rfl,K,F⟩
theorem Mu.below{w w':World}{B U:Nat}{v:Value}{xss:List (List Int)}(h:Mu w B U v xss)(C:Bw w w'):Mu w' B U v xss:=by
 obtain⟨j,D,Z,R,H,p⟩:=h;refine⟨j,D,Z.kept (row:=none) ⟨C.os,C.tape,C.output,C.size,fun k G _=>C.block k G⟩ ?_,fun i hi=>(R i hi).below C,H,p⟩
 exact W0k
theorem y5t{xs:List Int}{f k:Nat}(z:f<=k)(G:k<xs.length):(xs.drop f).take (k+1-f)=(xs.drop f).take (k-f)++[xs.getD k 0]:=by
 rw[(f6J:k+1-f=(k-f)+1),List.take_add_one,List.getElem?_drop,(f6J:f+(k-f)=k)];exact w8a
theorem z2D(v:Value)(xs:List Int)(w:World)(hv:Sk .i32 w v xs)(hl:xs.length<=1000000000):Calls prog 63 #[v] w (z0B w (Spl.split xs)):=by
 obtain⟨j0,K,ab,ae,af⟩:=info_parts Tryz.infoY40;rcases Nat.eq_zero_or_pos xs.length with h0 | h0
 ·have hs:Spl.split xs=[[]]:=v6Z;have n:xs=[]:=List.eq_nil_of_length_eq_zero h0;have aC:w.ownsRow w.heap.size 40 1 (.slice none 0 0) 0 []:=World.ownsRow_nil _ _ _ _;have HV:=O hv;obtain⟨ao,M,rfl,_,_⟩:=hv.shape;rw[hs,h0];rw[h0,n]at HV;have T:=fun ao' (h:Sk .i32 w (.slice ao' 0 M) [])=>O (x4G _ _ w h (by simp))
  cases ao with
  | none =>
   have HC:=T _ (V HV);go_enter func63,ntmps63;go_wp2;refine wp_loop_rounds 1 ?_;rw[rounds_succ];go_wp2_with fail;refine(V HC).mono ?_;rintro e Q ⟨v1,rfl,s,E⟩;have N:=E.size;have aw:Mu Q w.heap.size w.heap.size (.slice none 0 0) []:=Mu.nil _ _ _;have D:Q.ownsRow w.heap.size 40 1 (.slice none 0 0) 0 []:=World.ownsRow_nil _ _ _ _;obtain⟨L,Z,d,_,_⟩:=s.sk.shape;subst d;go_wp2_with(at_builtin;refine wpList_append_own _ rfl (.tmp 27) (.tmp 32) 49 rfl w.heap.size 40 j0 (.slice none 0 0) 1 24 underlying49 K ab ae af rfl e8S _ _ _ rfl (D.alloc _) ⟨Q.heap.size,0,none⟩ 1 1 [.slice L 0 Z] rfl rfl (cell_one_new _ _ _) (x3h _ _ _) T7X f6J P8P ?_);intro X q Y R _;have a:=Mu.snoc (xss:=[]) (us:=[]) (U:=w.heap.size) (l0r _) rfl D (fun i hi=>v5L) (fun i hi=>v5L) (fun i j k _ K=>by simp at K) s Y R;have x:Bw w q:=x0p N D E R;go_wp2;go_ret;exact⟨_,rfl,a,x⟩
  | some ad =>
   have HC:=T _ (V HV);go_enter func63,ntmps63;go_wp2;refine wp_loop_rounds 1 ?_;rw[rounds_succ];go_wp2_with fail;refine(V HC).mono ?_;rintro e Q ⟨v1,rfl,s,E⟩;have N:=E.size;have aw:Mu Q w.heap.size w.heap.size (.slice none 0 0) []:=Mu.nil _ _ _;have D:Q.ownsRow w.heap.size 40 1 (.slice none 0 0) 0 []:=World.ownsRow_nil _ _ _ _;obtain⟨L,Z,d,_,_⟩:=s.sk.shape;subst d;go_wp2_with(at_builtin;refine wpList_append_own _ rfl (.tmp 27) (.tmp 32) 49 rfl w.heap.size 40 j0 (.slice none 0 0) 1 24 underlying49 K ab ae af rfl e8S _ _ _ rfl (D.alloc _) ⟨Q.heap.size,0,none⟩ 1 1 [.slice L 0 Z] rfl rfl (cell_one_new _ _ _) (x3h _ _ _) T7X f6J P8P ?_);intro X q Y R _;have a:=Mu.snoc (xss:=[]) (us:=[]) (U:=w.heap.size) (l0r _) rfl D (fun i hi=>v5L) (fun i hi=>v5L) (fun i j k _ K=>by simp at K) s Y R;have x:Bw w q:=x0p N D E R;go_wp2;go_ret;exact⟨_,rfl,a,x⟩
 ·obtain⟨b,P,M,rfl,az,aA,hc⟩:=hv.place h0;have HV:=O hv
  have HC:Hid (∀W,Bw w W->∀i,i<xs.length->W.cell? ⟨b,P+i,none⟩=some (.int .i32 (xs.getD i 0))):=n7y
  have o:=O hv.1;generalize hsp:Spl.split xs=t at *;have aj:=O hsp;go_enter func63,ntmps63;go_wp2;go_loopw[3,4,9] (fun vl vf i wr=>∃(k f:Nat) (ls:List (List Int)),i=.int .i64 k/\k<=xs.length/\vf=.int .i64 f/\f<=k/\Mu wr w.heap.size wr.heap.size vl ls/\w.heap.size<=wr.heap.size/\ls.length<=k/\Bw w wr/\t=ls++Spl.x0X ((xs.drop f).take (k-f)) (xs.drop k)) (fun _ _ i _=>xs.length-(intOf i).toNat)
  case atStart=>exact⟨0,0,[],rfl,f6J,rfl,f6J,Mu.nil _ _ _,l0r _,by simp,b0r,by rw[<- V aj];rfl⟩
  case round =>
   obtain⟨k,f,ls,rfl,hk,rfl,ar,C,r,aB,A,ag⟩:=hrel;by_cases H:k<xs.length
   ·have aq:=V HC _ A k H;have aD:=(V o).i32at k;rw[y2E H]at ag;have g:=O ag;have z:¬M=f:=f6J;by_cases ai:xs.getD k 0=46
    ·have am:(xs.getD k 0==46)=true:=by rw[ai];rfl
     have J:Hid (t=(ls++[(xs.drop f).take (k-f)])++Spl.x0X ((xs.drop (k+1)).take (k+1-(k+1))) (xs.drop (k+1))):=by
      have:=V g;rw[if_pos ai]at this;rw[Nat.sub_self,List.take_zero];simpa[Hid]using this
     have hcut:=((V HV).below A).cut (l:=f) (h:=k) (m:=M) f6J f6J f6J f6J;simp only[sliced,z,if_false,Option.map_some,Nat.mul_one,addr_add]at hcut;have y:((xs.drop f).take (k-f)).length<=1000000000:=(by rw[List.length_take,List.length_drop];exact f6J);have T:=O (x4G _ _ wr hcut y);generalize(xs.drop f).take (k-f)=p,xs.getD k 0=c at *;go_wp2_with fail;refine(V T).mono ?_;rintro e Q ⟨v1,rfl,s,E⟩;obtain⟨ms,S,B,u,G,m5⟩:=C.below E;have F:Bw w Q:=x0b A E;have N:=E.size;obtain⟨L,Z,d,_,_⟩:=s.sk.shape;subst d;go_wp2_with(at_builtin;refine wpList_append_own _ rfl (.tmp 16) (.tmp 22) 49 rfl w.heap.size 40 j0 (.slice none 0 0) 1 24 underlying49 K ab ae af rfl e8S _ _ _ rfl (B.alloc _) ⟨Q.heap.size,0,none⟩ 1 1 [.slice L p.length Z] rfl rfl (cell_one_new _ _ _) (x3h _ _ _) T7X f6J P8P ?_);intro X q Y R _;have a:=Mu.snoc r S B u G m5 s Y R;have x:Bw w q:=x0p f6J B F R;have ay:=x.size;go_wp2
     go_roundw
     case rel=>exact⟨k+1,k+1,ls++[p],g2D,f6J,g2D,f6J,a,ay,P8P,x,V J⟩
     case measure=>exact g7V
    ·have am:(xs.getD k 0==46)=false:=by simpa using ai
     have J:Hid (t=ls++Spl.x0X ((xs.drop f).take (k+1-f)) (xs.drop (k+1))):=by
      have:=V g;rw[if_neg ai]at this;rw[y5t ar H];exact this
     generalize xs.getD k 0=c at *;go_wp2
     go_roundw
     case rel=>exact⟨k+1,f,ls,g2D,f6J,rfl,f6J,C,r,f6J,A,V J⟩
     case measure=>exact g7V
   ·obtain rfl:k=xs.length:=by omega
    have I:t=ls++[xs.drop f]:=by
     rw[ag,List.drop_length,List.take_of_length_le F0o];rfl
    subst I;have hcut:=((V HV).below A).cut (l:=f) (h:=xs.length) (m:=M) f6J f6J f6J f6J;rw[List.take_of_length_le F0o]at hcut;have y:(xs.drop f).length<=1000000000:=F0o;have T:=O (x4G _ _ wr hcut y);by_cases z:M=f
    ·simp only[sliced,z,if_true,Nat.sub_self]at T;exact v8T
    ·simp only[sliced,z,if_false,Option.map_some,Nat.mul_one,addr_add]at T;exact v8T
theorem Mu.rwsS{w:World}{B U:Nat}{v:Value}{xss:List (List Int)}(h:Mu w B U v xss)(S:xss.length<=1000000001):Rws w v xss:=by
 obtain⟨j,D,Z,R,H,p⟩:=h;exact⟨j,D,Ow.sv (e:=40) (B:=B) ⟨f6J,by rw[D];exact Z⟩,fun i hi=>(R i hi).sk⟩
end Go.Proofs.YtbmckadcjdedcaaGreatDoor
namespace Go.Proofs.YtbmckadcjdedcaaGreatDoor.Utf
open Go.Proofs.Tryz
theorem y1I(n:Nat)(lo hi c:Int)(p k:Nat)(r:List Int):x0S n lo hi c (p+k) r=match x0S n lo hi c k r with | .error m=>.error (p+m) | .ok (m,d)=>.ok (p+m,d):=by
 induction n generalizing lo hi c k r with
 | zero=>rfl
 | succ n ih =>
  cases r with
  | nil=>rfl
  | cons b r =>
   simp only[x0S];split
   ·rfl
   ·rw[Nat.add_assoc];exact ih _ _ _ _ _
def fin(xs zs:List Int):Except Nat (Nat×Int)->List Int×Int×Int
 | .error m=>([],(m:Int),30)
 | .ok (m,c)=>glue (xs++[c]) (dec m (zs.drop m))
def begun(xs zs:List Int)(k:Nat):Option (Nat×Int×Int×Int)->List Int×Int×Int
 | none=>([],(k:Int),30)
 | some (n,lo,hi,c)=>fin xs zs (x0S n lo hi c (k+1) (zs.drop (k+1)))
theorem y3n(xs:List Int)(p:Int):glue xs ([],p,30)=([],p,30):=by simp[glue]
theorem z4C{zs:List Int}{k:Nat}(G:k<zs.length):zs.drop k=zs.getD k 0::zs.drop (k+1):=f0h
theorem x7J{xs zs:List Int}{k:Nat}{r:List Int×Int×Int}(G:k<zs.length)(hr:r=glue xs (dec k (zs.drop k))):r=begun xs zs k (lead (zs.getD k 0)):=by
 have hd:=z4C G;have F:zs.drop k≠[]:=by rw[hd];exact M7K
 cases hl:lead (zs.getD k 0)with
 | none =>
  have D:one (zs.drop k)=.error 0:=(by rw[hd];simp only[one,hl]);rw[hr,x8G F D,begun,y3n];simp
 | some q =>
  obtain⟨n,lo,hi,c⟩:=q;have D:one (zs.drop k)=x0S n lo hi c 1 (zs.drop (k+1)):=(by rw[hd];simp only[one,hl]);rw[begun,y1I n lo hi c k 1]
  cases hc:x0S n lo hi c 1 (zs.drop (k+1))with
  | error m =>
   rw[hc]at D;rw[hr,x8G F D,y3n];simp[fin]
  | ok q =>
   obtain⟨m,d⟩:=q;rw[hc]at D;rw[hr,y7g D,y0p,List.drop_drop];simp[fin]
theorem x9O{xs zs:List Int}{k:Nat}{r:List Int×Int×Int}(G:k=zs.length)(hr:r=glue xs (dec k (zs.drop k))):r=(xs,0,0):=by
 subst G;rw[hr,List.drop_length,z4x];simp[glue]
theorem y8J{xs zs:List Int}{n k:Nat}{lo hi c:Int}{r:List Int×Int×Int}(G:k<zs.length)(D:lo<=zs.getD k 0)(Z:zs.getD k 0<=hi)(hr:r=fin xs zs (x0S (n+1) lo hi c k (zs.drop k))) :
  r=fin xs zs (x0S n 128 191 (c*64+zs.getD k 0%64) (k+1) (zs.drop (k+1))):=by
 rw[hr,z4C G,x0S,if_neg f6J]
theorem z1V{xs zs:List Int}{n k:Nat}{lo hi c:Int}{r:List Int×Int×Int}(G:k<zs.length)(h:zs.getD k 0<lo\/hi<zs.getD k 0)(hr:r=fin xs zs (x0S (n+1) lo hi c k (zs.drop k))):r=([],(k:Int),30):=by
 rw[hr,z4C G,x0S,if_pos h,fin]
theorem z1W{xs zs:List Int}{n k:Nat}{lo hi c:Int}{r:List Int×Int×Int}(G:k=zs.length)(hr:r=fin xs zs (x0S (n+1) lo hi c k (zs.drop k))):r=([],(k:Int),30):=by
 subst G;rw[hr,List.drop_length,x0S,fin]
theorem x4l{xs zs:List Int}{k:Nat}{lo hi c:Int}{r:List Int×Int×Int}(hr:r=fin xs zs (x0S 0 lo hi c k (zs.drop k))):r=glue (xs++[c]) (dec k (zs.drop k)):=by
 rw[hr,x0S,fin]
end Go.Proofs.YtbmckadcjdedcaaGreatDoor.Utf
namespace Go.Proofs.YtbmckadcjdedcaaGreatDoor
open Go.Proofs.Tryz
open Go.RowKit
theorem Rws.place{w:World}{v:Value}{xss:List (List Int)}(h:Rws w v xss)(F:0<xss.length) :
  ∃(b off cap:Nat) (us:List Value),v=.slice (some ⟨b,off,none⟩) xss.length cap/\xss.length<=cap/\cap<=9223372036854775807/\(∀i,i<xss.length->w.cell? ⟨b,off+i,none⟩=some (us.getD i undef))/\∀i,i<xss.length->Sk .i32 w (us.getD i undef) (xss.getD i []):=by
 obtain⟨us,D,Z,R⟩:=h;obtain⟨b,off,cap,M,r,q,A⟩:=Z.place f6J;rw[D]at M r A;exact⟨b,off,cap,us,M,r,q,A,R⟩
theorem z5k:JoinC:=by
 intro v E w hv S;obtain⟨r,hi,ae,d,f⟩:=info_parts Tryz.info21;rcases Nat.eq_zero_or_pos E.length with h0 | h0
 ·have hj:Spl.join E=[]:=v6Z;obtain⟨s,M,rfl,_,_⟩:=hv.shape;rw[hj,h0];go_enter func21,ntmps21;go_wp2;refine wp_loop_rounds 1 ?_;rw[rounds_succ];go_wp2;go_ret;exact⟨_,rfl,Ok.nil _ _ _ _,b0r⟩
 ·obtain⟨b,ag,M,j,rfl,aj,Q,I,hs⟩:=hv.place h0;have Y:=O I;have c:=O hs;go_enter func21,ntmps21;go_wp2;go_loopw[3,8] (fun q i wr=>∃(k:Nat),i=.int .i64 k/\k<=E.length/\Ok .i32 21 wr w.heap.size q (Spl.join (E.take k))/\Bw w wr) (fun _ i _=>E.length-(intOf i).toNat)
  case atStart=>exact⟨0,rfl,f6J,Ok.nil _ _ _ _,b0r⟩
  case round =>
   obtain⟨k,rfl,G,y,A⟩:=hrel;by_cases H:k<E.length
   ·have C:=O (Spl.y8l E k H);have z:=Spl.x4h E k;have t:=Spl.x4h E (k+1);have ai:=Spl.z3x E k
    have X:∀W,Bw w W->W.cell? ⟨b,ag+k,none⟩=some (j.getD k undef)/\Sk .i32 W (j.getD k undef) (E.getD k []):=by
     intro W hb;have D:=V Y k H;exact⟨by rw[hb.cell (x0a D)];exact D,(V c k H).below hb⟩
    have g:=O X;have ab:=A.size;rcases Nat.eq_zero_or_pos k with hk0 | hk0
    ·subst hk0;obtain⟨c1,J⟩:=V g wr A;rw[Nat.add_zero]at c1;have L:Hid (Spl.join (E.take 1)=E.getD 0 []):=(by grind);have o:=O J.1;have x:Spl.join (E.take 0)=[]:=(by simp[Spl.join]);rw[x]at y;generalize E.getD 0 []=N at *;rcases J.src with⟨D,Z⟩ | ⟨ad,u,Z,B⟩
     ·rw[Z]at c1;subst D;go_wp2_with(at_builtin;refine wpList_append_own_none rfl (.tmp 18) (.tmp 19) 40 rfl w.heap.size 21 r 1 underlying40 hi _ _ _ rfl y.row rfl ?_)
      go_roundw
      case rel=>exact⟨1,g2D,f6J,by rw[V L];exact y,A⟩
      case measure=>exact g7V
     ·rw[Z]at c1;go_wp2_with(at_builtin;refine wpList_append_own _ rfl (.tmp 18) (.tmp 19) 40 rfl w.heap.size 21 r (.int .i32 0) 1 4 underlying40 hi ae d f rfl e8Q _ _ _ rfl y.row ad N.length u (N.map (Value.int .i32)) rfl (by simp) B (x0R .i32 N) (by unfold maxLen;exact P8P) P8P f6J ?_);intro R w2 P m _;have F:Bw w w2:=x1G ab y.row A m;have K:Ok .i32 21 w2 w.heap.size R N:=Ok.of (V o) f6J P (by simp) (by simp);go_wp2
      go_roundw
      case rel=>exact⟨1,g2D,f6J,by rw[V L];exact K,F⟩
      case measure=>exact g7V
    ·have L:Hid (Spl.join (E.take (k+1))=(Spl.join (E.take k)++[46])++E.getD k []):=by have:=V C;rw[if_neg f6J]at this;exact this
     have n:(Spl.join (E.take k)).length+1+(E.getD k []).length<=1000000000:=by
      have D:=V L;rw[D]at t;simp only[List.length_append,List.length_cons,List.length_nil]at t;omega
     generalize Spl.join (E.take k)=acc at *;have am:=(V g wr A).1;generalize j.getD k undef=rv at *;go_wp2_with(at_builtin;refine wpList_append_own _ rfl (.tmp 15) (.tmp 16) 40 rfl w.heap.size 21 r (.int .i32 0) 1 4 underlying40 hi ae d f rfl e8Q _ _ _ rfl (y.row.alloc _) ⟨wr.heap.size,0,none⟩ 1 1 [.int .i32 46] rfl rfl (cell_one_new _ _ _) (x0J .i32 46) T7X f6J P8P ?_);intro R w2 P m _;have F:Bw w w2:=x0p ab y.row A m;have K:Ok .i32 21 w2 w.heap.size R (acc++[46]):=Ok.of (y.1.snoc (x0T f6J)) P8P P (by simp) (by simp);obtain⟨c1,J⟩:=V g w2 F;have o:=O J.1;have p:=F.size;generalize E.getD k []=N at *;rcases J.src with⟨D,Z⟩ | ⟨ad,u,Z,B⟩
     ·subst Z;subst D;go_wp2_with(at_builtin;refine wpList_append_own_none rfl (.tmp 18) (.tmp 19) 40 rfl w.heap.size 21 r 1 underlying40 hi _ _ _ rfl K.row rfl ?_)
      go_roundw
      case rel=>exact⟨k+1,g2D,f6J,by rw[V L,List.append_nil];exact K,F⟩
      case measure=>exact g7V
     ·subst Z;have r2:=K.row;have aq:(acc++[46]).length=acc.length+1:=(by simp);generalize hag:acc++[46]=af at *;go_wp2_with(at_builtin;refine wpList_append_own _ rfl (.tmp 18) (.tmp 19) 40 rfl w.heap.size 21 r (.int .i32 0) 1 4 underlying40 hi ae d f rfl e8Q _ _ _ rfl r2 ad N.length u (N.map (Value.int .i32)) rfl (by simp) B (x0R .i32 N) T7X f6J f6J ?_);intro v3 w3 T l _;have U:Bw w w3:=x1G p r2 F l;have a:Ok .i32 21 w3 w.heap.size v3 (af++N):=Ok.of (K.1.app (V o)) P8P T (by rw[List.length_append];exact f6J) (by simp);go_wp2
      go_roundw
      case rel=>exact⟨k+1,g2D,f6J,by rw[V L];exact a,U⟩
      case measure=>exact g7V
   ·obtain rfl:k=E.length:=f6J;rw[List.take_length]at y;go_wp2;go_ret;exact⟨_,rfl,y,A⟩
