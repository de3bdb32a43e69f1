/- Lemmas. -/
import Derived.Test.YtbmckadcjdedcaaGreatDoorK3
import Derived.Deep.QuietTactic
import Derived.BigQuiet
set_option maxHeartbeats 2000000
namespace Go.Proofs.YtbmckadcjdedcaaGreatDoor
section
variable{p:Prop}
theorem E1w(h:p:=by simpa using Z):p:=h
theorem g6j(h:p:=by unfold okc;exact f6J):p:=h
theorem w5G(h:p:=by generalize xs.drop f=p at *;go_wp2_with fail;refine(V Y).mono ?_;rintro e I ⟨u,rfl,a,E⟩;obtain⟨t,y,W,S,m4,m5⟩:=L.below E;have F:Bw w I:=x0b A E;have N:=E.size;obtain⟨n,o,D,_,_⟩:=a.sk.shape;subst D;go_wp2_with(at_builtin;refine wpList_append_own _ rfl (.tmp 27) (.tmp 32) 49 rfl w.heap.size 40 Q (.slice none 0 0) 1 24 underlying49 hj G J ae rfl e8P _ _ _ rfl (W.alloc _) ⟨I.heap.size,0,none⟩ 1 1 [.slice n p.length o] rfl rfl (cell_one_new _ _ _) (x3l _ _ _) T7X f6J P8P ?_);intro s w9 C R _;have ab:=Mu.snoc ag y W S m4 m5 a C R;have d:Bw w w9:=x0p f6J W F R;go_wp2;go_ret;exact⟨_,rfl,ab,d⟩):p:=h
theorem F0o(h:p:=by rw[List.length_drop];exact f6J):p:=h
theorem v6Y(h:p:=by rw[List.eq_nil_of_length_eq_zero h0];rfl):p:=h
end
end Go.Proofs.YtbmckadcjdedcaaGreatDoor
namespace Go.Proofs.YtbmckadcjdedcaaGreatDoor.Utf
open Go.Proofs.Tryz
abbrev okc(c:Int):Prop:=(0<=c/\c<=55295)\/(57344<=c/\c<=1114111)
def form(c:Int):List Int :=
 if c<128 then[c]
 else if c<2048 then[192+c / 64,128+c%64]
 else if c<65536 then[224+c / 4096,128+c / 64%64,128+c%64]
 else[240+c / 262144,128+c / 4096%64,128+c / 64%64,128+c%64]
def lead(b:Int):Option (Nat×Int×Int×Int) :=
 if b<128 then some (0,0,0,b)
 else if 194<=b/\b<=223 then some (1,128,191,b%32)
 else if b=224 then some (2,160,191,b%16)
 else if b=237 then some (2,128,159,b%16)
 else if 225<=b/\b<=239 then some (2,128,191,b%16)
 else if b=240 then some (3,144,191,b%8)
 else if 241<=b/\b<=243 then some (3,128,191,b%8)
 else if b=244 then some (3,128,143,b%8)
 else none
def x0D:Nat->Int->Int->Int->Nat->List Int->Except Nat (Nat×Int)
 | 0,_,_,c,k,_=>.ok (k,c)
 | _+1,_,_,_,k,[]=>.error k
 | n+1,lo,hi,c,k,b::r=>if b<lo\/hi<b then .error k else x0D n 128 191 (c*64+b%64) (k+1) r
def one:List Int->Except Nat (Nat×Int)
 | []=>.error 0
 | b::r=>match lead b with
  | none=>.error 0
  | some (n,lo,hi,c)=>x0D n lo hi c 1 r
def glue(acc:List Int)(r:List Int×Int×Int):List Int×Int×Int:=if r.2.2=0 then(acc++r.1,0,0)else([],r.2.1,r.2.2)
def decF:Nat->Nat->List Int->List Int×Int×Int
 | 0,_,_=>([],0,0)
 | f+1,p,zs=>if zs=[]then([],0,0)else match one zs with
  | .error k=>([],((p+k:Nat):Int),30)
  | .ok (n,c)=>glue [c] (decF f (p+n) (zs.drop n))
def dec(p:Nat)(zs:List Int):List Int×Int×Int:=decF zs.length p zs
def Byt(zs:List Int):Prop:=∀z∈zs,0<=z/\z<=255
theorem x4e{n lo hi c k r}{m d}(h:x0D n lo hi c k r=.ok (m,d)):m=k+n/\n<=r.length:=by
 induction n generalizing lo hi c k r with
 | zero=>simp[x0D]at h;simp[h.1]
 | succ n ih =>
  cases r with
  | nil=>simp[x0D]at h
  | cons b r =>
   simp only[x0D]at h;split at h
   ·simp at h
   ·have:=ih h;exact f4R
theorem y7p{n lo hi c k r}{m}(h:x0D n lo hi c k r=.error m):k<=m/\m<=k+r.length/\m<k+n:=by
 induction n generalizing lo hi c k r with
 | zero=>simp[x0D]at h
 | succ n ih =>
  cases r with
  | nil=>simp[x0D]at h;exact f4R
  | cons b r =>
   simp only[x0D]at h;split at h
   ·simp at h;exact f4R
   ·have:=ih h;exact f4R
theorem y4O{n lo hi c k r}{m d}(h:x0D n lo hi c k r=.ok (m,d)) t:x0D n lo hi c k (r++t)=.ok (m,d):=by
 induction n generalizing lo hi c k r with
 | zero=>simpa[x0D]using h
 | succ n ih =>
  cases r with
  | nil=>simp[x0D]at h
  | cons b r =>
   simp only[List.cons_append,x0D]at h ⊢;split at h
   ·simp at h
   ·grind
theorem x4W{zs n c}(h:one zs=.ok (n,c)):1<=n/\n<=zs.length:=by
 cases zs with
 | nil=>simp[one]at h
 | cons b r =>
  simp only[one]at h;split at h
  ·simp at h
  ·have:=x4e h;exact f4R
theorem z6n{zs k}(h:one zs=.error k):k<=zs.length/\k<=3:=by
 cases zs with
 | nil=>simp[one]at h;omega
 | cons b r =>
  simp only[one]at h;split at h
  ·simp at h;omega
  ·rename_i n lo hi c hl
   have:=y7p h
   have R:n<=3:=by
    unfold lead at hl
    repeat' split at hl
    all_goals simp_all
    all_goals omega
   exact f4R
theorem z2G{zs n c}(h:one zs=.ok (n,c)) t:one (zs++t)=.ok (n,c):=by
 cases zs with
 | nil=>simp[one]at h
 | cons b r =>
  simp only[List.cons_append,one]at h ⊢;split at h
  ·simp at h
  ·exact y4O h t
theorem z5S{b}(h:194<=b/\b<=223):lead b=some (1,128,191,b%32):=by
 unfold lead;rw[if_neg f6J,if_pos h]
theorem z5T{b}(h:224<=b/\b<=239):lead b=some (2,if b=224 then 160 else 128,if b=237 then 159 else 191,b%16):=by
 unfold lead;rw[if_neg f6J,if_neg f6J];by_cases Z:b=224
 ·subst Z;simp
 ·grind
theorem z5U{b}(h:240<=b/\b<=244):lead b=some (3,if b=240 then 144 else 128,if b=244 then 143 else 191,b%8):=by
 unfold lead;rw[if_neg f6J,if_neg f6J,if_neg f6J,if_neg f6J,if_neg f6J];by_cases Z:b=240
 ·subst Z;simp
 ·grind
theorem z2F{c}(h:okc c) t:one (form c++t)=.ok ((form c).length,c):=by
 unfold okc at h;unfold form;split
 ·simp[one,lead,x0D, *]
 ·split
  ·simp only[List.cons_append,List.nil_append,one,z5S (f6J:194<=192+c / 64/\192+c / 64<=223),x0D];rw[if_neg f6J];exact f4R
  ·split
   ·simp only[List.cons_append,List.nil_append,one,z5T (f6J:224<=224+c / 4096/\224+c / 4096<=239),x0D];rw[if_neg (by split<;>split<;>omega),if_neg f6J];exact f4R
   ·simp only[List.cons_append,List.nil_append,one,z5U (f6J:240<=240+c / 262144/\240+c / 262144<=244),x0D];rw[if_neg (by split<;>split<;>omega),if_neg f6J,if_neg f6J];exact f4R
theorem z1Q{zs n c}(Q:Byt zs)(h:one zs=.ok (n,c)):okc c/\zs.take n=form c:=by
 cases zs with
 | nil=>simp[one]at h
 | cons b r =>
  have A:=Q b M7L;by_cases Z:b<128
  ·simp[one,lead,Z,x0D]at h;obtain⟨rfl,rfl⟩:=h;refine⟨g6j,?_⟩;simp[form,Z]
  ·by_cases D:194<=b/\b<=223
   ·simp only[one,z5S D]at h
    match r,h with
    | [],h=>simp[x0D]at h
    | b1::r,h =>
     simp only[x0D]at h;split at h
     ·simp at h
     ·simp at h;obtain⟨rfl,rfl⟩:=h;refine⟨g6j,?_⟩;unfold form;rw[if_neg f6J,if_pos f6J];simp;omega
   ·by_cases R:224<=b/\b<=239
    ·simp only[one,z5T R]at h
     match r,h with
     | [],h=>simp[x0D]at h
     | [b1],h=>exact absurd (x4e h).2 M7L
     | b1::b2::r,h =>
      simp only[x0D]at h;by_cases H:b1<(if b=224 then 160 else 128)\/(if b=237 then 159 else 191)<b1
      ·rw[if_pos H]at h;simp at h
      ·rw[if_neg H]at h;split at h
       ·simp at h
       ·simp at h;obtain⟨rfl,rfl⟩:=h
        have G:(128<=b1/\b1<=191)/\(b=224->160<=b1)/\(b=237->b1<=159):=by
         split at H<;>split at H<;>omega
        refine⟨g6j,?_⟩;unfold form;rw[if_neg f6J,if_neg f6J,if_pos f6J];simp;omega
    ·by_cases z:240<=b/\b<=244
     ·simp only[one,z5U z]at h
      match r,h with
      | [],h=>simp[x0D]at h
      | [b1],h=>exact absurd (x4e h).2 M7L
      | [b1,b2],h=>exact absurd (x4e h).2 M7L
      | b1::b2::b3::r,h =>
       simp only[x0D]at h;by_cases H:b1<(if b=240 then 144 else 128)\/(if b=244 then 143 else 191)<b1
       ·rw[if_pos H]at h;simp at h
       ·rw[if_neg H]at h;split at h
        ·simp at h
        ·split at h
         ·simp at h
         ·simp at h;obtain⟨rfl,rfl⟩:=h
          have G:(128<=b1/\b1<=191)/\(b=240->144<=b1)/\(b=244->b1<=143):=by
           split at H<;>split at H<;>omega
          refine⟨g6j,?_⟩;unfold form;rw[if_neg f6J,if_neg f6J,if_neg f6J];simp;omega
     ·have:lead b=none:=by
       unfold lead;rw[if_neg Z,if_neg D,if_neg f6J,if_neg f6J,if_neg f6J,if_neg f6J,if_neg f6J,if_neg f6J]
      simp[one,this]at h
theorem x4j c:1<=(form c).length/\(form c).length<=4:=by
 unfold form;repeat' split
 all_goals simp
theorem x8Q{c}(h:okc c):Byt (form c):=by
 unfold okc at h;intro z o;unfold form at o
 repeat' split at o
 all_goals simp at o
 all_goals omega
end Go.Proofs.YtbmckadcjdedcaaGreatDoor.Utf
namespace Go.Proofs.YtbmckadcjdedcaaGreatDoor
open Go.Proofs.Tryz
open Go.RowKit
theorem x2T.mk'{w w' b c}(h:b=c)(Q:Bw w w'):x2T w c (.returned (.bool b)) w':=m9c
theorem y6n{xs ys:List Int}{k}(h:xs.take k=ys.take k)(J:k<xs.length)(hy:k<ys.length)(d:xs.getD k 0=ys.getD k 0):xs.take (k+1)=ys.take (k+1):=G3D
theorem x1x.mk'{w w' b c}(h:b=c)(Q:∃m,w'=w.drewN m):x1x w c (.returned (.bool b)) w':=m9c
theorem z9A v u xs ys w(N:Sk .i32 w v xs)(W:Sk .i32 w u ys) :
  Calls prog 39 #[v,u] w (x1x w (decide (xs=ys))):=by
 have j:=N.len;have r:=W.len;by_cases E:xs.length=ys.length
 ·rcases Nat.eq_zero_or_pos xs.length with h0 | h0
  ·have Y:∀l,(∃m,l=w.drewN m)->x1x w (decide (xs=ys)) (.returned (.bool true)) l:=fun l Q=>x1x.mk' (by
    have Z:=List.eq_nil_of_length_eq_zero h0;have D:=List.eq_nil_of_length_eq_zero (E ▸ h0)
    simp[Z,D]) Q
   exact F0V
  ·have HE:∀l,(∃m,l=w.drewN m)->xs.take xs.length=ys.take xs.length->x1x w (decide (xs=ys)) (.returned (.bool true)) l:=fun l Q K=>x1x.mk' (by
    rw[List.take_length,E,List.take_length]at K
    simp[K]) Q
   have f:∀l k,(∃m,l=w.drewN m)->¬xs.getD k 0=ys.getD k 0->x1x w (decide (xs=ys)) (.returned (.bool false)) l:=fun l k Q K=>x1x.mk' (by
    symm;rw[decide_eq_false_iff_not];intro h;subst h;exact K rfl) Q
   have c:∀wr,Bw w wr->Sk .i32 wr v xs/\Sk .i32 wr u ys:=fun wr Q=>⟨N.below Q,W.below Q⟩;obtain⟨b,P,M,rfl,q,F,T⟩:=N.place h0;obtain⟨z,d,J,rfl,p,I,S⟩:=W.place f6J
   have B:∀wr,Bw w wr->∀i,i<xs.length->wr.cell? ⟨b,P+i,none⟩=some (.int .i32 (xs.getD i 0))/\wr.cell? ⟨z,d+i,none⟩=some (.int .i32 (ys.getD i 0)):=g9f
   rw[<- E]at p ⊢;have s:=O N.1;have ab:=O W.1;have t:=O E;go_enter func39,ntmps39;go_wp2;go_loopw[5] (fun i wr=>∃k:Nat,i=.int .i64 k/\k<=xs.length/\xs.take k=ys.take k/\∃m,wr=w.drewN m) (fun i _=>xs.length-(intOf i).toNat)
   case atStart=>exact w7N
   case round =>
    obtain⟨k,rfl,G,o,A⟩:=hrel;by_cases H:k<xs.length
    ·obtain⟨C,U⟩:=B _ (x0k A) k H;have n:=O o
     cases he:(xs.getD k 0 != ys.getD k 0)with
     | true =>
      have a:=fun l Q=>f l k Q M2Y;generalize xs.getD k 0=x,ys.getD k 0=y at *;go_wp2;go_quiet(fail);go_wp2;go_ret;exact a _ (x4O A nq)
     | false =>
      have X:xs.getD k 0=ys.getD k 0:=M2Y;have L:=O (y6n (V n) H S6T X);generalize xs.getD k 0=x at *;go_wp2;go_quiet(fail);go_wp2
      go_roundw
      case rel=>exact⟨k+1,g2A,f6J,V L,x4O A nq⟩
      case measure=>exact g7V
    ·obtain rfl:k=xs.length:=f6J;have a:=HE _ A o;go_wp2;go_ret;exact a
 ·have Y:x1x w (decide (xs=ys)) (.returned (.bool false)) w:=x1x.mk' (by
   symm;rw[decide_eq_false_iff_not];intro h;subst h;exact E rfl) (x4g w)
  have ae:((xs.length:Int) != (ys.length:Int))=true:=P8P;obtain⟨R,M,rfl,_,_⟩:=N.shape;obtain⟨g,J,rfl,_,_⟩:=W.shape;go_enter func39,ntmps39;exact n0O
end Go.Proofs.YtbmckadcjdedcaaGreatDoor
namespace Go.Proofs.YtbmckadcjdedcaaGreatDoor.Utf
open Go.Proofs.Tryz
theorem y7w f g p zs(U:zs.length<=f)(C:zs.length<=g):decF f p zs=decF g p zs:=by
 induction f generalizing g p zs with
 | zero =>
  have:zs=[]:=List.eq_nil_of_length_eq_zero f6J;subst this;cases g<;>simp[decF]
 | succ f ih =>
  cases g with
  | zero=>grind
  | succ g =>
   simp only[decF];split
   ·rfl
   ·split
    ·rfl
    ·rename_i n c h1
     have:=x4W h1;rw[ih g (p+n) (zs.drop n) P8P P8P]
theorem y7z p:dec p []=([],0,0):=rfl
theorem x4N{zs k}(o:zs≠[])(h:one zs=.error k) p:dec p zs=([],((p+k:Nat):Int),30):=by
 cases zs with
 | nil=>exact absurd rfl o
 | cons b r=>simp only[dec,List.length_cons,decF,if_neg o,h]
theorem x4f{zs n c}(h:one zs=.ok (n,c)) p:dec p zs=glue [c] (dec (p+n) (zs.drop n)):=by
 have S:=x4W h
 cases zs with
 | nil=>simp[one]at h
 | cons b r =>
  have o:(b::r)≠[]:=M7M;simp only[dec,List.length_cons,decF,if_neg o,h];rw[y7w r.length ((b::r).drop n).length _ _ P8P (l0r _)]
theorem y0t a b r:glue a (glue b r)=glue (a++b) r:=by
 unfold glue;by_cases h:r.2.2=0
 ·simp[h]
 ·simp[h]
theorem y3E{r}(h:r.2.2=0->r.2.1=0)(Z:r.2.2≠0->r.1=[]):glue [] r=r:=by
 obtain⟨a,b,c⟩:=r;unfold glue;by_cases T:c=0
 ·simp[T]at *;simp[h]
 ·simp[T]at *;simp[Z]
theorem dec_shape m p zs(y:zs.length<=m):((dec p zs).2.2=0/\(dec p zs).2.1=0/\(dec p zs).1.length<=zs.length)\/∃q:Nat,dec p zs=([],(q:Int),30)/\p<=q/\q<=p+zs.length:=by
 induction m generalizing p zs with
 | zero =>
  have:zs=[]:=List.eq_nil_of_length_eq_zero f6J;subst this;exact .inl ⟨rfl,rfl,l0r _⟩
 | succ m ih =>
  by_cases o:zs=[]
  ·grind
  ·cases h:one zs with
   | error k=>exact .inr ⟨p+k,x4N o h p,f6J,by have:=z6n h;exact f6J⟩
   | ok nc =>
    obtain⟨n,c⟩:=nc;have S:=x4W h;rw[x4f h p];rcases ih (p+n) (zs.drop n) P8P with⟨h1,h2,h3⟩ | ⟨q,h1,h2,h3⟩
    ·left;simp only[glue,h1,if_true];refine⟨trivial,trivial,?_⟩;simp at h3 ⊢;omega
    ·right;refine⟨q,?_,f6J,by simp at h3;exact f6J⟩;rw[h1];simp[glue]
def encA(i:Nat):List Int->List Int×Int×Int
 | []=>([],0,0)
 | c::r=>if okc c then glue (form c) (encA (i+1) r)else([],(i:Int),31)
theorem enc_shape i xs:((encA i xs).2.2=0/\(encA i xs).2.1=0)\/∃q:Nat,encA i xs=([],(q:Int),31)/\i<=q/\q<i+xs.length:=by
 induction xs generalizing i with
 | nil=>exact .inl ⟨rfl,rfl⟩
 | cons c r ih =>
  simp only[encA];split
  ·rcases ih (i+1)with⟨Z,D⟩ | ⟨q,Z,D,R⟩
   ·left;simp[glue,Z]
   ·right;exact⟨q,by rw[Z];simp[glue],f6J,P8P⟩
  ·grind
theorem y1T i xs:(encA i xs).1.length<=4*xs.length:=by
 induction xs generalizing i with
 | nil=>simp[encA]
 | cons c r ih =>
  simp only[encA];split
  ·have:=ih (i+1);have:=x4j c;unfold glue;split
   ·exact f4R
   ·simp
  ·simp
theorem y7K i xs:Byt (encA i xs).1:=by
 induction xs generalizing i with
 | nil=>intro z hz;simp[encA]at hz
 | cons c r ih =>
  simp only[encA];split
  ·rename_i h
   unfold glue;split
   ·intro z hz;rcases List.mem_append.1 hz with hz | hz
    ·exact x8Q h z hz
    ·exact ih (i+1) z hz
   ·intro z hz;simp at hz
  ·intro z hz;simp at hz
theorem z5a i p xs(h:(encA i xs).2.2=0):dec p (encA i xs).1=(xs,0,0):=by
 induction xs generalizing i p with
 | nil=>rfl
 | cons c r ih =>
  simp only[encA]at h ⊢;by_cases T:okc c
  ·rw[if_pos T]at h ⊢
   have u:(encA (i+1) r).2.2=0:=by
    unfold glue at h;by_cases Z:(encA (i+1) r).2.2=0
    ·exact Z
    ·rw[if_neg Z]at h;exact h
   simp only[glue,u,if_true];rw[x4f (z2F T _),List.drop_left' rfl,ih (i+1) _ u];simp[glue]
  ·rw[if_neg T]at h;simp at h
theorem y7L m i p zs(y:zs.length<=m)(Q:Byt zs)(h:(dec p zs).2.2=0):encA i (dec p zs).1=(zs,0,0):=by
 induction m generalizing i p zs with
 | zero =>
  have:zs=[]:=List.eq_nil_of_length_eq_zero f6J;subst this;rfl
 | succ m ih =>
  by_cases o:zs=[]
  ·subst o;rfl
  ·cases h1:one zs with
   | error k=>rw[x4N o h1]at h;simp at h
   | ok nc =>
    obtain⟨n,c⟩:=nc;have S:=x4W h1;obtain⟨T,U⟩:=z1Q Q h1;rw[x4f h1]at h ⊢
    have u:(dec (p+n) (zs.drop n)).2.2=0:=by
     unfold glue at h;by_cases Z:(dec (p+n) (zs.drop n)).2.2=0
     ·exact Z
     ·rw[if_neg Z]at h;exact h
    simp only[glue,u,if_true,List.singleton_append,encA,if_pos T];rw[ih (i+1) (p+n) (zs.drop n) P8P (fun z o=>Q z (List.mem_of_mem_drop o)) u];simp[<- U]
theorem y7x m p q s t(y:s.length<=m)(X:(dec p s).2.2=0)(K:(dec q t).2.2=0):dec p (s++t)=((dec p s).1++(dec q t).1,0,0):=by
 have shift:∀(m p q:Nat) (t:List Int),t.length<=m->(dec q t).2.2=0->dec p t=((dec q t).1,0,0):=by
  intro m
  induction m with
  | zero =>
   intro p q t y _;have:t=[]:=List.eq_nil_of_length_eq_zero f6J;subst this;rfl
  | succ m ih =>
   intro p q t y h;by_cases o:t=[]
   ·subst o;rfl
   ·cases h1:one t with
    | error k=>rw[x4N o h1]at h;simp at h
    | ok nc =>
     obtain⟨n,c⟩:=nc;have S:=x4W h1;rw[x4f h1]at h ⊢;rw[x4f h1]
     have u:(dec (q+n) (t.drop n)).2.2=0:=by
      unfold glue at h;by_cases Z:(dec (q+n) (t.drop n)).2.2=0
      ·exact Z
      ·rw[if_neg Z]at h;exact h
     rw[ih (p+n) (q+n) (t.drop n) P8P u];simp[glue,u]
 induction m generalizing p s with
 | zero =>
  have:s=[]:=List.eq_nil_of_length_eq_zero f6J;subst this;simpa[y7z]using shift t.length p q t (l0r _) K
 | succ m ih =>
  by_cases o:s=[]
  ·grind
  ·cases h1:one s with
   | error k=>rw[x4N o h1]at X;simp at X
   | ok nc =>
    obtain⟨n,c⟩:=nc;have S:=x4W h1;rw[x4f h1]at X
    have u:(dec (p+n) (s.drop n)).2.2=0:=by
     unfold glue at X;by_cases Z:(dec (p+n) (s.drop n)).2.2=0
     ·exact Z
     ·rw[if_neg Z]at X;exact X
    rw[x4f (z2G h1 t),List.drop_append_of_le_length S.2,ih (p+n) (s.drop n) P8P u,x4f h1];simp[glue,u]
end Go.Proofs.YtbmckadcjdedcaaGreatDoor.Utf
namespace Go.Proofs.YtbmckadcjdedcaaGreatDoor.Spl
open Go.Proofs.Tryz
def x0C:List Int->List Int->List (List Int)
 | p,[]=>[p]
 | p,c::r=>if c=46 then p::x0C [] r else x0C (p++[c]) r
def split(xs:List Int):List (List Int):=x0C [] xs
def join:List (List Int)->List Int
 | []=>[]
 | [p]=>p
 | p::q::r=>p++46::join (q::r)
theorem z0p p xs:x0C p xs≠[]:=by
 induction xs generalizing p with
 | nil=>simp[x0C]
 | cons c r ih =>
  simp only[x0C];split
  ·simp
  ·exact ih _
theorem join_cons p{l}(h:l≠[]):join (p::l)=p++46::join l:=by
 cases l with
 | nil=>exact absurd rfl h
 | cons q r=>rfl
theorem y6h p xs:(x0C p xs).length<=xs.length+1:=by
 induction xs generalizing p with
 | nil=>simp[x0C]
 | cons c r ih =>
  simp only[x0C];split
  ·have:=ih [];exact f4R
  ·have:=ih (p++[c]);exact f4R
theorem splitA_mem p xs l(S:l∈x0C p xs):∀z∈l,z∈p\/z∈xs:=by
 induction xs generalizing p with
 | nil=>simp[x0C]at S;subst S;exact fun z o=>.inl o
 | cons c r ih =>
  simp only[x0C]at S;split at S
  ·grind
  ·grind
theorem y8I(l:List (List Int)) k(G:k<l.length):join (l.take (k+1))=(if k=0 then[]else join (l.take k)++[46])++l.getD k []:=by
 induction l generalizing k with
 | nil=>simp at G
 | cons p l ih =>
  cases k with
  | zero=>simp[join]
  | succ k =>
   simp only[List.length_cons]at G;have A:k<l.length:=f6J
   have F:l.take (k+1)≠[]:=by
    intro h;have:=congrArg List.length h;rw[List.length_take,List.length_nil]at this;omega
   have Z:(p::l).take (k+1+1)=p::l.take (k+1):=rfl;have C:(p::l).getD (k+1) []=l.getD k []:=rfl;rw[Z,join_cons p F,ih k A,C]
   cases k with
   | zero=>simp[join]
   | succ k =>
    have H:l.take (k+1)≠[]:=f0k;have D:(p::l).take (k+1+1)=p::l.take (k+1):=rfl;rw[D,join_cons p H];simp
def total(l:List (List Int)):Nat:=(l.map List.length).sum
theorem x8Z l:(join l).length<=total l+l.length:=by
 induction l with
 | nil=>simp[join,total]
 | cons p l ih =>
  cases l with
  | nil=>simp[join,total]
  | cons q r =>
   rw[join_cons p M7K];simp only[total,List.map_cons,List.sum_cons,List.length_append,List.length_cons]at ih ⊢;omega
theorem y6p l k:total (l.take k)<=total l:=by
 induction l generalizing k with
 | nil=>simp
 | cons p l ih =>
  cases k with
  | zero=>simp[total]
  | succ k =>
   have:=ih k;simp only[List.take_succ_cons,total,List.map_cons,List.sum_cons]at this ⊢;omega
theorem x4m l k:(join (l.take k)).length<=total l+l.length:=by
 have Z:=x8Z (l.take k);have D:=y6p l k;rw[List.length_take]at Z;omega
theorem z3Y l k:(l.getD k []).length<=total l:=by
 induction l generalizing k with
 | nil=>simp
 | cons p l ih =>
  cases k with
  | zero=>simp[total]
  | succ k =>
   have:=ih k;simp only[total,List.map_cons,List.sum_cons]at this ⊢;have e:(p::l).getD (k+1) []=l.getD k []:=rfl;rw[e];omega
theorem y2U p xs:total (x0C p xs)<=p.length+xs.length:=by
 induction xs generalizing p with
 | nil=>simp[x0C,total]
 | cons c r ih =>
  simp only[x0C];split
  ·have:=ih [];simp only[total,List.map_cons,List.sum_cons,List.length_cons,List.length_nil]at this ⊢;omega
  ·grind
end Go.Proofs.YtbmckadcjdedcaaGreatDoor.Spl
namespace Go.Proofs.YtbmckadcjdedcaaGreatDoor
open Go.Proofs.Tryz
open Go.RowKit
theorem x1j{zs}(h:Utf.Byt zs):Fit .u8 zs:=fun z o=>x8v (h z o)
def allb(p:Int->Bool)(xs:List Int):Bool:=xs.all p
def okb(c:Int):Bool:=decide (Utf.okc c)
def ascb(c:Int):Bool:=decide (0<=c/\c<=127)
theorem Sk.src{K w v zs}(h:Sk K w v zs):(zs=[]/\v=.slice none 0 0) \/
  ∃q cap,v=.slice (some q) zs.length cap/\∀j u,(zs.map (Value.int K))[j]?=some u->w.cell? (q.add j)=some u:=by
 rcases h.2.src with⟨Z,D⟩ | ⟨q,cap,Z,D⟩
 ·exact .inl ⟨E1w,D⟩
 ·grind
def x2v(w:World)(r:List Int×Int×Int)(e:Ending)(w':World):Prop :=
 e=.returned (.tuple #[.string (strOfNums r.1),.int .i64 r.2.1,.int .i64 r.2.2])/\Below w.heap.size w w'
theorem x2v.mk{w w' r a b c}(h:r=(a,b,c))(Q:Bw w w'):x2v w r (.returned (.tuple #[.string (strOfNums a),.int .i64 b,.int .i64 c])) w':=m9c
theorem x2v.no{w w' r b c}(h:r=([],b,c))(Q:Bw w w'):x2v w r (.returned (.tuple #[.string ⟨#[]⟩,.int .i64 b,.int .i64 c])) w':=x2v.mk h Q
theorem x0T{xs:List Int}{k}(G:k<xs.length):xs.drop k=xs.getD k 0::xs.drop (k+1):=f0h
theorem strOfNums_size l:(strOfNums l).size=l.length:=by simp[strOfNums,ByteArray.size]
def cnt(r:List Int×Int×Int):Int:=if r.2.2=0 then(r.1.length:Int)else -1
theorem x0u s:Utf.Byt (nums s):=w7g
def x3I(w:World)(r:List Int×Int×Int)(e:Ending)(w':World):Prop :=
 ∃v,e=.returned (.tuple #[v,.int .i64 r.2.1,.int .i64 r.2.2])/\Ok .i32 21 w' w.heap.size v r.1/\Below w.heap.size w w'
theorem x3I.err{w w' r p}(h:r=([],p,30))(Q:Bw w w'):x3I w r (.returned (.tuple #[.slice none 0 0,.int .i64 p,.int .i64 30])) w':=by
 subst h;exact⟨_,rfl,Ok.nil _ _ _ _,Q⟩
theorem x3I.end{w w' r v xs}(h:r=(xs,0,0))(N:Ok .i32 21 w' w.heap.size v xs)(Q:Bw w w'):x3I w r (.returned (.tuple #[v,.int .i64 0,.int .i64 0])) w':=by
 subst h;exact⟨_,rfl,N,Q⟩
theorem y0J s q:nums (s.extract 0 q)=(nums s).take q:=by
 rw[nums,nums,ByteArray.data_extract,Array.toList_extract,List.map_take];simp
theorem y6l s:strOfNums (nums s)=s:=by
 apply ByteArray.ext;apply Array.toList_inj.1;rw[strOfNums,nums,List.map_map]
 conv=>rhs;rw[<- List.map_id s.data.toList]
 apply List.map_congr_left;intro x _;simp
theorem y5C{a}(h:Utf.Byt a):nums (strOfNums a)=a:=by
 rw[nums,strOfNums,List.map_map]
 conv=>rhs;rw[<- List.map_id a]
 apply List.map_congr_left;intro x J;have:=h x J;simp only[Function.comp,id,UInt8.toNat_ofNat'];omega
def Rws(w:World)(v:Value)(xss:List (List Int)):Prop :=
 ∃us:List Value,us.length=xss.length/\Sv w v us/\∀i,i<xss.length->Sk .i32 w (us.getD i undef) (xss.getD i [])
theorem Rws.shape{w v xss}(h:Rws w v xss):∃ao cap,v=.slice ao xss.length cap/\xss.length<=cap/\cap<=9223372036854775807:=by
 obtain⟨j,Z,D,R⟩:=h;rw[<- Z];exact D.shape
def DecC:Prop:=∀(s:ByteArray) (w:World),s.size<=1000000000->Calls prog 13 #[.string s] w (x3I w (Utf.dec 0 (nums s)))
def EncC:Prop:=∀(v:Value) (xs:List Int) (w:World),Sk .i32 w v xs->xs.length<=35184372087808->Calls prog 17 #[v] w (x2v w (Utf.encA 0 xs))
theorem Tryz.infoY40:(prog.info? 40).map (fun i=>(i.zero,i.size,i.bytes))=some (some (.slice none 0 0),1,24):=f4x
theorem x2K{w:World}{B B' n m e e' v u xs ys}(F:e≠e')(h:w.ownsRow B e 1 v n xs)(k:w.ownsRow B' e' 1 u m ys):v.ownBlock=none\/v.ownBlock≠u.ownBlock:=by
 rcases h.2 with⟨rfl,_⟩ | ⟨g,M,t,rfl,C,Y,_⟩
 ·exact U3z
 ·right;rcases k.2 with⟨rfl,_⟩ | ⟨S,J,H,rfl,I,G,_⟩
  ·exact V3H
  ·intro e;simp only[Value.ownBlock,Option.some.injEq]at e;subst e;rw[Y]at G;simp at G;exact F G.2
theorem x3l ao n cap:∀u∈[Value.slice ao n cap],u.oneCell'=true:=e8m
def y3a(w:World)(xs:List Int)(e:Ending)(w':World):Prop:=∃v,e=.returned v/\Ok .i32 21 w' w.heap.size v xs/\Below w.heap.size w w'
def JoinC:Prop:=∀(v:Value) (xss:List (List Int)) (w:World),Rws w v xss->Spl.total xss+xss.length<=1000000000->Calls prog 21 #[v] w (y3a w (Spl.join xss))
def Mu(w:World)(B U:Nat)(v:Value)(xss:List (List Int)):Prop :=
 ∃us:List Value,us.length=xss.length/\w.ownsRow B 40 1 v xss.length us/\(∀i,i<xss.length->Ok .i32 21 w B (us.getD i undef) (xss.getD i [])) /\
  (∀i,i<xss.length->∀k,(us.getD i undef).ownBlock=some k->k<U)/\∀i j k,i<j->j<xss.length->(us.getD i undef).ownBlock=some k->(us.getD j undef).ownBlock≠some k
theorem Mu.nil w B U:Mu w B U (.slice none 0 0) []:=⟨[],rfl,World.ownsRow_nil _ _ _ _,fun i hi=>v5G,fun i hi=>v5G,fun i j k _ K=>by simp at K⟩
theorem Mu.snoc{w w2 B U v v' u xss}{xs o us}(E:B<=U)(Y:us.length=xss.length)(L:w.ownsRow B 40 1 v xss.length us)
  (D:∀i,i<xss.length->Ok .i32 21 w B (us.getD i undef) (xss.getD i [])) (H:∀i,i<xss.length->∀k,(us.getD i undef).ownBlock=some k->k<U)
  (N:∀i j k,i<j->j<xss.length->(us.getD i undef).ownBlock=some k->(us.getD j undef).ownBlock≠some k)
  (W:Ok .i32 21 w U u xs) (m:w2.ownsRow B 40 1 v' (xss.length+1) (us++[u])) (C:(w.alloc o).grownBy w2 v.ownBlock):Mu w2 B w2.heap.size v' (xss++[xs]):=by
 have a:w.heap.size<=w2.heap.size:=(by have:=C.size;simp at this;exact f6J);have G:∀u l,Ok .i32 21 w B u l->Ok .i32 21 w2 B u l:=fun u l h=>⟨h.1,h.2.1,(h.2.2.alloc o).kept C (x2K e8N h.2.2 L)⟩;have P:∀i,i<xss.length->(us++[u]).getD i undef=us.getD i undef:=fun i h=>(by simp[List.getD,List.getElem?_append_left (f6J:i<us.length)]);have f:(us++[u]).getD xss.length undef=u:=(by grind);refine⟨us++[u],by simp[Y],by simpa using m,fun i hi=>?_,fun i hi k Q=>?_,fun i j k p K Q=>?_⟩
 ·simp only[List.length_append,List.length_cons,List.length_nil]at hi;rcases Nat.lt_or_ge i xss.length with h | h
  ·grind
  ·obtain rfl:i=xss.length:=f6J;have J:(xss++[xs]).getD xss.length []=xs:=(by grind);rw[f,J];exact G _ _ (W.lower E)
 ·simp only[List.length_append,List.length_cons,List.length_nil]at hi;rcases Nat.lt_or_ge i xss.length with h | h
  ·rw[P i h]at Q;have:=((D i h).row.lt k Q).2;omega
  ·obtain rfl:i=xss.length:=f6J;rw[f]at Q;have:=(W.row.lt k Q).2;omega
 ·simp only[List.length_append,List.length_cons,List.length_nil]at K;rw[P i f6J]at Q;rcases Nat.lt_or_ge j xss.length with h | h
  ·grind
  ·obtain rfl:j=xss.length:=f6J;rw[f];intro F;have I:=H i f6J k Q;have A:=(W.row.lt k F).1;omega
def z0Y(w:World)(xss:List (List Int))(e:Ending)(w':World):Prop:=∃v,e=.returned v/\Mu w' w.heap.size w'.heap.size v xss/\Below w.heap.size w w'
theorem y2Q{xs p:List Int}{k}(G:k<xs.length):Spl.x0C p (xs.drop k)=if xs.getD k 0=46 then p::Spl.x0C [] (xs.drop (k+1))else Spl.x0C (p++[xs.getD k 0]) (xs.drop (k+1)):=by
 rw[x0T G];rfl
def z4m(w:World)(xs:List Int)(e:Ending)(w':World):Prop:=∃v,e=.returned v/\Ok .i32 21 w' w.heap.size v xs/\Below w.heap.size w w'
theorem x4M v xs w(N:Sk .i32 w v xs)(S:xs.length<=1000000000) :
  Calls prog 103 #[v] w (z4m w xs):=by
 obtain⟨r,hi,p,i,f⟩:=info_parts Tryz.info21;have l:=O N.1;have y:=Ok.nil .i32 21 w w.heap.size;rcases N.src with⟨Z,D⟩ | ⟨q,A,D,g⟩
 ·subst Z;subst D;go_enter func103,ntmps103;go_wp2_with(at_builtin;refine wpList_append_own_none rfl (.const (.slice none 0 0)) (.tmp 3) 40 rfl w.heap.size 21 r 1 underlying40 hi _ _ _ rfl y.row rfl ?_);go_ret;exact⟨_,rfl,y,b0r⟩
 ·subst D;go_enter func103,ntmps103;go_wp2_with(at_builtin;refine wpList_append_own _ rfl (.const (.slice none 0 0)) (.tmp 3) 40 rfl w.heap.size 21 r (.int .i32 0) 1 4 underlying40 hi p i f rfl e8P _ _ _ rfl y.row q xs.length A (xs.map (Value.int .i32)) rfl M7M g (x0U .i32 xs) (by unfold maxLen;exact P8P) P8P f6J ?_);intro U d m M _;have F:Bw w d:=x1H (l0r _) y.row (b0r) M;have K:Ok .i32 21 d w.heap.size U xs:=Ok.of (V l) f6J m M7M M7M;go_wp2;go_ret;exact⟨_,rfl,K,F⟩
theorem Mu.below{w w' B U v xss}(h:Mu w B U v xss)(Q:Bw w w'):Mu w' B U v xss:=by
 obtain⟨j,Z,D,R,z,H⟩:=h;refine⟨j,Z,D.kept (row:=none) ⟨Q.os,Q.tape,Q.output,Q.size,fun k G _=>Q.block k G⟩ ?_,fun i hi=>(R i hi).below Q,z,H⟩
 exact W0k
theorem y5K{xs:List Int}{f k}(U:f<=k)(G:k<xs.length):(xs.drop f).take (k+1-f)=(xs.drop f).take (k-f)++[xs.getD k 0]:=by
 rw[(f6J:k+1-f=(k-f)+1),List.take_add_one,List.getElem?_drop,(f6J:f+(k-f)=k)];exact w7Z
theorem z3e v xs w(hv:Sk .i32 w v xs)(hl:xs.length<=1000000000):Calls prog 63 #[v] w (z0Y w (Spl.split xs)):=by
 obtain⟨Q,hj,G,J,ae⟩:=info_parts Tryz.infoY40;rcases Nat.eq_zero_or_pos xs.length with h0 | h0
 ·have hs:Spl.split xs=[[]]:=v6Y;have g:xs=[]:=List.eq_nil_of_length_eq_zero h0;have aC:w.ownsRow w.heap.size 40 1 (.slice none 0 0) 0 []:=World.ownsRow_nil _ _ _ _;have r:=O hv;obtain⟨ao,M,rfl,_,_⟩:=hv.shape;rw[hs,h0];rw[h0,g]at r;have Y:=fun ao' (h:Sk .i32 w (.slice ao' 0 M) [])=>O (x4M _ _ w h (by simp))
  cases ao with
  | none =>
   have HC:=Y _ (V r);go_enter func63,ntmps63;go_wp2;refine wp_loop_rounds 1 ?_;rw[rounds_succ];go_wp2_with fail;refine(V HC).mono ?_;rintro e I ⟨u,rfl,a,E⟩;have N:=E.size;have aw:Mu I w.heap.size w.heap.size (.slice none 0 0) []:=Mu.nil _ _ _;have K:I.ownsRow w.heap.size 40 1 (.slice none 0 0) 0 []:=World.ownsRow_nil _ _ _ _;obtain⟨n,o,D,_,_⟩:=a.sk.shape;subst D;go_wp2_with(at_builtin;refine wpList_append_own _ rfl (.tmp 27) (.tmp 32) 49 rfl w.heap.size 40 Q (.slice none 0 0) 1 24 underlying49 hj G J ae rfl e8P _ _ _ rfl (K.alloc _) ⟨I.heap.size,0,none⟩ 1 1 [.slice n 0 o] rfl rfl (cell_one_new _ _ _) (x3l _ _ _) T7X f6J P8P ?_);intro s w9 C R _;have ab:=Mu.snoc (xss:=[]) (us:=[]) (U:=w.heap.size) (l0r _) rfl K (fun i hi=>v5G) (fun i hi=>v5G) (fun i j k _ hj=>by simp at hj) a C R;have d:Bw w w9:=x0p N K E R;go_wp2;go_ret;exact⟨_,rfl,ab,d⟩
  | some ad =>
   have HC:=Y _ (V r);go_enter func63,ntmps63;go_wp2;refine wp_loop_rounds 1 ?_;rw[rounds_succ];go_wp2_with fail;refine(V HC).mono ?_;rintro e I ⟨u,rfl,a,E⟩;have N:=E.size;have aw:Mu I w.heap.size w.heap.size (.slice none 0 0) []:=Mu.nil _ _ _;have K:I.ownsRow w.heap.size 40 1 (.slice none 0 0) 0 []:=World.ownsRow_nil _ _ _ _;obtain⟨n,o,D,_,_⟩:=a.sk.shape;subst D;go_wp2_with(at_builtin;refine wpList_append_own _ rfl (.tmp 27) (.tmp 32) 49 rfl w.heap.size 40 Q (.slice none 0 0) 1 24 underlying49 hj G J ae rfl e8P _ _ _ rfl (K.alloc _) ⟨I.heap.size,0,none⟩ 1 1 [.slice n 0 o] rfl rfl (cell_one_new _ _ _) (x3l _ _ _) T7X f6J P8P ?_);intro s w9 C R _;have ab:=Mu.snoc (xss:=[]) (us:=[]) (U:=w.heap.size) (l0r _) rfl K (fun i hi=>v5G) (fun i hi=>v5G) (fun i j k _ hj=>by simp at hj) a C R;have d:Bw w w9:=x0p N K E R;go_wp2;go_ret;exact⟨_,rfl,ab,d⟩
 ·obtain⟨b,az,M,rfl,q,aA,hc⟩:=hv.place h0;have r:=O hv
  have HC:Hid (∀z,Bw w z->∀i,i<xs.length->z.cell? ⟨b,az+i,none⟩=some (.int .i32 (xs.getD i 0))):=by
   intro z hb i hi;rw[hb.cell (x0a (hc i hi))];exact hc i hi
  have aq:=O hv.1;generalize hsp:Spl.split xs=aj at *;have x:=O hsp;go_enter func63,ntmps63;go_wp2;go_loopw[3,4,9] (fun vl vf i wr=>∃(k f:Nat) (ls:List (List Int)),i=.int .i64 k/\k<=xs.length/\vf=.int .i64 f/\f<=k/\Mu wr w.heap.size wr.heap.size vl ls/\w.heap.size<=wr.heap.size/\ls.length<=k/\Bw w wr/\aj=ls++Spl.x0C ((xs.drop f).take (k-f)) (xs.drop k)) (fun _ _ i _=>xs.length-(intOf i).toNat)
  case atStart=>exact⟨0,0,[],rfl,f6J,rfl,f6J,Mu.nil _ _ _,l0r _,by simp,b0r,by rw[<- V x];rfl⟩
  case round =>
   obtain⟨k,f,ls,rfl,hk,rfl,ar,L,ag,aB,A,B⟩:=hrel;by_cases H:k<xs.length
   ·have X:=V HC _ A k H;have aD:=(V aq).i32at k;rw[y2Q H]at B;have HR:=O B;have ai:¬M=f:=f6J;by_cases af:xs.getD k 0=46
    ·have T:(xs.getD k 0==46)=true:=by rw[af];rfl
     have Z:Hid (aj=(ls++[(xs.drop f).take (k-f)])++Spl.x0C ((xs.drop (k+1)).take (k+1-(k+1))) (xs.drop (k+1))):=by
      have:=V HR;rw[if_pos af]at this;rw[Nat.sub_self,List.take_zero];simpa[Hid]using this
     have hcut:=((V r).below A).cut (l:=f) (h:=k) (m:=M) f6J f6J f6J f6J;simp only[sliced,ai,if_false,Option.map_some,Nat.mul_one,addr_add]at hcut;have am:((xs.drop f).take (k-f)).length<=1000000000:=(by rw[List.length_take,List.length_drop];exact f6J);have Y:=O (x4M _ _ wr hcut am);generalize(xs.drop f).take (k-f)=p,xs.getD k 0=c at *;go_wp2_with fail;refine(V Y).mono ?_;rintro e I ⟨u,rfl,a,E⟩;obtain⟨t,y,W,S,m4,m5⟩:=L.below E;have F:Bw w I:=x0b A E;have N:=E.size;obtain⟨n,o,D,_,_⟩:=a.sk.shape;subst D;go_wp2_with(at_builtin;refine wpList_append_own _ rfl (.tmp 16) (.tmp 22) 49 rfl w.heap.size 40 Q (.slice none 0 0) 1 24 underlying49 hj G J ae rfl e8P _ _ _ rfl (W.alloc _) ⟨I.heap.size,0,none⟩ 1 1 [.slice n p.length o] rfl rfl (cell_one_new _ _ _) (x3l _ _ _) T7X f6J P8P ?_);intro s w9 C R _;have ab:=Mu.snoc ag y W S m4 m5 a C R;have d:Bw w w9:=x0p f6J W F R;have ay:=d.size;go_wp2
     go_roundw
     case rel=>exact⟨k+1,k+1,ls++[p],g2D,f6J,g2D,f6J,ab,ay,P8P,d,V Z⟩
     case measure=>exact g7Y
    ·have T:(xs.getD k 0==46)=false:=by simpa using af
     have Z:Hid (aj=ls++Spl.x0C ((xs.drop f).take (k+1-f)) (xs.drop (k+1))):=by
      have:=V HR;rw[if_neg af]at this;rw[y5K ar H];exact this
     generalize xs.getD k 0=c at *;go_wp2
     go_roundw
     case rel=>exact⟨k+1,f,ls,g2D,f6J,rfl,f6J,L,ag,f6J,A,V Z⟩
     case measure=>exact g7Y
   ·obtain rfl:k=xs.length:=by omega
    have P:aj=ls++[xs.drop f]:=by
     rw[B,List.drop_length,List.take_of_length_le F0o];rfl
    subst P;have hcut:=((V r).below A).cut (l:=f) (h:=xs.length) (m:=M) f6J f6J f6J f6J;rw[List.take_of_length_le F0o]at hcut;have am:(xs.drop f).length<=1000000000:=F0o;have Y:=O (x4M _ _ wr hcut am);by_cases ai:M=f
    ·simp only[sliced,ai,if_true,Nat.sub_self]at Y;exact w5G
    ·simp only[sliced,ai,if_false,Option.map_some,Nat.mul_one,addr_add]at Y;exact w5G
theorem Mu.rwsS{w B U v xss}(h:Mu w B U v xss)(S:xss.length<=1000000001):Rws w v xss:=by
 obtain⟨j,Z,D,R,z,H⟩:=h;exact⟨j,Z,Ow.sv (e:=40) (B:=B) ⟨f6J,by rw[Z];exact D⟩,fun i hi=>(R i hi).sk⟩
end Go.Proofs.YtbmckadcjdedcaaGreatDoor
namespace Go.Proofs.YtbmckadcjdedcaaGreatDoor.Utf
open Go.Proofs.Tryz
theorem y1N n lo hi c p k r:x0D n lo hi c (p+k) r=match x0D n lo hi c k r with | .error m=>.error (p+m) | .ok (m,d)=>.ok (p+m,d):=by
 induction n generalizing lo hi c k r with
 | zero=>rfl
 | succ n ih =>
  cases r with
  | nil=>rfl
  | cons b r =>
   simp only[x0D];split
   ·rfl
   ·rw[Nat.add_assoc];exact ih _ _ _ _ _
def fin(xs zs:List Int):Except Nat (Nat×Int)->List Int×Int×Int
 | .error m=>([],(m:Int),30)
 | .ok (m,c)=>glue (xs++[c]) (dec m (zs.drop m))
def begun(xs zs:List Int)(k:Nat):Option (Nat×Int×Int×Int)->List Int×Int×Int
 | none=>([],(k:Int),30)
 | some (n,lo,hi,c)=>fin xs zs (x0D n lo hi c (k+1) (zs.drop (k+1)))
theorem y3D xs p:glue xs ([],p,30)=([],p,30):=by simp[glue]
theorem z5f{zs:List Int}{k}(G:k<zs.length):zs.drop k=zs.getD k 0::zs.drop (k+1):=f0h
theorem x7P{xs zs k r}(G:k<zs.length)(hr:r=glue xs (dec k (zs.drop k))):r=begun xs zs k (lead (zs.getD k 0)):=by
 have hd:=z5f G;have F:zs.drop k≠[]:=by rw[hd];exact M7K
 cases hl:lead (zs.getD k 0)with
 | none =>
  have Z:one (zs.drop k)=.error 0:=(by rw[hd];simp only[one,hl]);rw[hr,x4N F Z,begun,y3D];simp
 | some q =>
  obtain⟨n,lo,hi,c⟩:=q;have Z:one (zs.drop k)=x0D n lo hi c 1 (zs.drop (k+1)):=(by rw[hd];simp only[one,hl]);rw[begun,y1N n lo hi c k 1]
  cases hc:x0D n lo hi c 1 (zs.drop (k+1))with
  | error m =>
   rw[hc]at Z;rw[hr,x4N F Z,y3D];simp[fin]
  | ok q =>
   obtain⟨m,d⟩:=q;rw[hc]at Z;rw[hr,x4f Z,y0t,List.drop_drop];simp[fin]
theorem x9S{xs zs:List Int}{k r}(G:k=zs.length)(hr:r=glue xs (dec k (zs.drop k))):r=(xs,0,0):=by
 subst G;rw[hr,List.drop_length,y7z];simp[glue]
theorem y9f{xs zs n k lo hi c r}(G:k<zs.length)(Z:lo<=zs.getD k 0)(D:zs.getD k 0<=hi)(hr:r=fin xs zs (x0D (n+1) lo hi c k (zs.drop k))) :
  r=fin xs zs (x0D n 128 191 (c*64+zs.getD k 0%64) (k+1) (zs.drop (k+1))):=by
 rw[hr,z5f G,x0D,if_neg f6J]
theorem z2u{xs zs n k lo hi c r}(G:k<zs.length)(h:zs.getD k 0<lo\/hi<zs.getD k 0)(hr:r=fin xs zs (x0D (n+1) lo hi c k (zs.drop k))):r=([],(k:Int),30):=by
 rw[hr,z5f G,x0D,if_pos h,fin]
theorem z2v{xs zs n k lo hi c r}(G:k=zs.length)(hr:r=fin xs zs (x0D (n+1) lo hi c k (zs.drop k))):r=([],(k:Int),30):=by
 subst G;rw[hr,List.drop_length,x0D,fin]
theorem x4q{xs zs k lo hi c r}(hr:r=fin xs zs (x0D 0 lo hi c k (zs.drop k))):r=glue (xs++[c]) (dec k (zs.drop k)):=by
 rw[hr,x0D,fin]
end Go.Proofs.YtbmckadcjdedcaaGreatDoor.Utf
namespace Go.Proofs.YtbmckadcjdedcaaGreatDoor
open Go.Proofs.Tryz
open Go.RowKit
theorem y6o{xs ys:List (List Int)}{k}(h:xs.take k=ys.take k)(J:k<xs.length)(hy:k<ys.length)(d:xs.getD k []=ys.getD k []):xs.take (k+1)=ys.take (k+1):=G3D
theorem Rws.place{w v xss}(h:Rws w v xss)(F:0<xss.length) :
  ∃(b off cap:Nat) (us:List Value),v=.slice (some ⟨b,off,none⟩) xss.length cap/\xss.length<=cap/\cap<=9223372036854775807/\(∀i,i<xss.length->w.cell? ⟨b,off+i,none⟩=some (us.getD i undef))/\∀i,i<xss.length->Sk .i32 w (us.getD i undef) (xss.getD i []):=by
 obtain⟨us,Z,D,R⟩:=h;obtain⟨b,off,cap,B,E,J,H⟩:=D.place f6J;rw[Z]at B E H;exact⟨b,off,cap,us,B,E,J,H,R⟩
theorem Rws.len{w v xss}(h:Rws w v xss):xss.length<=140737488355328:=by
 obtain⟨j,Z,D,R⟩:=h;rw[<- Z];exact D.1
theorem y2M v u xs ys w(N:Rws w v xs)(W:Rws w u ys) :
  Calls prog 19 #[v,u] w (x2T w (decide (xs=ys))):=by
 have ag:=N.len;have ai:=W.len;by_cases E:xs.length=ys.length
 ·rcases Nat.eq_zero_or_pos xs.length with h0 | h0
  ·have Y:∀l,Bw w l->x2T w (decide (xs=ys)) (.returned (.bool true)) l:=fun l Q=>x2T.mk' (by
    have Z:=List.eq_nil_of_length_eq_zero h0;have h2:=List.eq_nil_of_length_eq_zero (E ▸ h0)
    simp[Z,h2]) Q
   obtain⟨R,M,rfl,_,_⟩:=N.shape;obtain⟨g,J,rfl,_,_⟩:=W.shape;rw[<- E,h0];go_enter func19,ntmps19;go_wp2;refine wp_loop_rounds 1 ?_;rw[rounds_succ];go_wp2;go_ret;exact Y _ (b0r)
  ·have x:∀l,Bw w l->xs.take xs.length=ys.take xs.length->x2T w (decide (xs=ys)) (.returned (.bool true)) l:=fun l Q K=>x2T.mk' (by
    rw[List.take_length,E,List.take_length]at K
    simp[K]) Q
   have f:∀l k,Bw w l->¬xs.getD k []=ys.getD k []->x2T w (decide (xs=ys)) (.returned (.bool false)) l:=fun l k Q K=>x2T.mk' (by
    symm;rw[decide_eq_false_iff_not];intro h;subst h;exact K rfl) Q
   obtain⟨b,P,M,j,rfl,q,F,T,X⟩:=N.place h0;obtain⟨z,d,J,y,rfl,p,I,S,ab⟩:=W.place f6J
   have HC:∀wr,Bw w wr->∀i,i<xs.length->wr.cell? ⟨b,P+i,none⟩=some (j.getD i undef)/\wr.cell? ⟨z,d+i,none⟩=some (y.getD i undef)/\Sk .i32 wr (j.getD i undef) (xs.getD i [])/\Sk .i32 wr (y.getD i undef) (ys.getD i []):=by
    intro wr Q i hi;refine⟨?_,?_,(X i hi).below Q,(ab i f6J).below Q⟩
    ·exact E1W
    ·rw[Q.cell (x0a (S i f6J))];exact S i f6J
   rw[<- E]at p ⊢;have t:=O E;go_enter func19,ntmps19;go_wp2;go_loopw[5] (fun i wr=>∃k:Nat,i=.int .i64 k/\k<=xs.length/\xs.take k=ys.take k/\Bw w wr) (fun i _=>xs.length-(intOf i).toNat)
   case atStart=>exact⟨0,rfl,f6J,by simp,b0r⟩
   case round =>
    obtain⟨k,rfl,G,o,A⟩:=hrel;by_cases H:k<xs.length
    ·obtain⟨C,U,s1,B⟩:=HC _ A k H;have HT:=O o;have c:=fun n=>O (z9A _ _ _ _ (wr.drewN n) (s1.below (below_drewN (b0r) n)) (B.below (below_drewN (b0r) n)))
     cases he:decide (xs.getD k []=ys.getD k [])with
     | false =>
      have a:=fun l Q=>f l k Q (of_decide_eq_false he);rw[he]at c;obtain⟨D,ae,r,_,_⟩:=s1.shape;obtain⟨m,af,s,_,_⟩:=B.shape;clear f x HC s1 B he r s;go_wp2;go_quiet(first| (go_at_call 39;exact Calls.quiet_of (V (c _))));go_wp2;go_ret;exact a _ (below_drewN A nq)
     | true =>
      have L:=O (y6o (V HT) H S6T (o0d he));rw[he]at c;clear f x HC HT s1 B he;go_wp2;go_quiet(first| (go_at_call 39;exact Calls.quiet_of (V (c _))));go_wp2
      go_roundw
      case rel=>exact⟨k+1,g2A,f6J,V L,below_drewN A nq⟩
      case measure=>exact g7V
    ·obtain rfl:k=xs.length:=f6J;have a:=x _ A o;go_wp2;go_ret;exact a
 ·have Y:x2T w (decide (xs=ys)) (.returned (.bool false)) w:=x2T.mk' (by
   symm;rw[decide_eq_false_iff_not];intro h;subst h;exact E rfl) (b0r)
  have aj:((xs.length:Int) != (ys.length:Int))=true:=P8P;obtain⟨R,M,rfl,_,_⟩:=N.shape;obtain⟨g,J,rfl,_,_⟩:=W.shape;go_enter func19,ntmps19;exact n0O
theorem z8w:JoinC:=by
 intro v E w hv S;obtain⟨r,hi,p,ab,f⟩:=info_parts Tryz.info21;rcases Nat.eq_zero_or_pos E.length with h0 | h0
 ·have hj:Spl.join E=[]:=v6Y;obtain⟨R,ae,rfl,_,_⟩:=hv.shape;rw[hj,h0];go_enter func21,ntmps21;go_wp2;refine wp_loop_rounds 1 ?_;rw[rounds_succ];go_wp2;go_ret;exact⟨_,rfl,Ok.nil _ _ _ _,b0r⟩
 ·obtain⟨b,P,ae,j,rfl,ai,aj,T,hs⟩:=hv.place h0;have HC:=O T;have c:=O hs;go_enter func21,ntmps21;go_wp2;go_loopw[3,8] (fun t i wr=>∃(k:Nat),i=.int .i64 k/\k<=E.length/\Ok .i32 21 wr w.heap.size t (Spl.join (E.take k))/\Bw w wr) (fun _ i _=>E.length-(intOf i).toNat)
  case atStart=>exact⟨0,rfl,f6J,Ok.nil _ _ _ _,b0r⟩
  case round =>
   obtain⟨k,rfl,hk,y,A⟩:=hrel;by_cases H:k<E.length
   ·have af:=O (Spl.y8I E k H);have am:=Spl.x4m E k;have x:=Spl.x4m E (k+1);have ag:=Spl.z3Y E k
    have X:∀z,Bw w z->z.cell? ⟨b,P+k,none⟩=some (j.getD k undef)/\Sk .i32 z (j.getD k undef) (E.getD k []):=by
     intro z Q;have Z:=V HC k H;exact⟨M2X,(V c k H).below Q⟩
    have Y:=O X;have W:=A.size;rcases Nat.eq_zero_or_pos k with hk0 | hk0
    ·subst hk0;obtain⟨c1,N⟩:=V Y wr A;rw[Nat.add_zero]at c1;have I:Hid (Spl.join (E.take 1)=E.getD 0 []):=(by grind);have l:=O N.1;have B:Spl.join (E.take 0)=[]:=(by simp[Spl.join]);rw[B]at y;generalize E.getD 0 []=D at *;rcases N.src with⟨Z,h2⟩ | ⟨q,cp,h2,g⟩
     ·rw[h2]at c1;subst Z;go_wp2_with(at_builtin;refine wpList_append_own_none rfl (.tmp 18) (.tmp 19) 40 rfl w.heap.size 21 r 1 underlying40 hi _ _ _ rfl y.row rfl ?_)
      go_roundw
      case rel=>exact⟨1,g2D,f6J,by rw[V I];exact y,A⟩
      case measure=>exact g7W
     ·rw[h2]at c1;go_wp2_with(at_builtin;refine wpList_append_own _ rfl (.tmp 18) (.tmp 19) 40 rfl w.heap.size 21 r (.int .i32 0) 1 4 underlying40 hi p ab f rfl e8P _ _ _ rfl y.row q D.length cp (D.map (Value.int .i32)) rfl (by simp) g (x0U .i32 D) (by unfold maxLen;exact P8P) P8P f6J ?_);intro U d m M _;have F:Bw w d:=x1H W y.row A M;have K:Ok .i32 21 d w.heap.size U D:=Ok.of (V l) f6J m (by simp) (by simp);go_wp2
      go_roundw
      case rel=>exact⟨1,g2D,f6J,by rw[V I];exact K,F⟩
      case measure=>exact g7W
    ·have I:Hid (Spl.join (E.take (k+1))=(Spl.join (E.take k)++[46])++E.getD k []):=by have:=V af;rw[if_neg f6J]at this;exact this
     have n:(Spl.join (E.take k)).length+1+(E.getD k []).length<=1000000000:=by
      have Z:=V I;rw[Z]at x;simp only[List.length_append,List.length_cons,List.length_nil]at x;omega
     generalize Spl.join (E.take k)=acc at *;have G:=(V Y wr A).1;generalize j.getD k undef=rv at *;go_wp2_with(at_builtin;refine wpList_append_own _ rfl (.tmp 15) (.tmp 16) 40 rfl w.heap.size 21 r (.int .i32 0) 1 4 underlying40 hi p ab f rfl e8P _ _ _ rfl (y.row.alloc _) ⟨wr.heap.size,0,none⟩ 1 1 [.int .i32 46] rfl rfl (cell_one_new _ _ _) (x0M .i32 46) T7X f6J P8P ?_);intro U d m M _;have F:Bw w d:=x0p W y.row A M;have K:Ok .i32 21 d w.heap.size U (acc++[46]):=Ok.of (y.1.snoc (x0V f6J)) P8P m (by simp) (by simp);obtain⟨c1,N⟩:=V Y d F;have l:=O N.1;have o:=F.size;generalize E.getD k []=D at *;rcases N.src with⟨Z,h2⟩ | ⟨q,cp,h2,g⟩
     ·subst h2;subst Z;go_wp2_with(at_builtin;refine wpList_append_own_none rfl (.tmp 18) (.tmp 19) 40 rfl w.heap.size 21 r 1 underlying40 hi _ _ _ rfl K.row rfl ?_)
      go_roundw
      case rel=>exact⟨k+1,g2D,f6J,by rw[V I,List.append_nil];exact K,F⟩
      case measure=>exact g7W
     ·subst h2;have r2:=K.row;have u:(acc++[46]).length=acc.length+1:=(by simp);generalize hag:acc++[46]=C at *;go_wp2_with(at_builtin;refine wpList_append_own _ rfl (.tmp 18) (.tmp 19) 40 rfl w.heap.size 21 r (.int .i32 0) 1 4 underlying40 hi p ab f rfl e8P _ _ _ rfl r2 q D.length cp (D.map (Value.int .i32)) rfl (by simp) g (x0U .i32 D) T7X f6J f6J ?_);intro v3 w3 J L _;have s:Bw w w3:=x1H o r2 F L;have a:Ok .i32 21 w3 w.heap.size v3 (C++D):=Ok.of (K.1.app (V l)) P8P J (by rw[List.length_append];exact f6J) (by simp);go_wp2
      go_roundw
      case rel=>exact⟨k+1,g2D,f6J,by rw[V I];exact a,s⟩
      case measure=>exact g7W
   ·obtain rfl:k=E.length:=f6J;rw[List.take_length]at y;go_wp2;go_ret;exact⟨_,rfl,y,A⟩
