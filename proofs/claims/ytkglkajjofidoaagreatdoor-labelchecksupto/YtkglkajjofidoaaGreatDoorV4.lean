/- La18 Lb18 Ld18 Lm18 Ln18 Lo18 Lr18 Lp18 -/
import Derived.Test.YtkglkajjofidoaaGreatDoorV3
import Derived.Deep.RegionHeld3
set_option maxHeartbeats 2000000
set_option maxRecDepth 8000
namespace Go.Proofs.YtkglkajjofidoaaGreatDoor
open Go.Proofs.Tryz
open Go.RowKit
namespace Lb
def ldh (c:Int):Bool:=decide (97<=c) && decide (c<=122) || (decide (48<=c) && decide (c<=57) || decide (c=45))
def coded (X:List Int):Bool:=decide (4<=X.length) && (decide (X.getD 0 0=120) && (decide (X.getD 1 0=110) && (decide (X.getD 2 0=45) && decide (X.getD 3 0=45))))
def flg (fl k:Int):Bool:=bits .and .i64 fl k != 0
def hyp (X:List Int):Bool:=decide (X.getD 0 0=45) || (decide (X.getD (X.length - 1) 0=45) || (decide (4<=X.length) && (decide (X.getD 2 0=45) && decide (X.getD 3 0=45))))
structure Of where
 nf:Bool
 mrk:Int->Bool
 st:Int->Int
 jn:Bool
 bi:Bool
def bst (o:Of) (fl:Int) (dec:Bool) (c:Int):Bool:=decide (o.st c≠1) && (decide (o.st c≠4) || (flg fl 16 && !dec))
def std (fl c:Int):Bool:=flg fl 8 && (decide (c<128) && !ldh c)
def nb (o:Of) (fl:Int) (dec:Bool) (c:Int):Nat:=(if c=46 then 32 else 0) ||| (if bst o fl dec c=true then 128 else 0) ||| (if std fl c=true then 256 else 0)
def num (o:Of) (fl:Int) (dec:Bool) (X:List Int):Nat:=X.foldl (fun a c=>a ||| nb o fl dec c) 0
def hd (o:Of) (fl:Int) (X:List Int):Nat:=(if o.nf=true then 0 else 4) ||| (if flg fl 1=true then (if hyp X=true then 8 else 0) else (if coded X=true then 16 else 0)) ||| (if o.mrk (X.getD 0 0)=true then 64 else 0)
def chk (o:Of) (fl:Int) (rtl dec:Bool) (X:List Int):Nat:=hd o fl X ||| num o fl dec X ||| (if (flg fl 4 && o.jn)=true then 512 else 0) ||| (if (flg fl 2 && (rtl && o.bi))=true then 1024 else 0)
variable {o:Of} {fl:Int} {dec rtl:Bool} {X:List Int}
theorem y7f {k:Nat} (h:k<X.length):num o fl dec (X.take (k+1))=num o fl dec (X.take k) ||| nb o fl dec (X.getD k 0):=by
 unfold num;rw [List.take_add_one,List.foldl_append];simp [List.getD,h]
theorem x2q {b:Prop} [Decidable b] {n m:Nat} (hn:n<2 ^ 11) (hm:m<2 ^ 11):(if b then n else m)<2 ^ 11:=by split <;> assumption
theorem nb_lt (c:Int):nb o fl dec c<2 ^ 11:=by
 unfold nb;exact Nat.or_lt_two_pow (Nat.or_lt_two_pow (x2q (by decide) (by decide)) (x2q (by decide) (by decide))) (x2q (by decide) (by decide))
theorem y9C (X:List Int):∀ a,a<2 ^ 11->X.foldl (fun a c=>a ||| nb o fl dec c) a<2 ^ 11:=by
 induction X with
 | nil=>intro a h; exact h
 | cons c l ih=>intro a h; exact ih _ (Nat.or_lt_two_pow h (nb_lt c))
theorem y8t (X:List Int):num o fl dec X<2 ^ 11:=y9C X 0 (by decide)
theorem y0r (i:Nat):∀ (X:List Int) (a:Nat),(X.foldl (fun a c=>a ||| nb o fl dec c) a).testBit i=(a.testBit i || X.any fun c=>(nb o fl dec c).testBit i)
 | [],a=>by simp
 | c :: l,a=>by
  rw [List.foldl_cons,y0r i l,Nat.testBit_or,List.any_cons,Bool.or_assoc]
theorem y9Z (i:Nat):(num o fl dec X).testBit i=X.any fun c=>(nb o fl dec c).testBit i:=by
 unfold num; rw [y0r]; simp
end Lb
theorem y0R (c:Int) (w:World):Calls prog 28 #[.int .i32 c] w (fun e w'=>e=.returned (.bool (Lb.ldh c))/\w'=w):=by
  by_cases h1:97<=c <;> by_cases h2:c<=122 <;> by_cases h3:48<=c <;> by_cases h4:c<=57 <;> by_cases h5:c=45
  all_goals first
    | omega
    | (have E:∃ b,Lb.ldh c=b:=⟨_,rfl⟩
       obtain ⟨b,E⟩:=E;rw [E];unfold Lb.ldh at E;simp only [h1,h2,h3,h4,h5,decide_true,decide_false,Bool.and_true,Bool.and_false,Bool.or_true,Bool.or_false] at E;subst E;have h6:(c==45)=decide (c=45):=rfl;simp only [h5,decide_true,decide_false] at h6;go_enter func28,ntmps28;go_wp2;go_ret
       exact ⟨rfl,rfl⟩)
theorem y7t {w:World} {xv:Value} {X:List Int} (hx:Sk .i32 w xv X):Calls prog 12 #[xv] w (fun e w'=>e=.returned (.bool (X.all Lb.ldh))/\w'=w):=by
  have ad:=hx.len
  have HC:Hid (∀ (k:Nat),k<X.length->∃ b off cap,xv=.slice (some ⟨b,off,none⟩) X.length cap/\w.cell? ⟨b,off+k,none⟩=some (.int .i32 (X.getD k 0))):=fun k hk=>by
    obtain ⟨b,off,cap,he,_,_,hc⟩:=hx.place (by omega);exact ⟨b,off,cap,he,hc k hk⟩
  have KL:=O (fun c W=>y0R c W)
  have ac:Hid (∀ k,k<X.length->Lb.ldh (X.getD k 0)=false->X.all Lb.ldh=false):=fun k hk h=>by
    rw [List.all_eq_false];exact ⟨X.getD k 0,by simp [List.getD,hk],by rw [h]; exact Bool.false_ne_true⟩
  have aa:Hid ((∀ q,q<X.length->Lb.ldh (X.getD q 0)=true)->X.all Lb.ldh=true):=fun h=>by
    rw [List.all_eq_true];intro x hx;obtain ⟨i,hi,rfl⟩:=List.getElem_of_mem hx;have:=h i hi;simpa [List.getD,hi] using this
  obtain ⟨ao,cap,rfl,_,_⟩:=hx.shape;clear hx;generalize X.all Lb.ldh=ab at *;go_enter func12,ntmps12;go_wp2;go_loopw [2,3] (fun rv iv wr=>∃ k:Nat,rv=.bool false/\iv=.int .i64 k/\k<=X.length/\(∀ q,q<k->Lb.ldh (X.getD q 0)=true)/\wr=w) (fun _ iv _=>X.length - (intOf iv).toNat)
  case atStart=>exact ⟨0,rfl,rfl,by omega,fun q h=>absurd h (by omega),rfl⟩
  case round =>
    obtain ⟨k,rfl,rfl,hk,hq,rfl⟩:=hrel;by_cases hlt:k<X.length
    · have hL:(k:Int)<X.length:=by omega
      obtain ⟨b,off,cp,he,x4⟩:=V HC k hlt;simp only [Value.slice.injEq] at he;obtain ⟨rfl,-,rfl⟩:=he;have K:=O (V KL (X.getD k 0) wr);have HN:=O (V ac k hlt)
      have HQ:Hid (Lb.ldh (X.getD k 0)=true->∀ q,q<k+1->Lb.ldh (X.getD q 0)=true):=fun h q hq'=>by
        rcases Nat.lt_or_ge q k with h1 | h1
        · exact hq q h1
        · rw [show q=k by omega]; exact h
      clear hq HC KL ac aa;generalize Lb.ldh (X.getD k 0)=z at *;generalize X.getD k 0=c at *
      cases z with
      | true =>
        have ah:=O (V HQ rfl);clear HQ HN;go_wp2_with fail;refine (V K).mono ?_;rintro e w1 ⟨rfl,rfl⟩;clear K x4;go_wp2
        go_roundw
        case rel=>exact ⟨k+1,rfl,by go_num,by omega,V ah,trivial⟩
        case measure=>simp [intOf]; omega
      | false =>
        have an:=O (V HN rfl);clear HQ HN;go_wp2_with fail;refine (V K).mono ?_;rintro e w1 ⟨rfl,rfl⟩;clear K x4;go_wp2;go_ret;exact ⟨by rw [V an]; rfl,rfl⟩
    · have HT:=O (V aa fun q h=>hq q (by omega))
      have hL:¬ ((k:Int)<X.length):=(by omega);clear hq HC KL ac aa;go_wp2;go_ret;exact ⟨by rw [V HT]; rfl,rfl⟩
theorem x6l {w:World} {xv:Value} {X:List Int} (hx:Sk .i32 w xv X):Calls prog 14 #[xv] w (fun e w'=>e=.returned (.bool (Lb.coded X))/\w'=w):=by
  have ad:=hx.len;by_cases h4:X.length<4
  · have E:Lb.coded X=false:=by unfold Lb.coded; rw [d0f (by omega)]; rfl
    rw [E];have hL:¬ ((4:Int)<=X.length):=(by omega);obtain ⟨ao,cap,rfl,_,_⟩:=hx.shape;clear hx;go_enter func14,ntmps14;go_wp2;go_ret;exact ⟨rfl,rfl⟩
  · have hL:(4:Int)<=X.length:=by omega
    obtain ⟨b,off,cap,rfl,_,_,hc⟩:=hx.place (by omega);have x0:=hc 0 (by omega);have x1:=hc 1 (by omega);have x2:=hc 2 (by omega);have x3:=hc 3 (by omega);rw [Nat.add_zero] at x0;have E:Lb.coded X=(decide (X.getD 0 0=120) && (decide (X.getD 1 0=110) && (decide (X.getD 2 0=45) && decide (X.getD 3 0=45)))):=(by unfold Lb.coded; rw [d0t (by omega)]; rfl);rw [E];clear hx hc E;generalize X.getD 0 0=c0 at *;generalize X.getD 1 0=c1 at *;generalize X.getD 2 0=c2 at *;generalize X.getD 3 0=c3 at *;have e0:(c0==120)=decide (c0=120):=rfl;have e1:(c1==110)=decide (c1=110):=rfl;have e2:(c2==45)=decide (c2=45):=rfl;have e3:(c3==45)=decide (c3=45):=rfl;generalize decide (c0=120)=d0 at *;generalize decide (c1=110)=d1 at *;generalize decide (c2=45)=d2 at *;generalize decide (c3=45)=d3 at *;go_enter func14,ntmps14;cases d0
    · go_wp2
      go_ret;exact ⟨rfl,rfl⟩
    · cases d1
      · go_wp2
        go_ret;exact ⟨rfl,rfl⟩
      · cases d2
        · go_wp2
          go_ret;exact ⟨rfl,rfl⟩
        · cases d3
          · go_wp2
            go_ret;exact ⟨rfl,rfl⟩
          · go_wp2
            go_ret;exact ⟨rfl,rfl⟩
namespace Lb
variable {o:Of} {fl fl':Int} {dec dec' rtl rtl':Bool} {X:List Int}
def err (o:Of) (fl:Int) (rtl dec:Bool) (X:List Int):Nat:=if X.length=0 then 0 else chk o fl rtl dec X
theorem x5U {b:Prop} [Decidable b] {n i:Nat}:(if b then n else 0).testBit i=(decide b && n.testBit i):=by
 split
 ·rename_i h; rw [d0t h]; rfl
 ·rename_i h; rw [d0f h,Nat.zero_testBit]; rfl
end Lb
def LbH (w:World) (L p:Nat) (xv:Value) (fl:Int) (rtl dec:Bool):Prop:=w.heap[L]?=some (.cells #[.pointer (some ⟨p,0,none⟩),xv,.int .i64 fl,.bool rtl,.bool dec] 54 (0,0))
section
variable {w:World} {L p:Nat} {xv:Value} {fl:Int} {rtl dec:Bool}
theorem LbH.c0 (h:LbH w L p xv fl rtl dec):w.cell? ⟨L,0,none⟩=some (.pointer (some ⟨p,0,none⟩)):=cell_of (j:=0) h (by show 0<5; omega)
theorem LbH.c1 (h:LbH w L p xv fl rtl dec):w.cell? ⟨L,1,none⟩=some xv:=cell_of (j:=1) h (by show 1<5; omega)
theorem LbH.c2 (h:LbH w L p xv fl rtl dec):w.cell? ⟨L,2,none⟩=some (.int .i64 fl):=cell_of (j:=2) h (by show 2<5; omega)
theorem LbH.c3 (h:LbH w L p xv fl rtl dec):w.cell? ⟨L,3,none⟩=some (.bool rtl):=cell_of (j:=3) h (by show 3<5; omega)
theorem LbH.c4 (h:LbH w L p xv fl rtl dec):w.cell? ⟨L,4,none⟩=some (.bool dec):=cell_of (j:=4) h (by show 4<5; omega)
theorem LbH.below {w':World} (h:LbH w L p xv fl rtl dec) (hb:Bw w w'):LbH w' L p xv fl rtl dec:=by
  unfold LbH at *; rw [hb.block L (x0a (LbH.c0 h))]; exact h
end
def Sm18 (v:Value) (w:World) (e:Ending) (w':World):Prop:=e=.returned v/\w'=w
def x2n (b:Bool) (n:Int):Int:=if b=true then n else 0
theorem x3q (b:Bool) (n:Int) (w:World):Calls prog 80 #[.bool b,.int .i64 n] w (Sm18 (.int .i64 (x2n b n)) w):=by
  cases b <;> go_enter func80,ntmps80 <;> go_wp2 <;> go_ret <;> exact ⟨rfl,rfl⟩
theorem y1K {w:World} {L p:Nat} {xv:Value} {fl:Int} {rtl dec:Bool} (h:LbH w L p xv fl rtl dec) (k:Int):Calls prog 82 #[.pointer (some ⟨L,0,none⟩),.int .i64 k] w (Sm18 (.bool (Lb.flg fl k)) w):=by
  have x2:=h.c2;clear h;go_enter func82,ntmps82;go_wp2;go_ret;exact ⟨rfl,rfl⟩
theorem idx18 (g:Nat) (F C:Array Value) (eg:∀ args w,(callFunc g args).run prog w=.ok (.enter g args) w) (p:Int->Bool) (xv:Value) (X:List Int) (w:World) (hx:Sk .i32 w xv X) (hp:∀ k,k<X.length->∀ W,Bw w W->Calls prog g (F++#[.int .i32 (X.getD k 0)]++C) W (x0d W (p (X.getD k 0)))) :
    Calls prog 57 #[xv,.func (.func g) F C] w (IdxB w (X.any p)):=by
  have ad:=hx.len;have KP:=O hp
  have HC:Hid (∀ (k:Nat),k<X.length->∃ b off cap,xv=.slice (some ⟨b,off,none⟩) X.length cap/\∀ W,Bw w W->W.cell? ⟨b,off+k,none⟩=some (.int .i32 (X.getD k 0))):=fun k hk=>by
    obtain ⟨b,off,cap,he,_,_,hc⟩:=hx.place (by omega);exact ⟨b,off,cap,he,fun W hW=>by rw [hW.cell (x0a (hc k hk))]; exact hc k hk⟩
  have ac:Hid ((∀ q,q<X.length->p (X.getD q 0)=false)->X.any p=false):=fun h=>Bd.y2U h;have aa:Hid (∀ q,q<X.length->p (X.getD q 0)=true->X.any p=true):=fun q hq h=>Bd.x8W hq h;obtain ⟨ao,cap,rfl,_,_⟩:=hx.shape;clear hp hx;generalize X.any p=hb at *;go_enter func57,ntmps57;go_wp2;go_loopw [5,8] (fun _ iv wr=>∃ k:Nat,iv=.int .i64 k/\k<=X.length/\(∀ q,q<k->p (X.getD q 0)=false)/\Bw w wr) (fun _ iv _=>X.length - (intOf iv).toNat)
  case atStart=>exact ⟨0,rfl,by omega,fun q h=>absurd h (by omega),b0r⟩
  case round =>
    obtain ⟨k,rfl,hk,hq,ag⟩:=hrel;by_cases hlt:k<X.length
    · have hL:(k:Int)<X.length:=by omega
      obtain ⟨b1,off,cp,he,am⟩:=V HC k hlt;simp only [Value.slice.injEq] at he;obtain ⟨rfl,-,rfl⟩:=he;have x4:=am wr ag;have K:=O (V KP k hlt wr ag);have HY:=O (V aa k hlt)
      have HQ:Hid (p (X.getD k 0)=false->∀ q,q<k+1->p (X.getD q 0)=false):=fun h q hq'=>by
        rcases Nat.lt_or_ge q k with h1 | h1
        · exact hq q h1
        · rw [show q=k by omega]; exact h
      have ae:=O ag;clear am hq ag KP HC ac aa;generalize p (X.getD k 0)=z at *;generalize X.getD k 0=c at *
      cases z with
      | true =>
        have HT:=O (V HY rfl);clear HY HQ;go_wp2_with (go_at_fn g; refine (V K).mono ?_; rintro e w1 ⟨rfl,b1⟩);have aj:=O (x0b (V ae) b1);clear K ae;go_ret;exact ⟨_,rfl,by rw [V HT]; exact d0t (by omega),V aj⟩
      | false =>
        have ah:=O (V HQ rfl);clear HY HQ;go_wp2_with (go_at_fn g; refine (V K).mono ?_; rintro e w1 ⟨rfl,b1⟩);have aj:=O (x0b (V ae) b1);clear K ae
        go_roundw
        case rel=>exact ⟨k+1,by go_num,by omega,V ah,V aj⟩
        case measure=>simp [intOf]; omega
    · have HT:=O (V ac fun q h=>hq q (by omega))
      have hL:¬ ((k:Int)<X.length):=(by omega);have ae:=O ag;clear hq ag KP HC ac aa;go_wp2;go_ret;exact ⟨_,rfl,by rw [V HT]; rfl,V ae⟩
theorem y9l (g:Nat) (F C:Array Value) (eg:∀ args w,(callFunc g args).run prog w=.ok (.enter g args) w) (p:Int->Bool) (xv:Value) (X:List Int) (w:World) (hx:Sk .i32 w xv X) (hp:∀ k,k<X.length->∀ W,Bw w W->Calls prog g (F++#[.int .i32 (X.getD k 0)]++C) W (x0d W (p (X.getD k 0)))) :
    Calls prog 31 #[xv,.func (.func g) F C] w (x0d w (X.any p)):=by
  have K:=O (idx18 g F C eg p xv X w hx hp);obtain ⟨ao,cap,rfl,_,_⟩:=hx.shape;clear hp hx;generalize X.any p=hb at *;go_enter func31,ntmps31;go_wp2_with fail;refine (V K).mono ?_;rintro e w1 ⟨n,rfl,hn,b1⟩;subst hn;clear K;go_wp2;go_ret;exact ⟨rfl,b1⟩
theorem y0K (c:Int) (w:World):Calls prog 32 #[.int .i32 c] w (x0d w (!Lb.ldh c)):=by
  by_cases h1:97<=c <;> by_cases h2:c<=122 <;> by_cases h3:48<=c <;> by_cases h4:c<=57 <;> by_cases h5:c=45
  all_goals first
    | omega
    | (have E:∃ b,(!Lb.ldh c)=b:=⟨_,rfl⟩
       obtain ⟨b,E⟩:=E;rw [E];unfold Lb.ldh at E;simp only [h1,h2,h3,h4,h5,decide_true,decide_false,Bool.and_true,Bool.and_false,Bool.or_true,Bool.or_false,Bool.not_true,Bool.not_false] at E;subst E;have h6:(c==45)=decide (c=45):=rfl;simp only [h5,decide_true,decide_false] at h6;have h7:(c != 45)=!decide (c=45):=rfl;simp only [h5,decide_true,decide_false,Bool.not_true,Bool.not_false] at h7;go_enter func32,ntmps32;go_wp2;go_ret
       exact ⟨rfl,b0r⟩)
theorem x9h:∀ args w,(callFunc 32 args).run prog w=.ok (.enter 32 args) w:=enters_of func32 (by kernel_rfl) rfl
theorem enters_std18:∀ args w,(callFunc 85 args).run prog w=.ok (.enter 85 args) w:=enters_of func85 (by kernel_rfl) rfl
theorem enters_ws18:∀ args w,(callFunc 84 args).run prog w=.ok (.enter 84 args) w:=enters_of func84 (by kernel_rfl) rfl
theorem any_not18 (X:List Int):(!X.any fun c=>!Lb.ldh c)=X.all Lb.ldh:=by
  induction X with
  | nil=>rfl
  | cons a l ih=>rw [List.any_cons,List.all_cons,<- ih,Bool.not_or,Bool.not_not]
theorem z1G {w:World} {xv:Value} {X:List Int} (hx:Sk .i32 w xv X):Calls prog 11 #[xv] w (x0d w (X.all Lb.ldh)):=by
  have K:=O (y9l 32 #[] #[] x9h (fun c=>!Lb.ldh c) xv X w hx fun k _ W _=>y0K (X.getD k 0) W);rw [<- any_not18];obtain ⟨ao,cap,rfl,_,_⟩:=hx.shape;clear hx;generalize (X.any fun c=>!Lb.ldh c)=a at *;go_enter func11,ntmps11;go_wp2_with fail;refine (V K).mono ?_;rintro e w1 ⟨rfl,b1⟩;clear K;go_wp2;go_ret;exact ⟨rfl,b1⟩
structure PLbC (p:Nat) (xv:Value) (X:List Int) (o:Lb.Of) (w0:World):Prop where
 i:∀ W,Below w0.heap.size w0 W->Calls prog 15 #[.pointer (some ⟨p,0,none⟩),xv] W (fun e w'=>e=.returned (.tuple #[.bool o.nf,.int .i64 0])/\Below W.heap.size W w')
 m:∀ c,Rune c->∀ W,Below w0.heap.size w0 W->Calls prog 17 #[.pointer (some ⟨p,0,none⟩),.int .i32 c] W (x0d W (o.mrk c))
 s:∀ c,Rune c->∀ W,Below w0.heap.size w0 W->Calls prog 16 #[.pointer (some ⟨p,0,none⟩),.int .i32 c] W (IntB W (o.st c))
 j:∃ n:Int,decide (0<=n)=o.jn/\∀ W,Below w0.heap.size w0 W->Calls prog 86 #[.pointer (some ⟨p,0,none⟩),xv] W (IntB W n)
 r:∃ n:Int,(n != 0)=o.bi/\∀ W,Below w0.heap.size w0 W->Calls prog 87 #[.pointer (some ⟨p,0,none⟩),xv] W (IntB W n)
theorem PLbC.on {p:Nat} {xv:Value} {X:List Int} {o:Lb.Of} {w W:World} (h:PLbC p xv X o w) (hb:Bw w W):PLbC p xv X o W:=by
 obtain ⟨n,hn,hj⟩:=h.j;obtain ⟨m,hm,hr⟩:=h.r;exact ⟨fun W' hW=>h.i W' (x0b hb hW),fun c hc W' hW=>h.m c hc W' (x0b hb hW),fun c hc W' hW=>h.s c hc W' (x0b hb hW),⟨n,hn,fun W' hW=>hj W' (x0b hb hW)⟩,⟨m,hm,fun W' hW=>hr W' (x0b hb hW)⟩⟩
theorem lit18 (W:World) (zs:List Int) (n:Nat) (hn:zs.length=n) (h0:0<n) (hs:n<=100) (C:Array Value) (hC:C=(zs.map (Value.int .i32)).toArray) (hz:∀ z∈zs,-2147483648<=z/\z<=2147483647):Sk .i32 (W.alloc (.cells C 21)) (.slice (some ⟨W.heap.size,0,none⟩) n n) zs:=by
 have h:Ok .i32 21 (W.alloc (.cells C 21)) W.heap.size (.slice (some ⟨W.heap.size,0,none⟩) n n) zs:=by
  refine Ok.of (n:=n) (us:=zs.map (Value.int .i32)) (fun z h=>hz z h) (by omega) ⟨by simp [hn],Or.inr ⟨W.heap.size,n,C,rfl,l0r _,World.alloc_heap_new W _,l0r _,by unfold maxLen; omega,by rw [hC]; simp [hn],by rw [hC]; exact List.take_of_length_le (by simp [hn])⟩⟩ hn.symm rfl
 exact h.sk
theorem y1w {X:List Int} (h:4<=X.length):decide (X.take 4=[120,110,45,45])=Lb.coded X:=by
 match X,h with
 | a :: b :: c :: d :: l,_=>simp [Lb.coded]
theorem y8c {w:World} {xv:Value} {X:List Int} (hx:Sk .i32 w xv X):Calls prog 13 #[xv] w (x0d w (Lb.coded X)):=by
 have ai:∀ o,Bw w (w.alloc o):=fun o=>(b0r).alloc (l0r _) o;have ad:=hx.len;obtain ⟨ao,cap,rfl,ap,hc2⟩:=hx.shape;by_cases h4:X.length<4
 ·have E:Lb.coded X=false:=(by unfold Lb.coded; rw [d0f (by omega)]; rfl);rw [E];have hL:¬ ((4:Int)<=X.length):=(by omega);clear hx E;go_enter func13,ntmps13;go_wp2;go_ret;exact ⟨rfl,ai _⟩
 ·have hL:(4:Int)<=X.length:=(by omega);have hT:=(hx.below (ai (.cells #[.int .i32 120,.int .i32 110,.int .i32 45,.int .i32 45] 21))).head (k:=4) (by omega) ap;have K:=O (y0n _ _ _ _ _ hT (lit18 w [120,110,45,45] 4 rfl (by omega) (by omega) #[.int .i32 120,.int .i32 110,.int .i32 45,.int .i32 45] rfl (by simp)));rw [y1w (by omega)] at K;clear hx hT;generalize Lb.coded X=z at *;go_enter func13,ntmps13;go_wp2_with fail;refine (V K).mono ?_;rintro e w1 ⟨rfl,b1⟩;have HB:=O (x0b (ai _) (x0k b1));clear K b1 ai;go_wp2;go_ret;exact ⟨rfl,V HB⟩
theorem ctn18 (v:Int) (xv:Value) (X:List Int) (w:World) (hx:Sk .i32 w xv X):Calls prog 126 #[xv,.int .i32 v] w (IdxB w (X.any fun c=>decide (v=c))):=by
 have ad:=hx.len
 have HC:Hid (∀ (k:Nat),k<X.length->∃ b off cap,xv=.slice (some ⟨b,off,none⟩) X.length cap/\w.cell? ⟨b,off+k,none⟩=some (.int .i32 (X.getD k 0))):=fun k hk=>by
  obtain ⟨b,off,cap,he,_,_,hc⟩:=hx.place (by omega);exact ⟨b,off,cap,he,hc k hk⟩
 have ac:Hid ((∀ q,q<X.length->decide (v=X.getD q 0)=false)->(X.any fun c=>decide (v=c))=false):=fun h=>Bd.y2U h;have aa:Hid (∀ q,q<X.length->decide (v=X.getD q 0)=true->(X.any fun c=>decide (v=c))=true):=fun q hq h=>Bd.x8W (f:=fun c=>decide (v=c)) hq h;obtain ⟨ao,cap,rfl,_,_⟩:=hx.shape;clear hx;generalize (X.any fun c=>decide (v=c))=hb at *;go_enter func126,ntmps126;go_wp2;go_loopw [5,8] (fun _ iv wr=>∃ k:Nat,iv=.int .i64 k/\k<=X.length/\(∀ q,q<k->decide (v=X.getD q 0)=false)/\wr=w) (fun _ iv _=>X.length - (intOf iv).toNat)
 case atStart=>exact ⟨0,rfl,by omega,fun q h=>absurd h (by omega),rfl⟩
 case round =>
  obtain ⟨k,rfl,hk,hq,rfl⟩:=hrel;by_cases hlt:k<X.length
  ·have hL:(k:Int)<X.length:=(by omega);obtain ⟨b1,off,cp,he,x4⟩:=V HC k hlt;simp only [Value.slice.injEq] at he;obtain ⟨rfl,-,rfl⟩:=he;have HY:=O (V aa k hlt)
   have HQ:Hid (decide (v=X.getD k 0)=false->∀ q,q<k+1->decide (v=X.getD q 0)=false):=fun h q hq'=>by
    rcases Nat.lt_or_ge q k with h1 | h1
    ·exact hq q h1
    ·rw [show q=k by omega]; exact h
   clear hq HC ac aa;have hz:(v==X.getD k 0)=decide (v=X.getD k 0):=rfl;generalize decide (v=X.getD k 0)=z at *;generalize X.getD k 0=c at *
   cases z with
   | true =>
    have HT:=O (V HY rfl);clear HY HQ;go_wp2;go_ret;exact ⟨_,rfl,by rw [V HT]; exact d0t (by omega),b0r⟩
   | false =>
    have ah:=O (V HQ rfl);clear HY HQ;go_wp2
    go_roundw
    case rel=>exact ⟨k+1,by go_num,by omega,V ah,trivial⟩
    case measure=>simp [intOf]; omega
  ·have HT:=O (V ac fun q h=>hq q (by omega));have hL:¬ ((k:Int)<X.length):=(by omega);clear hq HC ac aa;go_wp2;go_ret;exact ⟨_,rfl,by rw [V HT]; rfl,b0r⟩
theorem cnt18 (v:Int) (xv:Value) (X:List Int) (w:World) (hx:Sk .i32 w xv X):Calls prog 83 #[xv,.int .i32 v] w (x0d w (X.any fun c=>decide (v=c))):=by
 have K:=O (ctn18 v xv X w hx);obtain ⟨ao,cap,rfl,_,_⟩:=hx.shape;clear hx;generalize (X.any fun c=>decide (v=c))=hb at *;go_enter func83,ntmps83;go_wp2_with fail;refine (V K).mono ?_;rintro e w1 ⟨n,rfl,hn,b1⟩;subst hn;clear K;go_wp2;go_ret;exact ⟨rfl,b1⟩
section
variable {w:World} {L p:Nat} {xv:Value} {fl:Int} {rtl dec:Bool} {X:List Int} {o:Lb.Of}
def hat18 (X:List Int) (i:Nat):Bool:=decide (i<X.length) && decide (X.getD i 0=45)
theorem y3Z (h:LbH w L p xv fl rtl dec) (hx:Sk .i32 w xv X) (i:Nat) (hi:i<1000000000):Calls prog 81 #[.pointer (some ⟨L,0,none⟩),.int .i64 i] w (Sm18 (.bool (hat18 X i)) w):=by
 have x1:=h.c1;have ad:=hx.len;by_cases hl:i<X.length
 ·obtain ⟨b,off,cap,rfl,_,_,hc⟩:=hx.place (by omega);have x4:=hc i hl;have hL:(i:Int)<X.length:=(by omega);have E:hat18 X i=decide (X.getD i 0=45):=(by unfold hat18; rw [d0t hl]; rfl);rw [E];clear h hx hc E;have hz:(X.getD i 0==45)=decide (X.getD i 0=45):=rfl;generalize decide (X.getD i 0=45)=z at *;generalize X.getD i 0=c at *;go_enter func81,ntmps81;go_wp2;go_ret;exact ⟨rfl,rfl⟩
 ·obtain ⟨ao,cap,rfl,_,_⟩:=hx.shape;have hL:¬ ((i:Int)<X.length):=(by omega);have E:hat18 X i=false:=(by unfold hat18; rw [d0f hl]; rfl);rw [E];clear h hx E;go_enter func81,ntmps81;go_wp2;go_ret;exact ⟨rfl,rfl⟩
theorem z1j (h:LbH w L p xv fl rtl dec) (hx:Sk .i32 w xv X) (hP:PLbC p xv X o w):Calls prog 42 #[.pointer (some ⟨L,0,none⟩)] w (IntB w (x2n (!o.nf) 4)):=by
 have H0:=O fun W (hW:Bw w W)=>(h.below hW).c0;have H1:=O fun W (hW:Bw w W)=>(h.below hW).c1;have K:=O hP.i;have KW:=O (fun b W=>x3q b 4 W);obtain ⟨ao,cap,rfl,_,_⟩:=hx.shape;have al:Bw w w:=b0r;have hbd:=al.drew;clear h hP hx;generalize o.nf=z at *;go_enter func42,ntmps42;go_wp2_with fail;go_region_held3 (fun w'=>w'.cell? ⟨L,0,none⟩=some (.pointer (some ⟨p,0,none⟩))/\w'.cell? ⟨L,1,none⟩=some (.slice ao X.length cap)/\Bw w w') (first | exact ⟨V H0 _ (by assumption),V H1 _ (by assumption),by assumption⟩ | (have ak:=x0b hbd (by assumption); exact ⟨V H0 _ ak,V H1 _ ak,ak⟩) | go_keep) (first | (go_at_call 15; refine (V K _ (by assumption)).mono ?_; rintro e w1 ⟨rfl,b1⟩; have af:=x0b (by assumption:Bw w _) b1));have HB:=O af;clear K H0 H1 af b1 hbd al;cases z <;>
 ·go_wp2_with fail;refine (V KW _ _).mono ?_;rintro e w2 ⟨rfl,rfl⟩;clear KW;go_wp2;go_ret;exact ⟨rfl,V HB⟩
theorem y9D {X:List Int} (h0:0<X.length):Lb.hyp X=((hat18 X 0 || hat18 X (X.length - 1)) || (hat18 X 2 && hat18 X 3)):=by
 unfold Lb.hyp hat18;rw [d0t h0,d0t (show X.length - 1<X.length by omega),Bool.true_and,Bool.true_and,Bool.or_assoc];by_cases h:4<=X.length
 ·rw [d0t h,d0t (show 2<X.length by omega),d0t (show 3<X.length by omega)];simp
 ·rw [d0f h,d0f (show ¬ 3<X.length by omega)];simp
theorem y0w (h:LbH w L p xv fl rtl dec) (hx:Sk .i32 w xv X) (i:Int) (h0:0<=i) (h1:i<1000000000):Calls prog 81 #[.pointer (some ⟨L,0,none⟩),.int .i64 i] w (Sm18 (.bool (hat18 X i.toNat)) w):=by
 have:=y3Z h hx i.toNat (by omega);rw [show ((i.toNat:Nat):Int)=i by omega] at this;exact this
theorem z1k (h:LbH w L p xv fl rtl dec) (hx:Sk .i32 w xv X) (h0:0<X.length) (hxl:X.length<=1000):Calls prog 43 #[.pointer (some ⟨L,0,none⟩)] w (IntB w (x2n (Lb.flg fl 1 && Lb.hyp X) 8)):=by
 have x1:=h.c1;rw [y9D h0];obtain ⟨m,hm⟩:∃ m:Int,m=(X.length:Int) - 1:=⟨_,rfl⟩;have hW:IntKind.i64.wrap ((X.length:Int) - 1)=m:=(by rw [IntKind.wrap_i64]; omega);have ha:=y0w h hx 0 (by omega) (by omega);have hb:=y0w h hx m (by omega) (by omega);have hc:=y0w h hx 2 (by omega) (by omega);have hd:=y0w h hx 3 (by omega) (by omega);rw [show m.toNat=X.length - 1 by omega] at hb;obtain ⟨g,hg⟩:∃ g:Int->Bool,g 0=hat18 X 0/\g m=hat18 X (X.length - 1)/\g 2=hat18 X 2/\g 3=hat18 X 3:=⟨fun i=>hat18 X i.toNat,rfl,by show hat18 X m.toNat=_; rw [show m.toNat=X.length - 1 by omega],rfl,rfl⟩
 have KA:Hid (∀ i,i=0\/i=m\/i=2\/i=3->Calls prog 81 #[.pointer (some ⟨L,0,none⟩),.int .i64 i] w (Sm18 (.bool (g i)) w)):=fun i hi=>by
  rcases hi with rfl | rfl | rfl | rfl
  ·rw [hg.1]; exact ha
  ·rw [hg.2.1]; exact hb
  ·rw [hg.2.2.1]; exact hc
  ·rw [hg.2.2.2]; exact hd
 rw [<- hg.1,<- hg.2.1,<- hg.2.2.1,<- hg.2.2.2];have KH:=O (y1K h 1);have KW:=O (fun b W=>x3q b 8 W);obtain ⟨ao,cap,rfl,_,_⟩:=hx.shape;clear h hx ha hb hc hd hg;have i0:(0:Int)=0\/(0:Int)=m\/(0:Int)=2\/(0:Int)=3:=.inl rfl;have i1:m=0\/m=m\/m=2\/m=3:=.inr (.inl rfl);have i2:(2:Int)=0\/(2:Int)=m\/(2:Int)=2\/(2:Int)=3:=.inr (.inr (.inl rfl));have i3:(3:Int)=0\/(3:Int)=m\/(3:Int)=2\/(3:Int)=3:=.inr (.inr (.inr rfl));have K0:=O (V KA 0 i0);have K1:=O (V KA m i1);have K2:=O (V KA 2 i2);have K3:=O (V KA 3 i3);clear KA hm i0 i1 i2 i3;generalize g 0=a at *;generalize g m=b at *;generalize g 2=c at *;generalize g 3=d at *;generalize Lb.flg fl 1=f at *;go_enter func43,ntmps43;go_wp2_with fail;refine (V K0).mono ?_;rintro e w1 ⟨rfl,rfl⟩;clear K0;cases a
 ·go_wp2_with fail;refine (V K1).mono ?_;rintro e w1 ⟨rfl,rfl⟩;clear K1;go_wp2_with fail;refine (V K2).mono ?_;rintro e w1 ⟨rfl,rfl⟩;clear K2;cases b <;> cases c <;> cases f <;>
  ·go_wp2_with (first | (go_at_call 81; refine (V K3).mono ?_; rintro e w1 ⟨rfl,rfl⟩) | (go_at_call 82; refine (V KH).mono ?_; rintro e w1 ⟨rfl,rfl⟩) | (go_at_call 80; refine (V KW _ _).mono ?_; rintro e w1 ⟨rfl,rfl⟩));go_ret;exact ⟨rfl,b0r⟩
 ·clear K1;go_wp2_with fail;refine (V K2).mono ?_;rintro e w1 ⟨rfl,rfl⟩;clear K2;cases c <;> cases f <;>
  ·go_wp2_with (first | (go_at_call 81; refine (V K3).mono ?_; rintro e w1 ⟨rfl,rfl⟩) | (go_at_call 82; refine (V KH).mono ?_; rintro e w1 ⟨rfl,rfl⟩) | (go_at_call 80; refine (V KW _ _).mono ?_; rintro e w1 ⟨rfl,rfl⟩));go_ret;exact ⟨rfl,b0r⟩
end
section
variable {w:World} {L p:Nat} {xv:Value} {fl:Int} {rtl dec:Bool} {X:List Int} {o:Lb.Of}
theorem z1l (h:LbH w L p xv fl rtl dec) (hx:Sk .i32 w xv X):Calls prog 44 #[.pointer (some ⟨L,0,none⟩)] w (IntB w (x2n (!Lb.flg fl 1 && Lb.coded X) 16)):=by
 have x1:=h.c1;have K:=O (y8c hx);have KH:=O (y1K h 1);have KW:=O (fun b W=>x3q b 16 W);obtain ⟨ao,cap,rfl,_,_⟩:=hx.shape;have af:Bw w w:=b0r;clear h hx;generalize Lb.coded X=c at *;generalize Lb.flg fl 1=f at *;cases f
 ·go_enter func44,ntmps44;go_wp2_with (first | (refine (V KH).mono ?_; rintro e w1 ⟨rfl,rfl⟩) | (refine (V K).mono ?_; rintro e w2 ⟨rfl,b2⟩) | (refine (V KW _ _).mono ?_; rintro e w1 ⟨rfl,rfl⟩));go_ret;exact ⟨rfl,b2⟩
 ·go_enter func44,ntmps44;go_wp2_with (first | (refine (V KH).mono ?_; rintro e w1 ⟨rfl,rfl⟩) | (refine (V KW _ _).mono ?_; rintro e w1 ⟨rfl,rfl⟩));go_ret;exact ⟨rfl,af⟩
theorem z1m (h:LbH w L p xv fl rtl dec) (hx:Sk .i32 w xv X):Calls prog 45 #[.pointer (some ⟨L,0,none⟩)] w (IntB w (x2n (X.any fun c=>decide (46=c)) 32)):=by
 have x1:=h.c1;have K:=O (cnt18 46 xv X w hx);have KW:=O (fun b W=>x3q b 32 W);obtain ⟨ao,cap,rfl,_,_⟩:=hx.shape;clear h hx;generalize (X.any fun c=>decide (46=c))=f at *;go_enter func45,ntmps45;go_wp2_with (first | (refine (V K).mono ?_; rintro e w2 ⟨rfl,b2⟩) | (refine (V KW _ _).mono ?_; rintro e w1 ⟨rfl,rfl⟩));go_ret;exact ⟨rfl,b2⟩
theorem ws18 (h:LbH w L p xv fl rtl dec) (hP:PLbC p xv X o w) {c:Int} (hc:Rune c):Calls prog 84 #[.pointer (some ⟨L,0,none⟩),.int .i32 c] w (x0d w (Lb.bst o fl dec c)):=by
 have x0:=h.c0;have K:=O (hP.s c hc w (b0r));have HB:Hid (∀ W,Bw w W->Calls prog 82 #[.pointer (some ⟨L,0,none⟩),.int .i64 16] W (Sm18 (.bool (Lb.flg fl 16)) W)/\W.cell? ⟨L,4,none⟩=some (.bool dec)):=fun W hW=>⟨y1K (h.below hW) 16,(h.below hW).c4⟩;have E:Hid (Lb.bst o fl dec c=(decide (o.st c≠1) && (decide (o.st c≠4) || (Lb.flg fl 16 && !dec)))):=rfl;clear h hP;generalize Lb.bst o fl dec c=bb at *;generalize Lb.flg fl 16=f at *;generalize o.st c=k at *;by_cases h1:k=1
 ·subst h1;obtain rfl:bb=false:=V E;clear HB E;go_enter func84,ntmps84;go_wp2_with (refine (V K).mono ?_; rintro e w1 ⟨rfl,b1⟩);go_ret;exact ⟨rfl,b1⟩
 ·by_cases h4:k=4
  ·subst h4;obtain rfl:bb=(f && !dec):=V E;clear E h1;go_enter func84,ntmps84;go_wp2_with fail;refine (V K).mono ?_;rintro e w1 ⟨rfl,b1⟩;have KH:=O (V HB w1 b1).1;have x4:=(V HB w1 b1).2;clear K HB x0;cases f <;>
   ·go_wp2_with (refine (V KH).mono ?_; rintro e w1 ⟨rfl,rfl⟩);go_ret;exact ⟨rfl,b1⟩
  ·have hk1:(k==1)=false:=(by rw [beq_eq_false_iff_ne]; exact h1);have hk4:(k==4)=false:=(by rw [beq_eq_false_iff_ne]; exact h4);obtain rfl:bb=true:=(by rw [V E,d0t h1,d0t h4]; rfl);clear HB E;go_enter func84,ntmps84;go_wp2_with (refine (V K).mono ?_; rintro e w1 ⟨rfl,b1⟩);go_ret;exact ⟨rfl,b1⟩
theorem z1o (h:LbH w L p xv fl rtl dec) (hx:Sk .i32 w xv X) (hP:PLbC p xv X o w):Calls prog 47 #[.pointer (some ⟨L,0,none⟩)] w (IntB w (x2n (X.any (Lb.bst o fl dec)) 128)):=by
 have aq:∀ (fn:Fn) (first cap:Array Value) (w:World),(Instr.makeFunc fn first cap).run prog w=.ok (.func fn first cap) w:=fun _ _ _ _=>rfl;have x1:=h.c1;have K:=O (y9l 84 #[.pointer (some ⟨L,0,none⟩)] #[] enters_ws18 (Lb.bst o fl dec) xv X w hx fun k hk W hW=>ws18 (h.below hW) (hP.on hW) (x0x hx hk));have KW:=O (fun b W=>x3q b 128 W);obtain ⟨ao,cap,rfl,_,_⟩:=hx.shape;clear h hx hP;generalize X.any (Lb.bst o fl dec)=f at *;go_enter func47,ntmps47;go_wp2_with (first | (refine (V K).mono ?_; rintro e w2 ⟨rfl,b2⟩) | (refine (V KW _ _).mono ?_; rintro e w1 ⟨rfl,rfl⟩));go_ret;exact ⟨rfl,b2⟩
theorem z0w (c:Int) (w:World):Calls prog 85 #[.int .i32 c] w (x0d w (decide (c<128) && !Lb.ldh c)):=by
 have K:=O (y0K c w);generalize (!Lb.ldh c)=z at *;by_cases hc:c<128
 ·rw [d0t hc];go_enter func85,ntmps85;go_wp2_with (refine (V K).mono ?_; rintro e w1 ⟨rfl,b1⟩);go_ret;exact ⟨rfl,b1⟩
 ·rw [d0f hc];go_enter func85,ntmps85;go_wp2;go_ret;exact ⟨rfl,b0r⟩
theorem z1p (h:LbH w L p xv fl rtl dec) (hx:Sk .i32 w xv X):Calls prog 48 #[.pointer (some ⟨L,0,none⟩)] w (IntB w (x2n (Lb.flg fl 8 && X.any fun c=>decide (c<128) && !Lb.ldh c) 256)):=by
 have aq:∀ (fn:Fn) (first cap:Array Value) (w:World),(Instr.makeFunc fn first cap).run prog w=.ok (.func fn first cap) w:=fun _ _ _ _=>rfl;have x1:=h.c1;have K:=O (y9l 85 #[] #[] enters_std18 (fun c=>decide (c<128) && !Lb.ldh c) xv X w hx fun k _ W _=>z0w (X.getD k 0) W);have KH:=O (y1K h 8);have KW:=O (fun b W=>x3q b 256 W);obtain ⟨ao,cap,rfl,_,_⟩:=hx.shape;have af:Bw w w:=b0r;clear h hx;generalize (X.any fun c=>decide (c<128) && !Lb.ldh c)=c at *;generalize Lb.flg fl 8=f at *;cases f
 ·go_enter func48,ntmps48;go_wp2_with (first | (refine (V KH).mono ?_; rintro e w1 ⟨rfl,rfl⟩) | (refine (V KW _ _).mono ?_; rintro e w1 ⟨rfl,rfl⟩));go_ret;exact ⟨rfl,af⟩
 ·go_enter func48,ntmps48;go_wp2_with (first | (refine (V KH).mono ?_; rintro e w1 ⟨rfl,rfl⟩) | (refine (V K).mono ?_; rintro e w2 ⟨rfl,b2⟩) | (refine (V KW _ _).mono ?_; rintro e w1 ⟨rfl,rfl⟩));go_ret;exact ⟨rfl,b2⟩
end
namespace Lb
variable {o:Of} {fl:Int} {dec rtl:Bool} {X:List Int}
def part (o:Of) (fl:Int) (rtl dec:Bool) (X:List Int):Nat->Nat
 | 0=>if (!o.nf)=true then 4 else 0
 | 1=>if (flg fl 1 && hyp X)=true then 8 else 0
 | 2=>if (!flg fl 1 && coded X)=true then 16 else 0
 | 3=>if (X.any fun c=>decide (46=c))=true then 32 else 0
 | 4=>if o.mrk (X.getD 0 0)=true then 64 else 0
 | 5=>if X.any (bst o fl dec)=true then 128 else 0
 | 6=>if (flg fl 8 && X.any fun c=>decide (c<128) && !ldh c)=true then 256 else 0
 | 7=>if (flg fl 4 && o.jn)=true then 512 else 0
 | 8=>if ((flg fl 2 && rtl) && o.bi)=true then 1024 else 0
 | _=>0
def acc (f:Nat->Nat):Nat->Nat
 | 0=>0
 | k+1=>acc f k ||| f k
theorem y4Q (k:Nat):part o fl rtl dec X k<2 ^ 11:=by
 unfold part
 split <;> first | exact x2q (by decide) (by decide) | decide
theorem x7t:∀ k,acc (part o fl rtl dec X) k<2 ^ 11
 | 0=>by show 0<2 ^ 11; decide
 | k+1=>Nat.or_lt_two_pow (x7t k) (y4Q k)
theorem y4G (i:Nat):(num o fl dec X).testBit i=((if (X.any fun c=>decide (46=c))=true then 32 else 0) ||| (if X.any (bst o fl dec)=true then 128 else 0) ||| (if (flg fl 8 && X.any fun c=>decide (c<128) && !ldh c)=true then 256 else 0)).testBit i:=by
 rw [y9Z,Nat.testBit_or,Nat.testBit_or,x5U,x5U,x5U];simp only [Bool.decide_eq_true]
 induction X with
 | nil=>simp
 | cons c l ih =>
  rw [List.any_cons,ih];unfold nb;rw [Nat.testBit_or,Nat.testBit_or,x5U,x5U,x5U];have e1:decide (c=46)=decide (46=c):=(by simp [eq_comm]);rw [e1];unfold std;simp only [List.any_cons,Bool.decide_eq_true];simp only [Bool.and_or_distrib_left,Bool.and_or_distrib_right];ac_rfl
theorem y8R:acc (part o fl rtl dec X) 9=chk o fl rtl dec X:=by
 unfold chk hd;rw [Nat.eq_of_testBit_eq y4G];simp only [acc,part];cases e:flg fl 1
 ·simp only [Bool.false_and,Bool.not_false,Bool.true_and,Nat.zero_or,Nat.or_zero,Bool.false_eq_true,if_false,Bool.and_assoc];generalize (if (X.any fun c=>decide (46=c))=true then 32 else 0)=a1;cases o.nf <;> simp only [Bool.not_false,Bool.not_true,if_true,if_false,Bool.false_eq_true,Nat.zero_or] <;> ac_rfl
 ·simp only [Bool.false_and,Bool.not_true,Bool.true_and,Nat.zero_or,Nat.or_zero,Bool.false_eq_true,if_false,if_true,Bool.and_assoc];cases o.nf <;> simp only [Bool.not_false,Bool.not_true,if_true,if_false,Bool.false_eq_true,Nat.zero_or] <;> ac_rfl
end Lb
