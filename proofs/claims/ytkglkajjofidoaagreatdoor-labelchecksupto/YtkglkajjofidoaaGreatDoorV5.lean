/- Ls18 Lq18 -/
import Derived.Test.YtkglkajjofidoaaGreatDoorV4
import Derived.Deep.RegionHeld3
set_option maxHeartbeats 2000000
set_option maxRecDepth 8000
namespace Go.Proofs.YtkglkajjofidoaaGreatDoor
open Go.Proofs.Tryz
open Go.RowKit
section
variable {w:World} {L p:Nat} {xv:Value} {fl:Int} {rtl dec:Bool} {X:List Int} {o:Lb.Of}
theorem z1n (h:LbH w L p xv fl rtl dec) (hx:Sk .i32 w xv X) (h0:0<X.length) (hP:PLbC p xv X o w):Calls prog 46 #[.pointer (some ⟨L,0,none⟩)] w (IntB w (x2n (o.mrk (X.getD 0 0)) 64)):=by
 have ah:=hx.len;have H0:=O fun W (hW:Bw w W)=>(h.below hW).c0;have H1:=O fun W (hW:Bw w W)=>(h.below hW).c1;have K:=O (hP.m (X.getD 0 0) (x0x hx h0));have KW:=O (fun b W=>x3q b 64 W);obtain ⟨b,off,cap,rfl,_,_,hc⟩:=hx.place (by omega)
 have HC:Hid (∀ W,Bw w W->W.cell? ⟨b,off,none⟩=some (.int .i32 (X.getD 0 0))):=fun W hW=>by
  rw [hW.cell (x0a (hc 0 h0))];exact hc 0 h0
 have an:Bw w w:=b0r;have hbd:=an.drew;have hL:(0:Int)<X.length:=(by omega);clear h hP hx hc;generalize o.mrk (X.getD 0 0)=z at *;generalize X.getD 0 0=c at *;go_enter func46,ntmps46;go_wp2_with fail;go_region_held3 (fun w'=>w'.cell? ⟨L,0,none⟩=some (.pointer (some ⟨p,0,none⟩))/\w'.cell? ⟨L,1,none⟩=some (.slice (some ⟨b,off,none⟩) X.length cap)/\w'.cell? ⟨b,off,none⟩=some (.int .i32 c)/\Bw w w') (first | exact ⟨V H0 _ (by assumption),V H1 _ (by assumption),V HC _ (by assumption),by assumption⟩ | (have ae:=x0b hbd (by assumption); exact ⟨V H0 _ ae,V H1 _ ae,V HC _ ae,ae⟩) | go_keep) (first | (go_at_call 17; refine (V K _ (by assumption)).mono ?_; rintro e w1 ⟨rfl,b1⟩; have am:=x0b (by assumption:Bw w _) b1) | (go_at_call 80; refine (V KW _ _).mono ?_; rintro e w2 ⟨rfl,rfl⟩));have HB:=O am;clear K H0 H1 HC am b1 hbd an KW;go_wp2;go_ret;exact ⟨rfl,V HB⟩
theorem z1q (h:LbH w L p xv fl rtl dec) (hx:Sk .i32 w xv X) (hP:PLbC p xv X o w):Calls prog 49 #[.pointer (some ⟨L,0,none⟩)] w (IntB w (x2n (Lb.flg fl 4 && o.jn) 512)):=by
 obtain ⟨n,hn,hj⟩:=hP.j;have H0:=O fun W (hW:Bw w W)=>(h.below hW).c0;have H1:=O fun W (hW:Bw w W)=>(h.below hW).c1;have H3:=O fun W (hW:Bw w W)=>(h.below hW).c3;have KH:=O fun W (hW:Bw w W)=>y1K (h.below hW) 4;have KC:=O hj;have KW:=O (fun b W=>x3q b 512 W);obtain ⟨ao,cap,rfl,_,_⟩:=hx.shape;have hbd:Bw w w.drew:=(b0r).drew;rw [<- hn];clear h hP hx hj hn;generalize Lb.flg fl 4=f at *;cases f
 ·go_enter func49,ntmps49;go_wp2_with fail;refine wp_region_held_drew (S:=fun w'=>Bw w w') (by kernel_rfl) (hbd) (fun hHeld=>?_);refine tk9 0 (.pointer (some ⟨L,0,none⟩)) ?_;refine rd9 1 fun K hK=>?_;go_simp;refine (V KH _ hHeld).mono ?_;rintro e w1 ⟨rfl,rfl⟩;go_wp2_with fail;refine hK.out _ _ ?_ (fun hHeld=>?_)
  ·exact hHeld
  clear hK K
  try simp only [Act.put,sa9,sb9,sc9]
  refine tk9 2 (.bool false) ?_;refine tn9 3 ?_;refine tn9 4 ?_;refine tn9 5 ?_;refine tn9 6 ?_;refine tn9 7 ?_;refine tn9 8 ?_;refine tn9 9 ?_;refine tn9 10 ?_;refine tn9 11 ?_;refine tn9 12 ?_;refine tk9 13 (.bool false) ?_;refine rd9 14 fun K hK=>?_;go_simp;refine (V KW _ _).mono ?_;rintro e w3 ⟨rfl,rfl⟩;go_wp2_with fail;refine hK.out _ _ ?_ (fun hHeld=>?_)
  ·exact hHeld
  clear hK K
  try simp only [Act.put,sa9,sb9,sc9]
  refine tk9 15 (.int .i64 (x2n (false) 512)) ?_;refine wpAnyH_done (by kernel_rfl) ?_ _;go_wp2;go_ret;exact ⟨rfl,hHeld⟩
 ·go_enter func49,ntmps49;go_wp2_with fail;refine wp_region_held_drew (S:=fun w'=>Bw w w') (by kernel_rfl) (hbd) (fun hHeld=>?_);refine tk9 0 (.pointer (some ⟨L,0,none⟩)) ?_;refine rd9 1 fun K hK=>?_;go_simp;refine (V KH _ hHeld).mono ?_;rintro e w1 ⟨rfl,rfl⟩;go_wp2_with fail;refine hK.out _ _ ?_ (fun hHeld=>?_)
  ·exact hHeld
  clear hK K
  try simp only [Act.put,sa9,sb9,sc9]
  refine tk9 2 (.bool true) ?_;refine tk9 3 (.pointer (some ⟨L,0,none⟩)) ?_;refine tk9 4 (.pointer (some ⟨L,0,none⟩)) ?_;refine tk9 5 (.pointer (some ⟨L,0,none⟩)) ?_;refine tk9 6 (.pointer (some ⟨p,0,none⟩)) ?_ (hy:=by (intro w aa; have z:=V H0 _ aa; go_simp));refine tk9 7 (.pointer (some ⟨L,0,none⟩)) ?_;refine tk9 8 (.pointer (some ⟨L,0,none⟩)) ?_;refine tk9 9 (.pointer (some ⟨L,1,none⟩)) ?_;refine tk9 10 (.slice ao X.length cap) ?_ (hy:=by (intro w aa; have z:=V H1 _ aa; go_simp));refine rd9 11 fun K hK=>?_;go_simp;refine (V KC _ hHeld).mono ?_;rintro e w2 ⟨rfl,b2⟩;go_wp2_with fail;refine hK.out _ _ ?_ (fun hHeld=>?_)
  ·exact x0b hHeld b2
  clear hK K
  try simp only [Act.put,sa9,sb9,sc9]
  refine tk9 12 (.bool (decide (0<=n))) ?_;refine tk9 13 (.bool (decide (0<=n))) ?_;refine rd9 14 fun K hK=>?_;go_simp;refine (V KW _ _).mono ?_;rintro e w3 ⟨rfl,rfl⟩;go_wp2_with fail;refine hK.out _ _ ?_ (fun hHeld=>?_)
  ·exact hHeld
  clear hK K
  try simp only [Act.put,sa9,sb9,sc9]
  refine tk9 15 (.int .i64 (x2n ((decide (0<=n))) 512)) ?_;refine wpAnyH_done (by kernel_rfl) ?_ _;go_wp2;go_ret;exact ⟨rfl,hHeld⟩
theorem z1r (h:LbH w L p xv fl rtl dec) (hx:Sk .i32 w xv X) (hP:PLbC p xv X o w):Calls prog 50 #[.pointer (some ⟨L,0,none⟩)] w (IntB w (x2n ((Lb.flg fl 2 && rtl) && o.bi) 1024)):=by
 obtain ⟨n,hn,hj⟩:=hP.r;have H0:=O fun W (hW:Bw w W)=>(h.below hW).c0;have H1:=O fun W (hW:Bw w W)=>(h.below hW).c1;have H3:=O fun W (hW:Bw w W)=>(h.below hW).c3;have KH:=O fun W (hW:Bw w W)=>y1K (h.below hW) 2;have KC:=O hj;have KW:=O (fun b W=>x3q b 1024 W);obtain ⟨ao,cap,rfl,_,_⟩:=hx.shape;have hbd:Bw w w.drew:=(b0r).drew;rw [<- hn];clear h hP hx hj hn;generalize Lb.flg fl 2=f at *;cases f
 ·go_enter func50,ntmps50;go_wp2_with fail;refine wp_region_held_drew (S:=fun w'=>Bw w w') (by kernel_rfl) (hbd) (fun hHeld=>?_);refine tk9 0 (.pointer (some ⟨L,0,none⟩)) ?_;refine rd9 1 fun K hK=>?_;go_simp;refine (V KH _ hHeld).mono ?_;rintro e w1 ⟨rfl,rfl⟩;go_wp2_with fail;refine hK.out _ _ ?_ (fun hHeld=>?_)
  ·exact hHeld
  clear hK K
  try simp only [Act.put,sa9,sb9,sc9]
  refine tk9 2 (.bool false) ?_;refine tn9 3 ?_;refine tn9 4 ?_;refine tn9 5 ?_;refine tn9 6 ?_;refine tk9 7 (.bool false) ?_;refine tk9 8 (.bool false) ?_;refine tn9 9 ?_;refine tn9 10 ?_;refine tn9 11 ?_;refine tn9 12 ?_;refine tn9 13 ?_;refine tn9 14 ?_;refine tn9 15 ?_;refine tn9 16 ?_;refine tn9 17 ?_;refine tn9 18 ?_;refine tk9 19 (.bool false) ?_;refine rd9 20 fun K hK=>?_;go_simp;refine (V KW _ _).mono ?_;rintro e w3 ⟨rfl,rfl⟩;go_wp2_with fail;refine hK.out _ _ ?_ (fun hHeld=>?_)
  ·exact hHeld
  clear hK K
  try simp only [Act.put,sa9,sb9,sc9]
  refine tk9 21 (.int .i64 (x2n (false) 1024)) ?_;refine wpAnyH_done (by kernel_rfl) ?_ _;go_wp2;go_ret;exact ⟨rfl,hHeld⟩
 cases rtl
 ·go_enter func50,ntmps50;go_wp2_with fail;refine wp_region_held_drew (S:=fun w'=>Bw w w') (by kernel_rfl) (hbd) (fun hHeld=>?_);refine tk9 0 (.pointer (some ⟨L,0,none⟩)) ?_;refine rd9 1 fun K hK=>?_;go_simp;refine (V KH _ hHeld).mono ?_;rintro e w1 ⟨rfl,rfl⟩;go_wp2_with fail;refine hK.out _ _ ?_ (fun hHeld=>?_)
  ·exact hHeld
  clear hK K
  try simp only [Act.put,sa9,sb9,sc9]
  refine tk9 2 (.bool true) ?_;refine tk9 3 (.pointer (some ⟨L,0,none⟩)) ?_;refine tk9 4 (.pointer (some ⟨L,0,none⟩)) ?_;refine tk9 5 (.pointer (some ⟨L,3,none⟩)) ?_;refine tk9 6 (.bool false) ?_ (hy:=by (intro w aa; have z:=V H3 _ aa; go_simp));refine tk9 7 (.bool false) ?_;refine tk9 8 (.bool false) ?_;refine tn9 9 ?_;refine tn9 10 ?_;refine tn9 11 ?_;refine tn9 12 ?_;refine tn9 13 ?_;refine tn9 14 ?_;refine tn9 15 ?_;refine tn9 16 ?_;refine tn9 17 ?_;refine tn9 18 ?_;refine tk9 19 (.bool false) ?_;refine rd9 20 fun K hK=>?_;go_simp;refine (V KW _ _).mono ?_;rintro e w3 ⟨rfl,rfl⟩;go_wp2_with fail;refine hK.out _ _ ?_ (fun hHeld=>?_)
  ·exact hHeld
  clear hK K
  try simp only [Act.put,sa9,sb9,sc9]
  refine tk9 21 (.int .i64 (x2n (false) 1024)) ?_;refine wpAnyH_done (by kernel_rfl) ?_ _;go_wp2;go_ret;exact ⟨rfl,hHeld⟩
 ·go_enter func50,ntmps50;go_wp2_with fail;refine wp_region_held_drew (S:=fun w'=>Bw w w') (by kernel_rfl) (hbd) (fun hHeld=>?_);refine tk9 0 (.pointer (some ⟨L,0,none⟩)) ?_;refine rd9 1 fun K hK=>?_;go_simp;refine (V KH _ hHeld).mono ?_;rintro e w1 ⟨rfl,rfl⟩;go_wp2_with fail;refine hK.out _ _ ?_ (fun hHeld=>?_)
  ·exact hHeld
  clear hK K
  try simp only [Act.put,sa9,sb9,sc9]
  refine tk9 2 (.bool true) ?_;refine tk9 3 (.pointer (some ⟨L,0,none⟩)) ?_;refine tk9 4 (.pointer (some ⟨L,0,none⟩)) ?_;refine tk9 5 (.pointer (some ⟨L,3,none⟩)) ?_;refine tk9 6 (.bool true) ?_ (hy:=by (intro w aa; have z:=V H3 _ aa; go_simp));refine tk9 7 (.bool true) ?_;refine tk9 8 (.bool true) ?_;refine tk9 9 (.pointer (some ⟨L,0,none⟩)) ?_;refine tk9 10 (.pointer (some ⟨L,0,none⟩)) ?_;refine tk9 11 (.pointer (some ⟨L,0,none⟩)) ?_;refine tk9 12 (.pointer (some ⟨p,0,none⟩)) ?_ (hy:=by (intro w aa; have z:=V H0 _ aa; go_simp));refine tk9 13 (.pointer (some ⟨L,0,none⟩)) ?_;refine tk9 14 (.pointer (some ⟨L,0,none⟩)) ?_;refine tk9 15 (.pointer (some ⟨L,1,none⟩)) ?_;refine tk9 16 (.slice ao X.length cap) ?_ (hy:=by (intro w aa; have z:=V H1 _ aa; go_simp));refine rd9 17 fun K hK=>?_;go_simp;refine (V KC _ hHeld).mono ?_;rintro e w2 ⟨rfl,b2⟩;go_wp2_with fail;refine hK.out _ _ ?_ (fun hHeld=>?_)
  ·exact x0b hHeld b2
  clear hK K
  try simp only [Act.put,sa9,sb9,sc9]
  refine tk9 18 (.bool (n != 0)) ?_;refine tk9 19 (.bool (n != 0)) ?_;refine rd9 20 fun K hK=>?_;go_simp;refine (V KW _ _).mono ?_;rintro e w3 ⟨rfl,rfl⟩;go_wp2_with fail;refine hK.out _ _ ?_ (fun hHeld=>?_)
  ·exact hHeld
  clear hK K
  try simp only [Act.put,sa9,sb9,sc9]
  refine tk9 21 (.int .i64 (x2n ((n != 0)) 1024)) ?_;refine wpAnyH_done (by kernel_rfl) ?_ _;go_wp2;go_ret;exact ⟨rfl,hHeld⟩
end
def gk18:Nat->Nat
 | 0=>42
 | 1=>43
 | 2=>44
 | 3=>45
 | 4=>46
 | 5=>47
 | 6=>48
 | 7=>49
 | _=>50
def Crs18 (w:World) (L s:Nat):Prop:=∀ k,k<9->w.cell? ⟨s,k,none⟩=some (.func (.func (gk18 k)) #[.pointer (some ⟨L,0,none⟩)] #[])
theorem y1C {k:Nat} (hk:k<9):∀ args w,(callFunc (gk18 k) args).run prog w=.ok (.enter (gk18 k) args) w:=by
 match k,hk with
 | 0,_=>exact enters_of func42 (by kernel_rfl) rfl
 | 1,_=>exact enters_of func43 (by kernel_rfl) rfl
 | 2,_=>exact enters_of func44 (by kernel_rfl) rfl
 | 3,_=>exact enters_of func45 (by kernel_rfl) rfl
 | 4,_=>exact enters_of func46 (by kernel_rfl) rfl
 | 5,_=>exact enters_of func47 (by kernel_rfl) rfl
 | 6,_=>exact enters_of func48 (by kernel_rfl) rfl
 | 7,_=>exact enters_of func49 (by kernel_rfl) rfl
 | 8,_=>exact enters_of func50 (by kernel_rfl) rfl
 | n+9,h=>exact absurd h (by omega)
theorem y9i {w:World} {L p:Nat} {xv:Value} {fl:Int} {rtl dec:Bool} {X:List Int} {o:Lb.Of} (h:LbH w L p xv fl rtl dec) (hx:Sk .i32 w xv X) (h0:0<X.length) (ai:X.length<=1000) (hP:PLbC p xv X o w) {k:Nat} (hk:k<9):Calls prog (gk18 k) #[.pointer (some ⟨L,0,none⟩)] w (IntB w ((Lb.part o fl rtl dec X k:Nat):Int)):=by
 have g:∀ {m:Nat} {b:Bool} (n:Nat),Calls prog m #[.pointer (some ⟨L,0,none⟩)] w (IntB w (x2n b n))->Calls prog m #[.pointer (some ⟨L,0,none⟩)] w (IntB w ((if b=true then n else 0:Nat):Int)):=fun {m b} n h=>by
  have e:((if b=true then n else 0:Nat):Int)=x2n b n:=(by cases b <;> rfl);rw [e]; exact h
 match k,hk with
 | 0,_=>exact g 4 (z1j h hx hP)
 | 1,_=>exact g 8 (z1k h hx h0 ai)
 | 2,_=>exact g 16 (z1l h hx)
 | 3,_=>exact g 32 (z1m h hx)
 | 4,_=>exact g 64 (z1n h hx h0 hP)
 | 5,_=>exact g 128 (z1o h hx hP)
 | 6,_=>exact g 256 (z1p h hx)
 | 7,_=>exact g 512 (z1q h hx hP)
 | 8,_=>exact g 1024 (z1r h hx hP)
 | n+9,h=>exact absurd h (by omega)
def CrB18 (w:World) (L:Nat) (e:Ending) (w':World):Prop:=∃ s,e=.returned (.slice (some ⟨s,0,none⟩) 9 9)/\Crs18 w' L s/\Below w.heap.size w w'
theorem y1z (L:Nat) (w:World):Calls prog 24 #[.pointer (some ⟨L,0,none⟩)] w (CrB18 w L):=by
 have hmf:∀ (fn:Fn) (first cap:Array Value) (w:World),(Instr.makeFunc fn first cap).run prog w=.ok (.func fn first cap) w:=fun _ _ _ _=>rfl;go_enter func24,ntmps24;go_wp2;go_ret;refine ⟨w.heap.size,rfl,fun k hk=>?_,(b0r).alloc (l0r _) _⟩
 match k,hk with
 | 0,_=>exact x3z _ _ rfl (by simp [gk18])
 | 1,_=>exact x3z _ _ rfl (by simp [gk18])
 | 2,_=>exact x3z _ _ rfl (by simp [gk18])
 | 3,_=>exact x3z _ _ rfl (by simp [gk18])
 | 4,_=>exact x3z _ _ rfl (by simp [gk18])
 | 5,_=>exact x3z _ _ rfl (by simp [gk18])
 | 6,_=>exact x3z _ _ rfl (by simp [gk18])
 | 7,_=>exact x3z _ _ rfl (by simp [gk18])
 | 8,_=>exact x3z _ _ rfl (by simp [gk18])
 | n+9,h=>exact absurd h (by omega)
theorem z1b {w:World} {p:Nat} {xv:Value} {X:List Int} {o:Lb.Of} (hP:PLbC p xv X o w) (hx:Sk .i32 w xv X) (ai:X.length<=1000) (fl:Int) (rtl dec:Bool):Calls prog 9 #[.pointer (some ⟨p,0,none⟩),xv,.int .i64 fl,.bool rtl,.bool dec] w (IntB w ((Lb.err o fl rtl dec X:Nat):Int)):=by
 have ah:=hx.len;unfold Lb.err;rcases Nat.eq_zero_or_pos X.length with h0 | h0
 ·rw [if_pos h0];obtain ⟨ao,cap,rfl,_,_⟩:=hx.shape;rw [h0];clear hP hx;go_enter func9,ntmps9;go_wp2;go_ret;exact ⟨rfl,b0r⟩
 ·rw [if_neg (by omega),<- Lb.y8R];have hzl:((X.length:Int)==0)=false:=(by rw [beq_eq_false_iff_ne]; omega);have al:∀ o,Bw w (w.alloc o):=fun o=>(b0r).alloc (l0r _) o
  have HL:Hid (LbH (w.alloc (.cells #[.pointer (some ⟨p,0,none⟩),xv,.int .i64 fl,.bool rtl,.bool dec] 54)) w.heap.size p xv fl rtl dec):=by
   show (w.heap.push _)[w.heap.size]?=_;simp
  have HK:Hid (∀ W k,Bw w W->LbH W w.heap.size p xv fl rtl dec->k<9->Calls prog (gk18 k) #[.pointer (some ⟨w.heap.size,0,none⟩)] W (IntB W ((Lb.part o fl rtl dec X k:Nat):Int))):=fun W k hW hl hk=>y9i hl (hx.below hW) h0 ai (hP.on hW) hk;have ag:Hid (∀ k,bits .or .i64 ((Lb.acc (Lb.part o fl rtl dec X) k:Nat):Int) ((Lb.part o fl rtl dec X k:Nat):Int)=((Lb.acc (Lb.part o fl rtl dec X) (k+1):Nat):Int)):=fun k=>Bd.or17 (Lb.x7t k) (Lb.y4Q k);have HZ:Hid (Lb.acc (Lb.part o fl rtl dec X) 0=0):=rfl;have K:=O (fun W=>y1z w.heap.size W);have aj:=O (al (.cells #[.pointer (some ⟨p,0,none⟩),xv,.int .i64 fl,.bool rtl,.bool dec] 54));obtain ⟨ao,cap,rfl,_,_⟩:=hx.shape;clear hP hx al;generalize Lb.acc (Lb.part o fl rtl dec X)=ac at *;generalize Lb.part o fl rtl dec X=pt at *;go_enter func9,ntmps9;go_wp2_with fail;refine (V K _).mono ?_;rintro e w1 ⟨s,rfl,hc,b1⟩;have af:=O ((V HL).below b1);have ad:=O (x0b (V aj) b1);have HC:=O hc;clear K HL aj hc b1;go_wp2;go_loopw [12,14,28] (fun bv _ iv wr=>∃ k:Nat,bv=.int .i64 ((ac k:Nat):Int)/\iv=.int .i64 k/\k<=9/\Bw w1 wr) (fun _ _ iv _=>9 - (intOf iv).toNat)
  case atStart=>exact ⟨0,by rw [V HZ]; rfl,rfl,by omega,b0r⟩
  case round =>
   obtain ⟨k,rfl,rfl,hk,ab⟩:=hrel;by_cases hlt:k<9
   ·have hL:(k:Int)<9:=(by omega);have x1:wr.cell? ⟨s,k,none⟩=some (.func (.func (gk18 k)) #[.pointer (some ⟨w.heap.size,0,none⟩)] #[]):=(by rw [ab.cell (x0a (V HC k hlt))]; exact V HC k hlt);have KC:=O (V HK wr k (x0b (V ad) ab) ((V af).below ab) hlt);have HE:=O (V ag k);have eg:=y1C hlt;have ak:=O ab;clear ab HK ag HZ HC af ad;generalize gk18 k=g at *;go_wp2_with (go_at_fn g; refine (V KC).mono ?_; rintro e w2 ⟨rfl,b2⟩);have ap:=O (x0b (V ak) b2);clear KC ak b2
    go_roundw
    case rel=>exact ⟨k+1,by rw [V HE],by go_num,by omega,V ap⟩
    case measure=>simp [intOf]; omega
   ·obtain rfl:k=9:=(by omega);have HF:=O (x0b (V ad) ab);clear ab HK ag HZ HC af ad;go_wp2;go_ret;exact ⟨rfl,V HF⟩
