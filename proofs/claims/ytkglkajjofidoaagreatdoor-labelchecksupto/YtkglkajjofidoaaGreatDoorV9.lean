/- TbD7 CcA7 CcB7 CcC7 CcD7 CcE7 CcF7 Cp7 -/
import Derived.Test.YtkglkajjofidoaaGreatDoorV2
import Derived.Shelf.Abstract
import Derived.Lib.Walk
import Derived.Maps.AppendAt
import Derived.Deep.RegionHeld3
set_option maxHeartbeats 4000000
set_option maxRecDepth 8000
namespace Go.Proofs.YtkglkajjofidoaaGreatDoor
open Go.Proofs.Tryz
open Go.RowKit
def fbR (p:Rec->Bool):Nat->List Rec->Int
 | _,[]=>-1
 | i,r :: l=>if p r then (i:Int) else fbR p (i+1) l
theorem y9x {p:Rec->Bool} {rs:List Rec} {k:Nat} {x:Int} (hk:k<rs.length) (h:x=fbR p k (rs.drop k)) (hp:p (rs.getD k Cn.none)=true):x=(k:Int):=by
 rw [h,List.drop_eq_getElem_cons hk,fbR,if_pos];simpa [List.getD,hk] using hp
theorem y6A {p:Rec->Bool} {rs:List Rec} {k:Nat} {x:Int} (hk:k<rs.length) (h:x=fbR p k (rs.drop k)) (hp:p (rs.getD k Cn.none)=false):x=fbR p (k+1) (rs.drop (k+1)):=by
 rw [h,List.drop_eq_getElem_cons hk,fbR,if_neg];have:p rs[k]=false:=(by simpa [List.getD,hk] using hp);simp [this]
theorem y9w {p:Rec->Bool} {rs:List Rec} {x:Int} (h:x=fbR p rs.length (rs.drop rs.length)):x=-1:=by
 rw [h,List.drop_length,fbR]
theorem x7G:∀ args w,(callFunc 153 args).run prog w=.ok (.enter 153 args) w:=enters_of func153 (by kernel_rfl) rfl
def AsksR (g:Nat) (cap:Array Value) (p:Rec->Bool) (w:World) (rs:List Rec):Prop:=∀ (k:Nat) (vt:Value) (W:World),k<rs.length->Below w.heap.size w W->Sk .i32 W vt (rs.getD k Cn.none).to->Calls prog g (#[recV (rs.getD k Cn.none) vt]++cap) W (x0d W (p (rs.getD k Cn.none)))
def RIn (w:World) (v:Value) (rs:List Rec) (W:World):Prop:=Rcs W v rs/\Below w.heap.size w W
theorem RIn.on {w W W':World} {v:Value} {rs:List Rec} (h:RIn w v rs W) (hb:Bw W W'):RIn w v rs W':=⟨h.1.below hb,h.2.trans (hb.mono h.2.size)⟩
theorem x5E (B C:Nat) (p:Rec->Bool) (v:Value) (rs:List Rec) (w:World) (hv:Rcs w v rs) (hp:AsksR 153 #[.pointer (some ⟨B,0,none⟩),.pointer (some ⟨C,0,none⟩)] p w rs) :
  Calls prog 140 #[v,.func (.func 153) #[] #[.pointer (some ⟨B,0,none⟩),.pointer (some ⟨C,0,none⟩)]] w (IntB w (fbR p 0 rs)):=by
 have eg:=x7G;have bK:Hid (RIn w v rs w):=⟨hv,b0r⟩;have HP:=O hp;have bL:Hid (fbR p 0 rs=fbR p 0 (rs.drop 0)):=(by rw [List.drop_zero]; rfl);have af:=hv.1;obtain ⟨ao,cap,rfl,h1,h2⟩:=hv.shape;clear hv hp;generalize hq:fbR p 0 rs=x at *;clear hq;go_enter func140,ntmps140;go_wp2;go_loopw [5,8] (fun _ i wr=>∃ k:Nat,i=.int .i64 k/\k<=rs.length/\x=fbR p k (rs.drop k)/\RIn w (.slice ao rs.length cap) rs wr) (fun _ i _=>rs.length - (intOf i).toNat)
 case atStart=>exact ⟨0,rfl,by omega,V bL,V bK⟩
 case round =>
  obtain ⟨k,rfl,hk,hr,ah⟩:=hrel;clear bL bK;by_cases ak:k<rs.length
  ·obtain ⟨b,off,au,he,b6,b7,hc⟩:=ah.1.place (by omega);obtain ⟨rfl,rfl⟩:ao=some ⟨b,off,none⟩/\cap=au:=(by simpa using he);obtain ⟨x0,x1,x2,x3,⟨vt,x4,sk⟩,x5,x6,x7⟩:=hc k ak;have HV:=O (V HP k vt wr ak ah.2 sk);have HH:Hid (p (rs.getD k Cn.none)=true->x=(k:Int)):=fun h=>y9x ak hr h;have HN:Hid (p (rs.getD k Cn.none)=false->x=fbR p (k+1) (rs.drop (k+1))):=fun h=>y6A ak hr h;have bk:=O ah;obtain ⟨tq,tc,rfl,_,_⟩:=sk.shape;clear hr ah hc he sk HP;unfold recV at HV;generalize p (rs.getD k Cn.none)=y at HV HH HN;generalize (rs.getD k Cn.none).kind=kd at *;generalize (rs.getD k Cn.none).lo=lo at *;generalize (rs.getD k Cn.none).hi=hi at *;generalize (rs.getD k Cn.none).n=n at *;generalize (rs.getD k Cn.none).name=nm at *;generalize (rs.getD k Cn.none).other=ot at *;generalize (rs.getD k Cn.none).wt=wt at *;generalize (rs.getD k Cn.none).to.length=tl at *
   cases y with
   | true =>
    obtain rfl:=V HH rfl;clear HH HN;go_wp2_with (go_at_fn 153; refine (V HV).mono ?_; rintro e w1 ⟨rfl,ac⟩);have HF:=O ((V bk).on ac).2;clear HV bk;go_ret;exact ⟨rfl,V HF⟩
   | false =>
    have aB:=O (V HN rfl);clear HH HN;go_wp2_with (go_at_fn 153; refine (V HV).mono ?_; rintro e w1 ⟨rfl,ac⟩);have HF:=O ((V bk).on ac);clear HV bk;go_round
    case rel=>exact ⟨k+1,by go_num,by omega,V aB,V HF⟩
    case measure=>simp [intOf]; omega
  ·obtain rfl:k=rs.length:=(by omega);obtain rfl:=y9w hr;have HF:=O ah.2;clear hr ah HP;go_wp2;go_ret;exact ⟨rfl,V HF⟩
theorem y0o (f c:Int):∀ (l:List Rec) (i:Nat),fbR (fun r=>decide (Cn.fam r.kind=f) && Cn.speaks r c) i l=Cn.findA f c i l
 | [],i=>rfl
 | r :: l,i=>by
  rw [fbR,Cn.findA,y0o f c l];by_cases h:Cn.fam r.kind=f/\Cn.speaks r c=true
  ·rw [if_pos h,if_pos (by simp [h.1,h.2])]
  ·rw [if_neg h,if_neg (by simpa using h)]
theorem x7K {f c:Int} (hf:f<0\/10<f):∀ (l:List Rec) (i:Nat),Cn.findA f c i l=-1
 | [],i=>rfl
 | r :: l,i=>by
  have:=Cn.x4N r.kind;rw [Cn.findA,if_neg (fun a=>by omega),x7K hf l]
theorem y0p {l:List Rec} {f c:Int} (hf:f<=0\/10<=f):Cn.find l f c=-1:=by
 unfold Cn.find;split
 ·rfl
 ·exact x7K (by omega) l 0
def FindT:Prop:=∀ (v:Value) (rs:List Rec) (f c:Int) (w:World),Glob w->Rcs w v rs->I64 f->(-2147483648<=c/\c<=2147483647)->Calls prog 116 #[v,.int .i64 f,.int .i32 c] w (IntB w (Cn.find rs f c))
theorem x6D:FindT:=by
 intro v rs f c w hg hv hf hc;obtain ⟨f0,f1⟩:=hf;by_cases hlo:f<=0
 ·rw [y0p (.inl hlo)];clear hg hv;go_enter func116,ntmps116;go_wp2;go_ret;exact ⟨rfl,((b0r).alloc (l0r _) _).alloc (by simp) _⟩
 ·by_cases hhi:10<=f
  ·rw [y0p (.inr hhi)];clear hg hv;go_enter func116,ntmps116;go_wp2;go_ret;exact ⟨rfl,((b0r).alloc (l0r _) _).alloc (by simp) _⟩
  ·have a7:Bw w ((w.alloc (.cells #[.int .i64 f] 3)).alloc (.cells #[.int .i32 c] 21)):=((b0r).alloc (l0r _) _).alloc (by simp) _
   have bz:((w.alloc (.cells #[.int .i64 f] 3)).alloc (.cells #[.int .i32 c] 21)).cell? ⟨w.heap.size,0,none⟩=some (.int .i64 f):=by
    refine cell_of (j:=0) (cur:=#[.int .i64 f]) (e:=3) ?_ (by simp);show ((w.heap.push _).push _)[w.heap.size]?=_;rw [Array.getElem?_push_lt (by simp)];simp
   have bA:((w.alloc (.cells #[.int .i64 f] 3)).alloc (.cells #[.int .i32 c] 21)).cell? ⟨w.heap.size+1,0,none⟩=some (.int .i32 c):=by
    refine cell_of (j:=0) (cur:=#[.int .i32 c]) (e:=21) ?_ (by simp);show ((w.heap.push _).push _)[w.heap.size+1]?=_;rw [Array.getElem?_push];simp
   have hv1:=hv.below a7;have aK:=hg.on a7
   have e:Cn.find rs f c=fbR (fun r=>decide (Cn.fam r.kind=f) && Cn.speaks r c) 0 rs:=by
    unfold Cn.find;rw [if_neg (by omega),y0o]
   rw [e]
   have K:Hid (Calls prog 140 #[v,.func (.func 153) #[] #[.pointer (some ⟨w.heap.size,0,none⟩),.pointer (some ⟨w.heap.size+1,0,none⟩)]] ((w.alloc (.cells #[.int .i64 f] 3)).alloc (.cells #[.int .i32 c] 21)) (IntB ((w.alloc (.cells #[.int .i64 f] 3)).alloc (.cells #[.int .i32 c] 21)) (fbR (fun r=>decide (Cn.fam r.kind=f) && Cn.speaks r c) 0 rs))) :=
    x5E _ _ _ v rs _ hv1 (fun k vt W hk hW _=>y3H _ vt f c _ _ W (hv.fit hk) (aK.on hW) (by rw [hW.cell (x0a bz)]; exact bz) (by rw [hW.cell (x0a bA)]; exact bA) (by omega) hc)
   obtain ⟨ao,cap,rfl,h1,h2⟩:=hv.shape;clear hv hg hv1 aK bz bA e;generalize fbR (fun r=>decide (Cn.fam r.kind=f) && Cn.speaks r c) 0 rs=x at *;go_enter func116,ntmps116;go_wp2_with fail;refine (V K).mono ?_;rintro e w1 ⟨rfl,ac⟩;have HF:IntB w x (.returned (.int .i64 x)) w1:=⟨rfl,x0b a7 ac⟩;clear K a7 ac;go_wp2;go_ret;exact HF
theorem x2D (c a b:Int) (w:World):Calls prog 148 #[.int .i32 c,.int .i32 a,.int .i32 b] w fun e w'=>e=.returned (.bool (decide (a<=c/\c<=b)))/\w'=w:=by
 by_cases h1:a<=c
 ·by_cases h2:c<=b
  ·rw [d0t ⟨h1,h2⟩];go_enter func148,ntmps148;go_wp2;go_ret;exact ⟨rfl,rfl⟩
  ·rw [d0f (fun h=>h2 h.2)];go_enter func148,ntmps148;go_wp2;go_ret;exact ⟨rfl,rfl⟩
 ·rw [d0f (fun h=>h1 h.1)];go_enter func148,ntmps148;go_wp2;go_ret;exact ⟨rfl,rfl⟩
theorem x4U (c:Int) (w:World):Calls prog 146 #[.int .i32 c] w fun e w'=>e=.returned (.bool (Cn.syl c))/\w'=w:=by
 have K:=O (x2D c 44032 55203 w);have e1:decide (44032<=c/\c<=55203)=Cn.syl c:=rfl;rw [e1] at K;generalize Cn.syl c=r at *;clear e1;go_enter func146,ntmps146;go_wp2_with fail;refine (V K).mono ?_;rintro e w1 ⟨rfl,al⟩;subst w1;clear K;go_wp2;go_ret;exact ⟨rfl,rfl⟩
theorem y0Z (c:Int) (w:World) (h:44032<=c/\c<=55203):Calls prog 147 #[.int .i32 c] w fun e w'=>e=.returned (.int .i32 ((c - 44032) % 28))/\w'=w:=by
 obtain ⟨h1,h2⟩:=h;have e1:(c - 44032).tmod 28=(c - 44032) % 28:=Int.tmod_eq_emod_of_nonneg (by omega);go_enter func147,ntmps147;go_wp2;go_ret;exact ⟨rfl,rfl⟩
def sylA (c:Int):Int:=if (c - 44032) % 28=0 then 4352+(c - 44032) / 588 else c - (c - 44032) % 28
def sylB (c:Int):Int:=if (c - 44032) % 28=0 then 4449+(c - 44032) / 28 % 21 else 4519+(c - 44032) % 28
theorem y5t {rs:List Rec} {c:Int} (hs:Cn.syl c=true):Cn.opn rs c=[sylA c,sylB c]:=by
 unfold Cn.opn sylA sylB;rw [if_pos hs];split <;> rfl
theorem z0A {c:Int} (h:44032<=c/\c<=55203):(0<=sylA c/\sylA c<=100000)/\0<=sylB c/\sylB c<=100000:=by
 unfold sylA sylB;split <;> omega
theorem x5f (c:Int) (w:World) (h:44032<=c/\c<=55203):Calls prog 221 #[.int .i32 c] w fun e w'=>e=.returned (.tuple #[.int .i32 (sylA c),.int .i32 (sylB c)])/\w'=w:=by
 have K:=O (y0Z c w h);obtain ⟨h1,h2⟩:=h;by_cases h28:(c - 44032) % 28=0
 ·have eA:sylA c=4352+(c - 44032) / 28 / 21:=(by unfold sylA; rw [if_pos h28]; omega);have eB:sylB c=4449+(c - 44032) / 28 % 21:=(by unfold sylB; rw [if_pos h28]);rw [eA,eB];rw [h28] at K;have e3:(c - 44032).tdiv 28=(c - 44032) / 28:=Int.tdiv_eq_ediv_of_nonneg (by omega);have e4:((c - 44032) / 28).tmod 21=(c - 44032) / 28 % 21:=Int.tmod_eq_emod_of_nonneg (by omega);have e5:((c - 44032) / 28).tdiv 21=(c - 44032) / 28 / 21:=Int.tdiv_eq_ediv_of_nonneg (by omega);clear eA eB;go_enter func221,ntmps221;go_wp2_with fail;refine (V K).mono ?_;rintro e w1 ⟨rfl,al⟩;subst w1;clear K;go_wp2;go_ret2;exact ⟨rfl,rfl⟩
 ·have eA:sylA c=c - (c - 44032) % 28:=(by unfold sylA; rw [if_neg h28]);have eB:sylB c=4519+(c - 44032) % 28:=(by unfold sylB; rw [if_neg h28]);rw [eA,eB];have g1:0<(c - 44032) % 28:=(by omega);have g2:(c - 44032) % 28<28:=(by omega);clear eA eB h28;generalize (c - 44032) % 28=t at *;go_enter func221,ntmps221;go_wp2_with fail;refine (V K).mono ?_;rintro e w1 ⟨rfl,al⟩;subst w1;clear K;go_wp2;go_ret2;exact ⟨rfl,rfl⟩
theorem fam7:Cn.fam 7=3:=by decide
theorem fam6:Cn.fam 6=2:=by decide
theorem x3R (v:Value) (rs:List Rec) (c:Int) (w:World) (hg:Glob w) (hv:Rcs w v rs) (hc:Rune c):Calls prog 222 #[v,.int .i32 c] w (IntB w (Cn.find rs 3 c)):=by
 have K0:=O (x1a 7 w hg (by unfold I64; omega));rw [fam7] at K0;have K:=O (fun W (hb:Bw w W)=>x6D v rs 3 c W (hg.on hb) (hv.below hb) (by unfold I64; omega) hc);generalize Cn.find rs 3 c=r at *;obtain ⟨ao,cap,rfl,_,_⟩:=hv.shape;clear hg hv hc;go_enter func222,ntmps222;go_wp2_with fail;refine (V K0).mono ?_;rintro e w1 ⟨rfl,ac⟩;have K2:=O (V K w1 ac);clear K K0;go_wp2_with fail;refine (V K2).mono ?_;rintro e w2 ⟨rfl,aA⟩;have HF:IntB w r (.returned (.int .i64 r)) w2:=⟨rfl,x0b ac aA⟩;clear K2 ac aA;go_wp2;go_ret;exact HF
theorem z1i:z0M:=by
 intro v rs c w hg hv hc;have K0:=O (x1a 6 w hg (by unfold I64; omega));rw [fam6] at K0;have K:=O (fun W (hb:Bw w W)=>x6D v rs 2 c W (hg.on hb) (hv.below hb) (by unfold I64; omega) hc);obtain ⟨c0,c1⟩:=hc;rcases hit_at hv 2 c with ⟨h1,h2⟩ | ⟨k,b,off,cap,h1,hkl,h2,rfl,hl,hm,hr,hf⟩
 ·have a8:Cn.cls rs c=0:=(by unfold Cn.cls; rw [h2]);rw [a8];rw [h1] at K;obtain ⟨ao,cap,rfl,_,_⟩:=hv.shape;clear hv h1 h2 a8 hg;go_enter func190,ntmps190;go_wp2_with fail;refine (V K0).mono ?_;rintro e w1 ⟨rfl,ac⟩;have K2:=O (V K w1 ac);clear K K0;go_wp2_with fail;refine (V K2).mono ?_;rintro e w2 ⟨rfl,aA⟩;have HF:IntB w 0 (.returned (.int .i64 0)) w2:=⟨rfl,x0b ac aA⟩;clear K2 ac aA;go_wp2;go_ret;exact HF
 ·have a8:Cn.cls rs c=(rs.getD k Cn.none).n:=(by unfold Cn.cls; rw [h2]);rw [a8];rw [h1] at K;have HR:=O hr;have af:=hv.1;clear hv h1 h2 a8 hr hf hg;generalize rs.getD k Cn.none=r at *;go_enter func190,ntmps190;go_wp2_with fail;refine (V K0).mono ?_;rintro e w1 ⟨rfl,ac⟩;have K2:=O (V K w1 ac);clear K K0;go_wp2_with fail;refine (V K2).mono ?_;rintro e w2 ⟨rfl,aA⟩;have x3:=((V HR).below (x0b ac aA)).n;have HF:IntB w r.n (.returned (.int .i64 r.n)) w2:=⟨rfl,x0b ac aA⟩;clear K2 ac aA HR;generalize r.n=n at *;go_wp2;go_ret;exact HF
def OpB (w0 w:World) (zs:List Int) (e:Ending) (w':World):Prop:=∃ v,e=.returned v/\(Sk .i32 w0 v zs\/Ok .i32 21 w' w.heap.size v zs)/\Below w.heap.size w w'
theorem x6g (v:Value) (rs:List Rec) (c:Int) (w0 w:World) (hg:Glob w) (hv:Rcs w0 v rs) (hw:Bw w0 w) (hc:Rune c):Calls prog 188 #[v,.int .i32 c] w (OpB w0 w (Cn.opn rs c)):=by
 have K0:=O (x4U c w);by_cases hs:Cn.syl c=true
 ·have aw:44032<=c/\c<=55203:=(by unfold Cn.syl at hs; simpa using hs);rw [hs] at K0;rw [y5t hs];obtain ⟨⟨fa0,fa1⟩,fb0,fb1⟩:=z0A aw;have K1:=O (x5f c w aw);obtain ⟨ao,cap,rfl,_,_⟩:=hv.shape
  have HF:OpB w0 w [sylA c,sylB c] (.returned (.slice (some ⟨w.heap.size,0,none⟩) 2 2)) (w.alloc (.cells #[.int .i32 (sylA c),.int .i32 (sylB c)] 21)) :=
   ⟨_,rfl,.inr (ok_two w _ _ (by omega) (by omega)),(b0r).alloc (l0r _) _⟩
  clear hv hg hw hs aw hc;generalize sylA c=a at *;generalize sylB c=b at *;go_enter func188,ntmps188;go_wp2_with fail;refine (V K0).mono ?_;rintro e w1 ⟨rfl,al⟩;subst w1;clear K0;go_wp2_with fail;refine (V K1).mono ?_;rintro e w1 ⟨rfl,al⟩;subst w1;clear K1;go_wp2;go_ret;exact HF
 ·have aw:Cn.syl c=false:=(by simpa using hs);rw [aw] at K0;have K:=O (x3R v rs c w hg (hv.below hw) hc);rcases hit_at hv 3 c with ⟨h1,h2⟩ | ⟨k,b,off,cap,h1,hkl,h2,rfl,hl,hm,hr,hf⟩
  ·have ho:Cn.opn rs c=[]:=(by unfold Cn.opn; rw [if_neg hs,h2]);rw [ho];rw [h1] at K;obtain ⟨ao,cap,rfl,_,_⟩:=hv.shape;clear hv h1 h2 ho hs aw hg hw hc;go_enter func188,ntmps188;go_wp2_with fail;refine (V K0).mono ?_;rintro e w1 ⟨rfl,al⟩;subst w1;clear K0;go_wp2_with fail;refine (V K).mono ?_;rintro e w1 ⟨rfl,hb⟩;have HF:OpB w0 w [] (.returned (.slice none 0 0)) w1:=⟨_,rfl,.inr (Ok.nil _ _ _ _),hb⟩;clear K hb;go_wp2;go_ret;exact HF
  ·have ho:Cn.opn rs c=(rs.getD k Cn.none).to:=(by unfold Cn.opn; rw [if_neg hs,h2]);rw [ho];rw [h1] at K;have af:=hv.1;obtain ⟨vt,x4,aO⟩:=hr.to;have bJ:w.cell? ⟨b,off+k * 8+4,none⟩=some vt:=(by rw [hw.cell (x0a x4)]; exact x4);have HX:Hid (∀ W,Bw w W->W.cell? ⟨b,off+k * 8+4,none⟩=some vt):=fun W hb=>(by rw [hb.cell (x0a bJ)]; exact bJ);have HS:=O aO;clear hv h1 h2 ho hs aw hr hf hg hw hc x4 bJ aO;generalize (rs.getD k Cn.none).to=zs at *;go_enter func188,ntmps188;go_wp2_with fail;refine (V K0).mono ?_;rintro e w1 ⟨rfl,al⟩;subst w1;clear K0;go_wp2_with fail;refine (V K).mono ?_;rintro e w1 ⟨rfl,hb⟩;have x4:=V HX w1 hb;have HF:OpB w0 w zs (.returned vt) w1:=⟨_,rfl,.inl (V HS),hb⟩;clear K hb HX HS;go_wp2;go_ret;exact HF
theorem y5h (w:World):(w.alloc (.cells #[] 21)).ownsRow w.heap.size 21 1 (.slice (some ⟨w.heap.size,0,none⟩) 0 0) 0 []:=by
 refine ⟨rfl,.inr ⟨w.heap.size,0,#[],rfl,l0r _,?_,l0r _,by unfold maxLen; omega,rfl,rfl⟩⟩;show (w.heap.push _)[w.heap.size]?=_;simp
theorem z1Q (ad:Addr) (n cap:Nat) (w:World):(binOp BinOp.eql 23 (.slice (some ad) n cap) (.slice none 0 0)).run prog w=.ok (.bool false) w:=by kernel_rfl
theorem y9Y (w:World):(binOp BinOp.eql 23 (.slice none 0 0) (.slice none 0 0)).run prog w=.ok (.bool true) w:=by kernel_rfl
theorem x4I (v:Value) (zs:List Int) (w:World) (hv:Sk .i32 w v zs) (hl:zs.length<=1000000000):Calls prog 122 #[v] w (x0i w zs):=by
 obtain ⟨i0,hi,bg,bh,aH⟩:=info_parts Tryz.info21;have ba:=hv.1;have b8:(zs.map (Value.int .i32)).length=zs.length:=List.length_map _;rcases hv.2.src with ⟨hnil,rfl⟩ | ⟨ad,ay,rfl,hsrc⟩
 ·obtain rfl:zs=[]:=(by simpa using hnil);have HF:x0i w [] (.returned (.slice none 0 0)) w:=⟨_,rfl,Ok.nil _ _ _ _,b0r⟩;have hq:=y9Y;clear hv;go_enter func122,ntmps122;go_wp2;go_ret;exact HF
 ·have HE:=O (y5h w);rw [b8]
  have aP:∀ j u,(zs.map (Value.int .i32))[j]?=some u->(w.alloc (.cells #[] 21)).cell? (ad.add j)=some u:=by
   intro j u hj;have h:=hsrc j u hj;have ak:(ad.add j).block<w.heap.size:=World.block_lt_of_cell? w _ h;exact (Below.cell ((Below.refl w.heap.size w).alloc (l0r _) _) ak).trans h
  have HB:Bw w (w.alloc (.cells #[] 21)):=(b0r).alloc (l0r _) _;have hq:=z1Q;clear hv hsrc;go_enter func122,ntmps122;go_wp2_with (at_builtin; refine wpList_append_own _ rfl (.tmp 5) (.tmp 6) 23 rfl w.heap.size 21 i0 (.int .i32 0) 1 4 underlying23 hi bg bh aH rfl (by decide) _ _ _ rfl (V HE) ad zs.length ay (zs.map (Value.int .i32)) rfl (by simp) aP (fun u hu=>by obtain ⟨z,_,rfl⟩:=List.mem_map.1 hu; rfl) (by unfold maxLen; omega) (by omega) (by simp) ?_);intro v9 w9 aN bU _;have bQ:Bw w w9:=HB.grown bU HB.size (fun k hk=>by simp [Value.ownBlock] at hk; omega);have HF:x0i w zs (.returned v9) w9:=⟨v9,rfl,Ok.of ba (by omega) aN (by simp) (by simp),bQ⟩;clear aN bU bQ aP HE HB;go_wp2;go_ret;exact HF
theorem y6s {w:World} {v:Value} {rs:List Rec} (hv:Rcs w v rs) (c:Int):(Cn.opn rs c).length<=1000000000:=by
 unfold Cn.opn;split
 ·split <;> simp
 ·rcases hit_at hv 3 c with ⟨_,h2⟩ | ⟨k,b,off,cap,h1,hkl,h2,_,_,_,_,hf⟩
  ·rw [h2]; simp
  ·rw [h2]; exact hf.len
theorem openC:OpenC:=by
 intro v rs c w hg hv hc;have K:=O (x6g v rs c w w hg hv (b0r) hc);have hl:=y6s hv c;obtain ⟨ao,cap,rfl,_,_⟩:=hv.shape;clear hg hv hc;generalize Cn.opn rs c=zs at *;go_enter func245,ntmps245;go_wp2_with fail;refine (V K).mono ?_;rintro e w1 ⟨v1,rfl,hk,ac⟩
 have hs:Sk .i32 w1 v1 zs:=by
  rcases hk with h | h
  ·exact h.below ac
  ·exact h.sk
 have K2:=O (x4I v1 zs w1 hs hl);clear K hk hs;go_wp2_with fail;refine (V K2).mono ?_;rintro e w2 ⟨v2,rfl,bW,aA⟩;have HF:x0i w zs (.returned v2) w2:=⟨v2,rfl,bW.lower ac.size,x0b ac aA⟩;clear K2 bW ac aA;go_wp2;go_ret;exact HF
theorem primC:PrimC:=by
 intro v rs c w hg hv hc;have K0:=O (x4U c w);by_cases hs:Cn.syl c=true
 ·have aw:44032<=c/\c<=55203:=(by unfold Cn.syl at hs; simpa using hs);rw [hs] at K0;have hp:Cn.prim rs c=some (sylA c,sylB c):=(by unfold Cn.prim; rw [if_pos hs,y5t hs]; rfl);rw [hp];have K1:=O (x5f c w aw);obtain ⟨ao,cap,rfl,_,_⟩:=hv.shape;have HF:x4B w (some (sylA c,sylB c)) (.returned (.tuple #[.int .i32 (sylA c),.int .i32 (sylB c),.bool true])) w:=⟨rfl,b0r⟩;clear hv hg hs aw hc hp;generalize sylA c=a at *;generalize sylB c=b at *;go_enter func191,ntmps191;go_wp2_with fail;refine (V K0).mono ?_;rintro e w1 ⟨rfl,al⟩;subst w1;clear K0;go_wp2_with fail;refine (V K1).mono ?_;rintro e w1 ⟨rfl,al⟩;subst w1;clear K1;go_wp2;go_ret3;exact HF
 ·have aw:Cn.syl c=false:=(by simpa using hs);rw [aw] at K0;have K:=O (x3R v rs c w hg hv hc);rcases hit_at hv 3 c with ⟨h1,h2⟩ | ⟨k,b,off,cap,h1,hkl,h2,rfl,hl,hm,hr,hf⟩
  ·have ho:Cn.prim rs c=none:=(by unfold Cn.prim; rw [if_neg hs,h2]);rw [ho];rw [h1] at K;obtain ⟨ao,cap,rfl,_,_⟩:=hv.shape;clear hv h1 h2 ho hs aw hg hc;go_enter func191,ntmps191;go_wp2_with fail;refine (V K0).mono ?_;rintro e w1 ⟨rfl,al⟩;subst w1;clear K0;go_wp2_with fail;refine (V K).mono ?_;rintro e w1 ⟨rfl,hb⟩;have HN:x4B w none (.returned (.tuple #[.int .i32 0,.int .i32 0,.bool false])) w1:=⟨rfl,hb⟩;clear K hb;go_wp2;go_ret3;exact HN
  ·have bl:Hid ((rs.getD k Cn.none).kind=7->(rs.getD k Cn.none).to.length=2->Cn.prim rs c=some ((rs.getD k Cn.none).to.getD 0 0,(rs.getD k Cn.none).to.getD 1 0)):=fun a b=>by
    unfold Cn.prim; rw [if_neg hs,h2]; simp only; rw [if_pos ⟨a,b⟩]
   have a6:Hid (¬ ((rs.getD k Cn.none).kind=7/\(rs.getD k Cn.none).to.length=2)->Cn.prim rs c=none):=fun a=>by
    unfold Cn.prim; rw [if_neg hs,h2]; simp only; rw [if_neg a]
   rw [h1] at K;have HR:=O hr;have af:=hv.1;clear hv h1 h2 hs aw hr hf hg hc;generalize rs.getD k Cn.none=r at *;generalize Cn.prim rs c=pr at *;go_enter func191,ntmps191;go_wp2_with fail;refine (V K0).mono ?_;rintro e w1 ⟨rfl,al⟩;subst w1;clear K0;go_wp2_with fail;refine (V K).mono ?_;rintro e w1 ⟨rfl,hb⟩;have aV:=(V HR).below hb;obtain ⟨vt,x4,aO⟩:=aV.to;have x0:=aV.kind;clear K HR aV;generalize r.to=zs at *;generalize r.kind=kd at *;obtain ⟨bI,ay,rfl,ca,ht2⟩:=aO.shape;have HN:x4B w none (.returned (.tuple #[.int .i32 0,.int .i32 0,.bool false])) w1:=⟨rfl,hb⟩;by_cases h7:kd=7
   ·subst h7;by_cases aH:zs.length=2
    ·obtain rfl:=V bl rfl aH;clear bl a6;obtain ⟨tb,bj,bi,he,_,_,bE⟩:=aO.place (by omega);obtain ⟨rfl,rfl⟩:bI=some ⟨tb,bj,none⟩/\ay=bi:=(by simpa using he);have y0:=bE 0 (by omega);have y1:=bE 1 (by omega);rw [Nat.add_zero] at y0;rw [aH] at x4 ca;generalize zs.getD 0 0=p at *;generalize zs.getD 1 0=q at *;have HF:∀ n,x4B w (some (p,q)) (.returned (.tuple #[.int .i32 p,.int .i32 q,.bool true])) (w1.drewN n):=fun n=>⟨rfl,x0b hb (x0k ⟨n,rfl⟩)⟩;clear hb bE he aO HN aH;go_wp2;go_big_quiet (fail);go_wp2;go_ret3;exact HF _
    ·obtain rfl:=V a6 (fun h=>aH h.2);clear bl a6;have q2:((zs.length:Int) != 2)=true:=(by simp; omega);clear aO hb;go_wp2;go_ret3;exact HN
   ·obtain rfl:=V a6 (fun h=>h7 h.1);clear bl a6;have q7:(kd != 7)=true:=(by simp [h7]);clear aO hb;go_wp2;go_ret3;exact HN
theorem y4f (v:Value) (zs:List Int) (c:Int) (w:World) (hv:Sk .i32 w v zs) (hl:zs.length<=1000000000):Calls prog 126 #[v,.int .i32 c] w (fun e w'=>∃ n:Int,e=.returned (.int .i64 n)/\(0<=n↔c∈zs)/\w'=w):=by
 rcases Nat.eq_zero_or_pos zs.length with h0 | h0
 ·obtain ⟨ao,cap,rfl,_,_⟩:=hv.shape;obtain rfl:zs=[]:=List.eq_nil_of_length_eq_zero h0;clear hv;go_enter func126,ntmps126;go_wp2;refine wp_loop_rounds 1 ?_;rw [rounds_succ];go_wp2;go_ret;exact ⟨-1,rfl,by simp,rfl⟩
 ·obtain ⟨b,off,cap,rfl,b6,b7,hc⟩:=hv.place h0;have HC:=O hc;clear hv hc;go_enter func126,ntmps126;go_wp2;go_loopw [5,8] (fun _ i wr=>∃ k:Nat,i=.int .i64 k/\k<=zs.length/\wr=w/\Hid (∀ j,j<k->zs.getD j 0≠c)) (fun _ i _=>zs.length - (intOf i).toNat)
  case atStart=>exact ⟨0,rfl,by omega,rfl,fun j hj=>by omega⟩
  case round =>
   obtain ⟨k,rfl,hk,rfl,bc⟩:=hrel;by_cases ak:k<zs.length
   ·have a0:=V HC k ak;by_cases he:zs.getD k 0=c
    ·have HM:Hid (c∈zs):=by
      show c∈zs;rw [<- he]; simp [List.getD,ak]
     rw [he] at a0;have bS:(c==c)=true:=(by simp);clear HC he bc;go_wp2;go_ret;exact ⟨k,rfl,⟨fun _=>V HM,fun _=>by omega⟩,rfl⟩
    ·have bS:(c==zs.getD k 0)=false:=by
      rw [beq_eq_false_iff_ne]; exact fun e=>he e.symm
     have HN:Hid (∀ j,j<k+1->zs.getD j 0≠c):=fun j hj=>by
      rcases Nat.lt_or_ge j k with h | h
      ·exact V bc j h
      ·obtain rfl:j=k:=(by omega);exact he
     clear HC bc he;generalize zs.getD k 0=t at a0 bS;go_wp2
     go_roundw
     case rel=>exact ⟨k+1,by go_num,by omega,by first | rfl | trivial,HN⟩
     case measure=>simp [intOf]; omega
   ·have HM:Hid (¬ c∈zs):=fun hm=>by
     obtain ⟨j,hj,e⟩:=List.getElem_of_mem hm;exact V bc j (by omega) (by simp [List.getD,hj,e])
    clear HC bc;go_wp2;go_ret;exact ⟨-1,rfl,⟨fun h=>by omega,fun h=>absurd h (V HM)⟩,rfl⟩
theorem x2l (v:Value) (zs:List Int) (c:Int) (w:World) (hv:Sk .i32 w v zs) (hl:zs.length<=1000000000):Calls prog 83 #[v,.int .i32 c] w (fun e w'=>e=.returned (.bool (decide (c∈zs)))/\w'=w):=by
 have K:=O (y4f v zs c w hv hl);obtain ⟨ao,cap,rfl,_,_⟩:=hv.shape;have HT:Hid (c∈zs->decide (c∈zs)=true):=fun h=>d0t h;have HN:Hid (¬ c∈zs->decide (c∈zs)=false):=fun h=>d0f h;generalize decide (c∈zs)=b at *;clear hv;go_enter func83,ntmps83;go_wp2_with fail;refine (V K).mono ?_;rintro e w1 ⟨n,rfl,hn,al⟩;subst w1;clear K;by_cases h:0<=n
 ·obtain rfl:=V HT (hn.1 h);clear hn HT HN;go_wp2;go_ret;exact ⟨rfl,rfl⟩
 ·obtain rfl:=V HN (fun hm=>h (hn.2 hm));have hd:decide (0<=n)=false:=d0f h;clear hn HT HN;go_wp2;go_ret;exact ⟨rfl,rfl⟩
structure Wk (b0:Nat) (W:World) (p:Nat) (fv:Value) (aa ab:List Int) (wv ev:Value):Prop where
 blk:W.heap[p]?=some (.cells #[fv,wv,ev] 243 (0,0))
 own:b0<=p
 w:Ok .i32 21 W b0 wv aa
 e:Ok .i32 21 W b0 ev ab
 ap:∀ g,wv.ownBlock=some g->ev.ownBlock≠some g
structure Frm (W W':World) (p:Nat) (wv ev:Value):Prop where
 os:W'.os=W.os
 tape:W'.tape=W.tape
 output:W'.output=W.output
 size:W.heap.size<=W'.heap.size
 keep:∀ g,g<W.heap.size->g≠p->wv.ownBlock≠some g->ev.ownBlock≠some g->W'.heap[g]?=W.heap[g]?
def x0K (W:World) (v v':Value):Prop:=∀ g,v'.ownBlock=some g->v.ownBlock=some g\/W.heap.size<=g
theorem x0K.refl (W:World) (v:Value):x0K W v v:=fun _ h=>.inl h
theorem x0K.trans {W W1:World} {a b c:Value} (h:x0K W a b) (k:x0K W1 b c) (hs:W.heap.size<=W1.heap.size):x0K W a c:=fun g hg=>by
 rcases k g hg with h1 | h1
 ·exact h g h1
 ·exact .inr (by omega)
theorem x0K.trans_left {W W1:World} {a b:Value} (h:x0K W1 a b) (hs:W.heap.size<=W1.heap.size):x0K W a b:=(x0K.refl W a).trans h hs
theorem y4I {w:World} {B:Nat} {v:Value} {zs:List Int} (h:Ok .i32 21 w B v zs) {g:Nat} (hg:v.ownBlock=some g):∃ cur,w.heap[g]?=some (.cells cur 21 (0,0)):=by
 rcases h.2.2.2 with ⟨rfl,_⟩ | ⟨k,cap,cur,rfl,_,hh,_⟩
 ·cases hg
 ·simp [Value.ownBlock] at hg;subst hg;exact ⟨cur,hh⟩
theorem Wk.pw {b0:Nat} {W:World} {p:Nat} {fv:Value} {aa ab:List Int} {wv ev:Value} (h:Wk b0 W p fv aa ab wv ev):wv.ownBlock≠some p/\ev.ownBlock≠some p:=by
 refine ⟨fun e=>?_,fun e=>?_⟩
 ·obtain ⟨cur,hc⟩:=y4I h.w e;rw [h.blk] at hc; simp at hc
 ·obtain ⟨cur,hc⟩:=y4I h.e e;rw [h.blk] at hc; simp at hc
theorem Wk.lt {b0:Nat} {W:World} {p:Nat} {fv:Value} {aa ab:List Int} {wv ev:Value} (h:Wk b0 W p fv aa ab wv ev):p<W.heap.size:=by
 have:=h.blk;rcases Nat.lt_or_ge p W.heap.size with h1 | h1
 ·exact h1
 ·rw [Array.getElem?_eq_none h1] at this; cases this
theorem Wk.below {b0:Nat} {W W':World} {p:Nat} {fv:Value} {aa ab:List Int} {wv ev:Value} (h:Wk b0 W p fv aa ab wv ev) (hb:Bw W W'):Wk b0 W' p fv aa ab wv ev :=
 ⟨by rw [hb.block p h.lt]; exact h.blk,h.own,h.w.below hb,h.e.below hb,h.ap⟩
theorem Frm.below {b0:Nat} {W W':World} {p:Nat} {fv:Value} {aa ab:List Int} {wv ev:Value} (h:Wk b0 W p fv aa ab wv ev) (hf:Frm W W' p wv ev) (hs:b0<=W.heap.size):Below b0 W W' :=
 ⟨hf.os,hf.tape,hf.output,hf.size,fun k hk=>hf.keep k (by omega) (by have:=h.own; omega) (fun e=>by have:=(h.w.2.2.lt k e).1; omega) (fun e=>by have:=(h.e.2.2.lt k e).1; omega)⟩
theorem Frm.of_below {W W':World} {p:Nat} {wv ev:Value} (hb:Bw W W'):Frm W W' p wv ev:=⟨hb.os,hb.tape,hb.output,hb.size,fun g hg _ _ _=>hb.block g hg⟩
theorem Frm.trans {W W1 W2:World} {p:Nat} {wv ev b4 bO:Value} (h:Frm W W1 p wv ev) (k:Frm W1 W2 p b4 bO) (hw:x0K W wv b4) (he:x0K W ev bO):Frm W W2 p wv ev:=by
 refine ⟨k.os.trans h.os,k.tape.trans h.tape,k.output.trans h.output,Nat.le_trans h.size k.size,fun g hg h1 h2 h3=>?_⟩;rw [k.keep g (by have:=h.size; omega) h1 (fun e=>?_) (fun e=>?_),h.keep g hg h1 h2 h3]
 ·rcases hw g e with h4 | h4
  ·exact h2 h4
  ·omega
 ·rcases he g e with h4 | h4
  ·exact h3 h4
  ·omega
theorem Wk.taken {b0:Nat} {W w1:World} {p:Nat} {fv:Value} {aa ab:List Int} {wv ev v':Value} {o:Obj} {c:Int} (h:Wk b0 W p fv aa ab wv ev) (hl:ab.length<=40) (hc:Rune c)
  (aU:w1.ownsRow b0 21 1 v' (ab.length+1) (ab.map (Value.int .i32)++[.int .i32 c])) (hg:(W.alloc o).grownBy w1 ev.ownBlock) (bx:v'.ownBlock=ev.ownBlock\/v'.ownBlock=some (W.heap.size+1)) :
  w1.heap[p]?=some (.cells #[fv,wv,ev] 243 (0,0))/\Wk b0 (w1.setCell ⟨p,2,none⟩ v') p fv aa (ab++[c]) wv v'/\Frm W (w1.setCell ⟨p,2,none⟩ v') p wv ev/\x0K W ev v':=by
 have hp:=h.lt;obtain ⟨a5,aZ⟩:=h.pw;have kA:∀ g,g<W.heap.size->(W.alloc o).heap[g]?=W.heap[g]?:=fun g hg=>((Below.refl W.heap.size W).alloc (l0r _) _).block g hg
 have k1:∀ g,g<W.heap.size->ev.ownBlock≠some g->w1.heap[g]?=W.heap[g]?:=fun g h1 h2=>by
  rw [hg.block g (by simp; omega) (fun e=>h2 e.symm),kA g h1]
 have bD:W.heap.size+1<=w1.heap.size:=(by simpa using hg.size);have hb:w1.heap[p]?=some (.cells #[fv,wv,ev] 243 (0,0)):=by rw [k1 p hp aZ]; exact h.blk
 have av:x0K W ev v':=fun g hg'=>by
  rcases bx with e | e
  ·exact .inl (e ▸ hg')
  ·rw [e] at hg';simp at hg';exact .inr (by omega)
 have bd:Ok .i32 21 w1 b0 v' (ab++[c]):=by
  refine Ok.of (h.e.1.snoc (x1X hc)) (by simp; omega) aU (by simp) (by simp)
 have aT:∀ g,v'.ownBlock=some g->g≠p:=fun g h1 h2=>by
  subst h2;rcases av g h1 with h3 | h3
  ·exact aZ h3
  ·omega
 refine ⟨hb,⟨?_,h.own,?_,?_,?_⟩,?_,av⟩
 ·rw [x0f hb];rfl
 ·refine h.w.keep fun g h1=>?_;have ak:=(h.w.2.2.lt g h1).2;rw [x0g _ (fun e=>by subst e; exact a5 h1),k1 g ak (h.ap g h1)]
 ·refine bd.keep fun g h1=>?_;rw [x0g _ (aT g h1)]
 ·intro g h1 h2;rcases av g h2 with h3 | h3
  ·exact h.ap g h1 h3
  ·have:=(h.w.2.2.lt g h1).2;omega
 ·refine ⟨?_,?_,?_,by rw [x0N]; omega,fun g h1 h2 _ h4=>by rw [x0g _ h2,k1 g h1 h4]⟩
  ·have:=(x0c (Below.refl 0 w1) (g:=p) (j:=2) (Nat.zero_le _) v').os;rw [this,hg.os]; rfl
  ·have:=(x0c (Below.refl 0 w1) (g:=p) (j:=2) (Nat.zero_le _) v').tape;rw [this,hg.tape]; rfl
  ·have:=(x0c (Below.refl 0 w1) (g:=p) (j:=2) (Nat.zero_le _) v').output;rw [this,hg.output]; rfl
def Gave (n:Int) (e:Ending):Prop:=e=.panicked [{ v:=.iface 37 (.int .i64 n),recovered:=false }]
def y5U (b0:Nat) (W:World) (p:Nat) (fv:Value) (aa ab:List Int) (wv ev:Value) (c:Int) (e:Ending) (W':World):Prop :=
 (32<=ab.length/\Gave 2 e/\W'=W)\/(ab.length<32/\e=.returned (.tuple #[])/\∃ ar,Wk b0 W' p fv aa (ab++[c]) wv ar/\Frm W W' p wv ev/\x0K W ev ar)
theorem y7M (b0:Nat) (W:World) (p:Nat) (fv:Value) (aa ab:List Int) (wv ev:Value) (c:Int) (h:Wk b0 W p fv aa ab wv ev) (a7:b0<=W.heap.size) (hl:ab.length<=32) (hc:Rune c) :
  Calls prog 220 #[.pointer (some ⟨p,0,none⟩),.int .i32 c] W (y5U b0 W p fv aa ab wv ev c):=by
 obtain ⟨i0,hi,bg,bh,aH⟩:=info_parts Tryz.info21;have x2:W.cell? ⟨p,2,none⟩=some ev:=cell_of (j:=2) h.blk (by show 2<3; omega);obtain ⟨ao,cap,rfl,_,_⟩:=h.e.sk.shape;by_cases h32:ab.length=32
 ·have HF:y5U b0 W p fv aa ab wv (.slice ao ab.length cap) c (.panicked [{ v:=.iface 37 (.int .i64 2),recovered:=false }]) W:=.inl ⟨by omega,rfl,rfl⟩;rw [h32] at x2 HF;have hq:((32:Nat):Int)=32:=rfl;clear h;go_enter func220,ntmps220;go_wp2;exact ⟨rfl,HF⟩
 ·have hq:((ab.length:Int)==32)=false:=(by rw [beq_eq_false_iff_ne]; omega);have aG:∀ o,(W.alloc o).ownsRow b0 21 1 (.slice ao ab.length cap) ab.length (ab.map (Value.int .i32)):=fun o=>h.e.row.alloc o;have aC:=O aG;have HT:=O (fun o v' w1 a b c'=>h.taken (o:=o) (v':=v') (w1:=w1) (by omega) hc a b c');have bB:ab.length<32:=(by omega);clear aG h h32;go_enter func220,ntmps220;go_wp2_with (at_builtin; refine wpList_append_own_at _ rfl (.tmp 15) (.tmp 17) 23 rfl b0 21 i0 (.int .i32 0) 1 4 underlying23 hi bg bh aH rfl (by decide) _ _ _ rfl (V aC _) ⟨W.heap.size,0,none⟩ 1 1 [.int .i32 c] rfl rfl (cell_one_new _ _ _) (x2O _ _) (by unfold maxLen; omega) (by omega) (by simp; omega) ?_);intro v' w1 am aK _ aE;obtain ⟨ac,al,a9,bb⟩:=V HT _ v' w1 am aK aE;obtain ⟨bM,au,rfl,_,_⟩:=al.e.sk.shape;have y2:w1.cell? ⟨p,2,none⟩=some (.slice ao ab.length cap):=cell_of (j:=2) ac (by show 2<3; omega);have yf:=x0e (j:=2) ac;have HF:y5U b0 W p fv aa ab wv (.slice ao ab.length cap) c (.returned (.tuple #[])) (w1.setCell ⟨p,2,none⟩ (.slice bM (ab++[c]).length au)):=.inr ⟨bB,rfl,_,al,a9,bb⟩;clear HT aC am aK aE al a9 bb ac x2;generalize (ab++[c]).length=m at *;go_wp2;go_end0;exact HF
def x8S (g:Nat) (fa cb:Array Value) (rs:List Rec) (w0:World):Prop:=∀ (c:Int) (W:World),Below w0.heap.size w0 W->Rune c->Calls prog g (fa++#[.int .i32 c]++cb) W (OpB w0 W (Cn.opn rs c))
def x3Y (b0:Nat) (W:World) (p:Nat) (fv:Value) (aa:List Int) (wv ev:Value) (r:List Int × Int) (e:Ending) (W':World):Prop :=
 Frm W W' p wv ev/\((r.2≠0/\Gave r.2 e)\/(r.2=0/\e=.returned (.tuple #[])/\∃ aI ar,Wk b0 W' p fv aa r.1 aI ar/\x0K W wv aI/\x0K W ev ar))
theorem Wk.down {b0:Nat} {W w1:World} {p:Nat} {fv:Value} {aa ab:List Int} {wv ev v':Value} {o:Obj} {c:Int} (h:Wk b0 W p fv aa ab wv ev) (hl:aa.length<=40) (hc:Rune c)
  (aU:w1.ownsRow b0 21 1 v' (aa.length+1) (aa.map (Value.int .i32)++[.int .i32 c])) (hg:(W.alloc o).grownBy w1 wv.ownBlock) (bx:v'.ownBlock=wv.ownBlock\/v'.ownBlock=some (W.heap.size+1)) :
  w1.heap[p]?=some (.cells #[fv,wv,ev] 243 (0,0))/\Wk b0 (w1.setCell ⟨p,1,none⟩ v') p fv (aa++[c]) ab v' ev/\Frm W (w1.setCell ⟨p,1,none⟩ v') p wv ev/\x0K W wv v':=by
 have hp:=h.lt;obtain ⟨a5,aZ⟩:=h.pw;have kA:∀ g,g<W.heap.size->(W.alloc o).heap[g]?=W.heap[g]?:=fun g hg=>((Below.refl W.heap.size W).alloc (l0r _) _).block g hg
 have k1:∀ g,g<W.heap.size->wv.ownBlock≠some g->w1.heap[g]?=W.heap[g]?:=fun g h1 h2=>by
  rw [hg.block g (by simp; omega) (fun e=>h2 e.symm),kA g h1]
 have bD:W.heap.size+1<=w1.heap.size:=(by simpa using hg.size);have hb:w1.heap[p]?=some (.cells #[fv,wv,ev] 243 (0,0)):=by rw [k1 p hp a5]; exact h.blk
 have av:x0K W wv v':=fun g hg'=>by
  rcases bx with e | e
  ·exact .inl (e ▸ hg')
  ·rw [e] at hg';simp at hg';exact .inr (by omega)
 have bd:Ok .i32 21 w1 b0 v' (aa++[c]):=by
  refine Ok.of (h.w.1.snoc (x1X hc)) (by simp; omega) aU (by simp) (by simp)
 have aT:∀ g,v'.ownBlock=some g->g≠p:=fun g h1 h2=>by
  subst h2;rcases av g h1 with h3 | h3
  ·exact a5 h3
  ·omega
 refine ⟨hb,⟨?_,h.own,?_,?_,?_⟩,?_,av⟩
 ·rw [x0f hb];rfl
 ·refine bd.keep fun g h1=>?_;rw [x0g _ (aT g h1)]
 ·refine h.e.keep fun g h1=>?_;have ak:=(h.e.2.2.lt g h1).2;rw [x0g _ (fun e=>by subst e; exact aZ h1),k1 g ak (fun e=>h.ap g e h1)]
 ·intro g h1 h2;rcases av g h1 with h3 | h3
  ·exact h.ap g h3 h2
  ·have:=(h.e.2.2.lt g h2).2;omega
 ·refine ⟨?_,?_,?_,by rw [x0N]; omega,fun g h1 h2 h3 _=>by rw [x0g _ h2,k1 g h1 h3]⟩
  ·have:=(x0c (Below.refl 0 w1) (g:=p) (j:=1) (Nat.zero_le _) v').os;rw [this,hg.os]; rfl
  ·have:=(x0c (Below.refl 0 w1) (g:=p) (j:=1) (Nat.zero_le _) v').tape;rw [this,hg.tape]; rfl
  ·have:=(x0c (Below.refl 0 w1) (g:=p) (j:=1) (Nat.zero_le _) v').output;rw [this,hg.output]; rfl
theorem Wk.up {b0:Nat} {W:World} {p:Nat} {fv:Value} {aa ab:List Int} {ev:Value} {ao:Option Addr} {len cap:Nat} {c:Int} (h:Wk b0 W p fv (aa++[c]) ab (.slice ao len cap) ev) :
  Wk b0 (W.setCell ⟨p,1,none⟩ (.slice ao aa.length cap)) p fv aa ab (.slice ao aa.length cap) ev/\Frm W (W.setCell ⟨p,1,none⟩ (.slice ao aa.length cap)) p (.slice ao len cap) ev/\x0K W (.slice ao len cap) (.slice ao aa.length cap):=by
 obtain ⟨a5,aZ⟩:=h.pw
 have bC:∀ g,(Value.slice ao aa.length cap).ownBlock=some g->(Value.slice ao len cap).ownBlock=some g:=fun g hg=>by
  cases ao with
  | none=>simp [Value.ownBlock] at hg
  | some a=>simpa [Value.ownBlock] using hg
 have af:len=aa.length+1:=by
  obtain ⟨_,_,e,_,_⟩:=h.w.sk.shape;simp at e;omega
 have bd:Ok .i32 21 W b0 (.slice ao aa.length cap) aa:=by
  refine ⟨fun z hz=>h.w.1 z (by simp [hz]),by have:=h.w.2.1; simp at this ⊢; omega,?_⟩;have h2:=h.w.2.2;refine ⟨by simp,?_⟩;rcases h2.2 with ⟨e,_⟩ | ⟨g,au,cur,e,hg,hh,hn,hcap,bD,htake⟩
  ·simp at e; omega
  ·simp only [Value.slice.injEq] at e;obtain ⟨rfl,e2,rfl⟩:=e;simp only [List.length_map] at *;refine .inr ⟨g,cap,cur,rfl,hg,hh,by simp at hn; omega,hcap,bD,?_⟩;have:=congrArg (List.take (aa.length * 1)) htake;rw [List.take_take,List.map_append,List.take_append_of_le_length (by simp)] at this;rw [List.take_of_length_le (l:=aa.map (Value.int .i32)) (by simp)] at this;simpa [Nat.min_eq_left (show aa.length<=aa.length+1 by omega)] using this
 refine ⟨⟨?_,h.own,?_,?_,?_⟩,?_,fun g hg=>.inl (bC g hg)⟩
 ·rw [x0f h.blk];rfl
 ·refine bd.keep fun g h1=>?_;rw [x0g _ (fun e=>by subst e; exact a5 (bC _ h1))]
 ·refine h.e.keep fun g h1=>?_;rw [x0g _ (fun e=>by subst e; exact aZ h1)]
 ·exact fun g h1=>h.ap g (bC g h1)
 ·refine ⟨?_,?_,?_,by rw [x0N]; omega,fun g h1 h2 _ _=>by rw [x0g _ h2]⟩
  ·exact (x0c (Below.refl 0 W) (g:=p) (j:=1) (Nat.zero_le _) _).os
  ·exact (x0c (Below.refl 0 W) (g:=p) (j:=1) (Nat.zero_le _) _).tape
  ·exact (x0c (Below.refl 0 W) (g:=p) (j:=1) (Nat.zero_le _) _).output
theorem Sk.frm {W W':World} {p:Nat} {wv ev v:Value} {zs:List Int} (h:Sk .i32 W v zs) (hf:Frm W W' p wv ev) (hn:∀ b off len cap,v=.slice (some ⟨b,off,none⟩) len cap->0<len->b≠p/\wv.ownBlock≠some b/\ev.ownBlock≠some b):Sk .i32 W' v zs:=by
 obtain ⟨h1,h2,h3⟩:=h;refine ⟨h1,h2,?_⟩;rcases h3 with h3 | ⟨b,off,cap,hv,hl,hm,hc⟩
 ·exact .inl h3
 ·refine .inr ⟨b,off,cap,hv,hl,hm,fun i hi=>?_⟩;obtain ⟨a1,a2,a3⟩:=hn b off _ cap hv (by omega);have ak:=x0a (hc i hi);rw [World.cell?_of_block (hf.keep b ak a1 a2 a3)];exact hc i hi
def z0N (g:Nat) (fa cb:Array Value) (rs:List Rec) (w0:World) (f:Nat):Prop:=∀ (aa:List Int) (c:Int) (ae:List Int) (W:World) (p:Nat) (wv ev:Value),aa.length+f=16->ae.length<=32->Rune c->Below w0.heap.size w0 W ->
 Wk w0.heap.size W p (.func (.func g) fa cb) aa ae wv ev->Calls prog 187 #[.pointer (some ⟨p,0,none⟩),.int .i32 c] W (x3Y w0.heap.size W p (.func (.func g) fa cb) aa wv ev (Cn.walk rs f aa c ae))
theorem OpB.apart {w0 W W1:World} {p:Nat} {fv:Value} {aa ab:List Int} {wv ev vt:Value} {zs:List Int} (h:Wk w0.heap.size W p fv aa ab wv ev) (hk:Sk .i32 w0 vt zs\/Ok .i32 21 W1 W.heap.size vt zs) :
  ∀ b off len cap,vt=.slice (some ⟨b,off,none⟩) len cap->0<len->b≠p/\wv.ownBlock≠some b/\ev.ownBlock≠some b:=by
 intro b off len cap e hl;have hp:=h.lt;have ho:=h.own;have hw:∀ g,wv.ownBlock=some g->w0.heap.size<=g/\g<W.heap.size:=fun g hg=>h.w.2.2.lt g hg;have he:∀ g,ev.ownBlock=some g->w0.heap.size<=g/\g<W.heap.size:=fun g hg=>h.e.2.2.lt g hg
 have hb:b<w0.heap.size\/W.heap.size<=b:=by
  rcases hk with hk | hk
  ·left;subst e
   have hz:0<zs.length:=by
    obtain ⟨_,_,e,_,_⟩:=hk.shape;simp at e; omega
   obtain ⟨b',bH,au,e,_,_,hc⟩:=hk.place hz;simp at e;have:=x0a (hc 0 hz);omega
  ·right;exact (hk.2.2.lt b (by subst e; rfl)).1
 refine ⟨by omega,fun e=>?_,fun e=>?_⟩
 ·have:=hw b e; omega
 ·have:=he b e; omega
theorem x7D (g:Nat) (fa cb:Array Value) (rs:List Rec) (w0:World) (hO:x8S g fa cb rs w0) (eg:∀ args w,(callFunc g args).run prog w=.ok (.enter g args) w) (aa:List Int) (c:Int) (ae:List Int) (W:World) (p:Nat) (wv ev:Value) (aM:ae.length<=32) (ai:Cn.opn rs c=[]) (hc:Rune c) (hW:Bw w0 W) (h:Wk w0.heap.size W p (.func (.func g) fa cb) aa ae wv ev) :
  Calls prog 187 #[.pointer (some ⟨p,0,none⟩),.int .i32 c] W (x3Y w0.heap.size W p (.func (.func g) fa cb) aa wv ev (if 32<=ae.length then ([],2) else (ae++[c],0))):=by
 have K:=O (hO c W hW hc);have x0:W.cell? ⟨p,0,none⟩=some (.func (.func g) fa cb):=cell_of (j:=0) h.blk (by show 0<3; omega);rw [ai] at K;have HT:Hid (∀ W1,Bw W W1->Calls prog 220 #[.pointer (some ⟨p,0,none⟩),.int .i32 c] W1 (y5U w0.heap.size W1 p (.func (.func g) fa cb) aa ae wv ev c)):=fun W1 hb=>y7M _ W1 p _ aa ae wv ev c (h.below hb) (by have:=hW.size; have:=hb.size; omega) aM hc;have bs:Hid (32<=ae.length->(if 32<=ae.length then (([]:List Int),(2:Int)) else (ae++[c],0))=([],2)):=fun h=>if_pos h;have bt:Hid (ae.length<32->(if 32<=ae.length then (([]:List Int),(2:Int)) else (ae++[c],0))=(ae++[c],0)):=fun h=>if_neg (by omega);generalize (if 32<=ae.length then (([]:List Int),(2:Int)) else (ae++[c],0))=r at *;clear h ai hO;go_enter func187,ntmps187;go_wp2_with fail;refine (V K).mono ?_;rintro e1 W1 ⟨vt,rfl,hk,ac⟩
 have hs:Sk .i32 W1 vt []:=by
  rcases hk with h | h
  ·exact (h.below hW).below ac
  ·exact h.sk
 obtain ⟨ao,cap,rfl,_,_⟩:=hs.shape;have KT:=O (V HT W1 ac);have F0:Hid (Frm W W1 p wv ev):=Frm.of_below ac;clear K HT hk hs ac hW;go_wp2_with fail;refine (V KT).mono ?_;rintro e2 W2 (⟨h32,rfl,rfl⟩ | ⟨h32,rfl,ar,aX,bT,bY⟩)
 ·obtain rfl:=V bs h32;have HF:x3Y w0.heap.size W p (.func (.func g) fa cb) aa wv ev ([],2) (.panicked [{ v:=.iface 37 (.int .i64 2),recovered:=false }]) W2:=⟨V F0,.inl ⟨by decide,rfl⟩⟩;clear KT F0 bs bt;go_wp2;exact ⟨rfl,HF⟩
 ·obtain rfl:=V bt h32
  have HF:x3Y w0.heap.size W p (.func (.func g) fa cb) aa wv ev (ae++[c],0) (.returned (.tuple #[])) W2 :=
   ⟨(V F0).trans bT (x0K.refl _ _) (x0K.refl _ _),.inr ⟨rfl,rfl,wv,ar,aX,x0K.refl _ _,bY.trans_left (V F0).size⟩⟩
  clear KT F0 aX bT bY bs bt;go_wp2;refine bodyPost_ret (results_none rfl _ _ _) rfl ?_;exact HF
theorem x7E (g:Nat) (fa cb:Array Value) (rs:List Rec) (w0:World) (hO:x8S g fa cb rs w0) (eg:∀ args w,(callFunc g args).run prog w=.ok (.enter g args) w) (af:∀ c,(Cn.opn rs c).length<=1000000000) (aa:List Int) (c:Int) (ae:List Int) (W:World) (p:Nat) (wv ev:Value) (bG:aa.length<=16) (ai:Cn.opn rs c≠[]) (ah:c∈aa) (hc:Rune c) (hW:Bw w0 W) (h:Wk w0.heap.size W p (.func (.func g) fa cb) aa ae wv ev) :
  Calls prog 187 #[.pointer (some ⟨p,0,none⟩),.int .i32 c] W (x3Y w0.heap.size W p (.func (.func g) fa cb) aa wv ev ([],72)):=by
 have K:=O (hO c W hW hc);have x0:W.cell? ⟨p,0,none⟩=some (.func (.func g) fa cb):=cell_of (j:=0) h.blk (by show 0<3; omega);have hl:=af c;have aT:0<(Cn.opn rs c).length:=List.length_pos_iff.2 ai;have HA:=O (fun W1 vt hk=>OpB.apart (W1:=W1) (vt:=vt) (zs:=Cn.opn rs c) h hk);have aq:=O (fun W1 (hb:Bw W W1)=>h.below hb);have bf:=h.w.sk.shape;clear ai af hO h;generalize Cn.opn rs c=zs at *;have b1:((zs.length:Int)==0)=false:=(by rw [beq_eq_false_iff_ne]; omega);go_enter func187,ntmps187;go_wp2_with fail;refine (V K).mono ?_;rintro e1 W1 ⟨vt,rfl,hk,ac⟩
 have hs:Sk .i32 W1 vt zs:=by
  rcases hk with h | h
  ·exact (h.below hW).below ac
  ·exact h.sk
 have aY:=V HA W1 vt hk;have h1:=V aq W1 ac;have F0:Hid (Frm W W1 p wv ev):=Frm.of_below ac;have aS:Bw w0 W1:=hW.trans (ac.mono hW.size);obtain ⟨bI,ay,rfl,_,_⟩:=hs.shape;obtain ⟨an,ag,rfl,_,_⟩:=bf;have x1:W1.cell? ⟨p,1,none⟩=some (.slice an aa.length ag):=cell_of (j:=1) h1.blk (by show 1<3; omega);have KC:=O (x2l _ aa c W1 h1.w.sk (by omega));clear K HA aq hk ac hW;rw [d0t ah] at KC;have HF:x3Y w0.heap.size W p (.func (.func g) fa cb) aa (.slice an aa.length ag) ev ([],72) (.panicked [{ v:=.iface 37 (.int .i64 72),recovered:=false }]) W1:=⟨V F0,.inl ⟨by decide,rfl⟩⟩;clear aY h1 F0 aS hs ah;go_wp2_with fail;refine (V KC).mono ?_;rintro e2 W2 ⟨rfl,aX⟩;subst aX;clear KC;go_wp2;exact ⟨rfl,HF⟩
theorem y3x (g:Nat) (fa cb:Array Value) (rs:List Rec) (w0:World) (hO:x8S g fa cb rs w0) (eg:∀ args w,(callFunc g args).run prog w=.ok (.enter g args) w) (af:∀ c,(Cn.opn rs c).length<=1000000000) (aa:List Int) (c:Int) (ae:List Int) (W:World) (p:Nat) (wv ev:Value) (bG:aa.length=16) (ai:Cn.opn rs c≠[]) (ah:¬ c∈aa) (hc:Rune c) (hW:Bw w0 W) (h:Wk w0.heap.size W p (.func (.func g) fa cb) aa ae wv ev) :
  Calls prog 187 #[.pointer (some ⟨p,0,none⟩),.int .i32 c] W (x3Y w0.heap.size W p (.func (.func g) fa cb) aa wv ev ([],73)):=by
 have K:=O (hO c W hW hc);have x0:W.cell? ⟨p,0,none⟩=some (.func (.func g) fa cb):=cell_of (j:=0) h.blk (by show 0<3; omega);have hl:=af c;have aT:0<(Cn.opn rs c).length:=List.length_pos_iff.2 ai;have HA:=O (fun W1 vt hk=>OpB.apart (W1:=W1) (vt:=vt) (zs:=Cn.opn rs c) h hk);have aq:=O (fun W1 (hb:Bw W W1)=>h.below hb);have bf:=h.w.sk.shape;clear ai af hO h;generalize Cn.opn rs c=zs at *;have b1:((zs.length:Int)==0)=false:=(by rw [beq_eq_false_iff_ne]; omega);go_enter func187,ntmps187;go_wp2_with fail;refine (V K).mono ?_;rintro e1 W1 ⟨vt,rfl,hk,ac⟩
 have hs:Sk .i32 W1 vt zs:=by
  rcases hk with h | h
  ·exact (h.below hW).below ac
  ·exact h.sk
 have aY:=V HA W1 vt hk;have h1:=V aq W1 ac;have F0:Hid (Frm W W1 p wv ev):=Frm.of_below ac;have aS:Bw w0 W1:=hW.trans (ac.mono hW.size);obtain ⟨bI,ay,rfl,_,_⟩:=hs.shape;obtain ⟨an,ag,rfl,_,_⟩:=bf;have x1:W1.cell? ⟨p,1,none⟩=some (.slice an aa.length ag):=cell_of (j:=1) h1.blk (by show 1<3; omega);have KC:=O (x2l _ aa c W1 h1.w.sk (by omega));clear K HA aq hk ac hW;rw [d0f ah] at KC;have HF:x3Y w0.heap.size W p (.func (.func g) fa cb) aa (.slice an aa.length ag) ev ([],73) (.panicked [{ v:=.iface 37 (.int .i64 73),recovered:=false }]) W1:=⟨V F0,.inl ⟨by decide,rfl⟩⟩;rw [bG] at KC x1 HF;clear aY h1 F0 aS hs ah;go_wp2_with fail;refine (V KC).mono ?_;rintro e2 W2 ⟨rfl,aX⟩;subst aX;clear KC;go_wp2;exact ⟨rfl,HF⟩
theorem Sk.cellAt {K:IntKind} {w:World} {b off len cap:Nat} {zs:List Int} (h:Sk K w (.slice (some ⟨b,off,none⟩) len cap) zs) {i:Nat} (hi:i<zs.length):w.cell? ⟨b,off+i,none⟩=some (.int K (zs.getD i 0)):=by
 obtain ⟨b',bH,au,e,_,_,hc⟩:=h.place (by omega);simp only [Value.slice.injEq,Option.some.injEq,Addr.mk.injEq,and_true] at e;obtain ⟨⟨rfl,rfl⟩,_,_⟩:=e;exact hc i hi
theorem y9p (g:Nat) (fa cb:Array Value) (rs:List Rec) (w0:World) (hO:x8S g fa cb rs w0) (eg:∀ args w,(callFunc g args).run prog w=.ok (.enter g args) w) (af:∀ c,(Cn.opn rs c).length<=1000000000) (aa:List Int) (c:Int) (ae:List Int) (W:World) (p:Nat) (wv ev:Value) (f:Nat) (ih:z0N g fa cb rs w0 f) (bG:aa.length+f+1=16) (aM:ae.length<=32) (ai:Cn.opn rs c≠[]) (ah:¬ c∈aa) (hc:Rune c) (hW:Bw w0 W) (h:Wk w0.heap.size W p (.func (.func g) fa cb) aa ae wv ev) :
  Calls prog 187 #[.pointer (some ⟨p,0,none⟩),.int .i32 c] W (x3Y w0.heap.size W p (.func (.func g) fa cb) aa wv ev ((Cn.opn rs c).foldl (Cn.stepW rs f (aa++[c])) (ae,0))):=by
 have K:=O (hO c W hW hc);have x0:W.cell? ⟨p,0,none⟩=some (.func (.func g) fa cb):=cell_of (j:=0) h.blk (by show 0<3; omega);obtain ⟨i0,hi,bg,bh,aH⟩:=info_parts Tryz.info21;have aQ:Hid (∀ x o,o.length<=32->(Cn.walk rs f (aa++[c]) x o).1.length<=32):=fun x o ho=>Cn.x7r rs f (aa++[c]) x o ho;have aD:Hid (∀ (xs:List Int) (o:List Int) (k:Nat),k<xs.length->(xs.drop k).foldl (Cn.stepW rs f (aa++[c])) (o,0)=(xs.drop (k+1)).foldl (Cn.stepW rs f (aa++[c])) (Cn.walk rs f (aa++[c]) (xs.getD k 0) o)):=fun xs o k hk=>Cn.x4P hk;have aj:Hid (∀ (xs:List Int) (s:List Int × Int),s.2≠0->xs.foldl (Cn.stepW rs f (aa++[c])) s=s):=Cn.x1v rs f (aa++[c]);have IH:=O ih;clear ih;have hl:=af c;have aT:0<(Cn.opn rs c).length:=List.length_pos_iff.2 ai;have HA:=O (fun W1 vt hk=>OpB.apart (W1:=W1) (vt:=vt) (zs:=Cn.opn rs c) h hk);have aq:=O (fun W1 (hb:Bw W W1)=>h.below hb);have bf:=h.w.sk.shape;clear ai af hO;generalize Cn.opn rs c=zs at *;have b1:((zs.length:Int)==0)=false:=(by rw [beq_eq_false_iff_ne]; omega);obtain ⟨r,hr⟩:∃ r,zs.foldl (Cn.stepW rs f (aa++[c])) (ae,0)=r:=⟨_,rfl⟩;rw [hr];have HR:=O hr;clear hr;go_enter func187,ntmps187;go_wp2_with fail;refine (V K).mono ?_;rintro e1 W1 ⟨vt,rfl,hk,ac⟩
 have hs:Sk .i32 W1 vt zs:=by
  rcases hk with h | h
  ·exact (h.below hW).below ac
  ·exact h.sk
 have aY:=V HA W1 vt hk;have h1:=V aq W1 ac;have F0:Hid (Frm W W1 p wv ev):=Frm.of_below ac;have aS:Bw w0 W1:=hW.trans (ac.mono hW.size);obtain ⟨tb,bj,ay,rfl,_,_,_⟩:=hs.place aT;obtain ⟨an,ag,rfl,_,_⟩:=bf;have x1:W1.cell? ⟨p,1,none⟩=some (.slice an aa.length ag):=cell_of (j:=1) h1.blk (by show 1<3; omega);have KC:=O (x2l _ aa c W1 h1.w.sk (by omega));clear K HA aq hk ac hW;rw [d0f ah] at KC;have hq16:((aa.length:Int)==16)=false:=(by rw [beq_eq_false_iff_ne]; omega);have aG:∀ o,(W1.alloc o).ownsRow w0.heap.size 21 1 (.slice an aa.length ag) aa.length (aa.map (Value.int .i32)):=fun o=>h1.w.row.alloc o;have aC:=O aG;have HD:=O (fun o v' w1 a b c'=>h1.down (o:=o) (v':=v') (w1:=w1) (c:=c) (by omega) hc a b c');have HS:=O (fun W' p' aI ar (hf:Frm W1 W' p' aI ar) hn=>hs.frm (p:=p') (wv:=aI) (ev:=ar) hf hn);have bn:=O aY;have b9:=aS.size;have bv:=O aS;have ba:=hs.1;have H1:=O h1;have bu:=O (fun k hk=>x0x hs (i:=k) hk);clear aY aG hs h1 aS h ah;go_wp2_with fail;refine (V KC).mono ?_;rintro e2 W2 ⟨rfl,aX⟩;subst W2;clear KC;go_wp2_with (at_builtin; refine wpList_append_own_at _ rfl (.tmp 40) (.tmp 42) 23 rfl w0.heap.size 21 i0 (.int .i32 0) 1 4 underlying23 hi bg bh aH rfl (by decide) _ _ _ rfl (V aC _) ⟨W1.heap.size,0,none⟩ 1 1 [.int .i32 c] rfl rfl (cell_one_new _ _ _) (x2O _ _) (by unfold maxLen; omega) (by omega) (by simp; omega) ?_);intro v' w1 am aK _ aE;obtain ⟨ac,al,a9,bb⟩:=V HD _ v' w1 am aK aE;have hm:(aa++[c]).length=aa.length+1:=(by simp);obtain ⟨bM,au,b3,_,_⟩:=al.w.sk.shape;rw [hm] at b3;subst b3;clear hm;have y1:w1.cell? ⟨p,1,none⟩=some (.slice an aa.length ag):=cell_of (j:=1) ac (by show 1<3; omega);have yf:=x0e (j:=1) ac;have aq:=O al;have ax:=O a9;have az:=O bb;clear HD aC am aK aE al a9 bb ac x1 x0;go_wp2;go_loopw [6,48] (fun _ i wr=>∃ (k:Nat) (o:List Int) (aI ar:Value),i=.int .i64 k/\k<=zs.length/\o.length<=32/\Hid ((zs.drop k).foldl (Cn.stepW rs f (aa++[c])) (o,0)=r)/\Hid (Wk w0.heap.size wr p (.func (.func g) fa cb) (aa++[c]) o aI ar)/\Hid (Frm W1 wr p (.slice an aa.length ag) ev)/\Hid (x0K W1 (.slice an aa.length ag) aI)/\Hid (x0K W1 ev ar)) (fun _ i _=>zs.length - (intOf i).toNat)
 case atStart=>exact ⟨0,ae,_,ev,rfl,by omega,aM,HR,aq,ax,az,x0K.refl _ _⟩
 case round =>
  clear aq ax az HR;obtain ⟨k,o,aI,ar,rfl,hk,ho,HR,aq,ax,az,aB⟩:=hrel;by_cases ak:k<zs.length
  ·have a0:=(V HS wr p (.slice an aa.length ag) ev (V ax) (V bn)).cellAt ak;have b2:=V aD zs o k ak;have aW:=(V aj);have aJ:=(V aq);have bR:Bw w0 wr:=(V bv).trans ((V ax).below (V H1) b9);have KD:=O (V IH (aa++[c]) (zs.getD k 0) o wr p aI ar (by simp; omega) ho (V bu k ak) bR aJ);have aL:=V aQ (zs.getD k 0) o ho;have aF:Hid ((zs.drop (k+1)).foldl (Cn.stepW rs f (aa++[c])) (Cn.walk rs f (aa++[c]) (zs.getD k 0) o)=r):=b2 ▸ (V HR);have be:=(V ax).size;clear HR aq b2 aJ bR aW;generalize Cn.walk rs f (aa++[c]) (zs.getD k 0) o=q at *;generalize zs.getD k 0=x at *;go_wp2_with fail;refine (V KD).mono ?_;rintro e3 w3 ⟨bm,⟨hq,bV⟩ | ⟨hq,rfl,b5,bP,bF,bZ,bX⟩⟩
   ·have hr:q=r:=(V aj _ q hq).symm.trans (V aF);subst hr;unfold Gave at bV;subst bV
    have HF:x3Y w0.heap.size W p (.func (.func g) fa cb) aa (.slice an aa.length ag) ev q (.panicked [{ v:=.iface 37 (.int .i64 q.2),recovered:=false }]) w3 :=
     ⟨(V F0).trans ((V ax).trans bm (V az) (V aB)) (x0K.refl _ _) (x0K.refl _ _),.inl ⟨hq,rfl⟩⟩
    clear KD HS bn bv H1 IH aQ aD aj bu aF ax az aB F0 bm a0;go_wp2;exact ⟨rfl,HF⟩
   ·obtain ⟨q1,q2⟩:=q;simp only at hq aL bF;subst hq;have bw:=O bF;have bp:Hid (Frm W1 w3 p (.slice an aa.length ag) ev):=(V ax).trans bm (V az) (V aB);have bq:Hid (x0K W1 (.slice an aa.length ag) b5):=(V az).trans bZ be;have br:Hid (x0K W1 ev bP):=(V aB).trans bX be;clear KD bF bm bZ bX ax az aB a0;go_wp2
    go_roundw
    case rel=>exact ⟨k+1,q1,b5,bP,by go_num,by omega,aL,aF,bw,bp,bq,br⟩
    case measure=>simp [intOf]; omega
  ·obtain rfl:k=zs.length:=by omega
   have hr:r=(o,0):=by
    have:=V HR;rw [List.drop_length] at this;exact this.symm
   subst hr;have aJ:=V aq;obtain ⟨bN,aR,rfl,_,_⟩:=aJ.w.sk.shape
   have bo:Hid (∀ n,x3Y w0.heap.size W p (.func (.func g) fa cb) aa (.slice an aa.length ag) ev (o,0) (.returned (.tuple #[])) ((wr.drewN n).setCell ⟨p,1,none⟩ (.slice bN aa.length aR))):=fun n=>by
    have hb:=x0k (w:=wr) ⟨n,rfl⟩;obtain ⟨u1,u2,u3⟩:=(aJ.below hb).up;have g1:Frm W1 (wr.drewN n) p (.slice an aa.length ag) ev:=(V ax).trans (Frm.of_below hb) (V az) (V aB);have s1:=(V ax).size;have s2:=hb.size;have s0:=(V F0).size;refine ⟨(V F0).trans (g1.trans u2 (V az) (V aB)) (x0K.refl _ _) (x0K.refl _ _),.inr ⟨rfl,rfl,_,ar,u1,?_,?_⟩⟩
    ·exact ((V az).trans u3 (by omega)).trans_left s0
    ·exact (V aB).trans_left s0
   have y1:wr.cell? ⟨p,1,none⟩=some (.slice bN (aa++[c]).length aR):=cell_of (j:=1) aJ.blk (by show 1<3; omega);have yf:=x0e (j:=1) aJ.blk
   have hcap5:aa.length+1<=aR:=by
    obtain ⟨_,_,e,h5,_⟩:=aJ.w.sk.shape;simp at e h5;omega
   rw [show (aa++[c]).length=aa.length+1 by simp] at y1;clear HS bn bv H1 IH aQ aD aj bu HR ax az aB F0 aq aJ;go_wp2;go_region;go_wp2;go_end0;exact V bo _
theorem y6u (g:Nat) (fa cb:Array Value) (rs:List Rec) (w0:World) (hO:x8S g fa cb rs w0) (eg:∀ args w,(callFunc g args).run prog w=.ok (.enter g args) w) (af:∀ c,(Cn.opn rs c).length<=1000000000):∀ f,z0N g fa cb rs w0 f:=by
 intro f
 induction f with
 | zero =>
  intro aa c ae W p wv ev hf aM hc hW h;by_cases ai:Cn.opn rs c=[]
  ·rw [Cn.x0L ai];exact x7D g fa cb rs w0 hO eg aa c ae W p wv ev aM ai hc hW h
  ·by_cases ah:c∈aa
   ·rw [Cn.x1T ai _ ah];exact x7E g fa cb rs w0 hO eg af aa c ae W p wv ev (by omega) ai ah hc hW h
   ·rw [Cn.x5w ai ah];exact y3x g fa cb rs w0 hO eg af aa c ae W p wv ev (by omega) ai ah hc hW h
 | succ f ih =>
  intro aa c ae W p wv ev hf aM hc hW h;by_cases ai:Cn.opn rs c=[]
  ·rw [Cn.x0L ai];exact x7D g fa cb rs w0 hO eg aa c ae W p wv ev aM ai hc hW h
  ·by_cases ah:c∈aa
   ·rw [Cn.x1T ai _ ah];exact x7E g fa cb rs w0 hO eg af aa c ae W p wv ev (by omega) ai ah hc hW h
   ·rw [Cn.x5x ai f ah];exact y9p g fa cb rs w0 hO eg af aa c ae W p wv ev f ih (by omega) aM ai ah hc hW h
end Go.Proofs.YtkglkajjofidoaaGreatDoor
namespace Go.Proofs.YtkglkajjofidoaaGreatDoor.Cn
open Go.Proofs.Tryz
theorem x1Y {p:Prop} [Decidable p] (h:(if p then (0:Int) else 61)=0):p:=by
 by_cases hp:p
 ·exact hp
 ·rw [if_neg hp] at h;exact absurd h (by decide)
theorem x0H {r:Rec} (h:right r=0):fam r.kind≠0:=fun e=>by
 unfold right at h;rw [if_pos e] at h;exact absurd h (by decide)
theorem x0o {r:Rec} (h:right r=0) (hk:r.kind≠15):0<=r.lo/\r.lo<=r.hi/\r.hi<=1114111:=by
 have hf:=x0H h;unfold right at h;rw [if_neg hf,if_neg hk] at h;have hc:=x1Y h;rw [Bool.and_eq_true] at hc;exact o0d hc.1
theorem right_step {r:Rec} (h:right r=0):1<=step r/\step r<=64:=by
 unfold step;by_cases h4:r.kind=4
 ·rw [if_pos h4];have hf:=x0H h;unfold right at h;rw [if_neg hf,if_neg (by omega)] at h;have hc:=x1Y h;rw [Bool.and_eq_true,if_neg (by omega),if_neg (by omega),if_pos h4] at hc;have h2:=hc.2;simp only [Bool.and_eq_true] at h2;have:=o0d h2.1.1.2;omega
 ·rw [if_neg h4];omega
theorem x1c {x:List Int} {a b:Nat} (h:list x a b=true):(a<=x.length/\x.length<=b)/\∀ c∈x,scalar c=true:=by
 unfold list at h;rw [Bool.and_eq_true] at h;exact ⟨o0d h.1,List.all_eq_true.1 h.2⟩
theorem x0B {r:Rec} (h:right r=0) (h7:r.kind=7):r.lo=r.hi/\scalar r.lo=true/\list r.to 2 2=true:=by
 have hf:=x0H h;unfold right at h;rw [if_neg hf,if_neg (by omega)] at h;have hc:=x1Y h;rw [Bool.and_eq_true,if_neg (by omega),if_neg (by omega),if_neg (by omega),if_neg (by omega),if_neg (by omega),if_neg (by omega),if_pos h7] at hc;have h2:=hc.2;simp only [Bool.and_eq_true] at h2;exact ⟨o0d h2.1.1.1,h2.1.1.2,h2.2⟩
theorem x2U {r:Rec} (h:right r=0) (h8:r.kind=8):r.lo=r.hi/\scalar r.lo=true/\list r.to 1 2=true:=by
 have hf:=x0H h;unfold right at h;rw [if_neg hf,if_neg (by omega)] at h;have hc:=x1Y h;rw [Bool.and_eq_true,if_neg (by omega),if_neg (by omega),if_neg (by omega),if_neg (by omega),if_neg (by omega),if_neg (by omega),if_neg (by omega),if_pos h8] at hc;have h2:=hc.2;simp only [Bool.and_eq_true] at h2;exact ⟨o0d h2.1.1.1,h2.1.1.2,h2.2⟩
theorem x3E:∀ (l:List Rec) (i:Nat),x0T i l=Option.none->∀ r∈l,right r=0
 | [],_,_=>fun r hr=>by cases hr
 | x :: l,i,h=>fun r hr=>by
  rw [x0T] at h;split at h
  ·next hx =>
   rcases List.mem_cons.1 hr with rfl | hr
   ·exact hx
   ·exact x3E l (i+1) h r hr
  ·cases h
theorem x1R:∀ (l:List Rec) (i:Nat) (x:Nat × Int),x0T i l=some x->x.2≠0
 | [],_,_,h=>by rw [x0T] at h; cases h
 | y :: l,i,x,h=>by
  rw [x0T] at h;split at h
  ·exact x1R l (i+1) x h
  ·next hx=>cases h; exact hx
theorem x1u {l:List Rec} (h:(check6 l).2=0):l.length<=4096/\∀ r∈l,right r=0:=by
 unfold check6 at h;split at h
 ·exact absurd h (by decide)
 ·next hl =>
  refine ⟨by omega,?_⟩;split at h
  ·next x hx=>exact absurd h (x1R _ _ _ hx)
  ·next hx=>exact x3E _ _ hx
end Go.Proofs.YtkglkajjofidoaaGreatDoor.Cn
