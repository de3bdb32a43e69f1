/- CcR7 -/
import Derived.Test.YtkglkajjofidoaaGreatDoorV9
import Derived.WalkMore
set_option maxHeartbeats 4000000
set_option maxRecDepth 8000
namespace Go.Proofs.YtkglkajjofidoaaGreatDoor
open Go.Proofs.Tryz
open Go.RowKit
abbrev baseS:ByteArray:=⟨#[97,98,99,100,101,102,103,104,105,106,107,108,109,110,111,112,113,114,115,116,117,118,119,120,121,122,48,49,50,51,52,53,54,55,56,57,45,46]⟩
def baseL:List Int:=[97,98,99,100,101,102,103,104,105,106,107,108,109,110,111,112,113,114,115,116,117,118,119,120,121,122,48,49,50,51,52,53,54,55,56,57,45,46]
theorem x5S:nums baseS=baseL:=by decide +kernel
theorem x3r:baseS.size=38:=rfl
theorem Cn.baseA_iff (l:List Rec):∀ (k:Nat) (c:Int),Cn.baseA l k c=true↔∀ i:Nat,i<k->Cn.baseOf (c+i)=true->Cn.plain l (c+i)=true
 | 0,c=>by simp [Cn.baseA]
 | k+1,c=>by
  rw [Cn.baseA,Bool.and_eq_true,Cn.baseA_iff l k (c+1)];constructor
  ·rintro ⟨h1,h2⟩ i hi hb;rcases Nat.eq_zero_or_pos i with rfl | h
   ·have e:c+((0:Nat):Int)=c:=(by simp);rw [e] at hb ⊢;simpa [hb] using h1
   ·have:=h2 (i - 1) (by omega);rw [show c+1+((i - 1:Nat):Int)=c+i by omega] at this;exact this hb
  ·intro h;refine ⟨?_,fun i hi hb=>?_⟩
   ·have:=h 0 (by omega);rw [show c+((0:Nat):Int)=c by simp] at this;cases hb:Cn.baseOf c
    ·rfl
    ·simpa using this hb
   ·have:=h (i+1) (by omega);rw [show c+1+(i:Int)=c+((i+1:Nat):Int) by omega] at *;exact this hb
theorem y8X:∀ i:Nat,i<78->Cn.baseOf (45+(i:Int))=true->(45+(i:Int))∈baseL:=by decide +kernel
theorem base_of:∀ x∈baseL,Cn.baseOf x=true/\45<=x/\x<123:=by decide +kernel
theorem y6a (l:List Rec):Cn.baseA l 78 45=baseL.all (Cn.plain l):=by
 rw [Bool.eq_iff_iff,Cn.baseA_iff,List.all_eq_true];constructor
 ·intro h x hx;obtain ⟨h1,h2,h3⟩:=base_of x hx;have:=h (x - 45).toNat (by omega);rw [show (45:Int)+((x - 45).toNat:Int)=x by omega] at this;exact this h1
 ·intro h i hi hb;exact h _ (y8X i hi hb)
theorem z0T {p:Int->Bool} {xs:List Int}:(∀ j,j<xs.length->p (xs.getD j 0)=true)->xs.all p=true:=fun h=>by
 rw [List.all_eq_true];intro x hx;obtain ⟨j,hj,rfl⟩:=List.getElem_of_mem hx;have:=h j hj;simpa [List.getD,hj] using this
theorem z0U {p:Int->Bool} {xs:List Int} {j:Nat} (hj:j<xs.length) (h:p (xs.getD j 0)=false):xs.all p=false:=by
 rw [List.all_eq_false];exact ⟨xs[j],List.getElem_mem hj,by simpa [List.getD,hj] using h⟩
theorem y2Y:∀ j,j<38->45<=baseL.getD j 0/\baseL.getD j 0<123:=by decide +kernel
def x9W (w:World) (l:List Rec) (pos:Nat) (wr:World):Prop:=pos<=38/\wr.heap[w.heap.size]?=some (.stringIter baseS pos)/\Below w.heap.size w wr/\∀ j,j<pos->Cn.plain l (baseL.getD j 0)=true
theorem x9p (v:Value) (l:List Rec) (w:World) (hg:Glob w) (hv:Rcs w v l):Calls prog 74 #[v] w (x0d w (Cn.baseA l 78 45)):=by
 rw [y6a];have KF:Hid (∀ W,Bw w W->Calls prog 117 #[.int .i64 1] W (IntB W 1)):=fun W hb=>x1a 1 W (hg.on hb) (by unfold I64; omega);have KD:Hid (∀ W c,Bw w W->Rune c->Calls prog 116 #[v,.int .i64 1,.int .i32 c] W (IntB W (Cn.find l 1 c))):=fun W c hb hc=>x6D v l 1 c W (hg.on hb) (hv.below hb) (by unfold I64; omega) hc;have HH:=O (fun c=>hit_at hv 1 c);have az:Hid (x9W w l 0 (w.iter baseS 0)):=⟨by omega,World.iter_heap w baseS 0,(b0r).alloc (l0r _) _,fun j hj=>by omega⟩;have ad:Hid ((∀ j,j<38->Cn.plain l (baseL.getD j 0)=true)->baseL.all (Cn.plain l)=true):=fun h=>z0T h;have av:Hid (∀ j,j<38->Cn.plain l (baseL.getD j 0)=false->baseL.all (Cn.plain l)=false):=fun j hj h=>z0U hj h;have hlen:=hv.1;obtain ⟨ao,cap,rfl,hc1,hc2⟩:=hv.shape;clear hg hv;generalize baseL.all (Cn.plain l)=R at *;go_enter func74,ntmps74;go_wp2;go_loopw [4,5] (fun _ _ wr=>∃ pos:Nat,Hid (x9W w l pos wr)) (fun _ _ wr=>38 - wr.iterPos w.heap.size)
 case atStart=>exact ⟨0,az⟩
 case round =>
  clear az;obtain ⟨pos,ar⟩:=hrel;obtain ⟨hps,hit,ai,hall⟩:=V ar;have aD:w.heap.size<wr.heap.size:=(Array.getElem?_eq_some_iff.1 hit).1;by_cases hp:pos<38
  ·obtain ⟨lo1,lo2⟩:=y2Y pos hp;obtain ⟨d1,d2⟩:=y3w baseS pos (by rw [x3r]; exact hp) (by rw [x5S]; omega);rw [x5S] at d1;have aB:=fun ty=>Lib.run_next_any_at (P:=prog) wr w.heap.size baseS pos ty hit (by rw [x3r]; exact hp);rw [d1,d2] at aB;have ap:=Lib.iterAt_heap wr w.heap.size baseS pos (pos+1) hit;have aa:=Lib.below_iterAt ai (k:=w.heap.size) (l0r _) baseS (pos+1)
   have aA:38 - (pos+1)<38 - wr.iterPos w.heap.size:=by
    simp only [World.iterPos,hit]; omega
   have ay:w.heap.size<(wr.iterAt w.heap.size baseS (pos+1)).heap.size:=(by rw [Lib.iterAt_size]; exact aD);have am:=O hall;have hR:Rune (baseL.getD pos 0):=(by unfold Rune; omega);have hH:=V HH (baseL.getD pos 0);have K1:=O (V KF _ aa);have ac:Hid (Cn.plain l (baseL.getD pos 0)=match Cn.hit l 1 (baseL.getD pos 0) with | some r=>decide (r.kind=1) | none=>false):=rfl;have ab:=O (V av pos hp);have aj:=O (fun W hW=>V KD W (baseL.getD pos 0) hW hR)
   have aw:Hid (∀ W,(wr.iterAt w.heap.size baseS (pos+1)).heap.size<=W.heap.size->W.heap[w.heap.size]?=some (.stringIter baseS (pos+1))->Bw w W->Cn.plain l (baseL.getD pos 0)=true->x9W w l (pos+1) W):=fun W _ hW hb aq=>⟨by omega,hW,hb,fun j hj=>by
    rcases Nat.lt_or_ge j pos with h | h
    ·exact V am j h
    ·obtain rfl:j=pos:=by omega
     exact aq⟩
   clear HH av KF KD ar hall am ai hit d1 d2 lo1 lo2;generalize wr.iterAt w.heap.size baseS (pos+1)=W2 at *;generalize baseL.getD pos 0=c at *;rcases hH with ⟨h1,h2⟩ | ⟨k,b,off,cap',h1,hkl,h2,hve,hl,hm,hr,hf⟩
   ·obtain rfl:R=false:=V ab (by rw [V ac,h2]);rw [h1] at aj;clear aw ac ab h1 h2 ad;go_wp2_with fail;refine (V K1).mono ?_;rintro e W3 ⟨rfl,ak⟩;have ag:=x0b aa ak;have K2:=O (V aj W3 ag);clear K1 aj;go_wp2_with fail;refine (V K2).mono ?_;rintro e W4 ⟨rfl,al⟩;have HF:x0d w false (.returned (.bool false)) W4:=⟨rfl,x0b ag al⟩;clear K2 ak al ag aa;go_wp2;go_ret;exact HF
   ·simp only [Value.slice.injEq] at hve;obtain ⟨rfl,_,rfl⟩:=hve;have aq:Cn.plain l c=decide ((l.getD k Cn.none).kind=1):=(by rw [V ac,h2]);rw [h1] at aj;have HR:=O hr;clear ac h1 h2 hr hf;generalize l.getD k Cn.none=r at *;have ac:=O aq;clear aq;go_wp2_with fail;refine (V K1).mono ?_;rintro e W3 ⟨rfl,ak⟩;have ag:=x0b aa ak;have K2:=O (V aj W3 ag);clear K1 aj;go_wp2_with fail;refine (V K2).mono ?_;rintro e W4 ⟨rfl,al⟩;have an:=x0b ag al;have x0:=((V HR).below an).kind;have ah:Bw W2 W4:=x0b ak al;have ae:W4.heap[w.heap.size]?=some (.stringIter baseS (pos+1)):=(by rw [ah.block _ ay]; exact ap);have aC:=ah.size;have af:=O (V aw W4 aC ae an);clear K2 HR ak al ag aw aa ap ah
    have ax:38 - W4.iterPos w.heap.size<38 - wr.iterPos w.heap.size:=by
     simp only [World.iterPos,ae];simp only [World.iterPos] at aA;exact aA
    by_cases k1:r.kind=1
    ·have au:Hid (x9W w l (pos+1) W4):=V af (by rw [V ac,k1]; rfl);rw [k1] at x0;clear af ac ab k1 ae an;go_wp2
     go_roundw
     case rel=>exact ⟨pos+1,au⟩
     case measure=>exact ax
    ·obtain rfl:R=false:=V ab (by rw [V ac]; exact d0f k1);have HF:x0d w false (.returned (.bool false)) W4:=⟨rfl,an⟩;have q1:(r.kind != 1)=true:=(by simp [k1]);clear af ac ab ae an ad;generalize r.kind=kd at *;go_wp2;go_ret;exact HF
  ·obtain rfl:pos=38:=(by omega);obtain rfl:R=true:=V ad hall;have HF:x0d w true (.returned (.bool true)) wr:=⟨rfl,ai⟩;have aB:=fun ty=>Lib.run_next_end_at (P:=prog) wr w.heap.size baseS 38 ty hit (by rw [x3r]; omega);clear HH av KF KD ar hall ad;go_wp2;go_ret;exact HF
