/- CcR7 -/
import Derived.Test.YtihhhjodonkkcaaGreatDoorX3
import Derived.WalkMore
namespace Go.Proofs.YtihhhjodonkkcaaGreatDoor
open Go.RowKit
abbrev baseS:ByteArray:=⟨#[97,98,99,100,101,102,103,104,105,106,107,108,109,110,111,112,113,114,115,116,117,118,119,120,121,122,48,49,50,51,52,53,54,55,56,57,45,46]⟩
def baseL:List Int:=[97,98,99,100,101,102,103,104,105,106,107,108,109,110,111,112,113,114,115,116,117,118,119,120,121,122,48,49,50,51,52,53,54,55,56,57,45,46]
theorem baseS_nums:nums baseS=baseL:=by decide +kernel
theorem baseS_size:baseS.size=38:=rfl
theorem Cn.baseA_iff (l:List Rec):∀ (k:Nat) (c:Int),Cn.baseA l k c=true↔∀ i:Nat,i<k→Cn.baseOf (c+i)=true→Cn.plain l (c+i)=true
 | 0,c=>by simp [Cn.baseA]
 | k+1,c=>by
  rw [Cn.baseA,Bool.and_eq_true,Cn.baseA_iff l k (c+1)]
  constructor
  ·rintro ⟨h1,h2⟩ i hi hb
   rcases Nat.eq_zero_or_pos i with rfl | h
   ·have e:c+((0:Nat):Int)=c:=by simp
    rw [e] at hb ⊢
    simpa [hb] using h1
   ·have:=h2 (i - 1) (by omega)
    rw [show c+1+((i - 1:Nat):Int)=c+i by omega] at this
    exact this hb
  ·intro h
   refine ⟨?_,fun i hi hb=>?_⟩
   ·have:=h 0 (by omega)
    rw [show c+((0:Nat):Int)=c by simp] at this
    cases hb:Cn.baseOf c
    ·rfl
    ·simpa using this hb
   ·have:=h (i+1) (by omega)
    rw [show c+1+(i:Int)=c+((i+1:Nat):Int) by omega] at *
    exact this hb
theorem base_in:∀ i:Nat,i<78→Cn.baseOf (45+(i:Int))=true→(45+(i:Int))∈baseL:=by decide +kernel
theorem base_of:∀ x∈baseL,Cn.baseOf x=true∧45≤x∧x<123:=by decide +kernel
theorem base_all l:Cn.baseA l 78 45=baseL.all (Cn.plain l):=by
 rw [Bool.eq_iff_iff,Cn.baseA_iff,List.all_eq_true]
 constructor
 ·intro h x hx
  obtain ⟨h1,h2,h3⟩:=base_of x hx
  have:=h (x - 45).toNat (by omega)
  rw [show (45:Int)+((x - 45).toNat:Int)=x by omega] at this
  exact this h1
 ·intro h i hi hb
  exact h _ (base_in i hi hb)
theorem all_at {p:Int→Bool} {xs:List Int}:(∀ j,j<xs.length→p (xs.getD j 0)=true)→xs.all p=true:=fun h=>by
 rw [List.all_eq_true]
 intro x hx
 obtain ⟨j,hj,rfl⟩:=List.getElem_of_mem hx
 have:=h j hj
 simpa [List.getD,hj] using this
theorem all_no {p:Int→Bool} {xs:List Int} {j} (hj:j<xs.length) (h:p (xs.getD j 0)=false):xs.all p=false:=by grind
theorem baseL_low:∀ j,j<38→45≤baseL.getD j 0∧baseL.getD j 0<123:=by decide +kernel
def BaseIn (w:World) (l:List Rec) (pos:Nat) (wr:World):Prop:=pos≤38∧wr.heap[w.heap.size]?=some (.stringIter baseS pos)∧Below w.heap.size w wr∧∀ j,j<pos→Cn.plain l (baseL.getD j 0)=true
set_option maxRecDepth 8000 in
set_option maxHeartbeats 4000000 in
theorem hasBase_any v l w (hg:Glob w) (hv:Rcs w v l):Calls Tryz.prog 77 #[v] w (BoolB w (Cn.baseA l 78 45)):=by
 rw [base_all]
 have KF:Hid (∀ W,Below w.heap.size w W→Calls Tryz.prog 122 #[.int .i64 1] W (IntB W 1)):=fun W hb=>family_any 1 W (hg.on hb) (by unfold I64; omega)
 have KD:Hid (∀ W c,Below w.heap.size w W→Rune c→Calls Tryz.prog 121 #[v,.int .i64 1,.int .i32 c] W (IntB W (Cn.find l 1 c))):=fun W c hb hc=>find_any v l 1 c W (hg.on hb) (hv.below hb) (by unfold I64; omega) hc
 have HH:=Hd (fun c=>hit_at hv 1 c)
 have HST:Hid (BaseIn w l 0 (w.iter baseS 0)):=⟨by omega,World.iter_heap w baseS 0,(Below.refl _ _).alloc (Nat.le_refl _) _,fun j hj=>by omega⟩
 have HYES:Hid ((∀ j,j<38→Cn.plain l (baseL.getD j 0)=true)→baseL.all (Cn.plain l)=true):=fun h=>all_at h
 have HNO:Hid (∀ j,j<38→Cn.plain l (baseL.getD j 0)=false→baseL.all (Cn.plain l)=false):=fun j hj h=>all_no hj h
 have hlen:=hv.1
 obtain ⟨ao,cap,rfl,hc1,hc2⟩:=hv.shape
 generalize baseL.all (Cn.plain l)=R at *
 go_enter Tryz.func77,Tryz.ntmps77
 go_wp2
 go_loopw [4,5] (fun _ _ wr=>∃ pos:Nat,Hid (BaseIn w l pos wr)) (fun _ _ wr=>38 - wr.iterPos w.heap.size)
 case atStart=>exact ⟨0,HST⟩
 case round =>
  obtain ⟨pos,HIN⟩:=hrel
  obtain ⟨hps,hit,hbel,hall⟩:=Uh HIN
  have hsz:w.heap.size<wr.heap.size:=(Array.getElem?_eq_some_iff.1 hit).1
  by_cases hp:pos<38
  ·obtain ⟨lo1,lo2⟩:=baseL_low pos hp
   obtain ⟨d1,d2⟩:=dec_low baseS pos (by rw [baseS_size]; exact hp) (by rw [baseS_nums]; omega)
   rw [baseS_nums] at d1
   have hnx:=fun ty=>Lib.run_next_any_at (P:=Tryz.prog) wr w.heap.size baseS pos ty hit (by rw [baseS_size]; exact hp)
   rw [d1,d2] at hnx
   have hit2:=Lib.iterAt_heap wr w.heap.size baseS pos (pos+1) hit
   have hbel2:=Lib.below_iterAt hbel (k:=w.heap.size) (Nat.le_refl _) baseS (pos+1)
   have hmo:38 - (pos+1)<38 - wr.iterPos w.heap.size:=by
    simp only [World.iterPos,hit]; omega
   have hsz2:w.heap.size<(wr.iterAt w.heap.size baseS (pos+1)).heap.size:=by grind
   have HALL:=Hd hall
   have hR:Rune (baseL.getD pos 0):=by unfold Rune; omega
   have hH:=(Uh HH) (baseL.getD pos 0)
   have K1:=Hd ((Uh KF) _ hbel2)
   have HPL:Hid (Cn.plain l (baseL.getD pos 0)=match Cn.hit l 1 (baseL.getD pos 0) with | some r=>decide (r.kind=1) | none=>false):=rfl
   have HNO1:=Hd ((Uh HNO) pos hp)
   have KD1:=Hd (fun W hW=>(Uh KD) W (baseL.getD pos 0) hW hR)
   have HNX:Hid (∀ W,(wr.iterAt w.heap.size baseS (pos+1)).heap.size≤W.heap.size→W.heap[w.heap.size]?=some (.stringIter baseS (pos+1))→Below w.heap.size w W→Cn.plain l (baseL.getD pos 0)=true→BaseIn w l (pos+1) W):=fun W _ hW hb hpl=>⟨by omega,hW,hb,fun j hj=>by
    rcases Nat.lt_or_ge j pos with h | h
    ·exact (Uh HALL) j h
    ·obtain rfl:j=pos:=by omega
     exact hpl⟩
   generalize wr.iterAt w.heap.size baseS (pos+1)=W2 at *
   generalize baseL.getD pos 0=c at *
   rcases hH with ⟨h1,h2⟩ | ⟨k,b,off,cap',h1,hkl,h2,hve,hl,hm,hr,hf⟩
   ·obtain rfl:R=false:=(Uh HNO1) (by rw [Uh HPL,h2])
    rw [h1] at KD1
    go_wp2_with fail
    refine (Uh K1).mono ?_
    rintro e W3 ⟨rfl,hb3⟩
    have hB3:=bthen hbel2 hb3
    have K2:=Hd ((Uh KD1) W3 hB3)
    go_wp2_with fail
    refine (Uh K2).mono ?_
    rintro e W4 ⟨rfl,hb4⟩
    have HF:BoolB w false (.returned (.bool false)) W4:=⟨rfl,bthen hB3 hb4⟩
    go_wp2
    go_ret
    exact HF
   ·simp only [Value.slice.injEq] at hve
    obtain ⟨rfl,_,rfl⟩:=hve
    have hpl:Cn.plain l c=decide ((l.getD k Cn.none).kind=1):=by rw [Uh HPL,h2]
    rw [h1] at KD1
    have HR:=Hd hr
    generalize l.getD k Cn.none=r at *
    have HPL:=Hd hpl
    go_wp2_with fail
    refine (Uh K1).mono ?_
    rintro e W3 ⟨rfl,hb3⟩
    have hB3:=bthen hbel2 hb3
    have K2:=Hd ((Uh KD1) W3 hB3)
    go_wp2_with fail
    refine (Uh K2).mono ?_
    rintro e W4 ⟨rfl,hb4⟩
    have hB4:=bthen hB3 hb4
    have x0:=((Uh HR).below hB4).kind
    have hb24:Below W2.heap.size W2 W4:=bthen hb3 hb4
    have hit4:W4.heap[w.heap.size]?=some (.stringIter baseS (pos+1)):=by rw [hb24.block _ hsz2]; exact hit2
    have hs4:=hb24.size
    have HNX4:=Hd ((Uh HNX) W4 hs4 hit4 hB4)
    have hmo4:38 - W4.iterPos w.heap.size<38 - wr.iterPos w.heap.size:=by
     simp only [World.iterPos,hit4]
     simp only [World.iterPos] at hmo
     exact hmo
    by_cases k1:r.kind=1
    ·have HIN2:Hid (BaseIn w l (pos+1) W4):=(Uh HNX4) (by rw [Uh HPL,k1]; rfl)
     rw [k1] at x0
     go_wp2
     go_roundw
     case rel=>exact ⟨pos+1,HIN2⟩
     case measure=>exact hmo4
    ·obtain rfl:R=false:=(Uh HNO1) (by rw [Uh HPL]; exact decide_eq_false k1)
     have HF:BoolB w false (.returned (.bool false)) W4:=⟨rfl,hB4⟩
     have q1:(r.kind != 1)=true:=by simp [k1]
     go_wp2
     go_ret
     exact HF
  ·obtain rfl:pos=38:=by omega
   obtain rfl:R=true:=(Uh HYES) hall
   have HF:BoolB w true (.returned (.bool true)) wr:=⟨rfl,hbel⟩
   have hnx:=fun ty=>Lib.run_next_end_at (P:=Tryz.prog) wr w.heap.size baseS 38 ty hit (by rw [baseS_size]; omega)
   go_wp2
   go_ret
   exact HF
end Go.Proofs.YtihhhjodonkkcaaGreatDoor
