/- Vq9 Vr9 Vs9 Vt9 -/
import Derived.Test.YtihhhjodonkkcaaGreatDoorX36
namespace Go.Proofs.YtihhhjodonkkcaaGreatDoor
open Go.RowKit
open Ti
namespace Cn
end Cn
namespace Cn
end Cn
open Ti
open Ti
open Ti
theorem Cn.right_looks {r:Rec} (h:Cn.right r=0) (h13:r.kind=13):r.lo=r.hi∧Cn.scalar r.lo=true∧Cn.list r.to 1 24=true:=by
 have hf:=Cn.right_kind h
 unfold Cn.right at h
 rw [if_neg hf,if_neg (by omega)] at h
 have hc:=Cn.if_zero h
 rw [Bool.and_eq_true,if_neg (by omega),if_neg (by omega),if_neg (by omega),if_neg (by omega),if_pos h13] at hc
 have h2:=hc.2
 simp only [Bool.and_eq_true] at h2
 exact ⟨of_decide_eq_true h2.1.1.1,h2.1.1.2,h2.2⟩
theorem Cn.looks_long {rs:List Rec} (h6:(Cn.check6 rs).2=0) {r:Rec} {c:Int} (h:Cn.hit rs 8 c=some r):r.to≠[]:=by
 obtain ⟨hm,hf,_⟩:=Cn.hit_some h
 have hk:r.kind=13:=by
  unfold Cn.fam at hf
  split at hf
  ·omega
  ·split at hf
   ·omega
   ·split at hf
    ·omega
    ·split at hf <;> omega
 have hl:=(Cn.list_parts (Cn.right_looks ((Cn.check6_iff.1 h6).2.1 r hm) hk).2.2).1.1
 intro h0
 rw [h0] at hl
 simp at hl
set_option maxHeartbeats 2000000 in
set_option maxRecDepth 8000 in
theorem refLooks9 (v:Value) (rs:List Rec) (c:Int) (w:World) (hv:Rcs w v rs) (h6:(Cn.check6 rs).2=0) (hc:Rune c):Calls Tryz.prog 33 #[v,.int .i32 c] w (RunesNew w (Cn.looks rs c)):=by
 obtain ⟨i0,hi,hz0,hz1,hz2⟩:=info_parts Tryz.info21
 have K:=Hd (refFind_any v rs 8 c w hv (by unfold I64; omega) hc)
 rcases hit_at hv 8 c with ⟨h1,h2⟩ | ⟨k,b,off,cap,h1,hkl,h2,rfl,hl,hm,hr,hf⟩
 ·have ho:Cn.looks rs c=[c]:=by unfold Cn.looks Cn.rget; rw [h2]; rfl
  rw [ho]
  rw [h1] at K
  obtain ⟨c0,c1⟩:=hc
  obtain ⟨ao,cap,rfl,_,_⟩:=hv.shape
  clear hv h1 h2 ho h6
  go_enter Tryz.func33,Tryz.ntmps33
  go_wp2_with fail
  refine (Uh K).mono ?_
  rintro e w1 ⟨rfl,hb⟩
  have HF:RunesNew w [c] (.returned (.slice (some ⟨w1.heap.size,0,none⟩) 1 1)) (w1.alloc (.cells #[.int .i32 c] 21)):=⟨_,rfl,ok_one9 w1 _ hb.size c ⟨c0,c1⟩,hb.alloc hb.size _⟩
  clear K hb
  go_wp2
  go_ret
  exact HF
 ·have hne:(rs.getD k Cn.none).to≠[]:=Cn.looks_long h6 h2
  have ho:Cn.looks rs c=(rs.getD k Cn.none).to:=by unfold Cn.looks Cn.rget; rw [h2]; exact if_neg hne
  rw [ho]
  rw [h1] at K
  have HR:=Hd hr
  have hlen:=hv.1
  have hto:=hf.len
  obtain ⟨c0,c1⟩:=hc
  clear hv h1 h2 ho hr hf h6
  generalize rs.getD k Cn.none=r at *
  go_enter Tryz.func33,Tryz.ntmps33
  go_wp2_with fail
  refine (Uh K).mono ?_
  rintro e w1 ⟨rfl,hb⟩
  obtain ⟨vt,x4,hsk⟩:=((Uh HR).below hb).to
  have hB:=hb.size
  have hfit:=hsk.1
  clear K HR
  generalize r.to=zs at *
  rcases hsk.2.src with ⟨hnil,rfl⟩ | ⟨ad,tcap,rfl,hsrc⟩
  ·exact absurd (by simpa using hnil) hne
  ·have hml:(zs.map (Value.int .i32)).length=zs.length:=List.length_map _
   rw [hml] at x4
   clear hsk hne
   go_wp2_with (at_builtin; refine wpList_append_own _ rfl _ _ 23 rfl w.heap.size 21 i0 (.int .i32 0) 1 4 Tryz.underlying23 hi hz0 hz1 hz2 rfl (by decide) _ _ _ rfl (World.ownsRow_nil _ _ _ _) ad zs.length tcap (zs.map (Value.int .i32)) rfl (by simp) hsrc (fun u hu=>by obtain ⟨z,_,rfl⟩:=List.mem_map.1 hu; rfl) (by unfold maxLen; omega) (by omega) (by omega) ?_)
   intro v9 w9 hrow9 hg9 _
   have hb9:Below w.heap.size w w9:=hb.grown hg9 hB (fun k hk=>by simp [Value.ownBlock] at hk)
   have HF:RunesNew w zs (.returned v9) w9:=⟨v9,rfl,Ok.of hfit (by omega) hrow9 (by simp) (by simp),hb9⟩
   clear hrow9 hg9 hb hb9 hsrc
   go_wp2
   go_ret
   exact HF
end Go.Proofs.YtihhhjodonkkcaaGreatDoor
