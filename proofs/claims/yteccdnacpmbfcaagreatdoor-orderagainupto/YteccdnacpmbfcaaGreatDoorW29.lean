/- Vc9 -/
import Derived.Test.YteccdnacpmbfcaaGreatDoorW25
namespace Go.Proofs.YteccdnacpmbfcaaGreatDoor
open Go.RowKit
open Ti
namespace Cn
end Cn
theorem Ok.setAt9 {K:IntKind} {e:TypeId} {w:World} {B g n cap:Nat} {zs:List Int} (h:Ok K e w B (.slice (some ⟨g,0,none⟩) n cap) zs) (k:Nat) (z:Int) (hz:Fit K [z]) :
  Ok K e (w.setCell ⟨g,k,none⟩ (.int K z)) B (.slice (some ⟨g,0,none⟩) n cap) (zs.set k z)∧w.frozen? ⟨g,k,none⟩=false:=by
 have hrow:=h.row
 rcases hrow.2 with ⟨h0,_⟩ | ⟨g',cap',cur,hv,hb,hh,hn,hcap,hsz,htake⟩
 ·cases h0
 ·simp only [Value.slice.injEq,Option.some.injEq,Addr.mk.injEq] at hv
  obtain ⟨⟨rfl,_⟩,hnn,rfl⟩:=hv
  refine ⟨Ok.of (n:=zs.length) (us:=(zs.set k z).map (Value.int K)) ?_ (by simpa using h.sk.len) ⟨by simp,.inr ⟨g,cap,cur.setIfInBounds k (.int K z),by rw [hnn],hb,set_block hh _,hn,hcap,by simpa using hsz,?_⟩⟩ (by simp) rfl,?_⟩
  ·intro y hy
   rcases List.mem_or_eq_of_mem_set hy with hy | hy
   ·exact h.1 y hy
   ·subst hy; exact hz _ (by simp)
  ·rw [Nat.mul_one] at htake ⊢
   rw [Array.toList_setIfInBounds,List.take_set,htake,← List.map_set]
  ·simp [World.frozen?,hh]
end Go.Proofs.YteccdnacpmbfcaaGreatDoor
