/- Rwp7 -/
import Derived.Test.YtdjpjgjhiibpkaaGreatDoorW18
import Derived.Deep.DeepCutAuto
import Derived.Laws.BitsLemmas
namespace Go.Proofs.YtdjpjgjhiibpkaaGreatDoor
open Go.RowKit
theorem box_one (w:World) (kd lo hi n:Int) (vt:Value) (nm ot:ByteArray) (wt:Nat):∃ W,w.alloc (.cells #[.int .i64 kd,.int .i64 lo,.int .i64 hi,.int .i64 n,vt,.string nm,.string ot,.float .f64 wt] 50)=W∧BoxAt W w.heap.size kd lo hi n vt nm ot wt∧Below w.heap.size w W :=
 ⟨_,rfl,box_new w kd lo hi n vt nm ot wt,(Below.refl _ _).alloc (Nat.le_refl _) _⟩
def ansG (x:Bool):Int:=if x=true then 0 else 61
theorem wrap32_rune (x:Int):Rune (wrap32 x):=by
 unfold wrap32 Rune
 omega
theorem mask_small {x:Int} (h0:0≤x) (h1:x≤1114111):wrap32 (bits BinOp.and IntKind.i64 x 2097151)=x:=by
 have e63:(2:Int) ^ 63=9223372036854775808:=by decide
 have h:=bits_mask .i64 63 (by decide) (fun n h0 h1=>by rw [e63] at h1; rw [IntKind.wrap_i64]; omega) 21 (by decide) x (by omega) (by rw [e63]; omega)
 have e:((2:Int) ^ 21 - 1)=2097151:=by decide
 have e2:((2:Int) ^ 21)=2097152:=by decide
 rw [e,e2] at h
 rw [h]
 unfold wrap32
 omega
end Go.Proofs.YtdjpjgjhiibpkaaGreatDoor
