/- What the calls of scan are asked; the statements' own told. -/
import Derived.Test.YtkdkmnohnhhojaaDoorSame5w
import Derived.Test.YtkdkmnohnhhojaaDoorGlo5
namespace Go.Proofs.YtkdkmnohnhhojaaDoor
open Go.RowKit

def CodeB (w : World) (r : Int × Bool) (e : Ending) (w' : World) : Prop := e = .returned (.tuple #[.int .i32 r.1, .bool r.2]) ∧ Below w.heap.size w w'
def SpanB (w : World) (r : Option (Int × Int)) (e : Ending) (w' : World) : Prop := e = .returned (.tuple #[.int .i32 ((r.map (·.1)).getD 0), .int .i32 ((r.map (·.2)).getD 0), .bool r.isSome]) ∧ Below w.heap.size w w'
def WholeB (w : World) (r : Int × Bool) (e : Ending) (w' : World) : Prop := e = .returned (.tuple #[.int .i64 r.1, .bool r.2]) ∧ Below w.heap.size w w'
def Tells (w : World) (b : Bool) (e : Ending) (w' : World) : Prop := e = .returned (.bool b) ∧ Below w.heap.size w w'

def LinesC : Prop := ∀ (s : ByteArray) (w : World), Glob w → s.size ≤ 1000000000 → Calls Tryd.prog 8 #[.string s] w (TextsNew w (Scn.lines (nums s)))
def WordsC : Prop := ∀ (s : ByteArray) (w : World), Glob w → s.size ≤ 1000000000 → Calls Tryd.prog 12 #[.string s] w (WordsNew 34 w (Scn.words (nums s)) (Scn.endA (nums s)))
def CodeC : Prop := ∀ (s : ByteArray) (w : World), Glob w → s.size ≤ 1000000000 → Calls Tryd.prog 15 #[.string s] w (CodeB w (Scn.told (Scn.code (nums s))))
def SpanC : Prop := ∀ (s : ByteArray) (w : World), Glob w → s.size ≤ 1000000000 → Calls Tryd.prog 17 #[.string s] w (SpanB w (Scn.span (nums s)))
def WholeC : Prop := ∀ (s : ByteArray) (w : World), Glob w → s.size ≤ 1000000000 → Calls Tryd.prog 19 #[.string s] w (WholeB w (Scn.told (Scn.whole (nums s))))
def NameC : Prop := ∀ (s : ByteArray) (w : World), Glob w → s.size ≤ 1000000000 → Calls Tryd.prog 21 #[.string s] w (Tells w (Scn.name (nums s)))
def PCodeC : Prop := ∀ (c : Int) (w : World), Glob w → (-2147483648 ≤ c ∧ c ≤ 2147483647) → Calls Tryd.prog 23 #[.int .i32 c] w (TextNew w (Scn.pcode c))
def PSpanC : Prop := ∀ (a b : Int) (w : World), Glob w → (-2147483648 ≤ a ∧ a ≤ 2147483647) → (-2147483648 ≤ b ∧ b ≤ 2147483647) → Calls Tryd.prog 25 #[.int .i32 a, .int .i32 b] w (TextNew w (Scn.pspan a b))
def PWholeC : Prop := ∀ (n : Int) (w : World), Glob w → (-9223372036854775808 ≤ n ∧ n ≤ 9223372036854775807) → Calls Tryd.prog 27 #[.int .i64 n] w (TextNew w (Scn.pwhole n))

set_option maxHeartbeats 1000000 in
theorem told_any (HL : LinesC) (HW : WordsC) (HS : SpanC) (HO : WholeC) (HN : NameC) (HP : PCodeC) (w : World) (hg : Glob w) : Calls Tryd.prog 10 #[] w (Tells w true) := by
  have K1 := hide (HW ⟨#[32, 97, 32, 32, 98, 35, 99]⟩)
  have K2 := hide (HS ⟨#[52, 49, 46, 46, 53, 65]⟩)
  have K3 := hide (HO ⟨#[45, 55]⟩)
  have K4 := hide (HP 1114111)
  have K5 := hide (HL ⟨#[97, 10, 98]⟩)
  have K6 := hide (HN ⟨#[76, 97, 116, 110]⟩)
  clear HL HW HS HO HN HP
  go_enter Tryd.func10, Tryd.ntmps10
  go_wp2_with fail
  refine ((unhide K1) w hg (by decide)).mono ?_
  rintro e1 w1 ⟨v1, rfl, hr1, hb1⟩
  have g1 := hg.on hb1
  have hw : Scn.words (nums ⟨#[32, 97, 32, 32, 98, 35, 99]⟩) = [([97], 1), ([98], 4)] := by decide
  have he : Scn.endA (nums ⟨#[32, 97, 32, 32, 98, 35, 99]⟩) = 5 := by decide
  rw [hw] at hr1
  rw [he]
  have hd1 := Wd.own hr1
  clear K1 hw he hr1
  go_wp2_with fail
  refine ((unhide K2) w1 g1 (by decide)).mono ?_
  rintro e2 w2 ⟨rfl, hb2⟩
  have g2 := g1.on hb2
  have hs : Scn.span (nums ⟨#[52, 49, 46, 46, 53, 65]⟩) = some (65, 90) := by decide
  rw [hs]
  clear K2 hs
  go_wp2_with fail
  refine ((unhide K3) w2 g2 (by decide)).mono ?_
  rintro e3 w3 ⟨rfl, hb3⟩
  have g3 := g2.on hb3
  have ho : Scn.told (Scn.whole (nums ⟨#[45, 55]⟩)) = (-7, true) := by decide
  rw [ho]
  clear K3 ho
  have hd3 := (hd1.below hb2).below hb3
  obtain ⟨b, off, cap, rfl, hc1, hc2, hc⟩ := hd3.place (by decide)
  obtain ⟨_, _⟩ := hc 0 (by decide)
  obtain ⟨x1, x2⟩ := hc 1 (by decide)
  have hx1 : w3.cell? ⟨b, off + 2, none⟩ = some (.string ⟨#[98]⟩) := x1
  have hx2 : w3.cell? ⟨b, off + 2 + 1, none⟩ = some (.int .i64 4) := x2
  clear hc hd1 hd3 x1 x2
  go_wp2_with fail
  refine ((unhide K4) w3 g3 (by decide)).mono ?_
  rintro e4 w4 ⟨t4, ht4, rfl, hb4⟩
  have g4 := g3.on hb4
  obtain rfl : t4 = ⟨#[49, 48, 70, 70, 70, 70]⟩ := nums_inj (ht4.trans (by decide))
  clear K4 ht4 hx1 hx2
  go_wp2_with fail
  refine ((unhide K5) w4 g4 (by decide)).mono ?_
  rintro e5 w5 ⟨v5, rfl, ho5, hb5⟩
  have g5 := g4.on hb5
  have hl5 : Scn.lines (nums ⟨#[97, 10, 98]⟩) = [[97], [98]] := by decide
  rw [hl5] at ho5
  obtain ⟨ao5, cap5, rfl, _, _⟩ := ho5.sv.shape
  have hl6 : (txts [[97], [98]]).length = 2 := rfl
  rw [hl6]
  clear K5 hl5 ho5 hl6
  go_wp2_with fail
  refine ((unhide K6) w5 g5 (by decide)).mono ?_
  rintro e6 w6 ⟨rfl, hb6⟩
  have hn6 : Scn.name (nums ⟨#[76, 97, 116, 110]⟩) = true := by decide
  rw [hn6]
  have HF : Tells w true (.returned (.bool true)) w6 := ⟨rfl, bthen (bthen (bthen (bthen (bthen hb1 hb2) hb3) hb4) hb5) hb6⟩
  clear K6 hn6
  go_wp2
  go_ret
  exact HF
end Go.Proofs.YtkdkmnohnhhojaaDoor
