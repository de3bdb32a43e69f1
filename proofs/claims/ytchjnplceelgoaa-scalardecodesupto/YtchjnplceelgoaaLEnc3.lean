/- The law ScalarEncodes, out of the contracts. -/
import Derived.Test.YtchjnplceelgoaaTold3
import Derived.Test.YtchjnplceelgoaaRoom3
import Derived.Test.YtchjnplceelgoaaRefF3
namespace Go.Proofs.Ytchjnplceelgoaa
open Go.RowKit

def SoundC : Prop := ∀ (v : Value) (xs : List Int) (w : World), Sk .i32 w v xs → Calls Try.prog 18 #[v] w (Tells w (allb okb xs))
def AsciiC : Prop := ∀ (v : Value) (xs : List Int) (w : World), Sk .i32 w v xs → Calls Try.prog 20 #[v] w (Tells w (allb ascb xs))
def BytesC : Prop := ∀ (v : Value) (xs : List Int) (w : World), Sk .i32 w v xs → xs.length ≤ 35184372087808 → Calls Try.prog 16 #[v] w fun e w' => e = .returned (.int .i64 (cnt (Utf.encA 0 xs))) ∧ Below w.heap.size w w'

set_option maxHeartbeats 2000000 in
theorem scalarEncodes_any (HD : DecC) (HE : EncC) (HV : ValC) (HS : SplC) (HB : BytesC) (HO : SoundC) (HA : AsciiC) (v : Value) (xs : List Int) (c : Int) (w : World) (hv : Sk .i32 w v xs) (hx : xs.length ≤ 35184372087808)
    (hc0 : -2147483648 ≤ c) (hc1 : c ≤ 2147483647) : Calls Try.prog 4 #[v, .int .i32 c] w (Tells w true) := by
  have HT := fun w => hide (told_any HD HE HV HS w)
  have HR := hide (roomy_any v xs w hv hx)
  have hvs := hide hv
  have KE := hide HE
  have KV := hide HV
  have KB := hide HB
  have KO := hide HO
  have KA := hide HA
  obtain ⟨ao, cap, rfl, _, _⟩ := hv.shape
  clear hv HD HE HV HS HB HO HA
  go_enter Try.func4, Try.ntmps4
  go_wp2_with fail
  refine (unhide HR).mono ?_
  rintro e w1 ⟨g, cp, rfl, hrm, hcp1, hcp2, hb1⟩
  have hrm' := hide hrm.sk
  clear HR hrm
  have H1 := hide (unhide KE _ xs w1 (room_sk (unhide hrm')) hx)
  clear KE
  go_wp2_with fail
  refine (unhide H1).mono ?_
  rintro e w2 ⟨rfl, hb2⟩
  have hb02 := bthen hb1 hb2
  have hrm2 := hide ((unhide hrm').below hb2)
  clear H1 hb1 hb2 hrm'
  have H2 := hide (refEncode_any _ xs w2 ((unhide hvs).below hb02) hx)
  go_wp2_with fail
  refine (unhide H2).mono ?_
  rintro e w3 ⟨rfl, hb3⟩
  have hb03 := bthen hb02 hb3
  have hrm3 := hide ((unhide hrm2).below hb3)
  clear H2 hb02 hb3 hrm2
  go_wp2_with fail
  refine (unhide (HT _)).mono ?_
  rintro e w4 ⟨rfl, hb4⟩
  have hb04 := bthen hb03 hb4
  have hrm4 := hide ((unhide hrm3).below hb4)
  clear HT hb03 hb4 hrm3
  have H3 := hide (unhide KB _ xs w4 (room_sk (unhide hrm4)) hx)
  have H4 := fun w hv => hide (refBytes_any (.slice ao xs.length cap) xs w hv hx)
  generalize Utf.encA 0 xs = r at *
  generalize strOfNums r.1 = st at *
  generalize r.2.1 = r1 at *
  generalize r.2.2 = r2 at *
  generalize cnt r = cn at *
  clear KB
  go_wp2_with fail
  refine (unhide H3).mono ?_
  rintro e w5 ⟨rfl, hb5⟩
  have hb05 := bthen hb04 hb5
  have hrm5 := hide ((unhide hrm4).below hb5)
  clear H3 hb04 hb5 hrm4
  have H5 := H4 w5 ((unhide hvs).below hb05)
  clear H4
  go_wp2_with fail
  refine (unhide H5).mono ?_
  rintro e w6 ⟨rfl, hb6⟩
  have hb06 := bthen hb05 hb6
  have hrm6 := hide ((unhide hrm5).below hb6)
  clear H5 hb05 hb6 hrm5
  have H6 := hide (unhide KO _ xs w6 (room_sk (unhide hrm6)))
  have H6b := fun w hv => hide (refSound_any (.slice ao xs.length cap) xs w hv)
  have H7 := fun w h => hide (unhide KA (.slice (some ⟨g, 0, none⟩) xs.length cp) xs w h)
  have H7b := fun w hv => hide (refASCII_any (.slice ao xs.length cap) xs w hv)
  generalize allb okb xs = b1 at *
  generalize allb ascb xs = b2 at *
  clear KO KA
  go_wp2_with fail
  refine (unhide H6).mono ?_
  rintro e w7 ⟨rfl, hb7⟩
  have hb07 := bthen hb06 hb7
  have hrm7 := hide ((unhide hrm6).below hb7)
  clear H6 hb06 hb7 hrm6
  have H8 := H6b w7 ((unhide hvs).below hb07)
  clear H6b
  go_wp2_with fail
  refine (unhide H8).mono ?_
  rintro e w7 ⟨rfl, rfl⟩
  clear H8
  have H9 := H7 w7 (room_sk (unhide hrm7))
  clear H7
  go_wp2_with fail
  refine (unhide H9).mono ?_
  rintro e w8 ⟨rfl, hb8⟩
  have hb08 := bthen hb07 hb8
  have hrm8 := hide ((unhide hrm7).below hb8)
  clear H9 hb07 hb8 hrm7
  have H10 := H7b w8 ((unhide hvs).below hb08)
  clear H7b
  go_wp2_with fail
  refine (unhide H10).mono ?_
  rintro e w8 ⟨rfl, rfl⟩
  clear H10
  have H11 := hide (unhide KV c w8 hc0 hc1)
  have H12 : ∀ w : World, Hid (Calls Try.prog 23 #[.int .i32 c] w fun e w' => e = .returned (.bool (okb c)) ∧ w' = w) := fun w => hide (refValid_any c w ⟨hc0, hc1⟩)
  generalize okb c = b3 at *
  clear KV
  go_wp2_with fail
  refine (unhide H11).mono ?_
  rintro e w9 ⟨rfl, hb9⟩
  have hb09 := bthen hb08 hb9
  have hrm9 := hide ((unhide hrm8).below hb9)
  clear H11 hb08 hb9 hrm8
  go_wp2_with fail
  refine (unhide (H12 _)).mono ?_
  rintro e w9 ⟨rfl, rfl⟩
  clear H12
  have H13 := hide (whole_yes g cp _ xs w9 ((unhide hvs).below hb09) hx hcp1 hcp2 (unhide hrm9))
  go_wp2_with fail
  refine (unhide H13).mono ?_
  rintro e w10 ⟨rfl, hb10⟩
  have hb := bthen hb09 hb10
  clear H13 hrm9 hvs
  go_wp2
  go_ret
  exact ⟨rfl, hb⟩
end Go.Proofs.Ytchjnplceelgoaa
