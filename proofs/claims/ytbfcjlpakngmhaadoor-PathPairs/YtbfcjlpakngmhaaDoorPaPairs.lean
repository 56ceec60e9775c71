/- The law PathPairs. Conditions: texts of 2^20 bytes at most. -/
import Derived.Test.YtbfcjlpakngmhaaDoorPaAlive
import Derived.Test.YtbfcjlpakngmhaaDoorPaAbove
import Derived.Test.YtbfcjlpakngmhaaDoorPaCmp
import Derived.Test.YtbfcjlpakngmhaaDoorPaRefO
namespace Go.Proofs.YtbfcjlpakngmhaaDoor
open Go.RowKit

set_option maxRecDepth 100000 in
set_option maxHeartbeats 4000000 in
theorem pathPairs_any (a b : ByteArray) (ha : a.size ≤ 1048576) (hb : b.size ≤ 1048576) {w : World} (hU : U8 w) :
    Calls Tryd.prog 4 #[.string a, .string b] w fun e w' => e = .returned (.bool true) ∧ Quiet w w' := by
  have HU := Lib.hid hU
  have HA := Lib.hid (alive8_any hU)
  have HAB : Hid (∀ W, U8 W → Calls Tryd.prog 23 #[.string a, .string b] W fun e w' => e = .returned (.bool (Pt.above a.data.toList b.data.toList)) ∧ Quiet W w') := fun W h => above_any a b (by omega) (by omega) h
  have HRA := Lib.hid (r8above_any a b)
  have HCAB := Lib.hid (compare_any a b (by omega) (by omega))
  have HRC := Lib.hid (r8compare_any a b ha hb)
  generalize Pt.above a.data.toList b.data.toList = AB at *
  generalize Pt.cmp a.data.toList b.data.toList = x at *
  clear hU ha hb
  go_enter Tryd.func4, Tryd.ntmps4
  go_wp2_with fail
  refine HA.out.mono ?_
  rintro e w1 ⟨rfl, hq⟩
  have HU1 := Lib.hid (HU.out.quiet hq)
  have HQ1 := Lib.hid hq
  clear hq
  go_wp2_with fail
  refine (HCAB.out _).mono ?_
  rintro e w2 ⟨rfl, hq⟩
  have HU2 := Lib.hid (HU1.out.quiet hq)
  have HQ2 := Lib.hid (HQ1.out.trans hq)
  clear hq
  go_wp2_with fail
  refine (HRC.out _).mono ?_
  rintro e w3 ⟨rfl, hq⟩
  have HU3 := Lib.hid (HU2.out.quiet hq)
  have HQ3 := Lib.hid (HQ2.out.trans hq)
  clear hq
  go_wp2_with fail
  refine (HAB.out _ HU3.out).mono ?_
  rintro e w4 ⟨rfl, hq⟩
  have HQ4 := Lib.hid (HQ3.out.trans hq)
  clear hq
  go_wp2_with fail
  refine (HRA.out _).mono ?_
  rintro e w5 ⟨rfl, hq⟩
  have HQ5 := Lib.hid (HQ4.out.trans hq)
  clear hq
  go_wp2
  go_ret
  exact ⟨by simp, HQ5.out⟩

end Go.Proofs.YtbfcjlpakngmhaaDoor
