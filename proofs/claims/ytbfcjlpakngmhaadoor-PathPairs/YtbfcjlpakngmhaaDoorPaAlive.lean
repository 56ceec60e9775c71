/- The fixed fact of layer 8's laws. Conditions: the tables of unicode/utf8. -/
import Derived.Test.YtbfcjlpakngmhaaDoorPaNorm
import Derived.Test.YtbfcjlpakngmhaaDoorPaCmp
namespace Go.Proofs.YtbfcjlpakngmhaaDoor
open Go.RowKit

theorem fix_normal : Pt.normal [47, 97, 47, 47, 98, 47, 46, 47, 99, 47, 46, 46, 47, 100, 47] = some [97, 47, 98, 47, 100] := by kernel_rfl
theorem fix_good : Pt.good [97, 47, 98] = true := by kernel_rfl
theorem fix_bad : Pt.good [97, 47] = false := by kernel_rfl
theorem fix_cmp : Pt.cmp [97, 47, 98] [97, 46, 98] = -1 := by kernel_rfl

set_option maxRecDepth 100000 in
theorem alive8_any {w : World} (hU : U8 w) : Calls Tryd.prog 9 #[] w fun e w' => e = .returned (.bool true) ∧ Quiet w w' := by
  have HU := Lib.hid hU
  have HN : Hid (∀ W, U8 W → Calls Tryd.prog 27 #[.string ⟨#[47, 97, 47, 47, 98, 47, 46, 47, 99, 47, 46, 46, 47, 100, 47]⟩] W fun e w' => e = .returned (.tuple #[.string ⟨#[97, 47, 98, 47, 100]⟩, .nilIface]) ∧ Quiet W w') := fun W h =>
    (normal_any ⟨#[47, 97, 47, 47, 98, 47, 46, 47, 99, 47, 46, 46, 47, 100, 47]⟩ (by decide) h).mono fun e w' ⟨h1, h2⟩ => ⟨by
      rw [h1, show Pt.normal (ByteArray.mk #[47, 97, 47, 47, 98, 47, 46, 47, 99, 47, 46, 46, 47, 100, 47]).data.toList = _ from fix_normal]; rfl, h2⟩
  have HG : Hid (∀ W, U8 W → Calls Tryd.prog 13 #[.string ⟨#[97, 47, 98]⟩] W fun e w' => e = .returned (.bool true) ∧ Quiet W w') := fun W h =>
    (good_any ⟨#[97, 47, 98]⟩ (by decide) h).mono fun e w' ⟨h1, h2⟩ => ⟨by rw [h1, show Pt.good (ByteArray.mk #[97, 47, 98]).data.toList = _ from fix_good], h2⟩
  have HB : Hid (∀ W, U8 W → Calls Tryd.prog 13 #[.string ⟨#[97, 47]⟩] W fun e w' => e = .returned (.bool false) ∧ Quiet W w') := fun W h =>
    (good_any ⟨#[97, 47]⟩ (by decide) h).mono fun e w' ⟨h1, h2⟩ => ⟨by rw [h1, show Pt.good (ByteArray.mk #[97, 47]).data.toList = _ from fix_bad], h2⟩
  have HC : Hid (∀ W, Calls Tryd.prog 21 #[.string ⟨#[97, 47, 98]⟩, .string ⟨#[97, 46, 98]⟩] W fun e w' => e = .returned (.int .i64 (-1)) ∧ Quiet W w') := fun W =>
    (compare_any ⟨#[97, 47, 98]⟩ ⟨#[97, 46, 98]⟩ (by decide) (by decide) W).mono fun e w' ⟨h1, h2⟩ => ⟨by rw [h1, show Pt.cmp (ByteArray.mk #[97, 47, 98]).data.toList (ByteArray.mk #[97, 46, 98]).data.toList = _ from fix_cmp], h2⟩
  clear hU
  go_enter Tryd.func9, Tryd.ntmps9
  go_wp2_with fail
  refine (HN.out _ HU.out).mono ?_
  rintro e w1 ⟨rfl, hq⟩
  have HU1 := Lib.hid (HU.out.quiet hq)
  have HQ1 := Lib.hid hq
  clear hq
  go_wp2_with fail
  refine (HG.out _ HU1.out).mono ?_
  rintro e w2 ⟨rfl, hq⟩
  have HU2 := Lib.hid (HU1.out.quiet hq)
  have HQ2 := Lib.hid (HQ1.out.trans hq)
  clear hq
  go_wp2_with fail
  refine (HB.out _ HU2.out).mono ?_
  rintro e w3 ⟨rfl, hq⟩
  have HQ3 := Lib.hid (HQ2.out.trans hq)
  clear hq
  go_wp2_with fail
  refine (HC.out _).mono ?_
  rintro e w4 ⟨rfl, hq⟩
  have HQ4 := Lib.hid (HQ3.out.trans hq)
  clear hq
  go_wp2_with fail
  go_ret
  exact ⟨rfl, HQ4.out⟩

end Go.Proofs.YtbfcjlpakngmhaaDoor
