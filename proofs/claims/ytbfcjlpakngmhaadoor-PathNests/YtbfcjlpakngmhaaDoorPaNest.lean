/- The law PathNests. Conditions: texts within the reach. -/
import Derived.Test.YtbfcjlpakngmhaaDoorPaAlive
import Derived.Test.YtbfcjlpakngmhaaDoorPaAbove
import Derived.Test.YtbfcjlpakngmhaaDoorPaOrd
namespace Go.Proofs.YtbfcjlpakngmhaaDoor
open Go.RowKit

set_option maxRecDepth 100000 in
set_option maxHeartbeats 4000000 in
theorem pathNests_any (a b c : ByteArray) (ha : a.size ≤ 140737488351232) (hb : b.size ≤ 140737488351232) (hc : c.size ≤ 140737488351232) {w : World} (hU : U8 w) :
    Calls Tryd.prog 7 #[.string a, .string b, .string c] w fun e w' => e = .returned (.bool true) ∧ Quiet w w' := by
  have HU := Lib.hid hU
  have HA := Lib.hid (alive8_any hU)
  have HAB : Hid (∀ W, U8 W → Calls Tryd.prog 23 #[.string a, .string b] W fun e w' => e = .returned (.bool (Pt.above a.data.toList b.data.toList)) ∧ Quiet W w') := fun W h => above_any a b ha hb h
  have HBA : Hid (∀ W, U8 W → Calls Tryd.prog 23 #[.string b, .string a] W fun e w' => e = .returned (.bool (Pt.above b.data.toList a.data.toList)) ∧ Quiet W w') := fun W h => above_any b a hb ha h
  have HAC : Hid (∀ W, U8 W → Calls Tryd.prog 23 #[.string a, .string c] W fun e w' => e = .returned (.bool (Pt.above a.data.toList c.data.toList)) ∧ Quiet W w') := fun W h => above_any a c ha hc h
  have HBC : Hid (∀ W, U8 W → Calls Tryd.prog 23 #[.string b, .string c] W fun e w' => e = .returned (.bool (Pt.above b.data.toList c.data.toList)) ∧ Quiet W w') := fun W h => above_any b c hb hc h
  have HGC : Hid (∀ W, U8 W → Calls Tryd.prog 13 #[.string c] W fun e w' => e = .returned (.bool (Pt.good c.data.toList)) ∧ Quiet W w') := fun W h => good_any c hc h
  have HCAB := Lib.hid (compare_any a b ha hb)
  have HCAC := Lib.hid (compare_any a c ha hc)
  have HCBC := Lib.hid (compare_any b c hb hc)
  have f1 := Pt.above_cmp (a := a.data.toList) (b := b.data.toList)
  have f2 := Pt.above_not (a := a.data.toList) (b := b.data.toList)
  have f3 := Pt.above_trans (a := a.data.toList) (b := b.data.toList) (c := c.data.toList)
  have f4 := Pt.above_same (a := a.data.toList) (b := b.data.toList) (c := c.data.toList)
  have hne : (c.toList == a.toList) = false → c.data.toList ≠ a.data.toList := fun h => by rw [toList_eq, beq_eq_false_iff_ne] at h; exact h
  generalize Pt.above a.data.toList b.data.toList = AB at *
  generalize Pt.above b.data.toList a.data.toList = BA at *
  generalize Pt.above a.data.toList c.data.toList = AC at *
  generalize Pt.above b.data.toList c.data.toList = BC at *
  generalize Pt.good c.data.toList = G at *
  generalize Pt.cmp a.data.toList b.data.toList = x at *
  generalize Pt.cmp a.data.toList c.data.toList = y at *
  generalize Pt.cmp b.data.toList c.data.toList = z at *
  clear hU ha hb hc
  cases AB with
  | false =>
    clear f1 f2 f3 f4 hne
    go_enter Tryd.func7, Tryd.ntmps7
    go_wp2_with fail
    refine HA.out.mono ?_
    rintro e w1 ⟨rfl, hq⟩
    have HU1 := Lib.hid (HU.out.quiet hq)
    have HQ1 := Lib.hid hq
    clear hq
    go_wp2_with fail
    refine (HAB.out _ HU1.out).mono ?_
    rintro e w2 ⟨rfl, hq⟩
    have HU2 := Lib.hid (HU1.out.quiet hq)
    have HQ2 := Lib.hid (HQ1.out.trans hq)
    clear hq
    go_wp2_with fail
    refine (HAB.out _ HU2.out).mono ?_
    rintro e w3 ⟨rfl, hq⟩
    have HU3 := Lib.hid (HU2.out.quiet hq)
    have HQ3 := Lib.hid (HQ2.out.trans hq)
    clear hq
    go_wp2_with fail
    refine (HAB.out _ HU3.out).mono ?_
    rintro e w4 ⟨rfl, hq⟩
    have HU4 := Lib.hid (HU3.out.quiet hq)
    have HQ4 := Lib.hid (HQ3.out.trans hq)
    clear hq
    go_wp2_with fail
    go_ret
    exact ⟨rfl, HQ4.out⟩
  | true =>
    obtain rfl := f1 rfl
    obtain rfl := f2 rfl
    clear f1 f2
    cases AC with
    | true =>
      clear f3 f4 hne
      cases G with
      | false =>
        cases BC with
        | false =>
          go_enter Tryd.func7, Tryd.ntmps7
          go_wp2_with fail
          refine HA.out.mono ?_
          rintro e w1 ⟨rfl, hq⟩
          have HU1 := Lib.hid (HU.out.quiet hq)
          have HQ1 := Lib.hid hq
          clear hq
          go_wp2_with fail
          refine (HAB.out _ HU1.out).mono ?_
          rintro e w2 ⟨rfl, hq⟩
          have HU2 := Lib.hid (HU1.out.quiet hq)
          have HQ2 := Lib.hid (HQ1.out.trans hq)
          clear hq
          go_wp2_with fail
          refine (HCAB.out _).mono ?_
          rintro e w3 ⟨rfl, hq⟩
          have HU3 := Lib.hid (HU2.out.quiet hq)
          have HQ3 := Lib.hid (HQ2.out.trans hq)
          clear hq
          go_wp2_with fail
          refine (HBA.out _ HU3.out).mono ?_
          rintro e w4 ⟨rfl, hq⟩
          have HU4 := Lib.hid (HU3.out.quiet hq)
          have HQ4 := Lib.hid (HQ3.out.trans hq)
          clear hq
          go_wp2_with fail
          refine (HAB.out _ HU4.out).mono ?_
          rintro e w5 ⟨rfl, hq⟩
          have HU5 := Lib.hid (HU4.out.quiet hq)
          have HQ5 := Lib.hid (HQ4.out.trans hq)
          clear hq
          go_wp2_with fail
          refine (HGC.out _ HU5.out).mono ?_
          rintro e w6 ⟨rfl, hq⟩
          have HU6 := Lib.hid (HU5.out.quiet hq)
          have HQ6 := Lib.hid (HQ5.out.trans hq)
          clear hq
          go_wp2_with fail
          refine (HAB.out _ HU6.out).mono ?_
          rintro e w7 ⟨rfl, hq⟩
          have HU7 := Lib.hid (HU6.out.quiet hq)
          have HQ7 := Lib.hid (HQ6.out.trans hq)
          clear hq
          go_wp2_with fail
          refine (HBC.out _ HU7.out).mono ?_
          rintro e w8 ⟨rfl, hq⟩
          have HU8 := Lib.hid (HU7.out.quiet hq)
          have HQ8 := Lib.hid (HQ7.out.trans hq)
          clear hq
          go_wp2_with fail
          go_ret
          exact ⟨rfl, HQ8.out⟩
        | true =>
          go_enter Tryd.func7, Tryd.ntmps7
          go_wp2_with fail
          refine HA.out.mono ?_
          rintro e w1 ⟨rfl, hq⟩
          have HU1 := Lib.hid (HU.out.quiet hq)
          have HQ1 := Lib.hid hq
          clear hq
          go_wp2_with fail
          refine (HAB.out _ HU1.out).mono ?_
          rintro e w2 ⟨rfl, hq⟩
          have HU2 := Lib.hid (HU1.out.quiet hq)
          have HQ2 := Lib.hid (HQ1.out.trans hq)
          clear hq
          go_wp2_with fail
          refine (HCAB.out _).mono ?_
          rintro e w3 ⟨rfl, hq⟩
          have HU3 := Lib.hid (HU2.out.quiet hq)
          have HQ3 := Lib.hid (HQ2.out.trans hq)
          clear hq
          go_wp2_with fail
          refine (HBA.out _ HU3.out).mono ?_
          rintro e w4 ⟨rfl, hq⟩
          have HU4 := Lib.hid (HU3.out.quiet hq)
          have HQ4 := Lib.hid (HQ3.out.trans hq)
          clear hq
          go_wp2_with fail
          refine (HAB.out _ HU4.out).mono ?_
          rintro e w5 ⟨rfl, hq⟩
          have HU5 := Lib.hid (HU4.out.quiet hq)
          have HQ5 := Lib.hid (HQ4.out.trans hq)
          clear hq
          go_wp2_with fail
          refine (HGC.out _ HU5.out).mono ?_
          rintro e w6 ⟨rfl, hq⟩
          have HU6 := Lib.hid (HU5.out.quiet hq)
          have HQ6 := Lib.hid (HQ5.out.trans hq)
          clear hq
          go_wp2_with fail
          refine (HAB.out _ HU6.out).mono ?_
          rintro e w7 ⟨rfl, hq⟩
          have HU7 := Lib.hid (HU6.out.quiet hq)
          have HQ7 := Lib.hid (HQ6.out.trans hq)
          clear hq
          go_wp2_with fail
          refine (HBC.out _ HU7.out).mono ?_
          rintro e w8 ⟨rfl, hq⟩
          have HU8 := Lib.hid (HU7.out.quiet hq)
          have HQ8 := Lib.hid (HQ7.out.trans hq)
          clear hq
          go_wp2_with fail
          refine (HAC.out _ HU8.out).mono ?_
          rintro e w9 ⟨rfl, hq⟩
          have HU9 := Lib.hid (HU8.out.quiet hq)
          have HQ9 := Lib.hid (HQ8.out.trans hq)
          clear hq
          go_wp2_with fail
          go_ret
          exact ⟨rfl, HQ9.out⟩
      | true =>
        cases hca : (c.toList == a.toList) with
        | true =>
          cases BC with
          | false =>
            go_enter Tryd.func7, Tryd.ntmps7
            go_wp2_with fail
            refine HA.out.mono ?_
            rintro e w1 ⟨rfl, hq⟩
            have HU1 := Lib.hid (HU.out.quiet hq)
            have HQ1 := Lib.hid hq
            clear hq
            go_wp2_with fail
            refine (HAB.out _ HU1.out).mono ?_
            rintro e w2 ⟨rfl, hq⟩
            have HU2 := Lib.hid (HU1.out.quiet hq)
            have HQ2 := Lib.hid (HQ1.out.trans hq)
            clear hq
            go_wp2_with fail
            refine (HCAB.out _).mono ?_
            rintro e w3 ⟨rfl, hq⟩
            have HU3 := Lib.hid (HU2.out.quiet hq)
            have HQ3 := Lib.hid (HQ2.out.trans hq)
            clear hq
            go_wp2_with fail
            refine (HBA.out _ HU3.out).mono ?_
            rintro e w4 ⟨rfl, hq⟩
            have HU4 := Lib.hid (HU3.out.quiet hq)
            have HQ4 := Lib.hid (HQ3.out.trans hq)
            clear hq
            go_wp2_with fail
            refine (HAB.out _ HU4.out).mono ?_
            rintro e w5 ⟨rfl, hq⟩
            have HU5 := Lib.hid (HU4.out.quiet hq)
            have HQ5 := Lib.hid (HQ4.out.trans hq)
            clear hq
            go_wp2_with fail
            refine (HGC.out _ HU5.out).mono ?_
            rintro e w6 ⟨rfl, hq⟩
            have HU6 := Lib.hid (HU5.out.quiet hq)
            have HQ6 := Lib.hid (HQ5.out.trans hq)
            clear hq
            go_wp2_with fail
            refine (HAB.out _ HU6.out).mono ?_
            rintro e w7 ⟨rfl, hq⟩
            have HU7 := Lib.hid (HU6.out.quiet hq)
            have HQ7 := Lib.hid (HQ6.out.trans hq)
            clear hq
            go_wp2_with fail
            refine (HBC.out _ HU7.out).mono ?_
            rintro e w8 ⟨rfl, hq⟩
            have HU8 := Lib.hid (HU7.out.quiet hq)
            have HQ8 := Lib.hid (HQ7.out.trans hq)
            clear hq
            go_wp2_with fail
            go_ret
            exact ⟨rfl, HQ8.out⟩
          | true =>
            go_enter Tryd.func7, Tryd.ntmps7
            go_wp2_with fail
            refine HA.out.mono ?_
            rintro e w1 ⟨rfl, hq⟩
            have HU1 := Lib.hid (HU.out.quiet hq)
            have HQ1 := Lib.hid hq
            clear hq
            go_wp2_with fail
            refine (HAB.out _ HU1.out).mono ?_
            rintro e w2 ⟨rfl, hq⟩
            have HU2 := Lib.hid (HU1.out.quiet hq)
            have HQ2 := Lib.hid (HQ1.out.trans hq)
            clear hq
            go_wp2_with fail
            refine (HCAB.out _).mono ?_
            rintro e w3 ⟨rfl, hq⟩
            have HU3 := Lib.hid (HU2.out.quiet hq)
            have HQ3 := Lib.hid (HQ2.out.trans hq)
            clear hq
            go_wp2_with fail
            refine (HBA.out _ HU3.out).mono ?_
            rintro e w4 ⟨rfl, hq⟩
            have HU4 := Lib.hid (HU3.out.quiet hq)
            have HQ4 := Lib.hid (HQ3.out.trans hq)
            clear hq
            go_wp2_with fail
            refine (HAB.out _ HU4.out).mono ?_
            rintro e w5 ⟨rfl, hq⟩
            have HU5 := Lib.hid (HU4.out.quiet hq)
            have HQ5 := Lib.hid (HQ4.out.trans hq)
            clear hq
            go_wp2_with fail
            refine (HGC.out _ HU5.out).mono ?_
            rintro e w6 ⟨rfl, hq⟩
            have HU6 := Lib.hid (HU5.out.quiet hq)
            have HQ6 := Lib.hid (HQ5.out.trans hq)
            clear hq
            go_wp2_with fail
            refine (HAB.out _ HU6.out).mono ?_
            rintro e w7 ⟨rfl, hq⟩
            have HU7 := Lib.hid (HU6.out.quiet hq)
            have HQ7 := Lib.hid (HQ6.out.trans hq)
            clear hq
            go_wp2_with fail
            refine (HBC.out _ HU7.out).mono ?_
            rintro e w8 ⟨rfl, hq⟩
            have HU8 := Lib.hid (HU7.out.quiet hq)
            have HQ8 := Lib.hid (HQ7.out.trans hq)
            clear hq
            go_wp2_with fail
            refine (HAC.out _ HU8.out).mono ?_
            rintro e w9 ⟨rfl, hq⟩
            have HU9 := Lib.hid (HU8.out.quiet hq)
            have HQ9 := Lib.hid (HQ8.out.trans hq)
            clear hq
            go_wp2_with fail
            go_ret
            exact ⟨rfl, HQ9.out⟩
        | false =>
          cases BC with
          | false =>
            go_enter Tryd.func7, Tryd.ntmps7
            go_wp2_with fail
            refine HA.out.mono ?_
            rintro e w1 ⟨rfl, hq⟩
            have HU1 := Lib.hid (HU.out.quiet hq)
            have HQ1 := Lib.hid hq
            clear hq
            go_wp2_with fail
            refine (HAB.out _ HU1.out).mono ?_
            rintro e w2 ⟨rfl, hq⟩
            have HU2 := Lib.hid (HU1.out.quiet hq)
            have HQ2 := Lib.hid (HQ1.out.trans hq)
            clear hq
            go_wp2_with fail
            refine (HCAB.out _).mono ?_
            rintro e w3 ⟨rfl, hq⟩
            have HU3 := Lib.hid (HU2.out.quiet hq)
            have HQ3 := Lib.hid (HQ2.out.trans hq)
            clear hq
            go_wp2_with fail
            refine (HBA.out _ HU3.out).mono ?_
            rintro e w4 ⟨rfl, hq⟩
            have HU4 := Lib.hid (HU3.out.quiet hq)
            have HQ4 := Lib.hid (HQ3.out.trans hq)
            clear hq
            go_wp2_with fail
            refine (HAB.out _ HU4.out).mono ?_
            rintro e w5 ⟨rfl, hq⟩
            have HU5 := Lib.hid (HU4.out.quiet hq)
            have HQ5 := Lib.hid (HQ4.out.trans hq)
            clear hq
            go_wp2_with fail
            refine (HGC.out _ HU5.out).mono ?_
            rintro e w6 ⟨rfl, hq⟩
            have HU6 := Lib.hid (HU5.out.quiet hq)
            have HQ6 := Lib.hid (HQ5.out.trans hq)
            clear hq
            go_wp2_with fail
            refine (HAC.out _ HU6.out).mono ?_
            rintro e w7 ⟨rfl, hq⟩
            have HU7 := Lib.hid (HU6.out.quiet hq)
            have HQ7 := Lib.hid (HQ6.out.trans hq)
            clear hq
            go_wp2_with fail
            refine (HAB.out _ HU7.out).mono ?_
            rintro e w8 ⟨rfl, hq⟩
            have HU8 := Lib.hid (HU7.out.quiet hq)
            have HQ8 := Lib.hid (HQ7.out.trans hq)
            clear hq
            go_wp2_with fail
            refine (HBC.out _ HU8.out).mono ?_
            rintro e w9 ⟨rfl, hq⟩
            have HU9 := Lib.hid (HU8.out.quiet hq)
            have HQ9 := Lib.hid (HQ8.out.trans hq)
            clear hq
            go_wp2_with fail
            go_ret
            exact ⟨rfl, HQ9.out⟩
          | true =>
            go_enter Tryd.func7, Tryd.ntmps7
            go_wp2_with fail
            refine HA.out.mono ?_
            rintro e w1 ⟨rfl, hq⟩
            have HU1 := Lib.hid (HU.out.quiet hq)
            have HQ1 := Lib.hid hq
            clear hq
            go_wp2_with fail
            refine (HAB.out _ HU1.out).mono ?_
            rintro e w2 ⟨rfl, hq⟩
            have HU2 := Lib.hid (HU1.out.quiet hq)
            have HQ2 := Lib.hid (HQ1.out.trans hq)
            clear hq
            go_wp2_with fail
            refine (HCAB.out _).mono ?_
            rintro e w3 ⟨rfl, hq⟩
            have HU3 := Lib.hid (HU2.out.quiet hq)
            have HQ3 := Lib.hid (HQ2.out.trans hq)
            clear hq
            go_wp2_with fail
            refine (HBA.out _ HU3.out).mono ?_
            rintro e w4 ⟨rfl, hq⟩
            have HU4 := Lib.hid (HU3.out.quiet hq)
            have HQ4 := Lib.hid (HQ3.out.trans hq)
            clear hq
            go_wp2_with fail
            refine (HAB.out _ HU4.out).mono ?_
            rintro e w5 ⟨rfl, hq⟩
            have HU5 := Lib.hid (HU4.out.quiet hq)
            have HQ5 := Lib.hid (HQ4.out.trans hq)
            clear hq
            go_wp2_with fail
            refine (HGC.out _ HU5.out).mono ?_
            rintro e w6 ⟨rfl, hq⟩
            have HU6 := Lib.hid (HU5.out.quiet hq)
            have HQ6 := Lib.hid (HQ5.out.trans hq)
            clear hq
            go_wp2_with fail
            refine (HAC.out _ HU6.out).mono ?_
            rintro e w7 ⟨rfl, hq⟩
            have HU7 := Lib.hid (HU6.out.quiet hq)
            have HQ7 := Lib.hid (HQ6.out.trans hq)
            clear hq
            go_wp2_with fail
            refine (HAB.out _ HU7.out).mono ?_
            rintro e w8 ⟨rfl, hq⟩
            have HU8 := Lib.hid (HU7.out.quiet hq)
            have HQ8 := Lib.hid (HQ7.out.trans hq)
            clear hq
            go_wp2_with fail
            refine (HBC.out _ HU8.out).mono ?_
            rintro e w9 ⟨rfl, hq⟩
            have HU9 := Lib.hid (HU8.out.quiet hq)
            have HQ9 := Lib.hid (HQ8.out.trans hq)
            clear hq
            go_wp2_with fail
            refine (HAC.out _ HU9.out).mono ?_
            rintro e w10 ⟨rfl, hq⟩
            have HU10 := Lib.hid (HU9.out.quiet hq)
            have HQ10 := Lib.hid (HQ9.out.trans hq)
            clear hq
            go_wp2_with fail
            go_ret
            exact ⟨rfl, HQ10.out⟩
    | false =>
      have hBC : BC = false := by
        cases BC with
        | false => rfl
        | true => exact (f3 rfl rfl).symm
      subst hBC
      clear f3
      cases G with
      | false =>
        clear f4 hne
        go_enter Tryd.func7, Tryd.ntmps7
        go_wp2_with fail
        refine HA.out.mono ?_
        rintro e w1 ⟨rfl, hq⟩
        have HU1 := Lib.hid (HU.out.quiet hq)
        have HQ1 := Lib.hid hq
        clear hq
        go_wp2_with fail
        refine (HAB.out _ HU1.out).mono ?_
        rintro e w2 ⟨rfl, hq⟩
        have HU2 := Lib.hid (HU1.out.quiet hq)
        have HQ2 := Lib.hid (HQ1.out.trans hq)
        clear hq
        go_wp2_with fail
        refine (HCAB.out _).mono ?_
        rintro e w3 ⟨rfl, hq⟩
        have HU3 := Lib.hid (HU2.out.quiet hq)
        have HQ3 := Lib.hid (HQ2.out.trans hq)
        clear hq
        go_wp2_with fail
        refine (HBA.out _ HU3.out).mono ?_
        rintro e w4 ⟨rfl, hq⟩
        have HU4 := Lib.hid (HU3.out.quiet hq)
        have HQ4 := Lib.hid (HQ3.out.trans hq)
        clear hq
        go_wp2_with fail
        refine (HAB.out _ HU4.out).mono ?_
        rintro e w5 ⟨rfl, hq⟩
        have HU5 := Lib.hid (HU4.out.quiet hq)
        have HQ5 := Lib.hid (HQ4.out.trans hq)
        clear hq
        go_wp2_with fail
        refine (HGC.out _ HU5.out).mono ?_
        rintro e w6 ⟨rfl, hq⟩
        have HU6 := Lib.hid (HU5.out.quiet hq)
        have HQ6 := Lib.hid (HQ5.out.trans hq)
        clear hq
        go_wp2_with fail
        refine (HAB.out _ HU6.out).mono ?_
        rintro e w7 ⟨rfl, hq⟩
        have HU7 := Lib.hid (HU6.out.quiet hq)
        have HQ7 := Lib.hid (HQ6.out.trans hq)
        clear hq
        go_wp2_with fail
        refine (HBC.out _ HU7.out).mono ?_
        rintro e w8 ⟨rfl, hq⟩
        have HU8 := Lib.hid (HU7.out.quiet hq)
        have HQ8 := Lib.hid (HQ7.out.trans hq)
        clear hq
        go_wp2_with fail
        go_ret
        exact ⟨rfl, HQ8.out⟩
      | true =>
        cases hca : (c.toList == a.toList) with
        | true =>
          clear f4 hne
          go_enter Tryd.func7, Tryd.ntmps7
          go_wp2_with fail
          refine HA.out.mono ?_
          rintro e w1 ⟨rfl, hq⟩
          have HU1 := Lib.hid (HU.out.quiet hq)
          have HQ1 := Lib.hid hq
          clear hq
          go_wp2_with fail
          refine (HAB.out _ HU1.out).mono ?_
          rintro e w2 ⟨rfl, hq⟩
          have HU2 := Lib.hid (HU1.out.quiet hq)
          have HQ2 := Lib.hid (HQ1.out.trans hq)
          clear hq
          go_wp2_with fail
          refine (HCAB.out _).mono ?_
          rintro e w3 ⟨rfl, hq⟩
          have HU3 := Lib.hid (HU2.out.quiet hq)
          have HQ3 := Lib.hid (HQ2.out.trans hq)
          clear hq
          go_wp2_with fail
          refine (HBA.out _ HU3.out).mono ?_
          rintro e w4 ⟨rfl, hq⟩
          have HU4 := Lib.hid (HU3.out.quiet hq)
          have HQ4 := Lib.hid (HQ3.out.trans hq)
          clear hq
          go_wp2_with fail
          refine (HAB.out _ HU4.out).mono ?_
          rintro e w5 ⟨rfl, hq⟩
          have HU5 := Lib.hid (HU4.out.quiet hq)
          have HQ5 := Lib.hid (HQ4.out.trans hq)
          clear hq
          go_wp2_with fail
          refine (HGC.out _ HU5.out).mono ?_
          rintro e w6 ⟨rfl, hq⟩
          have HU6 := Lib.hid (HU5.out.quiet hq)
          have HQ6 := Lib.hid (HQ5.out.trans hq)
          clear hq
          go_wp2_with fail
          refine (HAB.out _ HU6.out).mono ?_
          rintro e w7 ⟨rfl, hq⟩
          have HU7 := Lib.hid (HU6.out.quiet hq)
          have HQ7 := Lib.hid (HQ6.out.trans hq)
          clear hq
          go_wp2_with fail
          refine (HBC.out _ HU7.out).mono ?_
          rintro e w8 ⟨rfl, hq⟩
          have HU8 := Lib.hid (HU7.out.quiet hq)
          have HQ8 := Lib.hid (HQ7.out.trans hq)
          clear hq
          go_wp2_with fail
          go_ret
          exact ⟨rfl, HQ8.out⟩
        | false =>
          obtain rfl := f4 rfl rfl (hne hca) rfl
          clear f4 hne
          have hyy : (y == y) = true := by simp
          go_enter Tryd.func7, Tryd.ntmps7
          go_wp2_with fail
          refine HA.out.mono ?_
          rintro e w1 ⟨rfl, hq⟩
          have HU1 := Lib.hid (HU.out.quiet hq)
          have HQ1 := Lib.hid hq
          clear hq
          go_wp2_with fail
          refine (HAB.out _ HU1.out).mono ?_
          rintro e w2 ⟨rfl, hq⟩
          have HU2 := Lib.hid (HU1.out.quiet hq)
          have HQ2 := Lib.hid (HQ1.out.trans hq)
          clear hq
          go_wp2_with fail
          refine (HCAB.out _).mono ?_
          rintro e w3 ⟨rfl, hq⟩
          have HU3 := Lib.hid (HU2.out.quiet hq)
          have HQ3 := Lib.hid (HQ2.out.trans hq)
          clear hq
          go_wp2_with fail
          refine (HBA.out _ HU3.out).mono ?_
          rintro e w4 ⟨rfl, hq⟩
          have HU4 := Lib.hid (HU3.out.quiet hq)
          have HQ4 := Lib.hid (HQ3.out.trans hq)
          clear hq
          go_wp2_with fail
          refine (HAB.out _ HU4.out).mono ?_
          rintro e w5 ⟨rfl, hq⟩
          have HU5 := Lib.hid (HU4.out.quiet hq)
          have HQ5 := Lib.hid (HQ4.out.trans hq)
          clear hq
          go_wp2_with fail
          refine (HGC.out _ HU5.out).mono ?_
          rintro e w6 ⟨rfl, hq⟩
          have HU6 := Lib.hid (HU5.out.quiet hq)
          have HQ6 := Lib.hid (HQ5.out.trans hq)
          clear hq
          go_wp2_with fail
          refine (HAC.out _ HU6.out).mono ?_
          rintro e w7 ⟨rfl, hq⟩
          have HU7 := Lib.hid (HU6.out.quiet hq)
          have HQ7 := Lib.hid (HQ6.out.trans hq)
          clear hq
          go_wp2_with fail
          refine (HCAC.out _).mono ?_
          rintro e w8 ⟨rfl, hq⟩
          have HU8 := Lib.hid (HU7.out.quiet hq)
          have HQ8 := Lib.hid (HQ7.out.trans hq)
          clear hq
          go_wp2_with fail
          refine (HCBC.out _).mono ?_
          rintro e w9 ⟨rfl, hq⟩
          have HU9 := Lib.hid (HU8.out.quiet hq)
          have HQ9 := Lib.hid (HQ8.out.trans hq)
          clear hq
          go_wp2_with fail
          go_ret
          exact ⟨rfl, HQ9.out⟩

end Go.Proofs.YtbfcjlpakngmhaaDoor
