/- The law PathOrders. Conditions: texts within the reach. -/
import Derived.Test.YtbfcjlpakngmhaaDoorPaAlive
namespace Go.Proofs.YtbfcjlpakngmhaaDoor
open Go.RowKit

theorem toList_eq {a b : ByteArray} : (a.toList == b.toList) = (a.data.toList == b.data.toList) := by rw [Lib.toList_data, Lib.toList_data]

set_option maxRecDepth 100000 in
set_option maxHeartbeats 4000000 in
theorem pathOrders_any (a b c : ByteArray) (ha : a.size ≤ 140737488351232) (hb : b.size ≤ 140737488351232) (hc : c.size ≤ 140737488351232) {w : World} (hU : U8 w) :
    Calls Tryd.prog 6 #[.string a, .string b, .string c] w fun e w' => e = .returned (.bool true) ∧ Quiet w w' := by
  have HA := Lib.hid (alive8_any hU)
  have H1 := Lib.hid (compare_any a b ha hb)
  have H2 := Lib.hid (compare_any b c hb hc)
  have H3 := Lib.hid (compare_any a c ha hc)
  have H4 := Lib.hid (compare_any b a hb ha)
  have r1 := Pt.cmp_range a.data.toList b.data.toList
  have r2 := Pt.cmp_range b.data.toList c.data.toList
  have r3 := Pt.cmp_range a.data.toList c.data.toList
  have e4 := Pt.cmp_anti b.data.toList a.data.toList
  have hz := Pt.cmp_zero (a := a.data.toList) (b := b.data.toList)
  have hle := Pt.cmp_le (a := a.data.toList) (b := b.data.toList) (c := c.data.toList)
  have hge := Pt.cmp_ge (a := a.data.toList) (b := b.data.toList) (c := c.data.toList)
  have hq : (a.toList == b.toList) = decide (Pt.cmp a.data.toList b.data.toList = 0) := by
    rw [toList_eq, Bool.eq_iff_iff, beq_iff_eq, decide_eq_true_eq]
    exact hz.symm
  rw [e4] at H4
  generalize Pt.cmp a.data.toList b.data.toList = x at *
  generalize Pt.cmp b.data.toList c.data.toList = y at *
  generalize Pt.cmp a.data.toList c.data.toList = z at *
  clear hU e4 hz ha hb hc
  have key : ∀ (q : Bool), q = decide (x = 0) → (a.toList == b.toList) = q → Calls Tryd.prog 6 #[.string a, .string b, .string c] w fun e w' => e = .returned (.bool true) ∧ Quiet w w' := fun q hq1 hq2 => by
    clear hq
    rcases r1 with rfl | rfl | rfl <;> rcases r2 with rfl | rfl | rfl <;> rcases r3 with rfl | rfl | rfl <;>
      first
        | (exfalso; have := hle (by decide) (by decide); omega)
        | (exfalso; have := hge (by decide) (by decide); omega)
        | (clear hle hge
           simp at hq1
           subst hq1
           go_enter Tryd.func6, Tryd.ntmps6
           go_wp2_with fail
           refine HA.out.mono ?_
           rintro e w1 ⟨rfl, hq⟩
           have HQ1 := Lib.hid hq
           clear hq
           go_wp2_with fail
           refine (H1.out _).mono ?_
           rintro e w2 ⟨rfl, hq⟩
           have HQ2 := Lib.hid (HQ1.out.trans hq)
           clear hq
           go_wp2_with fail
           refine (H2.out _).mono ?_
           rintro e w3 ⟨rfl, hq⟩
           have HQ3 := Lib.hid (HQ2.out.trans hq)
           clear hq
           go_wp2_with fail
           refine (H3.out _).mono ?_
           rintro e w4 ⟨rfl, hq⟩
           have HQ4 := Lib.hid (HQ3.out.trans hq)
           clear hq
           go_wp2_with fail
           refine (H4.out _).mono ?_
           rintro e w5 ⟨rfl, hq⟩
           have HQ5 := Lib.hid (HQ4.out.trans hq)
           clear hq
           go_wp2_with fail
           go_ret
           exact ⟨rfl, HQ5.out⟩)
  exact key _ rfl hq

end Go.Proofs.YtbfcjlpakngmhaaDoor
