/- The law PathGoods. Conditions: texts within the reach. -/
import Derived.Test.YtbfcjlpakngmhaaDoorPaAlive
import Derived.Test.YtbfcjlpakngmhaaDoorPaSplit
import Derived.Test.YtbfcjlpakngmhaaDoorPaRefJ
namespace Go.Proofs.YtbfcjlpakngmhaaDoor
open Go.RowKit

namespace Pt
theorem last_part {l : List UInt8} (h : good l = true) : ∃ K, split l = K ++ [baseL l] := by
  rcases par_cases h with ⟨_, _, h3, h4⟩ | ⟨_, _, _, _, _, K, q, _, hs, _, hb⟩
  · exact ⟨[], by rw [h4, h3]; rfl⟩
  · exact ⟨K, by rw [hs, hb]⟩
end Pt

set_option maxRecDepth 100000 in
set_option maxHeartbeats 4000000 in
theorem pathGoods_any (s : ByteArray) (m : Int) (hs : s.size ≤ 140737488351232) {w : World} (hU : U8 w) :
    Calls Tryd.prog 3 #[.string s, .int .i64 m] w fun e w' => e = .returned (.bool true) ∧ Quiet w w' := by
  have HA := Lib.hid (alive8_any hU)
  have HU := Lib.hid hU
  have HPA : Hid (∀ W, U8 W → Calls Tryd.prog 10 #[.string s] W fun e w' => e = .returned (.tuple #[txV (Pt.parL s.data.toList), .bool (Pt.parB s.data.toList)]) ∧ Quiet W w') := fun W h => parent_any s hs h
  have HPR := Lib.hid (r8parent_any s)
  have HSR := Lib.hid (r8split_any s)
  have HG : Hid (∀ W, U8 W → Calls Tryd.prog 13 #[.string s] W fun e w' => e = .returned (.bool (Pt.good s.data.toList)) ∧ Quiet W w') := fun W h => good_any s hs h
  have HGR := Lib.hid (r8good_any s)
  have HSP : Hid (∀ W, U8 W → Calls Tryd.prog 16 #[.string s] W fun e w' => ∃ u, e = .returned u ∧ TextsAt w' (fun k => k < w'.heap.size) u (Pt.split s.data.toList) ∧ Quiet W w') := fun W h => split_any s hs h
  have HB : Hid (∀ W, U8 W → Calls Tryd.prog 17 #[.string s] W fun e w' => e = .returned (txV (Pt.baseL s.data.toList)) ∧ Quiet W w') := fun W h => base_any s hs h
  have HD : Hid (∀ W, U8 W → Calls Tryd.prog 18 #[.string s] W fun e w' => e = .returned (.int .i64 ((Pt.split s.data.toList).length : Nat)) ∧ Quiet W w') := fun W h => depth_any s hs h
  have HT : Hid (∀ W, U8 W → Calls Tryd.prog 19 #[.string s, .int .i64 m] W fun e w' => e = .returned (.bool (Pt.txt s.data.toList m)) ∧ Quiet W w') := fun W h => text_any s (by omega) m h
  have HTR := Lib.hid (r8text_any s hs m)
  have hlen : (Pt.split s.data.toList).length ≤ 401 := by
    cases hg : Pt.good s.data.toList with
    | true =>
      have h1 := Pt.len_tot (Pt.pcs s.data.toList)
      rw [Pt.pcs_tot] at h1
      have := Pt.good_len hg
      rw [Pt.split_good hg]
      omega
    | false => rw [Pt.split_bad hg]; decide
  have HTX : Hid (∀ W u v, TextsAt W (fun k => k < W.heap.size) u (Pt.split s.data.toList) → TextsAt W (fun k => k < W.heap.size) v (Pt.split s.data.toList) → Calls Tryd.prog 15 #[u, v] W fun e w' => e = .returned (.bool true) ∧ Quiet W w') := fun W u v h1 h2 => texts_same h1 h2 (by omega)
  have hcs : (Pt.split s.data.toList = [] ∧ Pt.baseL s.data.toList = []) ∨ ∃ K, Pt.split s.data.toList = K ++ [Pt.baseL s.data.toList] := by
    cases hg : Pt.good s.data.toList with
    | true => exact .inr (Pt.last_part hg)
    | false => exact .inl ⟨Pt.split_bad hg, by unfold Pt.baseL; rw [hg]; rfl⟩
  generalize Pt.good s.data.toList = G at *
  generalize Pt.txt s.data.toList m = T at *
  generalize Pt.parB s.data.toList = PBo at *
  generalize Pt.split s.data.toList = P at *
  generalize Pt.baseL s.data.toList = BL at *
  obtain ⟨PV, hPV⟩ : ∃ PV : ByteArray, Value.string PV = txV (Pt.parL s.data.toList) := ⟨_, rfl⟩
  obtain ⟨BV, hBV⟩ : ∃ BV : ByteArray, Value.string BV = txV BL := ⟨_, rfl⟩
  rw [← hPV] at HPA HPR
  rw [← hBV] at HB
  clear hU hPV
  have e1 : (G == G) = true := by simp
  have e2 : (T == T) = true := by simp
  have e3 : (PBo == PBo) = true := by simp
  have e4 : (PV.toList == PV.toList) = true := by simp
  have e5 : (BV.toList == BV.toList) = true := by simp
  rcases hcs with ⟨hP, hBL⟩ | ⟨K, hK⟩
  · subst hP hBL
    have hBV0 : BV = ⟨#[]⟩ := by
      unfold txV at hBV
      exact Value.string.inj hBV
    subst hBV0
    clear hBV hlen
    simp only [List.length_nil] at HD
    go_enter Tryd.func3, Tryd.ntmps3
    go_wp2_with fail
    refine (HA.out).mono ?_
    rintro e w1 ⟨rfl, hq⟩
    have HU1 := Lib.hid (HU.out.quiet hq)
    have HQ1 := Lib.hid hq
    clear hq
    go_wp2_with fail
    refine (HPA.out _ HU1.out).mono ?_
    rintro e w2 ⟨rfl, hq⟩
    have HU2 := Lib.hid (HU1.out.quiet hq)
    have HQ2 := Lib.hid (HQ1.out.trans hq)
    clear hq
    go_wp2_with fail
    refine (HPR.out _ ).mono ?_
    rintro e w3 ⟨rfl, hq⟩
    have HU3 := Lib.hid (HU2.out.quiet hq)
    have HQ3 := Lib.hid (HQ2.out.trans hq)
    clear hq
    go_wp2_with fail
    refine (HSR.out _ ).mono ?_
    rintro e w4 ⟨u, rfl, ht, hq⟩
    have HU4 := Lib.hid (HU3.out.quiet hq)
    have HQ4 := Lib.hid (HQ3.out.trans hq)
    have HS4 := Lib.hid ht
    obtain ⟨ua, uc, rfl, _⟩ := ht.shape
    clear hq ht
    go_wp2_with fail
    refine (HG.out _ HU4.out).mono ?_
    rintro e w5 ⟨rfl, hq⟩
    have HU5 := Lib.hid (HU4.out.quiet hq)
    have HQ5 := Lib.hid (HQ4.out.trans hq)
    have HS5 := Lib.hid (HS4.out.quiet hq)
    clear hq
    go_wp2_with fail
    refine (HGR.out _ ).mono ?_
    rintro e w6 ⟨rfl, hq⟩
    have HU6 := Lib.hid (HU5.out.quiet hq)
    have HQ6 := Lib.hid (HQ5.out.trans hq)
    have HS6 := Lib.hid (HS5.out.quiet hq)
    clear hq
    go_wp2_with fail
    refine (HSP.out _ HU6.out).mono ?_
    rintro e w7 ⟨v, rfl, ht, hq⟩
    have HU7 := Lib.hid (HU6.out.quiet hq)
    have HQ7 := Lib.hid (HQ6.out.trans hq)
    have HS7 := Lib.hid (HS6.out.quiet hq)
    have HV := Lib.hid ht
    obtain ⟨va, vc, rfl, _⟩ := ht.shape
    clear hq ht
    go_wp2_with fail
    refine (HTX.out _ _ _ HV.out HS7.out).mono ?_
    rintro e w8 ⟨rfl, hq⟩
    have HU8 := Lib.hid (HU7.out.quiet hq)
    have HQ8 := Lib.hid (HQ7.out.trans hq)
    clear hq
    go_wp2_with fail
    refine (HB.out _ HU8.out).mono ?_
    rintro e w9 ⟨rfl, hq⟩
    have HU9 := Lib.hid (HU8.out.quiet hq)
    have HQ9 := Lib.hid (HQ8.out.trans hq)
    clear hq
    go_wp2_with fail
    refine (HD.out _ HU9.out).mono ?_
    rintro e w10 ⟨rfl, hq⟩
    have HU10 := Lib.hid (HU9.out.quiet hq)
    have HQ10 := Lib.hid (HQ9.out.trans hq)
    clear hq
    go_wp2_with fail
    refine (HT.out _ HU10.out).mono ?_
    rintro e w11 ⟨rfl, hq⟩
    have HU11 := Lib.hid (HU10.out.quiet hq)
    have HQ11 := Lib.hid (HQ10.out.trans hq)
    clear hq
    go_wp2_with fail
    refine (HTR.out _).mono ?_
    rintro e wz ⟨rfl, rfl⟩
    go_wp2_with fail
    go_ret
    exact ⟨rfl, HQ11.out⟩
  · subst hK
    have hKn : (K.length : Int) ≤ 400 := by
      rw [List.length_append] at hlen
      simp at hlen
      omega
    have hlk : (K ++ [BL]).length = K.length + 1 := by simp
    have hidx : (K ++ [BL])[K.length]? = some BL := by simp
    rw [hlk] at HD
    clear hlen
    go_enter Tryd.func3, Tryd.ntmps3
    go_wp2_with fail
    refine (HA.out).mono ?_
    rintro e w1 ⟨rfl, hq⟩
    have HU1 := Lib.hid (HU.out.quiet hq)
    have HQ1 := Lib.hid hq
    clear hq
    go_wp2_with fail
    refine (HPA.out _ HU1.out).mono ?_
    rintro e w2 ⟨rfl, hq⟩
    have HU2 := Lib.hid (HU1.out.quiet hq)
    have HQ2 := Lib.hid (HQ1.out.trans hq)
    clear hq
    go_wp2_with fail
    refine (HPR.out _ ).mono ?_
    rintro e w3 ⟨rfl, hq⟩
    have HU3 := Lib.hid (HU2.out.quiet hq)
    have HQ3 := Lib.hid (HQ2.out.trans hq)
    clear hq
    go_wp2_with fail
    refine (HSR.out _ ).mono ?_
    rintro e w4 ⟨u, rfl, ht, hq⟩
    have HU4 := Lib.hid (HU3.out.quiet hq)
    have HQ4 := Lib.hid (HQ3.out.trans hq)
    have HS4 := Lib.hid ht
    obtain ⟨ua, uc, rfl, _⟩ := ht.shape
    obtain ⟨ad, c, e, hcl⟩ := ht.cell hidx
    obtain ⟨rfl, _, rfl⟩ := Value.slice.inj e
    rw [← hBV] at hcl
    rw [hlk] at HS4 ⊢
    have hk0 : (0 : Int) ≤ (K.length : Int) := by omega
    clear e hBV
    clear hq ht
    go_wp2_with fail
    refine (HG.out _ HU4.out).mono ?_
    rintro e w5 ⟨rfl, hq⟩
    have HU5 := Lib.hid (HU4.out.quiet hq)
    have HQ5 := Lib.hid (HQ4.out.trans hq)
    have HS5 := Lib.hid (HS4.out.quiet hq)
    clear hq
    go_wp2_with fail
    refine (HGR.out _ ).mono ?_
    rintro e w6 ⟨rfl, hq⟩
    have HU6 := Lib.hid (HU5.out.quiet hq)
    have HQ6 := Lib.hid (HQ5.out.trans hq)
    have HS6 := Lib.hid (HS5.out.quiet hq)
    clear hq
    go_wp2_with fail
    refine (HSP.out _ HU6.out).mono ?_
    rintro e w7 ⟨v, rfl, ht, hq⟩
    have HU7 := Lib.hid (HU6.out.quiet hq)
    have HQ7 := Lib.hid (HQ6.out.trans hq)
    have HS7 := Lib.hid (HS6.out.quiet hq)
    have HV := Lib.hid ht
    obtain ⟨va, vc, rfl, _⟩ := ht.shape
    clear hq ht
    rw [hlk] at HV ⊢
    go_wp2_with fail
    refine (HTX.out _ _ _ HV.out HS7.out).mono ?_
    rintro e w8 ⟨rfl, hq⟩
    have HU8 := Lib.hid (HU7.out.quiet hq)
    have HQ8 := Lib.hid (HQ7.out.trans hq)
    clear hq
    go_wp2_with fail
    refine (HB.out _ HU8.out).mono ?_
    rintro e w9 ⟨rfl, hq⟩
    have HU9 := Lib.hid (HU8.out.quiet hq)
    have HQ9 := Lib.hid (HQ8.out.trans hq)
    clear hq
    go_wp2_with fail
    refine (HD.out _ HU9.out).mono ?_
    rintro e w10 ⟨rfl, hq⟩
    have HU10 := Lib.hid (HU9.out.quiet hq)
    have HQ10 := Lib.hid (HQ9.out.trans hq)
    clear hq
    go_wp2_with fail
    refine (HT.out _ HU10.out).mono ?_
    rintro e w11 ⟨rfl, hq⟩
    have HU11 := Lib.hid (HU10.out.quiet hq)
    have HQ11 := Lib.hid (HQ10.out.trans hq)
    clear hq
    go_wp2_with fail
    refine (HTR.out _).mono ?_
    rintro e wz ⟨rfl, rfl⟩
    go_wp2_with fail
    go_ret
    exact ⟨rfl, HQ11.out⟩

end Go.Proofs.YtbfcjlpakngmhaaDoor
