/- The law PathBack. Conditions: texts within the reach. -/
import Derived.Test.YtbfcjlpakngmhaaDoorPaAlive
import Derived.Test.YtbfcjlpakngmhaaDoorPaAbove
import Derived.Test.YtbfcjlpakngmhaaDoorPaSplit
import Derived.Test.YtbfcjlpakngmhaaDoorPaBackL
import Derived.Test.YtbfcjlpakngmhaaDoorPaOrd
namespace Go.Proofs.YtbfcjlpakngmhaaDoor
open Go.RowKit

theorem mk_size (l : List UInt8) : (ByteArray.mk l.toArray).size = l.length := by rw [Lib.size_eq]

/-- What Normal and Join answer, of what is there. -/
theorem normV_some (s : ByteArray) : normV (some s.data.toList) = .returned (.tuple #[.string s, .nilIface]) := by
  unfold normV; rw [Array.toArray_toList]

set_option maxRecDepth 100000 in
set_option maxHeartbeats 8000000 in
theorem pathBack_any (s : ByteArray) (hs : s.size ≤ 140737488351232) {w : World} {v : Value} {ps : List (List UInt8)} (hv : TextsAt w (fun k => k < w.heap.size) v ps) (hp : (∀ p ∈ ps, p.length ≤ 140737488351232) ∧ ps.length ≤ 140737488355328) (hU : U8 w) :
    Calls Tryd.prog 8 #[.string s, v] w fun e w' => e = .returned (.bool true) ∧ Quiet w w' := by
  have HA := Lib.hid (alive8_any hU)
  have HV := Lib.hid hv
  have HU := Lib.hid hU
  obtain ⟨va, vc, rfl, _⟩ := hv.shape
  have HP := Lib.hid hp
  have hpl : (ps.length : Int) ≤ 140737488355328 := by have := hp.2; omega
  by_cases hbig : s.size ≤ 20000 ∧ ps.length ≤ 1000
  case neg =>
    clear hv hU hp
    by_cases h1 : s.size ≤ 20000
    · have h2 : (ps.length : Int) > 1000 := by omega
      have h3 : ¬ ((s.size : Int) > 20000) := by omega
      clear hbig
      go_enter Tryd.func8, Tryd.ntmps8
      go_wp2_with fail
      refine (HA.out).mono ?_
      rintro e w1 ⟨rfl, hq⟩
      have HU1 := Lib.hid (HU.out.quiet hq)
      have HQ1 := Lib.hid hq
      clear hq
      go_wp2_with fail
      go_ret
      exact ⟨rfl, HQ1.out⟩
    · have h2 : (s.size : Int) > 20000 := by omega
      clear hbig
      go_enter Tryd.func8, Tryd.ntmps8
      go_wp2_with fail
      refine (HA.out).mono ?_
      rintro e w1 ⟨rfl, hq⟩
      have HU1 := Lib.hid (HU.out.quiet hq)
      have HQ1 := Lib.hid hq
      clear hq
      go_wp2_with fail
      go_ret
      exact ⟨rfl, HQ1.out⟩
  case pos =>
    obtain ⟨hs2, hn2⟩ := hbig
    have k1 : ¬ ((s.size : Int) > 20000) := by omega
    have k2 : ¬ ((ps.length : Int) > 1000) := by omega
    have HG : Hid (∀ W, U8 W → Calls Tryd.prog 13 #[.string s] W fun e w' => e = .returned (.bool (Pt.good s.data.toList)) ∧ Quiet W w') := fun W h => good_any s hs h
    have HN : Hid (∀ W, U8 W → Calls Tryd.prog 27 #[.string s] W fun e w' => e = normV (Pt.normal s.data.toList) ∧ Quiet W w') := fun W h => normal_any s hs2 h
    have HJ : Hid (∀ W, U8 W → Quiet w W → Calls Tryd.prog 25 #[.slice va ps.length vc] W fun e w' => e = normV (Pt.join ps) ∧ Quiet W w') := fun W h hq => join_any h (HV.out.quiet hq) HP.out.1 HP.out.2
    have HTX : Hid (∀ W u, Quiet w W → TextsAt W (fun k => k < W.heap.size) u ps → Calls Tryd.prog 15 #[u, .slice va ps.length vc] W fun e w' => e = .returned (.bool true) ∧ Quiet W w') := fun W u hq h => texts_same h (HV.out.quiet hq) (by omega)
    have hse : (s.toList == s.toList) = true := by simp
    clear hv hU hp hs hpl
    -- the last line
    have hjc : (Pt.join ps = none) ∨ ∃ j : ByteArray, Pt.join ps = some j.data.toList ∧ j.size ≤ 400 ∧ Pt.good j.data.toList = true ∧ Pt.split j.data.toList = ps := by
      cases hj : Pt.join ps with
      | none => exact .inl rfl
      | some l =>
        obtain ⟨h1, h2⟩ := Pt.join_good hj
        refine .inr ⟨⟨l.toArray⟩, rfl, by rw [mk_size]; exact Pt.good_len h1, h1, ?_⟩
        rw [Pt.split_good h1]
        exact h2
    cases hg : Pt.good s.data.toList with
    | true =>
      have hNs : normV (Pt.normal s.data.toList) = .returned (.tuple #[.string s, .nilIface]) := by rw [Pt.normal_good hg, normV_some]
      have HSP : Hid (∀ W, U8 W → Calls Tryd.prog 16 #[.string s] W fun e w' => ∃ u, e = .returned u ∧ TextsAt w' (fun k => k < w'.heap.size) u (Pt.pcs s.data.toList) ∧ Quiet W w') := fun W h => by
        have := split_any s (by omega) h
        rwa [Pt.split_good hg] at this
      have HJ1 : Hid (∀ W u, U8 W → TextsAt W (fun k => k < W.heap.size) u (Pt.pcs s.data.toList) → Calls Tryd.prog 25 #[u] W fun e w' => e = .returned (.tuple #[.string s, .nilIface]) ∧ Quiet W w') := fun W u h ht => by
        have := join_any h ht (fun p hp => by have := Pt.part_len ((Pt.good_iff.1 hg).2 p hp); omega) (by have h1 := Pt.len_tot (Pt.pcs s.data.toList); rw [Pt.pcs_tot] at h1; have := Pt.good_len hg; omega)
        rwa [Pt.join_split hg, normV_some] at this
      have HPA : Hid (∀ W, U8 W → Calls Tryd.prog 10 #[.string s] W fun e w' => e = .returned (.tuple #[txV (Pt.parL s.data.toList), .bool (Pt.parB s.data.toList)]) ∧ Quiet W w') := fun W h => parent_any s (by omega) h
      have HD : Hid (∀ W, U8 W → Calls Tryd.prog 18 #[.string s] W fun e w' => e = .returned (.int .i64 ((Pt.split s.data.toList).length : Nat)) ∧ Quiet W w') := fun W h => depth_any s (by omega) h
      have HB : Hid (∀ W, U8 W → Calls Tryd.prog 17 #[.string s] W fun e w' => e = .returned (txV (Pt.baseL s.data.toList)) ∧ Quiet W w') := fun W h => base_any s (by omega) h
      have HX : Hid (∀ W p, p.size ≤ 400 → U8 W → Calls Tryd.prog 23 #[.string p, .string s] W fun e w' => e = .returned (.bool (Pt.above p.data.toList s.data.toList)) ∧ Quiet W w') := fun W p h1 h => above_any p s (by omega) (by omega) h
      have HDP : Hid (∀ W p, p.size ≤ 400 → U8 W → Calls Tryd.prog 18 #[.string p] W fun e w' => e = .returned (.int .i64 ((Pt.split p.data.toList).length : Nat)) ∧ Quiet W w') := fun W p h1 h => depth_any p (by omega) h
      rw [hg] at HG
      rw [hNs] at HN
      have hsl := Pt.good_len hg
      rcases Pt.par_cases hg with ⟨q1, q2, _, _⟩ | ⟨q1, q2, q3, q4, q5, _⟩
      · rw [q1] at HPA
        rw [q2] at HD
        generalize Pt.parL s.data.toList = PL at *
        unfold txV at HPA
        generalize ByteArray.mk PL.toArray = PB at *
        clear hNs q1 q2 HX HDP HB hg hsl
        rcases hjc with hj | ⟨j, hj, hjs, hjg, hjp⟩
        · rw [hj] at HJ
          unfold normV at HJ
          clear hj HTX
          go_enter Tryd.func8, Tryd.ntmps8
          go_wp2_with fail
          refine (HA.out).mono ?_
          rintro e w1 ⟨rfl, hq⟩
          have HU1 := Lib.hid (HU.out.quiet hq)
          have HQ1 := Lib.hid hq
          clear hq
          go_wp2_with fail
          refine (HG.out _ HU1.out).mono ?_
          rintro e w2 ⟨rfl, hq⟩
          have HU2 := Lib.hid (HU1.out.quiet hq)
          have HQ2 := Lib.hid (HQ1.out.trans hq)
          clear hq
          go_wp2_with fail
          refine (HSP.out _ HU2.out).mono ?_
          rintro e w3 ⟨u, rfl, ht, hq⟩
          have HU3 := Lib.hid (HU2.out.quiet hq)
          have HQ3 := Lib.hid (HQ2.out.trans hq)
          have HT3 := Lib.hid ht
          obtain ⟨sa, sc, rfl, _⟩ := ht.shape
          clear hq ht
          go_wp2_with fail
          refine (HJ1.out _ _ HU3.out HT3.out).mono ?_
          rintro e w4 ⟨rfl, hq⟩
          have HU4 := Lib.hid (HU3.out.quiet hq)
          have HQ4 := Lib.hid (HQ3.out.trans hq)
          clear hq
          go_wp2_with fail
          refine (HN.out _ HU4.out).mono ?_
          rintro e w5 ⟨rfl, hq⟩
          have HU5 := Lib.hid (HU4.out.quiet hq)
          have HQ5 := Lib.hid (HQ4.out.trans hq)
          clear hq
          go_wp2_with fail
          refine (HPA.out _ HU5.out).mono ?_
          rintro e w6 ⟨rfl, hq⟩
          have HU6 := Lib.hid (HU5.out.quiet hq)
          have HQ6 := Lib.hid (HQ5.out.trans hq)
          clear hq
          go_wp2_with fail
          refine (HD.out _ HU6.out).mono ?_
          rintro e w7 ⟨rfl, hq⟩
          have HU7 := Lib.hid (HU6.out.quiet hq)
          have HQ7 := Lib.hid (HQ6.out.trans hq)
          clear hq
          go_wp2_with fail
          refine (HN.out _ HU7.out).mono ?_
          rintro e w8 ⟨rfl, hq⟩
          have HU8 := Lib.hid (HU7.out.quiet hq)
          have HQ8 := Lib.hid (HQ7.out.trans hq)
          clear hq
          go_wp2_with fail
          refine (HN.out _ HU8.out).mono ?_
          rintro e w9 ⟨rfl, hq⟩
          have HU9 := Lib.hid (HU8.out.quiet hq)
          have HQ9 := Lib.hid (HQ8.out.trans hq)
          clear hq
          go_wp2_with fail
          refine (HG.out _ HU9.out).mono ?_
          rintro e w10 ⟨rfl, hq⟩
          have HU10 := Lib.hid (HU9.out.quiet hq)
          have HQ10 := Lib.hid (HQ9.out.trans hq)
          clear hq
          go_wp2_with fail
          refine (HJ.out _ HU10.out HQ10.out).mono ?_
          rintro e w11 ⟨rfl, hq⟩
          have HU11 := Lib.hid (HU10.out.quiet hq)
          have HQ11 := Lib.hid (HQ10.out.trans hq)
          clear hq
          go_wp2_with fail
          go_ret
          exact ⟨rfl, HQ11.out⟩
        · rw [hj, normV_some] at HJ
          have HGj : Hid (∀ W, U8 W → Calls Tryd.prog 13 #[.string j] W fun e w' => e = .returned (.bool true) ∧ Quiet W w') := fun W h => by
            have := good_any j (by omega) h
            rwa [hjg] at this
          have HSj : Hid (∀ W, U8 W → Calls Tryd.prog 16 #[.string j] W fun e w' => ∃ u, e = .returned u ∧ TextsAt w' (fun k => k < w'.heap.size) u ps ∧ Quiet W w') := fun W h => by
            have := split_any j (by omega) h
            rwa [hjp] at this
          clear hj hjs hjg hjp
          go_enter Tryd.func8, Tryd.ntmps8
          go_wp2_with fail
          refine (HA.out).mono ?_
          rintro e w1 ⟨rfl, hq⟩
          have HU1 := Lib.hid (HU.out.quiet hq)
          have HQ1 := Lib.hid hq
          clear hq
          go_wp2_with fail
          refine (HG.out _ HU1.out).mono ?_
          rintro e w2 ⟨rfl, hq⟩
          have HU2 := Lib.hid (HU1.out.quiet hq)
          have HQ2 := Lib.hid (HQ1.out.trans hq)
          clear hq
          go_wp2_with fail
          refine (HSP.out _ HU2.out).mono ?_
          rintro e w3 ⟨u, rfl, ht, hq⟩
          have HU3 := Lib.hid (HU2.out.quiet hq)
          have HQ3 := Lib.hid (HQ2.out.trans hq)
          have HT3 := Lib.hid ht
          obtain ⟨sa, sc, rfl, _⟩ := ht.shape
          clear hq ht
          go_wp2_with fail
          refine (HJ1.out _ _ HU3.out HT3.out).mono ?_
          rintro e w4 ⟨rfl, hq⟩
          have HU4 := Lib.hid (HU3.out.quiet hq)
          have HQ4 := Lib.hid (HQ3.out.trans hq)
          clear hq
          go_wp2_with fail
          refine (HN.out _ HU4.out).mono ?_
          rintro e w5 ⟨rfl, hq⟩
          have HU5 := Lib.hid (HU4.out.quiet hq)
          have HQ5 := Lib.hid (HQ4.out.trans hq)
          clear hq
          go_wp2_with fail
          refine (HPA.out _ HU5.out).mono ?_
          rintro e w6 ⟨rfl, hq⟩
          have HU6 := Lib.hid (HU5.out.quiet hq)
          have HQ6 := Lib.hid (HQ5.out.trans hq)
          clear hq
          go_wp2_with fail
          refine (HD.out _ HU6.out).mono ?_
          rintro e w7 ⟨rfl, hq⟩
          have HU7 := Lib.hid (HU6.out.quiet hq)
          have HQ7 := Lib.hid (HQ6.out.trans hq)
          clear hq
          go_wp2_with fail
          refine (HN.out _ HU7.out).mono ?_
          rintro e w8 ⟨rfl, hq⟩
          have HU8 := Lib.hid (HU7.out.quiet hq)
          have HQ8 := Lib.hid (HQ7.out.trans hq)
          clear hq
          go_wp2_with fail
          refine (HN.out _ HU8.out).mono ?_
          rintro e w9 ⟨rfl, hq⟩
          have HU9 := Lib.hid (HU8.out.quiet hq)
          have HQ9 := Lib.hid (HQ8.out.trans hq)
          clear hq
          go_wp2_with fail
          refine (HG.out _ HU9.out).mono ?_
          rintro e w10 ⟨rfl, hq⟩
          have HU10 := Lib.hid (HU9.out.quiet hq)
          have HQ10 := Lib.hid (HQ9.out.trans hq)
          clear hq
          go_wp2_with fail
          refine (HJ.out _ HU10.out HQ10.out).mono ?_
          rintro e w11 ⟨rfl, hq⟩
          have HU11 := Lib.hid (HU10.out.quiet hq)
          have HQ11 := Lib.hid (HQ10.out.trans hq)
          clear hq
          go_wp2_with fail
          refine (HGj.out _ HU11.out).mono ?_
          rintro e w12 ⟨rfl, hq⟩
          have HU12 := Lib.hid (HU11.out.quiet hq)
          have HQ12 := Lib.hid (HQ11.out.trans hq)
          clear hq
          go_wp2_with fail
          refine (HSj.out _ HU12.out).mono ?_
          rintro e w13 ⟨u, rfl, ht, hq⟩
          have HU13 := Lib.hid (HU12.out.quiet hq)
          have HQ13 := Lib.hid (HQ12.out.trans hq)
          have HT13 := Lib.hid ht
          obtain ⟨ua, uc, rfl, _⟩ := ht.shape
          clear hq ht
          go_wp2_with fail
          refine (HTX.out _ _ HQ13.out HT13.out).mono ?_
          rintro e w14 ⟨rfl, hq⟩
          have HU14 := Lib.hid (HU13.out.quiet hq)
          have HQ14 := Lib.hid (HQ13.out.trans hq)
          clear hq
          go_wp2_with fail
          go_ret
          exact ⟨rfl, HQ14.out⟩
      · rw [q1] at HPA
        have hnl : (Pt.split s.data.toList).length ≤ 401 := by
          have h1 := Pt.len_tot (Pt.pcs s.data.toList)
          rw [Pt.pcs_tot] at h1
          rw [Pt.split_good hg]
          omega
        generalize (Pt.split s.data.toList).length = nd at *
        obtain ⟨PB, hPB⟩ : ∃ PB : ByteArray, PB.data.toList = Pt.parL s.data.toList := ⟨⟨(Pt.parL s.data.toList).toArray⟩, rfl⟩
        obtain ⟨BB, hBB⟩ : ∃ BB : ByteArray, BB.data.toList = Pt.baseL s.data.toList := ⟨⟨(Pt.baseL s.data.toList).toArray⟩, rfl⟩
        rw [← hPB, txV_data] at HPA
        rw [← hBB, txV_data] at HB
        rw [← hPB, ← hBB] at q3
        rw [← hPB] at q4 q5
        have hPs : PB.size ≤ 400 := by
          have := congrArg List.length q3
          rw [List.length_append, ← Lib.size_eq, ← Lib.size_eq] at this
          rw [← Lib.size_eq] at hsl
          omega
        have hBs : BB.size ≤ 400 := by
          have := congrArg List.length q3
          rw [List.length_append, List.length_cons, ← Lib.size_eq, ← Lib.size_eq, ← Lib.size_eq] at this
          rw [← Lib.size_eq] at hsl
          omega
        have HX2 : Hid (∀ W, U8 W → Calls Tryd.prog 23 #[.string PB, .string s] W fun e w' => e = .returned (.bool true) ∧ Quiet W w') := fun W h => by
          have := HX.out W PB hPs h
          rwa [q4] at this
        have HDP2 := Lib.hid (fun W h => HDP.out W PB hPs h)
        have hcat : (PB ++ ⟨#[47]⟩ ++ BB).toList = s.toList := by
          rw [Lib.toList_data, Lib.toList_data, append_data, append_data, ← q3]
          simp
        have hcat2 : ((PB ++ ⟨#[47]⟩ ++ BB).toList == s.toList) = true := by rw [hcat]; simp
        generalize (Pt.split PB.data.toList).length = pd at *
        obtain rfl : nd = pd + 1 := by omega
        have hpd : (pd : Int) ≤ 400 := by omega
        have hd1 : (1 : Int) < ((pd + 1 : Nat) : Int) := by omega
        have hnd : (((pd + 1 : Nat) : Int)) - 1 = (pd : Int) := by omega
        clear hNs q1 q2 q3 q4 q5 HX HDP hPB hBB hg hsl hcat
        rcases hjc with hj | ⟨j, hj, hjs, hjg, hjp⟩
        · rw [hj] at HJ
          unfold normV at HJ
          clear hj HTX
          go_enter Tryd.func8, Tryd.ntmps8
          go_wp2_with fail
          refine (HA.out).mono ?_
          rintro e w1 ⟨rfl, hq⟩
          have HU1 := Lib.hid (HU.out.quiet hq)
          have HQ1 := Lib.hid hq
          clear hq
          go_wp2_with fail
          refine (HG.out _ HU1.out).mono ?_
          rintro e w2 ⟨rfl, hq⟩
          have HU2 := Lib.hid (HU1.out.quiet hq)
          have HQ2 := Lib.hid (HQ1.out.trans hq)
          clear hq
          go_wp2_with fail
          refine (HSP.out _ HU2.out).mono ?_
          rintro e w3 ⟨u, rfl, ht, hq⟩
          have HU3 := Lib.hid (HU2.out.quiet hq)
          have HQ3 := Lib.hid (HQ2.out.trans hq)
          have HT3 := Lib.hid ht
          obtain ⟨sa, sc, rfl, _⟩ := ht.shape
          clear hq ht
          go_wp2_with fail
          refine (HJ1.out _ _ HU3.out HT3.out).mono ?_
          rintro e w4 ⟨rfl, hq⟩
          have HU4 := Lib.hid (HU3.out.quiet hq)
          have HQ4 := Lib.hid (HQ3.out.trans hq)
          clear hq
          go_wp2_with fail
          refine (HN.out _ HU4.out).mono ?_
          rintro e w5 ⟨rfl, hq⟩
          have HU5 := Lib.hid (HU4.out.quiet hq)
          have HQ5 := Lib.hid (HQ4.out.trans hq)
          clear hq
          go_wp2_with fail
          refine (HPA.out _ HU5.out).mono ?_
          rintro e w6 ⟨rfl, hq⟩
          have HU6 := Lib.hid (HU5.out.quiet hq)
          have HQ6 := Lib.hid (HQ5.out.trans hq)
          clear hq
          go_wp2_with fail
          refine (HD.out _ HU6.out).mono ?_
          rintro e w7 ⟨rfl, hq⟩
          have HU7 := Lib.hid (HU6.out.quiet hq)
          have HQ7 := Lib.hid (HQ6.out.trans hq)
          clear hq
          go_wp2_with fail
          refine (HB.out _ HU7.out).mono ?_
          rintro e w8 ⟨rfl, hq⟩
          have HU8 := Lib.hid (HU7.out.quiet hq)
          have HQ8 := Lib.hid (HQ7.out.trans hq)
          clear hq
          go_wp2_with fail
          refine (HX2.out _ HU8.out).mono ?_
          rintro e w9 ⟨rfl, hq⟩
          have HU9 := Lib.hid (HU8.out.quiet hq)
          have HQ9 := Lib.hid (HQ8.out.trans hq)
          clear hq
          go_wp2_with fail
          refine (HDP2.out _ HU9.out).mono ?_
          rintro e w10 ⟨rfl, hq⟩
          have HU10 := Lib.hid (HU9.out.quiet hq)
          have HQ10 := Lib.hid (HQ9.out.trans hq)
          clear hq
          go_wp2_with fail
          refine (HD.out _ HU10.out).mono ?_
          rintro e w11 ⟨rfl, hq⟩
          have HU11 := Lib.hid (HU10.out.quiet hq)
          have HQ11 := Lib.hid (HQ10.out.trans hq)
          clear hq
          go_wp2_with fail
          refine (HN.out _ HU11.out).mono ?_
          rintro e w12 ⟨rfl, hq⟩
          have HU12 := Lib.hid (HU11.out.quiet hq)
          have HQ12 := Lib.hid (HQ11.out.trans hq)
          clear hq
          go_wp2_with fail
          refine (HN.out _ HU12.out).mono ?_
          rintro e w13 ⟨rfl, hq⟩
          have HU13 := Lib.hid (HU12.out.quiet hq)
          have HQ13 := Lib.hid (HQ12.out.trans hq)
          clear hq
          go_wp2_with fail
          refine (HG.out _ HU13.out).mono ?_
          rintro e w14 ⟨rfl, hq⟩
          have HU14 := Lib.hid (HU13.out.quiet hq)
          have HQ14 := Lib.hid (HQ13.out.trans hq)
          clear hq
          go_wp2_with fail
          refine (HJ.out _ HU14.out HQ14.out).mono ?_
          rintro e w15 ⟨rfl, hq⟩
          have HU15 := Lib.hid (HU14.out.quiet hq)
          have HQ15 := Lib.hid (HQ14.out.trans hq)
          clear hq
          go_wp2_with fail
          go_ret
          exact ⟨rfl, HQ15.out⟩
        · rw [hj, normV_some] at HJ
          have HGj : Hid (∀ W, U8 W → Calls Tryd.prog 13 #[.string j] W fun e w' => e = .returned (.bool true) ∧ Quiet W w') := fun W h => by
            have := good_any j (by omega) h
            rwa [hjg] at this
          have HSj : Hid (∀ W, U8 W → Calls Tryd.prog 16 #[.string j] W fun e w' => ∃ u, e = .returned u ∧ TextsAt w' (fun k => k < w'.heap.size) u ps ∧ Quiet W w') := fun W h => by
            have := split_any j (by omega) h
            rwa [hjp] at this
          clear hj hjs hjg hjp
          go_enter Tryd.func8, Tryd.ntmps8
          go_wp2_with fail
          refine (HA.out).mono ?_
          rintro e w1 ⟨rfl, hq⟩
          have HU1 := Lib.hid (HU.out.quiet hq)
          have HQ1 := Lib.hid hq
          clear hq
          go_wp2_with fail
          refine (HG.out _ HU1.out).mono ?_
          rintro e w2 ⟨rfl, hq⟩
          have HU2 := Lib.hid (HU1.out.quiet hq)
          have HQ2 := Lib.hid (HQ1.out.trans hq)
          clear hq
          go_wp2_with fail
          refine (HSP.out _ HU2.out).mono ?_
          rintro e w3 ⟨u, rfl, ht, hq⟩
          have HU3 := Lib.hid (HU2.out.quiet hq)
          have HQ3 := Lib.hid (HQ2.out.trans hq)
          have HT3 := Lib.hid ht
          obtain ⟨sa, sc, rfl, _⟩ := ht.shape
          clear hq ht
          go_wp2_with fail
          refine (HJ1.out _ _ HU3.out HT3.out).mono ?_
          rintro e w4 ⟨rfl, hq⟩
          have HU4 := Lib.hid (HU3.out.quiet hq)
          have HQ4 := Lib.hid (HQ3.out.trans hq)
          clear hq
          go_wp2_with fail
          refine (HN.out _ HU4.out).mono ?_
          rintro e w5 ⟨rfl, hq⟩
          have HU5 := Lib.hid (HU4.out.quiet hq)
          have HQ5 := Lib.hid (HQ4.out.trans hq)
          clear hq
          go_wp2_with fail
          refine (HPA.out _ HU5.out).mono ?_
          rintro e w6 ⟨rfl, hq⟩
          have HU6 := Lib.hid (HU5.out.quiet hq)
          have HQ6 := Lib.hid (HQ5.out.trans hq)
          clear hq
          go_wp2_with fail
          refine (HD.out _ HU6.out).mono ?_
          rintro e w7 ⟨rfl, hq⟩
          have HU7 := Lib.hid (HU6.out.quiet hq)
          have HQ7 := Lib.hid (HQ6.out.trans hq)
          clear hq
          go_wp2_with fail
          refine (HB.out _ HU7.out).mono ?_
          rintro e w8 ⟨rfl, hq⟩
          have HU8 := Lib.hid (HU7.out.quiet hq)
          have HQ8 := Lib.hid (HQ7.out.trans hq)
          clear hq
          go_wp2_with fail
          refine (HX2.out _ HU8.out).mono ?_
          rintro e w9 ⟨rfl, hq⟩
          have HU9 := Lib.hid (HU8.out.quiet hq)
          have HQ9 := Lib.hid (HQ8.out.trans hq)
          clear hq
          go_wp2_with fail
          refine (HDP2.out _ HU9.out).mono ?_
          rintro e w10 ⟨rfl, hq⟩
          have HU10 := Lib.hid (HU9.out.quiet hq)
          have HQ10 := Lib.hid (HQ9.out.trans hq)
          clear hq
          go_wp2_with fail
          refine (HD.out _ HU10.out).mono ?_
          rintro e w11 ⟨rfl, hq⟩
          have HU11 := Lib.hid (HU10.out.quiet hq)
          have HQ11 := Lib.hid (HQ10.out.trans hq)
          clear hq
          go_wp2_with fail
          refine (HN.out _ HU11.out).mono ?_
          rintro e w12 ⟨rfl, hq⟩
          have HU12 := Lib.hid (HU11.out.quiet hq)
          have HQ12 := Lib.hid (HQ11.out.trans hq)
          clear hq
          go_wp2_with fail
          refine (HN.out _ HU12.out).mono ?_
          rintro e w13 ⟨rfl, hq⟩
          have HU13 := Lib.hid (HU12.out.quiet hq)
          have HQ13 := Lib.hid (HQ12.out.trans hq)
          clear hq
          go_wp2_with fail
          refine (HG.out _ HU13.out).mono ?_
          rintro e w14 ⟨rfl, hq⟩
          have HU14 := Lib.hid (HU13.out.quiet hq)
          have HQ14 := Lib.hid (HQ13.out.trans hq)
          clear hq
          go_wp2_with fail
          refine (HJ.out _ HU14.out HQ14.out).mono ?_
          rintro e w15 ⟨rfl, hq⟩
          have HU15 := Lib.hid (HU14.out.quiet hq)
          have HQ15 := Lib.hid (HQ14.out.trans hq)
          clear hq
          go_wp2_with fail
          refine (HGj.out _ HU15.out).mono ?_
          rintro e w16 ⟨rfl, hq⟩
          have HU16 := Lib.hid (HU15.out.quiet hq)
          have HQ16 := Lib.hid (HQ15.out.trans hq)
          clear hq
          go_wp2_with fail
          refine (HSj.out _ HU16.out).mono ?_
          rintro e w17 ⟨u, rfl, ht, hq⟩
          have HU17 := Lib.hid (HU16.out.quiet hq)
          have HQ17 := Lib.hid (HQ16.out.trans hq)
          have HT17 := Lib.hid ht
          obtain ⟨ua, uc, rfl, _⟩ := ht.shape
          clear hq ht
          go_wp2_with fail
          refine (HTX.out _ _ HQ17.out HT17.out).mono ?_
          rintro e w18 ⟨rfl, hq⟩
          have HU18 := Lib.hid (HU17.out.quiet hq)
          have HQ18 := Lib.hid (HQ17.out.trans hq)
          clear hq
          go_wp2_with fail
          go_ret
          exact ⟨rfl, HQ18.out⟩
    | false =>
      rw [hg] at HG
      clear hg
      cases hn : Pt.normal s.data.toList with
      | none =>
        rw [hn] at HN
        unfold normV at HN
        clear hn
        rcases hjc with hj | ⟨j, hj, hjs, hjg, hjp⟩
        · rw [hj] at HJ
          unfold normV at HJ
          clear hj HTX
          go_enter Tryd.func8, Tryd.ntmps8
          go_wp2_with fail
          refine (HA.out).mono ?_
          rintro e w1 ⟨rfl, hq⟩
          have HU1 := Lib.hid (HU.out.quiet hq)
          have HQ1 := Lib.hid hq
          clear hq
          go_wp2_with fail
          refine (HG.out _ HU1.out).mono ?_
          rintro e w2 ⟨rfl, hq⟩
          have HU2 := Lib.hid (HU1.out.quiet hq)
          have HQ2 := Lib.hid (HQ1.out.trans hq)
          clear hq
          go_wp2_with fail
          refine (HN.out _ HU2.out).mono ?_
          rintro e w3 ⟨rfl, hq⟩
          have HU3 := Lib.hid (HU2.out.quiet hq)
          have HQ3 := Lib.hid (HQ2.out.trans hq)
          clear hq
          go_wp2_with fail
          refine (HJ.out _ HU3.out HQ3.out).mono ?_
          rintro e w4 ⟨rfl, hq⟩
          have HU4 := Lib.hid (HU3.out.quiet hq)
          have HQ4 := Lib.hid (HQ3.out.trans hq)
          clear hq
          go_wp2_with fail
          go_ret
          exact ⟨rfl, HQ4.out⟩
        · rw [hj, normV_some] at HJ
          have HGj : Hid (∀ W, U8 W → Calls Tryd.prog 13 #[.string j] W fun e w' => e = .returned (.bool true) ∧ Quiet W w') := fun W h => by
            have := good_any j (by omega) h
            rwa [hjg] at this
          have HSj : Hid (∀ W, U8 W → Calls Tryd.prog 16 #[.string j] W fun e w' => ∃ u, e = .returned u ∧ TextsAt w' (fun k => k < w'.heap.size) u ps ∧ Quiet W w') := fun W h => by
            have := split_any j (by omega) h
            rwa [hjp] at this
          clear hj hjs hjg hjp
          go_enter Tryd.func8, Tryd.ntmps8
          go_wp2_with fail
          refine (HA.out).mono ?_
          rintro e w1 ⟨rfl, hq⟩
          have HU1 := Lib.hid (HU.out.quiet hq)
          have HQ1 := Lib.hid hq
          clear hq
          go_wp2_with fail
          refine (HG.out _ HU1.out).mono ?_
          rintro e w2 ⟨rfl, hq⟩
          have HU2 := Lib.hid (HU1.out.quiet hq)
          have HQ2 := Lib.hid (HQ1.out.trans hq)
          clear hq
          go_wp2_with fail
          refine (HN.out _ HU2.out).mono ?_
          rintro e w3 ⟨rfl, hq⟩
          have HU3 := Lib.hid (HU2.out.quiet hq)
          have HQ3 := Lib.hid (HQ2.out.trans hq)
          clear hq
          go_wp2_with fail
          refine (HJ.out _ HU3.out HQ3.out).mono ?_
          rintro e w4 ⟨rfl, hq⟩
          have HU4 := Lib.hid (HU3.out.quiet hq)
          have HQ4 := Lib.hid (HQ3.out.trans hq)
          clear hq
          go_wp2_with fail
          refine (HGj.out _ HU4.out).mono ?_
          rintro e w5 ⟨rfl, hq⟩
          have HU5 := Lib.hid (HU4.out.quiet hq)
          have HQ5 := Lib.hid (HQ4.out.trans hq)
          clear hq
          go_wp2_with fail
          refine (HSj.out _ HU5.out).mono ?_
          rintro e w6 ⟨u, rfl, ht, hq⟩
          have HU6 := Lib.hid (HU5.out.quiet hq)
          have HQ6 := Lib.hid (HQ5.out.trans hq)
          have HT6 := Lib.hid ht
          obtain ⟨ua, uc, rfl, _⟩ := ht.shape
          clear hq ht
          go_wp2_with fail
          refine (HTX.out _ _ HQ6.out HT6.out).mono ?_
          rintro e w7 ⟨rfl, hq⟩
          have HU7 := Lib.hid (HU6.out.quiet hq)
          have HQ7 := Lib.hid (HQ6.out.trans hq)
          clear hq
          go_wp2_with fail
          go_ret
          exact ⟨rfl, HQ7.out⟩
      | some l =>
        rw [hn] at HN
        obtain ⟨n, rfl⟩ : ∃ n : ByteArray, l = n.data.toList := ⟨⟨l.toArray⟩, rfl⟩
        have hgn := Pt.normal_is hn
        have hns : n.size ≤ 400 := by rw [Lib.size_eq]; exact Pt.good_len hgn
        have HNn : Hid (∀ W, U8 W → Calls Tryd.prog 27 #[.string n] W fun e w' => e = .returned (.tuple #[.string n, .nilIface]) ∧ Quiet W w') := fun W h => by
          have := normal_any n (by omega) h
          rwa [Pt.normal_good hgn, normV_some] at this
        have HGn : Hid (∀ W, U8 W → Calls Tryd.prog 13 #[.string n] W fun e w' => e = .returned (.bool true) ∧ Quiet W w') := fun W h => by
          have := good_any n (by omega) h
          rwa [hgn] at this
        have hne : (n.toList == n.toList) = true := by simp
        rw [normV_some] at HN
        clear hn hgn hns
        rcases hjc with hj | ⟨j, hj, hjs, hjg, hjp⟩
        · rw [hj] at HJ
          unfold normV at HJ
          clear hj HTX
          go_enter Tryd.func8, Tryd.ntmps8
          go_wp2_with fail
          refine (HA.out).mono ?_
          rintro e w1 ⟨rfl, hq⟩
          have HU1 := Lib.hid (HU.out.quiet hq)
          have HQ1 := Lib.hid hq
          clear hq
          go_wp2_with fail
          refine (HG.out _ HU1.out).mono ?_
          rintro e w2 ⟨rfl, hq⟩
          have HU2 := Lib.hid (HU1.out.quiet hq)
          have HQ2 := Lib.hid (HQ1.out.trans hq)
          clear hq
          go_wp2_with fail
          refine (HN.out _ HU2.out).mono ?_
          rintro e w3 ⟨rfl, hq⟩
          have HU3 := Lib.hid (HU2.out.quiet hq)
          have HQ3 := Lib.hid (HQ2.out.trans hq)
          clear hq
          go_wp2_with fail
          refine (HNn.out _ HU3.out).mono ?_
          rintro e w4 ⟨rfl, hq⟩
          have HU4 := Lib.hid (HU3.out.quiet hq)
          have HQ4 := Lib.hid (HQ3.out.trans hq)
          clear hq
          go_wp2_with fail
          refine (HGn.out _ HU4.out).mono ?_
          rintro e w5 ⟨rfl, hq⟩
          have HU5 := Lib.hid (HU4.out.quiet hq)
          have HQ5 := Lib.hid (HQ4.out.trans hq)
          clear hq
          go_wp2_with fail
          refine (HJ.out _ HU5.out HQ5.out).mono ?_
          rintro e w6 ⟨rfl, hq⟩
          have HU6 := Lib.hid (HU5.out.quiet hq)
          have HQ6 := Lib.hid (HQ5.out.trans hq)
          clear hq
          go_wp2_with fail
          go_ret
          exact ⟨rfl, HQ6.out⟩
        · rw [hj, normV_some] at HJ
          have HGj : Hid (∀ W, U8 W → Calls Tryd.prog 13 #[.string j] W fun e w' => e = .returned (.bool true) ∧ Quiet W w') := fun W h => by
            have := good_any j (by omega) h
            rwa [hjg] at this
          have HSj : Hid (∀ W, U8 W → Calls Tryd.prog 16 #[.string j] W fun e w' => ∃ u, e = .returned u ∧ TextsAt w' (fun k => k < w'.heap.size) u ps ∧ Quiet W w') := fun W h => by
            have := split_any j (by omega) h
            rwa [hjp] at this
          clear hj hjs hjg hjp
          go_enter Tryd.func8, Tryd.ntmps8
          go_wp2_with fail
          refine (HA.out).mono ?_
          rintro e w1 ⟨rfl, hq⟩
          have HU1 := Lib.hid (HU.out.quiet hq)
          have HQ1 := Lib.hid hq
          clear hq
          go_wp2_with fail
          refine (HG.out _ HU1.out).mono ?_
          rintro e w2 ⟨rfl, hq⟩
          have HU2 := Lib.hid (HU1.out.quiet hq)
          have HQ2 := Lib.hid (HQ1.out.trans hq)
          clear hq
          go_wp2_with fail
          refine (HN.out _ HU2.out).mono ?_
          rintro e w3 ⟨rfl, hq⟩
          have HU3 := Lib.hid (HU2.out.quiet hq)
          have HQ3 := Lib.hid (HQ2.out.trans hq)
          clear hq
          go_wp2_with fail
          refine (HNn.out _ HU3.out).mono ?_
          rintro e w4 ⟨rfl, hq⟩
          have HU4 := Lib.hid (HU3.out.quiet hq)
          have HQ4 := Lib.hid (HQ3.out.trans hq)
          clear hq
          go_wp2_with fail
          refine (HGn.out _ HU4.out).mono ?_
          rintro e w5 ⟨rfl, hq⟩
          have HU5 := Lib.hid (HU4.out.quiet hq)
          have HQ5 := Lib.hid (HQ4.out.trans hq)
          clear hq
          go_wp2_with fail
          refine (HJ.out _ HU5.out HQ5.out).mono ?_
          rintro e w6 ⟨rfl, hq⟩
          have HU6 := Lib.hid (HU5.out.quiet hq)
          have HQ6 := Lib.hid (HQ5.out.trans hq)
          clear hq
          go_wp2_with fail
          refine (HGj.out _ HU6.out).mono ?_
          rintro e w7 ⟨rfl, hq⟩
          have HU7 := Lib.hid (HU6.out.quiet hq)
          have HQ7 := Lib.hid (HQ6.out.trans hq)
          clear hq
          go_wp2_with fail
          refine (HSj.out _ HU7.out).mono ?_
          rintro e w8 ⟨u, rfl, ht, hq⟩
          have HU8 := Lib.hid (HU7.out.quiet hq)
          have HQ8 := Lib.hid (HQ7.out.trans hq)
          have HT8 := Lib.hid ht
          obtain ⟨ua, uc, rfl, _⟩ := ht.shape
          clear hq ht
          go_wp2_with fail
          refine (HTX.out _ _ HQ8.out HT8.out).mono ?_
          rintro e w9 ⟨rfl, hq⟩
          have HU9 := Lib.hid (HU8.out.quiet hq)
          have HQ9 := Lib.hid (HQ8.out.trans hq)
          clear hq
          go_wp2_with fail
          go_ret
          exact ⟨rfl, HQ9.out⟩

end Go.Proofs.YtbfcjlpakngmhaaDoor
