/- The law ShaDerives: Derive is what RFC 5869 says, or ErrRange. Conditions: rows within the reach. -/
import Derived.Test.YtdgaojibfpafnaaDoorSRefDer
import Derived.Test.YtdgaojibfpafnaaDoorSSums
namespace Go.Proofs.YtdgaojibfpafnaaDoor
open Go.RowKit

theorem num_seven (w : World) : Calls Tryd.prog 19 #[.iface 63 (.int .i64 7)] w fun e w' => e = .returned (.int .i64 7) ∧ w = w' := num_err 7 w (by decide)

theorem nil_text (w : World) : (convert 22 9 (.slice none 0 0)).run Tryd.prog w = .ok (.string ⟨#[]⟩) w := (show BytesAt w (fun _ => False) (.slice none 0 0) [] from .inl ⟨rfl, rfl⟩).text

/-- The boxed argument's cells. -/
theorem box_cells {w : World} {b : Nat} {v0 v1 v2 v3 : Value} (h : Blk w b [v0, v1, v2, v3] 32) :
    w.cell? ⟨b, 0, none⟩ = some v0 ∧ w.cell? ⟨b, 1, none⟩ = some v1 ∧ w.cell? ⟨b, 2, none⟩ = some v2 ∧ w.cell? ⟨b, 3, none⟩ = some v3 :=
  ⟨h.cell 0, h.cell 1, h.cell 2, h.cell 3⟩

set_option maxRecDepth 100000 in
set_option maxHeartbeats 4000000 in
theorem shaDerives_any {w : World} {S : Nat → Prop} {v0 v1 v2 : Value} {salt secret info : List UInt8} {n : Int} (h0 : BytesAt w S v0 salt) (h1 : BytesAt w S v1 secret) (h2 : BytesAt w S v2 info) (l0 : salt.length ≤ 140737488355328) (l1 : secret.length ≤ 140737488355328) (l2 : info.length ≤ 140737488355328) (hS : ∀ k, S k → k < w.heap.size) (hf : Fst w) (ht : Tab w) :
    Calls Tryd.prog 4 #[.agg #[v0, v1, v2, .int .i64 n]] w fun e w' => e = .returned (.bool true) ∧ Only (fun _ => False) w w' := by
  obtain ⟨a0, c0, rfl⟩ := h0.shape
  obtain ⟨a1, c1, rfl⟩ := h1.shape
  obtain ⟨a2, c2, rfl⟩ := h2.shape
  have hoB : Only (fun _ => False) w (w.alloc (.cells #[.slice a0 salt.length c0, .slice a1 secret.length c1, .slice a2 info.length c2, .int .i64 n] 32)) := Only.alloc _
  have HBX := Lib.hid (Blk.new w [.slice a0 salt.length c0, .slice a1 secret.length c1, .slice a2 info.length c2, .int .i64 n] 32)
  have HAL := Lib.hid (alive_any (hf.only hoB (fun x => x)) (ht.only hoB (fun x => x)))
  have H0 := Lib.hid h0; have H1 := Lib.hid h1; have H2 := Lib.hid h2; have HS := Lib.hid hS; have HF := Lib.hid hf; have HT := Lib.hid ht; have HOB := Lib.hid hoB
  have HLG : Hid (∀ w1, Only (fun _ => False) w w1 → Calls Tryd.prog 10 #[.slice (some ⟨w1.heap.size, 0, none⟩) 3 3] (w1.alloc (.cells #[.slice a0 salt.length c0, .slice a1 secret.length c1, .slice a2 info.length c2] 22)) fun e w' => e = .returned (.bool (decide (65536 < salt.length + secret.length + info.length))) ∧ w1.alloc (.cells #[.slice a0 salt.length c0, .slice a1 secret.length c1, .slice a2 info.length c2] 22) = w') := by
    intro w1 ho
    have ho' := ho.trans (Only.alloc (.cells #[.slice a0 salt.length c0, .slice a1 secret.length c1, .slice a2 info.length c2] 22))
    have h := large_any (parts3 (Blk.new w1 [.slice a0 salt.length c0, .slice a1 secret.length c1, .slice a2 info.length c2] 22) (h0.only ho' hS (fun _ _ x => x)) (h1.only ho' hS (fun _ _ x => x)) (h2.only ho' hS (fun _ _ x => x)) (fun k hk => Nat.lt_of_lt_of_le (hS k hk) ho'.size)) (by
      intro p hp
      simp at hp
      rcases hp with rfl | rfl | rfl
      · exact l0
      · exact l1
      · exact l2) (by simp)
    have e : tot [salt, secret, info] = salt.length + secret.length + info.length := by simp [tot]; omega
    rw [e] at h
    exact h
  clear h0 h1 h2 hS hf ht hoB
  by_cases hbig : 65536 < salt.length + secret.length + info.length
  · have hd : decide (65536 < salt.length + secret.length + info.length) = true := decide_eq_true hbig
    rw [hd] at HLG
    clear hd
    go_enter Tryd.func4, Tryd.ntmps4
    go_wp2_with (first
      | (go_at_call 9; refine HAL.out.mono ?_; rintro e w1 ⟨rfl, ho1⟩; obtain ⟨x0, x1, x2, x3⟩ := box_cells (HBX.out.keep ho1 (fun x => x)); have HO1 := Lib.hid (HOB.out.trans ho1); have HLW := Lib.hid (HLG.out w1 (HOB.out.trans ho1)); clear ho1)
      | (go_at_call 10; refine HLW.out.mono ?_; rintro e w' ⟨rfl, rfl⟩))
    go_ret
    exact ⟨rfl, HO1.out.trans (Only.alloc _)⟩
  · have hd : decide (65536 < salt.length + secret.length + info.length) = false := decide_eq_false hbig
    rw [hd] at HLG
    have q0 : salt.length ≤ 65536 := by omega
    have q1 : secret.length ≤ 65536 := by omega
    have q2 : info.length ≤ 65536 := by omega
    clear hd l0 l1 l2 hbig
    have HQ : Hid (salt.length ≤ 1048576 ∧ secret.length ≤ 1048576 ∧ info.length ≤ 1048576) := Lib.hid ⟨by omega, by omega, by omega⟩
    have HCP : Hid (∀ w1, Only (fun _ => False) w w1 →
        (Calls Tryd.prog 11 #[.slice a0 salt.length c0] w1 fun e w' => ∃ g c, e = .returned (.slice (some ⟨g, 0, none⟩) salt.length c) ∧ CopyAt w' g c salt ∧ w1.heap.size ≤ g ∧ Only (fun _ => False) w1 w') ∧
        (Calls Tryd.prog 11 #[.slice a1 secret.length c1] w1 fun e w' => ∃ g c, e = .returned (.slice (some ⟨g, 0, none⟩) secret.length c) ∧ CopyAt w' g c secret ∧ w1.heap.size ≤ g ∧ Only (fun _ => False) w1 w') ∧
        (Calls Tryd.prog 11 #[.slice a2 info.length c2] w1 fun e w' => ∃ g c, e = .returned (.slice (some ⟨g, 0, none⟩) info.length c) ∧ CopyAt w' g c info ∧ w1.heap.size ≤ g ∧ Only (fun _ => False) w1 w')) := by
      intro w1 ho
      exact ⟨copy_any (H0.out.here ho HS.out) (fun _ h => h) HQ.out.1, copy_any (H1.out.here ho HS.out) (fun _ h => h) HQ.out.2.1, copy_any (H2.out.here ho HS.out) (fun _ h => h) HQ.out.2.2⟩
    go_enter Tryd.func4, Tryd.ntmps4
    go_upto_region 5 with (first
      | (go_at_call 9; refine HAL.out.mono ?_; rintro e w1 ⟨rfl, ho1⟩; obtain ⟨x0, x1, x2, x3⟩ := box_cells (HBX.out.keep ho1 (fun x => x)); have HO1 := Lib.hid ((HOB.out.trans ho1).trans (Only.alloc (.cells #[.slice a0 salt.length c0, .slice a1 secret.length c1, .slice a2 info.length c2] 22))); have HB1 := Lib.hid ((HBX.out.keep ho1 (fun x => x)).alloc (.cells #[.slice a0 salt.length c0, .slice a1 secret.length c1, .slice a2 info.length c2] 22)); have HLW := Lib.hid (HLG.out w1 (HOB.out.trans ho1)); clear ho1)
      | (go_at_call 10; refine HLW.out.mono ?_; rintro e w' ⟨rfl, rfl⟩))
    clear x0 x1 x2 x3 HLW HLG HAL HBX HOB
    generalize w1.alloc (.cells #[.slice a0 salt.length c0, .slice a1 secret.length c1, .slice a2 info.length c2] 22) = wX at *
    generalize w.heap.size = b at HB1 ⊢
    obtain ⟨x0, x1, x2, x3⟩ := box_cells HB1.out
    have HC0 := Lib.hid (HCP.out wX.drew (HO1.out.trans Only.drew)).1
    have HOD : Hid (Only (fun _ => False) w wX.drew) := Lib.hid (HO1.out.trans Only.drew)
    have HBD : Hid (Blk wX.drew b [.slice a0 salt.length c0, .slice a1 secret.length c1, .slice a2 info.length c2, .int .i64 n] 32) := Lib.hid HB1.out.drew
    clear HO1 HB1
    go_region_held3 (fun w' => w'.cell? ⟨b, 0, none⟩ = some (.slice a0 salt.length c0) ∧ w'.cell? ⟨b, 1, none⟩ = some (.slice a1 secret.length c1) ∧ w'.cell? ⟨b, 2, none⟩ = some (.slice a2 info.length c2))
      (first | exact ⟨x0, x1, x2⟩ | exact ⟨y0, y1, y2⟩ | exact ⟨z0, z1, z2⟩ | exact ⟨p0, p1, p2⟩)
      (first
        | (go_at_call_of 11 (Value.slice a0 salt.length c0); refine HC0.out.mono ?_; rintro e w2 ⟨g0, d0, rfl, hc0, hg0, ho2⟩; have HO2 := Lib.hid (HOD.out.trans ho2); have HB2 := Lib.hid (HBD.out.keep ho2 (fun x => x)); obtain ⟨y0, y1, y2, y3⟩ := box_cells HB2.out; have HC02 := Lib.hid hc0; have HC1 := Lib.hid (HCP.out w2 HO2.out).2.1; clear hc0 hg0 ho2)
        | (go_at_call_of 11 (Value.slice a1 secret.length c1); refine HC1.out.mono ?_; rintro e w3 ⟨g1, d1, rfl, hc1, hg1, ho3⟩; have HO3 := Lib.hid (HO2.out.trans ho3); have HB3 := Lib.hid (HB2.out.keep ho3 (fun x => x)); obtain ⟨z0, z1, z2, z3⟩ := box_cells HB3.out; have HC03 := Lib.hid (HC02.out.only ho3 (fun x => x)); have HC13 := Lib.hid hc1; have HC2 := Lib.hid (HCP.out w3 HO3.out).2.2; clear hc1 hg1 ho3)
        | (go_at_call_of 11 (Value.slice a2 info.length c2); refine HC2.out.mono ?_; rintro e w4 ⟨g2, d2, rfl, hc2, hg2, ho4⟩; have HO4 := Lib.hid (HO3.out.trans ho4); have HB4 := Lib.hid (HB3.out.keep ho4 (fun x => x)); obtain ⟨p0, p1, p2, p3⟩ := box_cells HB4.out; have HC04 := Lib.hid (HC03.out.only ho4 (fun x => x)); have HC14 := Lib.hid (HC13.out.only ho4 (fun x => x)); have HC24 := Lib.hid hc2; clear hc2 hg2 ho4))
    clear x0 x1 x2 x3 y0 y1 y2 y3 z0 z1 z2 z3 HC0 HC1 HC2 HC02 HC03 HC13 HB2 HB3 HO2 HO3 HBD HOD HCP
    go_wp2_with fail
    have HKP : Hid (∀ w5, Only (fun _ => False) w4 w5 → (Calls Tryd.prog 16 #[.slice (some ⟨g0, 0, none⟩) salt.length d0, .slice a0 salt.length c0] w5 fun e w' => e = .returned (.bool true) ∧ w5 = w') ∧ (Calls Tryd.prog 16 #[.slice (some ⟨g1, 0, none⟩) secret.length d1, .slice a1 secret.length c1] w5 fun e w' => e = .returned (.bool true) ∧ w5 = w') ∧ (Calls Tryd.prog 16 #[.slice (some ⟨g2, 0, none⟩) info.length d2, .slice a2 info.length c2] w5 fun e w' => e = .returned (.bool true) ∧ w5 = w')) := by
      intro w5 ho
      have ho' := HO4.out.trans ho
      exact ⟨kept_any (HC04.out.only ho (fun x => x)) (H0.out.here ho' HS.out) HQ.out.1, kept_any (HC14.out.only ho (fun x => x)) (H1.out.here ho' HS.out) HQ.out.2.1, kept_any (HC24.out.only ho (fun x => x)) (H2.out.here ho' HS.out) HQ.out.2.2⟩
    have hN : (n < 0 ∨ 8160 < n) ∨ ∃ i : Nat, n = (i : Int) ∧ i ≤ 8160 := by
      by_cases h : n < 0 ∨ 8160 < n
      · exact .inl h
      · exact .inr ⟨n.toNat, by omega, by omega⟩
    rcases hN with hn | ⟨i, rfl, hi⟩
    · refine (range_err hn).mono ?_
      rintro e w' ⟨rfl, rfl⟩
      have HN := Lib.hid hn
      have HK4 := Lib.hid (HKP.out _ (Only.refl _ _))
      have hnt := nil_text
      clear hn
      go_wp2_with fail
      refine (rrange_err HN.out).mono ?_
      rintro e w' ⟨rfl, rfl⟩
      go_wp2_with (first
        | (go_at_call 19; refine (num_seven _).mono ?_; rintro e w' ⟨rfl, rfl⟩)
        | (go_at_call 16; first
            | ((with_reducible refine HK4.out.1.mono ?_); rintro e w' ⟨rfl, rfl⟩)
            | ((with_reducible refine HK4.out.2.1.mono ?_); rintro e w' ⟨rfl, rfl⟩)
            | ((with_reducible refine HK4.out.2.2.mono ?_); rintro e w' ⟨rfl, rfl⟩)))
      go_ret
      exact ⟨rfl, HO4.out⟩
    · refine (derive_any (S := fun k => k < w4.heap.size) (HC04.out.here (Only.refl _ _)) (HC14.out.here (Only.refl _ _)) (HC24.out.here (Only.refl _ _)) (fun _ h => h) (by omega) (by omega) (by omega) hi (HF.out.only HO4.out (fun x => x)) (HT.out.only HO4.out (fun x => x))).mono ?_
      rintro e w5 ⟨a5, c5, rfl, hr5, hn5, ho5⟩
      have HO5 := Lib.hid ho5; have HR5 := Lib.hid hr5
      have HOW := Lib.hid (HO4.out.trans ho5)
      have HB5 := Lib.hid (HB4.out.keep ho5 (fun x => x))
      obtain ⟨q0, q1', q2', q3'⟩ := box_cells HB5.out
      have HDR := Lib.hid (rDerive_any (n := i) (H0.out.here HOW.out HS.out) (H1.out.here HOW.out HS.out) (H2.out.here HOW.out HS.out) (fun _ h => h) (by omega) (by omega) (by omega) hi)
      clear hr5 hn5 ho5 p0 p1 p2 p3 hi
      go_wp2_with fail
      refine HDR.out.mono ?_
      rintro e w6 ⟨a6, c6, rfl, hb6, ho6⟩
      have hr6 := ownsRow_keep HR5.out (w' := w6) (fun q hq => ho6.block q (HR5.out.lt q hq).2 (fun x => x))
      have t5 : (convert 22 9 (.slice a5 i c5)).run Tryd.prog w6 = .ok (.string ⟨(derived salt secret info i).toArray⟩) w6 := (BytesAt.of_row hr6).text
      have t6 : (convert 22 9 (.slice a6 i c6)).run Tryd.prog w6 = .ok (.string ⟨(derived salt secret info i).toArray⟩) w6 := hb6.text
      have HK6 := Lib.hid (HKP.out w6 (HO5.out.trans ho6))
      have HO6 := Lib.hid (HOW.out.trans ho6)
      have HB6 := Lib.hid (HB5.out.keep ho6 (fun x => x))
      obtain ⟨r0, r1, r2, r3⟩ := box_cells HB6.out
      clear hr6 hb6 ho6 q0 q1' q2' q3' HDR
      go_wp2_with (first
        | (go_at_call 19; refine (num_nil _).mono ?_; rintro e w' ⟨rfl, rfl⟩)
        | (go_at_call 16; first
            | ((with_reducible refine HK6.out.1.mono ?_); rintro e w' ⟨rfl, rfl⟩)
            | ((with_reducible refine HK6.out.2.1.mono ?_); rintro e w' ⟨rfl, rfl⟩)
            | ((with_reducible refine HK6.out.2.2.mono ?_); rintro e w' ⟨rfl, rfl⟩)))
      go_ret
      exact ⟨rfl, HO6.out⟩

end Go.Proofs.YtdgaojibfpafnaaDoor
