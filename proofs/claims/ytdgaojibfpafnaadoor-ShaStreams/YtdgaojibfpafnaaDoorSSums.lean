/- The law ShaSums: Sum and Mac of any parts are what the standards say. Conditions: rows within the reach. -/
import Derived.Test.YtdgaojibfpafnaaDoorSRefMac
import Derived.Test.YtdgaojibfpafnaaDoorSNum
namespace Go.Proofs.YtdgaojibfpafnaaDoor
open Go.RowKit

theorem parts3 {w : World} {g : Nat} {S : Nat → Prop} {v u t : Value} {x y z : List UInt8} (hb : Blk w g [v, u, t] 22) (hv : BytesAt w S v x) (hu : BytesAt w S u y) (ht : BytesAt w S t z) (hS : ∀ k, S k → k < w.heap.size) :
    PartsAt w (fun k => k < w.heap.size) (.slice (some ⟨g, 0, none⟩) 3 3) [x, y, z] := by
  refine ⟨some ⟨g, 0, none⟩, 3, rfl, Nat.le_refl _, fun i hi => ?_⟩
  match i, hi with
  | 0, _ => exact ⟨_, v, rfl, hb.lt, by rw [add_lit]; exact hb.cell 0, hv.mono hS⟩
  | 1, _ => exact ⟨_, u, rfl, hb.lt, by rw [add_lit]; exact hb.cell 1, hu.mono hS⟩
  | 2, _ => exact ⟨_, t, rfl, hb.lt, by rw [add_lit]; exact hb.cell 2, ht.mono hS⟩

theorem no_parts (w : World) : PartsAt w (fun k => k < w.heap.size) (.slice none 0 0) [] := ⟨none, 0, rfl, Nat.le_refl _, fun i hi => absurd hi (by simp)⟩

theorem CopyAt.here {w : World} {g c : Nat} {x : List UInt8} (h : CopyAt w g c x) {w' : World} (ho : Only (fun _ => False) w w') : BytesAt w' (fun k => k < w'.heap.size) (.slice (some ⟨g, 0, none⟩) x.length c) x :=
  (h.only ho (fun x => x)).bytes.mono (fun k hk => by subst hk; exact (h.only ho (fun x => x)).lt)

/-- sha's and the document's Sum and Mac of two rows that lie somewhere. -/
theorem two_sums {w : World} {v u : Value} {x y : List UInt8} (hv : BytesAt w (fun k => k < w.heap.size) v x) (hu : BytesAt w (fun k => k < w.heap.size) u y) (hx : x.length ≤ 65536) (hy : y.length ≤ 65536) :
    (Fst w → Tab w → Calls Tryd.prog 12 #[.slice (some ⟨w.heap.size, 0, none⟩) 2 2] (w.alloc (.cells #[v, u] 22)) fun e w' => e = .returned (digV (Sh.sum (x ++ y))) ∧ Only (fun _ => False) w w') ∧
    (Calls Tryd.prog 13 #[.slice (some ⟨w.heap.size, 0, none⟩) 2 2] (w.alloc (.cells #[v, u] 22)) fun e w' => e = .returned (digV (Sh.sum (x ++ y))) ∧ Only (fun _ => False) w w') := by
  have hp := new_two hv hu
  have e : [x, y].flatten = x ++ y := by simp
  refine ⟨fun hf ht => ?_, ?_⟩
  · have h := sSum_any hp (fun _ h => h) (by rw [e, List.length_append]; omega) (by simp) (hf.alloc _) (ht.alloc _)
    rw [e] at h
    exact h.mono fun e w' ⟨he, h2⟩ => ⟨he, (Only.alloc _).trans h2⟩
  · have h := rSum_any hp (fun _ h => h) (by rw [e, List.length_append]; omega) (by simp)
    rw [e] at h
    exact h.mono fun e w' ⟨he, h2⟩ => ⟨he, (Only.alloc _).trans h2⟩
theorem two_macs {w : World} {vk v u : Value} {key x y : List UInt8} (hk : BytesAt w (fun k => k < w.heap.size) vk key) (hv : BytesAt w (fun k => k < w.heap.size) v x) (hu : BytesAt w (fun k => k < w.heap.size) u y) (hkl : key.length ≤ 65536) (hx : x.length ≤ 65536) (hy : y.length ≤ 65536) :
    (Fst w → Tab w → Calls Tryd.prog 14 #[vk, .slice (some ⟨w.heap.size, 0, none⟩) 2 2] (w.alloc (.cells #[v, u] 22)) fun e w' => e = .returned (digV (Sh.mac key (x ++ y))) ∧ Only (fun _ => False) w w') ∧
    (Calls Tryd.prog 15 #[vk, .slice (some ⟨w.heap.size, 0, none⟩) 2 2] (w.alloc (.cells #[v, u] 22)) fun e w' => e = .returned (digV (Sh.mac key (x ++ y))) ∧ Only (fun _ => False) w w') := by
  have hp := new_two hv hu
  have hk' := hk.here (Only.alloc (.cells #[v, u] 22)) (fun _ h => h)
  have e : [x, y].flatten = x ++ y := by simp
  refine ⟨fun hf ht => ?_, ?_⟩
  · have h := sMac_any hk' hp (fun _ h => h) (by omega) (by rw [e, List.length_append]; omega) (by simp) (hf.alloc _) (ht.alloc _)
    rw [e] at h
    exact h.mono fun e w' ⟨he, h2⟩ => ⟨he, (Only.alloc _).trans h2⟩
  · have h := rMac_any hk' hp (fun _ h => h) (by omega) (by rw [e, List.length_append]; omega) (by simp)
    rw [e] at h
    exact h.mono fun e w' ⟨he, h2⟩ => ⟨he, (Only.alloc _).trans h2⟩

set_option maxRecDepth 100000 in
set_option maxHeartbeats 4000000 in
theorem shaSums_any {w : World} {S : Nat → Prop} {v0 v1 v2 : Value} {key x y : List UInt8} (h0 : BytesAt w S v0 key) (h1 : BytesAt w S v1 x) (h2 : BytesAt w S v2 y) (l0 : key.length ≤ 140737488355328) (l1 : x.length ≤ 140737488355328) (l2 : y.length ≤ 140737488355328) (hS : ∀ k, S k → k < w.heap.size) (hf : Fst w) (ht : Tab w) :
    Calls Tryd.prog 3 #[v0, v1, v2] w fun e w' => e = .returned (.bool true) ∧ Only (fun _ => False) w w' := by
  have HAL := Lib.hid (alive_any hf ht)
  have H0 := Lib.hid h0; have H1 := Lib.hid h1; have H2 := Lib.hid h2; have HS := Lib.hid hS; have HF := Lib.hid hf; have HT := Lib.hid ht
  obtain ⟨a0, c0, rfl⟩ := h0.shape
  obtain ⟨a1, c1, rfl⟩ := h1.shape
  obtain ⟨a2, c2, rfl⟩ := h2.shape
  have HLG : Hid (∀ w1, Only (fun _ => False) w w1 → Calls Tryd.prog 10 #[.slice (some ⟨w1.heap.size, 0, none⟩) 3 3] (w1.alloc (.cells #[.slice a0 key.length c0, .slice a1 x.length c1, .slice a2 y.length c2] 22)) fun e w' => e = .returned (.bool (decide (65536 < key.length + x.length + y.length))) ∧ w1.alloc (.cells #[.slice a0 key.length c0, .slice a1 x.length c1, .slice a2 y.length c2] 22) = w') := by
    intro w1 ho
    have ho' := ho.trans (Only.alloc (.cells #[.slice a0 key.length c0, .slice a1 x.length c1, .slice a2 y.length c2] 22))
    have h := large_any (parts3 (Blk.new w1 [.slice a0 key.length c0, .slice a1 x.length c1, .slice a2 y.length c2] 22) (h0.only ho' hS (fun _ _ x => x)) (h1.only ho' hS (fun _ _ x => x)) (h2.only ho' hS (fun _ _ x => x)) (fun k hk => Nat.lt_of_lt_of_le (hS k hk) ho'.size)) (by
      intro p hp
      simp at hp
      rcases hp with rfl | rfl | rfl
      · exact l0
      · exact l1
      · exact l2) (by simp)
    have e : tot [key, x, y] = key.length + x.length + y.length := by simp [tot]; omega
    rw [e] at h
    exact h
  clear h0 h1 h2 hS hf ht
  by_cases hbig : 65536 < key.length + x.length + y.length
  · have hd : decide (65536 < key.length + x.length + y.length) = true := decide_eq_true hbig
    rw [hd] at HLG
    clear hd
    go_enter Tryd.func3, Tryd.ntmps3
    go_wp2_with (first
      | (go_at_call 9; refine HAL.out.mono ?_; rintro e w1 ⟨rfl, ho1⟩; have HO1 := Lib.hid ho1; have HLW := Lib.hid (HLG.out w1 ho1); clear ho1)
      | (go_at_call 10; refine HLW.out.mono ?_; rintro e w' ⟨rfl, rfl⟩))
    go_ret
    exact ⟨rfl, HO1.out.trans (Only.alloc _)⟩
  · have hd : decide (65536 < key.length + x.length + y.length) = false := decide_eq_false hbig
    rw [hd] at HLG
    have q0 : key.length ≤ 65536 := by omega
    have q1 : x.length ≤ 65536 := by omega
    have q2 : y.length ≤ 65536 := by omega
    clear hd l0 l1 l2 hbig
    obtain ⟨D, hD⟩ : ∃ D, Sh.sum (x ++ y) = D := ⟨_, rfl⟩
    obtain ⟨M, hM⟩ : ∃ M, Sh.mac key (x ++ y) = M := ⟨_, rfl⟩
    obtain ⟨Z, hZ⟩ : ∃ Z, Sh.sum [] = Z := ⟨_, rfl⟩
    have hDl : D.length = 32 := by rw [← hD]; exact sum_len _
    have hMl : M.length = 32 := by rw [← hM]; exact mac_len _ _
    have hZl : Z.length = 32 := by rw [← hZ]; exact sum_len _
    have HD := Lib.hid hD; have HM := Lib.hid hM; have HZ := Lib.hid hZ
    have HQ : Hid (key.length ≤ 1048576 ∧ x.length ≤ 1048576 ∧ y.length ≤ 1048576) := Lib.hid ⟨by omega, by omega, by omega⟩
    have hgd2 := dig_guard2
    have hqD := dig_eql hDl
    have hqM := dig_eql hMl
    have hqZ := dig_eql hZl
    clear hD hM hZ hDl hMl hZl
    go_enter Tryd.func3, Tryd.ntmps3
    go_wp2_with (first
      | (go_at_call 9; refine HAL.out.mono ?_; rintro e w1 ⟨rfl, ho1⟩; have HO1 := Lib.hid (ho1.trans (Only.alloc (.cells #[.slice a0 key.length c0, .slice a1 x.length c1, .slice a2 y.length c2] 22))); have HLW := Lib.hid (HLG.out w1 ho1); clear ho1)
      | (go_at_call 10; refine HLW.out.mono ?_; rintro e w' ⟨rfl, rfl⟩))
    refine (copy_any (H0.out.here HO1.out HS.out) (fun _ h => h) HQ.out.1).mono ?_
    rintro e w2 ⟨g0, d0, rfl, hc0, hg0, ho2⟩
    have ho2' := HO1.out.trans ho2
    have HO2 := Lib.hid ho2'; have HC0 := Lib.hid hc0
    clear hc0 hg0 ho2 ho2' HLW HLG HAL HO1
    go_wp2_with fail
    refine (copy_any (H1.out.here HO2.out HS.out) (fun _ h => h) HQ.out.2.1).mono ?_
    rintro e w3 ⟨g1, d1, rfl, hc1, hg1, ho3⟩
    have ho3' := HO2.out.trans ho3
    have HC03 := Lib.hid (HC0.out.only ho3 (fun x => x))
    have HO3 := Lib.hid ho3'; have HC1 := Lib.hid hc1
    clear hc1 hg1 ho3 ho3' HO2 HC0
    go_wp2_with fail
    refine (copy_any (H2.out.here HO3.out HS.out) (fun _ h => h) HQ.out.2.2).mono ?_
    rintro e w4 ⟨g2, d2, rfl, hc2, hg2, ho4⟩
    have ho4' := HO3.out.trans ho4
    have HC04 := Lib.hid (HC03.out.only ho4 (fun x => x))
    have HC14 := Lib.hid (HC1.out.only ho4 (fun x => x))
    have HO4 := Lib.hid ho4'; have HC24 := Lib.hid hc2
    clear hc2 hg2 ho4 ho4' HO3 HC03 HC1
    have HSS : Hid (∀ w5, Only (fun _ => False) w4 w5 → (Calls Tryd.prog 12 #[.slice (some ⟨w5.heap.size, 0, none⟩) 2 2] (w5.alloc (.cells #[.slice (some ⟨g1, 0, none⟩) x.length d1, .slice (some ⟨g2, 0, none⟩) y.length d2] 22)) fun e w' => e = .returned (digV D) ∧ Only (fun _ => False) w5 w')) := by
      intro w5 ho
      have ho' := HO4.out.trans ho
      have := (two_sums (HC14.out.here ho) (HC24.out.here ho) q1 q2).1 (HF.out.only ho' (fun x => x)) (HT.out.only ho' (fun x => x))
      rwa [HD.out] at this
    have HRS : Hid (∀ w5, Only (fun _ => False) w4 w5 → (Calls Tryd.prog 13 #[.slice (some ⟨w5.heap.size, 0, none⟩) 2 2] (w5.alloc (.cells #[.slice a1 x.length c1, .slice a2 y.length c2] 22)) fun e w' => e = .returned (digV D) ∧ Only (fun _ => False) w5 w')) := by
      intro w5 ho
      have ho' := HO4.out.trans ho
      have := (two_sums (H1.out.here ho' HS.out) (H2.out.here ho' HS.out) q1 q2).2
      rwa [HD.out] at this
    have HSM : Hid (∀ w5, Only (fun _ => False) w4 w5 → (Calls Tryd.prog 14 #[.slice (some ⟨g0, 0, none⟩) key.length d0, .slice (some ⟨w5.heap.size, 0, none⟩) 2 2] (w5.alloc (.cells #[.slice (some ⟨g1, 0, none⟩) x.length d1, .slice (some ⟨g2, 0, none⟩) y.length d2] 22)) fun e w' => e = .returned (digV M) ∧ Only (fun _ => False) w5 w')) := by
      intro w5 ho
      have ho' := HO4.out.trans ho
      have := (two_macs (HC04.out.here ho) (HC14.out.here ho) (HC24.out.here ho) q0 q1 q2).1 (HF.out.only ho' (fun x => x)) (HT.out.only ho' (fun x => x))
      rwa [HM.out] at this
    have HRM : Hid (∀ w5, Only (fun _ => False) w4 w5 → (Calls Tryd.prog 15 #[.slice a0 key.length c0, .slice (some ⟨w5.heap.size, 0, none⟩) 2 2] (w5.alloc (.cells #[.slice a1 x.length c1, .slice a2 y.length c2] 22)) fun e w' => e = .returned (digV M) ∧ Only (fun _ => False) w5 w')) := by
      intro w5 ho
      have ho' := HO4.out.trans ho
      have := (two_macs (H0.out.here ho' HS.out) (H1.out.here ho' HS.out) (H2.out.here ho' HS.out) q0 q1 q2).2
      rwa [HM.out] at this
    have HSZ : Hid (∀ w5, Only (fun _ => False) w4 w5 → (Calls Tryd.prog 12 #[.slice none 0 0] w5 fun e w' => e = .returned (digV Z) ∧ Only (fun _ => False) w5 w') ∧ (Calls Tryd.prog 13 #[.slice none 0 0] w5 fun e w' => e = .returned (digV Z) ∧ Only (fun _ => False) w5 w')) := by
      intro w5 ho
      have ho' := HO4.out.trans ho
      have a := sSum_any (no_parts w5) (fun _ h => h) (by simp) (by simp) (HF.out.only ho' (fun x => x)) (HT.out.only ho' (fun x => x))
      have b := rSum_any (no_parts w5) (fun _ h => h) (by simp) (by simp)
      rw [List.flatten_nil, HZ.out] at a b
      exact ⟨a, b⟩
    have HKP : Hid (∀ w5, Only (fun _ => False) w4 w5 → (Calls Tryd.prog 16 #[.slice (some ⟨g0, 0, none⟩) key.length d0, .slice a0 key.length c0] w5 fun e w' => e = .returned (.bool true) ∧ w5 = w') ∧ (Calls Tryd.prog 16 #[.slice (some ⟨g1, 0, none⟩) x.length d1, .slice a1 x.length c1] w5 fun e w' => e = .returned (.bool true) ∧ w5 = w') ∧ (Calls Tryd.prog 16 #[.slice (some ⟨g2, 0, none⟩) y.length d2, .slice a2 y.length c2] w5 fun e w' => e = .returned (.bool true) ∧ w5 = w')) := by
      intro w5 ho
      have ho' := HO4.out.trans ho
      exact ⟨kept_any (HC04.out.only ho (fun x => x)) (H0.out.here ho' HS.out) HQ.out.1, kept_any (HC14.out.only ho (fun x => x)) (H1.out.here ho' HS.out) HQ.out.2.1, kept_any (HC24.out.only ho (fun x => x)) (H2.out.here ho' HS.out) HQ.out.2.2⟩
    clear HC04 HC14 HC24 H0 H1 H2 HF HT HS HD HM HZ HQ
    go_wp2_with fail
    refine (HSS.out w4 (Only.refl _ _)).mono ?_
    rintro e w5 ⟨rfl, ho5⟩
    have HO5 := Lib.hid ho5
    clear ho5 HSS
    go_wp2_with fail
    refine (HRS.out w5 HO5.out).mono ?_
    rintro e w6 ⟨rfl, ho6⟩
    have HO6 := Lib.hid (HO5.out.trans ho6)
    clear ho6 HRS HO5
    go_wp2_with fail
    refine (HSM.out w6 HO6.out).mono ?_
    rintro e w7 ⟨rfl, ho7⟩
    have HO7 := Lib.hid (HO6.out.trans ho7)
    clear ho7 HSM HO6
    go_wp2_with fail
    refine (HRM.out w7 HO7.out).mono ?_
    rintro e w8 ⟨rfl, ho8⟩
    have HO8 := Lib.hid (HO7.out.trans ho8)
    clear ho8 HRM HO7
    go_wp2_with fail
    refine (HSZ.out w8 HO8.out).1.mono ?_
    rintro e w9 ⟨rfl, ho9⟩
    have HO9 := Lib.hid (HO8.out.trans ho9)
    clear ho9 HO8
    go_wp2_with fail
    refine (HSZ.out w9 HO9.out).2.mono ?_
    rintro e w10 ⟨rfl, ho10⟩
    have HO10 := Lib.hid (HO9.out.trans ho10)
    clear ho10 HSZ HO9
    have HFIN := Lib.hid (HO4.out.trans HO10.out)
    have HK10 := Lib.hid (HKP.out w10 HO10.out)
    clear HO10 HO4 HKP
    go_wp2_with fail
    refine HK10.out.1.mono ?_
    rintro e w' ⟨rfl, rfl⟩
    go_wp2_with fail
    refine HK10.out.2.1.mono ?_
    rintro e w' ⟨rfl, rfl⟩
    go_wp2_with fail
    refine HK10.out.2.2.mono ?_
    rintro e w' ⟨rfl, rfl⟩
    go_wp2
    go_ret
    exact ⟨rfl, HFIN.out⟩

end Go.Proofs.YtdgaojibfpafnaaDoor
