/- RabinStreams. Conditions: rows within the reach. -/
import Derived.Test.YtobiajjcnpflgaaRbStrG
import Derived.Test.YtobiajjcnpflgaaRbAlive
namespace Go.Proofs.Ytobiajjcnpflgaa
open Go.RowKit

set_option maxRecDepth 100000 in
set_option maxHeartbeats 8000000 in
theorem rabinStreams_any {w : World} {s : Set7} (h64 : s.P < 18446744073709551616) {S : Nat → Prop} {v : Value} {ps : List (List UInt8)} (hv : PartsAt w S v ps) (hS : ∀ k, S k → k < w.heap.size) (hpl : (∀ p ∈ ps, p.length ≤ 140737488351232) ∧ ps.length ≤ 140737488355328) (tw : Bool) :
    Calls Try.prog 5 #[setV s, v, .bool tw] w fun e w' => e = .returned (.bool true) ∧ Quiet w w' := by
  have HA := Lib.hid alive7_any
  have HV := Lib.hid hv
  have HS := Lib.hid hS
  have HSUM : Hid (∀ W, Quiet w W → Calls Try.prog 21 #[v, .int .i64 1048576] W fun e w' => e = .returned (.int .i64 ((min (tot ps) 1048576 : Nat) : Int)) ∧ W = w') := fun W hq => numSum_any (most := 1048576) (hv.only hq hS (fun _ _ x => x)) (fun p hp => by have := hpl.1 p hp; omega) hpl.2 (Nat.le_refl _)
  obtain ⟨va, vc, rfl, hcp, -⟩ := id hv
  have HB0 : Hid (Blk (w.alloc (.cells #[.int .u64 (s.P : Int), .int .i64 s.W, .int .i64 s.L, .int .i64 s.H, .int .i64 s.B] 24)) w.heap.size (setL s) 24) := Blk.new w (setL s) 24
  have HQ0 : Hid (Quiet w (w.alloc (.cells #[.int .u64 (s.P : Int), .int .i64 s.W, .int .i64 s.L, .int .i64 s.H, .int .i64 s.B] 24))) := Only.alloc _
  unfold setV
  clear hv hS hcp
  by_cases hbig : ps.length > 60
  · have hb : (ps.length : Int) > 60 := by omega
    have hpl2 := hpl.2
    clear hpl
    go_enter Try.func5, Try.ntmps5
    go_wp2_with fail
    refine (HA.out _).mono ?_
    rintro e w1 ⟨rfl, hq⟩
    have HQ1 := Lib.hid (HQ0.out.trans hq)
    clear hq
    go_wp2_with fail
    go_ret
    exact ⟨rfl, HQ1.out⟩
  have hb : ¬ (ps.length : Int) > 60 := by omega
  clear hpl
  by_cases hsum : 16384 < tot ps
  · have hm : ((min (tot ps) 1048576 : Nat) : Int) > 16384 := by omega
    generalize min (tot ps) 1048576 = m at *
    go_enter Try.func5, Try.ntmps5
    go_wp2_with fail
    refine (HA.out _).mono ?_
    rintro e w1 ⟨rfl, hq⟩
    have HQ1 := Lib.hid (HQ0.out.trans hq)
    clear hq
    go_wp2_with fail
    refine (HSUM.out _ HQ1.out).mono ?_
    rintro e w2 ⟨rfl, rfl⟩
    go_wp2_with fail
    go_ret
    exact ⟨rfl, HQ1.out⟩
  have hm : ¬ ((min (tot ps) 1048576 : Nat) : Int) > 16384 := by omega
  have hn60 : ps.length ≤ 60 := by omega
  have ht16 : ps.flatten.length ≤ 16384 := by unfold tot at hsum; omega
  generalize min (tot ps) 1048576 = m at *
  obtain ⟨g0, hg0⟩ : ∃ g0, w.heap.size = g0 := ⟨_, rfl⟩
  clear hsum hbig
  rcases hgd : Rb.good s with _ | _
  · have HC := Lib.hid (fun W => newBad_any h64 hgd W)
    have HK := Lib.hid (fun W => r7check_any s h64 W)
    have HN := Lib.hid (fun W => num_err 11 W (by decide))
    rw [hgd] at HK
    simp only [Bool.false_eq_true, ↓reduceIte] at HK
    unfold setV at HC HK
    rw [hg0] at HB0
    go_enter Try.func5, Try.ntmps5
    go_wp2_with fail
    refine (HA.out _).mono ?_
    rintro e w1 ⟨rfl, hq⟩
    have HQ1 := Lib.hid (HQ0.out.trans hq)
    have HB1 := Lib.hid (HB0.out.keep hq (fun x => x))
    clear hq HB0
    go_wp2_with fail
    refine (HSUM.out _ HQ1.out).mono ?_
    rintro e w2 ⟨rfl, rfl⟩
    obtain ⟨c0, c1, c2, c3, c4⟩ := SetAt.of_blk HB1.out
    go_wp2_with fail
    refine (HC.out _).mono ?_
    rintro e w2 ⟨rfl, hq⟩
    have HQ2 := Lib.hid (HQ1.out.trans hq)
    have HB2 := Lib.hid (HB1.out.keep hq (fun x => x))
    clear hq c0 c1 c2 c3 c4
    have hSET : ∀ W, Only (fun _ => False) w2 W → SetAt W g0 s := fun W ho => SetAt.of_blk (HB2.out.keep ho (fun x => x))
    have c0 : ∀ W, Only (fun _ => False) w2 W → W.cell? ⟨g0, 0, none⟩ = some (.int .u64 (s.P : Int)) := fun W ho => (hSET W ho).c0
    have c1 : ∀ W, Only (fun _ => False) w2 W → W.cell? ⟨g0, 1, none⟩ = some (.int .i64 s.W) := fun W ho => (hSET W ho).c1
    have c2 : ∀ W, Only (fun _ => False) w2 W → W.cell? ⟨g0, 2, none⟩ = some (.int .i64 s.L) := fun W ho => (hSET W ho).c2
    have c3 : ∀ W, Only (fun _ => False) w2 W → W.cell? ⟨g0, 3, none⟩ = some (.int .i64 s.H) := fun W ho => (hSET W ho).c3
    have c4 : ∀ W, Only (fun _ => False) w2 W → W.cell? ⟨g0, 4, none⟩ = some (.int .i64 s.B) := fun W ho => (hSET W ho).c4
    clear hSET
    go_wp2_with fail
    refine wp_region_held_drew (S := fun W => Only (fun _ => False) w2 W) (by kernel_rfl) Only.drew (fun hHeld => ?_)
    refine wpAnyH_take (i := 0) (v := .pointer none) rfl (by kernel_rfl) (by kernel_rfl) (by kernel_rfl) (fun _ _ _ h => h) (Or.inl ⟨by rfl, fun W hSw => by go_simp⟩) hHeld ?_
    try simp only [Act.put, List.getElem_toArray, List.getElem_cons_zero, List.setIfInBounds_toArray, List.set_cons_zero, List.set_cons_succ]
    refine wpAnyH_take (i := 1) (v := .bool true) rfl (by kernel_rfl) (by kernel_rfl) (by kernel_rfl) (fun _ _ _ h => h) (Or.inl ⟨by rfl, fun W hSw => by go_simp⟩) hHeld ?_
    try simp only [Act.put, List.getElem_toArray, List.getElem_cons_succ, List.getElem_cons_zero, List.setIfInBounds_toArray, List.set_cons_zero, List.set_cons_succ]
    refine wpAnyH_take (i := 2) (v := .bool true) rfl (by kernel_rfl) (by kernel_rfl) (by kernel_rfl) (fun _ _ _ h => h) (Or.inl ⟨by rfl, fun W hSw => by go_simp⟩) hHeld ?_
    try simp only [Act.put, List.getElem_toArray, List.getElem_cons_succ, List.getElem_cons_zero, List.setIfInBounds_toArray, List.set_cons_zero, List.set_cons_succ]
    refine wpAnyH_take (i := 3) (v := .iface 43 (.int .i64 11)) rfl (by kernel_rfl) (by kernel_rfl) (by kernel_rfl) (fun _ _ _ h => h) (Or.inl ⟨by rfl, fun W hSw => by go_simp⟩) hHeld ?_
    try simp only [Act.put, List.getElem_toArray, List.getElem_cons_succ, List.getElem_cons_zero, List.setIfInBounds_toArray, List.set_cons_zero, List.set_cons_succ]
    refine wpAnyH_take (i := 5) (v := .agg #[.int .u64 (s.P : Int), .int .i64 s.W, .int .i64 s.L, .int .i64 s.H, .int .i64 s.B]) rfl (by kernel_rfl) (by kernel_rfl) (by kernel_rfl) (fun _ _ _ h => h) (Or.inl ⟨by rfl, fun W hSw => by have z0 := c0 W hSw; have z1 := c1 W hSw; have z2 := c2 W hSw; have z3 := c3 W hSw; have z4 := c4 W hSw; go_simp⟩) hHeld ?_
    try simp only [Act.put, List.getElem_toArray, List.getElem_cons_succ, List.getElem_cons_zero, List.setIfInBounds_toArray, List.set_cons_zero, List.set_cons_succ]
    refine wpAnyH_ready (rs := [4]) (by kernel_rfl) (by simp) (AllReadyH.cons rfl (fun J hJ => ?_) AllReadyH.nil)
    go_simp
    refine (HN.out _).mono ?_
    rintro e w3 ⟨rfl, rfl⟩
    refine hJ.out _ _ hHeld (fun hHeld => ?_)
    clear hJ J
    try simp only [Act.put, List.getElem_toArray, List.getElem_cons_succ, List.getElem_cons_zero, List.setIfInBounds_toArray, List.set_cons_zero, List.set_cons_succ]
    refine wpAnyH_ready (rs := [6]) (by kernel_rfl) (by simp) (AllReadyH.cons rfl (fun J hJ => ?_) AllReadyH.nil)
    go_simp
    refine (HK.out _).mono ?_
    rintro e w4 ⟨rfl, hq⟩
    have HQ4 : Hid (Only (fun _ => False) w2 w4) := Only.trans Only.drew hq
    clear hq
    refine hJ.out _ _ HQ4.out (fun hHeld => ?_)
    clear hJ J
    try simp only [Act.put, List.getElem_toArray, List.getElem_cons_succ, List.getElem_cons_zero, List.setIfInBounds_toArray, List.set_cons_zero, List.set_cons_succ]
    refine wpAnyH_take (i := 7) (v := .bool true) rfl (by kernel_rfl) (by kernel_rfl) (by kernel_rfl) (fun _ _ _ h => h) (Or.inl ⟨by rfl, fun W hSw => by go_simp⟩) hHeld ?_
    try simp only [Act.put, List.getElem_toArray, List.getElem_cons_succ, List.getElem_cons_zero, List.setIfInBounds_toArray, List.set_cons_zero, List.set_cons_succ]
    refine wpAnyH_take (i := 8) (v := .bool true) rfl (by kernel_rfl) (by kernel_rfl) (by kernel_rfl) (fun _ _ _ h => h) (Or.inl ⟨by rfl, fun W hSw => by go_simp⟩) hHeld ?_
    try simp only [Act.put, List.getElem_toArray, List.getElem_cons_succ, List.getElem_cons_zero, List.setIfInBounds_toArray, List.set_cons_zero, List.set_cons_succ]
    refine wpAnyH_take (i := 9) (v := .bool true) rfl (by kernel_rfl) (by kernel_rfl) (by kernel_rfl) (fun _ _ _ h => h) (Or.inl ⟨by rfl, fun W hSw => by go_simp⟩) hHeld ?_
    try simp only [Act.put, List.getElem_toArray, List.getElem_cons_succ, List.getElem_cons_zero, List.setIfInBounds_toArray, List.set_cons_zero, List.set_cons_succ]
    refine wpAnyH_take (i := 10) (v := .iface 43 (.int .i64 11)) rfl (by kernel_rfl) (by kernel_rfl) (by kernel_rfl) (fun _ _ _ h => h) (Or.inl ⟨by rfl, fun W hSw => by go_simp⟩) hHeld ?_
    try simp only [Act.put, List.getElem_toArray, List.getElem_cons_succ, List.getElem_cons_zero, List.setIfInBounds_toArray, List.set_cons_zero, List.set_cons_succ]
    refine wpAnyH_take (i := 11) (v := .bool true) rfl (by kernel_rfl) (by kernel_rfl) (by kernel_rfl) (fun _ _ _ h => h) (Or.inl ⟨by rfl, fun W hSw => by go_simp⟩) hHeld ?_
    try simp only [Act.put, List.getElem_toArray, List.getElem_cons_succ, List.getElem_cons_zero, List.setIfInBounds_toArray, List.set_cons_zero, List.set_cons_succ]
    refine wpAnyH_take (i := 12) (v := .bool true) rfl (by kernel_rfl) (by kernel_rfl) (by kernel_rfl) (fun _ _ _ h => h) (Or.inl ⟨by rfl, fun W hSw => by go_simp⟩) hHeld ?_
    try simp only [Act.put, List.getElem_toArray, List.getElem_cons_succ, List.getElem_cons_zero, List.setIfInBounds_toArray, List.set_cons_zero, List.set_cons_succ]
    refine wpAnyH_ready (rs := [13]) (by kernel_rfl) (by simp) (AllReadyH.cons rfl (fun J hJ => ?_) AllReadyH.nil)
    go_simp
    refine hJ.out _ _ HQ4.out (fun hHeld => ?_)
    clear hJ J
    try simp only [Act.put, List.getElem_toArray, List.getElem_cons_succ, List.getElem_cons_zero, List.setIfInBounds_toArray, List.set_cons_zero, List.set_cons_succ]
    refine wpAnyH_done (by kernel_rfl) ?_ _
    go_wp2_with fail
    go_ret
    exact ⟨rfl, HQ2.out.trans HQ4.out⟩
  obtain ⟨c, hc, rfl⟩ := Rb.good_cfg h64 hgd
  exact streams_good hc HV.out HS.out hn60 ht16 tw

end Go.Proofs.Ytobiajjcnpflgaa
