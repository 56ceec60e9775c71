/- Whatever the list of entries: the law TreeChecks (Check answers the place and the error that the document's own Check answers, and touches nothing of the list) returns true, and its argument reads as before; the two tables of unicode/utf8 are as their texts lay them (tied). Conditions: none. -/
import Derived.Test.YtikkfmmdgicigaaDoorMTreeC
import Derived.Test.YtikkfmmdgicigaaDoorPaArgs
import Derived.Test.YtikkfmmdgicigaaDoorTrArgs
import Derived.Test.YtikkfmmdgicigaaDoorTie
import Derived.Test.YtikkfmmdgicigaaDoorCards
import Derived.SevenTiedAt

namespace Go.Proofs.YtikkfmmdgicigaaDoor
open Go.RowKit

theorem num_errV (n : Nat) (w : World) : Calls Tryd.prog 14 #[errV n] w fun e w' => e = .returned (.int .i64 n) ∧ Only (fun _ => False) w w' := by
  by_cases h : n = 0
  · subst h
    exact (num_nil w).mono fun e w' h => ⟨h.1, by rw [← h.2]; exact Only.refl _ _⟩
  · rw [errV_pos h]
    exact (num_err n w h).mono fun e w' h => ⟨h.1, by rw [← h.2]; exact Only.refl _ _⟩

set_option maxRecDepth 100000 in
set_option maxHeartbeats 1000000 in
theorem tcheck_big {w : World} {v : Value} {xs : List Ve} (h : EntsAt w (fun k => k < w.heap.size) v xs) (hn : xs.length ≤ 9223372036854775807) (hbig : 200 < xs.length) :
    Calls Tryd.prog 12 #[v] w fun e w' => e = .returned (.tuple #[.int .i64 (Tr.check (ens xs)).1, errV (Tr.check (ens xs)).2]) ∧ Only (fun _ => False) w w' := by
  obtain ⟨a, c, rfl⟩ := h.shape
  have e : Tr.check (ens xs) = (((xs.length : Nat) : Int), 19) := by unfold Tr.check; rw [ens_len, if_pos hbig]
  rw [e, show errV 19 = .iface 36 (.int .i64 19) from rfl]
  have q : (200 : Int) < (xs.length : Nat) := by omega
  clear h
  go_enter Tryd.func12, Tryd.ntmps12
  go_wp2_with fail
  go_ret2
  exact ⟨rfl, Only.refl _ _⟩
theorem tcheck_both {w : World} (hU : U8 w) {v : Value} {xs : List Ve} (h : EntsAt w (fun k => k < w.heap.size) v xs) (hf : xs.length ≤ 200 → Fit xs) (hn : xs.length ≤ 9223372036854775807) :
    Calls Tryd.prog 12 #[v] w fun e w' => e = .returned (.tuple #[.int .i64 (Tr.check (ens xs)).1, errV (Tr.check (ens xs)).2]) ∧ Only (fun _ => False) w w' := by
  by_cases hb : 200 < xs.length
  · exact tcheck_big h hn hb
  · exact tcheck_any hU h (hf (by omega)) hn
theorem fit_of_ens {xs zs : List Ve} (he : ens zs = ens xs) (h : Fit xs) : Fit zs := fun z hz => by
  have h1 : z.2 ∈ ens xs := by rw [← he]; exact List.mem_map_of_mem hz
  obtain ⟨x, hx, h2⟩ := List.mem_map.1 h1
  rw [← h2]
  exact h x hx

set_option maxRecDepth 100000 in
set_option maxHeartbeats 4000000 in
theorem treeChecks_any {w : World} {va : Value} {xs : List Ve} (ha : EntsAt w (fun k => k < w.heap.size) va xs) (hfa : ∀ x ∈ xs, ArgFit x) (hna : xs.length * 96 ≤ 140737488351232) (hU : U8 w) :
    Calls Tryd.prog 3 #[va] w fun e w' => e = .returned (.bool true) ∧ Only (fun _ => False) w w' := by
  obtain ⟨aa, ac, rfl⟩ := ha.shape
  have HA := Lib.hid ha; have HFA := Lib.hid hfa; have HU := Lib.hid hU
  have hal := alive9_any hU
  clear ha hfa hU
  go_enter Tryd.func3, Tryd.ntmps3
  go_wp2_with fail
  refine hal.mono ?_
  rintro e w1 ⟨rfl, ho1⟩
  have HO1 := Lib.hid ho1
  clear hal ho1
  go_wp2_with fail
  refine (large9_any (HA.out.quiet HO1.out) HFA.out (by omega)).mono ?_
  rintro e w2 ⟨ba1, rfl, hsa, ho2⟩
  have HO2 := Lib.hid (HO1.out.trans ho2); have HSA := Lib.hid hsa
  clear ho2 hsa
  have HDL : Hid (∀ x ∈ xs, x.2.data.length ≤ 140737488351232) := fun x hx => (HFA.out x hx).2.2
  cases ba1 with
  | true =>
    by_cases hl : xs.length ≤ 200
    · have q : (xs.length : Int) ≤ 200 := by omega
      go_wp2_with fail
      go_ret
      exact ⟨rfl, HO2.out⟩
    · have q : ¬ (xs.length : Int) ≤ 200 := by omega
      have HFIT : Hid (xs.length ≤ 200 → Fit xs) := fun h => absurd h hl
      go_wp2_with fail
      refine (mine9_any (HA.out.quiet HO2.out) HDL.out hna).mono ?_
      rintro e w3 ⟨G, cm, zs, rfl, hm, hzl, hze, ho3⟩
      have HO3 := Lib.hid (HO2.out.trans ho3); have HM := Lib.hid hm; have HZL := Lib.hid hzl; have HZE := Lib.hid hze
      clear hm hzl hze ho3
      have HTC : Hid (Calls Tryd.prog 12 #[.slice (some ⟨G, 0, none⟩) xs.length cm] w3 fun e w' => e = .returned (.tuple #[.int .i64 (Tr.check (ens xs)).1, errV (Tr.check (ens xs)).2]) ∧ Only (fun _ => False) w3 w') := by
        have h1 := HM.out.ents
        have h2 := tcheck_both (HU.out.quiet HO3.out) h1 (fun h => fit_of_ens HZE.out (HFIT.out (by rw [← HZL.out]; exact h))) (by rw [HZL.out]; omega)
        rw [HZL.out, HZE.out] at h2
        exact h2
      have HRC : Hid (∀ W, Only (fun _ => False) w W → Calls Tryd.prog 13 #[.slice aa xs.length ac] W fun e w' => e = .returned (.tuple #[.int .i64 (Tr.check (ens xs)).1, .int .i64 ((Tr.check (ens xs)).2 : Nat)]) ∧ Only (fun _ => False) W w') := fun W ho => r9check_any (HA.out.quiet ho) HFIT.out (by omega)
      have HNU : Hid (∀ W, Calls Tryd.prog 14 #[errV (Tr.check (ens xs)).2] W fun e w' => e = .returned (.int .i64 ((Tr.check (ens xs)).2 : Nat)) ∧ Only (fun _ => False) W w') := fun W => num_errV _ W
      generalize (Tr.check (ens xs)).1 = C1 at HTC HRC
      generalize (Tr.check (ens xs)).2 = C2 at HTC HRC HNU
      generalize errV C2 = EV at HTC HNU
      go_wp2_with fail
      refine HTC.out.mono ?_
      rintro e w4 ⟨rfl, ho4⟩
      have HO4 := Lib.hid (HO3.out.trans ho4); have H34 := Lib.hid ho4
      clear ho4 HTC
      go_wp2_with fail
      refine (HRC.out _ HO4.out).mono ?_
      rintro e w5 ⟨rfl, ho5⟩
      have HO5 := Lib.hid (HO4.out.trans ho5); have H35 := Lib.hid (H34.out.trans ho5)
      clear ho5 HRC
      go_wp2_with fail
      refine (HNU.out _).mono ?_
      rintro e w6 ⟨rfl, ho6⟩
      have HO6 := Lib.hid (HO5.out.trans ho6); have H36 := Lib.hid (H35.out.trans ho6)
      clear ho6 HNU
      go_wp2_with fail
      refine (kept9_any (HM.out.quiet H36.out) HZL.out HZE.out (HA.out.quiet HO6.out) HDL.out hna).mono ?_
      rintro e w7 ⟨rfl, ho7⟩
      have HO7 := Lib.hid (HO6.out.trans ho7)
      clear ho7
      go_wp2_with fail
      go_ret
      exact ⟨rfl, HO7.out⟩
  | false =>
    have HFIT : Hid (xs.length ≤ 200 → Fit xs) := fun _ x hx => by
      have h1 := (HSA.out rfl).2 x hx
      exact ⟨by omega, by omega, by omega⟩
    go_wp2_with fail
    refine (mine9_any (HA.out.quiet HO2.out) HDL.out hna).mono ?_
    rintro e w3 ⟨G, cm, zs, rfl, hm, hzl, hze, ho3⟩
    have HO3 := Lib.hid (HO2.out.trans ho3); have HM := Lib.hid hm; have HZL := Lib.hid hzl; have HZE := Lib.hid hze
    clear hm hzl hze ho3
    have HTC : Hid (Calls Tryd.prog 12 #[.slice (some ⟨G, 0, none⟩) xs.length cm] w3 fun e w' => e = .returned (.tuple #[.int .i64 (Tr.check (ens xs)).1, errV (Tr.check (ens xs)).2]) ∧ Only (fun _ => False) w3 w') := by
      have h1 := HM.out.ents
      have h2 := tcheck_both (HU.out.quiet HO3.out) h1 (fun h => fit_of_ens HZE.out (HFIT.out (by rw [← HZL.out]; exact h))) (by rw [HZL.out]; omega)
      rw [HZL.out, HZE.out] at h2
      exact h2
    have HRC : Hid (∀ W, Only (fun _ => False) w W → Calls Tryd.prog 13 #[.slice aa xs.length ac] W fun e w' => e = .returned (.tuple #[.int .i64 (Tr.check (ens xs)).1, .int .i64 ((Tr.check (ens xs)).2 : Nat)]) ∧ Only (fun _ => False) W w') := fun W ho => r9check_any (HA.out.quiet ho) HFIT.out (by omega)
    have HNU : Hid (∀ W, Calls Tryd.prog 14 #[errV (Tr.check (ens xs)).2] W fun e w' => e = .returned (.int .i64 ((Tr.check (ens xs)).2 : Nat)) ∧ Only (fun _ => False) W w') := fun W => num_errV _ W
    generalize (Tr.check (ens xs)).1 = C1 at HTC HRC
    generalize (Tr.check (ens xs)).2 = C2 at HTC HRC HNU
    generalize errV C2 = EV at HTC HNU
    go_wp2_with fail
    refine HTC.out.mono ?_
    rintro e w4 ⟨rfl, ho4⟩
    have HO4 := Lib.hid (HO3.out.trans ho4); have H34 := Lib.hid ho4
    clear ho4 HTC
    go_wp2_with fail
    refine (HRC.out _ HO4.out).mono ?_
    rintro e w5 ⟨rfl, ho5⟩
    have HO5 := Lib.hid (HO4.out.trans ho5); have H35 := Lib.hid (H34.out.trans ho5)
    clear ho5 HRC
    go_wp2_with fail
    refine (HNU.out _).mono ?_
    rintro e w6 ⟨rfl, ho6⟩
    have HO6 := Lib.hid (HO5.out.trans ho6); have H36 := Lib.hid (H35.out.trans ho6)
    clear ho6 HNU
    go_wp2_with fail
    refine (kept9_any (HM.out.quiet H36.out) HZL.out HZE.out (HA.out.quiet HO6.out) HDL.out hna).mono ?_
    rintro e w7 ⟨rfl, ho7⟩
    have HO7 := Lib.hid (HO6.out.trans ho7)
    clear ho7
    go_wp2_with fail
    go_ret
    exact ⟨rfl, HO7.out⟩

end Go.Proofs.YtikkfmmdgicigaaDoor

namespace Go.Proofs.YtikkfmmdgicigaaDoor
open Go.ChangeShapes Go.WideShapes Go.ChangeAt Go.RowKit
open Go.ChangeMaps (open_string)

set_option maxRecDepth 100000 in
theorem treeChecks_lifted (os : Os) (started : os.Started) (H : Type) (enc : TypeId × Value → H) :
    ReturnsInHanded {} Tryd.checked os 3 .any (fun w args => (Rows.treeChecksSpec.pre enc Tryd.prog Tryd.f3 [] false w args ∧ laidMetH Tryd.prog laidList w) ∧ sizedMet enc Tryd.prog Tryd.f3 (OpenSpec.ofChange Rows.treeChecksSpec) false w args)
      (Rows.treeChecksSpec.post enc Tryd.prog Tryd.f3 false true false false) := by
  refine returnsInHanded_of_change_and (C := Tryd.checked) (X := fun w _ => laidMetH Tryd.prog laidList w) (fun _ _ _ hh h => h.of_heap hh) own_knob started (by kernel_rfl) Tryd.func3
    (ChangeSpec.witness_shaped (enc := enc) (C := Tryd.checked) (os := os) (X := fun w _ => laidMetH Tryd.prog laidList w) false (World.laidAll Tryd.prog os laidList) #[.slice none 0 0] 8 (World.laidAll_os _ _ _) (laid_shaped os) (by kernel_rfl) (by kernel_rfl) (by kernel_rfl) (laid_met os _)) ?_
  intro W base args ds gs before hval0 hW _ hsz hL _
  have hval : ∀ (j : Nat) t v, Tryd.f3.params[j]? = some t → args[j]? = some v → Value.okWide Tryd.prog W .any base t v := hval0
  have hW' := hW
  obtain ⟨p, q, hA0, hV, rfl, hfz, hnd⟩ := hW
  have hA : DataW.TrodAll enc Tryd.prog W 0 (fun _ => true) true Tryd.f3.params.toList args.toList ds p := hA0
  have hsz1 : (DataW.weightsEach Tryd.prog (Tryd.f3.params.toList ++ Rows.treeChecksSpec.plain.varTypes Tryd.prog) (ds ++ gs)).all (· ≤ reachBytes) = true := hsz
  rw [Tryd.params3] at hA hval hsz1
  obtain ⟨v0, d0, rfl, rfl, h0⟩ := trodAll_one hA
  obtain ⟨rfl, rfl⟩ := trodVars_none hV
  have k0 := h0
  have lt0 : ∀ x ∈ p, x.block < W.heap.size := by obtain ⟨m, hm⟩ := k0; exact DataW.trod_lt m _ _ _ hm
  obtain ⟨es0, he0, hf0, hn0⟩ := ents_arg (hval 0 22 v0 rfl rfl) h0 (small_of hsz1 (j := 0) rfl rfl)
  have hU := of_laid hL
  clear hA0 hval0
  refine (treeChecks_any he0 hf0 hn0 hU).mono fun e W' ⟨he, ho⟩ => ?_
  subst he
  have bel : Below W.heap.size W W' := ho.below (Nat.le_refl _) (fun _ _ x => x)
  exact ⟨_, rfl, _, _, _, [], _, [], hW', trodAll_mk1 (shut_bool Tryd.underlying4 _), trodAll_mk1 (Below.trod laid_out (by kernel_rfl) (of_decide_eq_true (by kernel_rfl)) k0 bel lt0), rfl, bel.frame _, fun h => by cases h⟩

theorem treeChecks_holds : Rows.TreeChecksSaid :=
  OpenClaim.holds_of_wide 3 Tryd.f3 rfl rfl rfl rfl rfl rfl rfl ⟨rfl, rfl, rfl, rfl, rfl⟩ rfl rfl rfl rfl rfl (by kernel_rfl) Tryd.func3 (by kernel_rfl)
    (of_decide_eq_true (by kernel_rfl)) (by unfold Func.isWrapper; first | (rw [if_pos (by decide +kernel)]; kernel_rfl) | (rw [if_neg (by decide +kernel)]; exact ⟨rfl, rfl⟩))
    (fun os started H enc _ => treeChecks_lifted os started H enc)

theorem treeChecks_card : Rows.TreeChecksCardSaid :=
  Claim7.holds_tied_plain_at .later [] [.data, .pinned] true Rows.treeChecksCard.stood.harness true
    treeChecks_holds (fun _ h => by cases h) (by kernel_rfl) (fun _ h => by cases h) treeChecks_row_tie rfl ⟨rfl, rfl⟩ (by kernel_rfl) rfl
    (fun f fn hf hfn => by
      obtain rfl : f = 3 := Option.some.inj ((show Tryd.prog.funcNamed "amphora/amphoralaw09.TreeChecks" = some 3 by kernel_rfl).symm.trans hf) |>.symm
      obtain rfl : fn = Tryd.f3 := (Option.some.inj (Tryd.func3.symm.trans hfn)).symm
      exact ⟨by kernel_rfl, fun j t ht => by
        rw [Tryd.params3] at ht
        have hm : t ∈ [22] := by simpa using Array.mem_of_getElem? ht
        have hall : ([22].all fun u => !Tryd.prog.wantsStandIn u) = true := by kernel_rfl
        exact (show Tryd.prog.wantsStandIn t = false by simpa using List.all_eq_true.1 hall t hm)⟩)
    (by kernel_rfl)

end Go.Proofs.YtikkfmmdgicigaaDoor
