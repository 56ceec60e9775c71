/- ustar.fits, and Fits of the document. Conditions: texts within the reach. -/
import Derived.Test.YtemfelonfokcnaaUsPath
import Derived.Deep.DeepCutAuto
namespace Go.Proofs.Ytemfelonfokcnaa
open Go.RowKit

theorem empty_or (s : ByteArray) : s = ⟨#[]⟩ ∨ (¬ s.toList = [] ∧ s.toList.isEmpty = false ∧ s.data.toList ≠ []) := by
  by_cases h : s.data.toList = []
  · refine .inl (ByteArray.ext ?_)
    exact Array.toList_inj.1 h
  · refine .inr ⟨by rw [ByteArray.toList_eq]; exact h, ?_, h⟩
    cases hs : s.toList with
    | nil => rw [ByteArray.toList_eq] at hs; exact (h hs).elim
    | cons a b => rfl

theorem hd_cells {w : World} {B : Nat} {h : Hd} {t : TypeId} (hb : Blk w B (hdL h) t) :
    w.cell? ⟨B, 0, none⟩ = some (.string h.path) ∧ w.cell? ⟨B, 1, none⟩ = some (.int .i64 h.mode) ∧ w.cell? ⟨B, 2, none⟩ = some (.int .i64 h.uid) ∧ w.cell? ⟨B, 3, none⟩ = some (.int .i64 h.gid) ∧ w.cell? ⟨B, 4, none⟩ = some (.int .i64 h.size) ∧
      w.cell? ⟨B, 5, none⟩ = some (.int .i64 h.time) ∧ w.cell? ⟨B, 6, none⟩ = some (.int .u8 (h.type.toNat : Int)) ∧ w.cell? ⟨B, 7, none⟩ = some (.string h.link) ∧ ∀ o, w.frozen? ⟨B, o, none⟩ = false :=
  ⟨hb.cell 0, hb.cell 1, hb.cell 2, hb.cell 3, hb.cell 4, hb.cell 5, hb.cell 6, hb.cell 7, fun o => hb.frozen o⟩

/-- What the bytes of a header say. -/
theorem fits_of {h : Hd} {P M U G S T K : Bool} (e0 : Us.okPath h.path.data.toList = P) (e1 : Us.okId h.mode = M) (e2 : Us.okId h.uid = U) (e3 : Us.okId h.gid = G) (e4 : Us.okTime h.size = S) (e5 : Us.okTime h.time = T) (e6 : Us.okKind h = K) :
    Us.fits h = (P && (M && (U && (G && (S && (T && K)))))) := by
  unfold Us.fits
  rw [e0, e1, e2, e3, e4, e5, e6]

set_option maxRecDepth 100000 in
set_option maxHeartbeats 4000000 in
theorem fits_any (h : Hd) (hp : h.path.size ≤ 140737488351232) (w : World) :
    Calls Try.prog 25 #[hdV h] w fun e w' => e = .returned (.bool (Us.fits h)) ∧ Quiet w w' := by
  have HP := Lib.hid (fun W => fitsPath_any h.path hp W)
  have HI := Lib.hid (fun n W => fitsId_any n W)
  have HT := Lib.hid (fun n W => fitsTime_any n W)
  have HK := Lib.hid (fun W => fitsLink_any h.link W)
  have HF := Lib.hid (fun P M U G S T K => @fits_of h P M U G S T K)
  have HOK := Lib.hid (rfl : Us.okKind h = _)
  unfold Us.okKind at HOK
  change Hid (Us.okKind h = _) at HOK
  have HB0 : Hid (Blk (w.alloc (.cells (hdL h).toArray 23)) w.heap.size (hdL h) 23) := Blk.new w _ _
  have HQ0 : Hid (Quiet w (w.alloc (.cells (hdL h).toArray 23))) := Only.alloc _
  obtain ⟨path, mode, uid, gid, size, time, type, link⟩ := h
  obtain ⟨F, hF⟩ : ∃ F, Us.fits ⟨path, mode, uid, gid, size, time, type, link⟩ = F := ⟨_, rfl⟩
  rw [hF]
  have HFF := Lib.hid hF
  clear hF
  unfold hdV
  simp only at HP HI HT HK HF HOK
  clear hp
  cases hP : Us.okPath path.data.toList with
  | false =>
    have hf := HF.out _ _ _ _ _ _ _ hP rfl rfl rfl rfl rfl rfl
    simp only [Bool.false_and] at hf
    have hF := HFF.out.symm.trans hf
    clear hf HFF HF HOK
    subst hF
    go_enter Try.func25, Try.ntmps25
    go_wp2_with (first | (go_at_call 13; refine (HP.out _).mono ?_; rintro e w1 ⟨rfl, hq⟩; have HQ1 := Lib.hid (HQ0.out.trans hq); have HB1 := Lib.hid (HB0.out.keep hq (fun x => x)); obtain ⟨c0, c1, c2, c3, c4, c5, c6, c7, fz⟩ := hd_cells HB1.out; clear hq) | (go_at_call 16; refine (HI.out _ _).mono ?_; rintro e w' ⟨rfl, rfl⟩) | (go_at_call 18; refine (HT.out _ _).mono ?_; rintro e w' ⟨rfl, rfl⟩) | (go_at_call 14; refine (HK.out _).mono ?_; rintro e w2 ⟨rfl, hq2⟩; have HQ2 := Lib.hid (HQ1.out.trans hq2); obtain ⟨d0, d1, d2, d3, d4, d5, d6, d7, dz⟩ := hd_cells (HB1.out.keep hq2 (fun x => x)); clear hq2))
    go_ret
    exact ⟨by simp <;> assumption, HQ1.out⟩
  | true =>
    cases hM : Us.okId mode with
    | false =>
      have hf := HF.out _ _ _ _ _ _ _ hP hM rfl rfl rfl rfl rfl
      simp only [Bool.false_and, Bool.true_and] at hf
      have hF := HFF.out.symm.trans hf
      clear hf HFF HF HOK
      subst hF
      go_enter Try.func25, Try.ntmps25
      go_wp2_with (first | (go_at_call 13; refine (HP.out _).mono ?_; rintro e w1 ⟨rfl, hq⟩; have HQ1 := Lib.hid (HQ0.out.trans hq); have HB1 := Lib.hid (HB0.out.keep hq (fun x => x)); obtain ⟨c0, c1, c2, c3, c4, c5, c6, c7, fz⟩ := hd_cells HB1.out; clear hq) | (go_at_call 16; refine (HI.out _ _).mono ?_; rintro e w' ⟨rfl, rfl⟩) | (go_at_call 18; refine (HT.out _ _).mono ?_; rintro e w' ⟨rfl, rfl⟩) | (go_at_call 14; refine (HK.out _).mono ?_; rintro e w2 ⟨rfl, hq2⟩; have HQ2 := Lib.hid (HQ1.out.trans hq2); obtain ⟨d0, d1, d2, d3, d4, d5, d6, d7, dz⟩ := hd_cells (HB1.out.keep hq2 (fun x => x)); clear hq2))
      go_ret
      exact ⟨by simp <;> assumption, HQ1.out⟩
    | true =>
      cases hU : Us.okId uid with
      | false =>
        have hf := HF.out _ _ _ _ _ _ _ hP hM hU rfl rfl rfl rfl
        simp only [Bool.false_and, Bool.true_and] at hf
        have hF := HFF.out.symm.trans hf
        clear hf HFF HF HOK
        subst hF
        go_enter Try.func25, Try.ntmps25
        go_wp2_with (first | (go_at_call 13; refine (HP.out _).mono ?_; rintro e w1 ⟨rfl, hq⟩; have HQ1 := Lib.hid (HQ0.out.trans hq); have HB1 := Lib.hid (HB0.out.keep hq (fun x => x)); obtain ⟨c0, c1, c2, c3, c4, c5, c6, c7, fz⟩ := hd_cells HB1.out; clear hq) | (go_at_call 16; refine (HI.out _ _).mono ?_; rintro e w' ⟨rfl, rfl⟩) | (go_at_call 18; refine (HT.out _ _).mono ?_; rintro e w' ⟨rfl, rfl⟩) | (go_at_call 14; refine (HK.out _).mono ?_; rintro e w2 ⟨rfl, hq2⟩; have HQ2 := Lib.hid (HQ1.out.trans hq2); obtain ⟨d0, d1, d2, d3, d4, d5, d6, d7, dz⟩ := hd_cells (HB1.out.keep hq2 (fun x => x)); clear hq2))
        go_ret
        exact ⟨by simp <;> assumption, HQ1.out⟩
      | true =>
        cases hG : Us.okId gid with
        | false =>
          have hf := HF.out _ _ _ _ _ _ _ hP hM hU hG rfl rfl rfl
          simp only [Bool.false_and, Bool.true_and] at hf
          have hF := HFF.out.symm.trans hf
          clear hf HFF HF HOK
          subst hF
          go_enter Try.func25, Try.ntmps25
          go_wp2_with (first | (go_at_call 13; refine (HP.out _).mono ?_; rintro e w1 ⟨rfl, hq⟩; have HQ1 := Lib.hid (HQ0.out.trans hq); have HB1 := Lib.hid (HB0.out.keep hq (fun x => x)); obtain ⟨c0, c1, c2, c3, c4, c5, c6, c7, fz⟩ := hd_cells HB1.out; clear hq) | (go_at_call 16; refine (HI.out _ _).mono ?_; rintro e w' ⟨rfl, rfl⟩) | (go_at_call 18; refine (HT.out _ _).mono ?_; rintro e w' ⟨rfl, rfl⟩) | (go_at_call 14; refine (HK.out _).mono ?_; rintro e w2 ⟨rfl, hq2⟩; have HQ2 := Lib.hid (HQ1.out.trans hq2); obtain ⟨d0, d1, d2, d3, d4, d5, d6, d7, dz⟩ := hd_cells (HB1.out.keep hq2 (fun x => x)); clear hq2))
          go_ret
          exact ⟨by simp <;> assumption, HQ1.out⟩
        | true =>
          cases hS : Us.okTime size with
          | false =>
            have hf := HF.out _ _ _ _ _ _ _ hP hM hU hG hS rfl rfl
            simp only [Bool.false_and, Bool.true_and] at hf
            have hF := HFF.out.symm.trans hf
            clear hf HFF HF HOK
            subst hF
            go_enter Try.func25, Try.ntmps25
            go_wp2_with (first | (go_at_call 13; refine (HP.out _).mono ?_; rintro e w1 ⟨rfl, hq⟩; have HQ1 := Lib.hid (HQ0.out.trans hq); have HB1 := Lib.hid (HB0.out.keep hq (fun x => x)); obtain ⟨c0, c1, c2, c3, c4, c5, c6, c7, fz⟩ := hd_cells HB1.out; clear hq) | (go_at_call 16; refine (HI.out _ _).mono ?_; rintro e w' ⟨rfl, rfl⟩) | (go_at_call 18; refine (HT.out _ _).mono ?_; rintro e w' ⟨rfl, rfl⟩) | (go_at_call 14; refine (HK.out _).mono ?_; rintro e w2 ⟨rfl, hq2⟩; have HQ2 := Lib.hid (HQ1.out.trans hq2); obtain ⟨d0, d1, d2, d3, d4, d5, d6, d7, dz⟩ := hd_cells (HB1.out.keep hq2 (fun x => x)); clear hq2))
            go_ret
            exact ⟨by simp <;> assumption, HQ1.out⟩
          | true =>
            cases hT : Us.okTime time with
            | false =>
              have hf := HF.out _ _ _ _ _ _ _ hP hM hU hG hS hT rfl
              simp only [Bool.false_and, Bool.true_and] at hf
              have hF := HFF.out.symm.trans hf
              clear hf HFF HF HOK
              subst hF
              go_enter Try.func25, Try.ntmps25
              go_wp2_with (first | (go_at_call 13; refine (HP.out _).mono ?_; rintro e w1 ⟨rfl, hq⟩; have HQ1 := Lib.hid (HQ0.out.trans hq); have HB1 := Lib.hid (HB0.out.keep hq (fun x => x)); obtain ⟨c0, c1, c2, c3, c4, c5, c6, c7, fz⟩ := hd_cells HB1.out; clear hq) | (go_at_call 16; refine (HI.out _ _).mono ?_; rintro e w' ⟨rfl, rfl⟩) | (go_at_call 18; refine (HT.out _ _).mono ?_; rintro e w' ⟨rfl, rfl⟩) | (go_at_call 14; refine (HK.out _).mono ?_; rintro e w2 ⟨rfl, hq2⟩; have HQ2 := Lib.hid (HQ1.out.trans hq2); obtain ⟨d0, d1, d2, d3, d4, d5, d6, d7, dz⟩ := hd_cells (HB1.out.keep hq2 (fun x => x)); clear hq2))
              go_ret
              exact ⟨by simp <;> assumption, HQ1.out⟩
            | true =>
              have hf := HF.out _ _ _ _ _ _ _ hP hM hU hG hS hT HOK.out
              simp only [Bool.true_and] at hf
              have hF := HFF.out.symm.trans hf
              clear hf HFF HF HOK
              by_cases y48 : type = 48
              · subst y48
                rcases empty_or link with rfl | ⟨n1, n2, n3⟩
                · have hv : F = true := by rw [hF]; simp
                  clear hF
                  subst hv
                  go_enter Try.func25, Try.ntmps25
                  go_wp2_with (first | (go_at_call 13; refine (HP.out _).mono ?_; rintro e w1 ⟨rfl, hq⟩; have HQ1 := Lib.hid (HQ0.out.trans hq); have HB1 := Lib.hid (HB0.out.keep hq (fun x => x)); obtain ⟨c0, c1, c2, c3, c4, c5, c6, c7, fz⟩ := hd_cells HB1.out; clear hq) | (go_at_call 16; refine (HI.out _ _).mono ?_; rintro e w' ⟨rfl, rfl⟩) | (go_at_call 18; refine (HT.out _ _).mono ?_; rintro e w' ⟨rfl, rfl⟩) | (go_at_call 14; refine (HK.out _).mono ?_; rintro e w2 ⟨rfl, hq2⟩; have HQ2 := Lib.hid (HQ1.out.trans hq2); obtain ⟨d0, d1, d2, d3, d4, d5, d6, d7, dz⟩ := hd_cells (HB1.out.keep hq2 (fun x => x)); clear hq2))
                  go_ret
                  exact ⟨by simp <;> assumption, HQ1.out⟩
                · have hv : F = false := by rw [hF]; simp [n3]
                  clear hF n3
                  subst hv
                  go_enter Try.func25, Try.ntmps25
                  go_wp2_with (first | (go_at_call 13; refine (HP.out _).mono ?_; rintro e w1 ⟨rfl, hq⟩; have HQ1 := Lib.hid (HQ0.out.trans hq); have HB1 := Lib.hid (HB0.out.keep hq (fun x => x)); obtain ⟨c0, c1, c2, c3, c4, c5, c6, c7, fz⟩ := hd_cells HB1.out; clear hq) | (go_at_call 16; refine (HI.out _ _).mono ?_; rintro e w' ⟨rfl, rfl⟩) | (go_at_call 18; refine (HT.out _ _).mono ?_; rintro e w' ⟨rfl, rfl⟩) | (go_at_call 14; refine (HK.out _).mono ?_; rintro e w2 ⟨rfl, hq2⟩; have HQ2 := Lib.hid (HQ1.out.trans hq2); obtain ⟨d0, d1, d2, d3, d4, d5, d6, d7, dz⟩ := hd_cells (HB1.out.keep hq2 (fun x => x)); clear hq2))
                  go_ret
                  exact ⟨by simp <;> assumption, HQ1.out⟩
              · skip
                by_cases y120 : type = 120
                · subst y120
                  rcases empty_or link with rfl | ⟨n1, n2, n3⟩
                  · have hv : F = true := by rw [hF]; simp
                    clear hF
                    subst hv
                    go_enter Try.func25, Try.ntmps25
                    go_wp2_with (first | (go_at_call 13; refine (HP.out _).mono ?_; rintro e w1 ⟨rfl, hq⟩; have HQ1 := Lib.hid (HQ0.out.trans hq); have HB1 := Lib.hid (HB0.out.keep hq (fun x => x)); obtain ⟨c0, c1, c2, c3, c4, c5, c6, c7, fz⟩ := hd_cells HB1.out; clear hq) | (go_at_call 16; refine (HI.out _ _).mono ?_; rintro e w' ⟨rfl, rfl⟩) | (go_at_call 18; refine (HT.out _ _).mono ?_; rintro e w' ⟨rfl, rfl⟩) | (go_at_call 14; refine (HK.out _).mono ?_; rintro e w2 ⟨rfl, hq2⟩; have HQ2 := Lib.hid (HQ1.out.trans hq2); obtain ⟨d0, d1, d2, d3, d4, d5, d6, d7, dz⟩ := hd_cells (HB1.out.keep hq2 (fun x => x)); clear hq2))
                    go_ret
                    exact ⟨by simp <;> assumption, HQ1.out⟩
                  · have hv : F = false := by rw [hF]; simp [n3]
                    clear hF n3
                    subst hv
                    go_enter Try.func25, Try.ntmps25
                    go_wp2_with (first | (go_at_call 13; refine (HP.out _).mono ?_; rintro e w1 ⟨rfl, hq⟩; have HQ1 := Lib.hid (HQ0.out.trans hq); have HB1 := Lib.hid (HB0.out.keep hq (fun x => x)); obtain ⟨c0, c1, c2, c3, c4, c5, c6, c7, fz⟩ := hd_cells HB1.out; clear hq) | (go_at_call 16; refine (HI.out _ _).mono ?_; rintro e w' ⟨rfl, rfl⟩) | (go_at_call 18; refine (HT.out _ _).mono ?_; rintro e w' ⟨rfl, rfl⟩) | (go_at_call 14; refine (HK.out _).mono ?_; rintro e w2 ⟨rfl, hq2⟩; have HQ2 := Lib.hid (HQ1.out.trans hq2); obtain ⟨d0, d1, d2, d3, d4, d5, d6, d7, dz⟩ := hd_cells (HB1.out.keep hq2 (fun x => x)); clear hq2))
                    go_ret
                    exact ⟨by simp <;> assumption, HQ1.out⟩
                · skip
                  by_cases y49 : type = 49
                  · subst y49
                    cases hL : Us.okLink link.data.toList with
                    | false =>
                      have hv : F = false := by rw [hF]; simp [hL]
                      clear hF
                      subst hv
                      go_enter Try.func25, Try.ntmps25
                      go_wp2_with (first | (go_at_call 13; refine (HP.out _).mono ?_; rintro e w1 ⟨rfl, hq⟩; have HQ1 := Lib.hid (HQ0.out.trans hq); have HB1 := Lib.hid (HB0.out.keep hq (fun x => x)); obtain ⟨c0, c1, c2, c3, c4, c5, c6, c7, fz⟩ := hd_cells HB1.out; clear hq) | (go_at_call 16; refine (HI.out _ _).mono ?_; rintro e w' ⟨rfl, rfl⟩) | (go_at_call 18; refine (HT.out _ _).mono ?_; rintro e w' ⟨rfl, rfl⟩) | (go_at_call 14; refine (HK.out _).mono ?_; rintro e w2 ⟨rfl, hq2⟩; have HQ2 := Lib.hid (HQ1.out.trans hq2); obtain ⟨d0, d1, d2, d3, d4, d5, d6, d7, dz⟩ := hd_cells (HB1.out.keep hq2 (fun x => x)); clear hq2))
                      go_ret
                      exact ⟨by simp <;> assumption, HQ2.out⟩
                    | true =>
                      by_cases z : size = 0
                      · have hv : F = true := by rw [hF]; simp [hL, z]
                        clear hF
                        subst hv z
                        go_enter Try.func25, Try.ntmps25
                        go_wp2_with (first | (go_at_call 13; refine (HP.out _).mono ?_; rintro e w1 ⟨rfl, hq⟩; have HQ1 := Lib.hid (HQ0.out.trans hq); have HB1 := Lib.hid (HB0.out.keep hq (fun x => x)); obtain ⟨c0, c1, c2, c3, c4, c5, c6, c7, fz⟩ := hd_cells HB1.out; clear hq) | (go_at_call 16; refine (HI.out _ _).mono ?_; rintro e w' ⟨rfl, rfl⟩) | (go_at_call 18; refine (HT.out _ _).mono ?_; rintro e w' ⟨rfl, rfl⟩) | (go_at_call 14; refine (HK.out _).mono ?_; rintro e w2 ⟨rfl, hq2⟩; have HQ2 := Lib.hid (HQ1.out.trans hq2); obtain ⟨d0, d1, d2, d3, d4, d5, d6, d7, dz⟩ := hd_cells (HB1.out.keep hq2 (fun x => x)); clear hq2))
                        go_ret
                        exact ⟨by simp <;> assumption, HQ2.out⟩
                      · have hv : F = false := by rw [hF]; simp [hL, z]
                        clear hF
                        subst hv
                        go_enter Try.func25, Try.ntmps25
                        go_wp2_with (first | (go_at_call 13; refine (HP.out _).mono ?_; rintro e w1 ⟨rfl, hq⟩; have HQ1 := Lib.hid (HQ0.out.trans hq); have HB1 := Lib.hid (HB0.out.keep hq (fun x => x)); obtain ⟨c0, c1, c2, c3, c4, c5, c6, c7, fz⟩ := hd_cells HB1.out; clear hq) | (go_at_call 16; refine (HI.out _ _).mono ?_; rintro e w' ⟨rfl, rfl⟩) | (go_at_call 18; refine (HT.out _ _).mono ?_; rintro e w' ⟨rfl, rfl⟩) | (go_at_call 14; refine (HK.out _).mono ?_; rintro e w2 ⟨rfl, hq2⟩; have HQ2 := Lib.hid (HQ1.out.trans hq2); obtain ⟨d0, d1, d2, d3, d4, d5, d6, d7, dz⟩ := hd_cells (HB1.out.keep hq2 (fun x => x)); clear hq2))
                        go_ret
                        exact ⟨by simp <;> assumption, HQ2.out⟩
                  · skip
                    by_cases y50 : type = 50
                    · subst y50
                      cases hL : Us.okLink link.data.toList with
                      | false =>
                        have hv : F = false := by rw [hF]; simp [hL]
                        clear hF
                        subst hv
                        go_enter Try.func25, Try.ntmps25
                        go_wp2_with (first | (go_at_call 13; refine (HP.out _).mono ?_; rintro e w1 ⟨rfl, hq⟩; have HQ1 := Lib.hid (HQ0.out.trans hq); have HB1 := Lib.hid (HB0.out.keep hq (fun x => x)); obtain ⟨c0, c1, c2, c3, c4, c5, c6, c7, fz⟩ := hd_cells HB1.out; clear hq) | (go_at_call 16; refine (HI.out _ _).mono ?_; rintro e w' ⟨rfl, rfl⟩) | (go_at_call 18; refine (HT.out _ _).mono ?_; rintro e w' ⟨rfl, rfl⟩) | (go_at_call 14; refine (HK.out _).mono ?_; rintro e w2 ⟨rfl, hq2⟩; have HQ2 := Lib.hid (HQ1.out.trans hq2); obtain ⟨d0, d1, d2, d3, d4, d5, d6, d7, dz⟩ := hd_cells (HB1.out.keep hq2 (fun x => x)); clear hq2))
                        go_ret
                        exact ⟨by simp <;> assumption, HQ2.out⟩
                      | true =>
                        by_cases z : size = 0
                        · have hv : F = true := by rw [hF]; simp [hL, z]
                          clear hF
                          subst hv z
                          go_enter Try.func25, Try.ntmps25
                          go_wp2_with (first | (go_at_call 13; refine (HP.out _).mono ?_; rintro e w1 ⟨rfl, hq⟩; have HQ1 := Lib.hid (HQ0.out.trans hq); have HB1 := Lib.hid (HB0.out.keep hq (fun x => x)); obtain ⟨c0, c1, c2, c3, c4, c5, c6, c7, fz⟩ := hd_cells HB1.out; clear hq) | (go_at_call 16; refine (HI.out _ _).mono ?_; rintro e w' ⟨rfl, rfl⟩) | (go_at_call 18; refine (HT.out _ _).mono ?_; rintro e w' ⟨rfl, rfl⟩) | (go_at_call 14; refine (HK.out _).mono ?_; rintro e w2 ⟨rfl, hq2⟩; have HQ2 := Lib.hid (HQ1.out.trans hq2); obtain ⟨d0, d1, d2, d3, d4, d5, d6, d7, dz⟩ := hd_cells (HB1.out.keep hq2 (fun x => x)); clear hq2))
                          go_ret
                          exact ⟨by simp <;> assumption, HQ2.out⟩
                        · have hv : F = false := by rw [hF]; simp [hL, z]
                          clear hF
                          subst hv
                          go_enter Try.func25, Try.ntmps25
                          go_wp2_with (first | (go_at_call 13; refine (HP.out _).mono ?_; rintro e w1 ⟨rfl, hq⟩; have HQ1 := Lib.hid (HQ0.out.trans hq); have HB1 := Lib.hid (HB0.out.keep hq (fun x => x)); obtain ⟨c0, c1, c2, c3, c4, c5, c6, c7, fz⟩ := hd_cells HB1.out; clear hq) | (go_at_call 16; refine (HI.out _ _).mono ?_; rintro e w' ⟨rfl, rfl⟩) | (go_at_call 18; refine (HT.out _ _).mono ?_; rintro e w' ⟨rfl, rfl⟩) | (go_at_call 14; refine (HK.out _).mono ?_; rintro e w2 ⟨rfl, hq2⟩; have HQ2 := Lib.hid (HQ1.out.trans hq2); obtain ⟨d0, d1, d2, d3, d4, d5, d6, d7, dz⟩ := hd_cells (HB1.out.keep hq2 (fun x => x)); clear hq2))
                          go_ret
                          exact ⟨by simp <;> assumption, HQ2.out⟩
                    · skip
                      by_cases y53 : type = 53
                      · subst y53
                        rcases empty_or link with rfl | ⟨n1, n2, n3⟩
                        · by_cases z : size = 0
                          · have hv : F = true := by rw [hF]; simp [z]
                            clear hF
                            subst hv z
                            go_enter Try.func25, Try.ntmps25
                            go_wp2_with (first | (go_at_call 13; refine (HP.out _).mono ?_; rintro e w1 ⟨rfl, hq⟩; have HQ1 := Lib.hid (HQ0.out.trans hq); have HB1 := Lib.hid (HB0.out.keep hq (fun x => x)); obtain ⟨c0, c1, c2, c3, c4, c5, c6, c7, fz⟩ := hd_cells HB1.out; clear hq) | (go_at_call 16; refine (HI.out _ _).mono ?_; rintro e w' ⟨rfl, rfl⟩) | (go_at_call 18; refine (HT.out _ _).mono ?_; rintro e w' ⟨rfl, rfl⟩) | (go_at_call 14; refine (HK.out _).mono ?_; rintro e w2 ⟨rfl, hq2⟩; have HQ2 := Lib.hid (HQ1.out.trans hq2); obtain ⟨d0, d1, d2, d3, d4, d5, d6, d7, dz⟩ := hd_cells (HB1.out.keep hq2 (fun x => x)); clear hq2))
                            go_ret
                            exact ⟨by simp <;> assumption, HQ1.out⟩
                          · have hv : F = false := by rw [hF]; simp [z]
                            clear hF
                            subst hv
                            go_enter Try.func25, Try.ntmps25
                            go_wp2_with (first | (go_at_call 13; refine (HP.out _).mono ?_; rintro e w1 ⟨rfl, hq⟩; have HQ1 := Lib.hid (HQ0.out.trans hq); have HB1 := Lib.hid (HB0.out.keep hq (fun x => x)); obtain ⟨c0, c1, c2, c3, c4, c5, c6, c7, fz⟩ := hd_cells HB1.out; clear hq) | (go_at_call 16; refine (HI.out _ _).mono ?_; rintro e w' ⟨rfl, rfl⟩) | (go_at_call 18; refine (HT.out _ _).mono ?_; rintro e w' ⟨rfl, rfl⟩) | (go_at_call 14; refine (HK.out _).mono ?_; rintro e w2 ⟨rfl, hq2⟩; have HQ2 := Lib.hid (HQ1.out.trans hq2); obtain ⟨d0, d1, d2, d3, d4, d5, d6, d7, dz⟩ := hd_cells (HB1.out.keep hq2 (fun x => x)); clear hq2))
                            go_ret
                            exact ⟨by simp <;> assumption, HQ1.out⟩
                        · have hv : F = false := by rw [hF]; simp [n3]
                          clear hF n3
                          subst hv
                          go_enter Try.func25, Try.ntmps25
                          go_wp2_with (first | (go_at_call 13; refine (HP.out _).mono ?_; rintro e w1 ⟨rfl, hq⟩; have HQ1 := Lib.hid (HQ0.out.trans hq); have HB1 := Lib.hid (HB0.out.keep hq (fun x => x)); obtain ⟨c0, c1, c2, c3, c4, c5, c6, c7, fz⟩ := hd_cells HB1.out; clear hq) | (go_at_call 16; refine (HI.out _ _).mono ?_; rintro e w' ⟨rfl, rfl⟩) | (go_at_call 18; refine (HT.out _ _).mono ?_; rintro e w' ⟨rfl, rfl⟩) | (go_at_call 14; refine (HK.out _).mono ?_; rintro e w2 ⟨rfl, hq2⟩; have HQ2 := Lib.hid (HQ1.out.trans hq2); obtain ⟨d0, d1, d2, d3, d4, d5, d6, d7, dz⟩ := hd_cells (HB1.out.keep hq2 (fun x => x)); clear hq2))
                          go_ret
                          exact ⟨by simp <;> assumption, HQ1.out⟩
                      · skip
                        have x48 : ¬ (type.toNat : Int) = 48 := fun e => y48 (by rw [← UInt8.toNat_inj]; exact Int.ofNat.inj e)
                        have x120 : ¬ (type.toNat : Int) = 120 := fun e => y120 (by rw [← UInt8.toNat_inj]; exact Int.ofNat.inj e)
                        have x49 : ¬ (type.toNat : Int) = 49 := fun e => y49 (by rw [← UInt8.toNat_inj]; exact Int.ofNat.inj e)
                        have x50 : ¬ (type.toNat : Int) = 50 := fun e => y50 (by rw [← UInt8.toNat_inj]; exact Int.ofNat.inj e)
                        have x53 : ¬ (type.toNat : Int) = 53 := fun e => y53 (by rw [← UInt8.toNat_inj]; exact Int.ofNat.inj e)
                        have hv : F = false := by rw [hF]; simp [y48, y120, y49, y50, y53]
                        clear hF
                        subst hv
                        clear y48 y120 y49 y50 y53
                        go_enter Try.func25, Try.ntmps25
                        go_wp2_with (first | (go_at_call 13; refine (HP.out _).mono ?_; rintro e w1 ⟨rfl, hq⟩; have HQ1 := Lib.hid (HQ0.out.trans hq); have HB1 := Lib.hid (HB0.out.keep hq (fun x => x)); obtain ⟨c0, c1, c2, c3, c4, c5, c6, c7, fz⟩ := hd_cells HB1.out; clear hq) | (go_at_call 16; refine (HI.out _ _).mono ?_; rintro e w' ⟨rfl, rfl⟩) | (go_at_call 18; refine (HT.out _ _).mono ?_; rintro e w' ⟨rfl, rfl⟩) | (go_at_call 14; refine (HK.out _).mono ?_; rintro e w2 ⟨rfl, hq2⟩; have HQ2 := Lib.hid (HQ1.out.trans hq2); obtain ⟨d0, d1, d2, d3, d4, d5, d6, d7, dz⟩ := hd_cells (HB1.out.keep hq2 (fun x => x)); clear hq2))
                        go_ret
                        exact ⟨by simp <;> assumption, HQ1.out⟩

end Go.Proofs.Ytemfelonfokcnaa
