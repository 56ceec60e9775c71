/- Fits of the document. Conditions: texts within the reach. -/
import Derived.Test.YtemfelonfokcnaaUsFits
namespace Go.Proofs.Ytemfelonfokcnaa
open Go.RowKit

set_option maxRecDepth 100000 in
set_option maxHeartbeats 8000000 in
theorem r10fits_any (h : Hd) (hp : h.path.size ≤ 140737488351232) (hl : h.link.size ≤ 140737488351232) (w : World) :
    Calls Try.prog 30 #[hdV h] w fun e w' => e = .returned (.bool (Us.fits h)) ∧ Quiet w w' := by
  have HP := Lib.hid (fun W => r10path_any h.path hp W)
  have HI := Lib.hid (fun n W => r10id_any n W)
  have HT := Lib.hid (fun n W => r10time_any n W)
  have HK := Lib.hid (fun W => r10link_any h.link hl W)
  have HF := Lib.hid (fun P M U G S T K => @fits_of h P M U G S T K)
  have HOK := Lib.hid (rfl : Us.okKind h = _)
  unfold Us.okKind at HOK
  change Hid (Us.okKind h = _) at HOK
  have HB0 : Hid (Blk (w.alloc (.cells (hdL h).toArray 23)) w.heap.size (hdL h) 23) := Blk.new w _ _
  have HQ0 : Hid (Quiet w (w.alloc (.cells (hdL h).toArray 23))) := Only.alloc _
  obtain ⟨path, mode, uid, gid, size, time, type, link⟩ := h
  obtain ⟨F, hF⟩ : ∃ F, Us.fits ⟨path, mode, uid, gid, size, time, type, link⟩ = F := ⟨_, rfl⟩
  rw [hF]
  have HFF := Lib.hid hF
  clear hF
  unfold hdV
  simp only at HP HI HT HK HF HOK
  clear hp
  cases hP : Us.okPath path.data.toList with
  | false =>
    have hf := HF.out _ _ _ _ _ _ _ hP rfl rfl rfl rfl rfl rfl
    simp only [Bool.false_and] at hf
    have hF := HFF.out.symm.trans hf
    clear hf HFF HF HOK
    subst hF
    clear HK
    by_cases y48 : type = 48
    · subst y48
      go_enter Try.func30, Try.ntmps30
      go_wp2_with (first | (go_at_call 11; refine (HP.out _).mono ?_; rintro e w1 ⟨a, b, rfl, _, hq⟩; have HQ1 := Lib.hid (HQ0.out.trans hq); have HB1 := Lib.hid (HB0.out.keep hq (fun x => x)); obtain ⟨c0, c1, c2, c3, c4, c5, c6, c7, fz⟩ := hd_cells HB1.out; clear hq) | (go_at_call 17; refine (HI.out _ _).mono ?_; rintro e w' ⟨rfl, rfl⟩) | (go_at_call 19; refine (HT.out _ _).mono ?_; rintro e w' ⟨rfl, rfl⟩) | (go_at_call 15; refine (HK.out _).mono ?_; rintro e w' ⟨rfl, rfl⟩))
      go_ret
      exact ⟨by simp <;> assumption, HQ1.out⟩
    · skip
      by_cases y120 : type = 120
      · subst y120
        go_enter Try.func30, Try.ntmps30
        go_wp2_with (first | (go_at_call 11; refine (HP.out _).mono ?_; rintro e w1 ⟨a, b, rfl, _, hq⟩; have HQ1 := Lib.hid (HQ0.out.trans hq); have HB1 := Lib.hid (HB0.out.keep hq (fun x => x)); obtain ⟨c0, c1, c2, c3, c4, c5, c6, c7, fz⟩ := hd_cells HB1.out; clear hq) | (go_at_call 17; refine (HI.out _ _).mono ?_; rintro e w' ⟨rfl, rfl⟩) | (go_at_call 19; refine (HT.out _ _).mono ?_; rintro e w' ⟨rfl, rfl⟩) | (go_at_call 15; refine (HK.out _).mono ?_; rintro e w' ⟨rfl, rfl⟩))
        go_ret
        exact ⟨by simp <;> assumption, HQ1.out⟩
      · skip
        by_cases y49 : type = 49
        · subst y49
          go_enter Try.func30, Try.ntmps30
          go_wp2_with (first | (go_at_call 11; refine (HP.out _).mono ?_; rintro e w1 ⟨a, b, rfl, _, hq⟩; have HQ1 := Lib.hid (HQ0.out.trans hq); have HB1 := Lib.hid (HB0.out.keep hq (fun x => x)); obtain ⟨c0, c1, c2, c3, c4, c5, c6, c7, fz⟩ := hd_cells HB1.out; clear hq) | (go_at_call 17; refine (HI.out _ _).mono ?_; rintro e w' ⟨rfl, rfl⟩) | (go_at_call 19; refine (HT.out _ _).mono ?_; rintro e w' ⟨rfl, rfl⟩) | (go_at_call 15; refine (HK.out _).mono ?_; rintro e w' ⟨rfl, rfl⟩))
          go_ret
          exact ⟨by simp <;> assumption, HQ1.out⟩
        · skip
          by_cases y50 : type = 50
          · subst y50
            go_enter Try.func30, Try.ntmps30
            go_wp2_with (first | (go_at_call 11; refine (HP.out _).mono ?_; rintro e w1 ⟨a, b, rfl, _, hq⟩; have HQ1 := Lib.hid (HQ0.out.trans hq); have HB1 := Lib.hid (HB0.out.keep hq (fun x => x)); obtain ⟨c0, c1, c2, c3, c4, c5, c6, c7, fz⟩ := hd_cells HB1.out; clear hq) | (go_at_call 17; refine (HI.out _ _).mono ?_; rintro e w' ⟨rfl, rfl⟩) | (go_at_call 19; refine (HT.out _ _).mono ?_; rintro e w' ⟨rfl, rfl⟩) | (go_at_call 15; refine (HK.out _).mono ?_; rintro e w' ⟨rfl, rfl⟩))
            go_ret
            exact ⟨by simp <;> assumption, HQ1.out⟩
          · skip
            by_cases y53 : type = 53
            · subst y53
              go_enter Try.func30, Try.ntmps30
              go_wp2_with (first | (go_at_call 11; refine (HP.out _).mono ?_; rintro e w1 ⟨a, b, rfl, _, hq⟩; have HQ1 := Lib.hid (HQ0.out.trans hq); have HB1 := Lib.hid (HB0.out.keep hq (fun x => x)); obtain ⟨c0, c1, c2, c3, c4, c5, c6, c7, fz⟩ := hd_cells HB1.out; clear hq) | (go_at_call 17; refine (HI.out _ _).mono ?_; rintro e w' ⟨rfl, rfl⟩) | (go_at_call 19; refine (HT.out _ _).mono ?_; rintro e w' ⟨rfl, rfl⟩) | (go_at_call 15; refine (HK.out _).mono ?_; rintro e w' ⟨rfl, rfl⟩))
              go_ret
              exact ⟨by simp <;> assumption, HQ1.out⟩
            · skip
              have x48 : ¬ (type.toNat : Int) = 48 := fun e => y48 (by rw [← UInt8.toNat_inj]; exact Int.ofNat.inj e)
              have x120 : ¬ (type.toNat : Int) = 120 := fun e => y120 (by rw [← UInt8.toNat_inj]; exact Int.ofNat.inj e)
              have x49 : ¬ (type.toNat : Int) = 49 := fun e => y49 (by rw [← UInt8.toNat_inj]; exact Int.ofNat.inj e)
              have x50 : ¬ (type.toNat : Int) = 50 := fun e => y50 (by rw [← UInt8.toNat_inj]; exact Int.ofNat.inj e)
              have x53 : ¬ (type.toNat : Int) = 53 := fun e => y53 (by rw [← UInt8.toNat_inj]; exact Int.ofNat.inj e)
              have z48 : ((type.toNat : Int) == 48) = false := by rw [beq_eq_false_iff_ne]; exact x48
              have u48 : ((type.toNat : Int) != 48) = true := by rw [bne, z48]; rfl
              have z120 : ((type.toNat : Int) == 120) = false := by rw [beq_eq_false_iff_ne]; exact x120
              have u120 : ((type.toNat : Int) != 120) = true := by rw [bne, z120]; rfl
              have z49 : ((type.toNat : Int) == 49) = false := by rw [beq_eq_false_iff_ne]; exact x49
              have u49 : ((type.toNat : Int) != 49) = true := by rw [bne, z49]; rfl
              have z50 : ((type.toNat : Int) == 50) = false := by rw [beq_eq_false_iff_ne]; exact x50
              have u50 : ((type.toNat : Int) != 50) = true := by rw [bne, z50]; rfl
              have z53 : ((type.toNat : Int) == 53) = false := by rw [beq_eq_false_iff_ne]; exact x53
              have u53 : ((type.toNat : Int) != 53) = true := by rw [bne, z53]; rfl
              clear y48 y120 y49 y50 y53
              go_enter Try.func30, Try.ntmps30
              go_wp2_with (first | (go_at_call 11; refine (HP.out _).mono ?_; rintro e w1 ⟨a, b, rfl, _, hq⟩; have HQ1 := Lib.hid (HQ0.out.trans hq); have HB1 := Lib.hid (HB0.out.keep hq (fun x => x)); obtain ⟨c0, c1, c2, c3, c4, c5, c6, c7, fz⟩ := hd_cells HB1.out; clear hq) | (go_at_call 17; refine (HI.out _ _).mono ?_; rintro e w' ⟨rfl, rfl⟩) | (go_at_call 19; refine (HT.out _ _).mono ?_; rintro e w' ⟨rfl, rfl⟩) | (go_at_call 15; refine (HK.out _).mono ?_; rintro e w' ⟨rfl, rfl⟩))
              go_ret
              exact ⟨by simp <;> assumption, HQ1.out⟩
  | true =>
    cases hM : Us.okId mode with
    | false =>
      have hf := HF.out _ _ _ _ _ _ _ hP hM rfl rfl rfl rfl rfl
      simp only [Bool.false_and, Bool.true_and] at hf
      have hF := HFF.out.symm.trans hf
      clear hf HFF HF HOK
      subst hF
      clear HK
      by_cases y48 : type = 48
      · subst y48
        go_enter Try.func30, Try.ntmps30
        go_wp2_with (first | (go_at_call 11; refine (HP.out _).mono ?_; rintro e w1 ⟨a, b, rfl, _, hq⟩; have HQ1 := Lib.hid (HQ0.out.trans hq); have HB1 := Lib.hid (HB0.out.keep hq (fun x => x)); obtain ⟨c0, c1, c2, c3, c4, c5, c6, c7, fz⟩ := hd_cells HB1.out; clear hq) | (go_at_call 17; refine (HI.out _ _).mono ?_; rintro e w' ⟨rfl, rfl⟩) | (go_at_call 19; refine (HT.out _ _).mono ?_; rintro e w' ⟨rfl, rfl⟩) | (go_at_call 15; refine (HK.out _).mono ?_; rintro e w' ⟨rfl, rfl⟩))
        go_ret
        exact ⟨by simp <;> assumption, HQ1.out⟩
      · skip
        by_cases y120 : type = 120
        · subst y120
          go_enter Try.func30, Try.ntmps30
          go_wp2_with (first | (go_at_call 11; refine (HP.out _).mono ?_; rintro e w1 ⟨a, b, rfl, _, hq⟩; have HQ1 := Lib.hid (HQ0.out.trans hq); have HB1 := Lib.hid (HB0.out.keep hq (fun x => x)); obtain ⟨c0, c1, c2, c3, c4, c5, c6, c7, fz⟩ := hd_cells HB1.out; clear hq) | (go_at_call 17; refine (HI.out _ _).mono ?_; rintro e w' ⟨rfl, rfl⟩) | (go_at_call 19; refine (HT.out _ _).mono ?_; rintro e w' ⟨rfl, rfl⟩) | (go_at_call 15; refine (HK.out _).mono ?_; rintro e w' ⟨rfl, rfl⟩))
          go_ret
          exact ⟨by simp <;> assumption, HQ1.out⟩
        · skip
          by_cases y49 : type = 49
          · subst y49
            go_enter Try.func30, Try.ntmps30
            go_wp2_with (first | (go_at_call 11; refine (HP.out _).mono ?_; rintro e w1 ⟨a, b, rfl, _, hq⟩; have HQ1 := Lib.hid (HQ0.out.trans hq); have HB1 := Lib.hid (HB0.out.keep hq (fun x => x)); obtain ⟨c0, c1, c2, c3, c4, c5, c6, c7, fz⟩ := hd_cells HB1.out; clear hq) | (go_at_call 17; refine (HI.out _ _).mono ?_; rintro e w' ⟨rfl, rfl⟩) | (go_at_call 19; refine (HT.out _ _).mono ?_; rintro e w' ⟨rfl, rfl⟩) | (go_at_call 15; refine (HK.out _).mono ?_; rintro e w' ⟨rfl, rfl⟩))
            go_ret
            exact ⟨by simp <;> assumption, HQ1.out⟩
          · skip
            by_cases y50 : type = 50
            · subst y50
              go_enter Try.func30, Try.ntmps30
              go_wp2_with (first | (go_at_call 11; refine (HP.out _).mono ?_; rintro e w1 ⟨a, b, rfl, _, hq⟩; have HQ1 := Lib.hid (HQ0.out.trans hq); have HB1 := Lib.hid (HB0.out.keep hq (fun x => x)); obtain ⟨c0, c1, c2, c3, c4, c5, c6, c7, fz⟩ := hd_cells HB1.out; clear hq) | (go_at_call 17; refine (HI.out _ _).mono ?_; rintro e w' ⟨rfl, rfl⟩) | (go_at_call 19; refine (HT.out _ _).mono ?_; rintro e w' ⟨rfl, rfl⟩) | (go_at_call 15; refine (HK.out _).mono ?_; rintro e w' ⟨rfl, rfl⟩))
              go_ret
              exact ⟨by simp <;> assumption, HQ1.out⟩
            · skip
              by_cases y53 : type = 53
              · subst y53
                go_enter Try.func30, Try.ntmps30
                go_wp2_with (first | (go_at_call 11; refine (HP.out _).mono ?_; rintro e w1 ⟨a, b, rfl, _, hq⟩; have HQ1 := Lib.hid (HQ0.out.trans hq); have HB1 := Lib.hid (HB0.out.keep hq (fun x => x)); obtain ⟨c0, c1, c2, c3, c4, c5, c6, c7, fz⟩ := hd_cells HB1.out; clear hq) | (go_at_call 17; refine (HI.out _ _).mono ?_; rintro e w' ⟨rfl, rfl⟩) | (go_at_call 19; refine (HT.out _ _).mono ?_; rintro e w' ⟨rfl, rfl⟩) | (go_at_call 15; refine (HK.out _).mono ?_; rintro e w' ⟨rfl, rfl⟩))
                go_ret
                exact ⟨by simp <;> assumption, HQ1.out⟩
              · skip
                have x48 : ¬ (type.toNat : Int) = 48 := fun e => y48 (by rw [← UInt8.toNat_inj]; exact Int.ofNat.inj e)
                have x120 : ¬ (type.toNat : Int) = 120 := fun e => y120 (by rw [← UInt8.toNat_inj]; exact Int.ofNat.inj e)
                have x49 : ¬ (type.toNat : Int) = 49 := fun e => y49 (by rw [← UInt8.toNat_inj]; exact Int.ofNat.inj e)
                have x50 : ¬ (type.toNat : Int) = 50 := fun e => y50 (by rw [← UInt8.toNat_inj]; exact Int.ofNat.inj e)
                have x53 : ¬ (type.toNat : Int) = 53 := fun e => y53 (by rw [← UInt8.toNat_inj]; exact Int.ofNat.inj e)
                have z48 : ((type.toNat : Int) == 48) = false := by rw [beq_eq_false_iff_ne]; exact x48
                have u48 : ((type.toNat : Int) != 48) = true := by rw [bne, z48]; rfl
                have z120 : ((type.toNat : Int) == 120) = false := by rw [beq_eq_false_iff_ne]; exact x120
                have u120 : ((type.toNat : Int) != 120) = true := by rw [bne, z120]; rfl
                have z49 : ((type.toNat : Int) == 49) = false := by rw [beq_eq_false_iff_ne]; exact x49
                have u49 : ((type.toNat : Int) != 49) = true := by rw [bne, z49]; rfl
                have z50 : ((type.toNat : Int) == 50) = false := by rw [beq_eq_false_iff_ne]; exact x50
                have u50 : ((type.toNat : Int) != 50) = true := by rw [bne, z50]; rfl
                have z53 : ((type.toNat : Int) == 53) = false := by rw [beq_eq_false_iff_ne]; exact x53
                have u53 : ((type.toNat : Int) != 53) = true := by rw [bne, z53]; rfl
                clear y48 y120 y49 y50 y53
                go_enter Try.func30, Try.ntmps30
                go_wp2_with (first | (go_at_call 11; refine (HP.out _).mono ?_; rintro e w1 ⟨a, b, rfl, _, hq⟩; have HQ1 := Lib.hid (HQ0.out.trans hq); have HB1 := Lib.hid (HB0.out.keep hq (fun x => x)); obtain ⟨c0, c1, c2, c3, c4, c5, c6, c7, fz⟩ := hd_cells HB1.out; clear hq) | (go_at_call 17; refine (HI.out _ _).mono ?_; rintro e w' ⟨rfl, rfl⟩) | (go_at_call 19; refine (HT.out _ _).mono ?_; rintro e w' ⟨rfl, rfl⟩) | (go_at_call 15; refine (HK.out _).mono ?_; rintro e w' ⟨rfl, rfl⟩))
                go_ret
                exact ⟨by simp <;> assumption, HQ1.out⟩
    | true =>
      cases hU : Us.okId uid with
      | false =>
        have hf := HF.out _ _ _ _ _ _ _ hP hM hU rfl rfl rfl rfl
        simp only [Bool.false_and, Bool.true_and] at hf
        have hF := HFF.out.symm.trans hf
        clear hf HFF HF HOK
        subst hF
        clear HK
        by_cases y48 : type = 48
        · subst y48
          go_enter Try.func30, Try.ntmps30
          go_wp2_with (first | (go_at_call 11; refine (HP.out _).mono ?_; rintro e w1 ⟨a, b, rfl, _, hq⟩; have HQ1 := Lib.hid (HQ0.out.trans hq); have HB1 := Lib.hid (HB0.out.keep hq (fun x => x)); obtain ⟨c0, c1, c2, c3, c4, c5, c6, c7, fz⟩ := hd_cells HB1.out; clear hq) | (go_at_call 17; refine (HI.out _ _).mono ?_; rintro e w' ⟨rfl, rfl⟩) | (go_at_call 19; refine (HT.out _ _).mono ?_; rintro e w' ⟨rfl, rfl⟩) | (go_at_call 15; refine (HK.out _).mono ?_; rintro e w' ⟨rfl, rfl⟩))
          go_ret
          exact ⟨by simp <;> assumption, HQ1.out⟩
        · skip
          by_cases y120 : type = 120
          · subst y120
            go_enter Try.func30, Try.ntmps30
            go_wp2_with (first | (go_at_call 11; refine (HP.out _).mono ?_; rintro e w1 ⟨a, b, rfl, _, hq⟩; have HQ1 := Lib.hid (HQ0.out.trans hq); have HB1 := Lib.hid (HB0.out.keep hq (fun x => x)); obtain ⟨c0, c1, c2, c3, c4, c5, c6, c7, fz⟩ := hd_cells HB1.out; clear hq) | (go_at_call 17; refine (HI.out _ _).mono ?_; rintro e w' ⟨rfl, rfl⟩) | (go_at_call 19; refine (HT.out _ _).mono ?_; rintro e w' ⟨rfl, rfl⟩) | (go_at_call 15; refine (HK.out _).mono ?_; rintro e w' ⟨rfl, rfl⟩))
            go_ret
            exact ⟨by simp <;> assumption, HQ1.out⟩
          · skip
            by_cases y49 : type = 49
            · subst y49
              go_enter Try.func30, Try.ntmps30
              go_wp2_with (first | (go_at_call 11; refine (HP.out _).mono ?_; rintro e w1 ⟨a, b, rfl, _, hq⟩; have HQ1 := Lib.hid (HQ0.out.trans hq); have HB1 := Lib.hid (HB0.out.keep hq (fun x => x)); obtain ⟨c0, c1, c2, c3, c4, c5, c6, c7, fz⟩ := hd_cells HB1.out; clear hq) | (go_at_call 17; refine (HI.out _ _).mono ?_; rintro e w' ⟨rfl, rfl⟩) | (go_at_call 19; refine (HT.out _ _).mono ?_; rintro e w' ⟨rfl, rfl⟩) | (go_at_call 15; refine (HK.out _).mono ?_; rintro e w' ⟨rfl, rfl⟩))
              go_ret
              exact ⟨by simp <;> assumption, HQ1.out⟩
            · skip
              by_cases y50 : type = 50
              · subst y50
                go_enter Try.func30, Try.ntmps30
                go_wp2_with (first | (go_at_call 11; refine (HP.out _).mono ?_; rintro e w1 ⟨a, b, rfl, _, hq⟩; have HQ1 := Lib.hid (HQ0.out.trans hq); have HB1 := Lib.hid (HB0.out.keep hq (fun x => x)); obtain ⟨c0, c1, c2, c3, c4, c5, c6, c7, fz⟩ := hd_cells HB1.out; clear hq) | (go_at_call 17; refine (HI.out _ _).mono ?_; rintro e w' ⟨rfl, rfl⟩) | (go_at_call 19; refine (HT.out _ _).mono ?_; rintro e w' ⟨rfl, rfl⟩) | (go_at_call 15; refine (HK.out _).mono ?_; rintro e w' ⟨rfl, rfl⟩))
                go_ret
                exact ⟨by simp <;> assumption, HQ1.out⟩
              · skip
                by_cases y53 : type = 53
                · subst y53
                  go_enter Try.func30, Try.ntmps30
                  go_wp2_with (first | (go_at_call 11; refine (HP.out _).mono ?_; rintro e w1 ⟨a, b, rfl, _, hq⟩; have HQ1 := Lib.hid (HQ0.out.trans hq); have HB1 := Lib.hid (HB0.out.keep hq (fun x => x)); obtain ⟨c0, c1, c2, c3, c4, c5, c6, c7, fz⟩ := hd_cells HB1.out; clear hq) | (go_at_call 17; refine (HI.out _ _).mono ?_; rintro e w' ⟨rfl, rfl⟩) | (go_at_call 19; refine (HT.out _ _).mono ?_; rintro e w' ⟨rfl, rfl⟩) | (go_at_call 15; refine (HK.out _).mono ?_; rintro e w' ⟨rfl, rfl⟩))
                  go_ret
                  exact ⟨by simp <;> assumption, HQ1.out⟩
                · skip
                  have x48 : ¬ (type.toNat : Int) = 48 := fun e => y48 (by rw [← UInt8.toNat_inj]; exact Int.ofNat.inj e)
                  have x120 : ¬ (type.toNat : Int) = 120 := fun e => y120 (by rw [← UInt8.toNat_inj]; exact Int.ofNat.inj e)
                  have x49 : ¬ (type.toNat : Int) = 49 := fun e => y49 (by rw [← UInt8.toNat_inj]; exact Int.ofNat.inj e)
                  have x50 : ¬ (type.toNat : Int) = 50 := fun e => y50 (by rw [← UInt8.toNat_inj]; exact Int.ofNat.inj e)
                  have x53 : ¬ (type.toNat : Int) = 53 := fun e => y53 (by rw [← UInt8.toNat_inj]; exact Int.ofNat.inj e)
                  have z48 : ((type.toNat : Int) == 48) = false := by rw [beq_eq_false_iff_ne]; exact x48
                  have u48 : ((type.toNat : Int) != 48) = true := by rw [bne, z48]; rfl
                  have z120 : ((type.toNat : Int) == 120) = false := by rw [beq_eq_false_iff_ne]; exact x120
                  have u120 : ((type.toNat : Int) != 120) = true := by rw [bne, z120]; rfl
                  have z49 : ((type.toNat : Int) == 49) = false := by rw [beq_eq_false_iff_ne]; exact x49
                  have u49 : ((type.toNat : Int) != 49) = true := by rw [bne, z49]; rfl
                  have z50 : ((type.toNat : Int) == 50) = false := by rw [beq_eq_false_iff_ne]; exact x50
                  have u50 : ((type.toNat : Int) != 50) = true := by rw [bne, z50]; rfl
                  have z53 : ((type.toNat : Int) == 53) = false := by rw [beq_eq_false_iff_ne]; exact x53
                  have u53 : ((type.toNat : Int) != 53) = true := by rw [bne, z53]; rfl
                  clear y48 y120 y49 y50 y53
                  go_enter Try.func30, Try.ntmps30
                  go_wp2_with (first | (go_at_call 11; refine (HP.out _).mono ?_; rintro e w1 ⟨a, b, rfl, _, hq⟩; have HQ1 := Lib.hid (HQ0.out.trans hq); have HB1 := Lib.hid (HB0.out.keep hq (fun x => x)); obtain ⟨c0, c1, c2, c3, c4, c5, c6, c7, fz⟩ := hd_cells HB1.out; clear hq) | (go_at_call 17; refine (HI.out _ _).mono ?_; rintro e w' ⟨rfl, rfl⟩) | (go_at_call 19; refine (HT.out _ _).mono ?_; rintro e w' ⟨rfl, rfl⟩) | (go_at_call 15; refine (HK.out _).mono ?_; rintro e w' ⟨rfl, rfl⟩))
                  go_ret
                  exact ⟨by simp <;> assumption, HQ1.out⟩
      | true =>
        cases hG : Us.okId gid with
        | false =>
          have hf := HF.out _ _ _ _ _ _ _ hP hM hU hG rfl rfl rfl
          simp only [Bool.false_and, Bool.true_and] at hf
          have hF := HFF.out.symm.trans hf
          clear hf HFF HF HOK
          subst hF
          clear HK
          by_cases y48 : type = 48
          · subst y48
            go_enter Try.func30, Try.ntmps30
            go_wp2_with (first | (go_at_call 11; refine (HP.out _).mono ?_; rintro e w1 ⟨a, b, rfl, _, hq⟩; have HQ1 := Lib.hid (HQ0.out.trans hq); have HB1 := Lib.hid (HB0.out.keep hq (fun x => x)); obtain ⟨c0, c1, c2, c3, c4, c5, c6, c7, fz⟩ := hd_cells HB1.out; clear hq) | (go_at_call 17; refine (HI.out _ _).mono ?_; rintro e w' ⟨rfl, rfl⟩) | (go_at_call 19; refine (HT.out _ _).mono ?_; rintro e w' ⟨rfl, rfl⟩) | (go_at_call 15; refine (HK.out _).mono ?_; rintro e w' ⟨rfl, rfl⟩))
            go_ret
            exact ⟨by simp <;> assumption, HQ1.out⟩
          · skip
            by_cases y120 : type = 120
            · subst y120
              go_enter Try.func30, Try.ntmps30
              go_wp2_with (first | (go_at_call 11; refine (HP.out _).mono ?_; rintro e w1 ⟨a, b, rfl, _, hq⟩; have HQ1 := Lib.hid (HQ0.out.trans hq); have HB1 := Lib.hid (HB0.out.keep hq (fun x => x)); obtain ⟨c0, c1, c2, c3, c4, c5, c6, c7, fz⟩ := hd_cells HB1.out; clear hq) | (go_at_call 17; refine (HI.out _ _).mono ?_; rintro e w' ⟨rfl, rfl⟩) | (go_at_call 19; refine (HT.out _ _).mono ?_; rintro e w' ⟨rfl, rfl⟩) | (go_at_call 15; refine (HK.out _).mono ?_; rintro e w' ⟨rfl, rfl⟩))
              go_ret
              exact ⟨by simp <;> assumption, HQ1.out⟩
            · skip
              by_cases y49 : type = 49
              · subst y49
                go_enter Try.func30, Try.ntmps30
                go_wp2_with (first | (go_at_call 11; refine (HP.out _).mono ?_; rintro e w1 ⟨a, b, rfl, _, hq⟩; have HQ1 := Lib.hid (HQ0.out.trans hq); have HB1 := Lib.hid (HB0.out.keep hq (fun x => x)); obtain ⟨c0, c1, c2, c3, c4, c5, c6, c7, fz⟩ := hd_cells HB1.out; clear hq) | (go_at_call 17; refine (HI.out _ _).mono ?_; rintro e w' ⟨rfl, rfl⟩) | (go_at_call 19; refine (HT.out _ _).mono ?_; rintro e w' ⟨rfl, rfl⟩) | (go_at_call 15; refine (HK.out _).mono ?_; rintro e w' ⟨rfl, rfl⟩))
                go_ret
                exact ⟨by simp <;> assumption, HQ1.out⟩
              · skip
                by_cases y50 : type = 50
                · subst y50
                  go_enter Try.func30, Try.ntmps30
                  go_wp2_with (first | (go_at_call 11; refine (HP.out _).mono ?_; rintro e w1 ⟨a, b, rfl, _, hq⟩; have HQ1 := Lib.hid (HQ0.out.trans hq); have HB1 := Lib.hid (HB0.out.keep hq (fun x => x)); obtain ⟨c0, c1, c2, c3, c4, c5, c6, c7, fz⟩ := hd_cells HB1.out; clear hq) | (go_at_call 17; refine (HI.out _ _).mono ?_; rintro e w' ⟨rfl, rfl⟩) | (go_at_call 19; refine (HT.out _ _).mono ?_; rintro e w' ⟨rfl, rfl⟩) | (go_at_call 15; refine (HK.out _).mono ?_; rintro e w' ⟨rfl, rfl⟩))
                  go_ret
                  exact ⟨by simp <;> assumption, HQ1.out⟩
                · skip
                  by_cases y53 : type = 53
                  · subst y53
                    go_enter Try.func30, Try.ntmps30
                    go_wp2_with (first | (go_at_call 11; refine (HP.out _).mono ?_; rintro e w1 ⟨a, b, rfl, _, hq⟩; have HQ1 := Lib.hid (HQ0.out.trans hq); have HB1 := Lib.hid (HB0.out.keep hq (fun x => x)); obtain ⟨c0, c1, c2, c3, c4, c5, c6, c7, fz⟩ := hd_cells HB1.out; clear hq) | (go_at_call 17; refine (HI.out _ _).mono ?_; rintro e w' ⟨rfl, rfl⟩) | (go_at_call 19; refine (HT.out _ _).mono ?_; rintro e w' ⟨rfl, rfl⟩) | (go_at_call 15; refine (HK.out _).mono ?_; rintro e w' ⟨rfl, rfl⟩))
                    go_ret
                    exact ⟨by simp <;> assumption, HQ1.out⟩
                  · skip
                    have x48 : ¬ (type.toNat : Int) = 48 := fun e => y48 (by rw [← UInt8.toNat_inj]; exact Int.ofNat.inj e)
                    have x120 : ¬ (type.toNat : Int) = 120 := fun e => y120 (by rw [← UInt8.toNat_inj]; exact Int.ofNat.inj e)
                    have x49 : ¬ (type.toNat : Int) = 49 := fun e => y49 (by rw [← UInt8.toNat_inj]; exact Int.ofNat.inj e)
                    have x50 : ¬ (type.toNat : Int) = 50 := fun e => y50 (by rw [← UInt8.toNat_inj]; exact Int.ofNat.inj e)
                    have x53 : ¬ (type.toNat : Int) = 53 := fun e => y53 (by rw [← UInt8.toNat_inj]; exact Int.ofNat.inj e)
                    have z48 : ((type.toNat : Int) == 48) = false := by rw [beq_eq_false_iff_ne]; exact x48
                    have u48 : ((type.toNat : Int) != 48) = true := by rw [bne, z48]; rfl
                    have z120 : ((type.toNat : Int) == 120) = false := by rw [beq_eq_false_iff_ne]; exact x120
                    have u120 : ((type.toNat : Int) != 120) = true := by rw [bne, z120]; rfl
                    have z49 : ((type.toNat : Int) == 49) = false := by rw [beq_eq_false_iff_ne]; exact x49
                    have u49 : ((type.toNat : Int) != 49) = true := by rw [bne, z49]; rfl
                    have z50 : ((type.toNat : Int) == 50) = false := by rw [beq_eq_false_iff_ne]; exact x50
                    have u50 : ((type.toNat : Int) != 50) = true := by rw [bne, z50]; rfl
                    have z53 : ((type.toNat : Int) == 53) = false := by rw [beq_eq_false_iff_ne]; exact x53
                    have u53 : ((type.toNat : Int) != 53) = true := by rw [bne, z53]; rfl
                    clear y48 y120 y49 y50 y53
                    go_enter Try.func30, Try.ntmps30
                    go_wp2_with (first | (go_at_call 11; refine (HP.out _).mono ?_; rintro e w1 ⟨a, b, rfl, _, hq⟩; have HQ1 := Lib.hid (HQ0.out.trans hq); have HB1 := Lib.hid (HB0.out.keep hq (fun x => x)); obtain ⟨c0, c1, c2, c3, c4, c5, c6, c7, fz⟩ := hd_cells HB1.out; clear hq) | (go_at_call 17; refine (HI.out _ _).mono ?_; rintro e w' ⟨rfl, rfl⟩) | (go_at_call 19; refine (HT.out _ _).mono ?_; rintro e w' ⟨rfl, rfl⟩) | (go_at_call 15; refine (HK.out _).mono ?_; rintro e w' ⟨rfl, rfl⟩))
                    go_ret
                    exact ⟨by simp <;> assumption, HQ1.out⟩
        | true =>
          cases hS : Us.okTime size with
          | false =>
            have hf := HF.out _ _ _ _ _ _ _ hP hM hU hG hS rfl rfl
            simp only [Bool.false_and, Bool.true_and] at hf
            have hF := HFF.out.symm.trans hf
            clear hf HFF HF HOK
            subst hF
            clear HK
            by_cases y48 : type = 48
            · subst y48
              go_enter Try.func30, Try.ntmps30
              go_wp2_with (first | (go_at_call 11; refine (HP.out _).mono ?_; rintro e w1 ⟨a, b, rfl, _, hq⟩; have HQ1 := Lib.hid (HQ0.out.trans hq); have HB1 := Lib.hid (HB0.out.keep hq (fun x => x)); obtain ⟨c0, c1, c2, c3, c4, c5, c6, c7, fz⟩ := hd_cells HB1.out; clear hq) | (go_at_call 17; refine (HI.out _ _).mono ?_; rintro e w' ⟨rfl, rfl⟩) | (go_at_call 19; refine (HT.out _ _).mono ?_; rintro e w' ⟨rfl, rfl⟩) | (go_at_call 15; refine (HK.out _).mono ?_; rintro e w' ⟨rfl, rfl⟩))
              go_ret
              exact ⟨by simp <;> assumption, HQ1.out⟩
            · skip
              by_cases y120 : type = 120
              · subst y120
                go_enter Try.func30, Try.ntmps30
                go_wp2_with (first | (go_at_call 11; refine (HP.out _).mono ?_; rintro e w1 ⟨a, b, rfl, _, hq⟩; have HQ1 := Lib.hid (HQ0.out.trans hq); have HB1 := Lib.hid (HB0.out.keep hq (fun x => x)); obtain ⟨c0, c1, c2, c3, c4, c5, c6, c7, fz⟩ := hd_cells HB1.out; clear hq) | (go_at_call 17; refine (HI.out _ _).mono ?_; rintro e w' ⟨rfl, rfl⟩) | (go_at_call 19; refine (HT.out _ _).mono ?_; rintro e w' ⟨rfl, rfl⟩) | (go_at_call 15; refine (HK.out _).mono ?_; rintro e w' ⟨rfl, rfl⟩))
                go_ret
                exact ⟨by simp <;> assumption, HQ1.out⟩
              · skip
                by_cases y49 : type = 49
                · subst y49
                  go_enter Try.func30, Try.ntmps30
                  go_wp2_with (first | (go_at_call 11; refine (HP.out _).mono ?_; rintro e w1 ⟨a, b, rfl, _, hq⟩; have HQ1 := Lib.hid (HQ0.out.trans hq); have HB1 := Lib.hid (HB0.out.keep hq (fun x => x)); obtain ⟨c0, c1, c2, c3, c4, c5, c6, c7, fz⟩ := hd_cells HB1.out; clear hq) | (go_at_call 17; refine (HI.out _ _).mono ?_; rintro e w' ⟨rfl, rfl⟩) | (go_at_call 19; refine (HT.out _ _).mono ?_; rintro e w' ⟨rfl, rfl⟩) | (go_at_call 15; refine (HK.out _).mono ?_; rintro e w' ⟨rfl, rfl⟩))
                  go_ret
                  exact ⟨by simp <;> assumption, HQ1.out⟩
                · skip
                  by_cases y50 : type = 50
                  · subst y50
                    go_enter Try.func30, Try.ntmps30
                    go_wp2_with (first | (go_at_call 11; refine (HP.out _).mono ?_; rintro e w1 ⟨a, b, rfl, _, hq⟩; have HQ1 := Lib.hid (HQ0.out.trans hq); have HB1 := Lib.hid (HB0.out.keep hq (fun x => x)); obtain ⟨c0, c1, c2, c3, c4, c5, c6, c7, fz⟩ := hd_cells HB1.out; clear hq) | (go_at_call 17; refine (HI.out _ _).mono ?_; rintro e w' ⟨rfl, rfl⟩) | (go_at_call 19; refine (HT.out _ _).mono ?_; rintro e w' ⟨rfl, rfl⟩) | (go_at_call 15; refine (HK.out _).mono ?_; rintro e w' ⟨rfl, rfl⟩))
                    go_ret
                    exact ⟨by simp <;> assumption, HQ1.out⟩
                  · skip
                    by_cases y53 : type = 53
                    · subst y53
                      go_enter Try.func30, Try.ntmps30
                      go_wp2_with (first | (go_at_call 11; refine (HP.out _).mono ?_; rintro e w1 ⟨a, b, rfl, _, hq⟩; have HQ1 := Lib.hid (HQ0.out.trans hq); have HB1 := Lib.hid (HB0.out.keep hq (fun x => x)); obtain ⟨c0, c1, c2, c3, c4, c5, c6, c7, fz⟩ := hd_cells HB1.out; clear hq) | (go_at_call 17; refine (HI.out _ _).mono ?_; rintro e w' ⟨rfl, rfl⟩) | (go_at_call 19; refine (HT.out _ _).mono ?_; rintro e w' ⟨rfl, rfl⟩) | (go_at_call 15; refine (HK.out _).mono ?_; rintro e w' ⟨rfl, rfl⟩))
                      go_ret
                      exact ⟨by simp <;> assumption, HQ1.out⟩
                    · skip
                      have x48 : ¬ (type.toNat : Int) = 48 := fun e => y48 (by rw [← UInt8.toNat_inj]; exact Int.ofNat.inj e)
                      have x120 : ¬ (type.toNat : Int) = 120 := fun e => y120 (by rw [← UInt8.toNat_inj]; exact Int.ofNat.inj e)
                      have x49 : ¬ (type.toNat : Int) = 49 := fun e => y49 (by rw [← UInt8.toNat_inj]; exact Int.ofNat.inj e)
                      have x50 : ¬ (type.toNat : Int) = 50 := fun e => y50 (by rw [← UInt8.toNat_inj]; exact Int.ofNat.inj e)
                      have x53 : ¬ (type.toNat : Int) = 53 := fun e => y53 (by rw [← UInt8.toNat_inj]; exact Int.ofNat.inj e)
                      have z48 : ((type.toNat : Int) == 48) = false := by rw [beq_eq_false_iff_ne]; exact x48
                      have u48 : ((type.toNat : Int) != 48) = true := by rw [bne, z48]; rfl
                      have z120 : ((type.toNat : Int) == 120) = false := by rw [beq_eq_false_iff_ne]; exact x120
                      have u120 : ((type.toNat : Int) != 120) = true := by rw [bne, z120]; rfl
                      have z49 : ((type.toNat : Int) == 49) = false := by rw [beq_eq_false_iff_ne]; exact x49
                      have u49 : ((type.toNat : Int) != 49) = true := by rw [bne, z49]; rfl
                      have z50 : ((type.toNat : Int) == 50) = false := by rw [beq_eq_false_iff_ne]; exact x50
                      have u50 : ((type.toNat : Int) != 50) = true := by rw [bne, z50]; rfl
                      have z53 : ((type.toNat : Int) == 53) = false := by rw [beq_eq_false_iff_ne]; exact x53
                      have u53 : ((type.toNat : Int) != 53) = true := by rw [bne, z53]; rfl
                      clear y48 y120 y49 y50 y53
                      go_enter Try.func30, Try.ntmps30
                      go_wp2_with (first | (go_at_call 11; refine (HP.out _).mono ?_; rintro e w1 ⟨a, b, rfl, _, hq⟩; have HQ1 := Lib.hid (HQ0.out.trans hq); have HB1 := Lib.hid (HB0.out.keep hq (fun x => x)); obtain ⟨c0, c1, c2, c3, c4, c5, c6, c7, fz⟩ := hd_cells HB1.out; clear hq) | (go_at_call 17; refine (HI.out _ _).mono ?_; rintro e w' ⟨rfl, rfl⟩) | (go_at_call 19; refine (HT.out _ _).mono ?_; rintro e w' ⟨rfl, rfl⟩) | (go_at_call 15; refine (HK.out _).mono ?_; rintro e w' ⟨rfl, rfl⟩))
                      go_ret
                      exact ⟨by simp <;> assumption, HQ1.out⟩
          | true =>
            cases hT : Us.okTime time with
            | false =>
              have hf := HF.out _ _ _ _ _ _ _ hP hM hU hG hS hT rfl
              simp only [Bool.false_and, Bool.true_and] at hf
              have hF := HFF.out.symm.trans hf
              clear hf HFF HF HOK
              subst hF
              clear HK
              by_cases y48 : type = 48
              · subst y48
                go_enter Try.func30, Try.ntmps30
                go_wp2_with (first | (go_at_call 11; refine (HP.out _).mono ?_; rintro e w1 ⟨a, b, rfl, _, hq⟩; have HQ1 := Lib.hid (HQ0.out.trans hq); have HB1 := Lib.hid (HB0.out.keep hq (fun x => x)); obtain ⟨c0, c1, c2, c3, c4, c5, c6, c7, fz⟩ := hd_cells HB1.out; clear hq) | (go_at_call 17; refine (HI.out _ _).mono ?_; rintro e w' ⟨rfl, rfl⟩) | (go_at_call 19; refine (HT.out _ _).mono ?_; rintro e w' ⟨rfl, rfl⟩) | (go_at_call 15; refine (HK.out _).mono ?_; rintro e w' ⟨rfl, rfl⟩))
                go_ret
                exact ⟨by simp <;> assumption, HQ1.out⟩
              · skip
                by_cases y120 : type = 120
                · subst y120
                  go_enter Try.func30, Try.ntmps30
                  go_wp2_with (first | (go_at_call 11; refine (HP.out _).mono ?_; rintro e w1 ⟨a, b, rfl, _, hq⟩; have HQ1 := Lib.hid (HQ0.out.trans hq); have HB1 := Lib.hid (HB0.out.keep hq (fun x => x)); obtain ⟨c0, c1, c2, c3, c4, c5, c6, c7, fz⟩ := hd_cells HB1.out; clear hq) | (go_at_call 17; refine (HI.out _ _).mono ?_; rintro e w' ⟨rfl, rfl⟩) | (go_at_call 19; refine (HT.out _ _).mono ?_; rintro e w' ⟨rfl, rfl⟩) | (go_at_call 15; refine (HK.out _).mono ?_; rintro e w' ⟨rfl, rfl⟩))
                  go_ret
                  exact ⟨by simp <;> assumption, HQ1.out⟩
                · skip
                  by_cases y49 : type = 49
                  · subst y49
                    go_enter Try.func30, Try.ntmps30
                    go_wp2_with (first | (go_at_call 11; refine (HP.out _).mono ?_; rintro e w1 ⟨a, b, rfl, _, hq⟩; have HQ1 := Lib.hid (HQ0.out.trans hq); have HB1 := Lib.hid (HB0.out.keep hq (fun x => x)); obtain ⟨c0, c1, c2, c3, c4, c5, c6, c7, fz⟩ := hd_cells HB1.out; clear hq) | (go_at_call 17; refine (HI.out _ _).mono ?_; rintro e w' ⟨rfl, rfl⟩) | (go_at_call 19; refine (HT.out _ _).mono ?_; rintro e w' ⟨rfl, rfl⟩) | (go_at_call 15; refine (HK.out _).mono ?_; rintro e w' ⟨rfl, rfl⟩))
                    go_ret
                    exact ⟨by simp <;> assumption, HQ1.out⟩
                  · skip
                    by_cases y50 : type = 50
                    · subst y50
                      go_enter Try.func30, Try.ntmps30
                      go_wp2_with (first | (go_at_call 11; refine (HP.out _).mono ?_; rintro e w1 ⟨a, b, rfl, _, hq⟩; have HQ1 := Lib.hid (HQ0.out.trans hq); have HB1 := Lib.hid (HB0.out.keep hq (fun x => x)); obtain ⟨c0, c1, c2, c3, c4, c5, c6, c7, fz⟩ := hd_cells HB1.out; clear hq) | (go_at_call 17; refine (HI.out _ _).mono ?_; rintro e w' ⟨rfl, rfl⟩) | (go_at_call 19; refine (HT.out _ _).mono ?_; rintro e w' ⟨rfl, rfl⟩) | (go_at_call 15; refine (HK.out _).mono ?_; rintro e w' ⟨rfl, rfl⟩))
                      go_ret
                      exact ⟨by simp <;> assumption, HQ1.out⟩
                    · skip
                      by_cases y53 : type = 53
                      · subst y53
                        go_enter Try.func30, Try.ntmps30
                        go_wp2_with (first | (go_at_call 11; refine (HP.out _).mono ?_; rintro e w1 ⟨a, b, rfl, _, hq⟩; have HQ1 := Lib.hid (HQ0.out.trans hq); have HB1 := Lib.hid (HB0.out.keep hq (fun x => x)); obtain ⟨c0, c1, c2, c3, c4, c5, c6, c7, fz⟩ := hd_cells HB1.out; clear hq) | (go_at_call 17; refine (HI.out _ _).mono ?_; rintro e w' ⟨rfl, rfl⟩) | (go_at_call 19; refine (HT.out _ _).mono ?_; rintro e w' ⟨rfl, rfl⟩) | (go_at_call 15; refine (HK.out _).mono ?_; rintro e w' ⟨rfl, rfl⟩))
                        go_ret
                        exact ⟨by simp <;> assumption, HQ1.out⟩
                      · skip
                        have x48 : ¬ (type.toNat : Int) = 48 := fun e => y48 (by rw [← UInt8.toNat_inj]; exact Int.ofNat.inj e)
                        have x120 : ¬ (type.toNat : Int) = 120 := fun e => y120 (by rw [← UInt8.toNat_inj]; exact Int.ofNat.inj e)
                        have x49 : ¬ (type.toNat : Int) = 49 := fun e => y49 (by rw [← UInt8.toNat_inj]; exact Int.ofNat.inj e)
                        have x50 : ¬ (type.toNat : Int) = 50 := fun e => y50 (by rw [← UInt8.toNat_inj]; exact Int.ofNat.inj e)
                        have x53 : ¬ (type.toNat : Int) = 53 := fun e => y53 (by rw [← UInt8.toNat_inj]; exact Int.ofNat.inj e)
                        have z48 : ((type.toNat : Int) == 48) = false := by rw [beq_eq_false_iff_ne]; exact x48
                        have u48 : ((type.toNat : Int) != 48) = true := by rw [bne, z48]; rfl
                        have z120 : ((type.toNat : Int) == 120) = false := by rw [beq_eq_false_iff_ne]; exact x120
                        have u120 : ((type.toNat : Int) != 120) = true := by rw [bne, z120]; rfl
                        have z49 : ((type.toNat : Int) == 49) = false := by rw [beq_eq_false_iff_ne]; exact x49
                        have u49 : ((type.toNat : Int) != 49) = true := by rw [bne, z49]; rfl
                        have z50 : ((type.toNat : Int) == 50) = false := by rw [beq_eq_false_iff_ne]; exact x50
                        have u50 : ((type.toNat : Int) != 50) = true := by rw [bne, z50]; rfl
                        have z53 : ((type.toNat : Int) == 53) = false := by rw [beq_eq_false_iff_ne]; exact x53
                        have u53 : ((type.toNat : Int) != 53) = true := by rw [bne, z53]; rfl
                        clear y48 y120 y49 y50 y53
                        go_enter Try.func30, Try.ntmps30
                        go_wp2_with (first | (go_at_call 11; refine (HP.out _).mono ?_; rintro e w1 ⟨a, b, rfl, _, hq⟩; have HQ1 := Lib.hid (HQ0.out.trans hq); have HB1 := Lib.hid (HB0.out.keep hq (fun x => x)); obtain ⟨c0, c1, c2, c3, c4, c5, c6, c7, fz⟩ := hd_cells HB1.out; clear hq) | (go_at_call 17; refine (HI.out _ _).mono ?_; rintro e w' ⟨rfl, rfl⟩) | (go_at_call 19; refine (HT.out _ _).mono ?_; rintro e w' ⟨rfl, rfl⟩) | (go_at_call 15; refine (HK.out _).mono ?_; rintro e w' ⟨rfl, rfl⟩))
                        go_ret
                        exact ⟨by simp <;> assumption, HQ1.out⟩
            | true =>
              have hf := HF.out _ _ _ _ _ _ _ hP hM hU hG hS hT HOK.out
              simp only [Bool.true_and] at hf
              have hF := HFF.out.symm.trans hf
              clear hf HFF HF HOK
              by_cases y48 : type = 48
              · subst y48
                rcases empty_or link with rfl | ⟨n1, n2, n3⟩
                · have hv : F = true := by rw [hF]; simp
                  clear hF
                  subst hv
                  by_cases z : size = 0
                  · subst z
                    go_enter Try.func30, Try.ntmps30
                    go_wp2_with (first | (go_at_call 11; refine (HP.out _).mono ?_; rintro e w1 ⟨a, b, rfl, _, hq⟩; have HQ1 := Lib.hid (HQ0.out.trans hq); have HB1 := Lib.hid (HB0.out.keep hq (fun x => x)); obtain ⟨c0, c1, c2, c3, c4, c5, c6, c7, fz⟩ := hd_cells HB1.out; clear hq) | (go_at_call 17; refine (HI.out _ _).mono ?_; rintro e w' ⟨rfl, rfl⟩) | (go_at_call 19; refine (HT.out _ _).mono ?_; rintro e w' ⟨rfl, rfl⟩) | (go_at_call 15; refine (HK.out _).mono ?_; rintro e w' ⟨rfl, rfl⟩))
                    go_ret
                    exact ⟨by simp <;> assumption, HQ1.out⟩
                  · skip
                    go_enter Try.func30, Try.ntmps30
                    go_wp2_with (first | (go_at_call 11; refine (HP.out _).mono ?_; rintro e w1 ⟨a, b, rfl, _, hq⟩; have HQ1 := Lib.hid (HQ0.out.trans hq); have HB1 := Lib.hid (HB0.out.keep hq (fun x => x)); obtain ⟨c0, c1, c2, c3, c4, c5, c6, c7, fz⟩ := hd_cells HB1.out; clear hq) | (go_at_call 17; refine (HI.out _ _).mono ?_; rintro e w' ⟨rfl, rfl⟩) | (go_at_call 19; refine (HT.out _ _).mono ?_; rintro e w' ⟨rfl, rfl⟩) | (go_at_call 15; refine (HK.out _).mono ?_; rintro e w' ⟨rfl, rfl⟩))
                    go_ret
                    exact ⟨by simp <;> assumption, HQ1.out⟩
                · have hv : F = false := by rw [hF]; simp [n3]
                  clear hF n3
                  subst hv
                  go_enter Try.func30, Try.ntmps30
                  go_wp2_with (first | (go_at_call 11; refine (HP.out _).mono ?_; rintro e w1 ⟨a, b, rfl, _, hq⟩; have HQ1 := Lib.hid (HQ0.out.trans hq); have HB1 := Lib.hid (HB0.out.keep hq (fun x => x)); obtain ⟨c0, c1, c2, c3, c4, c5, c6, c7, fz⟩ := hd_cells HB1.out; clear hq) | (go_at_call 17; refine (HI.out _ _).mono ?_; rintro e w' ⟨rfl, rfl⟩) | (go_at_call 19; refine (HT.out _ _).mono ?_; rintro e w' ⟨rfl, rfl⟩) | (go_at_call 15; refine (HK.out _).mono ?_; rintro e w' ⟨rfl, rfl⟩))
                  go_ret
                  exact ⟨by simp <;> assumption, HQ1.out⟩
              · skip
                by_cases y120 : type = 120
                · subst y120
                  rcases empty_or link with rfl | ⟨n1, n2, n3⟩
                  · have hv : F = true := by rw [hF]; simp
                    clear hF
                    subst hv
                    by_cases z : size = 0
                    · subst z
                      go_enter Try.func30, Try.ntmps30
                      go_wp2_with (first | (go_at_call 11; refine (HP.out _).mono ?_; rintro e w1 ⟨a, b, rfl, _, hq⟩; have HQ1 := Lib.hid (HQ0.out.trans hq); have HB1 := Lib.hid (HB0.out.keep hq (fun x => x)); obtain ⟨c0, c1, c2, c3, c4, c5, c6, c7, fz⟩ := hd_cells HB1.out; clear hq) | (go_at_call 17; refine (HI.out _ _).mono ?_; rintro e w' ⟨rfl, rfl⟩) | (go_at_call 19; refine (HT.out _ _).mono ?_; rintro e w' ⟨rfl, rfl⟩) | (go_at_call 15; refine (HK.out _).mono ?_; rintro e w' ⟨rfl, rfl⟩))
                      go_ret
                      exact ⟨by simp <;> assumption, HQ1.out⟩
                    · skip
                      go_enter Try.func30, Try.ntmps30
                      go_wp2_with (first | (go_at_call 11; refine (HP.out _).mono ?_; rintro e w1 ⟨a, b, rfl, _, hq⟩; have HQ1 := Lib.hid (HQ0.out.trans hq); have HB1 := Lib.hid (HB0.out.keep hq (fun x => x)); obtain ⟨c0, c1, c2, c3, c4, c5, c6, c7, fz⟩ := hd_cells HB1.out; clear hq) | (go_at_call 17; refine (HI.out _ _).mono ?_; rintro e w' ⟨rfl, rfl⟩) | (go_at_call 19; refine (HT.out _ _).mono ?_; rintro e w' ⟨rfl, rfl⟩) | (go_at_call 15; refine (HK.out _).mono ?_; rintro e w' ⟨rfl, rfl⟩))
                      go_ret
                      exact ⟨by simp <;> assumption, HQ1.out⟩
                  · have hv : F = false := by rw [hF]; simp [n3]
                    clear hF n3
                    subst hv
                    go_enter Try.func30, Try.ntmps30
                    go_wp2_with (first | (go_at_call 11; refine (HP.out _).mono ?_; rintro e w1 ⟨a, b, rfl, _, hq⟩; have HQ1 := Lib.hid (HQ0.out.trans hq); have HB1 := Lib.hid (HB0.out.keep hq (fun x => x)); obtain ⟨c0, c1, c2, c3, c4, c5, c6, c7, fz⟩ := hd_cells HB1.out; clear hq) | (go_at_call 17; refine (HI.out _ _).mono ?_; rintro e w' ⟨rfl, rfl⟩) | (go_at_call 19; refine (HT.out _ _).mono ?_; rintro e w' ⟨rfl, rfl⟩) | (go_at_call 15; refine (HK.out _).mono ?_; rintro e w' ⟨rfl, rfl⟩))
                    go_ret
                    exact ⟨by simp <;> assumption, HQ1.out⟩
                · skip
                  by_cases y49 : type = 49
                  · subst y49
                    cases hL : Us.okLink link.data.toList with
                    | false =>
                      have hv : F = false := by rw [hF]; simp [hL]
                      clear hF
                      subst hv
                      go_enter Try.func30, Try.ntmps30
                      go_wp2_with (first | (go_at_call 11; refine (HP.out _).mono ?_; rintro e w1 ⟨a, b, rfl, _, hq⟩; have HQ1 := Lib.hid (HQ0.out.trans hq); have HB1 := Lib.hid (HB0.out.keep hq (fun x => x)); obtain ⟨c0, c1, c2, c3, c4, c5, c6, c7, fz⟩ := hd_cells HB1.out; clear hq) | (go_at_call 17; refine (HI.out _ _).mono ?_; rintro e w' ⟨rfl, rfl⟩) | (go_at_call 19; refine (HT.out _ _).mono ?_; rintro e w' ⟨rfl, rfl⟩) | (go_at_call 15; refine (HK.out _).mono ?_; rintro e w' ⟨rfl, rfl⟩))
                      go_ret
                      exact ⟨by simp <;> assumption, HQ1.out⟩
                    | true =>
                      by_cases z : size = 0
                      · have hv : F = true := by rw [hF]; simp [hL, z]
                        clear hF
                        subst hv z
                        go_enter Try.func30, Try.ntmps30
                        go_wp2_with (first | (go_at_call 11; refine (HP.out _).mono ?_; rintro e w1 ⟨a, b, rfl, _, hq⟩; have HQ1 := Lib.hid (HQ0.out.trans hq); have HB1 := Lib.hid (HB0.out.keep hq (fun x => x)); obtain ⟨c0, c1, c2, c3, c4, c5, c6, c7, fz⟩ := hd_cells HB1.out; clear hq) | (go_at_call 17; refine (HI.out _ _).mono ?_; rintro e w' ⟨rfl, rfl⟩) | (go_at_call 19; refine (HT.out _ _).mono ?_; rintro e w' ⟨rfl, rfl⟩) | (go_at_call 15; refine (HK.out _).mono ?_; rintro e w' ⟨rfl, rfl⟩))
                        go_ret
                        exact ⟨by simp <;> assumption, HQ1.out⟩
                      · have hv : F = false := by rw [hF]; simp [hL, z]
                        clear hF
                        subst hv
                        go_enter Try.func30, Try.ntmps30
                        go_wp2_with (first | (go_at_call 11; refine (HP.out _).mono ?_; rintro e w1 ⟨a, b, rfl, _, hq⟩; have HQ1 := Lib.hid (HQ0.out.trans hq); have HB1 := Lib.hid (HB0.out.keep hq (fun x => x)); obtain ⟨c0, c1, c2, c3, c4, c5, c6, c7, fz⟩ := hd_cells HB1.out; clear hq) | (go_at_call 17; refine (HI.out _ _).mono ?_; rintro e w' ⟨rfl, rfl⟩) | (go_at_call 19; refine (HT.out _ _).mono ?_; rintro e w' ⟨rfl, rfl⟩) | (go_at_call 15; refine (HK.out _).mono ?_; rintro e w' ⟨rfl, rfl⟩))
                        go_ret
                        exact ⟨by simp <;> assumption, HQ1.out⟩
                  · skip
                    by_cases y50 : type = 50
                    · subst y50
                      cases hL : Us.okLink link.data.toList with
                      | false =>
                        have hv : F = false := by rw [hF]; simp [hL]
                        clear hF
                        subst hv
                        go_enter Try.func30, Try.ntmps30
                        go_wp2_with (first | (go_at_call 11; refine (HP.out _).mono ?_; rintro e w1 ⟨a, b, rfl, _, hq⟩; have HQ1 := Lib.hid (HQ0.out.trans hq); have HB1 := Lib.hid (HB0.out.keep hq (fun x => x)); obtain ⟨c0, c1, c2, c3, c4, c5, c6, c7, fz⟩ := hd_cells HB1.out; clear hq) | (go_at_call 17; refine (HI.out _ _).mono ?_; rintro e w' ⟨rfl, rfl⟩) | (go_at_call 19; refine (HT.out _ _).mono ?_; rintro e w' ⟨rfl, rfl⟩) | (go_at_call 15; refine (HK.out _).mono ?_; rintro e w' ⟨rfl, rfl⟩))
                        go_ret
                        exact ⟨by simp <;> assumption, HQ1.out⟩
                      | true =>
                        by_cases z : size = 0
                        · have hv : F = true := by rw [hF]; simp [hL, z]
                          clear hF
                          subst hv z
                          go_enter Try.func30, Try.ntmps30
                          go_wp2_with (first | (go_at_call 11; refine (HP.out _).mono ?_; rintro e w1 ⟨a, b, rfl, _, hq⟩; have HQ1 := Lib.hid (HQ0.out.trans hq); have HB1 := Lib.hid (HB0.out.keep hq (fun x => x)); obtain ⟨c0, c1, c2, c3, c4, c5, c6, c7, fz⟩ := hd_cells HB1.out; clear hq) | (go_at_call 17; refine (HI.out _ _).mono ?_; rintro e w' ⟨rfl, rfl⟩) | (go_at_call 19; refine (HT.out _ _).mono ?_; rintro e w' ⟨rfl, rfl⟩) | (go_at_call 15; refine (HK.out _).mono ?_; rintro e w' ⟨rfl, rfl⟩))
                          go_ret
                          exact ⟨by simp <;> assumption, HQ1.out⟩
                        · have hv : F = false := by rw [hF]; simp [hL, z]
                          clear hF
                          subst hv
                          go_enter Try.func30, Try.ntmps30
                          go_wp2_with (first | (go_at_call 11; refine (HP.out _).mono ?_; rintro e w1 ⟨a, b, rfl, _, hq⟩; have HQ1 := Lib.hid (HQ0.out.trans hq); have HB1 := Lib.hid (HB0.out.keep hq (fun x => x)); obtain ⟨c0, c1, c2, c3, c4, c5, c6, c7, fz⟩ := hd_cells HB1.out; clear hq) | (go_at_call 17; refine (HI.out _ _).mono ?_; rintro e w' ⟨rfl, rfl⟩) | (go_at_call 19; refine (HT.out _ _).mono ?_; rintro e w' ⟨rfl, rfl⟩) | (go_at_call 15; refine (HK.out _).mono ?_; rintro e w' ⟨rfl, rfl⟩))
                          go_ret
                          exact ⟨by simp <;> assumption, HQ1.out⟩
                    · skip
                      by_cases y53 : type = 53
                      · subst y53
                        rcases empty_or link with rfl | ⟨n1, n2, n3⟩
                        · by_cases z : size = 0
                          · have hv : F = true := by rw [hF]; simp [z]
                            clear hF
                            subst hv z
                            go_enter Try.func30, Try.ntmps30
                            go_wp2_with (first | (go_at_call 11; refine (HP.out _).mono ?_; rintro e w1 ⟨a, b, rfl, _, hq⟩; have HQ1 := Lib.hid (HQ0.out.trans hq); have HB1 := Lib.hid (HB0.out.keep hq (fun x => x)); obtain ⟨c0, c1, c2, c3, c4, c5, c6, c7, fz⟩ := hd_cells HB1.out; clear hq) | (go_at_call 17; refine (HI.out _ _).mono ?_; rintro e w' ⟨rfl, rfl⟩) | (go_at_call 19; refine (HT.out _ _).mono ?_; rintro e w' ⟨rfl, rfl⟩) | (go_at_call 15; refine (HK.out _).mono ?_; rintro e w' ⟨rfl, rfl⟩))
                            go_ret
                            exact ⟨by simp <;> assumption, HQ1.out⟩
                          · have hv : F = false := by rw [hF]; simp [z]
                            clear hF
                            subst hv
                            go_enter Try.func30, Try.ntmps30
                            go_wp2_with (first | (go_at_call 11; refine (HP.out _).mono ?_; rintro e w1 ⟨a, b, rfl, _, hq⟩; have HQ1 := Lib.hid (HQ0.out.trans hq); have HB1 := Lib.hid (HB0.out.keep hq (fun x => x)); obtain ⟨c0, c1, c2, c3, c4, c5, c6, c7, fz⟩ := hd_cells HB1.out; clear hq) | (go_at_call 17; refine (HI.out _ _).mono ?_; rintro e w' ⟨rfl, rfl⟩) | (go_at_call 19; refine (HT.out _ _).mono ?_; rintro e w' ⟨rfl, rfl⟩) | (go_at_call 15; refine (HK.out _).mono ?_; rintro e w' ⟨rfl, rfl⟩))
                            go_ret
                            exact ⟨by simp <;> assumption, HQ1.out⟩
                        · have hv : F = false := by rw [hF]; simp [n3]
                          clear hF n3
                          subst hv
                          go_enter Try.func30, Try.ntmps30
                          go_wp2_with (first | (go_at_call 11; refine (HP.out _).mono ?_; rintro e w1 ⟨a, b, rfl, _, hq⟩; have HQ1 := Lib.hid (HQ0.out.trans hq); have HB1 := Lib.hid (HB0.out.keep hq (fun x => x)); obtain ⟨c0, c1, c2, c3, c4, c5, c6, c7, fz⟩ := hd_cells HB1.out; clear hq) | (go_at_call 17; refine (HI.out _ _).mono ?_; rintro e w' ⟨rfl, rfl⟩) | (go_at_call 19; refine (HT.out _ _).mono ?_; rintro e w' ⟨rfl, rfl⟩) | (go_at_call 15; refine (HK.out _).mono ?_; rintro e w' ⟨rfl, rfl⟩))
                          go_ret
                          exact ⟨by simp <;> assumption, HQ1.out⟩
                      · skip
                        have x48 : ¬ (type.toNat : Int) = 48 := fun e => y48 (by rw [← UInt8.toNat_inj]; exact Int.ofNat.inj e)
                        have x120 : ¬ (type.toNat : Int) = 120 := fun e => y120 (by rw [← UInt8.toNat_inj]; exact Int.ofNat.inj e)
                        have x49 : ¬ (type.toNat : Int) = 49 := fun e => y49 (by rw [← UInt8.toNat_inj]; exact Int.ofNat.inj e)
                        have x50 : ¬ (type.toNat : Int) = 50 := fun e => y50 (by rw [← UInt8.toNat_inj]; exact Int.ofNat.inj e)
                        have x53 : ¬ (type.toNat : Int) = 53 := fun e => y53 (by rw [← UInt8.toNat_inj]; exact Int.ofNat.inj e)
                        have z48 : ((type.toNat : Int) == 48) = false := by rw [beq_eq_false_iff_ne]; exact x48
                        have u48 : ((type.toNat : Int) != 48) = true := by rw [bne, z48]; rfl
                        have z120 : ((type.toNat : Int) == 120) = false := by rw [beq_eq_false_iff_ne]; exact x120
                        have u120 : ((type.toNat : Int) != 120) = true := by rw [bne, z120]; rfl
                        have z49 : ((type.toNat : Int) == 49) = false := by rw [beq_eq_false_iff_ne]; exact x49
                        have u49 : ((type.toNat : Int) != 49) = true := by rw [bne, z49]; rfl
                        have z50 : ((type.toNat : Int) == 50) = false := by rw [beq_eq_false_iff_ne]; exact x50
                        have u50 : ((type.toNat : Int) != 50) = true := by rw [bne, z50]; rfl
                        have z53 : ((type.toNat : Int) == 53) = false := by rw [beq_eq_false_iff_ne]; exact x53
                        have u53 : ((type.toNat : Int) != 53) = true := by rw [bne, z53]; rfl
                        have hv : F = false := by rw [hF]; simp [y48, y120, y49, y50, y53]
                        clear hF
                        subst hv
                        clear y48 y120 y49 y50 y53
                        go_enter Try.func30, Try.ntmps30
                        go_wp2_with (first | (go_at_call 11; refine (HP.out _).mono ?_; rintro e w1 ⟨a, b, rfl, _, hq⟩; have HQ1 := Lib.hid (HQ0.out.trans hq); have HB1 := Lib.hid (HB0.out.keep hq (fun x => x)); obtain ⟨c0, c1, c2, c3, c4, c5, c6, c7, fz⟩ := hd_cells HB1.out; clear hq) | (go_at_call 17; refine (HI.out _ _).mono ?_; rintro e w' ⟨rfl, rfl⟩) | (go_at_call 19; refine (HT.out _ _).mono ?_; rintro e w' ⟨rfl, rfl⟩) | (go_at_call 15; refine (HK.out _).mono ?_; rintro e w' ⟨rfl, rfl⟩))
                        go_ret
                        exact ⟨by simp <;> assumption, HQ1.out⟩

end Go.Proofs.Ytemfelonfokcnaa
