/- The document's Encode. Conditions: texts within the reach. -/
import Derived.Test.YtemfelonfokcnaaUsPutR
import Derived.Test.YtemfelonfokcnaaUsFitsR
import Derived.Test.YtemfelonfokcnaaUsSeem
import Derived.Deep.RegionHeld3
namespace Go.Proofs.Ytemfelonfokcnaa
open Go.RowKit

theorem r10encode_no (h : Hd) (hp : h.path.size ≤ 140737488351232) (hk : h.link.size ≤ 140737488351232) (hf : Us.fits h = false) (w : World) :
    Calls Try.prog 10 #[hdV h] w fun e w' => e = .returned (.tuple #[.slice none 0 0, .int .i64 14]) ∧ Quiet w w' := by
  have HF := Lib.hid (fun W => r10fits_any h hp hk W)
  rw [hf] at HF
  have HB0 := Lib.hid (Blk.new w (hdL h) 23)
  have HQ0 : Hid (Quiet w (w.alloc (.cells (hdL h).toArray 23))) := Only.alloc _
  obtain ⟨path, mode, uid, gid, size, time, type, link⟩ := h
  unfold hdV at HF ⊢
  clear hp hf hk
  obtain ⟨c0, c1, c2, c3, c4, c5, c6, c7, fz⟩ := hd_cells HB0.out
  go_enter Try.func10, Try.ntmps10
  go_wp2_with (go_at_call 30; refine (HF.out _).mono ?_; rintro e w1 ⟨rfl, hq⟩; have HQ1 := Lib.hid (HQ0.out.trans hq); clear hq)
  go_ret2
  exact ⟨rfl, HQ1.out⟩

set_option maxRecDepth 100000 in
set_option maxHeartbeats 2000000 in
theorem r10encode_ok (h : Hd) (hp : h.path.size ≤ 140737488351232) (hk : h.link.size ≤ 140737488351232) (hf : Us.fits h = true) (w : World) :
    Calls Try.prog 10 #[hdV h] w fun e w' => ∃ a c, e = .returned (.tuple #[.slice a 512 c, .int .i64 0]) ∧ RowB w w' (.slice a 512 c) (Us.enc h) := by
  have HF := Lib.hid (fun W => r10fits_any h hp hk W)
  rw [hf] at HF
  obtain ⟨q, nm, F⟩ := Us.fit_of hf
  have HP1 : Hid (∀ W, Calls Try.prog 31 #[hdV h, .string ⟨#[32, 32, 32, 32, 32, 32, 32, 32]⟩] W fun e w' => ∃ a c, e = .returned (.slice a 512 c) ∧ RowB W w' (.slice a 512 c) (Us.put q nm h Us.blanks)) := fun W => r10put_any h hp F ⟨#[32, 32, 32, 32, 32, 32, 32, 32]⟩ rfl W
  have hpl : (Us.put q nm h Us.blanks).length = 512 := Us.put_len F rfl
  have htl := Us.tot_le (Us.put q nm h Us.blanks) 512 (by omega)
  rw [List.take_of_length_le (by omega)] at htl
  have HP2 : Hid (∀ W, Calls Try.prog 31 #[hdV h, .string (Us.str (Us.oct 6 (Us.tot (Us.put q nm h Us.blanks))) ++ ⟨#[0, 32]⟩)] W fun e w' => ∃ a c, e = .returned (.slice a 512 c) ∧ RowB W w' (.slice a 512 c) (Us.enc h)) := fun W => by
    have h8 : (Us.str (Us.oct 6 (Us.tot (Us.put q nm h Us.blanks))) ++ (⟨#[0, 32]⟩ : ByteArray)).size = 8 := by
      rw [ByteArray.size_append]
      have : (Us.str (Us.oct 6 (Us.tot (Us.put q nm h Us.blanks)))).size = 6 := Us.oct_len 6 _
      rw [this]; rfl
    have h9 := r10put_any h hp F (Us.str (Us.oct 6 (Us.tot (Us.put q nm h Us.blanks))) ++ ⟨#[0, 32]⟩) h8 W
    have e1 : (Us.str (Us.oct 6 (Us.tot (Us.put q nm h Us.blanks))) ++ (⟨#[0, 32]⟩ : ByteArray)).data.toList = Us.sumT (Us.tot (Us.put q nm h Us.blanks)) := by
      simp [Us.str, Us.sumT]
    rw [e1] at h9
    rw [F.enc]
    exact h9
  have HO : Hid (∀ W, Calls Try.prog 32 #[.int .i64 ((Us.tot (Us.put q nm h Us.blanks) : Nat) : Int), .int .i64 6] W fun e w' => e = .returned (.string (Us.str (Us.oct 6 (Us.tot (Us.put q nm h Us.blanks))))) ∧ Quiet W w') := fun W => r10octal_any _ (by omega) 6 (by decide) W
  have HSZ : Hid ((Us.str (Us.oct 6 (Us.tot (Us.put q nm h Us.blanks)))).size = 6) := Us.oct_len 6 _
  have HB0 := Lib.hid (Blk.new w (hdL h) 23)
  have HQ0 : Hid (Quiet w (w.alloc (.cells (hdL h).toArray 23))) := Only.alloc _
  have HPL := Lib.hid hpl
  clear hp hf hk F hpl htl
  obtain ⟨E, hE⟩ : ∃ E, Us.enc h = E := ⟨_, rfl⟩
  rw [hE] at HP2 ⊢
  clear hE
  obtain ⟨P, hP⟩ : ∃ P, Us.put q nm h Us.blanks = P := ⟨_, rfl⟩
  rw [hP] at HP1 HP2 HO HSZ HPL
  clear hP
  obtain ⟨path, mode, uid, gid, size, time, type, link⟩ := h
  unfold hdV at HF HP1 HP2 ⊢
  obtain ⟨c0, c1, c2, c3, c4, c5, c6, c7, fz⟩ := hd_cells HB0.out
  go_enter Try.func10, Try.ntmps10
  go_wp2_with (first
    | (go_at_call 30; refine (HF.out _).mono ?_; rintro e w1 ⟨rfl, hq⟩; have HQ1 := Lib.hid (HQ0.out.trans hq); have HB1 := Lib.hid (HB0.out.keep hq (fun x => x)); obtain ⟨d0, d1, d2, d3, d4, d5, d6, d7, dz⟩ := hd_cells HB1.out; clear hq)
    | (go_at_call 31; refine (HP1.out _).mono ?_; rintro e w2 ⟨pa, pc, rfl, hr⟩; have HQ2 := Lib.hid (HQ1.out.trans hr.only); have HB2 := Lib.hid (HB1.out.keep hr.only (fun x => x)); have HR := Lib.hid hr; clear hr))
  have HMC : Hid (∃ ad, pa = some ad ∧ ∀ i (h : i < P.length), w2.cell? (ad.add i) = some (.int .u8 (P[i].toNat : Int))) := by
    have hpl := HPL.out
    rcases HR.out.bytes with ⟨e, h0⟩ | ⟨ad, c, e, _, _, hc⟩
    · rw [h0] at hpl; simp at hpl
    · exact ⟨ad, (Value.slice.inj e).1, fun i h => hc i _ (List.getElem?_eq_getElem h)⟩
  obtain ⟨ad, rfl, hcell⟩ := HMC.out
  have HC := Lib.hid hcell
  clear hcell HMC
  go_loopw [5, 6] (fun nv iv wr => ∃ i : Nat, i ≤ 512 ∧ nv = .int .i64 ((Us.tot (P.take i) : Nat) : Int) ∧ iv = .int .i64 (i : Int) ∧ wr = w2) (fun _ iv _ => 512 - (intOf iv).toNat)
  case atStart => exact ⟨0, Nat.zero_le _, rfl, rfl, rfl⟩
  case round =>
    obtain ⟨i, hi, rfl, rfl, hw⟩ := hrel
    subst hw
    have hpl := HPL.out
    by_cases hlt : i < 512
    · have c1 := HC.out i (by omega)
      have ht := Us.tot_snoc (P.take i) (P[i]'(by omega))
      rw [← List.take_succ_eq_append_getElem (by omega)] at ht
      have hb := Us.tot_le P i (by omega)
      have hu := (P[i]'(by omega)).toNat_lt
      generalize (P[i]'(by omega)).toNat = x at *
      generalize Us.tot (P.take i) = N at *
      have HT := Lib.hid ht
      clear ht hpl
      go_wp2
      go_roundw
      case rel => exact ⟨i + 1, by omega, by rw [HT.out]; rfl, by go_num, trivial⟩
      case measure => simp [intOf]; omega
    · obtain rfl : i = 512 := by omega
      rw [List.take_of_length_le (by omega)]
      obtain ⟨w3, hw3⟩ : ∃ x, x = wr := ⟨_, rfl⟩
      subst hw3
      clear hpl
      generalize Us.tot P = N at *
      generalize Us.str (Us.oct 6 N) = so at *
      have hz := HSZ.out
      have z3 : ¬ (9223372036854775807 < so.size + 2) := by omega
      have HBK : Hid (∀ W, Quiet w3 W → Blk W w.heap.size (hdL ⟨path, mode, uid, gid, size, time, type, link⟩) 23) := fun W ho => HB2.out.keep ho (fun x => x)
      go_wp2_with fail
      refine wp_region_held_drew (S := fun W => Quiet w3 W) (by kernel_rfl) Only.drew (fun hHeld => ?_)
      generalize w3.drew = wd at *
      refine wpAnyH_take (i := 0) (v := .agg #[.string path, .int .i64 mode, .int .i64 uid, .int .i64 gid, .int .i64 size, .int .i64 time, .int .u8 (type.toNat : Int), .string link]) rfl (by kernel_rfl) (by kernel_rfl) (by kernel_rfl) (fun _ _ _ h => h) (Or.inl ⟨by rfl, fun W hSw => by obtain ⟨y0, y1, y2, y3, y4, y5, y6, y7, yz⟩ := hd_cells (HBK.out W hSw); go_simp⟩) hHeld ?_
      try simp only [Act.put, List.getElem_toArray, List.getElem_cons_zero, List.setIfInBounds_toArray, List.set_cons_zero, List.set_cons_succ]
      refine wpAnyH_take (i := 1) (v := .int .i64 (N : Int)) rfl (by kernel_rfl) (by kernel_rfl) (by kernel_rfl) (fun _ _ _ h => h) (Or.inl ⟨by rfl, fun W hSw => by go_simp⟩) hHeld ?_
      try simp only [Act.put, List.getElem_toArray, List.getElem_cons_succ, List.getElem_cons_zero, List.setIfInBounds_toArray, List.set_cons_zero, List.set_cons_succ]
      refine wpAnyH_ready (rs := [2]) (by kernel_rfl) (by simp) (AllReadyH.cons rfl (fun J hJ => ?_) AllReadyH.nil)
      go_simp
      refine (HO.out _).mono ?_
      rintro e x1 ⟨rfl, hq1⟩
      refine hJ.out _ _ (hHeld.trans hq1) (fun hHeld => ?_)
      clear hJ J hq1
      try simp only [Act.put, List.getElem_toArray, List.getElem_cons_succ, List.getElem_cons_zero, List.setIfInBounds_toArray, List.set_cons_zero, List.set_cons_succ]
      refine wpAnyH_take (i := 3) (v := .string (so ++ ⟨#[0, 32]⟩)) rfl (by kernel_rfl) (by kernel_rfl) (by kernel_rfl) (fun _ _ _ h => h) (Or.inl ⟨by rfl, fun W hSw => by go_simp⟩) hHeld ?_
      try simp only [Act.put, List.getElem_toArray, List.getElem_cons_succ, List.getElem_cons_zero, List.setIfInBounds_toArray, List.set_cons_zero, List.set_cons_succ]
      refine wpAnyH_ready (rs := [4]) (by kernel_rfl) (by simp) (AllReadyH.cons rfl (fun J hJ => ?_) AllReadyH.nil)
      go_simp
      refine (HP2.out _).mono ?_
      rintro e x2 ⟨ra, rc, rfl, hr2⟩
      have HR2 := Lib.hid (hr2.weaken (HQ2.out.trans hHeld))
      refine hJ.out _ _ (hHeld.trans hr2.only) (fun hHeld => ?_)
      clear hJ J hr2
      try simp only [Act.put, List.getElem_toArray, List.getElem_cons_succ, List.getElem_cons_zero, List.setIfInBounds_toArray, List.set_cons_zero, List.set_cons_succ]
      refine wpAnyH_take (i := 5) (v := .slice ra 512 rc) rfl (by kernel_rfl) (by kernel_rfl) (by kernel_rfl) (fun _ _ _ h => h) (Or.inl ⟨by rfl, fun W hSw => by go_simp⟩) hHeld ?_
      try simp only [Act.put, List.getElem_toArray, List.getElem_cons_succ, List.getElem_cons_zero, List.setIfInBounds_toArray, List.set_cons_zero, List.set_cons_succ]
      refine wpAnyH_take (i := 6) (v := .int .i64 0) rfl (by kernel_rfl) (by kernel_rfl) (by kernel_rfl) (fun _ _ _ h => h) (Or.inl ⟨by rfl, fun W hSw => by go_simp⟩) hHeld ?_
      try simp only [Act.put, List.getElem_toArray, List.getElem_cons_succ, List.getElem_cons_zero, List.setIfInBounds_toArray, List.set_cons_zero, List.set_cons_succ]
      refine wpAnyH_done (by kernel_rfl) ?_ _
      go_wp2_with fail
      go_ret2
      exact ⟨ra, rc, rfl, HR2.out⟩

end Go.Proofs.Ytemfelonfokcnaa
