/- The document's Part, Split, Good. Conditions: texts within the reach. -/
import Derived.Test.YtikkfmmdgicigaaDoorPaRefT
import Derived.Test.YtikkfmmdgicigaaDoorPaRefP
namespace Go.Proofs.YtikkfmmdgicigaaDoor
open Go.RowKit

namespace Pt
theorem pcs_one {l : List UInt8} : (pcs l).length = 1 ↔ 47 ∉ l := by
  constructor
  · intro h hm
    obtain ⟨a, b, hab⟩ := List.append_of_mem hm
    have h2 : ∀ (a b : List UInt8), 2 ≤ (pcs (a ++ 47 :: b)).length := by
      intro a
      induction a with
      | nil =>
        intro b
        have := List.length_pos_iff.2 (pcs_ne b)
        rw [List.nil_append, pcs_slash, List.length_cons]
        omega
      | cons c a ih =>
        intro b
        by_cases hc : c = 47
        · subst hc
          have := List.length_pos_iff.2 (pcs_ne (a ++ 47 :: b))
          rw [List.cons_append, pcs_slash, List.length_cons]
          omega
        · obtain ⟨p, q, e1, e2⟩ := pcs_cons hc (a ++ 47 :: b)
          have := ih b
          rw [e1] at this
          rw [List.cons_append, e2]
          simpa using this
    have := h2 a b
    rw [← hab, h] at this
    omega
  · intro h
    rw [pcs_no h]; rfl
end Pt

set_option maxRecDepth 100000 in
set_option maxHeartbeats 1000000 in
theorem r8part_any (s : ByteArray) (hs : s.size ≤ 140737488351232) (w : World) :
    Calls Tryd.prog 77 #[.string s] w fun e w' => e = .returned (.bool (Pt.part s.data.toList)) ∧ Quiet w w' := by
  have HX := Lib.hid (r8text_any s hs 120)
  have HT : Hid (Pt.part s.data.toList = (Pt.txt s.data.toList 120 && (decide (Lib.indexByte s.data.toList 47 < 0) && (!(s.toList == [46]) && !(s.toList == [46, 46]))))) := by
    unfold Hid; rw [Lib.toList_data]; rfl
  have HL : Hid (Pt.txt s.data.toList 120 = true → s.size ≤ 120) := fun h => by
    unfold Pt.txt at h
    simp only [Bool.and_eq_true, decide_eq_true_eq] at h
    have := h.2.1
    rw [← Lib.size_eq] at this
    omega
  have HO : Hid ((Pt.pcs s.data.toList).length = 1 ↔ Lib.indexByte s.data.toList 47 < 0) := Pt.pcs_one.trans Pt.index_mem.symm
  rw [HT.out]
  have HP : Hid (s.size ≤ 120 → ∀ W, Calls Tryd.prog 71 #[.string s] W fun e w' => ∃ a c, e = .returned (.slice a (Pt.pcs s.data.toList).length c) ∧ Quiet W w') := fun h W =>
    (r8pieces_any s (by omega) W).mono fun e w' ⟨v, h1, h2, h3⟩ => by
      obtain ⟨a, c, rfl⟩ : ∃ a c, v = .slice a (Pt.pcs s.data.toList).length c := by
        rcases h2.2 with ⟨rfl, h0⟩ | ⟨g, cap, cur, rfl, _⟩
        · exact ⟨none, 0, by rw [h0]⟩
        · exact ⟨_, _, rfl⟩
      exact ⟨a, c, h1, h3⟩
  have HLN : Hid (s.size ≤ 120 → (Pt.pcs s.data.toList).length ≤ 121) := fun h => by
    have h1 := Pt.len_tot (Pt.pcs s.data.toList)
    rw [Pt.pcs_tot, ← Lib.size_eq] at h1
    omega
  clear HT
  generalize (Pt.pcs s.data.toList).length = n at *
  generalize Lib.indexByte s.data.toList 47 = I at *
  generalize Pt.txt s.data.toList 120 = X at *
  cases X with
  | false =>
    clear HL HO HP HLN
    go_enter Tryd.func77, Tryd.ntmps77
    go_wp2_with (go_at_call 70; refine (HX.out _).mono ?_; rintro e w1 ⟨rfl, rfl⟩)
    go_ret
    exact ⟨rfl, Only.refl _ _⟩
  | true =>
    have HP2 := Lib.hid (HP.out (HL.out rfl))
    have hn := HLN.out (HL.out rfl)
    clear HP HL HLN
    cases d1 : (s.toList == [46]) with
    | true =>
      go_enter Tryd.func77, Tryd.ntmps77
      go_wp2_with (go_at_call 70; refine (HX.out _).mono ?_; rintro e w1 ⟨rfl, rfl⟩)
      go_ret
      exact ⟨by simp, Only.refl _ _⟩
    | false =>
      cases d2 : (s.toList == [46, 46]) with
      | true =>
        go_enter Tryd.func77, Tryd.ntmps77
        go_wp2_with (go_at_call 70; refine (HX.out _).mono ?_; rintro e w1 ⟨rfl, rfl⟩)
        go_ret
        exact ⟨by simp, Only.refl _ _⟩
      | false =>
        by_cases h1 : n = 1
        · have HI := Lib.hid (HO.out.1 h1)
          have h1i : ((n : Int) == 1) = true := by rw [beq_iff_eq]; omega
          clear HO h1
          go_enter Tryd.func77, Tryd.ntmps77
          go_wp2_with (first
            | (go_at_call 70; refine (HX.out _).mono ?_; rintro e w1 ⟨rfl, rfl⟩)
            | (go_at_call 71; refine (HP2.out _).mono ?_; rintro e w2 ⟨a, c, rfl, hq⟩; have HQ := Lib.hid hq; clear hq))
          go_ret
          exact ⟨by rw [decide_eq_true HI.out]; rfl, HQ.out⟩
        · have HI := Lib.hid (fun h => h1 (HO.out.2 h))
          have h1i : ((n : Int) == 1) = false := by rw [beq_eq_false_iff_ne]; omega
          clear HO h1
          go_enter Tryd.func77, Tryd.ntmps77
          go_wp2_with (first
            | (go_at_call 70; refine (HX.out _).mono ?_; rintro e w1 ⟨rfl, rfl⟩)
            | (go_at_call 71; refine (HP2.out _).mono ?_; rintro e w2 ⟨a, c, rfl, hq⟩; have HQ := Lib.hid hq; clear hq))
          go_ret
          exact ⟨by rw [decide_eq_false HI.out]; rfl, HQ.out⟩

set_option maxRecDepth 100000 in
set_option maxHeartbeats 2000000 in
theorem r8split_any (s : ByteArray) (w : World) :
    Calls Tryd.prog 56 #[.string s] w fun e w' => ∃ v, e = .returned v ∧ TextsAt w' (fun k => k < w'.heap.size) v (Pt.split s.data.toList) ∧ Quiet w w' := by
  by_cases hbig : s.size ≤ 400
  · have HP := Lib.hid (r8pieces_any s (by omega) w)
    have hgi : Pt.good s.data.toList = true ↔ ∀ p ∈ Pt.pcs s.data.toList, Pt.part p = true := by
      rw [Pt.good_iff, ← Lib.size_eq]
      exact ⟨fun h => h.2, fun h => ⟨hbig, h⟩⟩
    have HS1 : Hid ((∀ p ∈ Pt.pcs s.data.toList, Pt.part p = true) → Pt.split s.data.toList = Pt.pcs s.data.toList) := fun h => by unfold Pt.split; rw [if_pos (hgi.2 h)]
    have HS2 : Hid (¬ (∀ p ∈ Pt.pcs s.data.toList, Pt.part p = true) → Pt.split s.data.toList = []) := fun h => by unfold Pt.split; rw [if_neg (fun e => h (hgi.1 e))]
    have HLen : Hid (∀ p ∈ Pt.pcs s.data.toList, p.length ≤ 400) := fun p hp => by
      have h1 := Pt.pcs_tot s.data.toList
      obtain ⟨a, b, hab⟩ := List.append_of_mem hp
      rw [hab, Pt.tot_append, ← Lib.size_eq] at h1
      simp only [Pt.tot] at h1
      omega
    have hN : (Pt.pcs s.data.toList).length ≤ 401 := by
      have h1 := Pt.len_tot (Pt.pcs s.data.toList)
      rw [Pt.pcs_tot, ← Lib.size_eq] at h1
      omega
    clear hgi
    have hb1 : ¬ (s.size : Int) > 400 := by omega
    generalize Pt.pcs s.data.toList = P at *
    go_enter Tryd.func56, Tryd.ntmps56
    go_wp2_with fail
    refine HP.out.mono ?_
    rintro e w1 ⟨v, rfl, how, hq⟩
    have ht := TextsAt.of_row how
    obtain ⟨va, vc, rfl, _⟩ := ht.shape
    have HT := Lib.hid ht
    have HQ := Lib.hid hq
    clear how hq ht
    go_wp2_with fail
    go_loopw [4] (fun iv wr => ∃ k : Nat, k ≤ P.length ∧ iv = .int .i64 (k : Int) ∧ Hid (∀ p ∈ P.take k, Pt.part p = true) ∧ Quiet w1 wr) (fun iv _ => P.length - (intOf iv).toNat)
    case atStart => exact ⟨0, Nat.zero_le _, rfl, by unfold Hid; simp, Only.refl _ _⟩
    case round =>
      obtain ⟨k, hk, rfl, hall, hqr⟩ := hrel
      have HTr := Lib.hid (HT.out.quiet hqr)
      by_cases hlt : k < P.length
      · obtain ⟨x, hx⟩ : ∃ x, P[k]? = some x := ⟨_, List.getElem?_eq_getElem hlt⟩
        obtain ⟨ad, c, e, hcx⟩ := HTr.out.cell hx
        obtain ⟨rfl, _, rfl⟩ := Value.slice.inj e
        have hxm := List.mem_of_getElem? hx
        have HPT := Lib.hid (r8part_any ⟨x.toArray⟩ (by rw [Lib.size_eq]; exact Nat.le_trans (HLen.out x hxm) (by omega)))
        have hpl : Pt.part (ByteArray.mk x.toArray).data.toList = Pt.part x := rfl
        rw [hpl] at HPT
        have HN : Hid (Pt.part x = true → ∀ p ∈ P.take (k + 1), Pt.part p = true) := fun h p hp => by
          rw [List.take_add_one, hx] at hp
          rcases List.mem_append.1 hp with h1 | h1
          · exact hall.out p h1
          · have : p = x := by simpa using h1
            rw [this]; exact h
        have HF : Hid (Pt.part x = false → Pt.split s.data.toList = []) := fun h => HS2.out (fun ha => by rw [ha x hxm] at h; cases h)
        unfold txV at hcx
        generalize ByteArray.mk x.toArray = X at *
        generalize Pt.part x = r at *
        have hi1 : (0 : Int) ≤ (k : Int) := by omega
        have hi2 : (k : Int) < (P.length : Int) := by omega
        have HQR := Lib.hid hqr
        clear hpl hx hxm e hqr hall
        cases r with
        | true =>
          have HN2 := Lib.hid (HN.out rfl)
          clear HN HF
          go_wp2_with fail
          refine (HPT.out _).mono ?_
          rintro e w2 ⟨rfl, hq2⟩
          have HQ2 := Lib.hid (HQR.out.trans hq2)
          clear hq2
          go_wp2_with fail
          go_roundw
          case rel => exact ⟨k + 1, by omega, by go_num, HN2, HQ2.out⟩
          case measure => simp [intOf]; omega
        | false =>
          have HF2 := Lib.hid (HF.out rfl)
          clear HN HF
          go_wp2_with fail
          refine (HPT.out _).mono ?_
          rintro e w2 ⟨rfl, hq2⟩
          have HQ2 := Lib.hid (HQR.out.trans hq2)
          clear hq2
          go_wp2_with fail
          go_ret
          exact ⟨_, rfl, .inl ⟨rfl, HF2.out⟩, HQ.out.trans HQ2.out⟩
      · obtain rfl : k = P.length := by omega
        have hS : Hid (Pt.split s.data.toList = P) := HS1.out (by have := hall.out; rwa [List.take_length] at this)
        have HQR := Lib.hid hqr
        clear hqr hall
        go_wp2_with fail
        go_ret
        exact ⟨_, rfl, by rw [hS.out]; exact HTr.out, HQ.out.trans HQR.out⟩
  · have hS : Hid (Pt.split s.data.toList = []) := by
      unfold Hid Pt.split
      rw [if_neg]
      intro h
      have := Pt.good_len h
      rw [← Lib.size_eq] at this
      exact hbig this
    have hb1 : (s.size : Int) > 400 := by omega
    go_enter Tryd.func56, Tryd.ntmps56
    go_wp2
    go_ret
    exact ⟨_, rfl, .inl ⟨rfl, hS.out⟩, Only.refl _ _⟩

theorem r8good_any (s : ByteArray) (w : World) :
    Calls Tryd.prog 40 #[.string s] w fun e w' => e = .returned (.bool (Pt.good s.data.toList)) ∧ Quiet w w' := by
  have H := Lib.hid (r8split_any s w)
  have hG : Pt.good s.data.toList = decide (0 < (Pt.split s.data.toList).length) := by
    unfold Pt.split
    cases Pt.good s.data.toList with
    | true =>
      rw [if_pos rfl]
      exact (decide_eq_true (List.length_pos_iff.2 (Pt.pcs_ne _))).symm
    | false => rfl
  have HG := Lib.hid hG
  clear hG
  generalize Pt.split s.data.toList = P at *
  go_enter Tryd.func40, Tryd.ntmps40
  go_wp2_with fail
  refine H.out.mono ?_
  rintro e w1 ⟨v, rfl, ht, hq⟩
  obtain ⟨a, c, rfl, _⟩ := ht.shape
  have HQ := Lib.hid hq
  clear hq ht
  by_cases h0 : 0 < P.length
  · have hi : (P.length : Int) > 0 := by omega
    go_wp2_with fail
    go_ret
    exact ⟨by rw [HG.out, decide_eq_true h0]; rfl, HQ.out⟩
  · have hi : ¬ (P.length : Int) > 0 := by omega
    go_wp2_with fail
    go_ret
    exact ⟨by rw [HG.out, decide_eq_false h0]; rfl, HQ.out⟩

end Go.Proofs.YtikkfmmdgicigaaDoor
