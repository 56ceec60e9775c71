/- The document's Compare and Above. Conditions: Compare's texts of 2^20 bytes at most. -/
import Derived.Test.YtikkfmmdgicigaaDoorPaRefQ
import Derived.Test.YtikkfmmdgicigaaDoorPaCmpL
import Derived.Test.YtikkfmmdgicigaaDoorPaNestL
namespace Go.Proofs.YtikkfmmdgicigaaDoor
open Go.RowKit
open Go.Lib (compareBytes)

namespace Pt
theorem less_lt : ∀ {x y : List UInt8}, compareBytes x y = -1 → Op.bytesLess x y = true
  | [], [], h => by simp [compareBytes] at h
  | [], _ :: _, _ => rfl
  | _ :: _, [], h => by simp [compareBytes] at h
  | a :: x, b :: y, h => by
    unfold compareBytes at h
    unfold Op.bytesLess
    by_cases h1 : a < b
    · simp [h1]
    · by_cases h2 : b < a
      · simp [h1, h2] at h
      · have e : a = b := UInt8.le_antisymm (UInt8.not_lt.1 h2) (UInt8.not_lt.1 h1)
        subst e
        rw [if_neg h1, if_neg h1] at h
        simp [less_lt h]

theorem less_not : ∀ {x y : List UInt8}, compareBytes x y ≠ -1 → Op.bytesLess x y = false
  | [], [], _ => rfl
  | [], _ :: _, h => by simp [compareBytes] at h
  | _ :: _, [], _ => rfl
  | a :: x, b :: y, h => by
    unfold compareBytes at h
    unfold Op.bytesLess
    by_cases h1 : a < b
    · simp [h1] at h
    · by_cases h2 : b < a
      · have e : (a == b) = false := by
          rw [beq_eq_false_iff_ne]
          rintro rfl
          exact h1 h2
        simp [h1, e]
      · have e : a = b := UInt8.le_antisymm (UInt8.not_lt.1 h2) (UInt8.not_lt.1 h1)
        subst e
        rw [if_neg h1, if_neg h1] at h
        simp [h1, less_not h]

theorem same_of {x y : List UInt8} {d : Int} (h : compareBytes x y = d) : (x == y) = decide (d = 0) := by
  by_cases e : x = y
  · subst e
    rw [cb_self] at h
    subst h
    simp
  · have : d ≠ 0 := fun h0 => e (cb_eq (h.trans h0))
    rw [decide_eq_false this, beq_eq_false_iff_ne]
    exact e

theorem cmpP_at {ps qs : List (List UInt8)} {k : Nat} {x y : List UInt8} (hx : ps[k]? = some x) (hy : qs[k]? = some y) :
    cmpP (ps.drop k) (qs.drop k) = if compareBytes x y = 0 then cmpP (ps.drop (k + 1)) (qs.drop (k + 1)) else compareBytes x y := by
  have e1 : ps.drop k = x :: ps.drop (k + 1) := by
    obtain ⟨h, e⟩ := List.getElem?_eq_some_iff.1 hx
    rw [List.drop_eq_getElem_cons h, e]
  have e2 : qs.drop k = y :: qs.drop (k + 1) := by
    obtain ⟨h, e⟩ := List.getElem?_eq_some_iff.1 hy
    rw [List.drop_eq_getElem_cons h, e]
  rw [e1, e2]
  rfl
end Pt

set_option maxRecDepth 100000 in
set_option maxHeartbeats 4000000 in
theorem r8compare_any (a b : ByteArray) (ha : a.size ≤ 1048576) (hb : b.size ≤ 1048576) (w : World) :
    Calls Tryd.prog 43 #[.string a, .string b] w fun e w' => e = .returned (.int .i64 (Pt.cmp a.data.toList b.data.toList)) ∧ Quiet w w' := by
  have HPA := Lib.hid (r8pieces_any a ha)
  have HPB := Lib.hid (r8pieces_any b hb)
  have hN : (Pt.pcs a.data.toList).length ≤ 1048577 := by
    have h1 := Pt.len_tot (Pt.pcs a.data.toList)
    rw [Pt.pcs_tot, ← Lib.size_eq] at h1
    omega
  have hM : (Pt.pcs b.data.toList).length ≤ 1048577 := by
    have h1 := Pt.len_tot (Pt.pcs b.data.toList)
    rw [Pt.pcs_tot, ← Lib.size_eq] at h1
    omega
  have HC : Hid (Pt.cmp a.data.toList b.data.toList = Pt.cmpP (Pt.pcs a.data.toList) (Pt.pcs b.data.toList)) := rfl
  generalize Pt.cmp a.data.toList b.data.toList = C at *
  generalize Pt.pcs a.data.toList = P at *
  generalize Pt.pcs b.data.toList = Q at *
  go_enter Tryd.func43, Tryd.ntmps43
  go_wp2_with fail
  refine (HPA.out _).mono ?_
  rintro e w1 ⟨v, rfl, how, hq⟩
  have ht := TextsAt.of_row how
  obtain ⟨va, vc, rfl, _⟩ := ht.shape
  have HT := Lib.hid ht
  have HQ := Lib.hid hq
  clear how hq ht
  go_wp2_with fail
  refine (HPB.out _).mono ?_
  rintro e w2 ⟨v, rfl, how, hq⟩
  have ht := TextsAt.of_row how
  obtain ⟨ua, uc, rfl, _⟩ := ht.shape
  have HT2 := Lib.hid ht
  have HT1 := Lib.hid (HT.out.quiet hq)
  have HQ2 := Lib.hid (HQ.out.trans hq)
  clear how hq ht HT HQ HPA HPB
  go_wp2_with fail
  go_loopw [7] (fun iv wr => ∃ k : Nat, k ≤ P.length ∧ k ≤ Q.length ∧ iv = .int .i64 (k : Int) ∧ Hid (Pt.cmpP P Q = Pt.cmpP (P.drop k) (Q.drop k)) ∧ Quiet w2 wr) (fun iv _ => P.length - (intOf iv).toNat)
  case atStart => exact ⟨0, Nat.zero_le _, Nat.zero_le _, rfl, rfl, Only.refl _ _⟩
  case round =>
    obtain ⟨k, hk, hk2, rfl, hcm, hqr⟩ := hrel
    by_cases hlt : k < P.length
    · by_cases hlt2 : k < Q.length
      · obtain ⟨x, hx⟩ : ∃ x, P[k]? = some x := ⟨_, List.getElem?_eq_getElem hlt⟩
        obtain ⟨y, hy⟩ : ∃ y, Q[k]? = some y := ⟨_, List.getElem?_eq_getElem hlt2⟩
        obtain ⟨ad, c, e, a0⟩ := (HT1.out.quiet hqr).cell hx
        obtain ⟨rfl, _, rfl⟩ := Value.slice.inj e
        obtain ⟨bd, c', e', b0⟩ := (HT2.out.quiet hqr).cell hy
        obtain ⟨rfl, _, rfl⟩ := Value.slice.inj e'
        have HAT := Lib.hid (Pt.cmpP_at hx hy)
        have HLT : Hid (compareBytes x y = -1 → Op.bytesLess (ByteArray.mk x.toArray).toList (ByteArray.mk y.toArray).toList = true) := fun h => by
          rw [Lib.toList_data, Lib.toList_data]; exact Pt.less_lt h
        have HNL : Hid (compareBytes x y ≠ -1 → Op.bytesLess (ByteArray.mk x.toArray).toList (ByteArray.mk y.toArray).toList = false) := fun h => by
          rw [Lib.toList_data, Lib.toList_data]; exact Pt.less_not h
        have HEQ : Hid (((ByteArray.mk x.toArray).toList == (ByteArray.mk y.toArray).toList) = decide (compareBytes x y = 0)) := by
          unfold Hid; rw [Lib.toList_data, Lib.toList_data]; exact Pt.same_of rfl
        have hrng := Pt.cb_range x y
        unfold txV at a0 b0
        generalize ByteArray.mk x.toArray = X at *
        generalize ByteArray.mk y.toArray = Y at *
        generalize compareBytes x y = d at *
        have hi1 : (0 : Int) ≤ (k : Int) := by omega
        have hi2 : (k : Int) < (P.length : Int) := by omega
        have hi3 : (k : Int) < (Q.length : Int) := by omega
        have HOW := Lib.hid hqr
        clear hqr hx hy e e'
        rcases hrng with rfl | rfl | rfl
        · have hless := HLT.out rfl
          have HF : Hid (C = -1) := by
            unfold Hid; rw [HC.out, hcm.out, HAT.out]; rfl
          clear HLT HNL HEQ HAT HC hcm
          go_wp2
          go_quiet (fail)
          have HFIN := Lib.hid (HOW.out.trans (⟨rfl, rfl, rfl, Nat.le_refl _, fun _ _ _ => rfl⟩ : Only (fun _ => False) wr (wr.drewN nq)))
          clear a0 b0
          go_wp2
          go_ret
          exact ⟨by rw [HF.out]; rfl, HQ2.out.trans HFIN.out⟩
        · have hless := HNL.out (by decide)
          have hsame := HEQ.out
          rw [show decide ((0 : Int) = 0) = true from rfl] at hsame
          have HF : Hid (Pt.cmpP P Q = Pt.cmpP (P.drop (k + 1)) (Q.drop (k + 1))) := by
            unfold Hid; rw [hcm.out, HAT.out]; rfl
          clear HLT HNL HEQ HAT hcm
          go_wp2
          go_quiet (fail)
          go_wp2
          go_quiet (fail)
          rename_i nr _ _
          have HFIN := Lib.hid (HOW.out.trans (⟨rfl, rfl, rfl, Nat.le_refl _, fun _ _ _ => rfl⟩ : Only (fun _ => False) wr (wr.drewN (nr + nq))))
          clear a0 b0
          go_wp2
          go_roundw
          case rel => exact ⟨k + 1, by omega, by omega, by go_num, HF.out, HFIN.out⟩
          case measure => simp [intOf]; omega
        · have hless := HNL.out (by decide)
          have hsame := HEQ.out
          rw [show decide ((1 : Int) = 0) = false from rfl] at hsame
          have HF : Hid (C = 1) := by
            unfold Hid; rw [HC.out, hcm.out, HAT.out]; rfl
          clear HLT HNL HEQ HAT HC hcm
          go_wp2
          go_quiet (fail)
          go_wp2
          go_quiet (fail)
          rename_i nr _ _
          have HFIN := Lib.hid (HOW.out.trans (⟨rfl, rfl, rfl, Nat.le_refl _, fun _ _ _ => rfl⟩ : Only (fun _ => False) wr ((wr.drewN nr).drewN nq)))
          clear a0 b0
          go_wp2
          go_ret
          exact ⟨by rw [HF.out]; rfl, HQ2.out.trans HFIN.out⟩
      · have hk' : k = Q.length := by omega
        subst hk'
        have hPQ : (Q.length : Int) < (P.length : Int) := by omega
        have HF : Hid (C = 1) := by
          unfold Hid
          rw [HC.out, hcm.out, List.drop_length]
          cases h : P.drop Q.length with
          | nil => have := congrArg List.length h; rw [List.length_drop, List.length_nil] at this; omega
          | cons p t => rfl
        have HOW := Lib.hid hqr
        clear hqr hcm HC
        go_wp2
        go_ret
        exact ⟨by rw [HF.out]; rfl, HQ2.out.trans HOW.out⟩
    · have hk' : k = P.length := by omega
      subst hk'
      have HF0 : Hid (C = Pt.cmpP [] (Q.drop P.length)) := by
        unfold Hid
        rw [HC.out, hcm.out, List.drop_length]
      have HOW := Lib.hid hqr
      clear hqr hcm HC
      by_cases hlt2 : P.length < Q.length
      · have HF : Hid (C = -1) := by
          unfold Hid
          rw [HF0.out]
          refine Pt.cmpP_nil fun h => ?_
          have := congrArg List.length h; rw [List.length_drop, List.length_nil] at this; omega
        have hPQ : (P.length : Int) < (Q.length : Int) := by omega
        clear HF0
        go_wp2
        go_ret
        exact ⟨by rw [HF.out]; rfl, HQ2.out.trans HOW.out⟩
      · have he : Q.length = P.length := by omega
        have HF : Hid (C = 0) := by
          unfold Hid
          rw [HF0.out, List.drop_eq_nil_of_le (by omega)]
          rfl
        rw [he] at *
        clear HF0
        go_wp2
        go_ret
        exact ⟨by rw [HF.out]; rfl, HQ2.out.trans HOW.out⟩

namespace Pt
/-- Above, by pieces. -/
theorem above_split (a b : List UInt8) : above a b = decide ((split a) ≠ [] ∧ (split a).length < (split b).length ∧ ∀ i, i < (split a).length → (split a)[i]? = (split b)[i]?) := by
  rw [Bool.eq_iff_iff, above_iff, decide_eq_true_iff]
  unfold split
  constructor
  · rintro ⟨h1, h2, t, ht, hb⟩
    rw [if_pos h1, if_pos h2, hb]
    refine ⟨pcs_ne a, ?_, fun i hi => (List.getElem?_append_left hi).symm⟩
    have := List.length_pos_iff.2 ht
    rw [List.length_append]
    omega
  · by_cases h1 : good a = true
    · by_cases h2 : good b = true
      · rw [if_pos h1, if_pos h2]
        rintro ⟨_, hl, hi⟩
        refine ⟨h1, h2, (pcs b).drop (pcs a).length, fun h => ?_, ?_⟩
        · have := congrArg List.length h
          rw [List.length_drop, List.length_nil] at this
          omega
        · have he : (pcs b).take (pcs a).length = pcs a := by
            apply List.ext_getElem?
            intro i
            by_cases hlt : i < (pcs a).length
            · rw [List.getElem?_take_of_lt hlt, hi i hlt]
            · rw [List.getElem?_eq_none (by rw [List.length_take]; omega), List.getElem?_eq_none (by omega)]
          rw [← he, List.length_take, Nat.min_eq_left (by omega), he]
          have h3 := List.take_append_drop (pcs a).length (pcs b)
          rw [he] at h3
          exact h3.symm
      · rw [if_neg h2]
        rintro ⟨_, hl, _⟩
        simp at hl
    · rw [if_neg h1]
      rintro ⟨h, _⟩
      exact (h rfl).elim

theorem split_len (a : List UInt8) : (split a).length ≤ 401 := by
  unfold split
  split
  · rename_i h
    have h1 := len_tot (pcs a)
    rw [pcs_tot] at h1
    have h2 := (good_iff.1 h).1
    omega
  · simp
end Pt

set_option maxRecDepth 100000 in
set_option maxHeartbeats 4000000 in
theorem r8above_any (a b : ByteArray) (w : World) :
    Calls Tryd.prog 36 #[.string a, .string b] w fun e w' => e = .returned (.bool (Pt.above a.data.toList b.data.toList)) ∧ Quiet w w' := by
  have HPA := Lib.hid (r8split_any a)
  have HPB := Lib.hid (r8split_any b)
  have hN := Pt.split_len a.data.toList
  have hM := Pt.split_len b.data.toList
  have HC := Lib.hid (Pt.above_split a.data.toList b.data.toList)
  generalize Pt.above a.data.toList b.data.toList = C at *
  generalize Pt.split a.data.toList = P at *
  generalize Pt.split b.data.toList = Q at *
  have HCF : Hid (¬ (P ≠ [] ∧ P.length < Q.length ∧ ∀ i, i < P.length → P[i]? = Q[i]?) → C = false) := fun h => HC.out.trans (decide_eq_false h)
  have HCT : Hid ((P ≠ [] ∧ P.length < Q.length ∧ ∀ i, i < P.length → P[i]? = Q[i]?) → C = true) := fun h => HC.out.trans (decide_eq_true h)
  clear HC
  go_enter Tryd.func36, Tryd.ntmps36
  go_wp2_with fail
  refine (HPA.out _).mono ?_
  rintro e w1 ⟨v, rfl, ht, hq⟩
  obtain ⟨va, vc, rfl, _⟩ := ht.shape
  have HT := Lib.hid ht
  have HQ := Lib.hid hq
  clear hq ht
  go_wp2_with fail
  refine (HPB.out _).mono ?_
  rintro e w2 ⟨v, rfl, ht, hq⟩
  obtain ⟨ua, uc, rfl, _⟩ := ht.shape
  have HT2 := Lib.hid ht
  have HT1 := Lib.hid (HT.out.quiet hq)
  have HQ2 := Lib.hid (HQ.out.trans hq)
  clear hq ht HT HQ HPA HPB
  by_cases h0 : P.length = 0
  · have HF : Hid (C = false) := HCF.out fun h => h.1 (List.eq_nil_of_length_eq_zero h0)
    rw [h0] at *
    clear HCF HCT
    go_wp2
    go_ret
    exact ⟨by rw [HF.out]; rfl, HQ2.out⟩
  · have h0' : ((P.length : Int) == 0) = false := by rw [beq_eq_false_iff_ne]; omega
    by_cases hle : Q.length ≤ P.length
    · have HF : Hid (C = false) := HCF.out fun h => by omega
      have hle' : (Q.length : Int) ≤ (P.length : Int) := by omega
      clear HCF HCT
      go_wp2
      go_ret
      exact ⟨by rw [HF.out]; rfl, HQ2.out⟩
    · have hle' : ¬ (Q.length : Int) ≤ (P.length : Int) := by omega
      go_wp2_with fail
      go_loopw [7] (fun iv wr => ∃ k : Nat, k ≤ P.length ∧ iv = .int .i64 (k : Int) ∧ Hid (∀ i, i < k → P[i]? = Q[i]?) ∧ Quiet w2 wr) (fun iv _ => P.length - (intOf iv).toNat)
      case atStart => exact ⟨0, Nat.zero_le _, rfl, fun _ h => by omega, Only.refl _ _⟩
      case round =>
        obtain ⟨k, hk, rfl, hcm, hqr⟩ := hrel
        by_cases hlt : k < P.length
        · have hlt2 : k < Q.length := by omega
          obtain ⟨x, hx⟩ : ∃ x, P[k]? = some x := ⟨_, List.getElem?_eq_getElem hlt⟩
          obtain ⟨y, hy⟩ : ∃ y, Q[k]? = some y := ⟨_, List.getElem?_eq_getElem hlt2⟩
          obtain ⟨ad, c, e, a0⟩ := (HT1.out.quiet hqr).cell hx
          obtain ⟨rfl, _, rfl⟩ := Value.slice.inj e
          obtain ⟨bd, c', e', b0⟩ := (HT2.out.quiet hqr).cell hy
          obtain ⟨rfl, _, rfl⟩ := Value.slice.inj e'
          have HEQ : Hid (((ByteArray.mk x.toArray).toList == (ByteArray.mk y.toArray).toList) = decide (x = y)) := by
            unfold Hid
            rw [Lib.toList_data, Lib.toList_data]
            show (x == y) = _
            by_cases h : x = y
            · subst h; simp
            · rw [decide_eq_false h, beq_eq_false_iff_ne]; exact h
          have HYES : Hid (x = y → ∀ i, i < k + 1 → P[i]? = Q[i]?) := fun h i hi => by
            by_cases e : i = k
            · subst e; rw [hx, hy, h]
            · exact hcm.out i (by omega)
          have HNO : Hid (x ≠ y → C = false) := fun h => HCF.out fun hh => by
            have := hh.2.2 k hlt
            rw [hx, hy] at this
            exact h (Option.some.inj this)
          unfold txV at a0 b0
          generalize ByteArray.mk x.toArray = X at *
          generalize ByteArray.mk y.toArray = Y at *
          have hi1 : (0 : Int) ≤ (k : Int) := by omega
          have hi2 : (k : Int) < (P.length : Int) := by omega
          have hi3 : (k : Int) < (Q.length : Int) := by omega
          have HOW := Lib.hid hqr
          clear hqr hx hy e e' hcm
          by_cases hxy : x = y
          · have hsame : (X.toList == Y.toList) = true := HEQ.out.trans (decide_eq_true hxy)
            have HY := Lib.hid (HYES.out hxy)
            clear HEQ HYES HNO hxy
            go_wp2
            go_quiet (fail)
            have HFIN := Lib.hid (HOW.out.trans (⟨rfl, rfl, rfl, Nat.le_refl _, fun _ _ _ => rfl⟩ : Only (fun _ => False) wr (wr.drewN nq)))
            clear a0 b0
            go_wp2
            go_roundw
            case rel => exact ⟨k + 1, by omega, by go_num, HY, HFIN.out⟩
            case measure => simp [intOf]; omega
          · have hsame : (X.toList == Y.toList) = false := HEQ.out.trans (decide_eq_false hxy)
            have HF := Lib.hid (HNO.out hxy)
            clear HEQ HYES HNO hxy HCF HCT
            go_wp2
            go_quiet (fail)
            have HFIN := Lib.hid (HOW.out.trans (⟨rfl, rfl, rfl, Nat.le_refl _, fun _ _ _ => rfl⟩ : Only (fun _ => False) wr (wr.drewN nq)))
            clear a0 b0
            go_wp2
            go_ret
            exact ⟨by rw [HF.out]; rfl, HQ2.out.trans HFIN.out⟩
        · have hk' : k = P.length := by omega
          subst hk'
          have HF : Hid (C = true) := HCT.out ⟨by rintro rfl; exact h0 rfl, by omega, hcm.out⟩
          have HOW := Lib.hid hqr
          clear hqr hcm HCF HCT
          go_wp2
          go_ret
          exact ⟨by rw [HF.out]; rfl, HQ2.out.trans HOW.out⟩

end Go.Proofs.YtikkfmmdgicigaaDoor
