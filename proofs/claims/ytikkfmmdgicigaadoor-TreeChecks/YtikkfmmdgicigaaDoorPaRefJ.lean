/- The document's Join, Parent. Conditions: texts within the reach. -/
import Derived.Test.YtikkfmmdgicigaaDoorPaNorm
import Derived.Test.YtikkfmmdgicigaaDoorPaRefQ
import Derived.Test.YtikkfmmdgicigaaDoorPaBackL
namespace Go.Proofs.YtikkfmmdgicigaaDoor
open Go.RowKit

theorem lt_of_cell' {w : World} {a : Addr} {v : Value} (h : w.cell? a = some v) : a.block < w.heap.size := by
  rcases Nat.lt_or_ge a.block w.heap.size with h1 | h1
  · exact h1
  · unfold World.cell? at h
    rw [Array.getElem?_eq_none h1] at h
    cases h

theorem own_shape {w : World} {base : Nat} {e : TypeId} {size n : Nat} {v : Value} {xs : List Value} (h : w.ownsRow base e size v n xs) : ∃ a cap, v = .slice a n cap := by
  rcases h.2 with ⟨rfl, rfl⟩ | ⟨g, cap, cur, rfl, _⟩
  · exact ⟨none, 0, rfl⟩
  · exact ⟨_, cap, rfl⟩

theorem own_below {w w1 : World} {base : Nat} {e : TypeId} {size n : Nat} {v : Value} {xs : List Value} (h : w.ownsRow base e size v n xs) (hb : base ≤ w.heap.size) (hg : w.grownBy w1 v.ownBlock) : Below base w w1 :=
  (Below.refl base w).grown hg hb fun j ej => by
    rcases h.2 with ⟨rfl, _⟩ | ⟨g, cap, cur, rfl, hb, _, _⟩
    · simp [Value.ownBlock] at ej
    · obtain rfl : g = j := by simpa [Value.ownBlock] using ej
      exact hb

/-- What the document's Join and Normal answer. -/
def numV : Option (List UInt8) → Ending
  | some n => .returned (.tuple #[txV n, .int .i64 0])
  | none => .returned (.tuple #[.string ⟨#[]⟩, .int .i64 12])

namespace Pt
theorem joins_take_len {ps : List (List UInt8)} {k : Nat} : (joins (ps.take k)).length ≤ (joins ps).length := by
  by_cases h : ps.take k = []
  · rw [h]; exact Nat.zero_le _
  · have hne : ps ≠ [] := fun e => by rw [e] at h; simp at h
    have h1 := joins_len h
    have h2 := joins_len hne
    have h3 := congrArg tot (List.take_append_drop k ps)
    rw [tot_append] at h3
    omega
theorem join_bad {ps : List (List UInt8)} {x : List UInt8} (hm : x ∈ ps) (h : part x = false) : join ps = none := by
  unfold join
  rw [if_neg]
  rintro ⟨_, h2, _⟩
  rw [h2 x hm] at h
  cases h
theorem join_long {ps : List (List UInt8)} {k : Nat} (h : 400 < (joins (ps.take k)).length) : join ps = none := by
  unfold join
  rw [if_neg]
  rintro ⟨_, _, h3⟩
  have := joins_take_len (ps := ps) (k := k)
  omega
theorem joins_take_succ {ps : List (List UInt8)} {k : Nat} {x : List UInt8} (hx : ps[k]? = some x) : joins (ps.take (k + 1)) = if k = 0 then x else joins (ps.take k) ++ 47 :: x := by
  have hk := (List.getElem?_eq_some_iff.1 hx).1
  have e : ps.take (k + 1) = ps.take k ++ [x] := by rw [List.take_add_one, hx]; rfl
  by_cases h : k = 0
  · subst h
    rw [e]; rfl
  · rw [if_neg h, e, joins_snoc]
    intro hn
    have := congrArg List.length hn
    rw [List.length_take, List.length_nil] at this
    omega
end Pt

set_option maxRecDepth 100000 in
set_option maxHeartbeats 4000000 in
theorem r8join_any {w : World} {v : Value} {ps : List (List UInt8)} (h : TextsAt w (fun k => k < w.heap.size) v ps) (hp : ∀ p ∈ ps, p.length ≤ 140737488351232) (hn : ps.length ≤ 140737488355328) :
    Calls Tryd.prog 69 #[v] w fun e w' => e = numV (Pt.join ps) ∧ Quiet w w' := by
  obtain ⟨i0, hi, hz0, hz1, hz2⟩ := info_parts info_u8
  obtain ⟨va, vc, rfl, _⟩ := h.shape
  have HT := Lib.hid h
  have HP := Lib.hid hp
  clear h hp
  obtain ⟨w1, hw1⟩ : ∃ w1, w.alloc (.cells #[] 5) = w1 := ⟨_, rfl⟩
  have hown1 : w1.ownsRow w.heap.size 5 1 (.slice (some ⟨w.heap.size, 0, none⟩) 0 0) 0 [] := by
    rw [← hw1]
    exact ⟨rfl, .inr ⟨w.heap.size, 0, #[], rfl, Nat.le_refl _, World.alloc_heap_new w _, Nat.le_refl _, Nat.zero_le _, rfl, rfl⟩⟩
  have hB1 : Below w.heap.size w w1 := by rw [← hw1]; exact (Below.refl _ w).alloc (Nat.le_refl _) _
  have H1 := Lib.hid (And.intro hown1 hB1)
  clear hown1 hB1
  go_enter Tryd.func69, Tryd.ntmps69
  go_wp2
  go_loopw [4, 5] (fun ov iv wr => ∃ (u : Value) (k : Nat), u = ov ∧ iv = .int .i64 (k : Int) ∧ k ≤ ps.length ∧ Hid (∀ p ∈ ps.take k, Pt.part p = true) ∧ (Pt.joins (ps.take k)).length ≤ 400 ∧ wr.ownsRow w.heap.size 5 1 u (Pt.joins (ps.take k)).length ((Pt.joins (ps.take k)).map byteV) ∧ Below w.heap.size w wr) (fun _ iv _ => ps.length - (intOf iv).toNat)
  case atStart => exact ⟨_, 0, rfl, rfl, Nat.zero_le _, by unfold Hid; simp, by simp [Pt.joins], H1.out.1, H1.out.2⟩
  case round =>
    clear H1
    obtain ⟨u, k, rfl, rfl, hk, hall, hlen, how, hB⟩ := hrel
    obtain ⟨ua, uc, rfl⟩ := own_shape how
    by_cases hlt : k < ps.length
    · obtain ⟨x, hx⟩ : ∃ x, ps[k]? = some x := ⟨_, List.getElem?_eq_getElem hlt⟩
      obtain ⟨ad, c, e, hcx⟩ := HT.out.cell hx
      obtain ⟨rfl, _, rfl⟩ := Value.slice.inj e
      have hxm := List.mem_of_getElem? hx
      have hS0 : ad.block < w.heap.size := by
        have := lt_of_cell' hcx
        rwa [add_block] at this
      have hcr : ∀ W, Below w.heap.size w W → W.cell? (ad.add k) = some (txV x) := fun W hW => (hW.cell (p := ad.add k) (by rw [add_block]; exact hS0)).trans hcx
      have hcw := hcr wr hB
      have HPT := Lib.hid (r8part_any ⟨x.toArray⟩ (by rw [Lib.size_eq]; exact HP.out x hxm))
      have hpl : Pt.part (ByteArray.mk x.toArray).data.toList = Pt.part x := rfl
      rw [hpl] at HPT
      have hi1 : (0 : Int) ≤ (k : Int) := by omega
      have hi2 : (k : Int) < (ps.length : Int) := by omega
      have hxs : (ByteArray.mk x.toArray).size = x.length := by rw [Lib.size_eq]
      cases hpx : Pt.part x with
      | false =>
        have HJ : Hid (Pt.join ps = none) := Pt.join_bad hxm hpx
        rw [hpx] at HPT
        have HB := Lib.hid hB
        unfold txV at hcw
        generalize ByteArray.mk x.toArray = X at *
        clear hpl hx hxm e hall how hB hcr hpx hcx
        go_wp2_with fail
        refine (HPT.out _).mono ?_
        rintro e w2 ⟨rfl, hq⟩
        have HH := Lib.hid (HB.out.trans (hq.below HB.out.size (fun _ _ x => x)))
        clear hq
        go_wp2_with fail
        go_ret2
        exact ⟨by rw [HJ.out]; rfl, quiet_below HH.out⟩
      | true =>
        have hxl := (Pt.part_len hpx).2
        rw [hpx] at HPT
        have HN : Hid (∀ p ∈ ps.take (k + 1), Pt.part p = true) := fun p hp => by
          rw [List.take_add_one, hx] at hp
          rcases List.mem_append.1 hp with h1 | h1
          · exact hall.out p h1
          · have : p = x := by simpa using h1
            rw [this]; exact hpx
        have HSUC := Lib.hid (Pt.joins_take_succ hx)
        have HLONG := Lib.hid (fun h => Pt.join_long (ps := ps) (k := k + 1) h)
        have HCR : Hid (∀ W, Below w.heap.size w W → W.cell? (ad.add k) = some (.string (ByteArray.mk x.toArray))) := hcr
        have HW := Lib.hid (And.intro how hB)
        obtain ⟨X, hX⟩ : ∃ X, ByteArray.mk x.toArray = X := ⟨_, rfl⟩
        have hXl : Hid (X.data.toList = x) := by unfold Hid; rw [← hX]
        unfold txV at hcw
        rw [hX] at HPT hcw HCR hxs
        clear hpl hx hxm e hall how hB hcr hpx hX hcx
        by_cases hk0 : k = 0
        · subst hk0
          have HS2 : Hid (Pt.joins (ps.take (0 + 1)) = x) := by unfold Hid; rw [HSUC.out, if_pos rfl]
          clear HSUC
          have hl0 : (Pt.joins (ps.take 0)) = [] := rfl
          rw [hl0] at HW hlen ⊢
          have hlim : ¬ (x.length : Int) > 400 := by omega
          rw [show ((0 : Nat) : Int) = 0 from rfl] at hi2 ⊢
          rw [show ad.add 0 = ad from rfl] at hcw HCR
          go_wp2_with fail
          refine (HPT.out _).mono ?_
          rintro e w2 ⟨rfl, hq⟩
          have hb2 := HW.out.2.trans (hq.below HW.out.2.size (fun _ _ x => x))
          have hc2 := HCR.out w2 hb2
          have hsz := hb2.size
          have HB2 := Lib.hid (And.intro hb2 (own_only HW.out.1 hq (fun _ _ x => x)))
          clear hq hb2 hcw
          go_wp2_with (at_builtin; refine Lib.wpList_append_own_string _ rfl _ _ 39 9 rfl w.heap.size 5 i0 Tryd.underlying39 Tryd.underlying9 hi hz0 hz1 hz2 _ _ _ rfl HB2.out.2 X rfl (by unfold maxLen; omega) (by omega) hsz ?_; intro v' w3 hown' hgrow _; obtain ⟨a3, c3, rfl⟩ := own_shape hown'; have HH := Lib.hid (And.intro hown' (HB2.out.1.trans (own_below HB2.out.2 hsz hgrow))); clear hown' hgrow)
          go_roundw
          case rel =>
            refine ⟨_, 1, rfl, rfl, hlt, HN, by rw [HS2.out]; omega, ?_, HH.out.2⟩
            have hrow := HH.out.1
            have e : ([] : List UInt8).map byteV ++ Lib.strCells X = x.map byteV := by rw [strCells_map, hXl.out]; rfl
            have hj1 : Pt.joins (ps.take 1) = x := HS2.out
            simp only [List.length_nil, Nat.zero_add, hxs] at hrow ⊢
            rw [hj1, ← e]
            exact hrow
          case measure => simp [intOf]; omega
        · have HS2 : Hid (Pt.joins (ps.take (k + 1)) = Pt.joins (ps.take k) ++ 47 :: x) := by unfold Hid; rw [HSUC.out, if_neg hk0]
          clear HSUC
          have hkp : (k : Int) > 0 := by omega
          generalize Pt.joins (ps.take k) = J at *
          go_wp2_with fail
          refine (HPT.out _).mono ?_
          rintro e w2 ⟨rfl, hq⟩
          have hb2 := HW.out.2.trans (hq.below HW.out.2.size (fun _ _ x => x))
          have hsz := hb2.size
          have HB2 := Lib.hid (And.intro hb2 (own_only HW.out.1 hq (fun _ _ x => x)))
          clear hq hb2 hcw
          go_wp2_with (first
            | (at_builtin; refine Lib.wpList_append_own_string _ rfl _ _ 39 9 rfl w.heap.size 5 i0 Tryd.underlying39 Tryd.underlying9 hi hz0 hz1 hz2 _ _ _ rfl HB3.out.2 X rfl (by unfold maxLen; omega) (by omega) hsz3 ?_; intro v' w4 hown' hgrow _; obtain ⟨a4, c4, rfl⟩ := own_shape hown'; have HH := Lib.hid (And.intro hown' (HB3.out.1.trans (own_below HB3.out.2 hsz3 hgrow))); clear hown' hgrow)
            | (at_builtin; refine wpList_append_own _ rfl _ _ 39 rfl w.heap.size 5 i0 (.int .u8 0) 1 1 Tryd.underlying39 hi hz0 hz1 hz2 rfl (by decide) _ _ _ rfl (HB2.out.2.alloc _) ⟨w2.heap.size, 0, none⟩ 1 1 [.int .u8 47] rfl rfl (cell_one_new _ _ _) (by simp [Value.oneCell']) (by unfold maxLen; omega) (by omega) (by simp; omega) ?_; intro v' w3 hown' hgrow _; obtain ⟨a3, c3, rfl⟩ := own_shape hown'; have hb3 := (HB2.out.1.alloc hsz _).trans (own_below (HB2.out.2.alloc _) (by simp; omega) hgrow); have hc3 := HCR.out w3 hb3; have hsz3 := hb3.size; have HB3 := Lib.hid (And.intro hb3 hown'); clear hown' hgrow hb3))
          · rename_i hcond
            have HJ : Hid (Pt.join ps = none) := HLONG.out (by rw [HS2.out, List.length_append, List.length_cons]; omega)
            go_ret2
            exact ⟨by rw [HJ.out]; rfl, quiet_below HH.out.2⟩
          · rename_i hcond
            have hjl : (J ++ 47 :: x).length = J.length + 1 + X.size := by rw [List.length_append, List.length_cons, hxs]; omega
            go_roundw
            case rel =>
              refine ⟨_, k + 1, rfl, by go_num, hlt, HN, by rw [HS2.out, hjl]; omega, ?_, HH.out.2⟩
              have hrow := HH.out.1
              have e : J.map byteV ++ [Value.int .u8 47] ++ Lib.strCells X = (J ++ 47 :: x).map byteV := by
                rw [strCells_map, hXl.out, List.map_append, List.map_cons, List.append_assoc]; rfl
              rw [HS2.out, hjl, ← e]
              rw [hxs] at hrow ⊢
              exact hrow
            case measure => simp [intOf]; omega
    · obtain rfl : k = ps.length := by omega
      rw [List.take_length] at hall hlen how
      have hconv := (BytesAt.of_row how).text
      rw [List.take_length]
      by_cases h0 : ps = []
      · have hz : ((ps.length : Int) == 0) = true := by rw [h0]; rfl
        have HJ : Hid (Pt.join ps = none) := by unfold Hid Pt.join; rw [if_neg (fun h => h.1 h0)]
        have HB := Lib.hid hB
        clear hB hall how hconv h0
        go_wp2_with fail
        go_ret2
        exact ⟨by rw [HJ.out]; rfl, quiet_below HB.out⟩
      · have hz : ((ps.length : Int) == 0) = false := by
          have := List.length_pos_iff.2 h0
          rw [beq_eq_false_iff_ne]; omega
        have HJ : Hid (Pt.join ps = some (Pt.joins ps)) := by unfold Hid Pt.join; rw [if_pos ⟨h0, hall.out, hlen⟩]
        have HB := Lib.hid hB
        clear hB hall how h0
        go_wp2_with fail
        go_ret2
        exact ⟨by rw [HJ.out]; rfl, quiet_below HB.out⟩

set_option maxRecDepth 100000 in
theorem r8parent_any (s : ByteArray) (w : World) :
    Calls Tryd.prog 41 #[.string s] w fun e w' => e = .returned (.tuple #[txV (Pt.parL s.data.toList), .bool (Pt.parB s.data.toList)]) ∧ Quiet w w' := by
  have H := Lib.hid (r8split_any s w)
  have hcs : (Pt.parB s.data.toList = false ∧ Pt.parL s.data.toList = [] ∧ (Pt.split s.data.toList).length < 2) ∨
      (Pt.parB s.data.toList = true ∧ ∃ K q, K ≠ [] ∧ Pt.split s.data.toList = K ++ [q] ∧ Pt.parL s.data.toList = Pt.joins K ∧ Pt.join K = some (Pt.joins K) ∧ (∀ p ∈ K, p.length ≤ 140737488351232) ∧ K.length ≤ 140737488355000) := by
    cases hg : Pt.good s.data.toList with
    | true =>
      rcases Pt.par_cases hg with ⟨h1, h2, _, _⟩ | ⟨h1, _, _, _, _, K, q, hK, hs, hp, _⟩
      · exact .inl ⟨h1, by unfold Pt.parL; rw [h1]; rfl, by omega⟩
      · refine .inr ⟨h1, K, q, hK, hs, hp, ?_, fun p hp => ?_, ?_⟩
        · have hpc := Pt.split_good hg
          rw [hs] at hpc
          have hparts : ∀ p ∈ K, Pt.part p = true := fun p hp => (Pt.good_iff.1 hg).2 p (by rw [← hpc]; simp [hp])
          unfold Pt.join
          refine if_pos ⟨hK, hparts, ?_⟩
          have h3 := Pt.good_len hg
          have h4 := Pt.joins_pcs s.data.toList
          rw [← hpc, Pt.joins_snoc q hK] at h4
          rw [← h4, List.length_append] at h3
          omega
        · have hpc := Pt.split_good hg
          rw [hs] at hpc
          have := Pt.part_len ((Pt.good_iff.1 hg).2 p (by rw [← hpc]; simp [hp]))
          omega
        · have hpc := Pt.split_good hg
          rw [hs] at hpc
          have h1 := Pt.len_tot (Pt.pcs s.data.toList)
          rw [Pt.pcs_tot, ← hpc, List.length_append] at h1
          have := Pt.good_len hg
          omega
    | false =>
      have hB : Pt.parB s.data.toList = false := by unfold Pt.parB; rw [hg, Bool.and_false]
      exact .inl ⟨hB, by unfold Pt.parL; rw [hB]; rfl, by rw [Pt.split_bad hg]; decide⟩
  rcases hcs with ⟨h1, h2, h3⟩ | ⟨h1, K, q, hK, hs, hp, hj, hkl, hkn⟩
  · rw [h1, h2]
    have hi : ((Pt.split s.data.toList).length : Int) < 2 := by omega
    clear h1 h2 h3
    generalize Pt.split s.data.toList = P at *
    go_enter Tryd.func41, Tryd.ntmps41
    go_wp2_with fail
    refine H.out.mono ?_
    rintro e w1 ⟨v, rfl, ht, hq⟩
    obtain ⟨a, c, rfl, _⟩ := ht.shape
    have HQ := Lib.hid hq
    clear hq ht
    go_wp2_with fail
    go_ret2
    exact ⟨rfl, HQ.out⟩
  · rw [h1, hp]
    rw [hs] at H
    have HK : Hid (∀ W a c, TextsAt W (fun k => k < W.heap.size) (.slice a (K.length + 1) c) (K ++ [q]) → Calls Tryd.prog 69 #[.slice a K.length c] W fun e w' => e = .returned (.tuple #[txV (Pt.joins K), .int .i64 0]) ∧ Quiet W w') := fun W a c ht => by
      have h2 := TextsAt.pre ht (k := K.length) (by simp)
      rw [List.take_left] at h2
      have := r8join_any h2 hkl (by omega)
      rw [hj] at this
      exact this
    have hlen : (K ++ [q]).length = K.length + 1 := by simp
    have hkp : 0 < K.length := List.length_pos_iff.2 hK
    have hi : ¬ ((K.length : Int) + 1 < 2) := by omega
    have hki : (K.length : Int) ≤ 140737488355000 := by omega
    clear h1 hs hp hj hkl hK
    obtain ⟨JV, hJV⟩ : ∃ JV : ByteArray, Value.string JV = txV (Pt.joins K) := ⟨_, rfl⟩
    rw [← hJV] at HK ⊢
    clear hJV
    go_enter Tryd.func41, Tryd.ntmps41
    go_wp2_with fail
    refine H.out.mono ?_
    rintro e w1 ⟨v, rfl, ht, hq⟩
    obtain ⟨a, c, rfl, hcap⟩ := ht.shape
    rw [hlen] at ht hcap ⊢
    have hc2 : (K.length : Int) ≤ (c : Int) := by omega
    have HKK := Lib.hid (HK.out w1 a c ht)
    have HQ := Lib.hid hq
    clear hq ht
    go_wp2_with fail
    refine HKK.out.mono ?_
    rintro e w2 ⟨rfl, hq⟩
    have HQ2 := Lib.hid (HQ.out.trans hq)
    clear hq
    go_wp2_with fail
    go_ret2
    exact ⟨rfl, HQ2.out⟩

end Go.Proofs.YtikkfmmdgicigaaDoor
