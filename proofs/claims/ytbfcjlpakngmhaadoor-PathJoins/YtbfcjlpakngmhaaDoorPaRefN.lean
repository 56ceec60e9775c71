/- The document's Normal. Conditions: texts of 20,000 bytes at most. -/
import Derived.Test.YtbfcjlpakngmhaaDoorPaRefJ
import Derived.Test.YtbfcjlpakngmhaaDoorPaNorm
namespace Go.Proofs.YtbfcjlpakngmhaaDoor
open Go.RowKit

namespace Pt
theorem join_eq {K : List (List UInt8)} (h : ∀ p ∈ K, 47 ∉ p) : join K = if good (joins K) then some (joins K) else none := by
  by_cases hK : K = []
  · subst hK
    have : good (joins []) = false := by
      rw [← Bool.not_eq_true]
      exact fun hg => good_ne hg rfl
    rw [this]
    unfold join
    exact if_neg fun h => h.1 rfl
  · have hp : pcs (joins K) = K := pcs_joins hK h
    unfold join
    by_cases hg : good (joins K) = true
    · rw [if_pos hg]
      have h2 := good_iff.1 hg
      rw [hp] at h2
      exact if_pos ⟨hK, h2.2, h2.1⟩
    · rw [if_neg hg]
      exact if_neg fun h3 => hg (good_iff.2 ⟨h3.2.2, by rw [hp]; exact h3.2.1⟩)

theorem runK_append : ∀ (K a b : List (List UInt8)), runK K (a ++ b) = (runK K a).bind fun K' => runK K' b
  | K, [], b => rfl
  | K, p :: a, b => by
    rw [List.cons_append]
    show (stepK K p).bind (fun L' => runK L' (a ++ b)) = ((stepK K p).bind fun L' => runK L' a).bind fun L' => runK L' b
    cases stepK K p with
    | none => rfl
    | some L' => exact runK_append L' a b

theorem runK_snoc {a : List (List UInt8)} {K : List (List UInt8)} {p : List UInt8} (h : runK [] a = some K) : runK [] (a ++ [p]) = stepK K p := by
  rw [runK_append, h]
  show (stepK K p).bind _ = _
  cases stepK K p <;> rfl

theorem runK_noslash : ∀ {ps K K' : List (List UInt8)}, (∀ x ∈ K, 47 ∉ x) → (∀ x ∈ ps, 47 ∉ x) → runK K ps = some K' → ∀ x ∈ K', 47 ∉ x
  | [], K, K', h, _, hr => by obtain rfl := Option.some.inj hr; exact h
  | p :: ps, K, K', h, h2, hr => by
    unfold runK at hr
    cases hs : stepK K p with
    | none => rw [hs] at hr; cases hr
    | some K2 => rw [hs] at hr; exact runK_noslash (ps := ps) (stepK_noslash h (h2 p (by simp)) hs) (fun x hx => h2 x (by simp [hx])) hr

theorem stepK_mem {K K' : List (List UInt8)} {p : List UInt8} (hs : stepK K p = some K') : K'.length ≤ K.length + 1 ∧ ∀ x ∈ K', x ∈ K ∨ x = p := by
  unfold stepK at hs
  split at hs
  · obtain rfl := Option.some.inj hs
    exact ⟨by omega, fun x hx => .inl hx⟩
  · split at hs
    · split at hs
      · cases hs
      · obtain rfl := Option.some.inj hs
        exact ⟨by simp; omega, fun x hx => .inl (List.dropLast_subset K hx)⟩
    · obtain rfl := Option.some.inj hs
      exact ⟨by simp, fun x hx => by simpa using hx⟩

theorem normal_none {l : List UInt8} {a : List (List UInt8)} (ha : a <+: pcs l) (h : runK [] a = none) : normal l = none := by
  obtain ⟨t, ht⟩ := ha
  rw [normal_eq, ← ht, runK_append, h]
  rfl

theorem normal_join {l : List UInt8} {K : List (List UInt8)} (h : runK [] (pcs l) = some K) : normal l = join K := by
  rw [normal_eq, h, join_eq (runK_noslash (by simp) (fun x hx => pcs_mem hx) h)]
  rfl
end Pt

set_option maxRecDepth 100000 in
set_option maxHeartbeats 8000000 in
theorem r8normal_any (s : ByteArray) (hs : s.size ≤ 20000) (w : World) :
    Calls Tryd.prog 28 #[.string s] w fun e w' => e = numV (Pt.normal s.data.toList) ∧ Quiet w w' := by
  obtain ⟨i0, hi, hz0, hz1, hz2⟩ := info_parts info_str
  have HP := Lib.hid (r8pieces_any s (by omega) w)
  have hPn : (Pt.pcs s.data.toList).length ≤ 20001 := by
    have h1 := Pt.len_tot (Pt.pcs s.data.toList)
    rw [Pt.pcs_tot, ← Lib.size_eq] at h1
    omega
  have HPL : Hid (∀ p ∈ Pt.pcs s.data.toList, p.length ≤ 20000) := fun p hp => by
    have h1 := Pt.pcs_tot s.data.toList
    obtain ⟨a, b, hab⟩ := List.append_of_mem hp
    rw [hab, Pt.tot_append, ← Lib.size_eq] at h1
    simp only [Pt.tot] at h1
    omega
  have HNN := Lib.hid (fun a ha h => Pt.normal_none (l := s.data.toList) (a := a) ha h)
  have HNJ := Lib.hid (fun K h => Pt.normal_join (l := s.data.toList) (K := K) h)
  generalize Pt.pcs s.data.toList = P at *
  generalize Pt.normal s.data.toList = ANS at *
  go_enter Tryd.func28, Tryd.ntmps28
  go_wp2_with fail
  refine HP.out.mono ?_
  rintro e w1 ⟨v, rfl, how, hq⟩
  have ht := TextsAt.of_row how
  obtain ⟨va, vc, rfl, _⟩ := ht.shape
  have HT := Lib.hid ht
  have HQ := Lib.hid hq
  clear how hq ht
  go_wp2_with fail
  go_loopw [5, 6] (fun ov iv wr => ∃ (u : Value) (i : Nat) (K : List (List UInt8)), u = ov ∧ iv = .int .i64 (i : Int) ∧ i ≤ P.length ∧ Hid (Pt.runK [] (P.take i) = some K) ∧ K.length ≤ i ∧ Hid (∀ x ∈ K, x ∈ P) ∧ wr.ownsRow w1.heap.size 9 1 u K.length (K.map txV) ∧ Below w1.heap.size w1 wr) (fun _ iv _ => P.length - (intOf iv).toNat)
  case atStart => exact ⟨_, 0, [], rfl, rfl, Nat.zero_le _, rfl, Nat.le_refl _, by unfold Hid; simp, World.ownsRow_nil _ _ _ _, Below.refl _ _⟩
  case round =>
    obtain ⟨u, i, K, rfl, rfl, hi', hrun, hKi, hKP, how, hB⟩ := hrel
    obtain ⟨ua, uc, rfl⟩ := own_shape how
    by_cases hlt : i < P.length
    · obtain ⟨x, hx⟩ : ∃ x, P[i]? = some x := ⟨_, List.getElem?_eq_getElem hlt⟩
      obtain ⟨ad, c, e, hcx⟩ := HT.out.cell hx
      obtain ⟨rfl, _, rfl⟩ := Value.slice.inj e
      have hxm := List.mem_of_getElem? hx
      have hS0 : ad.block < w1.heap.size := by
        have := lt_of_cell' hcx
        rwa [add_block] at this
      have hcr : ∀ W, Below w1.heap.size w1 W → W.cell? (ad.add i) = some (txV x) := fun W hW => (hW.cell (p := ad.add i) (by rw [add_block]; exact hS0)).trans hcx
      have hcw := hcr wr hB
      have htk : P.take (i + 1) = P.take i ++ [x] := by rw [List.take_add_one, hx]; rfl
      have HR : Hid (Pt.runK [] (P.take (i + 1)) = Pt.stepK K x) := by unfold Hid; rw [htk, Pt.runK_snoc hrun.out]
      have HSM := Lib.hid (fun K' (h : Pt.stepK K x = some K') => Pt.stepK_mem h)
      have hpre : P.take (i + 1) <+: P := List.take_prefix _ _
      have hi1 : (0 : Int) ≤ (i : Int) := by omega
      have hi2 : (i : Int) < (P.length : Int) := by omega
      have HW := Lib.hid (And.intro how hB)
      obtain ⟨X, hX⟩ : ∃ X, ByteArray.mk x.toArray = X := ⟨_, rfl⟩
      have hXl : X.toList = x := by rw [Lib.toList_data, ← hX]
      have HXV : Hid (Value.string X = txV x) := by unfold Hid txV; rw [hX]
      unfold txV at hcw
      rw [hX] at hcw
      have hsz := hB.size
      clear hx e hcx hS0 hcr htk hX how hrun
      have HKP := hKP
      have keep : ∀ K', Pt.stepK K x = some K' → Hid (∀ y ∈ K', y ∈ P) := fun K' h y hy => by
        rcases (HSM.out K' h).2 y hy with h1 | h1
        · exact HKP.out y h1
        · rw [h1]; exact hxm
      have KEEP := Lib.hid keep
      clear keep
      cases cA : (X.toList == []) with
      | true =>
        have HS : Hid (Pt.stepK K x = some K) := by
          rw [hXl, beq_iff_eq] at cA
          unfold Hid Pt.stepK
          rw [if_pos (.inl cA)]
        clear hB hXl
        go_wp2
        go_roundw
        case rel => exact ⟨_, i + 1, K, rfl, by go_num, hlt, HR.out.trans HS.out, by omega, hKP, HW.out.1, HW.out.2⟩
        case measure => simp [intOf]; omega
      | false =>
        cases cB : (X.toList == [46]) with
        | true =>
          have HS : Hid (Pt.stepK K x = some K) := by
            rw [hXl, beq_iff_eq] at cB
            unfold Hid Pt.stepK
            rw [if_pos (.inr cB)]
          clear hB hXl
          go_wp2
          go_roundw
          case rel => exact ⟨_, i + 1, K, rfl, by go_num, hlt, HR.out.trans HS.out, by omega, hKP, HW.out.1, HW.out.2⟩
          case measure => simp [intOf]; omega
        | false =>
          have nA : x ≠ [] := by rw [hXl, beq_eq_false_iff_ne] at cA; exact cA
          have nB : x ≠ [46] := by rw [hXl, beq_eq_false_iff_ne] at cB; exact cB
          cases cC : (X.toList == [46, 46]) with
          | false =>
            have HS : Hid (Pt.stepK K x = some (K ++ [x])) := by
              rw [hXl, beq_eq_false_iff_ne] at cC
              unfold Hid Pt.stepK
              rw [if_neg (by simp [nA, nB]), if_neg cC]
            have HK2 := KEEP.out _ HS.out
            clear hB hXl nA nB
            go_wp2_with (at_builtin; refine wpList_append_own _ rfl _ _ 25 rfl w1.heap.size 9 i0 (.string ⟨#[]⟩) 1 16 Tryd.underlying25 hi hz0 hz1 hz2 rfl (by decide) _ K.length _ rfl (HW.out.1.alloc _) ⟨wr.heap.size, 0, none⟩ 1 1 [.string X] rfl rfl (cell_one_new _ _ _) (by simp [Value.oneCell']) (by unfold maxLen; omega) (by omega) (by simp; omega) ?_; intro v' w4 hown' hgrow _; obtain ⟨g, cap, rfl, hrow, hbl⟩ := row_more HW.out.1 hsz hown' hgrow; have HH := Lib.hid (And.intro hrow hbl); clear hown' hgrow hrow hbl)
            go_roundw
            case rel =>
              refine ⟨_, i + 1, K ++ [x], rfl, by go_num, hlt, HR.out.trans HS.out, by simp; omega, HK2, ?_, HW.out.2.trans HH.out.2⟩
              have := HH.out.1
              rw [HXV.out] at this
              rw [List.length_append, List.length_singleton, List.map_append, List.map_singleton]
              exact this
            case measure => simp [intOf]; omega
          | true =>
            have nC : x = [46, 46] := by rw [hXl, beq_iff_eq] at cC; exact cC
            by_cases hK0 : K = []
            · have HS : Hid (Pt.stepK K x = none) := by
                unfold Hid Pt.stepK
                rw [if_neg (by simp [nA, nB]), if_pos nC, if_pos hK0]
              have HA : Hid (ANS = none) := HNN.out _ hpre (HR.out.trans HS.out)
              have hkz : ((K.length : Int) == 0) = true := by rw [hK0]; rfl
              clear hB hXl nA nB nC hK0
              go_wp2
              go_ret2
              exact ⟨by rw [HA.out]; rfl, HQ.out.trans ((quiet_below HW.out.2).mono (fun _ _ x => x))⟩
            · obtain ⟨K2, q, rfl⟩ : ∃ K2 q, K = K2 ++ [q] := ⟨K.dropLast, K.getLast hK0, (List.dropLast_concat_getLast hK0).symm⟩
              have HS : Hid (Pt.stepK (K2 ++ [q]) x = some K2) := by
                unfold Hid Pt.stepK
                rw [if_neg (by simp [nA, nB]), if_pos nC, if_neg hK0]
                simp
              have HK2 := KEEP.out _ HS.out
              have hlk : (K2 ++ [q]).length = K2.length + 1 := by simp
              have hown2 := HW.out.1
              rw [hlk] at hown2
              obtain ⟨g0, cap0, hshape⟩ := ownsRow_succ hown2
              obtain ⟨rfl, _, rfl⟩ := Value.slice.inj hshape
              have hcap0 : K2.length + 1 ≤ uc := by
                rcases hown2.2 with ⟨_, h0⟩ | ⟨g, cap, cur, h1, _, _, h2, _⟩
                · omega
                · have := (Value.slice.inj h1).2.2
                  omega
              have hcells := fun (j : Nat) (y : Value) (h : (K2.map txV)[j]? = some y) => hown2.cells (g := g0) rfl j y (by
                rw [List.map_append, List.getElem?_append_left (by have := (List.getElem?_eq_some_iff.1 h).1; simpa using this)]
                exact h)
              have HCL := Lib.hid hcells
              have HB := Lib.hid hB
              obtain ⟨w3, hw3⟩ : ∃ w3, wr.alloc (.cells #[] 9) = w3 := ⟨_, rfl⟩
              have hown3 : w3.ownsRow w1.heap.size 9 1 (.slice (some ⟨wr.heap.size, 0, none⟩) 0 0) 0 [] := by
                rw [← hw3]
                exact ⟨rfl, .inr ⟨wr.heap.size, 0, #[], rfl, hsz, World.alloc_heap_new wr _, Nat.le_refl _, Nat.zero_le _, rfl, rfl⟩⟩
              have hB3 : Below w1.heap.size w1 w3 := by rw [← hw3]; exact hB.alloc hsz _
              have HCL3 : Hid (∀ (j : Nat) (y : Value), (K2.map txV)[j]? = some y → w3.cell? ((⟨g0, 0, none⟩ : Addr).add j) = some y) := fun j y h => by
                rw [← hw3]
                exact cell_keep (Only.alloc (w := wr) (.cells #[] 9)) (fun x => x) (HCL.out j y h)
              have H3 := Lib.hid (And.intro hown3 hB3)
              have hsz3 := hB3.size
              have hkz : ¬ ((K2.length : Int) + 1 = 0) := by omega
              have hkz2 : (((K2.length : Int) + 1) == 0) = false := by rw [beq_eq_false_iff_ne]; omega
              have hk1 : (K2.length : Int) ≤ (uc : Int) := by omega
              have hk20 : (0 : Int) ≤ (K2.length : Int) := by omega
              have hkb : (K2.length : Int) ≤ 20001 := by rw [hlk] at hKi; omega
              rw [hlk] at hKi ⊢
              clear hB hXl nA nB nC hK0 hown2 hshape hcells hown3 hB3 hlk HW HCL
              go_wp2_with (at_builtin; refine wpList_append_own _ rfl _ _ 25 rfl w1.heap.size 9 i0 (.string ⟨#[]⟩) 1 16 Tryd.underlying25 hi hz0 hz1 hz2 rfl (by decide) _ 0 [] rfl H3.out.1 ⟨g0, 0, none⟩ K2.length uc (K2.map txV) rfl (by simp) HCL3.out (fun y hy => by obtain ⟨z, _, rfl⟩ := List.mem_map.1 hy; rfl) (by unfold maxLen; omega) (by omega) hsz3 ?_; intro v' w4 hown' hgrow _; obtain ⟨a4, c4, rfl⟩ := own_shape hown'; have HH := Lib.hid (And.intro hown' (H3.out.2.trans (own_below H3.out.1 hsz3 hgrow))); clear hown' hgrow)
              go_roundw
              case rel =>
                refine ⟨_, i + 1, K2, rfl, by go_num, hlt, HR.out.trans HS.out, by omega, HK2, ?_, HH.out.2⟩
                have := HH.out.1
                rw [Nat.zero_add, List.nil_append] at this
                first
                  | exact this
                  | (simp only [Nat.zero_add]; exact this)
              case measure => simp [intOf]; omega
    · obtain rfl : i = P.length := by omega
      have hr := hrun.out
      rw [List.take_length] at hr
      have hA := HNJ.out K hr
      have HA := Lib.hid hA
      have HJ := Lib.hid (r8join_any (TextsAt.of_row how) (fun p hp => by have := HPL.out p (hKP.out p hp); omega) (by omega))
      have HB := Lib.hid hB
      clear hr hA how hB hrun
      go_wp2_with fail
      refine HJ.out.mono ?_
      rintro e w5 ⟨he, hq5⟩
      have HF := Lib.hid ((HQ.out.trans (quiet_below HB.out)).trans hq5)
      clear hq5
      rw [← HA.out] at he
      clear HJ HA
      cases ANS with
      | none =>
        have he2 : e = .returned (.tuple #[.string ⟨#[]⟩, .int .i64 12]) := he
        subst he2
        go_wp2_with fail
        go_ret2
        exact ⟨rfl, HF.out⟩
      | some l =>
        have he2 : e = .returned (.tuple #[txV l, .int .i64 0]) := he
        subst he2
        go_wp2_with fail
        go_ret2
        exact ⟨rfl, HF.out⟩

end Go.Proofs.YtbfcjlpakngmhaaDoor
