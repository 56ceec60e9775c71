/- tree's normal: what the paths of entries, and the links of hard links, mean. Conditions: texts of at most 100000 bytes. -/
import Derived.Test.YtikkfmmdgicigaaDoorTrRow
import Derived.Test.YtikkfmmdgicigaaDoorPaNorm
import Derived.Deep.DeepCutAuto
namespace Go.Proofs.YtikkfmmdgicigaaDoor
open Go.RowKit

namespace Tr
/-- An entry, its path and a hard link's link put into their own form. -/
def normE (e : En) : Option En :=
  match Pt.normal e.path with
  | none => none
  | some p => if e.kind = 4 then (match Pt.normal e.link with
    | none => none
    | some l => some { e with path := p, link := l }) else some { e with path := p }
def normL : List En → Option (List En)
  | [] => some []
  | e :: r => match normE e with
    | none => none
    | some e' => (normL r).map (e' :: ·)
theorem normL_none : ∀ {l : List En} {i : Nat} (h : i < l.length), normE l[i] = none → normL l = none
  | e :: r, 0, _, h => by unfold normL; rw [show normE e = none from h]
  | e :: r, i + 1, hi, h => by
    unfold normL
    cases normE e with
    | none => rfl
    | some e' =>
      show (normL r).map _ = none
      rw [normL_none (l := r) (i := i) (by simpa using hi) (by simpa using h)]
      rfl
theorem normL_some : ∀ {l m : List En}, m.length = l.length → (∀ i (h : i < l.length) (h2 : i < m.length), normE l[i] = some m[i]) → normL l = some m
  | [], [], _, _ => rfl
  | [], _ :: _, h, _ => by simp at h
  | _ :: _, [], h, _ => by simp at h
  | e :: r, f :: s, hl, h => by
    have h0 : normE e = some f := h 0 (Nat.zero_lt_succ _) (Nat.zero_lt_succ _)
    unfold normL
    rw [h0]
    show (normL r).map _ = _
    rw [normL_some (l := r) (m := s) (by simpa using hl) (fun i hi hj => h (i + 1) (Nat.succ_lt_succ hi) (Nat.succ_lt_succ hj))]
    rfl
theorem normE_plain {e : En} {p : List UInt8} (h : Pt.normal e.path = some p) (h4 : ¬ e.kind = 4) : normE e = some { e with path := p } := by
  unfold normE
  simp only [h]
  rw [if_neg h4]
theorem normE_link {e : En} {p l : List UInt8} (h : Pt.normal e.path = some p) (h4 : e.kind = 4) (hl : Pt.normal e.link = some l) : normE e = some { e with path := p, link := l } := by
  unfold normE
  simp only [h, hl]
  rw [if_pos h4]
theorem normE_bad {e : En} (h : Pt.normal e.path = none) : normE e = none := by
  unfold normE
  simp only [h]
theorem normE_bad2 {e : En} {p : List UInt8} (h : Pt.normal e.path = some p) (h4 : e.kind = 4) (hl : Pt.normal e.link = none) : normE e = none := by
  unfold normE
  simp only [h, hl]
  rw [if_pos h4]
end Tr

theorem normal_txt (p : List UInt8) (hs : p.length ≤ 100000) {w : World} (hU : U8 w) : Calls Tryd.prog 33 #[.string ⟨p.toArray⟩] w fun e w' => e = normV (Pt.normal p) ∧ Quiet w w' := by
  have := normal_any ⟨p.toArray⟩ (by rw [text_size]; exact hs) hU
  rwa [text_data] at this

/-- Of the same row of bytes, normal of the other. -/
def NormTo (x y : Ve) : Prop := y.1 = x.1 ∧ Tr.normE x.2 = some y.2
theorem NormTo.data {x y : Ve} (h : NormTo x y) : y.2.data = x.2.data := by
  obtain ⟨_, h⟩ := h
  unfold Tr.normE at h
  split at h
  · cases h
  · split at h
    · split at h
      · cases h
      · rw [← Option.some.inj h]
    · rw [← Option.some.inj h]

theorem set_mid {xs ys : List Ve} {x' : Ve} {i : Nat} (hy : ys.length = i) (hlt : i < xs.length) : (ys ++ xs.drop i).set i x' = (ys ++ [x']) ++ xs.drop (i + 1) := by
  rw [List.set_append_right _ _ (by omega), hy, Nat.sub_self, List.drop_eq_getElem_cons hlt, List.set_cons_zero]
  simp
theorem norm_snoc {xs ys : List Ve} {x' : Ve} {i : Nat} (h : ∀ j (h1 : j < xs.length) (h2 : j < ys.length), NormTo xs[j] ys[j]) (hlt : i < xs.length) (hy : ys.length = i) (hx : NormTo xs[i] x') :
    ∀ j (h1 : j < xs.length) (h2 : j < (ys ++ [x']).length), NormTo xs[j] (ys ++ [x'])[j] := by
  intro j h1 h2
  rcases Nat.lt_or_ge j i with hj | hj
  · rw [List.getElem_append_left (by omega)]
    exact h j h1 (by omega)
  · have : j = i := by rw [List.length_append, List.length_singleton] at h2; omega
    subst this
    rw [List.getElem_append_right (by omega)]
    simpa [hy] using hx

set_option maxRecDepth 100000 in
set_option maxHeartbeats 4000000 in
theorem tnormal_any {w : World} (hU : U8 w) {v : Value} {xs : List Ve} (h : EntsAt w (fun k => k < w.heap.size) v xs) (hf : ∀ x ∈ xs, x.2.path.length ≤ 100000 ∧ x.2.link.length ≤ 100000) (hn : xs.length ≤ 1000000) :
    Calls Tryd.prog 46 #[v] w fun e w' => ((e = .returned (.tuple #[.slice none 0 0, .iface 36 (.int .i64 12)]) ∧ Tr.normL (xs.map (·.2)) = none) ∨
      ∃ a c ys, e = .returned (.tuple #[.slice a ys.length c, .nilIface]) ∧ ERow w.heap.size w' (.slice a ys.length c) ys ∧ Tr.normL (xs.map (·.2)) = some (ys.map (·.2)) ∧ ys.length = xs.length) ∧ Only (fun _ => False) w w' := by
  have HC := Lib.hid (eclone_any h (by omega))
  have HN : Hid (∀ W (p : List UInt8), p.length ≤ 100000 → Only (fun _ => False) w W → Calls Tryd.prog 33 #[.string ⟨p.toArray⟩] W fun e w' => e = normV (Pt.normal p) ∧ Quiet W w') := fun W p hp ho => normal_txt p hp (hU.quiet ho)
  have HF := Lib.hid hf
  clear h hU hf
  go_enter Tryd.func46, Tryd.ntmps46
  go_wp2_with (go_at_call 59; refine HC.out.mono ?_; rintro e w1 ⟨a, c, rfl, hr1, ho1⟩; have HR1 := Lib.hid hr1; have HO1 := Lib.hid ho1; clear hr1 ho1)
  go_loopw [12] (fun iv wr => ∃ (i : Nat) (ys : List Ve), i ≤ xs.length ∧ iv = .int .i64 i ∧ ys.length = i ∧ (∀ j (h1 : j < xs.length) (h2 : j < ys.length), NormTo xs[j] ys[j]) ∧ ERow w.heap.size wr (.slice a xs.length c) (ys ++ xs.drop i) ∧ Only (fun _ => False) w wr) (fun iv _ => xs.length - (intOf iv).toNat)
  case atStart => exact ⟨0, [], Nat.zero_le _, rfl, rfl, fun j h1 h2 => by simp at h2, by simpa using HR1.out, HO1.out⟩
  case round =>
    obtain ⟨i, ys, hi, rfl, hyl, hnt, hrow, how⟩ := hrel
    by_cases hlt : i < xs.length
    · have hat : i < (ys ++ xs.drop i).length := by simp; omega
      have hget : (ys ++ xs.drop i)[i] = xs[i] := by rw [List.getElem_append_right (by omega)]; simp [hyl]
      obtain ⟨q, cc, ua, uc, ha, hq0, hqs, k0, k1, k2, k3, k4, k5, k6, k7, hv, hb, kf⟩ := hrow.at_ hat
      rw [hget] at k0 k1 k6 hv hb
      obtain ⟨rfl, -, rfl⟩ := Value.slice.inj ha
      clear ha
      have pz : 0 ≤ (i : Int) := by omega
      have mz : (i : Int) < (xs.length : Int) := by omega
      obtain ⟨hp, hl⟩ := HF.out xs[i] (List.getElem_mem hlt)
      have HOW := Lib.hid how; have HROW := Lib.hid hrow; have HB := Lib.hid hb; have HNT := Lib.hid hnt; have HY := Lib.hid hyl; have HV := Lib.hid hv
      have HQ0 := Lib.hid hq0
      have HSET : Hid (∀ W u j, Only (fun _ => False) w W → Only (fun _ => False) w (W.setCell ⟨q, j, none⟩ u)) := fun W u j ho => ho.andThen (Only.setCell ⟨q, j, none⟩ u) (fun k hk e => by have e2 : k = q := e; omega)
      have HLEN : Hid (i < (ys ++ xs.drop i).length) := hat
      clear k2 k3 k4 k5 k7 how hrow hb hnt hyl hget hat hv hq0
      obtain ⟨P, hP⟩ : ∃ P, Hid (xs[i].2.path = P) := ⟨_, Lib.hid rfl⟩
      obtain ⟨L, hL⟩ : ∃ L, Hid (xs[i].2.link = L) := ⟨_, Lib.hid rfl⟩
      obtain ⟨K, hK⟩ : ∃ K, Hid (xs[i].2.kind = K) := ⟨_, Lib.hid rfl⟩
      rw [hP.out] at k0 hp
      rw [hL.out] at k6 hl
      rw [hK.out] at k1
      cases hpn : Pt.normal P with
      | none =>
        go_wp2_with (go_at_call 33; refine (HN.out _ P hp HOW.out).mono ?_; rintro e w2 ⟨he, hq⟩; rw [hpn] at he; subst he; unfold normV; have j0 := cell_keep hq (fun x => x) k0; have jf : ∀ j, w2.frozen? ⟨q, j, none⟩ = false := (fun j => by rw [World.frozen?_of_block (hq.block q hqs (fun x => x))]; exact kf j); have HQ2 := Lib.hid hq; clear hq)
        go_ret2
        have hno : Tr.normE xs[i].2 = none := Tr.normE_bad (by rw [hP.out]; exact hpn)
        exact ⟨.inl ⟨rfl, Tr.normL_none (i := i) (by rw [List.length_map]; exact hlt) (by rw [List.getElem_map]; exact hno)⟩, HSET.out _ _ _ (HOW.out.trans HQ2.out)⟩
      | some pn =>
      have E6 : Hid (∀ (W : World) u, W.cell? ⟨q, i * 8 + 6, none⟩ = some (.string ⟨L.toArray⟩) → (W.setCell ⟨q, i * 8, none⟩ u).cell? ⟨q, i * 8 + 6, none⟩ = some (.string ⟨L.toArray⟩)) := fun W u h => by rw [World.cell?_setCell_other _ _ _ _ (by simp)]; exact h
      by_cases h4 : K = 4
      case neg =>
        go_wp2_with (go_at_call 33; refine (HN.out _ P hp HOW.out).mono ?_; rintro e w2 ⟨he, hq⟩; rw [hpn] at he; subst he; unfold normV; have j0 := cell_keep hq (fun x => x) k0; have j1 := cell_keep hq (fun x => x) k1; have j6 := cell_keep hq (fun x => x) k6; have jf : ∀ j, w2.frozen? ⟨q, j, none⟩ = false := (fun j => by rw [World.frozen?_of_block (hq.block q hqs (fun x => x))]; exact kf j); have HQ2 := Lib.hid hq; clear hq)
        go_roundw
        case rel =>
          have hlen := HLEN.out
          have hy := HY.out
          have hget : (ys ++ xs.drop i)[i] = xs[i] := by rw [List.getElem_append_right (by omega)]; simp [hy]
          have hro := (HROW.out.quiet HQ2.out).set (i := i) (j := 0) (u := .string ⟨pn.toArray⟩) (x' := (xs[i].1, { xs[i].2 with path := pn })) hlen (by omega) (by rw [hget]; rfl) (by rw [HV.out]; exact HB.out.kept (fun k hk => HQ2.out.block k (Nat.lt_of_lt_of_le hk HOW.out.size) (fun x => x)) (fun _ h => h))
          refine ⟨i + 1, ys ++ [(xs[i].1, { xs[i].2 with path := pn })], by omega, by go_num, by simp [hy], norm_snoc HNT.out hlt hy ⟨rfl, Tr.normE_plain (by rw [hP.out]; exact hpn) (by rw [hK.out]; exact h4)⟩, ?_, HSET.out _ _ _ (HOW.out.trans HQ2.out)⟩
          rw [set_mid hy hlt] at hro
          exact hro
        case measure => simp [intOf]; omega
      case pos =>
        cases hln : Pt.normal L with
        | none =>
          go_wp2_with (first | (have _t := HQ2; go_at_call 33; refine (HN.out _ L hl (HSET.out _ _ _ (HOW.out.trans HQ2.out))).mono ?_; rintro e w3 ⟨he, hq⟩; rw [hln] at he; subst he; unfold normV; have l6 := cell_keep hq (fun x => x) (E6.out w2 _ j6); have lf : ∀ j, w3.frozen? ⟨q, j, none⟩ = false := (fun j => by rw [World.frozen?_of_block (hq.block q (by simp [World.setCell]; exact Nat.lt_of_lt_of_le hqs HQ2.out.size) (fun x => x)), World.frozen?_setCell]; exact jf j); have HQ3 := Lib.hid hq; clear hq _t) | (go_at_call 33; refine (HN.out _ P hp HOW.out).mono ?_; rintro e w2 ⟨he, hq⟩; rw [hpn] at he; subst he; unfold normV; have j0 := cell_keep hq (fun x => x) k0; have j1 := cell_keep hq (fun x => x) k1; have j6 := cell_keep hq (fun x => x) k6; have jf : ∀ j, w2.frozen? ⟨q, j, none⟩ = false := (fun j => by rw [World.frozen?_of_block (hq.block q hqs (fun x => x))]; exact kf j); have HQ2 := Lib.hid hq; clear hq))
          go_ret2
          have hno : Tr.normE xs[i].2 = none := Tr.normE_bad2 (by rw [hP.out]; exact hpn) (by rw [hK.out]; exact h4) (by rw [hL.out]; exact hln)
          exact ⟨.inl ⟨rfl, Tr.normL_none (i := i) (by rw [List.length_map]; exact hlt) (by rw [List.getElem_map]; exact hno)⟩, HSET.out _ _ _ ((HSET.out _ _ _ (HOW.out.trans HQ2.out)).trans HQ3.out)⟩
        | some ln =>
          go_wp2_with (first | (have _t := HQ2; go_at_call 33; refine (HN.out _ L hl (HSET.out _ _ _ (HOW.out.trans HQ2.out))).mono ?_; rintro e w3 ⟨he, hq⟩; rw [hln] at he; subst he; unfold normV; have l6 := cell_keep hq (fun x => x) (E6.out w2 _ j6); have lf : ∀ j, w3.frozen? ⟨q, j, none⟩ = false := (fun j => by rw [World.frozen?_of_block (hq.block q (by simp [World.setCell]; exact Nat.lt_of_lt_of_le hqs HQ2.out.size) (fun x => x)), World.frozen?_setCell]; exact jf j); have HQ3 := Lib.hid hq; clear hq _t) | (go_at_call 33; refine (HN.out _ P hp HOW.out).mono ?_; rintro e w2 ⟨he, hq⟩; rw [hpn] at he; subst he; unfold normV; have j0 := cell_keep hq (fun x => x) k0; have j1 := cell_keep hq (fun x => x) k1; have j6 := cell_keep hq (fun x => x) k6; have jf : ∀ j, w2.frozen? ⟨q, j, none⟩ = false := (fun j => by rw [World.frozen?_of_block (hq.block q hqs (fun x => x))]; exact kf j); have HQ2 := Lib.hid hq; clear hq))
          go_roundw
          case rel =>
            have hlen := HLEN.out
            have hy := HY.out
            have hget : (ys ++ xs.drop i)[i] = xs[i] := by rw [List.getElem_append_right (by omega)]; simp [hy]
            have hb2 : BytesAt w2 (fun k => k < w.heap.size) xs[i].1 xs[i].2.data := by rw [HV.out]; exact HB.out.kept (fun k hk => HQ2.out.block k (Nat.lt_of_lt_of_le hk HOW.out.size) (fun x => x)) (fun _ h => h)
            have hro := (HROW.out.quiet HQ2.out).set (i := i) (j := 0) (u := .string ⟨pn.toArray⟩) (x' := (xs[i].1, { xs[i].2 with path := pn })) hlen (by omega) (by rw [hget]; rfl) hb2
            have hz2 : w.heap.size ≤ w2.heap.size := Nat.le_trans HOW.out.size HQ2.out.size
            have hb3 : BytesAt w3 (fun k => k < w.heap.size) xs[i].1 xs[i].2.data := hb2.kept (fun k hk => ((HSET.out w2 (.string ⟨pn.toArray⟩) (i * 8) (HOW.out.trans HQ2.out)).trans HQ3.out |>.block k hk (fun x => x)).trans ((HOW.out.trans HQ2.out).block k hk (fun x => x)).symm) (fun _ h => h)
            have hro3 := (hro.quiet HQ3.out).set (i := i) (j := 6) (u := .string ⟨ln.toArray⟩) (x' := (xs[i].1, { xs[i].2 with path := pn, link := ln })) (by rw [List.length_set]; exact hlen) (by omega) (by rw [List.getElem_set_self]; rfl) hb3
            refine ⟨i + 1, ys ++ [(xs[i].1, { xs[i].2 with path := pn, link := ln })], by omega, by go_num, by simp [hy], norm_snoc HNT.out hlt hy ⟨rfl, Tr.normE_link (by rw [hP.out]; exact hpn) (by rw [hK.out]; exact h4) (by rw [hL.out]; exact hln)⟩, ?_, HSET.out _ _ _ ((HSET.out _ _ _ (HOW.out.trans HQ2.out)).trans HQ3.out)⟩
            rw [List.set_set, set_mid hy hlt] at hro3
            exact hro3
          case measure => simp [intOf]; omega
    · have hin : i = xs.length := by omega
      subst hin
      have HOW := Lib.hid how; have HROW := Lib.hid hrow; have HNT := Lib.hid hnt; have HY := Lib.hid hyl
      clear how hrow hnt hyl
      go_wp2_with fail
      go_ret2
      have hr := HROW.out
      rw [List.drop_length, List.append_nil] at hr
      have hl2 : Tr.normL (xs.map (·.2)) = some (ys.map (·.2)) := Tr.normL_some (by simp [HY.out]) (fun j h1 h2 => by simpa using (HNT.out j (by simpa using h1) (by simpa using h2)).2)
      refine ⟨.inr ⟨a, c, ys, by rw [HY.out]; rfl, by rw [HY.out]; exact hr, hl2, HY.out⟩, HOW.out⟩

end Go.Proofs.YtikkfmmdgicigaaDoor
