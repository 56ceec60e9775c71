/- wire.Pack, wire.Frame. Conditions: parts that are few and short. -/
import Derived.Test.YtgdnmbchhfbjoaaDoorWiVar
namespace Go.Proofs.YtgdnmbchhfbjoaaDoor
open Go.RowKit

/-- How many bytes there are together. -/
def tot (ps : List (List UInt8)) : Nat := ps.flatten.length

namespace Wi
theorem pack_len (fs : List (List UInt8)) (h : ∀ f ∈ fs, f.length < 9223372036854775808) : (pack fs).length ≤ 9 * fs.length + tot fs := by
  induction fs with
  | nil => simp [pack]
  | cons f fs ih =>
    have h1 := ih (fun g hg => h g (by simp [hg]))
    have h2 := var_length 8 f.length (by simpa using h f (by simp))
    rw [pack_cons, List.length_append, field_len]
    unfold tot at h1 ⊢
    simp only [List.length_cons, List.flatten_cons, List.length_append]
    omega
theorem pack_take {fs : List (List UInt8)} {i : Nat} (h : i < fs.length) : pack (fs.take (i + 1)) = (pack (fs.take i) ++ var fs[i].length) ++ fs[i] := by
  rw [List.take_succ_eq_append_getElem h, pack_append, pack_cons, pack_nil, fieldOf, List.append_nil, List.append_assoc]
end Wi

/-- Parts that are few and short. -/
structure Parts (fs : List (List UInt8)) : Prop where
  cnt : fs.length ≤ 1048576
  sum : tot fs ≤ 1048576

theorem tot_get {fs : List (List UInt8)} {i : Nat} (h : i < fs.length) : tot (fs.take (i + 1)) = tot (fs.take i) + fs[i].length := by
  unfold tot; rw [flatten_take_succ h, List.length_append]
theorem tot_le (fs : List (List UInt8)) (i : Nat) : tot (fs.take i) ≤ tot fs := flatten_take_le fs i
theorem Parts.one {fs : List (List UInt8)} (h : Parts fs) {i : Nat} (hi : i < fs.length) : fs[i].length ≤ 1048576 := by
  have := tot_get hi; have := tot_le fs (i + 1); have := h.sum; omega
theorem Parts.mem {fs : List (List UInt8)} (h : Parts fs) {f : List UInt8} (hf : f ∈ fs) : f.length ≤ 1048576 := by
  obtain ⟨i, hi, rfl⟩ := List.getElem_of_mem hf
  exact h.one hi

theorem Parts.packLen {fs : List (List UInt8)} (h : Parts fs) (i : Nat) : (Wi.pack (fs.take i)).length ≤ 16777216 := by
  have h1 := Wi.pack_len (fs.take i) (fun f hf => by have := h.mem (List.mem_of_mem_take hf); omega)
  have h2 := tot_le fs i
  have h3 := h.sum
  have h4 := h.cnt
  have h5 : (fs.take i).length ≤ fs.length := by simp; omega
  omega

theorem Row.made {w w1 : World} {c : Nat} (hr : w1.ownsRow 0 5 1 (.slice (some ⟨w.heap.size, 0, none⟩) 0 c) 0 []) (hg : w.grownBy w1 none) : Row w w1 (.slice (some ⟨w.heap.size, 0, none⟩) 0 c) [] :=
  ⟨hr, fun q hq => (by have : w.heap.size = q := Option.some.inj hq; omega), (Only.of_grown hg).mono (fun _ _ h => by cases h)⟩

/-- The i-th part, at any later world. -/
theorem PartsAt.get {w : World} {S : Nat → Prop} {va : Option Addr} {n vc i : Nat} {ps : List (List UInt8)} (h : PartsAt w S (.slice va n vc) ps) (hi : i < ps.length) : ∃ ad ua uc, va = some ad ∧ S ad.block ∧ w.cell? (ad.add i) = some (.slice ua ps[i].length uc) ∧ BytesAt w S (.slice ua ps[i].length uc) ps[i] := by
  obtain ⟨a, c, e, _, hat⟩ := h
  obtain ⟨rfl, _, _⟩ := Value.slice.inj e
  obtain ⟨ad, u, e1, e2, e3, e4⟩ := hat i hi
  obtain ⟨ua, uc, rfl⟩ := e4.shape
  exact ⟨ad, ua, uc, e1, e2, e3, e4⟩

/-- The room that Pack asks for. -/
def roomOf (fs : List (List UInt8)) : Nat := 4 * fs.length + tot fs

set_option maxRecDepth 100000 in
set_option maxHeartbeats 1000000 in
theorem pack_any {w : World} {S : Nat → Prop} {v : Value} {fs : List (List UInt8)} (hv : PartsAt w S v fs) (hS : ∀ k, S k → k < w.heap.size) (hp : Parts fs) :
    Calls Tryd.prog 39 #[v] w fun e w' => ∃ a c, e = .returned (.slice a (Wi.pack fs).length c) ∧ Row w w' (.slice a (Wi.pack fs).length c) (Wi.pack fs) := by
  obtain ⟨va, vc, rfl, hcp, -⟩ := id hv
  have HV := Lib.hid hv; have HS := Lib.hid hS
  obtain ⟨i0, hi0, hz0, hz1, hz2⟩ := info_parts info_u8
  clear hv hS hcp
  go_enter Tryd.func39, Tryd.ntmps39
  go_wp2
  go_loopw [3, 11] (fun nv iv wr => ∃ i R : Nat, i ≤ fs.length ∧ iv = .int .i64 i ∧ nv = .int .i64 (R : Int) ∧ R = 4 * i + tot (fs.take i) ∧ wr = w) (fun _ iv _ => fs.length - (intOf iv).toNat)
  case atStart => exact ⟨0, 0, Nat.zero_le _, rfl, rfl, by simp [tot], rfl⟩
  case round =>
    obtain ⟨i, R, hi, rfl, rfl, hR, rfl⟩ := hrel
    have hcnt := hp.cnt
    have hsum := hp.sum
    by_cases hlt : i < fs.length
    · obtain ⟨ad, ua, uc, rfl, hsb, hc, hby⟩ := HV.out.get hlt
      have h1 := hp.one hlt
      have h2 := tot_get hlt
      have h3 := tot_le fs (i + 1)
      have HN : Hid (R + (4 + fs[i].length) = 4 * (i + 1) + tot (fs.take (i + 1))) := by unfold Hid; omega
      have hRl : R ≤ 16777216 := by omega
      have pz : 0 ≤ (i : Int) := by omega
      have mz : (i : Int) < (fs.length : Int) := by omega
      clear hby hsb h2 h3 hR hsum
      generalize fs[i].length = L at *
      have g1 : ¬ (L : Int) > 67108864 := by omega
      go_wp2
      exact ⟨⟨i + 1, R + (4 + L), by omega, by go_num, by simp, HN.out, trivial⟩, by simp [intOf]; omega⟩
    · have hi' : i = fs.length := by omega
      have h3 := tot_le fs i
      have hRl : R ≤ 16777216 := by omega
      have HB8 : Hid (i0.bytes * R ≤ 281474976710656) := by unfold Hid; rw [hz2]; omega
      have HBM : Hid (R ≤ maxLen) := by unfold Hid maxLen; omega
      clear hR h3 hsum
      go_wp2_with (at_make; refine wpList_make_own _ rfl _ _ 23 rfl 0 5 i0 _ 1 Tryd.underlying23 hi0 hz0 hz1 .i64 .i64 _ R rfl rfl (by simp) HB8.out HBM.out (Nat.zero_le _) ?_; intro w1 hr1 hg1; have HR1 := Lib.hid (Row.made hr1 hg1); clear hr1 hg1)
      clear HB8 HBM
      obtain ⟨w0, hw0⟩ : ∃ q, q = wr := ⟨_, rfl⟩
      subst hw0
      go_loopw [6, 28] (fun ov iv wr => ∃ j : Nat, j ≤ fs.length ∧ iv = .int .i64 j ∧ Row w0 wr ov (Wi.pack (fs.take j))) (fun _ iv _ => fs.length - (intOf iv).toNat)
      case atStart => exact ⟨0, Nat.zero_le _, rfl, by simpa [Wi.pack] using HR1.out⟩
      case round =>
        obtain ⟨j, hj, rfl, hrow⟩ := hrel
        by_cases hjlt : j < fs.length
        · obtain ⟨ad, ua, uc, rfl, hsb, hc, hby⟩ := HV.out.get hjlt
          have hc' : wr.cell? (ad.add j) = some (.slice ua fs[j].length uc) := by
            rw [World.cell?_of_block (w := w0) (by rw [add_block]; exact hrow.only.block _ (HS.out _ hsb) (fun x => x))]; exact hc
          have HBY := Lib.hid hby
          have hpl := hp.packLen j
          have hpl1 := hp.packLen (j + 1)
          have h1 := hp.one hjlt
          have HAV := Lib.hid (addVar_any hrow (n := fs[j].length) (by omega) (by omega))
          have HPT := Lib.hid (Wi.pack_take hjlt)
          rw [HPT.out] at hpl1
          have HPL : Hid ((Wi.pack (fs.take j) ++ Wi.var fs[j].length).length + fs[j].length ≤ 140737488355328) := by
            unfold Hid; rw [← List.length_append]; omega
          have pz : 0 ≤ (j : Int) := by omega
          have mz : (j : Int) < (fs.length : Int) := by omega
          obtain ⟨oa, oc, rfl⟩ := hrow.shape
          clear hrow hc hby hpl hpl1 hsb HR1
          generalize (Wi.pack (fs.take j)).length = xl at *
          generalize hXV : Wi.pack (fs.take j) ++ Wi.var fs[j].length = XV at *
          go_wp2_with (first
            | (go_at_call 57; refine HAV.out.mono ?_; rintro e w2 ⟨a2, c2, rfl, hr2⟩; have HR2 := Lib.hid hr2; have HS2 := Lib.hid (HBY.out.here hr2.only HS.out); clear hr2)
            | (at_builtin; refine wpList_append_bytes _ rfl _ _ rfl (.slice a2 XV.length c2) (.slice ua fs[j].length uc) XV.length (XV.map byteV) rfl rfl HR2.out.row HS2.out HPL.out ?_; intro a3 c3 w3 hr3 hg3 hat3; have HR3 := Lib.hid (HR2.out.app (Only.refl _ _) rfl hr3 hg3 hat3); clear hr3 hg3 hat3))
          exact ⟨⟨j + 1, by omega, by go_num, by rw [HPT.out]; exact HR3.out⟩, by simp [intOf]; omega⟩
        · have e : fs.take j = fs := List.take_of_length_le (by omega)
          rw [e] at hrow
          obtain ⟨oa, oc, rfl⟩ := hrow.shape
          have HRF := Lib.hid hrow
          clear hrow e HR1
          go_wp2
          go_ret
          exact ⟨oa, oc, rfl, HRF.out⟩

end Go.Proofs.YtgdnmbchhfbjoaaDoor
