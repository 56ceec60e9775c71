/- wire.Frame. Conditions: parts that are few and short. -/
import Derived.Test.YtlfbdhgppmmahaaWiPack
namespace Go.Proofs.Ytlfbdhgppmmahaa
open Go.RowKit

theorem frame_take {fs : List (List UInt8)} {i : Nat} (h : i < fs.length) (H : List UInt8) : H ++ (fs.take (i + 1)).flatten = (H ++ (fs.take i).flatten) ++ fs[i] := by
  rw [flatten_take_succ h, List.append_assoc]

theorem frameOf_eq (x : UInt8) (fs : List (List UInt8)) : Wi.frameOf x fs.flatten = ([x] ++ Wi.var (tot fs)) ++ fs.flatten := by
  simp [Wi.frameOf, Wi.fieldOf, tot]

set_option maxRecDepth 100000 in
set_option maxHeartbeats 1000000 in
theorem frame_any {w : World} {x : UInt8} {S : Nat → Prop} {v : Value} {fs : List (List UInt8)} (hv : PartsAt w S v fs) (hS : ∀ k, S k → k < w.heap.size) (hp : Parts fs) :
    Calls Try.prog 6 #[byteV x, v] w fun e w' => ∃ a c, e = .returned (.slice a (Wi.frameOf x fs.flatten).length c) ∧ Row w w' (.slice a (Wi.frameOf x fs.flatten).length c) (Wi.frameOf x fs.flatten) := by
  obtain ⟨va, vc, rfl, hcp, -⟩ := id hv
  have HV := Lib.hid hv; have HS := Lib.hid hS
  obtain ⟨i0, hi0, hz0, hz1, hz2⟩ := info_parts info_u8
  have HFO := Lib.hid (frameOf_eq x fs)
  generalize Wi.frameOf x fs.flatten = FO at *
  clear hv hS hcp
  unfold byteV
  go_enter Try.func6, Try.ntmps6
  go_wp2
  go_loopw [5, 13] (fun nv iv wr => ∃ i R : Nat, i ≤ fs.length ∧ iv = .int .i64 i ∧ nv = .int .i64 (R : Int) ∧ R = tot (fs.take i) ∧ wr = w) (fun _ iv _ => fs.length - (intOf iv).toNat)
  case atStart => exact ⟨0, 0, Nat.zero_le _, rfl, rfl, by simp [tot], rfl⟩
  case round =>
    obtain ⟨i, R, hi, rfl, rfl, hR, rfl⟩ := hrel
    have hcnt := hp.cnt
    have hsum := hp.sum
    by_cases hlt : i < fs.length
    · obtain ⟨ad, ua, uc, rfl, hsb, hc, hby⟩ := HV.out.get hlt
      have h1 := hp.one hlt
      have h2 := tot_get hlt
      have h3 := tot_le fs (i + 1)
      have HN : Hid (R + fs[i].length = tot (fs.take (i + 1))) := by unfold Hid; omega
      have hRl : R + fs[i].length ≤ 1048576 := by omega
      have pz : 0 ≤ (i : Int) := by omega
      have mz : (i : Int) < (fs.length : Int) := by omega
      clear hby hsb h2 h3 hR hsum
      generalize fs[i].length = L at *
      have g1 : ¬ (R : Int) + (L : Int) > 67108864 := by omega
      go_wp2
      exact ⟨⟨i + 1, R + L, by omega, by go_num, by simp, HN.out, trivial⟩, by simp [intOf]; omega⟩
    · have hi' : i = fs.length := by omega
      have HRT : Hid (R = tot fs) := by unfold Hid; rw [hR, hi', List.take_length]
      have hRl : R ≤ 1048576 := by rw [HRT.out]; omega
      have HB8 : Hid (i0.bytes * (5 + R) ≤ 281474976710656) := by unfold Hid; rw [hz2]; omega
      have HBM : Hid (5 + R ≤ maxLen) := by unfold Hid maxLen; omega
      clear hR hsum
      obtain ⟨w0, hw0⟩ : ∃ q, q = wr := ⟨_, rfl⟩
      subst hw0
      have HSRC : Hid (∀ w1 : World, BytesAt (w1.alloc (.cells #[.int .u8 (x.toNat : Int)] 5)) (fun k => k = w1.heap.size) (.slice (some ⟨w1.heap.size, 0, none⟩) 1 1) [x]) := fun w1 => one_byte w1 x
      have HAV : Hid (∀ (w2 : World) (a : Option Addr) (c : Nat), Row w0 w2 (.slice a 1 c) [x] → Calls Try.prog 16 #[.slice a 1 c, .int .i64 (R : Int)] w2 fun e w' => ∃ a c, e = .returned (.slice a ([x] ++ Wi.var R).length c) ∧ Row w0 w' (.slice a ([x] ++ Wi.var R).length c) ([x] ++ Wi.var R)) := fun w2 a c h => addVar_any h (by omega) (by simp)
      have hvl : ([x] ++ Wi.var R).length ≤ 10 := by
        have := Wi.var_length 8 R (by simp; omega)
        simp; omega
      have HHL := Lib.hid hvl
      have HFO2 : Hid (FO = ([x] ++ Wi.var R) ++ fs.flatten) := by unfold Hid; rw [HFO.out, HRT.out]
      clear hvl HFO HRT
      generalize [x] ++ Wi.var R = HD at *
      go_wp2_with (first
        | (at_make; refine wpList_make_own _ rfl _ _ 22 rfl 0 5 i0 _ 1 Try.underlying22 hi0 hz0 hz1 .i64 .i64 _ (5 + R) rfl rfl (by simp) HB8.out HBM.out (Nat.zero_le _) ?_; intro w1 hr1 hg1; have HR1 := Lib.hid (Row.made hr1 hg1); have HRA : Hid (∀ y, (w1.alloc y).ownsRow 0 5 1 (.slice (some ⟨w0.heap.size, 0, none⟩) 0 (5 + R)) 0 []) := (fun y => hr1.alloc y); clear hr1 hg1)
        | (at_builtin; refine wpList_append_bytes _ rfl _ _ rfl (.slice (some ⟨w0.heap.size, 0, none⟩) 0 (5 + R)) (.slice (some ⟨w1.heap.size, 0, none⟩) 1 1) 0 [] rfl rfl (HRA.out _) (HSRC.out _) (by simp) ?_; intro a2 c2 w2 hr2 hg2 hat2; have HR2 := Lib.hid (HR1.out.app (Only.alloc _) rfl hr2 hg2 hat2); clear hr2 hg2 hat2)
        | (go_at_call 16; refine (HAV.out _ _ _ HR2.out).mono ?_; rintro e w3 ⟨a3, c3, rfl, hr3⟩; have HR3 := Lib.hid hr3; clear hr3))
      clear HB8 HBM
      go_loopw [8, 36] (fun ov iv wr => ∃ j : Nat, j ≤ fs.length ∧ iv = .int .i64 j ∧ Row w0 wr ov (HD ++ (fs.take j).flatten)) (fun _ iv _ => fs.length - (intOf iv).toNat)
      case atStart => exact ⟨0, Nat.zero_le _, rfl, by simpa using HR3.out⟩
      case round =>
        obtain ⟨j, hj, rfl, hrow⟩ := hrel
        by_cases hjlt : j < fs.length
        · obtain ⟨ad, ua, uc, rfl, hsb, hc, hby⟩ := HV.out.get hjlt
          have hc' : wr.cell? (ad.add j) = some (.slice ua fs[j].length uc) := by
            rw [World.cell?_of_block (w := w0) (by rw [add_block]; exact hrow.only.block _ (HS.out _ hsb) (fun x => x))]; exact hc
          have HBY := Lib.hid (hby.here hrow.only HS.out)
          have h1 := hp.one hjlt
          have h3 := tot_le fs j
          have HPT := Lib.hid (frame_take hjlt HD)
          have HPL : Hid ((HD ++ (fs.take j).flatten).length + fs[j].length ≤ 140737488355328) := by
            have := HHL.out
            have := hp.sum
            unfold Hid; rw [List.length_append]; unfold tot at h3 this; omega
          have pz : 0 ≤ (j : Int) := by omega
          have mz : (j : Int) < (fs.length : Int) := by omega
          obtain ⟨oa, oc, rfl⟩ := hrow.shape
          have HROW := Lib.hid hrow
          clear hrow hc hby hsb HR1 HR2 HR3 h3
          generalize hXV : HD ++ (fs.take j).flatten = XV at *
          go_wp2_with (at_builtin; refine wpList_append_bytes _ rfl _ _ rfl (.slice oa XV.length oc) (.slice ua fs[j].length uc) XV.length (XV.map byteV) rfl rfl HROW.out.row HBY.out HPL.out ?_; intro a5 c5 w5 hr5 hg5 hat5; have HR5 := Lib.hid (HROW.out.app (Only.refl _ _) rfl hr5 hg5 hat5); clear hr5 hg5 hat5)
          exact ⟨⟨j + 1, by omega, by go_num, by rw [HPT.out]; exact HR5.out⟩, by simp [intOf]; omega⟩
        · have e : fs.take j = fs := List.take_of_length_le (by omega)
          rw [e, ← HFO2.out] at hrow
          obtain ⟨oa, oc, rfl⟩ := hrow.shape
          have HRF := Lib.hid hrow
          clear hrow e HR1 HR2 HR3
          go_wp2
          go_ret
          exact ⟨oa, oc, rfl, HRF.out⟩

end Go.Proofs.Ytlfbdhgppmmahaa
