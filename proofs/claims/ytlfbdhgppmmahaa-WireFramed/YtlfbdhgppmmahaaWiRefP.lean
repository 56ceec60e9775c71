/- The document's own Pack. Conditions: parts that are few and short. -/
import Derived.Test.YtlfbdhgppmmahaaWiRefN
import Derived.Test.YtlfbdhgppmmahaaWiPack
import Derived.Deep.RegionHeld3
namespace Go.Proofs.Ytlfbdhgppmmahaa
open Go.RowKit

set_option maxRecDepth 100000 in
set_option maxHeartbeats 2000000 in
theorem r4pack_any {w : World} {S : Nat → Prop} {v : Value} {fs : List (List UInt8)} (hv : PartsAt w S v fs) (hS : ∀ k, S k → k < w.heap.size) (hp : Parts fs) :
    Calls Try.prog 17 #[v] w fun e w' => ∃ a c, e = .returned (.slice a (Wi.pack fs).length c) ∧ Row w w' (.slice a (Wi.pack fs).length c) (Wi.pack fs) := by
  obtain ⟨va, vc, rfl, hcp, -⟩ := id hv
  have HV := Lib.hid hv; have HS := Lib.hid hS
  have hcnt := hp.cnt
  clear hv hS hcp
  go_enter Try.func17, Try.ntmps17
  go_wp2
  go_loopw [3, 4] (fun ov iv wr => ∃ j : Nat, j ≤ fs.length ∧ iv = .int .i64 j ∧ Row w wr ov (Wi.pack (fs.take j))) (fun _ iv _ => fs.length - (intOf iv).toNat)
  case atStart => exact ⟨0, Nat.zero_le _, rfl, by simpa [Wi.pack] using Row.nil w⟩
  case round =>
    obtain ⟨j, hj, rfl, hrow⟩ := hrel
    by_cases hjlt : j < fs.length
    · obtain ⟨ad, ua, uc, rfl, hsb, hc, hby⟩ := HV.out.get hjlt
      have hcell : ∀ W, Only (fun _ => False) w W → W.cell? (ad.add j) = some (.slice ua fs[j].length uc) := fun W ho => by
        rw [World.cell?_of_block (w := w) (by rw [add_block]; exact ho.block _ (HS.out _ hsb) (fun x => x))]; exact hc
      have q0 : wr.cell? (ad.add j) = some (.slice ua fs[j].length uc) := hcell wr hrow.only
      have HCELL := Lib.hid hcell
      have HBY := Lib.hid hby
      have hpl := hp.packLen j
      have hpl1 := hp.packLen (j + 1)
      have h1 := hp.one hjlt
      have HPT := Lib.hid (Wi.pack_take hjlt)
      rw [HPT.out, List.length_append, List.length_append] at hpl1
      have HL1 : Hid ((Wi.pack (fs.take j)).length + (Wi.var fs[j].length).length ≤ 140737488355328) := by unfold Hid; omega
      have HL2 : Hid ((Wi.pack (fs.take j) ++ Wi.var fs[j].length).length + fs[j].length ≤ 140737488355328) := by unfold Hid; rw [List.length_append]; omega
      have HRV : Hid (∀ w1 : World, Calls Try.prog 24 #[.int .i64 (fs[j].length : Int)] w1 fun e w' => ∃ a c, e = .returned (.slice a (Wi.var fs[j].length).length c) ∧ Row w1 w' (.slice a (Wi.var fs[j].length).length c) (Wi.var fs[j].length)) := fun w1 => r4Var_any (by omega)
      have pz : 0 ≤ (j : Int) := by omega
      have mz : (j : Int) < (fs.length : Int) := by omega
      have g1 : ¬ (fs[j].length : Int) > 67108864 := by omega
      obtain ⟨oa, oc, rfl⟩ := hrow.shape
      have HROW := Lib.hid hrow
      clear hrow hc hby hpl hpl1 hsb hcell h1
      generalize Wi.var fs[j].length = V at *
      generalize hX : Wi.pack (fs.take j) = X at *
      generalize fs[j] = f at *
      go_wp2_with fail
      go_region_held3 (fun W => W.cell? (ad.add j) = some (.slice ua f.length uc)) (first | exact q0 | exact q5 | exact q6 | exact q7)
        (first
          | (go_simp; go_at_call 24; refine (HRV.out _).mono ?_; rintro e w5 ⟨a5, c5, rfl, hr5⟩; have HR5 := Lib.hid (HROW.out.kept (Only.drew.trans hr5.only)); have HB5 := Lib.hid hr5.bytes; have q5 := HCELL.out _ HR5.out.only; clear hr5)
          | (refine step_append_bytes (by rfl) _ _ (by rfl) (.slice oa X.length oc) (.slice a5 V.length c5) X.length (X.map byteV) rfl rfl HR5.out.row HB5.out HL1.out ?_; intro a6 c6 w6 hr6 hg6 hat6; have HR6 := Lib.hid (HR5.out.app (Only.refl _ _) rfl hr6 hg6 hat6); have HB6 := Lib.hid (HBY.out.here HR6.out.only HS.out); have q6 := HCELL.out _ HR6.out.only; clear hr6 hg6 hat6)
          | (refine step_append_bytes (by rfl) _ _ (by rfl) (.slice a6 (X.length + V.length) c6) (.slice ua f.length uc) (X.length + V.length) ((X ++ V).map byteV) rfl rfl (by have := HR6.out.row; rwa [List.length_append] at this) HB6.out (by have := HL2.out; rwa [List.length_append] at this) ?_; intro a7 c7 w7 hr7 hg7 hat7; have HR7 := Lib.hid (HR6.out.app (Only.refl _ _) (by rw [List.length_append]) hr7 hg7 hat7); have q7 := HCELL.out _ HR7.out.only; clear hr7 hg7 hat7))
      clear q0 q5 q6 q7
      go_wp2_with fail
      exact ⟨⟨j + 1, by omega, by go_num, by rw [HPT.out]; exact HR7.out⟩, by simp [intOf]; omega⟩
    · have e : fs.take j = fs := List.take_of_length_le (by omega)
      rw [e] at hrow
      obtain ⟨oa, oc, rfl⟩ := hrow.shape
      have HRF := Lib.hid hrow
      clear hrow e
      go_wp2
      go_ret
      exact ⟨oa, oc, rfl, HRF.out⟩

end Go.Proofs.Ytlfbdhgppmmahaa
