/- Lists that are the same. Conditions: rows within the reach. -/
import Derived.Test.YtnomgcbkaggmhaaWiPack
import Derived.Deep.RegionHeld3
namespace Go.Proofs.Ytnomgcbkaggmhaa
open Go.RowKit

set_option maxRecDepth 100000 in
set_option maxHeartbeats 1000000 in
theorem same_true {w : World} {S : Nat → Prop} {v u : Value} {ps : List (List UInt8)} (hv : PartsAt w S v ps) (hu : PartsAt w S u ps) (hS : ∀ k, S k → k < w.heap.size) (hn : ps.length ≤ 1048576) :
    Calls Try.prog 25 #[v, u] w fun e w' => e = .returned (.bool true) ∧ Only (fun _ => False) w w' := by
  obtain ⟨va, vc, rfl, _, -⟩ := id hv
  obtain ⟨ua, uc, rfl, _, -⟩ := id hu
  have HV := Lib.hid hv; have HU := Lib.hid hu; have HS := Lib.hid hS
  clear hv hu hS
  go_enter Try.func25, Try.ntmps25
  go_wp2
  go_loopw [13] (fun iv wr => ∃ i : Nat, i ≤ ps.length ∧ iv = .int .i64 i ∧ Only (fun _ => False) w wr) (fun iv _ => ps.length - (intOf iv).toNat)
  case atStart => exact ⟨0, Nat.zero_le _, rfl, Only.refl _ _⟩
  case round =>
    obtain ⟨i, hi, rfl, ho⟩ := hrel
    by_cases hlt : i < ps.length
    · have hv1 := HV.out.only ho HS.out (fun _ _ x => x)
      have hu1 := HU.out.only ho HS.out (fun _ _ x => x)
      obtain ⟨ad, xa, xc, rfl, _, hc1, hb1⟩ := hv1.get hlt
      obtain ⟨bd, ya, yc, rfl, _, hc2, hb2⟩ := hu1.get hlt
      have lt1 := World.block_lt_of_cell? _ _ hc1
      have lt2 := World.block_lt_of_cell? _ _ hc2
      have hS1 : ∀ k, S k → k < wr.heap.size := fun k hk => Nat.lt_of_lt_of_le (HS.out k hk) ho.size
      have c1 : ∀ W, Only (fun _ => False) wr W → W.cell? (ad.add i) = some (.slice xa ps[i].length xc) := fun W h => by rw [World.cell?_of_block (w := wr) (h.block _ lt1 (fun x => x))]; exact hc1
      have c2 : ∀ W, Only (fun _ => False) wr W → W.cell? (bd.add i) = some (.slice ya ps[i].length yc) := fun W h => by rw [World.cell?_of_block (w := wr) (h.block _ lt2 (fun x => x))]; exact hc2
      have t1 : ∀ W, Only (fun _ => False) wr W → (convert 22 9 (.slice xa ps[i].length xc)).run Try.prog W = .ok (.string ⟨ps[i].toArray⟩) W := fun W h => (hb1.only h hS1 (fun _ _ x => x)).text
      have t2 : ∀ W, Only (fun _ => False) wr W → (convert 22 9 (.slice ya ps[i].length yc)).run Try.prog W = .ok (.string ⟨ps[i].toArray⟩) W := fun W h => (hb2.only h hS1 (fun _ _ x => x)).text
      have pz : 0 ≤ (i : Int) := by omega
      have mz : (i : Int) < (ps.length : Int) := by omega
      have HO := Lib.hid ho
      have HD : Hid (Only (fun _ => False) wr wr.drew) := Only.drew
      clear ho hv1 hu1 hb1 hb2 hc1 hc2 lt1 lt2 hS1
      generalize ps[i] = p at *
      go_wp2_with fail
      go_region_held3 (fun W => Only (fun _ => False) wr W) (first | exact HD.out) (first | fail)
      go_wp2_with fail
      exact ⟨⟨i + 1, by omega, by go_num, HO.out.trans HD.out⟩, by simp [intOf]; omega⟩
    · have HO := Lib.hid ho
      clear ho
      go_wp2
      go_ret
      exact ⟨rfl, HO.out⟩

end Go.Proofs.Ytnomgcbkaggmhaa
