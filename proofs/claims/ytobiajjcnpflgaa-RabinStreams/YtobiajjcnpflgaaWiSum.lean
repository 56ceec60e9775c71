/- amphoranum.Sum. Conditions: rows within the reach. -/
import Derived.Test.YtobiajjcnpflgaaWiPack
namespace Go.Proofs.Ytobiajjcnpflgaa
open Go.RowKit

set_option maxRecDepth 100000 in
set_option maxHeartbeats 1000000 in
theorem numSum_any {w : World} {S : Nat → Prop} {v : Value} {ps : List (List UInt8)} {most : Nat} (hv : PartsAt w S v ps) (hl : ∀ p ∈ ps, p.length ≤ 140737488355328) (hn : ps.length ≤ 140737488355328) (hm : most ≤ 1048576) :
    Calls Try.prog 21 #[v, .int .i64 (most : Int)] w fun e w' => e = .returned (.int .i64 ((min (tot ps) most : Nat) : Int)) ∧ w = w' := by
  obtain ⟨va, vc, rfl, hcp, hat⟩ := hv
  have HAT := Lib.hid hat; have HL := Lib.hid hl
  clear hat hl
  go_enter Try.func21, Try.ntmps21
  go_wp2
  go_loop [5, 10] (fun nv iv => ∃ i : Nat, i ≤ ps.length ∧ iv = .int .i64 i ∧ nv = .int .i64 (tot (ps.take i) : Int) ∧ tot (ps.take i) ≤ most) (fun _ iv => ps.length - (intOf iv).toNat)
  case atStart => exact ⟨0, Nat.zero_le _, rfl, rfl, Nat.zero_le _⟩
  case round =>
    obtain ⟨i, hi, rfl, rfl, hle⟩ := hrel
    by_cases hlt : i < ps.length
    · obtain ⟨ad, u, rfl, hsb, hcell, hby⟩ := HAT.out i hlt
      obtain ⟨ua, uc, rfl⟩ := hby.shape
      have hfl := flatten_take_succ hlt
      have hll := HL.out ps[i] (List.getElem_mem hlt)
      have hfe : tot (ps.take (i + 1)) = tot (ps.take i) + ps[i].length := by unfold tot; rw [hfl, List.length_append]
      have htl : tot (ps.take (i + 1)) ≤ tot ps := flatten_take_le ps (i + 1)
      have HFE := Lib.hid hfe; have HTL := Lib.hid htl
      have pz : 0 ≤ (i : Int) := by omega
      have mz : (i : Int) < (ps.length : Int) := by omega
      clear hby hsb hfl htl
      generalize tot (ps.take i) = q at *
      generalize ps[i].length = p at *
      by_cases hbig : most - q < p
      · have hc1 : (most : Int) - (q : Int) < (p : Int) := by omega
        have HM : Hid (min (tot ps) most = most) := by
          have := HTL.out
          exact Lib.hid (by omega)
        clear hfe
        go_wp2
        go_ret
        exact ⟨by rw [HM.out]; rfl, rfl⟩
      · have hc1 : ¬ (most : Int) - (q : Int) < (p : Int) := by omega
        clear hfe
        go_wp2
        exact ⟨⟨i + 1, by omega, by go_num, by rw [HFE.out]; go_num, by rw [HFE.out]; omega⟩, by simp [intOf]; omega⟩
    · have e : ps.take i = ps := List.take_of_length_le (by omega)
      rw [e] at hle ⊢
      have HM : Hid (min (tot ps) most = (tot ps)) := Lib.hid (Nat.min_eq_left hle)
      clear e hle
      go_wp2
      go_ret
      exact ⟨by rw [HM.out]; rfl, rfl⟩

end Go.Proofs.Ytobiajjcnpflgaa
