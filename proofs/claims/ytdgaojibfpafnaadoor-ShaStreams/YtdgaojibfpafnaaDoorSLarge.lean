/- amphoranum.Sum; which rows are large. Conditions: rows within the reach. -/
import Derived.Test.YtdgaojibfpafnaaDoorSAlive
namespace Go.Proofs.YtdgaojibfpafnaaDoor
open Go.RowKit

/-- How many bytes there are together. -/
def tot (ps : List (List UInt8)) : Nat := ps.flatten.length

set_option maxRecDepth 100000 in
set_option maxHeartbeats 1000000 in
theorem numSum_any {w : World} {S : Nat → Prop} {v : Value} {ps : List (List UInt8)} {most : Nat} (hv : PartsAt w S v ps) (hl : ∀ p ∈ ps, p.length ≤ 140737488355328) (hn : ps.length ≤ 140737488355328) (hm : most ≤ 1048576) :
    Calls Tryd.prog 20 #[v, .int .i64 (most : Int)] w fun e w' => e = .returned (.int .i64 ((min (tot ps) most : Nat) : Int)) ∧ w = w' := by
  obtain ⟨va, vc, rfl, hcp, hat⟩ := hv
  have HAT := Lib.hid hat; have HL := Lib.hid hl
  clear hat hl
  go_enter Tryd.func20, Tryd.ntmps20
  go_wp2
  go_loop [5, 10] (fun nv iv => ∃ i : Nat, i ≤ ps.length ∧ iv = .int .i64 i ∧ nv = .int .i64 (tot (ps.take i) : Int) ∧ tot (ps.take i) ≤ most) (fun _ iv => ps.length - (intOf iv).toNat)
  case atStart => exact ⟨0, Nat.zero_le _, rfl, rfl, Nat.zero_le _⟩
  case round =>
    obtain ⟨i, hi, rfl, rfl, hle⟩ := hrel
    by_cases hlt : i < ps.length
    · obtain ⟨ad, u, rfl, hsb, hcell, hby⟩ := HAT.out i hlt
      obtain ⟨ua, uc, rfl⟩ := hby.shape
      have hfl := flatten_take_succ hlt
      have hll := HL.out ps[i] (List.getElem_mem hlt)
      have hfe : tot (ps.take (i + 1)) = tot (ps.take i) + ps[i].length := by unfold tot; rw [hfl, List.length_append]
      have htl : tot (ps.take (i + 1)) ≤ tot ps := flatten_take_le ps (i + 1)
      have HFE := Lib.hid hfe; have HTL := Lib.hid htl
      have pz : 0 ≤ (i : Int) := by omega
      have mz : (i : Int) < (ps.length : Int) := by omega
      clear hby hsb hfl htl
      generalize tot (ps.take i) = q at *
      generalize ps[i].length = p at *
      by_cases hbig : most - q < p
      · have hc1 : (most : Int) - (q : Int) < (p : Int) := by omega
        have HM : Hid (min (tot ps) most = most) := by
          have := HTL.out
          exact Lib.hid (by omega)
        clear hfe
        go_wp2
        go_ret
        exact ⟨by rw [HM.out]; rfl, rfl⟩
      · have hc1 : ¬ (most : Int) - (q : Int) < (p : Int) := by omega
        clear hfe
        go_wp2
        exact ⟨⟨i + 1, by omega, by go_num, by rw [HFE.out]; go_num, by rw [HFE.out]; omega⟩, by simp [intOf]; omega⟩
    · have e : ps.take i = ps := List.take_of_length_le (by omega)
      rw [e] at hle ⊢
      have HM : Hid (min (tot ps) most = (tot ps)) := Lib.hid (Nat.min_eq_left hle)
      clear e hle
      go_wp2
      go_ret
      exact ⟨by rw [HM.out]; rfl, rfl⟩

set_option maxRecDepth 100000 in
theorem large_any {w : World} {S : Nat → Prop} {v : Value} {ps : List (List UInt8)} (hv : PartsAt w S v ps) (hl : ∀ p ∈ ps, p.length ≤ 140737488355328) (hn : ps.length ≤ 140737488355328) :
    Calls Tryd.prog 10 #[v] w fun e w' => e = .returned (.bool (decide (65536 < (tot ps)))) ∧ w = w' := by
  have hs := numSum_any (most := 1048576) hv hl hn (Nat.le_refl _)
  have HS := Lib.hid (show Calls Tryd.prog 20 #[v, .int .i64 1048576] w _ from hs)
  obtain ⟨va, vc, rfl, _, _⟩ := hv
  clear hs
  by_cases h : 65536 < (tot ps)
  · have hd : decide (65536 < (tot ps)) = true := decide_eq_true h
    have hm : (65536 : Int) < ((min (tot ps) 1048576 : Nat) : Int) := by omega
    rw [hd]
    clear hd
    generalize min (tot ps) 1048576 = M at *
    go_enter Tryd.func10, Tryd.ntmps10
    go_wp2_with (go_at_call 20; refine HS.out.mono ?_; rintro e w' ⟨rfl, rfl⟩)
    go_ret
    exact ⟨rfl, rfl⟩
  · have hd : decide (65536 < (tot ps)) = false := decide_eq_false h
    have hm : decide ((65536 : Int) < ((min (tot ps) 1048576 : Nat) : Int)) = false := by simp; omega
    rw [hd]
    clear hd
    generalize min (tot ps) 1048576 = M at *
    go_enter Tryd.func10, Tryd.ntmps10
    go_wp2_with (go_at_call 20; refine HS.out.mono ?_; rintro e w' ⟨rfl, rfl⟩)
    go_ret
    exact ⟨rfl, rfl⟩

end Go.Proofs.YtdgaojibfpafnaaDoor
