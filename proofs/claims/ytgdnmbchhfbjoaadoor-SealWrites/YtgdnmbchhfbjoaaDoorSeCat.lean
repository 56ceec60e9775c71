/- slices.Grow of no row, and slices.Concat. Conditions: few rows, of few bytes. -/
import Derived.Test.YtgdnmbchhfbjoaaDoorWiPack
import Derived.Lib.AppendZeros
import Derived.Lib.Hide
namespace Go.Proofs.YtgdnmbchhfbjoaaDoor
open Go.RowKit

theorem Row.none (w : World) : Row w w (.slice none 0 0) [] := ⟨⟨rfl, .inl ⟨rfl, rfl⟩⟩, fun _ h => (by cases h), Only.refl _ _⟩

theorem grown_row (w : World) (n : Nat) (h0 : 0 < n) (hn : n ≤ 16777216) :
    ∃ c w', (∀ ty, (Builtin.append_ #[23, 3] ty #[.slice none 0 0, .int .i64 n]).run Tryd.prog w = .ok (.slice (some ⟨w.heap.size, 0, none⟩) n c) w') ∧ n ≤ c ∧ Row w w' (.slice (some ⟨w.heap.size, 0, none⟩) 0 c) [] := by
  obtain ⟨i, hi, hz0, hz1, hz2⟩ := info_parts info_u8
  have hr := fun ty => Lib.run_append_nil_zeros (P := Tryd.prog) w 23 3 ty 5 i _ .i64 .i64 Tryd.underlying23 Tryd.underlying3 hi hz0 n h0 (by omega) (by omega) (by rw [hz2]; omega)
  have hge := grownCap_ge w n 0 5
  have hle := grownCap_le_maxLen w n 0 5 (by unfold maxLen; omega)
  refine ⟨_, _, hr, hge, ?_⟩
  have hsz : (Builtin.zeroCells (Value.int IntKind.u8 0).cells n ++ Builtin.zeroCells (Value.int IntKind.u8 0).cells (grownCap w n 0 5 - n)).size = grownCap w n 0 5 * 1 := by
    simp [Builtin.zeroCells, Value.cells]
    omega
  have ho : Only (fun _ => False) w (w.drew.alloc (.cells (Builtin.zeroCells (Value.int IntKind.u8 0).cells n ++ Builtin.zeroCells (Value.int IntKind.u8 0).cells (grownCap w n 0 5 - n)) 5)) := Only.drew.trans (Only.alloc _)
  refine ⟨⟨rfl, .inr ⟨w.heap.size, _, _, rfl, Nat.zero_le _, heap_alloc_last w.drew _, Nat.zero_le _, hle, hsz, by simp⟩⟩, fun q hq => ?_, ho⟩
  have : w.heap.size = q := Option.some.inj hq
  omega

set_option maxRecDepth 100000 in
theorem grow_any {w : World} {n : Nat} (hn : n ≤ 16777216) :
    Calls Tryd.prog 50 #[.slice none 0 0, .int .i64 (n : Int)] w fun e w' => ∃ a c, e = .returned (.slice a 0 c) ∧ Row w w' (.slice a 0 c) [] := by
  by_cases h0 : n = 0
  · subst h0
    go_enter Tryd.func50, Tryd.ntmps50
    go_wp2
    go_ret
    exact ⟨_, _, rfl, Row.none w⟩
  · obtain ⟨c, w', hrun, hc, hrow⟩ := grown_row w n (by omega) hn
    have HR := Lib.hid hrow
    have hp : (n : Int) > 0 := by omega
    have hwr : wrap64 (n : Int) = n := by unfold wrap64; omega
    have hnn : ¬ (n : Int) < 0 := by omega
    clear hrow hn hc h0
    have hsl : ∀ W, (Instr.slice 23 (.slice (some ⟨w.heap.size, 0, none⟩) n c) none (some (.int .i64 0)) none).run Tryd.prog W = .ok (.slice (some ⟨w.heap.size, 0, none⟩) 0 c) W := fun W => slice_h (m := 0) (Nat.zero_le _) W
    have hs0 : ∀ W, (Instr.slice 23 (.slice none 0 0) none (some (.int .i64 0)) none).run Tryd.prog W = .ok (.slice none 0 0) W := fun W => slice_h (m := 0) (Nat.zero_le _) W
    have HRUN := Lib.hid hrun
    clear hrun
    go_enter Tryd.func50, Tryd.ntmps50
    go_wp2_with (at_builtin; refine Lib.wpList_append_run _ rfl (.tmp 20) (.tmp 21) 23 3 rfl (.slice none 0 0) (.int .i64 (n : Int)) rfl (by show Value.int .i64 (wrap64 (n : Int)) = _; rw [hwr]) _ _ (HRUN.out _) ?_)
    go_ret
    exact ⟨_, _, rfl, HR.out⟩

/-- Few rows, of few bytes. -/
structure Few8 (ps : List (List UInt8)) : Prop where
  sum : tot ps ≤ 1048576
  cnt : ps.length ≤ 1024

set_option maxRecDepth 100000 in
set_option maxHeartbeats 1000000 in
theorem concat_any {w : World} {S : Nat → Prop} {v : Value} {fs : List (List UInt8)} (hv : PartsAt w S v fs) (hS : ∀ k, S k → k < w.heap.size) (hp : Few8 fs) :
    Calls Tryd.prog 33 #[v] w fun e w' => ∃ a c, e = .returned (.slice a fs.flatten.length c) ∧ Row w w' (.slice a fs.flatten.length c) fs.flatten := by
  obtain ⟨va, vc, rfl, hcp, -⟩ := id hv
  have HV := Lib.hid hv; have HS := Lib.hid hS
  clear hv hS hcp
  go_enter Tryd.func33, Tryd.ntmps33
  go_wp2
  go_loopw [3, 11] (fun nv iv wr => ∃ i R : Nat, i ≤ fs.length ∧ iv = .int .i64 i ∧ nv = .int .i64 (R : Int) ∧ R = tot (fs.take i) ∧ wr = w) (fun _ iv _ => fs.length - (intOf iv).toNat)
  case atStart => exact ⟨0, 0, Nat.zero_le _, rfl, rfl, by simp [tot], rfl⟩
  case round =>
    obtain ⟨i, R, hi, rfl, rfl, hR, rfl⟩ := hrel
    have hcnt := hp.cnt
    have hsum := hp.sum
    by_cases hlt : i < fs.length
    · obtain ⟨ad, ua, uc, rfl, hsb, hc, hby⟩ := HV.out.get hlt
      have h2 := tot_get hlt
      have h3 := tot_le fs (i + 1)
      have HN : Hid (R + fs[i].length = tot (fs.take (i + 1))) := by unfold Hid; omega
      have hRl : R ≤ 1048576 := by omega
      have h1 : fs[i].length ≤ 1048576 := by omega
      have pz : 0 ≤ (i : Int) := by omega
      have mz : (i : Int) < (fs.length : Int) := by omega
      clear hby hsb h2 h3 hR hsum
      generalize fs[i].length = L at *
      go_wp2
      exact ⟨⟨i + 1, R + L, by omega, by go_num, by simp, HN.out, trivial⟩, by simp [intOf]; omega⟩
    · have hi' : i = fs.length := by omega
      have h3 := tot_le fs i
      have hRl : R ≤ 1048576 := by omega
      have HG := Lib.hid (grow_any (w := wr) (n := R) (by omega))
      clear hR h3 hsum hRl
      go_wp2_with (go_at_call 50; refine HG.out.mono ?_; rintro e w1 ⟨a1, c1, rfl, hr1⟩; have HR1 := Lib.hid hr1; clear hr1)
      clear HG
      obtain ⟨w0, hw0⟩ : ∃ q, q = wr := ⟨_, rfl⟩
      subst hw0
      go_loopw [6, 27] (fun ov iv wr => ∃ j : Nat, j ≤ fs.length ∧ iv = .int .i64 j ∧ Row w0 wr ov (fs.take j).flatten) (fun _ iv _ => fs.length - (intOf iv).toNat)
      case atStart => exact ⟨0, Nat.zero_le _, rfl, by simpa using HR1.out⟩
      case round =>
        obtain ⟨j, hj, rfl, hrow⟩ := hrel
        by_cases hjlt : j < fs.length
        · obtain ⟨ad, ua, uc, rfl, hsb, hc, hby⟩ := HV.out.get hjlt
          have hc' : wr.cell? (ad.add j) = some (.slice ua fs[j].length uc) := by
            rw [World.cell?_of_block (w := w0) (by rw [add_block]; exact hrow.only.block _ (HS.out _ hsb) (fun x => x))]; exact hc
          have HS2 := Lib.hid (hby.here hrow.only HS.out)
          have HPT := Lib.hid (flatten_take_succ hjlt)
          have HPL : Hid ((fs.take j).flatten.length + fs[j].length ≤ 140737488355328) := by
            have h1 := hp.sum
            have h2 := tot_le fs (j + 1)
            have h3 := tot_get hjlt
            unfold tot at h1 h2 h3
            unfold Hid; omega
          have pz : 0 ≤ (j : Int) := by omega
          have mz : (j : Int) < (fs.length : Int) := by omega
          have HR2 := Lib.hid hrow
          obtain ⟨oa, oc, rfl⟩ := hrow.shape
          clear hrow hc hby hsb HR1
          generalize hXV : (fs.take j).flatten = XV at *
          go_wp2_with (at_builtin; refine wpList_append_bytes _ rfl _ _ rfl (.slice oa XV.length oc) (.slice ua fs[j].length uc) XV.length (XV.map byteV) rfl rfl HR2.out.row HS2.out HPL.out ?_; intro a3 c3 w3 hr3 hg3 hat3; have HR3 := Lib.hid (HR2.out.app (Only.refl _ _) rfl hr3 hg3 hat3); clear hr3 hg3 hat3)
          exact ⟨⟨j + 1, by omega, by go_num, by rw [HPT.out]; exact HR3.out⟩, by simp [intOf]; omega⟩
        · have e : fs.take j = fs := List.take_of_length_le (by omega)
          rw [e] at hrow
          obtain ⟨oa, oc, rfl⟩ := hrow.shape
          have HRF := Lib.hid hrow
          clear hrow e HR1
          go_wp2
          go_ret
          exact ⟨oa, oc, rfl, HRF.out⟩

end Go.Proofs.YtgdnmbchhfbjoaaDoor
