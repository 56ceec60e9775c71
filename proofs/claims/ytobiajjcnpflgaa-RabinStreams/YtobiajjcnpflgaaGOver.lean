/- Over of the statements' own package. Conditions: lengths far from an int's end. -/
import Derived.Test.YtobiajjcnpflgaaGNum
namespace Go.Proofs.Ytobiajjcnpflgaa
open Go.RowKit

set_option maxRecDepth 100000 in
set_option maxHeartbeats 1000000 in
theorem over_any {w : World} {g n c : Nat} (h : ByteBlk w g n) (hn : n ≤ 1048576) :
    Calls Try.prog 25 #[.slice (some ⟨g, 0, none⟩) n c] w fun e w' => e = .returned (.tuple #[]) ∧ Only (fun k => k = g) w w' := by
  have HB := Lib.hid h
  clear h
  go_enter Try.func25, Try.ntmps25
  go_wp2
  go_loopw [5] (fun iv wr => ∃ k : Nat, k ≤ n ∧ iv = .int .i64 k ∧ ByteBlk wr g n ∧ Only (fun k => k = g) w wr) (fun iv _ => n - (intOf iv).toNat)
  case atStart => exact ⟨0, Nat.zero_le _, rfl, HB.out, Only.refl _ _⟩
  case round =>
    obtain ⟨k, hk, rfl, ⟨cur, hg, hcur⟩, how⟩ := hrel
    by_cases hlt : k < n
    · obtain ⟨x, hx⟩ := hcur k hlt
      have c1 : wr.cell? ⟨g, k, none⟩ = some (.int .u8 x) := by rw [cell_of hg]; exact hx
      have f1 : wr.frozen? ⟨g, k, none⟩ = false := frozen_of hg k
      have HFIN : Hid (∀ y : Int, ByteBlk (wr.setCell ⟨g, k, none⟩ (.int .u8 y)) g n ∧ Only (fun k => k = g) w (wr.setCell ⟨g, k, none⟩ (.int .u8 y))) := by
        intro y
        refine ⟨⟨_, heap_setCell_self hg k (.int .u8 y), fun j hj => ?_⟩, how.trans (Only.setCell ⟨g, k, none⟩ _)⟩
        by_cases e : j = k
        · subst e
          obtain ⟨hj', _⟩ := Array.getElem?_eq_some_iff.1 hx
          exact ⟨y, by simp [hj']⟩
        · obtain ⟨z, hz⟩ := hcur j hj
          exact ⟨z, by rw [Array.getElem?_setIfInBounds_ne (fun h => e h.symm)]; exact hz⟩
      clear how hg hcur hx
      go_wp2
      go_roundw
      case rel => exact ⟨k + 1, by omega, by go_num, (HFIN.out _).1, (HFIN.out _).2⟩
      case measure => simp [intOf]; omega
    · have HOW := Lib.hid how
      clear hg hcur how
      go_wp2
      go_end0
      exact ⟨rfl, HOW.out⟩

end Go.Proofs.Ytobiajjcnpflgaa
