/- What four words in a struct read as. Conditions: none. -/
import Derived.Test.YtfbnpafanjppbaaPoArgs
namespace Go.Proofs.Ytfbnpafanjppbaa
open Go.ChangeShapes Go.WideShapes Go.ChangeAt Go.RowKit

theorem word_open {H : Type} {enc : TypeId × Value → H} {w : World} {base : Nat} {spare : Nat → Bool} {held : Bool} {fuel : Nat} {c : Value} {x : DataW H × List MemPlace} (h : DataW.trod enc Try.prog w base spare held fuel 22 [c] = some x) :
    ∃ n : Nat, c = .int .u64 (n : Int) ∧ n < 18446744073709551616 := by
  obtain ⟨j, e, _, hj⟩ := DataW.trod_int Try.underlying22 h
  obtain ⟨n, rfl, hn⟩ := word_nat (bounds_u64 hj)
  exact ⟨n, (List.cons.inj (show [c] = [.int .u64 (n : Int)] from e)).1, hn⟩

theorem four_open {H : Type} {enc : TypeId × Value → H} {w : World} {base : Nat} {spare : Nat → Bool} {held : Bool} {fuel : Nat} {cs : List Value} {x : DataW H × List MemPlace} (h : DataW.trod enc Try.prog w base spare held fuel 47 cs = some x) :
    ∃ a b c m : Nat, cs = [.int .u64 (a : Int), .int .u64 (b : Int), .int .u64 (c : Int), .int .u64 (m : Int)] ∧ a < 18446744073709551616 ∧ b < 18446744073709551616 ∧ c < 18446744073709551616 ∧ m < 18446744073709551616 := by
  obtain ⟨y0, y1, y2, y3, n, rfl, hl, f0, f1, f2, f3⟩ := Joins.trod_struct4 Try.underlying47 h
  have hcl : Try.prog.cellsOf 47 = 4 := by kernel_rfl
  have hc1 : Try.prog.cellsOf 22 = 1 := by kernel_rfl
  rw [hcl] at hl
  obtain ⟨c0, c1, c2, c3, rfl⟩ : ∃ c0 c1 c2 c3, cs = [c0, c1, c2, c3] := by
    match cs, hl with
    | [c0, c1, c2, c3], _ => exact ⟨c0, c1, c2, c3, rfl⟩
  simp only [hc1, List.drop, List.take] at f0 f1 f2 f3
  obtain ⟨a, rfl, ha⟩ := word_open f0
  obtain ⟨b, rfl, hb⟩ := word_open f1
  obtain ⟨c, rfl, hc⟩ := word_open f2
  obtain ⟨m, rfl, hm⟩ := word_open f3
  exact ⟨a, b, c, m, rfl, ha, hb, hc, hm⟩

set_option maxRecDepth 100000 in
theorem four_arg {H : Type} {enc : TypeId × Value → H} {W : World} {b0 : Nat} {v : Value} {d : DataW H} {p : List MemPlace} (hv : Value.okWide Try.prog W .any b0 47 v) (h : DataW.Trod enc Try.prog W 0 (fun _ => true) true 47 v d p) :
    ∃ a b c m : Nat, v = .agg #[.int .u64 (a : Int), .int .u64 (b : Int), .int .u64 (c : Int), .int .u64 (m : Int)] ∧ a < 18446744073709551616 ∧ b < 18446744073709551616 ∧ c < 18446744073709551616 ∧ m < 18446744073709551616 := by
  unfold Value.okWide at hv
  rw [Try.underlying47] at hv
  obtain ⟨cs, rfl, _, _⟩ := hv
  obtain ⟨fuel, h⟩ := h
  obtain ⟨a, b, c, m, hcs, h1⟩ := four_open h
  refine ⟨a, b, c, m, ?_, h1⟩
  congr 1
  exact Array.toList_inj.1 (by simpa [Value.cells] using hcs)

end Go.Proofs.Ytfbnpafanjppbaa
