/- What settings, and settings with three rows, read as. Conditions: rows within the reach. -/
import Derived.Test.YtobiajjcnpflgaaRbCheck
import Derived.Test.YtobiajjcnpflgaaPoArgs4
namespace Go.Proofs.Ytobiajjcnpflgaa
open Go.ChangeShapes Go.WideShapes Go.ChangeAt Go.RowKit

section
variable {H : Type} {enc : TypeId × Value → H} {w : World} {base : Nat} {spare : Nat → Bool} {held : Bool}

theorem trod_struct5 {P : Program} {t : TypeId} {f0 f1 f2 f3 f4 : Field} {fuel : Nat} {cs : List Value} {x : DataW H × List MemPlace} (ht : P.underlying t = some (.struct #[f0, f1, f2, f3, f4])) (h : DataW.trod enc P w base spare held fuel t cs = some x) :
    ∃ y0 y1 y2 y3 y4 n, x.1 = .agg [y0.1, y1.1, y2.1, y3.1, y4.1] ∧ cs.length = P.cellsOf t ∧ DataW.trod enc P w base spare held n f0.type ((cs.drop f0.offset).take (P.cellsOf f0.type)) = some y0 ∧
      DataW.trod enc P w base spare held n f1.type ((cs.drop f1.offset).take (P.cellsOf f1.type)) = some y1 ∧ DataW.trod enc P w base spare held n f2.type ((cs.drop f2.offset).take (P.cellsOf f2.type)) = some y2 ∧
      DataW.trod enc P w base spare held n f3.type ((cs.drop f3.offset).take (P.cellsOf f3.type)) = some y3 ∧ DataW.trod enc P w base spare held n f4.type ((cs.drop f4.offset).take (P.cellsOf f4.type)) = some y4 := by
  obtain ⟨xs, n, _, rfl, hl, hlen, hf⟩ := DataW.trod_struct ht h
  match xs, hlen with
  | [y0, y1, y2, y3, y4], _ => exact ⟨y0, y1, y2, y3, y4, n, by simp, hl, by simpa using hf 0 f0 rfl, by simpa using hf 1 f1 rfl, by simpa using hf 2 f2 rfl, by simpa using hf 3 f3 rfl, by simpa using hf 4 f4 rfl⟩

theorem int_open7 {fuel : Nat} {c : Value} {x : DataW H × List MemPlace} (h : DataW.trod enc Try.prog w base spare held fuel 3 [c] = some x) : ∃ n : Int, c = .int .i64 n := by
  obtain ⟨j, e, _, _⟩ := DataW.trod_int Try.underlying3 h
  exact ⟨j, (List.cons.inj (show [c] = [.int .i64 j] from e)).1⟩

theorem set_open {fuel : Nat} {cs : List Value} {x : DataW H × List MemPlace} (h : DataW.trod enc Try.prog w base spare held fuel 24 cs = some x) :
    ∃ s : Set7, cs = setL s ∧ s.P < 18446744073709551616 := by
  obtain ⟨y0, y1, y2, y3, y4, n, _, hl, f0, f1, f2, f3, f4⟩ := trod_struct5 Try.underlying24 h
  have hcl : Try.prog.cellsOf 24 = 5 := by kernel_rfl
  have hc1 : Try.prog.cellsOf 22 = 1 := by kernel_rfl
  have hc2 : Try.prog.cellsOf 3 = 1 := by kernel_rfl
  rw [hcl] at hl
  obtain ⟨c0, c1, c2, c3, c4, rfl⟩ : ∃ c0 c1 c2 c3 c4, cs = [c0, c1, c2, c3, c4] := by
    match cs, hl with
    | [c0, c1, c2, c3, c4], _ => exact ⟨c0, c1, c2, c3, c4, rfl⟩
  simp only [hc1, hc2, List.drop, List.take] at f0 f1 f2 f3 f4
  obtain ⟨a, rfl, ha⟩ := word_open f0
  obtain ⟨b, rfl⟩ := int_open7 f1
  obtain ⟨c, rfl⟩ := int_open7 f2
  obtain ⟨d, rfl⟩ := int_open7 f3
  obtain ⟨e, rfl⟩ := int_open7 f4
  exact ⟨⟨a, b, c, d, e⟩, rfl, ha⟩
end

set_option maxRecDepth 100000 in
theorem set_arg {H : Type} {enc : TypeId × Value → H} {W : World} {b0 : Nat} {v : Value} {d : DataW H} {p : List MemPlace} (hv : Value.okWide Try.prog W .any b0 24 v) (h : DataW.Trod enc Try.prog W 0 (fun _ => true) true 24 v d p) :
    ∃ s : Set7, v = setV s ∧ s.P < 18446744073709551616 := by
  unfold Value.okWide at hv
  rw [Try.underlying24] at hv
  obtain ⟨cs, rfl, _, _⟩ := hv
  obtain ⟨fuel, h⟩ := h
  obtain ⟨s, hcs, h1⟩ := set_open h
  refine ⟨s, ?_, h1⟩
  unfold setV
  congr 1
  exact Array.toList_inj.1 (by simpa [Value.cells, setL] using hcs)

def rowsV (s : Set7) (v1 v2 v3 : Value) : Value := .agg #[.int .u64 (s.P : Int), .int .i64 s.W, .int .i64 s.L, .int .i64 s.H, .int .i64 s.B, v1, v2, v3]

theorem rows_open {H : Type} {enc : TypeId × Value → H} {w : World} {base : Nat} {spare : Nat → Bool} {held : Bool} {fuel : Nat} {cs : List Value} {x : DataW H × List MemPlace} (h : DataW.trod enc Try.prog w base spare held fuel 59 cs = some x) (hz : Small 59 x.1) :
    ∃ (s : Set7) (v1 v2 v3 : Value) (x1 x2 x3 : List UInt8), cs = setL s ++ [v1, v2, v3] ∧ s.P < 18446744073709551616 ∧ BytesAt w (fun k => k < w.heap.size) v1 x1 ∧ BytesAt w (fun k => k < w.heap.size) v2 x2 ∧ BytesAt w (fun k => k < w.heap.size) v3 x3 ∧ x1.length ≤ 140737488351232 ∧ x2.length ≤ 140737488351232 ∧ x3.length ≤ 140737488351232 := by
  obtain ⟨y0, y1, y2, y3, n, rfl, hl, f0, f1, f2, f3⟩ := Joins.trod_struct4 Try.underlying59 h
  have hcl : Try.prog.cellsOf 59 = 8 := by kernel_rfl
  have hc2 : Try.prog.cellsOf 25 = 1 := by kernel_rfl
  have hc3 : Try.prog.cellsOf 24 = 5 := by kernel_rfl
  rw [hcl] at hl
  obtain ⟨c0, c1, c2, c3, c4, c5, c6, c7, rfl⟩ : ∃ c0 c1 c2 c3 c4 c5 c6 c7, cs = [c0, c1, c2, c3, c4, c5, c6, c7] := by
    match cs, hl with
    | [c0, c1, c2, c3, c4, c5, c6, c7], _ => exact ⟨c0, c1, c2, c3, c4, c5, c6, c7, rfl⟩
  simp only [hc3, hc2, List.drop, List.take] at f0 f1 f2 f3
  have hw : ∀ q, q ∈ y1.1.weights Try.prog 25 ∨ q ∈ y2.1.weights Try.prog 25 ∨ q ∈ y3.1.weights Try.prog 25 → q ≤ reachBytes := by
    intro q hq
    refine hz q ?_
    simp only [DataW.weights, Try.underlying59, DataW.weightsEach, List.map_cons, List.map_nil, List.mem_append]
    rcases hq with hq | hq | hq
    · exact .inr (.inl hq)
    · exact .inr (.inr (.inl hq))
    · exact .inr (.inr (.inr (.inl hq)))
  obtain ⟨v1, x1, e1, hb1, hl1⟩ := bytes_open f1 (fun q hq => hw q (.inl hq))
  obtain ⟨v2, x2, e2, hb2, hl2⟩ := bytes_open f2 (fun q hq => hw q (.inr (.inl hq)))
  obtain ⟨v3, x3, e3, hb3, hl3⟩ := bytes_open f3 (fun q hq => hw q (.inr (.inr hq)))
  obtain ⟨s, e0, hs⟩ := set_open f0
  have g1 := (List.cons.inj (show [c5] = [v1] from e1)).1
  have g2 := (List.cons.inj (show [c6] = [v2] from e2)).1
  have g3 := (List.cons.inj (show [c7] = [v3] from e3)).1
  clear f0 f1 f2 f3 e1 e2 e3
  subst g1 g2 g3
  refine ⟨s, c5, c6, c7, x1, x2, x3, ?_, hs, hb1, hb2, hb3, hl1, hl2, hl3⟩
  rw [← e0]
  rfl

set_option maxRecDepth 100000 in
theorem rows_arg {H : Type} {enc : TypeId × Value → H} {W : World} {b0 : Nat} {v : Value} {d : DataW H} {p : List MemPlace} (hv : Value.okWide Try.prog W .any b0 59 v) (h : DataW.Trod enc Try.prog W 0 (fun _ => true) true 59 v d p) (hz : Small 59 d) :
    ∃ (s : Set7) (v1 v2 v3 : Value) (x1 x2 x3 : List UInt8), v = rowsV s v1 v2 v3 ∧ s.P < 18446744073709551616 ∧ BytesAt W (fun k => k < W.heap.size) v1 x1 ∧ BytesAt W (fun k => k < W.heap.size) v2 x2 ∧ BytesAt W (fun k => k < W.heap.size) v3 x3 ∧ x1.length ≤ 140737488351232 ∧ x2.length ≤ 140737488351232 ∧ x3.length ≤ 140737488351232 := by
  unfold Value.okWide at hv
  rw [Try.underlying59] at hv
  obtain ⟨cs, rfl, _, _⟩ := hv
  obtain ⟨fuel, h⟩ := h
  obtain ⟨s, v1, v2, v3, x1, x2, x3, hcs, h1⟩ := rows_open h hz
  refine ⟨s, v1, v2, v3, x1, x2, x3, ?_, h1⟩
  unfold rowsV
  congr 1
  exact Array.toList_inj.1 (by simpa [Value.cells, setL] using hcs)

end Go.Proofs.Ytobiajjcnpflgaa
