/- A value of type Keys: a key, a message, two numbers. Conditions: rows within the reach. -/
import Derived.Test.YtdgaojibfpafnaaDoorSArgs
namespace Go.Proofs.YtdgaojibfpafnaaDoor
open Go.RowKit

theorem list4 {α : Type} {l : List α} (h : l.length = 4) : ∃ x0 x1 x2 x3, l = [x0, x1, x2, x3] := by
  match l, h with
  | [x0, x1, x2, x3], _ => exact ⟨x0, x1, x2, x3, rfl⟩

theorem keys_open {H : Type} {enc : TypeId × Value → H} {w : World} {base : Nat} {spare : Nat → Bool} {held : Bool} {fuel : Nat} {cs : List Value} {x : DataW H × List MemPlace} (h : DataW.trod enc Tryd.prog w base spare held fuel 53 cs = some x) (hz : Small 53 x.1) :
    ∃ vk vm key msg n m, cs = [vk, vm, .int .i64 n, .int .i64 m] ∧ BytesAt w (fun k => k < w.heap.size) vk key ∧ BytesAt w (fun k => k < w.heap.size) vm msg ∧ key.length ≤ 140737488355328 ∧ msg.length ≤ 140737488355328 := by
  obtain ⟨y0, y1, y2, y3, n, rfl, hl, f0, f1, f2, f3⟩ := Joins.trod_struct4 Tryd.underlying53 h
  have hcl : Tryd.prog.cellsOf 53 = 4 := by kernel_rfl
  have hc3 : Tryd.prog.cellsOf 3 = 1 := by kernel_rfl
  have hc2 : Tryd.prog.cellsOf 22 = 1 := by kernel_rfl
  rw [hcl] at hl
  obtain ⟨c0, c1, c2, c3, rfl⟩ := list4 hl
  simp only [hc3, hc2, List.drop, List.take] at f0 f1 f2 f3
  have hw : ∀ q, q ∈ y0.1.weights Tryd.prog 22 ∨ q ∈ y1.1.weights Tryd.prog 22 → q ≤ reachBytes := by
    intro q hq
    refine hz q ?_
    simp only [DataW.weights, Tryd.underlying53, DataW.weightsEach, List.map_cons, List.map_nil, List.mem_append]
    rcases hq with hq | hq
    · exact .inl hq
    · exact .inr (.inl hq)
  obtain ⟨v0, key, e0, hb0, hl0⟩ := bytes_open f0 (fun q hq => hw q (.inl hq))
  obtain ⟨v1, msg, e1, hb1, hl1⟩ := bytes_open f1 (fun q hq => hw q (.inr hq))
  obtain ⟨i, e2, _, _⟩ := DataW.trod_int Tryd.underlying3 f2
  obtain ⟨j, e3, _, _⟩ := DataW.trod_int Tryd.underlying3 f3
  have g0 := (List.cons.inj (show [c0] = [v0] from e0)).1
  have g1 := (List.cons.inj (show [c1] = [v1] from e1)).1
  have g2 := (List.cons.inj (show [c2] = [.int .i64 i] from e2)).1
  have g3 := (List.cons.inj (show [c3] = [.int .i64 j] from e3)).1
  clear f0 f1 f2 f3 e0 e1 e2 e3
  subst g0 g1 g2 g3
  exact ⟨c0, c1, key, msg, i, j, rfl, hb0, hb1, hl0, hl1⟩

set_option maxRecDepth 100000 in
theorem keys_arg {H : Type} {enc : TypeId × Value → H} {W : World} {b0 : Nat} {v : Value} {d : DataW H} {p : List MemPlace} (hv : Value.okWide Tryd.prog W .any b0 53 v) (h : DataW.Trod enc Tryd.prog W 0 (fun _ => true) true 53 v d p) (hz : Small 53 d) :
    ∃ vk vm key msg n m, v = .agg #[vk, vm, .int .i64 n, .int .i64 m] ∧ BytesAt W (fun k => k < W.heap.size) vk key ∧ BytesAt W (fun k => k < W.heap.size) vm msg ∧ key.length ≤ 140737488355328 ∧ msg.length ≤ 140737488355328 := by
  unfold Value.okWide at hv
  rw [Tryd.underlying53] at hv
  obtain ⟨cs, rfl, _, _⟩ := hv
  obtain ⟨fuel, h⟩ := h
  obtain ⟨vk, vm, key, msg, n, m, hcs, h1, h2, h3, h4⟩ := keys_open h hz
  have : cs = #[vk, vm, .int .i64 n, .int .i64 m] := Array.toList_inj.1 hcs
  subst this
  exact ⟨vk, vm, key, msg, n, m, rfl, h1, h2, h3, h4⟩

end Go.Proofs.YtdgaojibfpafnaaDoor
