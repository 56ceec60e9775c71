/- A value of type [][]byte; a value of type Wanted. Conditions: rows within the reach. -/
import Derived.Test.YtdgaojibfpafnaaDoorSArgs
import Derived.Test.YtdgaojibfpafnaaDoorSHash
namespace Go.Proofs.YtdgaojibfpafnaaDoor
open Go.RowKit

theorem mem_weightsAll {H : Type} {P : Program} {e : TypeId} {d : DataW H} {n : Nat} : ∀ {l : List (DataW H)}, d ∈ l → n ∈ d.weights P e → n ∈ DataW.weightsAll P e l
  | x :: r, h, hn => by
    simp only [DataW.weightsAll, List.mem_append]
    rcases List.mem_cons.1 h with rfl | h
    · exact .inl hn
    · exact .inr (mem_weightsAll h hn)

theorem parts_open {H : Type} {enc : TypeId × Value → H} {w : World} {base : Nat} {spare : Nat → Bool} {held : Bool} {fuel : Nat} {cs : List Value} {x : DataW H × List MemPlace} (h : DataW.trod enc Tryd.prog w base spare held fuel 41 cs = some x) (hz : Small 41 x.1) :
    ∃ v ps, cs = [v] ∧ PartsAt w (fun k => k < w.heap.size) v ps ∧ (∀ p ∈ ps, p.length ≤ 140737488355328) ∧ ps.length ≤ 140737488355328 := by
  have hcl : Tryd.prog.cellsOf 22 = 1 := by kernel_rfl
  rcases Deep.open_slice Tryd.underlying41 h with ⟨rfl, rfl⟩ | ⟨a, len, cap, m, n, D, Pl, rfl, hb, hl, hm, hmm, rfl, hx⟩
  · exact ⟨_, [], rfl, ⟨none, 0, rfl, Nat.le_refl _, fun i hi => absurd hi (by simp)⟩, by simp, by simp⟩
  · have hle : len ≤ m := by rw [hmm]; split <;> omega
    rw [hcl] at hx
    obtain ⟨f, hf⟩ := Deep.choose_lt (α := Value × List UInt8) (n := len) (p := fun i u => BytesAt w (fun k => k < w.heap.size) u.1 u.2 ∧ u.2.length ≤ 140737488355328 ∧ w.cell? (a.add i) = some u.1) (fun i hi => by
      obtain ⟨cs', h1, h2⟩ := hx i (by omega)
      obtain ⟨v, bs, hcs, ho, hl⟩ := bytes_open h2 (fun q hq => hz q (by
        simp only [DataW.weights, Tryd.underlying41]
        refine List.mem_cons.2 (.inr (List.mem_append.2 (.inl (mem_weightsAll (List.mem_map.2 ⟨i, List.mem_range.2 hi, rfl⟩) hq))))))
      refine ⟨(v, bs), ho, hl, ?_⟩
      obtain ⟨_, _, hc⟩ := World.cells?_some h1
      have := hc 0 (by omega)
      rw [Deep.add_add, Nat.mul_one, Nat.add_zero] at this
      rw [this]
      subst hcs
      rfl)
    refine ⟨_, (List.range len).map fun i => (f i).2, rfl, ⟨some a, cap, by simp, by simp; omega, fun i hi => ?_⟩, fun p hp => ?_, ?_⟩
    · have hi' : i < len := by simpa using hi
      obtain ⟨h1, _, h2⟩ := hf i hi'
      refine ⟨a, (f i).1, rfl, ?_, h2, by simpa using h1⟩
      have := lt_of_cell h2
      rwa [add_block] at this
    · obtain ⟨i, hi, rfl⟩ := List.mem_map.1 hp
      exact (hf i (List.mem_range.1 hi)).2.1
    · have := hz ((len + (m - len)) * 24) (by
        have hb1 : Tryd.prog.bytesOf 22 = 24 := by kernel_rfl
        simp only [DataW.weights, Tryd.underlying41, hb1]
        exact List.mem_cons.2 (.inl (by simp)))
      unfold reachBytes at this
      simp
      omega

open Go.ChangeShapes Go.WideShapes Go.ChangeAt

set_option maxRecDepth 100000 in
theorem parts_arg {H : Type} {enc : TypeId × Value → H} {W : World} {b0 : Nat} {v : Value} {d : DataW H} {p : List MemPlace} (hv : Value.okWide Tryd.prog W .any b0 41 v) (h : DataW.Trod enc Tryd.prog W 0 (fun _ => true) true 41 v d p) (hz : Small 41 d) :
    ∃ ps, PartsAt W (fun k => k < W.heap.size) v ps ∧ (∀ p ∈ ps, p.length ≤ 140737488355328) ∧ ps.length ≤ 140737488355328 := by
  obtain ⟨a, len, cap, rfl⟩ := okWide_slice Tryd.underlying41 hv
  obtain ⟨fuel, h⟩ := h
  obtain ⟨v, l, hcs, hs, hl⟩ := parts_open h hz
  have : Value.slice a len cap = v := (List.cons.inj (show [Value.slice a len cap] = [v] from hcs)).1
  subst this
  exact ⟨l, hs, hl⟩

theorem lst4 {α : Type} {l : List α} (h : l.length = 4) : ∃ x0 x1 x2 x3, l = [x0, x1, x2, x3] := by
  match l, h with
  | [x0, x1, x2, x3], _ => exact ⟨x0, x1, x2, x3, rfl⟩

theorem wanted_open {H : Type} {enc : TypeId × Value → H} {w : World} {base : Nat} {spare : Nat → Bool} {held : Bool} {fuel : Nat} {cs : List Value} {x : DataW H × List MemPlace} (h : DataW.trod enc Tryd.prog w base spare held fuel 32 cs = some x) (hz : Small 32 x.1) :
    ∃ v0 v1 v2 x0 x1 x2 n, cs = [v0, v1, v2, .int .i64 n] ∧ BytesAt w (fun k => k < w.heap.size) v0 x0 ∧ BytesAt w (fun k => k < w.heap.size) v1 x1 ∧ BytesAt w (fun k => k < w.heap.size) v2 x2 ∧ x0.length ≤ 140737488355328 ∧ x1.length ≤ 140737488355328 ∧ x2.length ≤ 140737488355328 := by
  obtain ⟨y0, y1, y2, y3, n, rfl, hl, f0, f1, f2, f3⟩ := Joins.trod_struct4 Tryd.underlying32 h
  have hcl : Tryd.prog.cellsOf 32 = 4 := by kernel_rfl
  have hc2 : Tryd.prog.cellsOf 22 = 1 := by kernel_rfl
  have hc3 : Tryd.prog.cellsOf 3 = 1 := by kernel_rfl
  rw [hcl] at hl
  obtain ⟨c0, c1, c2, c3, rfl⟩ := lst4 hl
  simp only [hc3, hc2, List.drop, List.take] at f0 f1 f2 f3
  have hw : ∀ q, q ∈ y0.1.weights Tryd.prog 22 ∨ q ∈ y1.1.weights Tryd.prog 22 ∨ q ∈ y2.1.weights Tryd.prog 22 → q ≤ reachBytes := by
    intro q hq
    refine hz q ?_
    simp only [DataW.weights, Tryd.underlying32, DataW.weightsEach, List.map_cons, List.map_nil, List.mem_append]
    rcases hq with hq | hq | hq
    · exact .inl hq
    · exact .inr (.inl hq)
    · exact .inr (.inr (.inl hq))
  obtain ⟨v0, x0, e0, hb0, hl0⟩ := bytes_open f0 (fun q hq => hw q (.inl hq))
  obtain ⟨v1, x1, e1, hb1, hl1⟩ := bytes_open f1 (fun q hq => hw q (.inr (.inl hq)))
  obtain ⟨v2, x2, e2, hb2, hl2⟩ := bytes_open f2 (fun q hq => hw q (.inr (.inr hq)))
  obtain ⟨j, e3, _, _⟩ := DataW.trod_int Tryd.underlying3 f3
  have g0 := (List.cons.inj (show [c0] = [v0] from e0)).1
  have g1 := (List.cons.inj (show [c1] = [v1] from e1)).1
  have g2 := (List.cons.inj (show [c2] = [v2] from e2)).1
  have g3 := (List.cons.inj (show [c3] = [.int .i64 j] from e3)).1
  clear f0 f1 f2 f3 e0 e1 e2 e3
  subst g0 g1 g2 g3
  exact ⟨c0, c1, c2, x0, x1, x2, j, rfl, hb0, hb1, hb2, hl0, hl1, hl2⟩

set_option maxRecDepth 100000 in
theorem wanted_arg {H : Type} {enc : TypeId × Value → H} {W : World} {b0 : Nat} {v : Value} {d : DataW H} {p : List MemPlace} (hv : Value.okWide Tryd.prog W .any b0 32 v) (h : DataW.Trod enc Tryd.prog W 0 (fun _ => true) true 32 v d p) (hz : Small 32 d) :
    ∃ v0 v1 v2 x0 x1 x2 n, v = .agg #[v0, v1, v2, .int .i64 n] ∧ BytesAt W (fun k => k < W.heap.size) v0 x0 ∧ BytesAt W (fun k => k < W.heap.size) v1 x1 ∧ BytesAt W (fun k => k < W.heap.size) v2 x2 ∧ x0.length ≤ 140737488355328 ∧ x1.length ≤ 140737488355328 ∧ x2.length ≤ 140737488355328 := by
  unfold Value.okWide at hv
  rw [Tryd.underlying32] at hv
  obtain ⟨cs, rfl, _, _⟩ := hv
  obtain ⟨fuel, h⟩ := h
  obtain ⟨v0, v1, v2, x0, x1, x2, n, hcs, h1⟩ := wanted_open h hz
  have : cs = #[v0, v1, v2, .int .i64 n] := Array.toList_inj.1 hcs
  subst this
  exact ⟨v0, v1, v2, x0, x1, x2, n, rfl, h1⟩

end Go.Proofs.YtdgaojibfpafnaaDoor
