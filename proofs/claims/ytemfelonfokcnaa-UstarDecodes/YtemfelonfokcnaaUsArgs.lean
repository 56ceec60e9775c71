/- A header as an argument. Conditions: within the reach. -/
import Derived.Test.YtemfelonfokcnaaGArgs
import Derived.Test.YtemfelonfokcnaaUsPure
import Derived.ChangeMaps5
namespace Go.Proofs.Ytemfelonfokcnaa
open Go.RowKit
open Go.ChangeShapes Go.WideShapes Go.ChangeAt

theorem lst8 {α : Type} {l : List α} (h : l.length = 8) : ∃ x0 x1 x2 x3 x4 x5 x6 x7, l = [x0, x1, x2, x3, x4, x5, x6, x7] := by
  match l, h with
  | [x0, x1, x2, x3, x4, x5, x6, x7], _ => exact ⟨x0, x1, x2, x3, x4, x5, x6, x7, rfl⟩

section
variable {H : Type} {enc : TypeId × Value → H} {w : World} {base : Nat} {spare : Nat → Bool} {held : Bool}

theorem trod_struct8 {P : Program} {t : TypeId} {f0 f1 f2 f3 f4 f5 f6 f7 : Field} {fuel : Nat} {cs : List Value} {x : DataW H × List MemPlace} (ht : P.underlying t = some (.struct #[f0, f1, f2, f3, f4, f5, f6, f7])) (h : DataW.trod enc P w base spare held fuel t cs = some x) :
    ∃ y0 y1 y2 y3 y4 y5 y6 y7 n, x.1 = .agg [y0.1, y1.1, y2.1, y3.1, y4.1, y5.1, y6.1, y7.1] ∧ cs.length = P.cellsOf t ∧ DataW.trod enc P w base spare held n f0.type ((cs.drop f0.offset).take (P.cellsOf f0.type)) = some y0 ∧ DataW.trod enc P w base spare held n f1.type ((cs.drop f1.offset).take (P.cellsOf f1.type)) = some y1 ∧ DataW.trod enc P w base spare held n f2.type ((cs.drop f2.offset).take (P.cellsOf f2.type)) = some y2 ∧ DataW.trod enc P w base spare held n f3.type ((cs.drop f3.offset).take (P.cellsOf f3.type)) = some y3 ∧
      DataW.trod enc P w base spare held n f4.type ((cs.drop f4.offset).take (P.cellsOf f4.type)) = some y4 ∧ DataW.trod enc P w base spare held n f5.type ((cs.drop f5.offset).take (P.cellsOf f5.type)) = some y5 ∧ DataW.trod enc P w base spare held n f6.type ((cs.drop f6.offset).take (P.cellsOf f6.type)) = some y6 ∧ DataW.trod enc P w base spare held n f7.type ((cs.drop f7.offset).take (P.cellsOf f7.type)) = some y7 := by
  obtain ⟨xs, n, _, rfl, hl, hlen, hf⟩ := DataW.trod_struct ht h
  obtain ⟨y0, y1, y2, y3, y4, y5, y6, y7, rfl⟩ := lst8 (show xs.length = 8 from hlen)
  exact ⟨y0, y1, y2, y3, y4, y5, y6, y7, n, by simp, hl, by simpa using hf 0 f0 rfl, by simpa using hf 1 f1 rfl, by simpa using hf 2 f2 rfl, by simpa using hf 3 f3 rfl, by simpa using hf 4 f4 rfl, by simpa using hf 5 f5 rfl, by simpa using hf 6 f6 rfl, by simpa using hf 7 f7 rfl⟩

theorem u8_lit {n : Int} (h : (Lit.int .u8 n).wf = true) : ∃ b : UInt8, n = (b.toNat : Int) := by
  have := bounds_u8 h
  exact ⟨UInt8.ofNat n.toNat, by simp; omega⟩

theorem hd_open {fuel : Nat} {cs : List Value} {x : DataW H × List MemPlace} (h : DataW.trod enc Try.prog w base spare held fuel 23 cs = some x) (hz : Small 23 x.1) :
    ∃ hd : Hd, cs = hdL hd ∧ hd.path.size ≤ 140737488351232 ∧ hd.link.size ≤ 140737488351232 := by
  obtain ⟨y0, y1, y2, y3, y4, y5, y6, y7, n, hx1, hl, f0, f1, f2, f3, f4, f5, f6, f7⟩ := trod_struct8 Try.underlying23 h
  have hcl : Try.prog.cellsOf 23 = 8 := by kernel_rfl
  have hc3 : Try.prog.cellsOf 3 = 1 := by kernel_rfl
  have hc9 : Try.prog.cellsOf 9 = 1 := by kernel_rfl
  have hc5 : Try.prog.cellsOf 5 = 1 := by kernel_rfl
  rw [hcl] at hl
  rw [hx1] at hz
  obtain ⟨c0, c1, c2, c3, c4, c5, c6, c7, rfl⟩ := lst8 hl
  simp only [hc3, hc9, hc5, List.drop, List.take] at f0 f1 f2 f3 f4 f5 f6 f7
  have hw : ∀ m, m ∈ y0.1.weights Try.prog 9 ∨ m ∈ y7.1.weights Try.prog 9 → m ≤ reachBytes := by
    intro m hm
    refine hz m ?_
    simp only [DataW.weights, Try.underlying23, DataW.weightsEach, List.map_cons, List.map_nil, List.mem_append]
    rcases hm with hm | hm
    · exact .inl hm
    · exact .inr (.inr (.inr (.inr (.inr (.inr (.inr (.inl hm)))))))
  obtain ⟨path, e0, x0, _⟩ := DataW.trod_string Try.underlying9 f0
  obtain ⟨mode, e1, _, _⟩ := DataW.trod_int Try.underlying3 f1
  obtain ⟨uid, e2, _, _⟩ := DataW.trod_int Try.underlying3 f2
  obtain ⟨gid, e3, _, _⟩ := DataW.trod_int Try.underlying3 f3
  obtain ⟨size, e4, _, _⟩ := DataW.trod_int Try.underlying3 f4
  obtain ⟨time, e5, _, _⟩ := DataW.trod_int Try.underlying3 f5
  obtain ⟨ty, e6, _, hty⟩ := DataW.trod_int Try.underlying5 f6
  obtain ⟨link, e7, x7, _⟩ := DataW.trod_string Try.underlying9 f7
  have hp : path.size ≤ 140737488351232 := by
    have : path.data.toList.length ≤ reachBytes := hw path.data.toList.length (.inl (by rw [x0]; simp [DataW.weights]))
    exact this
  have hk : link.size ≤ 140737488351232 := by
    have : link.data.toList.length ≤ reachBytes := hw link.data.toList.length (.inr (by rw [x7]; simp [DataW.weights]))
    exact this
  have g0 := (List.cons.inj (show [c0] = [.string path] from e0)).1
  have g1 := (List.cons.inj (show [c1] = [.int .i64 mode] from e1)).1
  have g2 := (List.cons.inj (show [c2] = [.int .i64 uid] from e2)).1
  have g3 := (List.cons.inj (show [c3] = [.int .i64 gid] from e3)).1
  have g4 := (List.cons.inj (show [c4] = [.int .i64 size] from e4)).1
  have g5 := (List.cons.inj (show [c5] = [.int .i64 time] from e5)).1
  have g6 := (List.cons.inj (show [c6] = [.int .u8 ty] from e6)).1
  have g7 := (List.cons.inj (show [c7] = [.string link] from e7)).1
  clear f0 f1 f2 f3 f4 f5 f6 f7 e0 e1 e2 e3 e4 e5 e6 e7
  subst g0 g1 g2 g3 g4 g5 g6 g7
  obtain ⟨b, rfl⟩ : ∃ b : UInt8, ty = (b.toNat : Int) := u8_lit hty
  exact ⟨⟨path, mode, uid, gid, size, time, b, link⟩, rfl, hp, hk⟩
end

set_option maxRecDepth 100000 in
theorem hd_arg {H : Type} {enc : TypeId × Value → H} {W : World} {b0 : Nat} {v : Value} {d : DataW H} {p : List MemPlace} (hv : Value.okWide Try.prog W .any b0 23 v) (h : DataW.Trod enc Try.prog W 0 (fun _ => true) true 23 v d p) (hz : Small 23 d) :
    ∃ hd : Hd, v = hdV hd ∧ hd.path.size ≤ 140737488351232 ∧ hd.link.size ≤ 140737488351232 := by
  unfold Value.okWide at hv
  rw [Try.underlying23] at hv
  obtain ⟨cs, rfl, _, _⟩ := hv
  obtain ⟨fuel, h⟩ := h
  obtain ⟨s, hcs, h1, h2⟩ := hd_open h hz
  refine ⟨s, ?_, h1, h2⟩
  unfold hdV
  congr 1
  exact Array.toList_inj.1 (by simpa [Value.cells, hdL] using hcs)

/-- A text within the reach. -/
theorem text_reach {s : ByteArray} (h : s.data.toList.length ≤ reachBytes) : s.size ≤ 140737488351232 := h

end Go.Proofs.Ytemfelonfokcnaa
