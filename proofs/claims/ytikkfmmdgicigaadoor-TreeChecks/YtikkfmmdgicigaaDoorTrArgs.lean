/- A row of entries as an argument. Conditions: within the reach. -/
import Derived.Test.YtikkfmmdgicigaaDoorPaArgs
import Derived.Test.YtikkfmmdgicigaaDoorTrMem
import Derived.Deep.Strs
import Derived.SliceStrings
namespace Go.Proofs.YtikkfmmdgicigaaDoor
open Go.RowKit
open Go.ChangeShapes Go.WideShapes Go.ChangeAt

theorem mem_weightsAll {H : Type} {P : Program} {e : TypeId} {d : DataW H} {n : Nat} : ∀ {l : List (DataW H)}, d ∈ l → n ∈ d.weights P e → n ∈ DataW.weightsAll P e l
  | x :: r, h, hn => by
    simp only [DataW.weightsAll, List.mem_append]
    rcases List.mem_cons.1 h with rfl | h
    · exact .inl hn
    · exact .inr (mem_weightsAll h hn)

theorem lst8 {α : Type} {l : List α} (h : l.length = 8) : ∃ x0 x1 x2 x3 x4 x5 x6 x7, l = [x0, x1, x2, x3, x4, x5, x6, x7] := by
  match l, h with
  | [x0, x1, x2, x3, x4, x5, x6, x7], _ => exact ⟨x0, x1, x2, x3, x4, x5, x6, x7, rfl⟩

section
variable {H : Type} {enc : TypeId × Value → H} {w : World} {base : Nat} {spare : Nat → Bool} {held : Bool}

theorem trod_struct8 {P : Program} {t : TypeId} {f0 f1 f2 f3 f4 f5 f6 f7 : Field} {fuel : Nat} {cs : List Value} {x : DataW H × List MemPlace} (ht : P.underlying t = some (.struct #[f0, f1, f2, f3, f4, f5, f6, f7])) (h : DataW.trod enc P w base spare held fuel t cs = some x) :
    ∃ y0 y1 y2 y3 y4 y5 y6 y7 n, x.1 = .agg [y0.1, y1.1, y2.1, y3.1, y4.1, y5.1, y6.1, y7.1] ∧ cs.length = P.cellsOf t ∧ DataW.trod enc P w base spare held n f0.type ((cs.drop f0.offset).take (P.cellsOf f0.type)) = some y0 ∧ DataW.trod enc P w base spare held n f1.type ((cs.drop f1.offset).take (P.cellsOf f1.type)) = some y1 ∧ DataW.trod enc P w base spare held n f2.type ((cs.drop f2.offset).take (P.cellsOf f2.type)) = some y2 ∧ DataW.trod enc P w base spare held n f3.type ((cs.drop f3.offset).take (P.cellsOf f3.type)) = some y3 ∧
      DataW.trod enc P w base spare held n f4.type ((cs.drop f4.offset).take (P.cellsOf f4.type)) = some y4 ∧ DataW.trod enc P w base spare held n f5.type ((cs.drop f5.offset).take (P.cellsOf f5.type)) = some y5 ∧ DataW.trod enc P w base spare held n f6.type ((cs.drop f6.offset).take (P.cellsOf f6.type)) = some y6 ∧ DataW.trod enc P w base spare held n f7.type ((cs.drop f7.offset).take (P.cellsOf f7.type)) = some y7 := by
  obtain ⟨xs, n, _, rfl, hl, hlen, hf⟩ := DataW.trod_struct ht h
  obtain ⟨y0, y1, y2, y3, y4, y5, y6, y7, rfl⟩ := lst8 (show xs.length = 8 from hlen)
  exact ⟨y0, y1, y2, y3, y4, y5, y6, y7, n, by simp, hl, by simpa using hf 0 f0 rfl, by simpa using hf 1 f1 rfl, by simpa using hf 2 f2 rfl, by simpa using hf 3 f3 rfl, by simpa using hf 4 f4 rfl, by simpa using hf 5 f5 rfl, by simpa using hf 6 f6 rfl, by simpa using hf 7 f7 rfl⟩

theorem addr_plain {w : World} {a : Addr} {v : Value} (h : w.cell? a = some v) : a = ⟨a.block, a.off, none⟩ := by
  obtain ⟨b, o, sp⟩ := a
  rcases sp with _ | x
  · rfl
  · exfalso
    unfold World.cell? at h
    split at h <;> simp at h

/-- Within the reach of an argument. -/
def ArgFit (x : Ve) : Prop := x.2.path.length ≤ 140737488351232 ∧ x.2.link.length ≤ 140737488351232 ∧ x.2.data.length ≤ 140737488351232

theorem ent_open {fuel : Nat} {cs : List Value} {x : DataW H × List MemPlace} (h : DataW.trod enc Tryd.prog w base spare held fuel 41 cs = some x) (hz : Small 41 x.1) :
    ∃ e : Ve, cs = enC e ∧ BytesAt w (fun k => k < w.heap.size) e.1 e.2.data ∧ ArgFit e := by
  obtain ⟨y0, y1, y2, y3, y4, y5, y6, y7, n, hx1, hl, f0, f1, f2, f3, f4, f5, f6, f7⟩ := trod_struct8 Tryd.underlying41 h
  have hcl : Tryd.prog.cellsOf 41 = 8 := by kernel_rfl
  have hc3 : Tryd.prog.cellsOf 3 = 1 := by kernel_rfl
  have hc9 : Tryd.prog.cellsOf 9 = 1 := by kernel_rfl
  have hc2 : Tryd.prog.cellsOf 39 = 1 := by kernel_rfl
  rw [hcl] at hl
  rw [hx1] at hz
  obtain ⟨c0, c1, c2, c3, c4, c5, c6, c7, rfl⟩ := lst8 hl
  simp only [hc3, hc9, hc2, List.drop, List.take] at f0 f1 f2 f3 f4 f5 f6 f7
  have hw : ∀ m, m ∈ y0.1.weights Tryd.prog 9 ∨ m ∈ y6.1.weights Tryd.prog 9 ∨ m ∈ y7.1.weights Tryd.prog 39 → m ≤ reachBytes := by
    intro m hm
    refine hz m ?_
    simp only [DataW.weights, Tryd.underlying41, DataW.weightsEach, List.map_cons, List.map_nil, List.mem_append]
    rcases hm with hm | hm | hm
    · exact .inl hm
    · exact .inr (.inr (.inr (.inr (.inr (.inr (.inl hm))))))
    · exact .inr (.inr (.inr (.inr (.inr (.inr (.inr (.inl hm)))))))
  obtain ⟨path, e0, x0, _⟩ := DataW.trod_string Tryd.underlying9 f0
  obtain ⟨kind, e1, _, _⟩ := DataW.trod_int Tryd.underlying3 f1
  obtain ⟨mode, e2, _, _⟩ := DataW.trod_int Tryd.underlying3 f2
  obtain ⟨uid, e3, _, _⟩ := DataW.trod_int Tryd.underlying3 f3
  obtain ⟨gid, e4, _, _⟩ := DataW.trod_int Tryd.underlying3 f4
  obtain ⟨time, e5, _, _⟩ := DataW.trod_int Tryd.underlying3 f5
  obtain ⟨link, e6, x6, _⟩ := DataW.trod_string Tryd.underlying9 f6
  obtain ⟨dv, data, e7, hda, hdl⟩ := bytes_open f7 (fun m hm => hw m (.inr (.inr hm)))
  have hp : path.data.toList.length ≤ 140737488351232 := by
    have := hw path.data.toList.length (.inl (by rw [x0]; simp [DataW.weights]))
    exact this
  have hk : link.data.toList.length ≤ 140737488351232 := by
    have := hw link.data.toList.length (.inr (.inl (by rw [x6]; simp [DataW.weights])))
    exact this
  have g0 := (List.cons.inj (show [c0] = [.string path] from e0)).1
  have g1 := (List.cons.inj (show [c1] = [.int .i64 kind] from e1)).1
  have g2 := (List.cons.inj (show [c2] = [.int .i64 mode] from e2)).1
  have g3 := (List.cons.inj (show [c3] = [.int .i64 uid] from e3)).1
  have g4 := (List.cons.inj (show [c4] = [.int .i64 gid] from e4)).1
  have g5 := (List.cons.inj (show [c5] = [.int .i64 time] from e5)).1
  have g6 := (List.cons.inj (show [c6] = [.string link] from e6)).1
  have g7 := (List.cons.inj (show [c7] = [dv] from e7)).1
  clear f0 f1 f2 f3 f4 f5 f6 f7 e0 e1 e2 e3 e4 e5 e6 e7
  subst g0 g1 g2 g3 g4 g5 g6 g7
  refine ⟨(c7, ⟨path.data.toList, kind, mode, uid, gid, time, link.data.toList, data⟩), ?_, hda, hp, hk, hdl⟩
  simp [enC]

theorem ents_open {fuel : Nat} {cs : List Value} {x : DataW H × List MemPlace} (h : DataW.trod enc Tryd.prog w base spare held fuel 22 cs = some x) (hz : Small 22 x.1) :
    ∃ v l, cs = [v] ∧ EntsAt w (fun k => k < w.heap.size) v l ∧ (∀ e ∈ l, ArgFit e) ∧ l.length * 96 ≤ 140737488351232 := by
  have hcl : Tryd.prog.cellsOf 41 = 8 := by kernel_rfl
  rcases Deep.open_slice Tryd.underlying22 h with ⟨rfl, rfl⟩ | ⟨a, len, cap, m, n, D, Pl, rfl, hb, hl, hm, hmm, rfl, hx⟩
  · exact ⟨_, [], rfl, ⟨none, 0, rfl, Nat.le_refl _, fun _ => rfl, fun i hi => absurd hi (by simp), by simp⟩, by simp, by simp⟩
  · have hle : len ≤ m := by rw [hmm]; split <;> omega
    rw [hcl] at hx
    obtain ⟨f, hf⟩ := Deep.choose_lt (α := Ve) (n := len) (p := fun i u => (BytesAt w (fun k => k < w.heap.size) u.1 u.2.data ∧ ArgFit u) ∧ ∀ j v, (enC u)[j]? = some v → w.cell? (a.add (i * 8 + j)) = some v) (fun i hi => by
      obtain ⟨cs', h1, h2⟩ := hx i (by omega)
      obtain ⟨o, rfl, ho⟩ := ent_open h2 (fun q hq => hz q (by
        simp only [DataW.weights, Tryd.underlying22]
        refine List.mem_cons.2 (.inr (List.mem_append.2 (.inl (mem_weightsAll (List.mem_map.2 ⟨i, List.mem_range.2 hi, rfl⟩) hq))))))
      refine ⟨o, ho, fun j v hv => ?_⟩
      obtain ⟨_, _, hc⟩ := World.cells?_some h1
      have hj : j < 8 := by have := (List.getElem?_eq_some_iff.1 hv).1; rw [enC_len] at this; exact this
      have := hc j hj
      rw [Deep.add_add] at this
      rw [this]
      exact hv)
    have hget : ∀ i, (hi : i < ((List.range len).map f).length) → ((List.range len).map f)[i] = f i := fun i hi => by simp
    refine ⟨_, (List.range len).map f, rfl, ⟨some a, cap, by simp, by simpa using hl, (by simp), fun i hi => ?_, fun x hx => ?_⟩, fun x hx => ?_, ?_⟩
    · have hi' : i < len := by simpa using hi
      obtain ⟨_, h2⟩ := hf i hi'
      obtain ⟨_, h20⟩ := hf 0 (by omega)
      have h0 := h20 0 _ rfl
      have hsp := addr_plain (a := a) (by simpa [Addr.add] using h0)
      have hbl := lt_of_cell h0
      rw [add_block] at hbl
      refine ⟨a.block, a.off, congrArg some hsp, hbl, fun j u hu => ?_⟩
      rw [hget i hi] at hu
      have := h2 j u hu
      rw [hsp, add_lit] at this
      rw [Nat.add_assoc]
      exact this
    · obtain ⟨i, hi, rfl⟩ := List.mem_map.1 hx
      exact (hf i (List.mem_range.1 hi)).1.1
    · obtain ⟨i, hi, rfl⟩ := List.mem_map.1 hx
      exact (hf i (List.mem_range.1 hi)).1.2
    · have := hz (((List.range len).map D).length * 96 + ((List.range (m - len)).map fun j => D (len + j)).length * 96) (by
        have hb1 : Tryd.prog.bytesOf 41 = 96 := by kernel_rfl
        simp only [DataW.weights, Tryd.underlying22, hb1]
        refine List.mem_cons.2 (.inl ?_)
        omega)
      unfold reachBytes at this
      simp only [List.length_map, List.length_range] at this ⊢
      omega
end

set_option maxRecDepth 100000 in
/-- A value of type []Entry. -/
theorem ents_arg {H : Type} {enc : TypeId × Value → H} {W : World} {b0 : Nat} {v : Value} {d : DataW H} {p : List MemPlace} (hv : Value.okWide Tryd.prog W .any b0 22 v) (h : DataW.Trod enc Tryd.prog W 0 (fun _ => true) true 22 v d p) (hz : Small 22 d) :
    ∃ l, EntsAt W (fun k => k < W.heap.size) v l ∧ (∀ e ∈ l, ArgFit e) ∧ l.length * 96 ≤ 140737488351232 := by
  obtain ⟨a, len, cap, rfl⟩ := okWide_slice Tryd.underlying22 hv
  obtain ⟨fuel, h⟩ := h
  obtain ⟨v, l, hcs, hs⟩ := ents_open h hz
  have : Value.slice a len cap = v := (List.cons.inj (show [Value.slice a len cap] = [v] from hcs)).1
  subst this
  exact ⟨l, hs⟩

end Go.Proofs.YtikkfmmdgicigaaDoor
