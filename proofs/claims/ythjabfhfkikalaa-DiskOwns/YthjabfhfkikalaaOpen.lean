/- What the arguments of the laws read as: rows of bytes and ints, calls, scripts. Conditions: rows within the reach. -/
import Derived.Test.YthjabfhfkikalaaScript
import Derived.ChangeSlices
import Derived.ChangeArms
import Derived.ChangeSame
import Derived.Deep.Slices
import Derived.Lib.SmallJoins
import Derived.OpenShut
import Derived.SizedLaws
import Derived.ProofKit
namespace Go.Proofs.Ythjabfhfkikalaa
open Go.RowKit Go.Maps Go.WideMaps

theorem lt_of_cell {w : World} {a : Addr} {v : Value} (h : w.cell? a = some v) : a.block < w.heap.size := by
  rcases Nat.lt_or_ge a.block w.heap.size with h1 | h1
  · exact h1
  · unfold World.cell? at h
    rw [Array.getElem?_eq_none h1] at h
    cases h

theorem list2 {α : Type} {l : List α} (h : l.length = 2) : ∃ x0 x1, l = [x0, x1] := by
  match l, h with
  | [x0, x1], _ => exact ⟨x0, x1, rfl⟩
theorem list5 {α : Type} {l : List α} (h : l.length = 5) : ∃ x0 x1 x2 x3 x4, l = [x0, x1, x2, x3, x4] := by
  match l, h with
  | [x0, x1, x2, x3, x4], _ => exact ⟨x0, x1, x2, x3, x4, rfl⟩
theorem list7 {α : Type} {l : List α} (h : l.length = 7) : ∃ x0 x1 x2 x3 x4 x5 x6, l = [x0, x1, x2, x3, x4, x5, x6] := by
  match l, h with
  | [x0, x1, x2, x3, x4, x5, x6], _ => exact ⟨x0, x1, x2, x3, x4, x5, x6, rfl⟩
theorem list8 {α : Type} {l : List α} (h : l.length = 8) : ∃ x0 x1 x2 x3 x4 x5 x6 x7, l = [x0, x1, x2, x3, x4, x5, x6, x7] := by
  match l, h with
  | [x0, x1, x2, x3, x4, x5, x6, x7], _ => exact ⟨x0, x1, x2, x3, x4, x5, x6, x7, rfl⟩

theorem own_knob : ownKnob Try.prog.godebug = none := by kernel_rfl
theorem laid_out : laidOutB Try.prog = true := by kernel_rfl

section
variable {H : Type} {enc : TypeId × Value → H} {w : World} {base : Nat} {spare : Nat → Bool} {held : Bool}

/-- Every row in d is within the reach. -/
def Small (t : TypeId) (d : DataW H) : Prop := ∀ n ∈ d.weights Try.prog t, n ≤ reachBytes

theorem bytes_open {fuel : Nat} {cs : List Value} {x : DataW H × List MemPlace} (h : DataW.trod enc Try.prog w base spare held fuel 22 cs = some x) (hz : Small 22 x.1) :
    ∃ v bs, cs = [v] ∧ BytesAt w (fun k => k < w.heap.size) v bs ∧ bs.length ≤ 140737488355328 := by
  rcases ChangeShapes.open_ints Try.underlying22 Try.underlying5 (by kernel_rfl) h with ⟨rfl, rfl⟩ | ⟨a, len, cap, zs, rfl, hb, hl, hm, hlen, rfl, hcell, hwf⟩
  · exact ⟨_, [], rfl, .inl ⟨rfl, rfl⟩, by simp⟩
  · have hle : len ≤ zs.length := by rw [hlen]; split <;> omega
    have hbl : ((zs.take len).map fun z => UInt8.ofNat z.toNat).length = len := by simp; omega
    refine ⟨_, (zs.take len).map fun z => UInt8.ofNat z.toNat, rfl, .inr ⟨a, cap, by rw [hbl], fun hne => ?_, fun j u hu => ?_⟩, ?_⟩
    · have hp : 0 < zs.length := by
        rcases Nat.eq_zero_or_pos zs.length with h0 | h0
        · exact (hne (by simp [List.eq_nil_of_length_eq_zero h0])).elim
        · exact h0
      have := lt_of_cell (hcell 0 hp)
      rwa [add_block] at this
    · rw [List.getElem?_map, Option.map_eq_some_iff] at hu
      obtain ⟨z, hz1, rfl⟩ := hu
      rw [List.getElem?_take] at hz1
      split at hz1
      · have hj := (List.getElem?_eq_some_iff.1 hz1).1
        rw [hcell j hj]
        have hzz : zs.getD j 0 = z := by simp [List.getD, hz1]
        have hw := bounds_u8 (hwf z (List.mem_of_getElem? hz1))
        rw [hzz]
        unfold byteV
        congr 2
        simp only [UInt8.toNat_ofNat']
        omega
      · cases hz1
    · rw [hbl]
      have := hz ((zs.take len).length * 1 + (zs.drop len).length * 1) (by
        have hb1 : Try.prog.bytesOf 5 = 1 := by kernel_rfl
        simp only [DataW.weights, Try.underlying22, hb1]
        refine List.mem_cons.2 (.inl ?_)
        simp [ChangeShapes.lits])
      simp at this
      unfold reachBytes at this
      omega

theorem ints_open {fuel : Nat} {cs : List Value} {x : DataW H × List MemPlace} (h : DataW.trod enc Try.prog w base spare held fuel 24 cs = some x) (hz : Small 24 x.1) :
    ∃ v l, cs = [v] ∧ IntsAt w (fun k => k < w.heap.size) v l ∧ l.length + 1 < 17592186044416 ∧ ∀ x ∈ l, x < 2 ^ 63 := by
  rcases ChangeShapes.open_ints Try.underlying24 Try.underlying3 (by kernel_rfl) h with ⟨rfl, rfl⟩ | ⟨a, len, cap, zs, rfl, hb, hl, hm, hlen, rfl, hcell, hwf⟩
  · exact ⟨_, [], rfl, .inl ⟨rfl, rfl⟩, by simp, by simp⟩
  · have hle : len ≤ zs.length := by rw [hlen]; split <;> omega
    have hbl : (zs.take len).length = len := by simp; omega
    refine ⟨_, zs.take len, rfl, .inr ⟨a, cap, by rw [hbl], fun hne => ?_, fun j u hu => ?_⟩, ?_, fun u hu => ?_⟩
    · have hp : 0 < zs.length := by
        rcases Nat.eq_zero_or_pos zs.length with h0 | h0
        · exact (hne (by simp [List.eq_nil_of_length_eq_zero h0])).elim
        · exact h0
      have := lt_of_cell (hcell 0 hp)
      rwa [add_block] at this
    · rw [List.getElem?_take] at hu
      split at hu
      · have hj := (List.getElem?_eq_some_iff.1 hu).1
        rw [hcell j hj]
        simp [List.getD, hu]
      · cases hu
    · rw [hbl]
      have := hz (((zs.take len).length + (zs.drop len).length) * 8) (by
        have hb1 : Try.prog.bytesOf 3 = 8 := by kernel_rfl
        simp only [DataW.weights, Try.underlying24, hb1]
        refine List.mem_cons.2 (.inl ?_)
        simp [ChangeShapes.lits])
      simp at this
      unfold reachBytes at this
      omega
    · have := (bounds_i64 (hwf u (List.mem_of_mem_take hu))).2
      omega

theorem survival_open {fuel : Nat} {cs : List Value} {x : DataW H × List MemPlace} (h : DataW.trod enc Try.prog w base spare held fuel 26 cs = some x) (hz : Small 26 x.1) :
    ∃ dirs cv cuts, cs = [.int .i64 dirs, cv] ∧ IntsAt w (fun k => k < w.heap.size) cv cuts ∧ cuts.length + 1 < 17592186044416 ∧ ∀ x ∈ cuts, x < 2 ^ 63 := by
  obtain ⟨y0, y1, n, rfl, hl, h0, h1⟩ := ChangeShapes.trod_struct2 Try.underlying26 h
  have hcl : Try.prog.cellsOf 26 = 2 := by kernel_rfl
  have hc3 : Try.prog.cellsOf 3 = 1 := by kernel_rfl
  have hc4 : Try.prog.cellsOf 24 = 1 := by kernel_rfl
  rw [hcl] at hl
  obtain ⟨c0, c1, rfl⟩ := list2 hl
  · simp only [hc3, hc4, List.drop, List.take] at h0 h1
    obtain ⟨d, e0, _, _⟩ := DataW.trod_int Try.underlying3 h0
    cases e0
    obtain ⟨v, l, e1, hi, hi2, hi3⟩ := ints_open h1 (fun n hn => hz n (by simp [DataW.weights, Try.underlying26, DataW.weightsEach]; exact .inr hn))
    cases e1
    exact ⟨d, c1, l, rfl, hi, hi2, hi3⟩

theorem trod_struct7 {P : Program} {t : TypeId} {f0 f1 f2 f3 f4 f5 f6 : Field} {fuel : Nat} {cs : List Value} {x : DataW H × List MemPlace} (ht : P.underlying t = some (.struct #[f0, f1, f2, f3, f4, f5, f6])) (h : DataW.trod enc P w base spare held fuel t cs = some x) :
    ∃ y0 y1 y2 y3 y4 y5 y6 n, x.1 = .agg [y0.1, y1.1, y2.1, y3.1, y4.1, y5.1, y6.1] ∧ cs.length = P.cellsOf t ∧ DataW.trod enc P w base spare held n f0.type ((cs.drop f0.offset).take (P.cellsOf f0.type)) = some y0 ∧ DataW.trod enc P w base spare held n f1.type ((cs.drop f1.offset).take (P.cellsOf f1.type)) = some y1 ∧ DataW.trod enc P w base spare held n f2.type ((cs.drop f2.offset).take (P.cellsOf f2.type)) = some y2 ∧ DataW.trod enc P w base spare held n f3.type ((cs.drop f3.offset).take (P.cellsOf f3.type)) = some y3 ∧ DataW.trod enc P w base spare held n f4.type ((cs.drop f4.offset).take (P.cellsOf f4.type)) = some y4 ∧ DataW.trod enc P w base spare held n f5.type ((cs.drop f5.offset).take (P.cellsOf f5.type)) = some y5 ∧ DataW.trod enc P w base spare held n f6.type ((cs.drop f6.offset).take (P.cellsOf f6.type)) = some y6 := by
  obtain ⟨xs, n, _, rfl, hl, hlen, hf⟩ := DataW.trod_struct ht h
  obtain ⟨y0, y1, y2, y3, y4, y5, y6, rfl⟩ := list7 (show xs.length = 7 from hlen)
  exact ⟨y0, y1, y2, y3, y4, y5, y6, n, by simp, hl, by simpa using hf 0 f0 rfl, by simpa using hf 1 f1 rfl, by simpa using hf 2 f2 rfl, by simpa using hf 3 f3 rfl, by simpa using hf 4 f4 rfl, by simpa using hf 5 f5 rfl, by simpa using hf 6 f6 rfl⟩

theorem op_open {fuel : Nat} {cs : List Value} {x : DataW H × List MemPlace} (h : DataW.trod enc Try.prog w base spare held fuel 39 cs = some x) (hz : Small 39 x.1) :
    ∃ o dv cv, cs = (opCells o dv cv).toList ∧ OpAt w (fun k => k < w.heap.size) o dv cv := by
  obtain ⟨y0, y1, y2, y3, y4, y5, y6, n, hx1, hl, f0, f1, f2, f3, f4, f5, f6⟩ := trod_struct7 Try.underlying39 h
  have hcl : Try.prog.cellsOf 39 = 8 := by kernel_rfl
  have hc3 : Try.prog.cellsOf 3 = 1 := by kernel_rfl
  have hc9 : Try.prog.cellsOf 9 = 1 := by kernel_rfl
  have hc2 : Try.prog.cellsOf 22 = 1 := by kernel_rfl
  have hc6 : Try.prog.cellsOf 26 = 2 := by kernel_rfl
  rw [hcl] at hl
  rw [hx1] at hz
  obtain ⟨c0, c1, c2, c3, c4, c5, c6, c7, rfl⟩ := list8 hl
  · · simp only [hc3, hc9, hc2, hc6, List.drop, List.take] at f0 f1 f2 f3 f4 f5 f6
      have hw : ∀ m, m ∈ y3.1.weights Try.prog 22 ∨ m ∈ y6.1.weights Try.prog 26 → m ≤ reachBytes := by
        intro m hm
        refine hz m ?_
        simp only [DataW.weights, Try.underlying39, DataW.weightsEach, List.map_cons, List.map_nil, List.mem_append]
        rcases hm with hm | hm
        · exact .inr (.inr (.inr (.inl hm)))
        · exact .inr (.inr (.inr (.inr (.inr (.inr (.inl hm))))))
      obtain ⟨kind, e0, _, _⟩ := DataW.trod_int Try.underlying3 f0
      obtain ⟨name, e1, _, hn⟩ := DataW.trod_string Try.underlying9 f1
      obtain ⟨dst, e2, _, hd⟩ := DataW.trod_string Try.underlying9 f2
      obtain ⟨dv, data, e3, hda, hdl⟩ := bytes_open f3 (fun m hm => hw m (.inl hm))
      obtain ⟨nn, e4, _, hn4⟩ := DataW.trod_int Try.underlying3 f4
      obtain ⟨mm, e5, _, _⟩ := DataW.trod_int Try.underlying3 f5
      obtain ⟨dirs, cv, cuts, e6, hc, hcl', hclt⟩ := survival_open f6 (fun m hm => hw m (.inr hm))
      have hnlt : nn < 2 ^ 63 := by have := (bounds_i64 hn4).2; omega
      have g0 := (List.cons.inj (show [c0] = [.int .i64 kind] from e0)).1
      have g1 := (List.cons.inj (show [c1] = [.string name] from e1)).1
      have g2 := (List.cons.inj (show [c2] = [.string dst] from e2)).1
      have g3 := (List.cons.inj (show [c3] = [dv] from e3)).1
      have g4 := (List.cons.inj (show [c4] = [.int .i64 nn] from e4)).1
      have g5 := (List.cons.inj (show [c5] = [.int .i64 mm] from e5)).1
      have g6 := List.cons.inj (show [c6, c7] = [.int .i64 dirs, cv] from e6)
      have g7 := (List.cons.inj g6.2).1
      have g6 := g6.1
      clear f0 f1 f2 f3 f4 f5 f6 e0 e1 e2 e3 e4 e5 e6
      subst g0 g1 g2 g3 g4 g5 g6 g7
      exact ⟨⟨kind, name, dst, data, nn, mm, dirs, cuts⟩, c3, c7, rfl, hn, hd, hda, hdl, hc, hcl', hnlt, hclt⟩

theorem mem_weightsAll {P : Program} {e : TypeId} {d : DataW H} {n : Nat} : ∀ {l : List (DataW H)}, d ∈ l → n ∈ d.weights P e → n ∈ DataW.weightsAll P e l
  | x :: r, h, hn => by
    simp only [DataW.weightsAll, List.mem_append]
    rcases List.mem_cons.1 h with rfl | h
    · exact .inl hn
    · exact .inr (mem_weightsAll h hn)

instance : Inhabited OpD := ⟨⟨0, ByteArray.empty, ByteArray.empty, [], 0, 0, 0, []⟩⟩
instance : Inhabited (OpD × Value × Value) := ⟨(default, undef, undef)⟩

theorem script_open {fuel : Nat} {cs : List Value} {x : DataW H × List MemPlace} (h : DataW.trod enc Try.prog w base spare held fuel 23 cs = some x) (hz : Small 23 x.1) :
    ∃ v l, cs = [v] ∧ ScriptAt w (fun k => k < w.heap.size) v l ∧ l.length < 2 ^ 47 := by
  have hcl : Try.prog.cellsOf 39 = 8 := by kernel_rfl
  rcases Deep.open_slice Try.underlying23 h with ⟨rfl, rfl⟩ | ⟨a, len, cap, m, n, D, Pl, rfl, hb, hl, hm, hmm, rfl, hx⟩
  · exact ⟨_, [], rfl, ⟨⟨none, 0, rfl, fun i hi => absurd hi (by simp)⟩, by simp⟩, by simp⟩
  · have hle : len ≤ m := by rw [hmm]; split <;> omega
    rw [hcl] at hx
    obtain ⟨f, hf⟩ := Deep.choose_lt (α := OpD × Value × Value) (n := len) (p := fun i u => OpAt w (fun k => k < w.heap.size) u.1 u.2.1 u.2.2 ∧ ∀ j v, (opCells u.1 u.2.1 u.2.2)[j]? = some v → w.cell? (a.add (i * 8 + j)) = some v) (fun i hi => by
      obtain ⟨cs', h1, h2⟩ := hx i (by omega)
      obtain ⟨o, dv, cv, rfl, ho⟩ := op_open h2 (fun q hq => hz q (by
        simp only [DataW.weights, Try.underlying23]
        refine List.mem_cons.2 (.inr (List.mem_append.2 (.inl (mem_weightsAll (List.mem_map.2 ⟨i, List.mem_range.2 hi, rfl⟩) hq)))))) 
      refine ⟨(o, dv, cv), ho, fun j v hv => ?_⟩
      obtain ⟨_, _, hc⟩ := World.cells?_some h1
      have hj : j < 8 := by
        have := (Array.getElem?_eq_some_iff.1 hv).1
        simpa [opCells] using this
      have := hc j hj
      rw [Deep.add_add] at this
      rw [this]
      simpa using hv)
    refine ⟨_, (List.range len).map f, rfl, ⟨⟨some a, cap, by simp, fun i hi => ?_⟩, fun u hu => ?_⟩, ?_⟩
    · have hi' : i < len := by simpa using hi
      obtain ⟨h1, h2⟩ := hf i hi'
      refine ⟨a, rfl, ?_, ?_⟩
      · have := lt_of_cell (h2 0 _ rfl)
        rwa [add_block] at this
      · simpa using h2
    · obtain ⟨i, hi, rfl⟩ := List.mem_map.1 hu
      exact (hf i (List.mem_range.1 hi)).1
    · have := hz ((len + (m - len)) * 112) (by
        have hb1 : Try.prog.bytesOf 39 = 112 := by kernel_rfl
        simp only [DataW.weights, Try.underlying23, hb1]
        exact List.mem_cons.2 (.inl (by simp)))
      unfold reachBytes at this
      simp
      omega

theorem loss_open {fuel : Nat} {cs : List Value} {x : DataW H × List MemPlace} (h : DataW.trod enc Try.prog w base spare held fuel 28 cs = some x) (hz : Small 28 x.1) :
    ∃ dv data mv more sv l dirs cv cuts, cs = [dv, mv, sv, .int .i64 dirs, cv] ∧ BytesAt w (fun k => k < w.heap.size) dv data ∧ data.length ≤ 140737488355328 ∧ BytesAt w (fun k => k < w.heap.size) mv more ∧ more.length ≤ 140737488355328 ∧
      ScriptAt w (fun k => k < w.heap.size) sv l ∧ l.length < 2 ^ 47 ∧ IntsAt w (fun k => k < w.heap.size) cv cuts := by
  obtain ⟨y0, y1, y2, y3, n, rfl, hl, f0, f1, f2, f3⟩ := Joins.trod_struct4 Try.underlying28 h
  have hcl : Try.prog.cellsOf 28 = 5 := by kernel_rfl
  have hc2 : Try.prog.cellsOf 22 = 1 := by kernel_rfl
  have hc3 : Try.prog.cellsOf 23 = 1 := by kernel_rfl
  have hc6 : Try.prog.cellsOf 26 = 2 := by kernel_rfl
  rw [hcl] at hl
  obtain ⟨c0, c1, c2, c3, c4, rfl⟩ := list5 hl
  · simp only [hc2, hc3, hc6, List.drop, List.take] at f0 f1 f2 f3
    have hw : ∀ m, m ∈ y0.1.weights Try.prog 22 ∨ m ∈ y1.1.weights Try.prog 22 ∨ m ∈ y2.1.weights Try.prog 23 ∨ m ∈ y3.1.weights Try.prog 26 → m ≤ reachBytes := by
      intro m hm
      refine hz m ?_
      simp only [DataW.weights, Try.underlying28, DataW.weightsEach, List.map_cons, List.map_nil, List.mem_append]
      rcases hm with hm | hm | hm | hm
      · exact .inl hm
      · exact .inr (.inl hm)
      · exact .inr (.inr (.inl hm))
      · exact .inr (.inr (.inr (.inl hm)))
    obtain ⟨dv, data, e0, hd, hdl⟩ := bytes_open f0 (fun m hm => hw m (.inl hm))
    obtain ⟨mv, more, e1, hm, hml⟩ := bytes_open f1 (fun m hm => hw m (.inr (.inl hm)))
    obtain ⟨sv, l, e2, hs, hsl⟩ := script_open f2 (fun m hm => hw m (.inr (.inr (.inl hm))))
    obtain ⟨dirs, cv, cuts, e3, hc, _, _⟩ := survival_open f3 (fun m hm => hw m (.inr (.inr (.inr hm))))
    cases e0; cases e1; cases e2; cases e3
    exact ⟨c0, data, c1, more, c2, l, dirs, c4, cuts, rfl, hd, hdl, hm, hml, hs, hsl, hc⟩

end

end Go.Proofs.Ythjabfhfkikalaa
