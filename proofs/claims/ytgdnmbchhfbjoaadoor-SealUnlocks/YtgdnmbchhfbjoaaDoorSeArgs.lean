/- What the arguments of layer 5's laws read as: Case, Keys, Blob, Locked. Conditions: rows within the reach. -/
import Derived.Test.YtgdnmbchhfbjoaaDoorHArgs
import Derived.Test.YtgdnmbchhfbjoaaDoorSePass
import Derived.Deep.Strs
namespace Go.Proofs.YtgdnmbchhfbjoaaDoor
open Go.RowKit

theorem split_next {α : Type} (cs : List α) (a b : Nat) : cs.drop a = (cs.drop a).take b ++ cs.drop (a + b) := by
  rw [← List.drop_drop, List.take_append_drop]
theorem split4 {α : Type} (cs : List α) (a b c d : Nat) (h : cs.length = a + b + c + d) : cs = cs.take a ++ ((cs.drop a).take b ++ ((cs.drop (a + b)).take c ++ (cs.drop (a + b + c)).take d)) := by
  have h1 := split_next cs a b
  have h2 := split_next cs (a + b) c
  have h3 : (cs.drop (a + b + c)).take d = cs.drop (a + b + c) := List.take_of_length_le (by simp; omega)
  rw [h3, ← h2, ← h1, List.take_append_drop]
theorem split3 {α : Type} (cs : List α) (a b c : Nat) (h : cs.length = a + b + c) : cs = cs.take a ++ ((cs.drop a).take b ++ (cs.drop (a + b)).take c) := by
  have h1 := split_next cs a b
  have h3 : (cs.drop (a + b)).take c = cs.drop (a + b) := List.take_of_length_le (by simp; omega)
  rw [h3, ← h1, List.take_append_drop]

/-- The bytes of a Keys. -/
theorem keys_open {H : Type} {enc : TypeId × Value → H} {w : World} {base : Nat} {spare : Nat → Bool} {held : Bool} {fuel : Nat} {cs : List Value} {x : DataW H × List MemPlace} (h : DataW.trod enc Tryd.prog w base spare held fuel 29 cs = some x) :
    ∃ ks : List UInt8, cs = ks.map byteV ∧ ks.length = 96 := by
  obtain ⟨y0, y1, y2, n, rfl, hl, f0, f1, f2⟩ := Deep.trod_struct3 Tryd.underlying29 h
  have hcl : Tryd.prog.cellsOf 29 = 96 := by kernel_rfl
  have hc0 : Tryd.prog.cellsOf 22 = 32 := by kernel_rfl
  rw [hcl] at hl
  simp only [hc0, List.drop_zero] at f0 f1 f2
  obtain ⟨k0, e0, l0⟩ := arr_open Tryd.underlying22 hc0 f0
  obtain ⟨k1, e1, l1⟩ := arr_open Tryd.underlying22 hc0 f1
  obtain ⟨k2, e2, l2⟩ := arr_open Tryd.underlying22 hc0 f2
  refine ⟨k0 ++ (k1 ++ k2), ?_, by simp [l0, l1, l2]⟩
  rw [split3 cs 32 32 32 hl, e0, e1, e2]
  simp

set_option maxRecDepth 100000 in
theorem keys_arg {H : Type} {enc : TypeId × Value → H} {W : World} {b0 : Nat} {v : Value} {d : DataW H} {p : List MemPlace} (hv : Value.okWide Tryd.prog W .any b0 29 v) (h : DataW.Trod enc Tryd.prog W 0 (fun _ => true) true 29 v d p) :
    ∃ ks : List UInt8, v = digV ks ∧ ks.length = 96 := by
  unfold Value.okWide at hv
  rw [Tryd.underlying29] at hv
  obtain ⟨cs, rfl, _, _⟩ := hv
  obtain ⟨fuel, h⟩ := h
  obtain ⟨ks, hcs, hl⟩ := keys_open h
  refine ⟨ks, ?_, hl⟩
  unfold digV
  congr 1
  exact Array.toList_inj.1 (by simpa [Value.cells] using hcs)

theorem byte_open {H : Type} {enc : TypeId × Value → H} {w : World} {base : Nat} {spare : Nat → Bool} {held : Bool} {fuel : Nat} {cs : List Value} {x : DataW H × List MemPlace} (h : DataW.trod enc Tryd.prog w base spare held fuel 5 cs = some x) : ∃ b : UInt8, cs = [byteV b] := by
  obtain ⟨k, e1, _, hw⟩ := DataW.trod_int Tryd.underlying5 h
  have hb := bounds_u8 hw
  refine ⟨UInt8.ofNat k.toNat, ?_⟩
  rw [e1]
  unfold byteV
  congr 2
  simp only [UInt8.toNat_ofNat']
  omega

/-- The cells of a Case and of a Blob: a row of bytes, a kind, two rows. -/
def case5 (m : List UInt8) (kind : UInt8) (vc vp : Value) : List Value := m.map byteV ++ ([byteV kind] ++ ([vc] ++ [vp]))

set_option maxRecDepth 100000 in
theorem case5_arg {H : Type} {enc : TypeId × Value → H} {W : World} {b0 : Nat} {v : Value} {d : DataW H} {p : List MemPlace} (hv : Value.okWide Tryd.prog W .any b0 25 v) (h : DataW.Trod enc Tryd.prog W 0 (fun _ => true) true 25 v d p) (hz : Small 25 d) :
    ∃ m kind vc vp ctx pl, v = .agg (case5 m kind vc vp).toArray ∧ m.length = 32 ∧ BytesAt W (fun k => k < W.heap.size) vc ctx ∧ BytesAt W (fun k => k < W.heap.size) vp pl ∧ ctx.length ≤ 140737488351232 ∧ pl.length ≤ 140737488351232 := by
  unfold Value.okWide at hv
  rw [Tryd.underlying25] at hv
  obtain ⟨cs, rfl, _, _⟩ := hv
  obtain ⟨fuel, h⟩ := h
  obtain ⟨y0, y1, y2, y3, n, e, hl, f0, f1, f2, f3⟩ := Joins.trod_struct4 Tryd.underlying25 h
  obtain ⟨rfl, rfl⟩ := Prod.mk.inj e
  have hcl : Tryd.prog.cellsOf 25 = 35 := by kernel_rfl
  have hc0 : Tryd.prog.cellsOf 22 = 32 := by kernel_rfl
  have hc1 : Tryd.prog.cellsOf 5 = 1 := by kernel_rfl
  have hc3 : Tryd.prog.cellsOf 23 = 1 := by kernel_rfl
  rw [hcl] at hl
  simp only [hc0, hc1, hc3, List.drop_zero] at f0 f1 f2 f3
  obtain ⟨m, e0, hm⟩ := arr_open Tryd.underlying22 hc0 f0
  obtain ⟨kind, e1⟩ := byte_open f1
  obtain ⟨vc, ctx, e2, hb2, hd2⟩ := bytes_open f2 (fun q hq => hz q (by
    simp only [DataW.weights, Tryd.underlying25, DataW.weightsEach, List.map_cons, List.map_nil, List.mem_append]
    exact .inr (.inr (.inl hq))))
  obtain ⟨vp, pl, e3, hb3, hd3⟩ := bytes_open f3 (fun q hq => hz q (by
    simp only [DataW.weights, Tryd.underlying25, DataW.weightsEach, List.map_cons, List.map_nil, List.mem_append]
    exact .inr (.inr (.inr (.inl hq)))))
  refine ⟨m, kind, vc, vp, ctx, pl, ?_, hm, hb2, hb3, hd2, hd3⟩
  congr 1
  apply Array.toList_inj.1
  have := split4 _ 32 1 1 1 hl
  rw [e0, e1, e2, e3] at this
  simpa [Value.cells, case5] using this

set_option maxRecDepth 100000 in
theorem blob5_arg {H : Type} {enc : TypeId × Value → H} {W : World} {b0 : Nat} {v : Value} {d : DataW H} {p : List MemPlace} (hv : Value.okWide Tryd.prog W .any b0 38 v) (h : DataW.Trod enc Tryd.prog W 0 (fun _ => true) true 38 v d p) (hz : Small 38 d) :
    ∃ m kind vc vp ctx pl, v = .agg (case5 m kind vc vp).toArray ∧ m.length = 96 ∧ BytesAt W (fun k => k < W.heap.size) vc ctx ∧ BytesAt W (fun k => k < W.heap.size) vp pl ∧ ctx.length ≤ 140737488351232 ∧ pl.length ≤ 140737488351232 := by
  unfold Value.okWide at hv
  rw [Tryd.underlying38] at hv
  obtain ⟨cs, rfl, _, _⟩ := hv
  obtain ⟨fuel, h⟩ := h
  obtain ⟨y0, y1, y2, y3, n, e, hl, f0, f1, f2, f3⟩ := Joins.trod_struct4 Tryd.underlying38 h
  obtain ⟨rfl, rfl⟩ := Prod.mk.inj e
  have hcl : Tryd.prog.cellsOf 38 = 99 := by kernel_rfl
  have hc0 : Tryd.prog.cellsOf 29 = 96 := by kernel_rfl
  have hc1 : Tryd.prog.cellsOf 5 = 1 := by kernel_rfl
  have hc3 : Tryd.prog.cellsOf 23 = 1 := by kernel_rfl
  rw [hcl] at hl
  simp only [hc0, hc1, hc3, List.drop_zero] at f0 f1 f2 f3
  obtain ⟨m, e0, hm⟩ := keys_open f0
  obtain ⟨kind, e1⟩ := byte_open f1
  obtain ⟨vc, ctx, e2, hb2, hd2⟩ := bytes_open f2 (fun q hq => hz q (by
    simp only [DataW.weights, Tryd.underlying38, DataW.weightsEach, List.map_cons, List.map_nil, List.mem_append]
    exact .inr (.inr (.inl hq))))
  obtain ⟨vp, pl, e3, hb3, hd3⟩ := bytes_open f3 (fun q hq => hz q (by
    simp only [DataW.weights, Tryd.underlying38, DataW.weightsEach, List.map_cons, List.map_nil, List.mem_append]
    exact .inr (.inr (.inr (.inl hq)))))
  refine ⟨m, kind, vc, vp, ctx, pl, ?_, hm, hb2, hb3, hd2, hd3⟩
  congr 1
  apply Array.toList_inj.1
  have := split4 _ 96 1 1 1 hl
  rw [e0, e1, e2, e3] at this
  simpa [Value.cells, case5] using this

/-- The cells of a Locked. -/
def locked5 (pw salt m : List UInt8) (vf : Value) : List Value := [textV pw] ++ (salt.map byteV ++ (m.map byteV ++ [vf]))

set_option maxRecDepth 100000 in
theorem locked5_arg {H : Type} {enc : TypeId × Value → H} {W : World} {b0 : Nat} {v : Value} {d : DataW H} {p : List MemPlace} (hv : Value.okWide Tryd.prog W .any b0 49 v) (h : DataW.Trod enc Tryd.prog W 0 (fun _ => true) true 49 v d p) (hz : Small 49 d) :
    ∃ pw salt m vf file, v = .agg (locked5 pw salt m vf).toArray ∧ salt.length = 16 ∧ m.length = 32 ∧ BytesAt W (fun k => k < W.heap.size) vf file ∧ file.length ≤ 140737488351232 ∧ pw.length ≤ maxLen := by
  unfold Value.okWide at hv
  rw [Tryd.underlying49] at hv
  obtain ⟨cs, rfl, _, _⟩ := hv
  obtain ⟨fuel, h⟩ := h
  obtain ⟨y0, y1, y2, y3, n, e, hl, f0, f1, f2, f3⟩ := Joins.trod_struct4 Tryd.underlying49 h
  obtain ⟨rfl, rfl⟩ := Prod.mk.inj e
  have hcl : Tryd.prog.cellsOf 49 = 50 := by kernel_rfl
  have hc0 : Tryd.prog.cellsOf 9 = 1 := by kernel_rfl
  have hc1 : Tryd.prog.cellsOf 47 = 16 := by kernel_rfl
  have hc2 : Tryd.prog.cellsOf 22 = 32 := by kernel_rfl
  have hc3 : Tryd.prog.cellsOf 23 = 1 := by kernel_rfl
  rw [hcl] at hl
  simp only [hc0, hc1, hc2, hc3, List.drop_zero] at f0 f1 f2 f3
  obtain ⟨s, e0, _, hsz⟩ := DataW.trod_string Tryd.underlying9 f0
  obtain ⟨salt, e1, hs⟩ := arr_open Tryd.underlying47 hc1 f1
  obtain ⟨m, e2, hm⟩ := arr_open Tryd.underlying22 hc2 f2
  obtain ⟨vf, file, e3, hb3, hd3⟩ := bytes_open f3 (fun q hq => hz q (by
    simp only [DataW.weights, Tryd.underlying49, DataW.weightsEach, List.map_cons, List.map_nil, List.mem_append]
    exact .inr (.inr (.inr (.inl hq)))))
  refine ⟨s.data.toList, salt, m, vf, file, ?_, hs, hm, hb3, hd3, by rw [Array.length_toList]; exact hsz⟩
  congr 1
  apply Array.toList_inj.1
  have := split4 _ 1 16 32 1 hl
  rw [e0, e1, e2, e3] at this
  simpa [Value.cells, locked5, textV] using this

end Go.Proofs.YtgdnmbchhfbjoaaDoor
