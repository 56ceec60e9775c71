/- A value of type Case: a key, a nonce, a place, data. Conditions: rows within the reach. -/
import Derived.Test.YtjeccooodkogkaaGArgs
import Derived.Test.YtjeccooodkogkaaCBlk
namespace Go.Proofs.Ytjeccooodkogkaa
open Go.RowKit

def caseCells (key nonce : List UInt8) (at' : Int) (dv : Value) : List Value := key.map byteV ++ (nonce.map byteV ++ [.int .i64 at', dv])

theorem case_open {H : Type} {enc : TypeId × Value → H} {w : World} {base : Nat} {spare : Nat → Bool} {held : Bool} {fuel : Nat} {cs : List Value} {x : DataW H × List MemPlace} (h : DataW.trod enc Try.prog w base spare held fuel 31 cs = some x) (hz : Small 31 x.1) :
    ∃ key nonce at' dv data, cs = caseCells key nonce at' dv ∧ key.length = 32 ∧ nonce.length = 12 ∧ BytesAt w (fun k => k < w.heap.size) dv data ∧ data.length ≤ 140737488355328 ∧ -9223372036854775808 ≤ at' ∧ at' ≤ 9223372036854775807 := by
  obtain ⟨y0, y1, y2, y3, n, rfl, hl, f0, f1, f2, f3⟩ := Joins.trod_struct4 Try.underlying31 h
  have hcl : Try.prog.cellsOf 31 = 46 := by kernel_rfl
  have hc0 : Try.prog.cellsOf 22 = 32 := by kernel_rfl
  have hc1 : Try.prog.cellsOf 24 = 12 := by kernel_rfl
  have hc2 : Try.prog.cellsOf 3 = 1 := by kernel_rfl
  have hc3 : Try.prog.cellsOf 29 = 1 := by kernel_rfl
  rw [hcl] at hl
  simp only [hc0, hc1, hc2, hc3, List.drop_zero] at f0 f1 f2 f3
  obtain ⟨key, e0, hk⟩ := arr_open Try.underlying22 hc0 f0
  obtain ⟨nonce, e1, hn⟩ := arr_open Try.underlying24 hc1 f1
  obtain ⟨j, e2, _, hj⟩ := DataW.trod_int Try.underlying3 f2
  obtain ⟨dv, data, e3, hb, hd⟩ := bytes_open f3 (fun q hq => hz q (by
    simp only [DataW.weights, Try.underlying31, DataW.weightsEach, List.map_cons, List.map_nil, List.mem_append]
    exact .inr (.inr (.inr (.inl hq)))))
  have hjb := bounds_i64 hj
  refine ⟨key, nonce, j, dv, data, ?_, hk, hn, hb, hd, hjb.1, by omega⟩
  have hs : cs = cs.take 32 ++ ((cs.drop 32).take 12 ++ ((cs.drop 44).take 1 ++ (cs.drop 45).take 1)) := by
    apply List.ext_getElem?
    intro i
    by_cases h1 : i < 32
    · rw [List.getElem?_append_left (by simp; omega), List.getElem?_take_of_lt h1]
    · rw [List.getElem?_append_right (by simp; omega)]
      have l0 : (cs.take 32).length = 32 := by simp; omega
      rw [l0]
      by_cases h2 : i < 44
      · rw [List.getElem?_append_left (by simp; omega), List.getElem?_take_of_lt (by omega), List.getElem?_drop]
        congr 1
        omega
      · have l1 : ((cs.drop 32).take 12).length = 12 := by simp; omega
        rw [List.getElem?_append_right (by omega), l1]
        by_cases h3 : i < 45
        · rw [List.getElem?_append_left (by simp; omega), List.getElem?_take_of_lt (by omega), List.getElem?_drop]
          congr 1
          omega
        · have l2 : ((cs.drop 44).take 1).length = 1 := by simp; omega
          rw [List.getElem?_append_right (by omega), l2]
          by_cases h4 : i < 46
          · rw [List.getElem?_take_of_lt (by omega), List.getElem?_drop]
            congr 1
            omega
          · rw [List.getElem?_eq_none (by omega), List.getElem?_eq_none (by simp; omega)]
  rw [hs]
  unfold caseCells
  rw [e0, e1, e2, e3]
  rfl

set_option maxRecDepth 100000 in
theorem case_arg {H : Type} {enc : TypeId × Value → H} {W : World} {b0 : Nat} {v : Value} {d : DataW H} {p : List MemPlace} (hv : Value.okWide Try.prog W .any b0 31 v) (h : DataW.Trod enc Try.prog W 0 (fun _ => true) true 31 v d p) (hz : Small 31 d) :
    ∃ key nonce at' dv data, v = .agg (caseCells key nonce at' dv).toArray ∧ key.length = 32 ∧ nonce.length = 12 ∧ BytesAt W (fun k => k < W.heap.size) dv data ∧ data.length ≤ 140737488355328 ∧ -9223372036854775808 ≤ at' ∧ at' ≤ 9223372036854775807 := by
  unfold Value.okWide at hv
  rw [Try.underlying31] at hv
  obtain ⟨cs, rfl, _, _⟩ := hv
  obtain ⟨fuel, h⟩ := h
  obtain ⟨key, nonce, at', dv, data, hcs, h1⟩ := case_open h hz
  refine ⟨key, nonce, at', dv, data, ?_, h1⟩
  congr 1
  exact Array.toList_inj.1 (by simpa [Value.cells] using hcs)

/-- A Case that was boxed in block g. -/
structure CaseAt (w : World) (g : Nat) (key nonce : List UInt8) (at' : Int) (dv : Value) : Prop where
  blk : Blk w g (caseCells key nonce at' dv) 31
  hk : key.length = 32
  hn : nonce.length = 12

theorem CaseAt.keep {w w' : World} {S : Nat → Prop} {g : Nat} {key nonce : List UInt8} {at' : Int} {dv : Value} (h : CaseAt w g key nonce at' dv) (ho : Only S w w') (hn : ¬ S g) : CaseAt w' g key nonce at' dv := ⟨h.blk.keep ho hn, h.hk, h.hn⟩
theorem CaseAt.key {w : World} {g : Nat} {key nonce : List UInt8} {at' : Int} {dv : Value} (h : CaseAt w g key nonce at' dv) : w.rangeAt g 0 (key.map byteV) := h.blk.range fun j v hv => by
  rw [Nat.zero_add]
  unfold caseCells
  rw [List.getElem?_append_left (List.getElem?_eq_some_iff.1 hv).1]
  exact hv
theorem CaseAt.nonce {w : World} {g : Nat} {key nonce : List UInt8} {at' : Int} {dv : Value} (h : CaseAt w g key nonce at' dv) : w.rangeAt g 32 (nonce.map byteV) := h.blk.range fun j v hv => by
  have hk := h.hk
  unfold caseCells
  rw [List.getElem?_append_right (by rw [List.length_map]; omega), List.length_map, hk, show 32 + j - 32 = j by omega, List.getElem?_append_left (List.getElem?_eq_some_iff.1 hv).1]
  exact hv
theorem CaseAt.at {w : World} {g : Nat} {key nonce : List UInt8} {at' : Int} {dv : Value} (h : CaseAt w g key nonce at' dv) : w.cell? ⟨g, 44, none⟩ = some (.int .i64 at') := by
  have hk := h.hk
  have hn := h.hn
  rw [h.blk.cell]
  unfold caseCells
  rw [List.getElem?_append_right (by rw [List.length_map]; omega), List.length_map, hk, List.getElem?_append_right (by rw [List.length_map]; omega), List.length_map, hn]
  rfl
theorem CaseAt.data {w : World} {g : Nat} {key nonce : List UInt8} {at' : Int} {dv : Value} (h : CaseAt w g key nonce at' dv) : w.cell? ⟨g, 45, none⟩ = some dv := by
  have hk := h.hk
  have hn := h.hn
  rw [h.blk.cell]
  unfold caseCells
  rw [List.getElem?_append_right (by rw [List.length_map]; omega), List.length_map, hk, List.getElem?_append_right (by rw [List.length_map]; omega), List.length_map, hn]
  rfl
theorem size_key {bs : List UInt8} (h : bs.length = 32) : (Try.prog.info? 22).map (·.size) = some (bs.map byteV).length := by simpa using size_a32 h
theorem size_nonce {bs : List UInt8} (h : bs.length = 12) : (Try.prog.info? 24).map (·.size) = some (bs.map byteV).length := by simpa using size_a12 h

end Go.Proofs.Ytjeccooodkogkaa
