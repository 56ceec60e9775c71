/- A row of texts as an argument. Conditions: within the reach. -/
import Derived.Test.YtbfcjlpakngmhaaDoorPaArgs
import Derived.Test.YtbfcjlpakngmhaaDoorPaTx
import Derived.SliceStrings
namespace Go.Proofs.YtbfcjlpakngmhaaDoor
open Go.RowKit
open Go.ChangeShapes Go.WideShapes Go.ChangeAt

theorem mem_weightsAll {H : Type} {P : Program} {e : TypeId} {d : DataW H} {n : Nat} : ∀ {l : List (DataW H)}, d ∈ l → n ∈ d.weights P e → n ∈ DataW.weightsAll P e l
  | x :: r, h, hn => by
    simp only [DataW.weightsAll, List.mem_append]
    rcases List.mem_cons.1 h with rfl | h
    · exact .inl hn
    · exact .inr (mem_weightsAll h hn)

set_option maxRecDepth 100000 in
theorem texts_arg {H : Type} {enc : TypeId × Value → H} {W : World} {b0 : Nat} {v : Value} {d : DataW H} {p : List MemPlace} (hv : Value.okWide Tryd.prog W .any b0 25 v) (h : DataW.Trod enc Tryd.prog W 0 (fun _ => true) true 25 v d p) (hz : Small 25 d) :
    ∃ ps, TextsAt W (fun k => k < W.heap.size) v ps ∧ ((∀ p ∈ ps, p.length ≤ 140737488351232) ∧ ps.length ≤ 140737488355328) := by
  obtain ⟨a, len, cap, rfl⟩ := okWide_slice Tryd.underlying25 hv
  obtain ⟨fuel, h⟩ := h
  rcases open_strings Tryd.underlying25 Tryd.underlying9 (by kernel_rfl) h with ⟨hcs, hx⟩ | ⟨a', len', cap', ss, hcs, _, hl, hm, hss, hx, hcell, _⟩
  · have e := (List.cons.inj (show [Value.slice a len cap] = [.slice none 0 0] from hcs)).1
    rw [e]
    exact ⟨[], .inl ⟨rfl, rfl⟩, by simp, by simp⟩
  · have e := (List.cons.inj (show [Value.slice a len cap] = [.slice (some a') len' cap'] from hcs)).1
    obtain ⟨rfl, rfl, rfl⟩ := Value.slice.inj e
    obtain ⟨rfl, _⟩ := Prod.mk.inj hx
    have hle : len ≤ ss.length := by rw [hss]; split <;> omega
    have htl : (ss.take len).length = len := by rw [List.length_take]; omega
    refine ⟨(ss.take len).map fun s => s.data.toList, .inr ⟨a', cap, by rw [List.length_map, htl], by rw [List.length_map, htl]; exact hl, fun hne => ?_, fun j q hq => ?_⟩, fun q hq => ?_, ?_⟩
    · have hp : 0 < ss.length := by
        rcases Nat.eq_zero_or_pos ss.length with h0 | h0
        · exact (hne (by simp [List.eq_nil_of_length_eq_zero h0])).elim
        · exact h0
      have := lt_of_cell (hcell 0 hp)
      rwa [add_block] at this
    · rw [List.getElem?_map, Option.map_eq_some_iff] at hq
      obtain ⟨s, hs, rfl⟩ := hq
      rw [List.getElem?_take] at hs
      split at hs
      · have hj := (List.getElem?_eq_some_iff.1 hs).1
        rw [hcell j hj, txV_data]
        congr 2
        simp [List.getD, hs]
      · cases hs
    · obtain ⟨s, hs, rfl⟩ := List.mem_map.1 hq
      have := hz s.data.toList.length (by
        simp only [DataW.weights, Tryd.underlying25]
        refine List.mem_cons.2 (.inr (List.mem_append.2 (.inl (mem_weightsAll (d := .lit (.string s.data.toList)) (List.mem_map.2 ⟨s, hs, rfl⟩) (by simp [DataW.weights])))))
        )
      unfold reachBytes at this
      omega
    · have := hz ((strs (H := H) (ss.take len)).length * 16 + (strs (H := H) (ss.drop len)).length * 16) (by
        have hb1 : Tryd.prog.bytesOf 9 = 16 := by kernel_rfl
        simp only [DataW.weights, Tryd.underlying25, hb1]
        refine List.mem_cons.2 (.inl ?_)
        omega)
      unfold reachBytes at this
      have h2 : (strs (H := H) (ss.take len)).length = len := by unfold strs; rw [List.length_map, htl]
      rw [h2] at this
      rw [List.length_map, htl]
      omega

end Go.Proofs.YtbfcjlpakngmhaaDoor
