/- What a row of words reads as. Conditions: rows within the reach. -/
import Derived.Test.YtfbnpafanjppbaaPoArgs
import Derived.Test.YtfbnpafanjppbaaPoRow
namespace Go.Proofs.Ytfbnpafanjppbaa
open Go.ChangeShapes Go.WideShapes Go.ChangeAt Go.RowKit

theorem nums_open {H : Type} {enc : TypeId × Value → H} {w : World} {base : Nat} {spare : Nat → Bool} {held : Bool} {fuel : Nat} {cs : List Value} {x : DataW H × List MemPlace} (h : DataW.trod enc Try.prog w base spare held fuel 35 cs = some x) (hz : Small 35 x.1) :
    ∃ v xs, cs = [v] ∧ NumsIn w (fun k => k < w.heap.size) v xs ∧ xs.length ≤ 140737488355328 := by
  rcases ChangeShapes.open_ints Try.underlying35 Try.underlying22 (by kernel_rfl) h with ⟨rfl, rfl⟩ | ⟨a, len, cap, zs, rfl, hb, hl, hm, hlen, rfl, hcell, hwf⟩
  · exact ⟨_, [], rfl, ⟨⟨none, 0, rfl, Nat.le_refl _, fun i hi => by simp at hi⟩, .inl ⟨rfl, rfl⟩⟩, by simp⟩
  · have hle : len ≤ zs.length := by rw [hlen]; split <;> omega
    have hbl : ((zs.take len).map Int.toNat).length = len := by simp; omega
    refine ⟨_, (zs.take len).map Int.toNat, rfl, ⟨⟨some a, cap, by rw [hbl], by omega, fun i hi => ?_⟩, .inr ⟨a, cap, by rw [hbl]⟩⟩, ?_⟩
    · have hi' : i < len := by rw [← hbl]; exact hi
      have hj : i < zs.length := by omega
      have hc := hcell i hj
      have hw := bounds_u64 (hwf zs[i] (List.getElem_mem hj))
      have hd : zs.getD i 0 = zs[i] := by simp [hj]
      rw [hd] at hc
      have e : ((zs.take len).map Int.toNat)[i] = zs[i].toNat := by simp
      refine ⟨a, rfl, ?_, ?_, by rw [e]; omega⟩
      · have := lt_of_cell hc
        rwa [add_block] at this
      · rw [hc, e, show ((zs[i].toNat : Nat) : Int) = zs[i] by omega]
    · rw [hbl]
      have := hz ((zs.take len).length * 8 + (zs.drop len).length * 8) (by
        have hb1 : Try.prog.bytesOf 22 = 8 := by kernel_rfl
        simp only [DataW.weights, Try.underlying35, hb1]
        refine List.mem_cons.2 (.inl ?_)
        simp [ChangeShapes.lits]
        omega)
      simp at this
      unfold reachBytes at this
      omega

set_option maxRecDepth 100000 in
/-- A value of type []uint64. -/
theorem nums_arg {H : Type} {enc : TypeId × Value → H} {W : World} {b0 : Nat} {v : Value} {d : DataW H} {p : List MemPlace} (hv : Value.okWide Try.prog W .any b0 35 v) (h : DataW.Trod enc Try.prog W 0 (fun _ => true) true 35 v d p) (hz : Small 35 d) :
    ∃ xs, NumsIn W (fun k => k < W.heap.size) v xs ∧ xs.length ≤ 140737488355328 := by
  obtain ⟨a, len, cap, rfl⟩ := okWide_slice Try.underlying35 hv
  obtain ⟨fuel, h⟩ := h
  obtain ⟨v, l, hcs, hs, hl⟩ := nums_open h hz
  have : Value.slice a len cap = v := (List.cons.inj (show [Value.slice a len cap] = [v] from hcs)).1
  subst this
  exact ⟨l, hs, hl⟩

end Go.Proofs.Ytfbnpafanjppbaa
