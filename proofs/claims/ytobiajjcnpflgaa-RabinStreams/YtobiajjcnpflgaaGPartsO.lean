/- A value of type [][]byte. Conditions: rows within the reach. -/
import Derived.Test.YtobiajjcnpflgaaGArgs
import Derived.Test.YtobiajjcnpflgaaGParts
namespace Go.Proofs.Ytobiajjcnpflgaa
open Go.RowKit

theorem mem_weightsAll {H : Type} {P : Program} {e : TypeId} {d : DataW H} {n : Nat} : ∀ {l : List (DataW H)}, d ∈ l → n ∈ d.weights P e → n ∈ DataW.weightsAll P e l
  | x :: r, h, hn => by
    simp only [DataW.weightsAll, List.mem_append]
    rcases List.mem_cons.1 h with rfl | h
    · exact .inl hn
    · exact .inr (mem_weightsAll h hn)

theorem parts_open {H : Type} {enc : TypeId × Value → H} {w : World} {base : Nat} {spare : Nat → Bool} {held : Bool} {fuel : Nat} {cs : List Value} {x : DataW H × List MemPlace} (h : DataW.trod enc Try.prog w base spare held fuel 46 cs = some x) (hz : Small 46 x.1) :
    ∃ v ps, cs = [v] ∧ PartsAt w (fun k => k < w.heap.size) v ps ∧ (∀ p ∈ ps, p.length ≤ 140737488351232) ∧ ps.length ≤ 140737488355328 := by
  have hcl : Try.prog.cellsOf 25 = 1 := by kernel_rfl
  rcases Deep.open_slice Try.underlying46 h with ⟨rfl, rfl⟩ | ⟨a, len, cap, m, n, D, Pl, rfl, hb, hl, hm, hmm, rfl, hx⟩
  · exact ⟨_, [], rfl, ⟨none, 0, rfl, Nat.le_refl _, fun i hi => absurd hi (by simp)⟩, by simp, by simp⟩
  · have hle : len ≤ m := by rw [hmm]; split <;> omega
    rw [hcl] at hx
    obtain ⟨f, hf⟩ := Deep.choose_lt (α := Value × List UInt8) (n := len) (p := fun i u => BytesAt w (fun k => k < w.heap.size) u.1 u.2 ∧ u.2.length ≤ 140737488351232 ∧ w.cell? (a.add i) = some u.1) (fun i hi => by
      obtain ⟨cs', h1, h2⟩ := hx i (by omega)
      obtain ⟨v, bs, hcs, ho, hl⟩ := bytes_open h2 (fun q hq => hz q (by
        simp only [DataW.weights, Try.underlying46]
        refine List.mem_cons.2 (.inr (List.mem_append.2 (.inl (mem_weightsAll (List.mem_map.2 ⟨i, List.mem_range.2 hi, rfl⟩) hq))))))
      refine ⟨(v, bs), ho, hl, ?_⟩
      obtain ⟨_, _, hc⟩ := World.cells?_some h1
      have := hc 0 (by omega)
      rw [Deep.add_add, Nat.mul_one, Nat.add_zero] at this
      rw [this]
      subst hcs
      rfl)
    refine ⟨_, (List.range len).map fun i => (f i).2, rfl, ⟨some a, cap, by simp, by simp; omega, fun i hi => ?_⟩, fun p hp => ?_, ?_⟩
    · have hi' : i < len := by simpa using hi
      obtain ⟨h1, _, h2⟩ := hf i hi'
      refine ⟨a, (f i).1, rfl, ?_, h2, by simpa using h1⟩
      have := lt_of_cell h2
      rwa [add_block] at this
    · obtain ⟨i, hi, rfl⟩ := List.mem_map.1 hp
      exact (hf i (List.mem_range.1 hi)).2.1
    · have := hz ((len + (m - len)) * 24) (by
        have hb1 : Try.prog.bytesOf 25 = 24 := by kernel_rfl
        simp only [DataW.weights, Try.underlying46, hb1]
        exact List.mem_cons.2 (.inl (by simp)))
      unfold reachBytes at this
      simp
      omega

open Go.ChangeShapes Go.WideShapes Go.ChangeAt

set_option maxRecDepth 100000 in
theorem parts_arg {H : Type} {enc : TypeId × Value → H} {W : World} {b0 : Nat} {v : Value} {d : DataW H} {p : List MemPlace} (hv : Value.okWide Try.prog W .any b0 46 v) (h : DataW.Trod enc Try.prog W 0 (fun _ => true) true 46 v d p) (hz : Small 46 d) :
    ∃ ps, PartsAt W (fun k => k < W.heap.size) v ps ∧ (∀ p ∈ ps, p.length ≤ 140737488351232) ∧ ps.length ≤ 140737488355328 := by
  obtain ⟨a, len, cap, rfl⟩ := okWide_slice Try.underlying46 hv
  obtain ⟨fuel, h⟩ := h
  obtain ⟨v, l, hcs, hs, hl⟩ := parts_open h hz
  have : Value.slice a len cap = v := (List.cons.inj (show [Value.slice a len cap] = [v] from hcs)).1
  subst this
  exact ⟨l, hs, hl⟩

end Go.Proofs.Ytobiajjcnpflgaa
