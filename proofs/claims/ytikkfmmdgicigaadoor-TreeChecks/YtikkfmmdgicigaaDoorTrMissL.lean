/- Pure: the directories that paths need. Conditions: none. -/
import Derived.Test.YtikkfmmdgicigaaDoorTrKinds
namespace Go.Proofs.YtikkfmmdgicigaaDoor

namespace Tr
def dirE (p : List UInt8) : En := ⟨p, 1, 493, 0, 0, 0, [], []⟩

/-- Its parent is there. -/
def Clo (L : List En) (D : List (List UInt8)) (q : List UInt8) : Prop := Pt.parB q = true → named L (Pt.parL q) = true ∨ Pt.parL q ∈ D
theorem Clo.mono {L : List En} {D : List (List UInt8)} {q : List UInt8} (h : Clo L D q) (x : List UInt8) : Clo L (D ++ [x]) q := fun hb => (h hb).imp (fun h => h) (fun h => by simp [h])

structure MInv (L : List En) (i : Nat) (D : List (List UInt8)) : Prop where
  dist : D.Pairwise (· ≠ ·)
  new : ∀ p ∈ D, named L p = false ∧ ∃ e ∈ L, Pt.above p e.path = true
  cloL : ∀ e ∈ L.take i, Clo L D e.path
  cloD : ∀ p ∈ D, Clo L D p
  cnt : D.length ≤ 401 * i

structure MIn (L : List En) (i : Nat) (D : List (List UInt8)) (A : List UInt8) (k : Bool) : Prop where
  ex : ∃ q0, (∀ e ∈ L.take (i + 1), e.path = q0 ∨ Clo L D e.path) ∧ (∀ p ∈ D, p = q0 ∨ Clo L D p) ∧ k = Pt.parB q0 ∧ A = Pt.parL q0 ∧ Pt.good q0 = true ∧ ∃ e ∈ L, q0 = e.path ∨ Pt.above q0 e.path = true
  dist : D.Pairwise (· ≠ ·)
  new : ∀ p ∈ D, named L p = false ∧ ∃ e ∈ L, Pt.above p e.path = true
  cnt : D.length + A.length ≤ 401 * i + 400

theorem par_none {q : List UInt8} (h : Pt.parB q = false) : Pt.parL q = [] := by unfold Pt.parL; rw [h]; rfl
theorem par_some {q : List UInt8} (h : Pt.parB q = true) : Pt.good q = true ∧ Pt.good (Pt.parL q) = true ∧ Pt.above (Pt.parL q) q = true ∧ (Pt.parL q).length < q.length := by
  have hg : Pt.good q = true := by unfold Pt.parB at h; rw [Bool.and_eq_true] at h; exact h.2
  rcases Pt.par_cases hg with ⟨h1, _⟩ | ⟨_, _, h3, h4, _⟩
  · rw [h] at h1; cases h1
  · refine ⟨hg, (Pt.above_iff.1 h4).1, h4, ?_⟩
    have := congrArg List.length h3
    rw [List.length_append, List.length_cons] at this
    omega
theorem par_short {q : List UInt8} (h : Pt.good q = true) : (Pt.parL q).length < q.length := by
  cases hb : Pt.parB q with
  | true => exact (par_some hb).2.2.2
  | false =>
    rw [par_none hb]
    have := List.length_pos_iff.2 (good_ne h)
    simpa using this

theorem MInv.start (L : List En) : MInv L 0 [] := ⟨List.Pairwise.nil, by simp, by simp, by simp, by simp⟩
theorem MInv.enter {L : List En} {i : Nat} {D : List (List UInt8)} (h : MInv L i D) (hi : i < L.length) (hg : Pt.good L[i].path = true) : MIn L i D (Pt.parL L[i].path) (Pt.parB L[i].path) := by
  have et : L.take (i + 1) = L.take i ++ [L[i]] := by rw [List.take_add_one, List.getElem?_eq_getElem hi]; rfl
  refine ⟨⟨L[i].path, fun e he => ?_, fun p hp => .inr (h.cloD p hp), rfl, rfl, hg, L[i], List.getElem_mem hi, .inl rfl⟩, h.dist, h.new, ?_⟩
  · rw [et, List.mem_append, List.mem_singleton] at he
    rcases he with he | rfl
    · exact .inr (h.cloL e he)
    · exact .inl rfl
  · have h1 := par_short hg
    have h2 := Pt.good_len hg
    have h3 := h.cnt
    omega
theorem MIn.stop {L : List En} {i : Nat} {D : List (List UInt8)} {A : List UInt8} {k : Bool} (h : MIn L i D A k) (hk : k = true → named L A = true ∨ A ∈ D) : MInv L (i + 1) D := by
  obtain ⟨q0, h1, h2, rfl, rfl, _⟩ := h.ex
  refine ⟨h.dist, h.new, fun e he => ?_, fun p hp => ?_, by have := h.cnt; omega⟩
  · rcases h1 e he with e1 | e1
    · rw [e1]; exact hk
    · exact e1
  · rcases h2 p hp with e1 | e1
    · rw [e1]; exact hk
    · exact e1
theorem MIn.good {L : List En} {i : Nat} {D : List (List UInt8)} {A : List UInt8} (h : MIn L i D A true) : Pt.good A = true := by
  obtain ⟨q0, _, _, hk, rfl, _⟩ := h.ex
  exact (par_some hk.symm).2.1
theorem MIn.step {L : List En} {i : Nat} {D : List (List UInt8)} {A : List UInt8} (h : MIn L i D A true) (h1 : named L A = false) (h2 : A ∉ D) : MIn L i (D ++ [A]) (Pt.parL A) (Pt.parB A) := by
  have hA := h.good
  obtain ⟨q0, c1, c2, hk, ha, hg, e0, he0, hab⟩ := h.ex
  have hp := par_some hk.symm
  rw [← ha] at hp
  have hq0 : Clo L (D ++ [A]) q0 := fun _ => .inr (by rw [← ha]; simp)
  have habove : Pt.above A e0.path = true := by
    rcases hab with rfl | hab
    · exact hp.2.2.1
    · exact Pt.above_trans hp.2.2.1 hab
  refine ⟨⟨A, fun e he => .inr ?_, fun p hp => ?_, rfl, rfl, hA, e0, he0, .inr habove⟩, ?_, fun p hp => ?_, ?_⟩
  · rcases c1 e he with e1 | e1
    · rw [e1]; exact hq0
    · exact e1.mono A
  · rw [List.mem_append, List.mem_singleton] at hp
    rcases hp with hp | rfl
    · rcases c2 p hp with e1 | e1
      · rw [e1]; exact .inr hq0
      · exact .inr (e1.mono A)
    · exact .inl rfl
  · refine List.pairwise_append.2 ⟨h.dist, List.pairwise_singleton _ _, fun x hx y hy => ?_⟩
    rw [List.mem_singleton] at hy
    subst hy
    rintro rfl
    exact h2 hx
  · rw [List.mem_append, List.mem_singleton] at hp
    rcases hp with hp | rfl
    · exact h.new p hp
    · exact ⟨h1, e0, he0, habove⟩
  · have := par_short hA
    have h3 := h.cnt
    simp
    omega
end Tr

end Go.Proofs.YtikkfmmdgicigaaDoor
