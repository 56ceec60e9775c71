/- Pure: a path's parent and last part. Conditions: none. -/
import Derived.Test.YtikkfmmdgicigaaDoorPaPar
import Derived.Test.YtikkfmmdgicigaaDoorPaJoinL
import Derived.Test.YtikkfmmdgicigaaDoorPaNestL
namespace Go.Proofs.YtikkfmmdgicigaaDoor
namespace Pt

theorem joins_snoc : ∀ {K : List (List UInt8)} (q : List UInt8), K ≠ [] → joins (K ++ [q]) = joins K ++ 47 :: q
  | [], _, h => (h rfl).elim
  | [p], q, _ => rfl
  | p :: r :: t, q, _ => by
    rw [List.cons_append, joins_cons _ (by simp), joins_cons p (q := r :: t) (by simp), joins_snoc (K := r :: t) q (by simp), List.append_assoc]
    rfl

/-- A text without a slash, or one behind its last. -/
theorem last_cases (l : List UInt8) : (lastS l < 0 ∧ pcs l = [l]) ∨ ∃ K q, K ≠ [] ∧ pcs l = K ++ [q] ∧ l = joins K ++ 47 :: q ∧ lastS l = (joins K).length ∧ pcs (joins K) = K := by
  have hne := pcs_ne l
  obtain ⟨K, q, hk⟩ : ∃ K q, pcs l = K ++ [q] := ⟨(pcs l).dropLast, (pcs l).getLast hne, (List.dropLast_concat_getLast hne).symm⟩
  have hj := joins_pcs l
  by_cases h : K = []
  · subst h
    rw [hk] at hj
    have hj' : q = l := hj
    subst hj'
    have hn : 47 ∉ q := pcs_mem (l := q) (by rw [hk]; simp)
    exact .inl ⟨by rw [lastS_none hn]; decide, hk⟩
  · rw [hk, joins_snoc q h] at hj
    have hn : 47 ∉ q := pcs_mem (l := l) (by rw [hk]; simp)
    refine .inr ⟨K, q, h, hk, hj.symm, ?_, pcs_joins h (fun p hp => pcs_mem (l := l) (by rw [hk]; simp [hp]))⟩
    rw [← hj, lastS_at _ hn]

theorem split_good {l : List UInt8} (h : good l = true) : split l = pcs l := by unfold split; rw [if_pos h]
theorem split_bad {l : List UInt8} (h : good l = false) : split l = [] := by unfold split; rw [h]; rfl

/-- What a path's parent and last part are. -/
theorem par_cases {l : List UInt8} (h : good l = true) :
    (parB l = false ∧ (split l).length = 1 ∧ baseL l = l ∧ split l = [l]) ∨
    (parB l = true ∧ 1 < (split l).length ∧ parL l ++ 47 :: baseL l = l ∧ above (parL l) l = true ∧ (split (parL l)).length + 1 = (split l).length ∧ ∃ K q, K ≠ [] ∧ split l = K ++ [q] ∧ parL l = joins K ∧ baseL l = q) := by
  rw [split_good h]
  rcases last_cases l with ⟨h1, h2⟩ | ⟨K, q, h1, h2, h3, h4, h5⟩
  · refine .inl ⟨?_, by rw [h2]; rfl, ?_, h2⟩
    · unfold parB; rw [decide_eq_true h1]; rfl
    · unfold baseL
      rw [if_pos h]
      rcases lastS_range l with e | ⟨i, e, _⟩
      · rw [e]; rfl
      · omega
  · have hB : parB l = true := by unfold parB; rw [decide_eq_false (by omega), h]; rfl
    have hP : parL l = joins K := by
      unfold parL
      rw [hB, if_pos rfl, h4, h3]
      simp
    have hQ : baseL l = q := by
      unfold baseL
      rw [if_pos h, h4]
      have e : ((((joins K).length : Nat) : Int) + 1).toNat = (joins K).length + 1 := by omega
      rw [e, h3, List.drop_append]
      simp
    have hg : good (joins K) = true := by
      refine good_iff.2 ⟨?_, fun p hp => (good_iff.1 h).2 p (by rw [h2]; rw [h5] at hp; simp [hp])⟩
      have := good_len h
      rw [h3, List.length_append] at this
      omega
    have hK : 0 < K.length := List.length_pos_iff.2 h1
    refine .inr ⟨hB, by rw [h2]; simp; omega, by rw [hP, hQ, ← h3], ?_, ?_, K, q, h1, h2, hP, hQ⟩
    · rw [hP]
      refine above_iff.2 ⟨hg, h, [q], by simp, ?_⟩
      rw [h2, h5]
    · rw [hP, split_good hg, h5, h2]
      simp

end Pt
end Go.Proofs.YtikkfmmdgicigaaDoor
