/- Pure: what Frames reads, written again. Conditions: none. -/
import Derived.Test.YtnomgcbkaggmhaaWiCutP
namespace Go.Proofs.Ytnomgcbkaggmhaa.Wi

theorem again_nil : again [] = [] := rfl
theorem again_cons (q : UInt8 × List UInt8 × Nat) (l : List (UInt8 × List UInt8 × Nat)) : again (q :: l) = frameOf q.1 q.2.1 ++ again l := by simp [again]
theorem again_take {l : List (UInt8 × List UInt8 × Nat)} {i : Nat} (h : i < l.length) : again (l.take (i + 1)) = again (l.take i) ++ frameOf l[i].1 l[i].2.1 := by
  rw [List.take_succ_eq_append_getElem h, again_append, again_cons, again_nil, List.append_nil]

structure Again (at' : Nat) (b : List UInt8) (l : List (UInt8 × List UInt8 × Nat)) (to' : Nat) : Prop where
  place : ∀ i (h : i < l.length), l[i].2.2 = at' + (again (l.take i)).length
  to_ : to' = at' + (again l).length
  form : again l = b.take (again l).length
  le : (again l).length ≤ b.length

theorem frames_again (m : Nat) : ∀ (at' : Nat) (b : List UInt8) (l : List (UInt8 × List UInt8 × Nat)) (to' : Nat), frames m at' b = (l, to') → Again at' b l to' := by
  have base : ∀ at' b, Again at' b [] at' := fun at' b => ⟨fun i h => absurd h (by simp), by simp [again], by simp [again], by simp [again]⟩
  induction m with
  | zero =>
    intro at' b l to' h
    obtain ⟨rfl, rfl⟩ := Prod.mk.inj h
    exact base _ _
  | succ m ih =>
    intro at' b l to' h
    cases b with
    | nil =>
      obtain ⟨rfl, rfl⟩ := Prod.mk.inj h
      exact base _ _
    | cons x t =>
      cases hf : field t with
      | none =>
        rw [frames_stop hf] at h
        obtain ⟨rfl, rfl⟩ := Prod.mk.inj h
        exact base _ _
      | some q =>
        obtain ⟨f, k⟩ := q
        rw [frames_step (by omega) hf] at h
        obtain ⟨rfl, rfl⟩ := Prod.mk.inj h
        have hF := field_some hf
        have hi := ih (at' + 1 + k) (t.drop k) _ _ rfl
        simp only [Nat.add_sub_cancel]
        generalize (frames m (at' + 1 + k) (t.drop k)).1 = l' at *
        generalize (frames m (at' + 1 + k) (t.drop k)).2 = z at *
        have hfl : (frameOf x f).length = 1 + k := by
          have := hF.size
          unfold frameOf
          rw [List.length_cons, field_len]
          omega
        have hkt := hF.le
        have hall : again ((x, f, at') :: l') = frameOf x f ++ again l' := again_cons _ _
        refine ⟨fun i h => ?_, ?_, ?_, ?_⟩
        · cases i with
          | zero => simp [again]
          | succ i =>
            have hi' := hi.place i (by simpa using h)
            simp only [List.getElem_cons_succ, List.take_succ_cons, again_cons, List.length_append, hfl]
            omega
        · rw [hall, List.length_append, hfl, hi.to_]; omega
        · rw [hall, List.length_append, hfl]
          have e : x :: t = frameOf x f ++ t.drop k := by
            unfold frameOf
            rw [List.cons_append, ← hF.split]
          rw [e, List.take_append, hfl, List.take_of_length_le (by omega), show 1 + k + (again l').length - (1 + k) = (again l').length by omega, ← hi.form]
        · have := hi.le
          rw [hall, List.length_append, hfl, List.length_cons]
          simp only [List.length_drop] at this
          omega

end Go.Proofs.Ytnomgcbkaggmhaa.Wi
