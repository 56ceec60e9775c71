/- What an error leaves. Conditions: none. -/
import Derived.Test.YthjabfhfkikalaaFSame
import Derived.Test.YthjabfhfkikalaaKeep
namespace Go.Proofs.Ythjabfhfkikalaa
open Go.RowKit Go.Maps Go.WideMaps

theorem Dm.St.all_same {s t : Dm.St} (e1 : t.dir = s.dir) (e2 : t.files = s.files) : t.all = s.all := by
  unfold Dm.St.all Dm.St.dataOf
  rw [e1, e2]

/-- A step that answers an error: no file has changed, and only the error 2 counts it. -/
theorem Dm.St.step_err (s : Dm.St) (h : s.step.1 ≠ 0) : s.step.2.all = s.all ∧ (s.step.1 ≠ 2 → s.step.2.steps = s.steps) ∧ (s.step.1 = 2 → s.step.2.steps = s.steps + 1) := by
  obtain ⟨a, _, _, d, _⟩ := s.step_same
  refine ⟨Dm.St.all_same a d, ?_⟩
  revert h
  unfold Dm.St.step
  split
  · simp
  · rcases hf : s.fails with _ | ⟨_ | n, r⟩ <;> simp

structure Refused (s : Dm.St) (r : Nat × Dm.St) : Prop where
  all : r.1 ≠ 0 → r.2.all = s.all
  stay : r.1 ≠ 0 → r.1 ≠ 2 → r.2.steps = s.steps
  io : r.1 = 2 → r.2.steps = s.steps + 1

theorem Refused.err {s : Dm.St} {n : Nat} (h : n ≠ 2) : Refused s (n, s) := ⟨fun _ => rfl, fun _ _ => rfl, fun e => absurd e h⟩
theorem Refused.good {s t : Dm.St} : Refused s (0, t) := ⟨fun e => absurd rfl e, fun e => absurd rfl e, fun e => by cases e⟩
theorem Refused.step {s : Dm.St} (h : s.step.1 ≠ 0) : Refused s (s.step.1, s.step.2) := by
  obtain ⟨a, b, c⟩ := s.step_err h
  exact ⟨fun _ => a, fun _ => b, c⟩
theorem Refused.alter {s : Dm.St} (c : Dm.Chg) (f : List Dm.Fil) : Refused s (s.alter c f) := by
  unfold Dm.St.alter
  split
  · exact .good
  · exact .step ‹_›

theorem find_err {s : Dm.St} {n : Dm.Nm} {e : Nat} {o : Option Nat} (h : s.find n = (e, o)) : e ≠ 2 := by
  unfold Dm.St.find at h
  split at h
  · cases h; simp
  · split at h
    · cases h; simp
    · split at h <;> cases h <;> simp

theorem playS_refused (s : Dm.St) (o : OpD) : Refused s (playS s o) := by
  unfold playS
  split
  · unfold Dm.St.create
    repeat' split
    all_goals first | exact .err (by omega) | exact .alter _ _
  split
  · unfold Dm.St.append
    split
    · repeat' split
      all_goals first | exact .err (by omega) | exact .good | exact .step ‹_›
    · exact .err (find_err ‹_›)
  split
  · unfold Dm.St.sync
    split
    · repeat' split
      all_goals first | exact .good | exact .step ‹_›
    · exact .err (find_err ‹_›)
  split
  · unfold Dm.St.syncDir
    repeat' split
    all_goals first | exact .err (by omega) | exact .good | exact .step ‹_›
  split
  · unfold Dm.St.rename
    repeat' split
    all_goals first | exact .err (by omega) | exact .alter _ _
  split
  · unfold Dm.St.remove
    split
    · exact .alter _ _
    · exact .err (find_err ‹_›)
  split
  · unfold Dm.St.arm
    repeat' split
    all_goals first | exact .err (by omega) | exact .good
  split
  · unfold Dm.St.fail
    repeat' split
    all_goals first | exact .err (by omega) | exact .good
  · exact .good

end Go.Proofs.Ythjabfhfkikalaa
