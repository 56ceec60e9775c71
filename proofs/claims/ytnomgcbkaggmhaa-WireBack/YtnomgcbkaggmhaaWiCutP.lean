/- Pure: of what is written no true beginning is read. Conditions: none. -/
import Derived.Test.YtnomgcbkaggmhaaWiFrames
namespace Go.Proofs.Ytnomgcbkaggmhaa.Wi

theorem field_inj {f g a b : List UInt8} (hf : f.length ≤ 67108864) (hg : g.length ≤ 67108864) (h : fieldOf f ++ a = fieldOf g ++ b) : f = g ∧ a = b := by
  have h1 := field_of hf a
  rw [h, field_of hg b] at h1
  have e : g = f := (Prod.mk.inj (Option.some.inj h1)).1
  subst e
  exact ⟨rfl, List.append_cancel_left h⟩

theorem pack_inj : ∀ (fs gs : List (List UInt8)) (t : List UInt8), (∀ f ∈ fs, f.length ≤ 67108864) → (∀ g ∈ gs, g.length ≤ 67108864) → fs.length = gs.length → pack fs = pack gs ++ t → fs = gs ∧ t = []
  | [], [], t, _, _, _, h => ⟨rfl, by simpa [pack_nil] using h⟩
  | [], _ :: _, _, _, _, hl, _ => by simp at hl
  | _ :: _, [], _, _, _, hl, _ => by simp at hl
  | f :: fs, g :: gs, t, hf, hg, hl, h => by
    rw [pack_cons, pack_cons, List.append_assoc] at h
    obtain ⟨e1, e2⟩ := field_inj (hf f (by simp)) (hg g (by simp)) h
    obtain ⟨e3, e4⟩ := pack_inj fs gs t (fun x hx => hf x (by simp [hx])) (fun x hx => hg x (by simp [hx])) (by simpa using hl) e2
    exact ⟨by rw [e1, e3], e4⟩

theorem unpack_short (n : Nat) : ∀ b fs, unpack n b = some fs → ∀ f ∈ fs, f.length ≤ 67108864 := by
  induction n with
  | zero =>
    intro b fs h
    unfold unpack at h
    split at h
    · injection h with h
      subst h
      simp
    · cases h
  | succ n ih =>
    intro b fs h
    unfold unpack at h
    split at h
    · cases h
    · rename_i f k hf
      obtain ⟨gs, hg, rfl⟩ := Option.map_eq_some_iff.1 h
      intro x hx
      rcases List.mem_cons.1 hx with rfl | hx
      · exact (field_some hf).fits
      · exact ih _ _ hg x hx

theorem unpack_cut {fs : List (List UInt8)} (h : ∀ f ∈ fs, f.length ≤ 67108864) {c : Nat} (hc : c < (pack fs).length) : unpack fs.length ((pack fs).take c) = none := by
  cases hu : unpack fs.length ((pack fs).take c) with
  | none => rfl
  | some gs =>
    obtain ⟨h1, h2⟩ := unpack_some _ _ _ hu
    have h3 := unpack_short _ _ _ hu
    have h4 : pack fs = pack gs ++ (pack fs).drop c := by rw [h2, List.take_append_drop]
    obtain ⟨_, e⟩ := pack_inj fs gs _ h h3 h1.symm h4
    have := congrArg List.length e
    simp at this
    omega

theorem unpack_more {fs : List (List UInt8)} (h : ∀ f ∈ fs, f.length ≤ 67108864) (x : UInt8) : unpack fs.length (pack fs ++ [x]) = none := by
  cases hu : unpack fs.length (pack fs ++ [x]) with
  | none => rfl
  | some gs =>
    obtain ⟨h1, h2⟩ := unpack_some _ _ _ hu
    have h3 := unpack_short _ _ _ hu
    obtain ⟨_, e⟩ := pack_inj gs fs [x] h3 h h1 h2
    cases e

theorem field_cut {f : List UInt8} (h : f.length ≤ 67108864) {c : Nat} (hc : c < (fieldOf f).length) : field ((fieldOf f).take c) = none := by
  cases hu : field ((fieldOf f).take c) with
  | none => rfl
  | some q =>
    obtain ⟨g, k⟩ := q
    have hf := field_some hu
    have h1 : fieldOf f ++ [] = fieldOf g ++ (((fieldOf f).take c).drop k ++ (fieldOf f).drop c) := by
      rw [List.append_nil, ← List.append_assoc, ← hf.split, List.take_append_drop]
    obtain ⟨_, e⟩ := field_inj h hf.fits h1
    have := congrArg List.length e
    simp at this
    omega

theorem frames_cut {x : UInt8} {f : List UInt8} (h : f.length ≤ 67108864) {c m : Nat} (hc : c < (frameOf x f).length) : frames m 0 ((frameOf x f).take c) = ([], 0) := by
  cases c with
  | zero => exact frames_nil _ _
  | succ c =>
    unfold frameOf at hc ⊢
    rw [List.take_succ_cons]
    exact frames_stop (field_cut h (by simpa using hc))

theorem frames_one {x : UInt8} {f : List UInt8} (h : f.length ≤ 67108864) {m : Nat} (hm : 0 < m) : frames m 0 (frameOf x f) = ([(x, f, 0)], (frameOf x f).length) := by
  unfold frameOf
  have := field_of h []
  rw [List.append_nil] at this
  rw [frames_step hm this, ← field_len, List.drop_length, frames_nil]
  simp
  omega

end Go.Proofs.Ytnomgcbkaggmhaa.Wi
