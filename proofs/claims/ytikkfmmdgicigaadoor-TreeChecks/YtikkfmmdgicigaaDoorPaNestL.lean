/- Pure: which paths lie above which, and that what lies below a path stands together. Conditions: none. -/
import Derived.Test.YtikkfmmdgicigaaDoorPaCmpL
namespace Go.Proofs.YtikkfmmdgicigaaDoor
namespace Pt

/-- Does a lie above b? -/
def above (a b : List UInt8) : Bool := good a && (good b && Lib.hasPrefix b (a ++ [47]))

theorem pcs_app : ∀ (a r : List UInt8), pcs (a ++ 47 :: r) = pcs a ++ pcs r
  | [], r => pcs_slash r
  | c :: a, r => by
    have ih := pcs_app a r
    by_cases hc : c = 47
    · subst hc
      rw [List.cons_append, pcs_slash, pcs_slash, ih]
      rfl
    · obtain ⟨p, q, h1, h2⟩ := pcs_cons hc (a ++ 47 :: r)
      obtain ⟨p', q', h3, h4⟩ := pcs_cons hc a
      rw [ih, h3] at h1
      rw [List.cons_append, h2, h4]
      obtain ⟨rfl, rfl⟩ := List.cons.inj h1
      rfl

theorem above_iff {a b : List UInt8} : above a b = true ↔ good a = true ∧ good b = true ∧ ∃ t, t ≠ [] ∧ pcs b = pcs a ++ t := by
  unfold above Lib.hasPrefix
  rw [Bool.and_eq_true, Bool.and_eq_true, List.isPrefixOf_iff_prefix]
  constructor
  · rintro ⟨h1, h2, r, hr⟩
    refine ⟨h1, h2, pcs r, pcs_ne r, ?_⟩
    rw [← hr, List.append_assoc]
    exact pcs_app a r
  · rintro ⟨h1, h2, t, ht, hb⟩
    refine ⟨h1, h2, joins t, ?_⟩
    have hj : pcs (a ++ 47 :: joins t) = pcs b := by
      rw [pcs_app, hb, pcs_joins ht]
      intro p hp
      exact pcs_mem (l := b) (by rw [hb]; simp [hp])
    rw [List.append_assoc]
    exact pcs_inj hj

theorem above_cmp {a b : List UInt8} (h : above a b = true) : cmp a b = -1 := by
  obtain ⟨_, _, t, ht, hb⟩ := above_iff.1 h
  unfold cmp
  have := cmpP_pre (pcs a) [] t
  rw [List.append_nil] at this
  rw [hb, this, cmpP_nil ht]

theorem above_not {a b : List UInt8} (h : above a b = true) : above b a = false := by
  rw [← Bool.not_eq_true]
  intro h2
  have h1 := above_cmp h
  have h3 := above_cmp h2
  have := cmp_anti a b
  omega

theorem above_trans {a b c : List UInt8} (h : above a b = true) (h2 : above b c = true) : above a c = true := by
  obtain ⟨g1, _, t, ht, hb⟩ := above_iff.1 h
  obtain ⟨_, g3, u, hu, hc⟩ := above_iff.1 h2
  refine above_iff.2 ⟨g1, g3, t ++ u, by simp [ht], ?_⟩
  rw [hc, hb, List.append_assoc]

theorem cmpP_same : ∀ (A C t : List (List UInt8)), ¬ A <+: C → cmpP A C = cmpP (A ++ t) C
  | [], C, _, h => (h ⟨C, rfl⟩).elim
  | _ :: _, [], _, _ => rfl
  | x :: A, y :: C, t, h => by
    show (if Lib.compareBytes x y = 0 then cmpP A C else _) = (if Lib.compareBytes x y = 0 then cmpP (A ++ t) C else _)
    by_cases e : Lib.compareBytes x y = 0
    · rw [if_pos e, if_pos e]
      have := cb_eq e
      subst this
      refine cmpP_same A C t (fun hp => h ?_)
      obtain ⟨r, hr⟩ := hp
      exact ⟨r, by rw [List.cons_append, hr]⟩
    · rw [if_neg e, if_neg e]

/-- What isn't below a stands on the same side of all that is. -/
theorem above_same {a b c : List UInt8} (h : above a b = true) (hg : good c = true) (hne : c ≠ a) (hn : above a c = false) : cmp a c = cmp b c := by
  obtain ⟨g1, _, t, _, hb⟩ := above_iff.1 h
  unfold cmp
  rw [hb]
  refine cmpP_same _ _ _ ?_
  rintro ⟨r, hr⟩
  by_cases e : r = []
  · subst e
    rw [List.append_nil] at hr
    exact hne (pcs_inj hr).symm
  · have := above_iff.2 ⟨g1, hg, r, e, hr.symm⟩
    rw [hn] at this
    cases this

end Pt
end Go.Proofs.YtikkfmmdgicigaaDoor
