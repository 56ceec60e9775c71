/- Pure: what tree is built of entries. Conditions: none. -/
import Derived.Test.YtikkfmmdgicigaaDoorTrMissL
import Derived.Test.YtikkfmmdgicigaaDoorTrNorm
namespace Go.Proofs.YtikkfmmdgicigaaDoor

namespace Tr
/-- A directory that a path needs, and that isn't there. -/
def Need (N : List En) (p : List UInt8) : Prop := named N p = false ∧ ∃ e ∈ N, Pt.above p e.path = true
/-- T has what N has, and the directories that its paths need, in order. -/
structure Full (N T : List En) : Prop where
  up : Up T
  mem : ∀ x, x ∈ T ↔ x ∈ N ∨ ∃ p, x = dirE p ∧ Need N p

theorem above_par {p q : List UInt8} (h : Pt.above p q = true) : Pt.parB q = true ∧ (p = Pt.parL q ∨ Pt.above p (Pt.parL q) = true) := by
  obtain ⟨hp, hq, t, ht, hb⟩ := Pt.above_iff.1 h
  rcases Pt.par_cases hq with ⟨_, _, _, h4⟩ | ⟨h1, _, _, h4, _, K, x, hK, hs, hP, _⟩
  · exfalso
    rw [Pt.split_good hq, hb] at h4
    have := congrArg List.length h4
    rw [List.length_append, List.length_singleton] at this
    have h5 := List.length_pos_iff.2 ht
    have h6 := List.length_pos_iff.2 (Pt.pcs_ne p)
    omega
  · refine ⟨h1, ?_⟩
    have hg : Pt.good (Pt.parL q) = true := (Pt.above_iff.1 h4).1
    have hno : ∀ y ∈ K, 47 ∉ y := fun y hy => Pt.pcs_mem (l := q) (by rw [Pt.split_good hq] at hs; rw [hs]; simp [hy])
    have hpk : Pt.pcs (Pt.parL q) = K := by rw [hP]; exact Pt.pcs_joins hK hno
    rw [Pt.split_good hq, hb] at hs
    rcases List.eq_nil_or_concat t with rfl | ⟨t', y, rfl⟩
    · exact (ht rfl).elim
    · rw [List.concat_eq_append, ← List.append_assoc] at hs
      have hs2 : Pt.pcs p ++ t' = K := (List.append_inj' hs rfl).1
      cases t' with
      | nil =>
        left
        rw [List.append_nil] at hs2
        exact Pt.pcs_inj (by rw [hpk, hs2])
      | cons z t'' =>
        right
        exact Pt.above_iff.2 ⟨hp, hg, z :: t'', by simp, by rw [hpk, hs2]⟩

theorem MInv.all {N : List En} {D : List (List UInt8)} (h : MInv N N.length D) {p : List UInt8} (n : Nat) : ∀ q : List UInt8, q.length ≤ n → (named N q = true ∨ q ∈ D) → Pt.above p q = true → named N p = true ∨ p ∈ D := by
  induction n with
  | zero =>
    intro q hq _ ha
    have := good_ne (Pt.above_iff.1 ha).2.1
    exact (this (List.eq_nil_of_length_eq_zero (by omega))).elim
  | succ n ih =>
    intro q hq hm ha
    obtain ⟨hb, hc⟩ := above_par ha
    have hclo : Clo N D q := by
      rcases hm with hm | hm
      · obtain ⟨e, he, rfl⟩ := named_iff.1 hm
        exact h.cloL e (by rw [List.take_length]; exact he)
      · exact h.cloD q hm
    have hpar := hclo hb
    rcases hc with rfl | hc
    · exact hpar
    · exact ih _ (by have := (par_some hb).2.2.2; omega) hpar hc
theorem MInv.need {N : List En} {D : List (List UInt8)} (h : MInv N N.length D) (p : List UInt8) : p ∈ D ↔ Need N p := by
  constructor
  · exact h.new p
  · rintro ⟨h1, e, he, ha⟩
    rcases h.all _ e.path (Nat.le_refl _) (.inl (named_iff.2 ⟨e, he, rfl⟩)) ha with h2 | h2
    · rw [h1] at h2; cases h2
    · exact h2

/-- Two rising lists of the same entries are one. -/
theorem up_unique : ∀ {A B : List En}, Up A → Up B → (∀ x, x ∈ A ↔ x ∈ B) → A = B
  | [], [], _, _, _ => rfl
  | [], b :: B, _, _, h => by have := (h b).2 (by simp); simp at this
  | a :: A, [], _, _, h => by have := (h a).1 (by simp); simp at this
  | a :: A, b :: B, hA, hB, h => by
    obtain ⟨a1, a2⟩ := List.pairwise_cons.1 hA
    obtain ⟨b1, b2⟩ := List.pairwise_cons.1 hB
    have hself : ∀ p : List UInt8, ¬ Pt.cmp p p < 0 := fun p => by rw [Pt.cmp_zero.2 rfl]; omega
    have hab : a = b := by
      rcases List.mem_cons.1 ((h a).1 (by simp)) with e | ha
      · exact e
      · rcases List.mem_cons.1 ((h b).2 (by simp)) with e | hb
        · exact e.symm
        · exact (hself _ (cmp_lt (b1 a ha) (a1 b hb))).elim
    subst hab
    congr 1
    refine up_unique a2 b2 fun x => ?_
    constructor
    · intro hx
      rcases List.mem_cons.1 ((h x).1 (by simp [hx])) with e | hx2
      · subst e; exact (hself _ (a1 x hx)).elim
      · exact hx2
    · intro hx
      rcases List.mem_cons.1 ((h x).2 (by simp [hx])) with e | hx2
      · subst e; exact (hself _ (b1 x hx)).elim
      · exact hx2
theorem Full.unique {N A B : List En} (h : Full N A) (g : Full N B) : A = B := up_unique h.up g.up fun x => by rw [h.mem, g.mem]

/-- What Build answers: the list, or none and an error's number. -/
inductive Bd (L : List En) : Option (List En) → Nat → Prop
  | many (h : 200 < L.length) : Bd L none 19
  | bad (h : ¬ 200 < L.length) (hn : normL L = none) : Bd L none 12
  | twice (N : List En) (h : ¬ 200 < L.length) (hn : normL L = some N) (hd : ¬ Dist N) : Bd L none 13
  | no (N T : List En) (h : ¬ 200 < L.length) (hn : normL L = some N) (hd : Dist N) (hf : Full N T) (hc : (check T).2 ≠ 0) : Bd L none (check T).2
  | ok (N T : List En) (h : ¬ 200 < L.length) (hn : normL L = some N) (hd : Dist N) (hf : Full N T) (hc : (check T).2 = 0) : Bd L (some T) 0

theorem Bd.unique {L : List En} {r r' : Option (List En)} {k k' : Nat} (h : Bd L r k) (g : Bd L r' k') : r = r' ∧ k = k' := by
  cases h with
  | many h => cases g <;> first | exact ⟨rfl, rfl⟩ | contradiction
  | bad h hn => cases g <;> first | exact ⟨rfl, rfl⟩ | contradiction | (rename_i hn2 _; rw [hn] at hn2; cases hn2) | (rename_i hn2 _ _ _; rw [hn] at hn2; cases hn2)
  | twice N h hn hd =>
    cases g with
    | many h => contradiction
    | bad h hn2 => rw [hn] at hn2; cases hn2
    | twice N2 h2 hn2 hd2 => exact ⟨rfl, rfl⟩
    | no N2 T2 h2 hn2 hd2 hf2 hc2 => rw [hn] at hn2; cases hn2; contradiction
    | ok N2 T2 h2 hn2 hd2 hf2 hc2 => rw [hn] at hn2; cases hn2; contradiction
  | no N T h hn hd hf hc =>
    cases g with
    | many h => contradiction
    | bad h hn2 => rw [hn] at hn2; cases hn2
    | twice N2 h2 hn2 hd2 => rw [hn] at hn2; cases hn2; contradiction
    | no N2 T2 h2 hn2 hd2 hf2 hc2 => rw [hn] at hn2; cases hn2; rw [hf.unique hf2]; exact ⟨rfl, rfl⟩
    | ok N2 T2 h2 hn2 hd2 hf2 hc2 => rw [hn] at hn2; cases hn2; rw [hf.unique hf2] at hc; contradiction
  | ok N T h hn hd hf hc =>
    cases g with
    | many h => contradiction
    | bad h hn2 => rw [hn] at hn2; cases hn2
    | twice N2 h2 hn2 hd2 => rw [hn] at hn2; cases hn2; contradiction
    | no N2 T2 h2 hn2 hd2 hf2 hc2 => rw [hn] at hn2; cases hn2; rw [hf.unique hf2] at hc; contradiction
    | ok N2 T2 h2 hn2 hd2 hf2 hc2 => rw [hn] at hn2; cases hn2; rw [hf.unique hf2]; exact ⟨rfl, rfl⟩

theorem normL_mem : ∀ {l m : List En}, normL l = some m → m.length = l.length ∧ ∀ i (h : i < l.length) (h2 : i < m.length), normE l[i] = some m[i]
  | [], m, h => by
    have e : m = [] := by simpa [normL] using h.symm
    subst e
    exact ⟨rfl, fun i hi => by simp at hi⟩
  | e :: r, m, h => by
    unfold normL at h
    cases he : normE e with
    | none => rw [he] at h; cases h
    | some e' =>
      rw [he] at h
      cases hr : normL r with
      | none => rw [hr] at h; cases h
      | some m' =>
        rw [hr] at h
        have hm : m = e' :: m' := (Option.some.inj h).symm
        subst hm
        obtain ⟨h1, h2⟩ := normL_mem hr
        refine ⟨by simp [h1], fun i hi hj => ?_⟩
        cases i with
        | zero => exact he
        | succ i => exact h2 i (by simpa using hi) (by simpa using hj)
theorem normE_good {e f : En} (h : normE e = some f) : Pt.good f.path = true ∧ (f.link = e.link ∨ Pt.good f.link = true) ∧ f.data = e.data ∧ f.kind = e.kind ∧ f.mode = e.mode ∧ Pt.normal e.path = some f.path := by
  unfold normE at h
  cases hp : Pt.normal e.path with
  | none => rw [hp] at h; cases h
  | some p =>
    rw [hp] at h
    simp only at h
    split at h
    · split at h
      · cases h
      · rename_i l hl
        rw [← Option.some.inj h]
        exact ⟨Pt.normal_is hp, .inr (Pt.normal_is hl), rfl, rfl, rfl, rfl⟩
    · rw [← Option.some.inj h]
      exact ⟨Pt.normal_is hp, .inl rfl, rfl, rfl, rfl, rfl⟩
end Tr

end Go.Proofs.YtikkfmmdgicigaaDoor
