/- Pure: the order of rows of pieces. Conditions: none. -/
import Derived.Test.YtikkfmmdgicigaaDoorPaPure
namespace Go.Proofs.YtikkfmmdgicigaaDoor
namespace Pt
open Go.Lib (compareBytes)

theorem cb_self : ∀ l : List UInt8, compareBytes l l = 0
  | [] => rfl
  | a :: l => by simp [compareBytes, UInt8.lt_irrefl, cb_self l]

theorem cb_eq : ∀ {a b : List UInt8}, compareBytes a b = 0 → a = b
  | [], [], _ => rfl
  | [], _ :: _, h => by simp [compareBytes] at h
  | _ :: _, [], h => by simp [compareBytes] at h
  | x :: a, y :: b, h => by
    unfold compareBytes at h
    split at h
    · simp at h
    · rename_i h1
      split at h
      · simp at h
      · rename_i h2
        have e : x = y := UInt8.le_antisymm (UInt8.not_lt.1 h2) (UInt8.not_lt.1 h1)
        rw [e, cb_eq h]

theorem cb_range : ∀ (a b : List UInt8), compareBytes a b = -1 ∨ compareBytes a b = 0 ∨ compareBytes a b = 1
  | [], [] => .inr (.inl rfl)
  | [], _ :: _ => .inl rfl
  | _ :: _, [] => .inr (.inr rfl)
  | x :: a, y :: b => by
    unfold compareBytes
    split
    · exact .inl rfl
    · split
      · exact .inr (.inr rfl)
      · exact cb_range a b

theorem cb_anti : ∀ (a b : List UInt8), compareBytes a b = - compareBytes b a
  | [], [] => rfl
  | [], _ :: _ => rfl
  | _ :: _, [] => rfl
  | x :: a, y :: b => by
    unfold compareBytes
    by_cases h1 : x < y
    · have h2 : ¬ y < x := UInt8.not_lt.2 (UInt8.le_of_lt h1)
      simp [h1, h2]
    · by_cases h2 : y < x
      · simp [h1, h2]
      · simp [h1, h2, cb_anti a b]

/-- Less and equal go on. -/
theorem cb_trans : ∀ (a b c : List UInt8), compareBytes a b ≤ 0 → compareBytes b c ≤ 0 → compareBytes a c ≤ 0
  | [], _, [], _, _ => by simp [compareBytes]
  | [], _, _ :: _, _, _ => by simp [compareBytes]
  | _ :: _, [], _, h, _ => by simp [compareBytes] at h
  | _ :: _, _ :: _, [], _, h => by simp [compareBytes] at h
  | x :: a, y :: b, z :: c, h1, h2 => by
    unfold compareBytes at h1 h2 ⊢
    by_cases xy : x < y
    · by_cases yz : y < z
      · simp [UInt8.lt_trans xy yz]
      · by_cases zy : z < y
        · simp [yz, zy] at h2
        · have e : y = z := UInt8.le_antisymm (UInt8.not_lt.1 zy) (UInt8.not_lt.1 yz)
          subst e; simp [xy]
    · by_cases yx : y < x
      · simp [xy, yx] at h1
      · have e : x = y := UInt8.le_antisymm (UInt8.not_lt.1 yx) (UInt8.not_lt.1 xy)
        subst e
        by_cases yz : x < z
        · simp [yz]
        · by_cases zy : z < x
          · simp [yz, zy] at h2
          · simp only [yz, zy, xy, if_false] at h1 h2 ⊢
            exact cb_trans a b c h1 h2

/-- Piece by piece. -/
def cmpP : List (List UInt8) → List (List UInt8) → Int
  | [], [] => 0
  | [], _ :: _ => -1
  | _ :: _, [] => 1
  | p :: ps, q :: qs => if compareBytes p q = 0 then cmpP ps qs else compareBytes p q

def cmp (a b : List UInt8) : Int := cmpP (pcs a) (pcs b)

theorem cmpP_pre : ∀ (p t u : List (List UInt8)), cmpP (p ++ t) (p ++ u) = cmpP t u
  | [], _, _ => rfl
  | x :: p, t, u => by
    show (if compareBytes x x = 0 then cmpP (p ++ t) (p ++ u) else _) = _
    rw [if_pos (cb_self x), cmpP_pre p t u]

theorem cmpP_nil {u : List (List UInt8)} (h : u ≠ []) : cmpP [] u = -1 := by
  cases u with
  | nil => exact (h rfl).elim
  | cons a b => rfl

theorem cmpP_range : ∀ (a b : List (List UInt8)), cmpP a b = -1 ∨ cmpP a b = 0 ∨ cmpP a b = 1
  | [], [] => .inr (.inl rfl)
  | [], _ :: _ => .inl rfl
  | _ :: _, [] => .inr (.inr rfl)
  | x :: a, y :: b => by
    unfold cmpP
    split
    · exact cmpP_range a b
    · exact cb_range x y

theorem cmpP_eq : ∀ {a b : List (List UInt8)}, cmpP a b = 0 → a = b
  | [], [], _ => rfl
  | [], _ :: _, h => by simp [cmpP] at h
  | _ :: _, [], h => by simp [cmpP] at h
  | x :: a, y :: b, h => by
    unfold cmpP at h
    split at h
    · rename_i e
      rw [cb_eq e, cmpP_eq h]
    · rename_i e
      exact (e h).elim

theorem cmpP_self (a : List (List UInt8)) : cmpP a a = 0 := by
  have := cmpP_pre a [] []
  simpa [cmpP] using this

theorem cmpP_anti : ∀ (a b : List (List UInt8)), cmpP a b = - cmpP b a
  | [], [] => rfl
  | [], _ :: _ => rfl
  | _ :: _, [] => rfl
  | x :: a, y :: b => by
    unfold cmpP
    have h := cb_anti x y
    by_cases e : compareBytes x y = 0
    · have e2 : compareBytes y x = 0 := by omega
      rw [if_pos e, if_pos e2, cmpP_anti a b]
    · have e2 : ¬ compareBytes y x = 0 := by omega
      rw [if_neg e, if_neg e2, h]

theorem cmpP_trans : ∀ (a b c : List (List UInt8)), cmpP a b ≤ 0 → cmpP b c ≤ 0 → cmpP a c ≤ 0
  | [], _, [], _, _ => by simp [cmpP]
  | [], _, _ :: _, _, _ => by simp [cmpP]
  | _ :: _, [], _, h, _ => by simp [cmpP] at h
  | _ :: _, _ :: _, [], _, h => by simp [cmpP] at h
  | x :: a, y :: b, z :: c, h1, h2 => by
    unfold cmpP at h1 h2 ⊢
    by_cases xy : compareBytes x y = 0
    · have e := cb_eq xy
      subst e
      rw [if_pos xy] at h1
      by_cases yz : compareBytes x z = 0
      · rw [if_pos yz] at h2 ⊢
        exact cmpP_trans a b c h1 h2
      · rw [if_neg yz] at h2 ⊢
        exact h2
    · rw [if_neg xy] at h1
      by_cases yz : compareBytes y z = 0
      · have e := cb_eq yz
        subst e
        rw [if_neg xy]
        exact h1
      · rw [if_neg yz] at h2
        have hxz := cb_trans x y z h1 h2
        by_cases xz : compareBytes x z = 0
        · have e := cb_eq xz
          subst e
          have := cb_anti x y
          omega
        · rw [if_neg xz]
          exact hxz

theorem cmp_zero {a b : List UInt8} : cmp a b = 0 ↔ a = b :=
  ⟨fun h => pcs_inj (cmpP_eq h), fun h => by rw [h]; exact cmpP_self _⟩
theorem cmp_anti (a b : List UInt8) : cmp a b = - cmp b a := cmpP_anti _ _
theorem cmp_range (a b : List UInt8) : cmp a b = -1 ∨ cmp a b = 0 ∨ cmp a b = 1 := cmpP_range _ _
theorem cmp_le {a b c : List UInt8} (h1 : cmp a b ≤ 0) (h2 : cmp b c ≤ 0) : cmp a c ≤ 0 := cmpP_trans _ _ _ h1 h2
theorem cmp_ge {a b c : List UInt8} (h1 : 0 ≤ cmp a b) (h2 : 0 ≤ cmp b c) : 0 ≤ cmp a c := by
  have e1 := cmp_anti a b
  have e2 := cmp_anti b c
  have e3 := cmp_anti a c
  have := cmp_le (a := c) (b := b) (c := a) (by omega) (by omega)
  omega

end Pt
end Go.Proofs.YtikkfmmdgicigaaDoor
