/- Pure: one step over a text that may be UTF-8, by the table of bytes. Conditions: none. -/
import Derived.Lib.ValidLaws
namespace Go.Proofs.YtikkfmmdgicigaaDoor
namespace Pt
open Go.Lib

/-- A byte as a number. -/
def at' (L : List UInt8) (i : Nat) : Nat := (L.getD i 0).toNat

theorem drop_getD (L : List UInt8) (i k : Nat) : (L.drop i).getD k 0 = L.getD (i + k) 0 := by simp [List.getD]

theorem utf_ascii {L : List UInt8} {i : Nat} (hi : i < L.length) (h : at' L i < 128) : validD (L.drop i) = validD (L.drop (i + 1)) := by
  rw [List.drop_eq_getElem_cons hi, validD_cons]
  have : at' L i = (L[i]).toNat := by unfold at'; simp [List.getD, hi]
  omega

theorem utf_lead {L : List UInt8} {i : Nat} (hi : i < L.length) (h : 128 ≤ at' L i) :
    validD (L.drop i) = match checkN (L.length - i) (at' L (i + 1)) (at' L (i + 2)) (at' L (i + 3)) (firstT (at' L i) % 8) (accLo (firstT (at' L i) / 16)) (accHi (firstT (at' L i) / 16)) with
      | none => false
      | some k => validD (L.drop (i + k)) := by
  have hne : L.drop i ≠ [] := fun e => by have := congrArg List.length e; rw [List.length_drop] at this; simp at this; omega
  have h0 : at' L i = ((L.drop i).getD 0 0).toNat := by rw [drop_getD]; rfl
  have h1 : at' L (i + 1) = ((L.drop i).getD 1 0).toNat := by rw [drop_getD]; rfl
  have h2 : at' L (i + 2) = ((L.drop i).getD 2 0).toNat := by rw [drop_getD]; rfl
  have h3 : at' L (i + 3) = ((L.drop i).getD 3 0).toNat := by rw [drop_getD]; rfl
  rw [validD_lead _ hne (by rw [← h0]; exact h), ← h0, ← h1, ← h2, ← h3, List.length_drop]
  cases checkN (L.length - i) (at' L (i + 1)) (at' L (i + 2)) (at' L (i + 3)) (firstT (at' L i) % 8) (accLo (firstT (at' L i) / 16)) (accHi (firstT (at' L i) / 16)) with
  | none => rfl
  | some k => simp only [List.drop_drop]

/-- May the j-th byte behind the first stand there? -/
def okAt (L : List UInt8) (i lo hi j : Nat) : Prop := (if j = 1 then lo else 128) ≤ at' L (i + j) ∧ at' L (i + j) ≤ (if j = 1 then hi else 191)

/-- What a first byte of this class asks for. -/
structure Cls (L : List UInt8) (i sz lo hi : Nat) : Prop where
  fin : i + sz ≤ L.length → (∀ j, 1 ≤ j → j < sz → okAt L i lo hi j) → validD (L.drop i) = validD (L.drop (i + sz))
  bad : ∀ j, 1 ≤ j → j < sz → ¬ okAt L i lo hi j → validD (L.drop i) = false
  short : L.length < i + sz → validD (L.drop i) = false

theorem cls_of {L : List UInt8} {i sz lo hi : Nat} (hi' : i < L.length) (h : 128 ≤ at' L i) (hs : sz = 2 ∨ sz = 3 ∨ sz = 4) (e1 : firstT (at' L i) % 8 = sz) (e2 : accLo (firstT (at' L i) / 16) = lo) (e3 : accHi (firstT (at' L i) / 16) = hi) : Cls L i sz lo hi := by
  have key := utf_lead hi' h
  rw [e1, e2, e3] at key
  have hb := fun j => show okAt L i lo hi j ↔ _ from Iff.rfl
  rcases hs with rfl | rfl | rfl
  · refine ⟨fun hr ha => ?_, fun j j1 j2 hn => ?_, fun hr => ?_⟩
    · have a1 := ha 1 (by omega) (by omega)
      simp only [okAt, if_true] at a1
      rw [key]
      simp only [checkN, if_true]
      rw [if_neg (by omega)]
    · obtain rfl : j = 1 := by omega
      simp only [okAt, if_true] at hn
      rw [key]
      simp only [checkN, if_true]
      rw [if_pos (by omega)]
    · rw [key]
      simp only [checkN, if_true]
      rw [if_pos (by omega)]
  · have n32 : ¬ (3 : Nat) = 2 := by omega
    refine ⟨fun hr ha => ?_, fun j j1 j2 hn => ?_, fun hr => ?_⟩
    · have a1 := ha 1 (by omega) (by omega)
      have a2 := ha 2 (by omega) (by omega)
      simp only [okAt, if_true, if_neg (show ¬ (2 : Nat) = 1 by omega)] at a1 a2
      rw [key]
      simp only [checkN, if_true, if_neg n32]
      rw [if_neg (by omega)]
    · rw [key]
      simp only [checkN, if_true, if_neg n32]
      rw [if_pos]
      rcases (show j = 1 ∨ j = 2 by omega) with rfl | rfl
      · simp only [okAt, if_true] at hn; omega
      · simp only [okAt, if_neg (show ¬ (2 : Nat) = 1 by omega)] at hn; omega
    · rw [key]
      simp only [checkN, if_true, if_neg n32]
      rw [if_pos (by omega)]
  · have n42 : ¬ (4 : Nat) = 2 := by omega
    have n43 : ¬ (4 : Nat) = 3 := by omega
    refine ⟨fun hr ha => ?_, fun j j1 j2 hn => ?_, fun hr => ?_⟩
    · have a1 := ha 1 (by omega) (by omega)
      have a2 := ha 2 (by omega) (by omega)
      have a3 := ha 3 (by omega) (by omega)
      simp only [okAt, if_true, if_neg (show ¬ (2 : Nat) = 1 by omega), if_neg (show ¬ (3 : Nat) = 1 by omega)] at a1 a2 a3
      rw [key]
      simp only [checkN, if_true, if_neg n42, if_neg n43]
      rw [if_neg (by omega)]
    · rw [key]
      simp only [checkN, if_true, if_neg n42, if_neg n43]
      rw [if_pos]
      rcases (show j = 1 ∨ j = 2 ∨ j = 3 by omega) with rfl | rfl | rfl
      · simp only [okAt, if_true] at hn; omega
      · simp only [okAt, if_neg (show ¬ (2 : Nat) = 1 by omega)] at hn; omega
      · simp only [okAt, if_neg (show ¬ (3 : Nat) = 1 by omega)] at hn; omega
    · rw [key]
      simp only [checkN, if_true, if_neg n42, if_neg n43]
      rw [if_pos (by omega)]

section
variable {L : List UInt8} {i : Nat} (hi : i < L.length)
include hi
theorem cls_none (h : (128 ≤ at' L i ∧ at' L i < 194) ∨ 245 ≤ at' L i) : validD (L.drop i) = false := by
  rw [utf_lead hi (by omega)]
  have e : firstT (at' L i) = 241 := by
    unfold firstT
    repeat' split
    all_goals first | rfl | (exfalso; omega)
  rw [e]
  simp [checkN]
theorem cls_2 (h1 : 194 ≤ at' L i) (h2 : at' L i ≤ 223) : Cls L i 2 128 191 := by
  have e : firstT (at' L i) = 2 := by
    unfold firstT
    repeat' split
    all_goals first | rfl | (exfalso; omega)
  exact cls_of hi (by omega) (by omega) (by rw [e]) (by rw [e]; rfl) (by rw [e]; rfl)
theorem cls_3a (h1 : at' L i = 224) : Cls L i 3 160 191 := cls_of hi (by omega) (by omega) (by rw [h1]; decide) (by rw [h1]; decide) (by rw [h1]; decide)
theorem cls_3b (h1 : 225 ≤ at' L i) (h2 : at' L i ≤ 239) (h3 : at' L i ≠ 237) : Cls L i 3 128 191 := by
  have e : firstT (at' L i) = 3 := by
    unfold firstT
    repeat' split
    all_goals first | rfl | (exfalso; omega)
  exact cls_of hi (by omega) (by omega) (by rw [e]) (by rw [e]; rfl) (by rw [e]; rfl)
theorem cls_3c (h1 : at' L i = 237) : Cls L i 3 128 159 := cls_of hi (by omega) (by omega) (by rw [h1]; decide) (by rw [h1]; decide) (by rw [h1]; decide)
theorem cls_4a (h1 : at' L i = 240) : Cls L i 4 144 191 := cls_of hi (by omega) (by omega) (by rw [h1]; decide) (by rw [h1]; decide) (by rw [h1]; decide)
theorem cls_4b (h1 : 241 ≤ at' L i) (h2 : at' L i ≤ 243) : Cls L i 4 128 191 := by
  have e : firstT (at' L i) = 4 := by
    unfold firstT
    repeat' split
    all_goals first | rfl | (exfalso; omega)
  exact cls_of hi (by omega) (by omega) (by rw [e]) (by rw [e]; rfl) (by rw [e]; rfl)
theorem cls_4c (h1 : at' L i = 244) : Cls L i 4 128 143 := cls_of hi (by omega) (by omega) (by rw [h1]; decide) (by rw [h1]; decide) (by rw [h1]; decide)
end

end Pt
end Go.Proofs.YtikkfmmdgicigaaDoor
