/- Pure: the pieces of a text between its slashes, parts and paths. Conditions: none. -/
import Derived.Lib.ValidU
import Derived.Lib.IndexMore
import Derived.Lib.Bytealg
namespace Go.Proofs.YtikkfmmdgicigaaDoor
namespace Pt

/-- What stands between the slashes. -/
def pcs : List UInt8 → List (List UInt8)
  | [] => [[]]
  | c :: l => if c = 47 then [] :: pcs l else match pcs l with
    | [] => [[c]]
    | p :: q => (c :: p) :: q

def joins : List (List UInt8) → List UInt8
  | [] => []
  | [p] => p
  | p :: q :: r => p ++ 47 :: joins (q :: r)

theorem pcs_ne : ∀ l, pcs l ≠ []
  | [] => by simp [pcs]
  | c :: l => by
    unfold pcs
    split
    · simp
    · split <;> simp

theorem pcs_slash (l : List UInt8) : pcs (47 :: l) = [] :: pcs l := by simp [pcs]

theorem pcs_cons {c : UInt8} (h : c ≠ 47) (l : List UInt8) : ∃ p q, pcs l = p :: q ∧ pcs (c :: l) = (c :: p) :: q := by
  rcases hp : pcs l with _ | ⟨p, q⟩
  · exact (pcs_ne l hp).elim
  · exact ⟨p, q, rfl, by simp [pcs, h, hp]⟩

theorem pcs_no : ∀ {l : List UInt8}, 47 ∉ l → pcs l = [l]
  | [], _ => rfl
  | c :: l, h => by
    have hc : c ≠ 47 := fun e => h (by simp [e])
    obtain ⟨p, q, h1, h2⟩ := pcs_cons hc l
    rw [pcs_no (fun e => h (by simp [e]))] at h1
    rw [h2]
    cases h1
    rfl

theorem pcs_cut : ∀ {a : List UInt8} (b : List UInt8), 47 ∉ a → pcs (a ++ 47 :: b) = a :: pcs b
  | [], b, _ => pcs_slash b
  | c :: a, b, h => by
    have hc : c ≠ 47 := fun e => h (by simp [e])
    obtain ⟨p, q, h1, h2⟩ := pcs_cons hc (a ++ 47 :: b)
    rw [pcs_cut b (fun e => h (by simp [e]))] at h1
    rw [List.cons_append, h2]
    cases h1
    rfl

theorem pcs_mem : ∀ {l p : List UInt8}, p ∈ pcs l → 47 ∉ p
  | [], p, h => by
    simp [pcs] at h
    subst h; simp
  | c :: l, p, h => by
    by_cases hc : c = 47
    · subst hc
      rw [pcs_slash] at h
      rcases List.mem_cons.1 h with rfl | h
      · simp
      · exact pcs_mem h
    · obtain ⟨p0, q, h1, h2⟩ := pcs_cons hc l
      rw [h2] at h
      rcases List.mem_cons.1 h with rfl | h
      · have := pcs_mem (l := l) (p := p0) (by rw [h1]; simp)
        intro hm
        rcases List.mem_cons.1 hm with e | e
        · exact hc e.symm
        · exact this e
      · exact pcs_mem (l := l) (by rw [h1]; simp [h])

theorem joins_cons (p : List UInt8) {q : List (List UInt8)} (h : q ≠ []) : joins (p :: q) = p ++ 47 :: joins q := by
  cases q with
  | nil => exact (h rfl).elim
  | cons a b => rfl

theorem joins_pcs : ∀ l, joins (pcs l) = l
  | [] => rfl
  | c :: l => by
    by_cases hc : c = 47
    · subst hc
      rw [pcs_slash, joins_cons _ (pcs_ne l), joins_pcs l]
      rfl
    · obtain ⟨p, q, h1, h2⟩ := pcs_cons hc l
      have ih := joins_pcs l
      rw [h1] at ih
      rw [h2]
      cases q with
      | nil =>
        simp only [joins] at ih ⊢
        rw [ih]
      | cons a b =>
        simp only [joins] at ih ⊢
        rw [List.cons_append, ih]

theorem pcs_joins : ∀ {ps : List (List UInt8)}, ps ≠ [] → (∀ p ∈ ps, 47 ∉ p) → pcs (joins ps) = ps
  | [], h, _ => (h rfl).elim
  | [p], _, h => pcs_no (h p (by simp))
  | p :: q :: r, _, h => by
    rw [joins_cons _ (by simp), pcs_cut _ (h p (by simp)), pcs_joins (by simp) (fun x hx => h x (by simp [hx]))]

theorem pcs_inj {a b : List UInt8} (h : pcs a = pcs b) : a = b := by rw [← joins_pcs a, h, joins_pcs b]

/-- How long parts are together, a slash ahead of each. -/
def tot : List (List UInt8) → Nat
  | [] => 0
  | p :: q => p.length + 1 + tot q

theorem tot_append : ∀ (a b : List (List UInt8)), tot (a ++ b) = tot a + tot b
  | [], b => by simp [tot]
  | p :: a, b => by
    rw [List.cons_append]
    simp only [tot]
    rw [tot_append a b]
    omega

theorem joins_len : ∀ {ps : List (List UInt8)}, ps ≠ [] → (joins ps).length + 1 = tot ps
  | [], h => (h rfl).elim
  | [p], _ => by simp [joins, tot]
  | p :: q :: r, _ => by
    rw [joins_cons _ (by simp), List.length_append, List.length_cons]
    have := joins_len (ps := q :: r) (by simp)
    simp only [tot] at this ⊢
    omega

theorem pcs_tot (l : List UInt8) : tot (pcs l) = l.length + 1 := by
  rw [← joins_len (pcs_ne l), joins_pcs]

theorem len_tot : ∀ (ps : List (List UInt8)), ps.length ≤ tot ps
  | [] => by simp [tot]
  | p :: q => by
    have := len_tot q
    simp only [tot, List.length_cons]
    omega

/-- May it be a link's? -/
def txt (l : List UInt8) (most : Int) : Bool := !(l == []) && (decide ((l.length : Int) ≤ most) && (Lib.validD l && decide (Lib.indexByte l 0 < 0)))
/-- Is it a part? -/
def part (l : List UInt8) : Bool := txt l 120 && (decide (Lib.indexByte l 47 < 0) && (!(l == [46]) && !(l == [46, 46])))
/-- Is it a path? -/
def good (l : List UInt8) : Bool := decide (l.length ≤ 400) && (pcs l).all part
/-- A path's parts. -/
def split (l : List UInt8) : List (List UInt8) := if good l then pcs l else []

theorem index_mem : ∀ {l : List UInt8} {c : UInt8}, Lib.indexByte l c < 0 ↔ c ∉ l
  | [], c => by simp [Lib.indexByte]
  | b :: l, c => by
    have ih := index_mem (l := l) (c := c)
    have hge := Lib.indexByte_ge l c
    unfold Lib.indexByte
    by_cases hb : b = c
    · subst hb; simp
    · simp only [beq_iff_eq, hb, if_false]
      have hne : c ≠ b := fun e => hb e.symm
      split
      · rename_i h
        have : Lib.indexByte l c < 0 := by omega
        simp [hne, ih.1 this]
      · rename_i h
        have : ¬ Lib.indexByte l c < 0 := by omega
        have h2 : c ∈ l := by
          rcases Classical.em (c ∈ l) with e | e
          · exact e
          · exact (this (ih.2 e)).elim
        simp [h2]
        omega

theorem part_len {l : List UInt8} (h : part l = true) : 1 ≤ l.length ∧ l.length ≤ 120 := by
  simp only [part, txt, Bool.and_eq_true, decide_eq_true_eq, Bool.not_eq_true', beq_eq_false_iff_ne] at h
  have h1 := h.1.1
  have h2 := h.1.2.1
  refine ⟨?_, by omega⟩
  rcases l with _ | ⟨a, b⟩
  · exact (h1 rfl).elim
  · simp
theorem part_noslash {l : List UInt8} (h : part l = true) : 47 ∉ l := by
  simp only [part, txt, Bool.and_eq_true, decide_eq_true_eq] at h
  exact index_mem.1 h.2.1
theorem part_nodot {l : List UInt8} (h : part l = true) : l ≠ [] ∧ l ≠ [46] ∧ l ≠ [46, 46] := by
  simp only [part, txt, Bool.and_eq_true, Bool.not_eq_true', beq_eq_false_iff_ne] at h
  exact ⟨h.1.1, h.2.2.1, h.2.2.2⟩

theorem good_iff {l : List UInt8} : good l = true ↔ l.length ≤ 400 ∧ ∀ p ∈ pcs l, part p = true := by
  simp [good]
theorem good_len {l : List UInt8} (h : good l = true) : l.length ≤ 400 := (good_iff.1 h).1
theorem good_ne {l : List UInt8} (h : good l = true) : l ≠ [] := by
  rintro rfl
  have := (good_iff.1 h).2 [] (by simp [pcs])
  have := part_len this
  simp at this

/-- A path of parts. -/
theorem good_joins {ps : List (List UInt8)} (hne : ps ≠ []) (h : ∀ p ∈ ps, part p = true) : good (joins ps) = decide ((joins ps).length ≤ 400) := by
  unfold good
  rw [pcs_joins hne (fun p hp => part_noslash (h p hp))]
  simp only [Bool.and_eq_left_iff_imp]
  intro _
  exact List.all_eq_true.2 h

end Pt
end Go.Proofs.YtikkfmmdgicigaaDoor
