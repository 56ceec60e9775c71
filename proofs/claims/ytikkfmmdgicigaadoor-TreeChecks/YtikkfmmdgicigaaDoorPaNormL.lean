/- Pure: the path that a text means. Conditions: none. -/
import Derived.Test.YtikkfmmdgicigaaDoorPaLast
namespace Go.Proofs.YtikkfmmdgicigaaDoor
namespace Pt

/-- What is left, a slash ahead of each piece, behind one more piece. -/
def stepN (L p : List UInt8) : Option (List UInt8) :=
  if p = [] ∨ p = [46] then some L else if p = [46, 46] then (if lastS L < 0 then none else some (L.take (lastS L).toNat)) else some (L ++ 47 :: p)
def runN : List UInt8 → List (List UInt8) → Option (List UInt8)
  | L, [] => some L
  | L, p :: ps => (stepN L p).bind fun L' => runN L' ps

theorem runN_append : ∀ (L : List UInt8) (a b : List (List UInt8)), runN L (a ++ b) = (runN L a).bind fun L' => runN L' b
  | L, [], b => rfl
  | L, p :: a, b => by
    rw [List.cons_append]
    show (stepN L p).bind (fun L' => runN L' (a ++ b)) = ((stepN L p).bind fun L' => runN L' a).bind fun L' => runN L' b
    cases stepN L p with
    | none => rfl
    | some L' => exact runN_append L' a b

theorem runN_snoc {a : List (List UInt8)} {L p : List UInt8} (h : runN [] a = some L) : runN [] (a ++ [p]) = stepN L p := by
  rw [runN_append, h]
  show (stepN L p).bind _ = _
  cases stepN L p <;> rfl

/-- It begins with a slash, or is empty. -/
def Led (L : List UInt8) : Prop := L = [] ∨ ∃ t, L = 47 :: t

theorem stepN_led {L p L' : List UInt8} (h : stepN L p = some L') (hl : Led L) : Led L' := by
  unfold stepN at h
  split at h
  · obtain rfl := Option.some.inj h; exact hl
  · split at h
    · split at h
      · cases h
      · obtain rfl := Option.some.inj h
        rcases hl with rfl | ⟨t, rfl⟩
        · exact .inl (by simp)
        · cases hk : (lastS (47 :: t)).toNat with
          | zero => exact .inl (by simp)
          | succ k => exact .inr ⟨t.take k, by simp⟩
    · obtain rfl := Option.some.inj h
      rcases hl with rfl | ⟨t, rfl⟩
      · exact .inr ⟨p, rfl⟩
      · exact .inr ⟨t ++ 47 :: p, rfl⟩

theorem runN_led : ∀ {ps : List (List UInt8)} {L L' : List UInt8}, runN L ps = some L' → Led L → Led L'
  | [], L, L', h, hl => by obtain rfl := Option.some.inj h; exact hl
  | p :: ps, L, L', h, hl => by
    unfold runN at h
    cases hs : stepN L p with
    | none => rw [hs] at h; cases h
    | some L2 => rw [hs] at h; exact runN_led (ps := ps) h (stepN_led hs hl)

theorem trim_led {L : List UInt8} (h : Led L) : Lib.trimPrefix L [47] = L.drop 1 := by
  rcases h with rfl | ⟨t, rfl⟩
  · rfl
  · simp [Lib.trimPrefix, Lib.hasPrefix]

/-- The path that it means. -/
def normal (l : List UInt8) : Option (List UInt8) := (runN [] (pcs l)).bind fun L => if good (L.drop 1) then some (L.drop 1) else none

/-! By pieces. -/
def stepK (ps : List (List UInt8)) (p : List UInt8) : Option (List (List UInt8)) :=
  if p = [] ∨ p = [46] then some ps else if p = [46, 46] then (if ps = [] then none else some ps.dropLast) else some (ps ++ [p])
def runK : List (List UInt8) → List (List UInt8) → Option (List (List UInt8))
  | K, [] => some K
  | K, p :: ps => (stepK K p).bind fun K' => runK K' ps

def flat : List (List UInt8) → List UInt8
  | [] => []
  | p :: q => 47 :: p ++ flat q

theorem flat_append : ∀ a b, flat (a ++ b) = flat a ++ flat b
  | [], _ => rfl
  | p :: a, b => by
    show 47 :: p ++ flat (a ++ b) = 47 :: p ++ flat a ++ flat b
    rw [flat_append a b, List.append_assoc]
theorem flat_snoc (a : List (List UInt8)) (p : List UInt8) : flat (a ++ [p]) = flat a ++ 47 :: p := by
  rw [flat_append]; simp [flat]
theorem flat_joins : ∀ {ps : List (List UInt8)}, ps ≠ [] → flat ps = 47 :: joins ps
  | [], h => (h rfl).elim
  | [p], _ => by simp [flat, joins]
  | p :: q :: r, _ => by
    show 47 :: p ++ flat (q :: r) = _
    rw [flat_joins (ps := q :: r) (by simp), joins_cons p (q := q :: r) (by simp), List.cons_append]
theorem flat_drop (ps : List (List UInt8)) : (flat ps).drop 1 = joins ps := by
  cases ps with
  | nil => rfl
  | cons a b => rw [flat_joins (by simp)]; rfl

theorem step_flat {K : List (List UInt8)} {p : List UInt8} (h : ∀ x ∈ K, 47 ∉ x) : stepN (flat K) p = (stepK K p).map flat := by
  unfold stepN stepK
  by_cases h1 : p = [] ∨ p = [46]
  · rw [if_pos h1, if_pos h1]; rfl
  · rw [if_neg h1, if_neg h1]
    by_cases h2 : p = [46, 46]
    · rw [if_pos h2, if_pos h2]
      by_cases h3 : K = []
      · subst h3
        rw [if_pos (show lastS (flat []) < 0 by decide), if_pos rfl]
        rfl
      · obtain ⟨K', q, rfl⟩ : ∃ K' q, K = K' ++ [q] := ⟨K.dropLast, K.getLast h3, (List.dropLast_concat_getLast h3).symm⟩
        rw [if_neg h3, flat_snoc, lastS_at _ (h q (by simp)), if_neg (by omega)]
        simp
    · rw [if_neg h2, if_neg h2]
      simp [flat_snoc]

theorem stepK_noslash {K K' : List (List UInt8)} {p : List UInt8} (h : ∀ x ∈ K, 47 ∉ x) (hp : 47 ∉ p) (hs : stepK K p = some K') : ∀ x ∈ K', 47 ∉ x := by
  unfold stepK at hs
  split at hs
  · obtain rfl := Option.some.inj hs; exact h
  · split at hs
    · split at hs
      · cases hs
      · obtain rfl := Option.some.inj hs
        exact fun x hx => h x (List.dropLast_subset K hx)
    · obtain rfl := Option.some.inj hs
      intro x hx
      rcases List.mem_append.1 hx with hx | hx
      · exact h x hx
      · rw [List.mem_singleton.1 hx]; exact hp

theorem run_flat : ∀ {ps K : List (List UInt8)}, (∀ x ∈ K, 47 ∉ x) → (∀ x ∈ ps, 47 ∉ x) → runN (flat K) ps = (runK K ps).map flat
  | [], _, _, _ => rfl
  | p :: ps, K, h, h2 => by
    unfold runN runK
    rw [step_flat h]
    cases hs : stepK K p with
    | none => rfl
    | some K' => exact run_flat (ps := ps) (K := K') (stepK_noslash h (h2 p (by simp)) hs) (fun x hx => h2 x (by simp [hx]))

theorem normal_eq (l : List UInt8) : normal l = (runK [] (pcs l)).bind fun K => if good (joins K) then some (joins K) else none := by
  unfold normal
  have := run_flat (ps := pcs l) (K := []) (by simp) (fun x hx => pcs_mem hx)
  rw [show flat [] = [] from rfl] at this
  rw [this]
  cases runK [] (pcs l) with
  | none => rfl
  | some K =>
    show (if good ((flat K).drop 1) then some ((flat K).drop 1) else none) = (if good (joins K) then some (joins K) else none)
    rw [flat_drop]

theorem runK_parts : ∀ {ps K : List (List UInt8)}, (∀ p ∈ ps, part p = true) → runK K ps = some (K ++ ps)
  | [], K, _ => by simp [runK]
  | p :: ps, K, h => by
    have hd := part_nodot (h p (by simp))
    unfold runK stepK
    rw [if_neg (by simp [hd]), if_neg hd.2.2]
    show runK (K ++ [p]) ps = _
    rw [runK_parts (ps := ps) (fun x hx => h x (by simp [hx]))]
    simp

/-- A path means itself. -/
theorem normal_good {l : List UInt8} (h : good l = true) : normal l = some l := by
  rw [normal_eq, runK_parts (good_iff.1 h).2, List.nil_append]
  show (if good (joins (pcs l)) then some (joins (pcs l)) else none) = _
  rw [joins_pcs, if_pos h]

theorem normal_is {l n : List UInt8} (h : normal l = some n) : good n = true := by
  unfold normal at h
  cases hr : runN [] (pcs l) with
  | none => rw [hr] at h; cases h
  | some L =>
    rw [hr] at h
    have h' : (if good (L.drop 1) then some (L.drop 1) else none) = some n := h
    split at h'
    · rename_i hg
      obtain rfl := Option.some.inj h'
      exact hg
    · cases h'

/-- How long what is left grows. -/
theorem stepN_len {L p L' : List UInt8} (h : stepN L p = some L') : L'.length ≤ L.length + p.length + 1 := by
  unfold stepN at h
  split at h
  · obtain rfl := Option.some.inj h; omega
  · split at h
    · split at h
      · cases h
      · obtain rfl := Option.some.inj h
        simp; omega
    · obtain rfl := Option.some.inj h
      simp; omega

end Pt
end Go.Proofs.YtikkfmmdgicigaaDoor
