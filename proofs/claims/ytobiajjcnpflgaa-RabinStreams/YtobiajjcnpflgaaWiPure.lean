/- Pure: numbers, fields and frames as bytes. Conditions: none. -/
import Derived.Test.YtobiajjcnpflgaaGBase
namespace Go.Proofs.Ytobiajjcnpflgaa.Wi

/-- A short number. -/
def var (n : Nat) : List UInt8 := if n < 128 then [UInt8.ofNat n] else UInt8.ofNat (n % 128 + 128) :: var (n / 128)
termination_by n
decreasing_by omega

theorem var_small {n : Nat} (h : n < 128) : var n = [UInt8.ofNat n] := by rw [var, if_pos h]
theorem var_big {n : Nat} (h : 128 ≤ n) : var n = UInt8.ofNat (n % 128 + 128) :: var (n / 128) := by rw [var, if_neg (by omega)]

theorem var_ne (n : Nat) : var n ≠ [] := by
  rw [var]; split <;> simp
theorem var_pos (n : Nat) : 0 < (var n).length := List.length_pos_iff.2 (var_ne n)

theorem var_length (k : Nat) : ∀ n, n < 128 ^ (k + 1) → (var n).length ≤ k + 1 := by
  induction k with
  | zero => intro n hn; rw [var_small (by simpa using hn)]; simp
  | succ k ih =>
    intro n hn
    by_cases h : n < 128
    · rw [var_small h]; simp
    · rw [var_big (by omega), List.length_cons]
      have := ih (n / 128) (by rw [Nat.div_lt_iff_lt_mul (by omega)]; rw [Nat.pow_succ] at hn; exact hn)
      omega

/-- Reading goes on at place i, with the number so far. -/
def rv : Nat → Nat → List UInt8 → Option (Nat × Nat)
  | _, _, [] => none
  | i, acc, x :: xs =>
    if 9 ≤ i then none
    else if 128 ≤ x.toNat then rv (i + 1) (acc + (x.toNat % 128) * 128 ^ i) xs
    else if x.toNat = 0 ∧ 0 < i then none
    else some (acc + x.toNat * 128 ^ i, i + 1)

def readVar (b : List UInt8) : Option (Nat × Nat) := rv 0 0 b

theorem rv_var (m : Nat) : ∀ i acc rest, i + (var m).length ≤ 9 → (i = 0 ∨ 0 < m) → rv i acc (var m ++ rest) = some (acc + m * 128 ^ i, i + (var m).length) := by
  induction m using Nat.strongRecOn with
  | _ m ih =>
    intro i acc rest hl hz
    by_cases h : m < 128
    · rw [var_small h] at hl ⊢
      have e : (UInt8.ofNat m).toNat = m := by simp; omega
      simp only [List.length_cons, List.length_nil] at hl
      simp only [List.cons_append, List.nil_append, rv, e, List.length_cons, List.length_nil]
      rw [if_neg (by omega), if_neg (by omega), if_neg (by omega)]
    · rw [var_big (by omega)] at hl ⊢
      have e : (UInt8.ofNat (m % 128 + 128)).toNat = m % 128 + 128 := by simp; omega
      simp only [List.length_cons] at hl
      simp only [List.cons_append, rv, e, List.length_cons]
      rw [if_neg (by omega), if_pos (by omega), ih (m / 128) (by omega) _ _ _ (by omega) (.inr (by omega))]
      have e2 : (m % 128 + 128) % 128 * 128 ^ i + m / 128 * 128 ^ (i + 1) = m * 128 ^ i := by
        rw [Nat.pow_succ, show (m % 128 + 128) % 128 = m % 128 by omega]
        conv => rhs; rw [← Nat.mod_add_div m 128]
        rw [Nat.add_mul]
        congr 1
        rw [Nat.mul_comm (128 ^ i) 128, ← Nat.mul_assoc, Nat.mul_comm (m / 128) 128]
      rw [Nat.add_assoc acc, e2]
      congr 2
      omega

theorem readVar_var {n : Nat} (h : n < 9223372036854775808) (rest : List UInt8) : readVar (var n ++ rest) = some (n, (var n).length) := by
  have hl : (var n).length ≤ 9 := var_length 8 n (by simpa using h)
  unfold readVar
  rw [rv_var n 0 0 rest (by omega) (.inl rfl)]
  simp

theorem rv_some (b : List UInt8) : ∀ i acc n k, rv i acc b = some (n, k) → ∃ m, n = acc + m * 128 ^ i ∧ i < k ∧ k ≤ 9 ∧ k - i ≤ b.length ∧ b.take (k - i) = var m ∧ m < 128 ^ (k - i) ∧ (i = 0 ∨ 0 < m) := by
  induction b with
  | nil => intro i acc n k h; simp [rv] at h
  | cons x xs ih =>
    intro i acc n k h
    have hx := x.toNat_lt
    unfold rv at h
    split at h
    · cases h
    · split at h
      · obtain ⟨m, h1, h2, h3, h4, h5, h6, h7⟩ := ih _ _ _ _ h
        have hm : 0 < m := by omega
        refine ⟨x.toNat % 128 + 128 * m, ?_, by omega, h3, by simp; omega, ?_, ?_, .inr (by omega)⟩
        · rw [h1, Nat.pow_succ, Nat.add_mul, Nat.add_assoc]
          congr 2
          rw [Nat.mul_comm (128 ^ i) 128, ← Nat.mul_assoc, Nat.mul_comm m 128]
        · rw [var_big (by omega), show (x.toNat % 128 + 128 * m) % 128 + 128 = x.toNat by omega, show (x.toNat % 128 + 128 * m) / 128 = m by omega, show k - i = (k - (i + 1)) + 1 by omega, List.take_succ_cons, h5]
          simp
        · rw [show k - i = (k - (i + 1)) + 1 by omega, Nat.pow_succ]
          omega
      · split at h
        · cases h
        · injection h with h
          injection h with h1 h2
          subst h1 h2
          refine ⟨x.toNat, rfl, by omega, by omega, by simp, ?_, by rw [show i + 1 - i = 1 by omega]; omega, by omega⟩
          rw [show i + 1 - i = 1 by omega, var_small (by omega)]
          simp

structure Read (b : List UInt8) (n k : Nat) : Prop where
  form : b.take k = var n
  pos : 0 < k
  top : k ≤ 9
  le : k ≤ b.length
  fits : n < 9223372036854775808

theorem readVar_some {b : List UInt8} {n k : Nat} (h : readVar b = some (n, k)) : Read b n k := by
  obtain ⟨m, h1, h2, h3, h4, h5, h6, _⟩ := rv_some b 0 0 n k h
  have e : n = m := by simpa using h1
  subst e
  simp only [Nat.sub_zero] at h4 h5 h6
  refine ⟨h5, h2, h3, h4, Nat.lt_of_lt_of_le h6 ?_⟩
  have := Nat.pow_le_pow_right (n := 128) (by omega) h3
  simpa using this

theorem Read.len {b : List UInt8} {n k : Nat} (h : Read b n k) : (var n).length = k := by
  rw [← h.form, List.length_take]
  have := h.le
  omega

/-- What the document looks at: is what was read, written again, the same? -/
theorem readVar_iff {b : List UInt8} {n k : Nat} (hk : k ≤ b.length) (_hk9 : k ≤ 9) (hn : n < 9223372036854775808) : var n = b.take k ↔ readVar b = some (n, k) := by
  constructor
  · intro h
    have h1 := readVar_var hn (b.drop k)
    rw [h, List.take_append_drop] at h1
    rw [h1, List.length_take, Nat.min_eq_left hk]
  · intro h
    exact (readVar_some h).form.symm

/-- One round of the reading. -/
theorem rv_step {b : List UInt8} {i acc : Nat} (hi : i < b.length) (h9 : i < 9) : rv i acc (b.drop i) =
    if 128 ≤ (b.getD i 0).toNat then rv (i + 1) (acc + ((b.getD i 0).toNat % 128) * 128 ^ i) (b.drop (i + 1))
    else if (b.getD i 0).toNat = 0 ∧ 0 < i then none else some (acc + (b.getD i 0).toNat * 128 ^ i, i + 1) := by
  have e : b.getD i 0 = b[i] := by simp [List.getD, hi]
  rw [List.drop_eq_getElem_cons hi, rv, if_neg (by omega), e]

theorem rv_end {b : List UInt8} {i acc : Nat} (h : b.length ≤ i ∨ 9 ≤ i) : rv i acc (b.drop i) = none := by
  cases hd : b.drop i with
  | nil => rfl
  | cons x xs =>
    have : i < b.length := by
      rcases Nat.lt_or_ge i b.length with h | h
      · exact h
      · rw [List.drop_eq_nil_of_le h] at hd; cases hd
    rw [rv, if_pos (by omega)]

/-- A field. -/
def field (b : List UInt8) : Option (List UInt8 × Nat) :=
  match readVar b with
  | none => none
  | some (n, k) => if n ≤ 67108864 ∧ n ≤ b.length - k then some ((b.drop k).take n, k + n) else none

def fieldOf (f : List UInt8) : List UInt8 := var f.length ++ f

structure Field (b f : List UInt8) (k : Nat) : Prop where
  form : b.take k = fieldOf f
  le : k ≤ b.length
  fits : f.length ≤ 67108864
  size : k = (var f.length).length + f.length

theorem field_some {b f : List UInt8} {k : Nat} (h : field b = some (f, k)) : Field b f k := by
  unfold field at h
  split at h
  · cases h
  · rename_i n j hr
    split at h
    · rename_i hn
      injection h with h
      injection h with h1 h2
      subst h1 h2
      have r := readVar_some hr
      have hl : ((b.drop j).take n).length = n := by simp; have := r.le; omega
      refine ⟨?_, by have := r.le; omega, by rw [hl]; exact hn.1, by rw [hl, r.len]⟩
      unfold fieldOf
      rw [hl, ← r.form, List.take_add]
    · cases h

theorem field_of {f : List UInt8} (h : f.length ≤ 67108864) (rest : List UInt8) : field (fieldOf f ++ rest) = some (f, (var f.length).length + f.length) := by
  unfold field fieldOf
  rw [List.append_assoc, readVar_var (by omega)]
  simp only
  rw [if_pos ⟨h, by simp⟩]
  simp

theorem Field.lt {b f : List UInt8} {k : Nat} (h : Field b f k) : 0 < k := by have := h.size; have := var_pos f.length; omega
theorem Field.split {b f : List UInt8} {k : Nat} (h : Field b f k) : b = fieldOf f ++ b.drop k := by
  conv => lhs; rw [← List.take_append_drop k b, h.form]

theorem field_len (f : List UInt8) : (fieldOf f).length = (var f.length).length + f.length := by simp [fieldOf]

/-- n fields and nothing else. -/
def unpack : Nat → List UInt8 → Option (List (List UInt8))
  | 0, b => if b.isEmpty then some [] else none
  | n + 1, b =>
    match field b with
    | none => none
    | some (f, k) => (unpack n (b.drop k)).map (f :: ·)

def pack (fs : List (List UInt8)) : List UInt8 := (fs.map fieldOf).flatten

theorem pack_nil : pack [] = [] := rfl
theorem pack_cons (f : List UInt8) (fs : List (List UInt8)) : pack (f :: fs) = fieldOf f ++ pack fs := by simp [pack]
theorem pack_append (a b : List (List UInt8)) : pack (a ++ b) = pack a ++ pack b := by simp [pack]

theorem unpack_pack (fs : List (List UInt8)) (h : ∀ f ∈ fs, f.length ≤ 67108864) : unpack fs.length (pack fs) = some fs := by
  induction fs with
  | nil => simp [unpack, pack_nil]
  | cons f fs ih =>
    rw [List.length_cons, pack_cons, unpack, field_of (h f (by simp))]
    simp only
    rw [← field_len, List.drop_left, ih (fun g hg => h g (by simp [hg]))]
    rfl

theorem unpack_some (n : Nat) : ∀ b fs, unpack n b = some fs → fs.length = n ∧ pack fs = b := by
  induction n with
  | zero =>
    intro b fs h
    unfold unpack at h
    split at h
    · injection h with h
      subst h
      exact ⟨rfl, by rw [pack_nil]; rename_i e; exact (List.isEmpty_iff.1 e).symm⟩
    · cases h
  | succ n ih =>
    intro b fs h
    unfold unpack at h
    split at h
    · cases h
    · rename_i f k hf
      obtain ⟨gs, hg, rfl⟩ := Option.map_eq_some_iff.1 h
      obtain ⟨h1, h2⟩ := ih _ _ hg
      exact ⟨by simp [h1], by rw [pack_cons, h2, ← (field_some hf).split]⟩

/-- Frames that stand one behind the other: kind, body, place; and the place behind. -/
def frames : Nat → Nat → List UInt8 → List (UInt8 × List UInt8 × Nat) × Nat
  | 0, at', _ => ([], at')
  | _ + 1, at', [] => ([], at')
  | m + 1, at', x :: t =>
    match field t with
    | none => ([], at')
    | some (f, k) => ((x, f, at') :: (frames m (at' + 1 + k) (t.drop k)).1, (frames m (at' + 1 + k) (t.drop k)).2)

def frameOf (x : UInt8) (f : List UInt8) : List UInt8 := x :: fieldOf f
def again (l : List (UInt8 × List UInt8 × Nat)) : List UInt8 := (l.map fun q => frameOf q.1 q.2.1).flatten

theorem again_append (a b : List (UInt8 × List UInt8 × Nat)) : again (a ++ b) = again a ++ again b := by simp [again]

end Go.Proofs.Ytobiajjcnpflgaa.Wi
