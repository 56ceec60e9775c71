/- What a block says: a pure account; that a block says its header. Conditions: none. -/
import Derived.Test.YtemfelonfokcnaaUsPure
namespace Go.Proofs.Ytemfelonfokcnaa
open Go.RowKit

namespace Us
def fld (l : By) : By := l.takeWhile fun b => b != 0
def octv (l : By) : Nat := l.foldl (fun n c => n * 8 + c.toNat % 8) 0
def digit (c : UInt8) : Bool := decide (48 ≤ c.toNat) && decide (c.toNat ≤ 55)
def numv (l : By) : Int := if l.all digit = true then ((l.foldl (fun n c => 8 * n + (c.toNat - 48)) 0 : Nat) : Int) else -1
def cut (b : By) (o n : Nat) : By := (b.drop o).take n
def str (l : By) : ByteArray := ⟨l.toArray⟩
theorem str_list (l : By) : (str l).data.toList = l := rfl
theorem list_str (s : ByteArray) : str s.data.toList = s := rfl

def seemP (b : By) : Hd :=
  ⟨str (join (fld (cut b 345 155)) (fld (cut b 0 100))), octv (cut b 100 7), octv (cut b 108 7), octv (cut b 116 7), octv (cut b 124 11), octv (cut b 136 11), b.getD 156 0, str (fld (cut b 157 100))⟩
def seemR (b : By) : Hd :=
  ⟨str (join (fld (cut b 345 155)) (fld (cut b 0 100))), numv (cut b 100 7), numv (cut b 108 7), numv (cut b 116 7), numv (cut b 124 11), numv (cut b 136 11), b.getD 156 0, str (fld (cut b 157 100))⟩

theorem spot_some {l : By} {i : Nat} (h : spot l = some i) : isSpot l i = true ∧ ∀ j, j < i → isSpot l j = false := by
  unfold spot at h
  rw [List.find?_range_eq_some] at h
  exact ⟨h.1, fun j hj => by simpa using h.2.2 j hj⟩
theorem spot_none {l : By} (h : spot l = none) : ∀ j, isSpot l j = false := by
  unfold spot at h
  rw [List.find?_eq_none] at h
  intro j
  by_cases hj : j < l.length
  · simpa using h j (List.mem_range.2 hj)
  · have : l[j]? = none := List.getElem?_eq_none (by omega)
    simp [isSpot, this]
theorem spot_at {l : By} {i : Nat} (h1 : isSpot l i = true) (h2 : ∀ j, j < i → isSpot l j = false) : spot l = some i := by
  unfold spot
  rw [List.find?_range_eq_some]
  refine ⟨h1, ?_, fun j hj => by simp [h2 j hj]⟩
  rw [List.mem_range]
  have : l[i]? = some 47 := by
    unfold isSpot at h1; simp at h1; exact h1.1
  exact (List.getElem?_eq_some_iff.1 this).1
theorem spot_no {l : By} (h : ∀ j, isSpot l j = false) : spot l = none := by
  unfold spot
  rw [List.find?_eq_none]
  intro j _
  simp [h j]
theorem isSpot_iff {l : By} {i : Nat} : isSpot l i = true ↔ l[i]? = some 47 ∧ 1 ≤ i ∧ i ≤ 155 ∧ i + 1 < l.length ∧ l.length ≤ i + 101 := by
  unfold isSpot
  simp

structure Parts (l q nm : By) : Prop where
  ql : q.length ≤ 155
  nl : nm.length ≤ 100
  ne : nm ≠ []
  join : join q nm = l
  long : q ≠ [] → 100 < l.length
  short : q = [] → nm = l ∧ l.length ≤ 100

theorem cut_at {l : By} {i : Nat} {c : UInt8} (h : l[i]? = some c) : l.take i ++ c :: l.drop (i + 1) = l := by
  obtain ⟨hl, he⟩ := List.getElem?_eq_some_iff.1 h
  subst he
  rw [List.getElem_cons_drop, List.take_append_drop]

theorem parts_of {l q nm : By} (h : parted l = some (q, nm)) : Parts l q nm := by
  unfold parted at h
  split at h
  · rename_i hl
    split at h
    · cases h
    · rename_i hne
      cases h
      exact ⟨by simp, hl, hne, by simp [join], fun h => (h rfl).elim, fun _ => ⟨rfl, hl⟩⟩
  · rename_i hl
    rw [Option.map_eq_some_iff] at h
    obtain ⟨i, hi, he⟩ := h
    cases he
    obtain ⟨h1, h2, h3, h4, h5⟩ := isSpot_iff.1 (spot_some hi).1
    have hne : l.take i ≠ [] := fun e => by
      have h6 : (l.take i).length = 0 := by rw [e]; rfl
      rw [List.length_take] at h6
      omega
    refine ⟨by simp; omega, by simp; omega, fun e => ?_, ?_, fun _ => by omega, fun e => (hne e).elim⟩
    · have h6 : (l.drop (i + 1)).length = 0 := by rw [e]; rfl
      rw [List.length_drop] at h6
      omega
    · unfold Us.join
      rw [if_neg hne]
      exact cut_at h1

theorem clean_take {l : By} (h : clean l = true) (n : Nat) : clean (l.take n) = true := by
  unfold clean at *
  rw [List.all_eq_true] at *
  exact fun x hx => h x (List.mem_of_mem_take hx)
theorem clean_drop {l : By} (h : clean l = true) (n : Nat) : clean (l.drop n) = true := by
  unfold clean at *
  rw [List.all_eq_true] at *
  exact fun x hx => h x (List.mem_of_mem_drop hx)
theorem parts_clean {l q nm : By} (hc : clean l = true) (h : parted l = some (q, nm)) : clean q = true ∧ clean nm = true := by
  unfold parted at h
  split at h
  · split at h
    · cases h
    · cases h
      exact ⟨rfl, hc⟩
  · rw [Option.map_eq_some_iff] at h
    obtain ⟨i, _, he⟩ := h
    cases he
    exact ⟨clean_take hc _, clean_drop hc _⟩

theorem ne_zero {b : UInt8} (h : cleanB b = true) : (b != 0) = true := by
  unfold cleanB at h
  simp at h ⊢
  intro e
  subst e
  simp at h

theorem fld_txt {s : By} (hc : clean s = true) (n : Nat) : fld (txt s n) = s := by
  unfold fld txt zs
  unfold clean at hc
  rw [List.all_eq_true] at hc
  rw [List.takeWhile_append_of_pos (fun x hx => ne_zero (hc x hx))]
  cases n - s.length <;> simp [List.replicate_succ]

theorem digit_val (n : Nat) : (UInt8.ofNat (48 + n % 8)).toNat = 48 + n % 8 := by simp; omega

theorem octv_oct (d : Nat) : ∀ n, n < 8 ^ d → octv (oct d n) = n := by
  induction d with
  | zero => intro n h; simp at h; subst h; rfl
  | succ d ih =>
    intro n h
    have h1 := ih (n / 8) (by rw [Nat.pow_succ] at h; exact Nat.div_lt_of_lt_mul (by omega))
    unfold octv at *
    rw [oct, List.foldl_append, h1]
    simp only [List.foldl_cons, List.foldl_nil, digit_val]
    omega

theorem digits (d : Nat) : ∀ n, (oct d n).all digit = true := by
  induction d with
  | zero => intro n; rfl
  | succ d ih =>
    intro n
    rw [oct, List.all_append, ih]
    simp [digit]
    omega

theorem numv_oct (d : Nat) (n : Nat) (h : n < 8 ^ d) : numv (oct d n) = (n : Int) := by
  unfold numv
  rw [if_pos (digits d n)]
  congr 1
  induction d generalizing n with
  | zero => simp at h; subst h; rfl
  | succ d ih =>
    have h1 := ih (n / 8) (by rw [Nat.pow_succ] at h; exact Nat.div_lt_of_lt_mul (by omega))
    rw [oct, List.foldl_append, h1]
    simp only [List.foldl_cons, List.foldl_nil, digit_val]
    omega
end Us

end Go.Proofs.Ytemfelonfokcnaa
