/- The document's words are filled byte by byte: plain mathematics. Conditions: none. -/
import Derived.Test.YtjeccooodkogkaaCBlk
namespace Go.Proofs.Ytjeccooodkogkaa
open Go.RowKit

theorem take_getD (bs : List UInt8) (i j : Nat) : (bs.take i).getD j 0 = if j < i then bs.getD j 0 else 0 := by
  simp only [List.getD_eq_getElem?_getD, List.getElem?_take]
  split <;> rfl

theorem wordAt_take {bs : List UInt8} {i t : Nat} (h : t ≠ i / 4) : Ch.wordAt (bs.take (i + 1)) t = Ch.wordAt (bs.take i) t := by
  unfold Ch.wordAt
  simp only [take_getD]
  have e0 : (4 * t < i + 1) = (4 * t < i) := by apply propext; omega
  have e1 : (4 * t + 1 < i + 1) = (4 * t + 1 < i) := by apply propext; omega
  have e2 : (4 * t + 2 < i + 1) = (4 * t + 2 < i) := by apply propext; omega
  have e3 : (4 * t + 3 < i + 1) = (4 * t + 3 < i) := by apply propext; omega
  simp only [e0, e1, e2, e3]

theorem wordAt_or (bs : List UInt8) (i : Nat) : bits .or .u32 (Ch.wordAt (bs.take i) (i / 4)) (((bs.getD i 0).toNat : Int) * 2 ^ (8 * (i % 4))) = Ch.wordAt (bs.take (i + 1)) (i / 4) := by
  obtain ⟨t, r, hr, rfl⟩ : ∃ t r, r < 4 ∧ i = 4 * t + r := ⟨i / 4, i % 4, by omega, by omega⟩
  rw [show (4 * t + r) / 4 = t by omega, show (4 * t + r) % 4 = r by omega]
  unfold Ch.wordAt
  simp only [take_getD]
  have hz : ((0 : UInt8).toNat : Int) = 0 := rfl
  match r, hr with
  | 0, _ =>
    simp only [Nat.add_zero, show ¬ 4 * t < 4 * t by omega, show ¬ 4 * t + 1 < 4 * t by omega, show ¬ 4 * t + 2 < 4 * t by omega, show ¬ 4 * t + 3 < 4 * t by omega, show 4 * t < 4 * t + 1 by omega, show ¬ 4 * t + 1 < 4 * t + 1 by omega, show ¬ 4 * t + 2 < 4 * t + 1 by omega, show ¬ 4 * t + 3 < 4 * t + 1 by omega, if_true, if_false]
    unfold Ch.word
    simp only [hz]
    generalize hx : bs.getD (4 * t) 0 = x
    have q := x.toNat_lt
    generalize x.toNat = a at *
    exact or_add' 0 a 8 256 _ _ _ (by decide) (by omega) (by omega) (by omega) (by omega) (by omega)
  | 1, _ =>
    simp only [show 4 * t < 4 * t + 1 by omega, show ¬ 4 * t + 1 < 4 * t + 1 by omega, show ¬ 4 * t + 2 < 4 * t + 1 by omega, show ¬ 4 * t + 3 < 4 * t + 1 by omega, show 4 * t < 4 * t + 1 + 1 by omega, show 4 * t + 1 < 4 * t + 1 + 1 by omega, show ¬ 4 * t + 2 < 4 * t + 1 + 1 by omega, show ¬ 4 * t + 3 < 4 * t + 1 + 1 by omega, if_true, if_false]
    unfold Ch.word
    simp only [hz]
    generalize hx : bs.getD (4 * t) 0 = x
    generalize hy : bs.getD (4 * t + 1) 0 = y
    have q := x.toNat_lt
    have q1 := y.toNat_lt
    generalize x.toNat = a at *
    generalize y.toNat = b at *
    rw [bits_or_comm]
    exact or_add' b a 8 256 _ _ _ (by decide) (by omega) (by omega) (by omega) (by omega) (by omega)
  | 2, _ =>
    simp only [show 4 * t < 4 * t + 2 by omega, show 4 * t + 1 < 4 * t + 2 by omega, show ¬ 4 * t + 2 < 4 * t + 2 by omega, show ¬ 4 * t + 3 < 4 * t + 2 by omega, show 4 * t < 4 * t + 2 + 1 by omega, show 4 * t + 1 < 4 * t + 2 + 1 by omega, show 4 * t + 2 < 4 * t + 2 + 1 by omega, show ¬ 4 * t + 3 < 4 * t + 2 + 1 by omega, if_true, if_false]
    unfold Ch.word
    simp only [hz]
    generalize hx : bs.getD (4 * t) 0 = x
    generalize hy : bs.getD (4 * t + 1) 0 = y
    generalize hu : bs.getD (4 * t + 2) 0 = u
    have q := x.toNat_lt
    have q1 := y.toNat_lt
    have q2 := u.toNat_lt
    generalize x.toNat = a at *
    generalize y.toNat = b at *
    generalize u.toNat = c at *
    rw [bits_or_comm]
    exact or_add' c (a + b * 256) 16 65536 _ _ _ (by decide) (by omega) (by omega) (by omega) (by omega) (by omega)
  | 3, _ =>
    simp only [show 4 * t < 4 * t + 3 by omega, show 4 * t + 1 < 4 * t + 3 by omega, show 4 * t + 2 < 4 * t + 3 by omega, show ¬ 4 * t + 3 < 4 * t + 3 by omega, show 4 * t < 4 * t + 3 + 1 by omega, show 4 * t + 1 < 4 * t + 3 + 1 by omega, show 4 * t + 2 < 4 * t + 3 + 1 by omega, show 4 * t + 3 < 4 * t + 3 + 1 by omega, if_true, if_false]
    unfold Ch.word
    simp only [hz]
    generalize hx : bs.getD (4 * t) 0 = x
    generalize hy : bs.getD (4 * t + 1) 0 = y
    generalize hu : bs.getD (4 * t + 2) 0 = u
    generalize hv : bs.getD (4 * t + 3) 0 = v
    have q := x.toNat_lt
    have q1 := y.toNat_lt
    have q2 := u.toNat_lt
    have q3 := v.toNat_lt
    generalize x.toNat = a at *
    generalize y.toNat = b at *
    generalize u.toNat = c at *
    generalize v.toNat = d at *
    rw [bits_or_comm]
    exact or_add' d (a + b * 256 + c * 65536) 24 16777216 _ _ _ (by decide) (by omega) (by omega) (by omega) (by omega) (by omega)

theorem map_range_set {n t : Nat} (f g : Nat → Int) (ht : t < n) (h : ∀ s, s ≠ t → g s = f s) : ((List.range n).map f).set t (g t) = (List.range n).map g := by
  apply List.ext_getElem?
  intro s
  rw [List.getElem?_set]
  by_cases e : t = s
  · subst e; simp [ht]
  · rw [if_neg e]
    simp only [List.getElem?_map]
    by_cases hs : s < n
    · simp [hs, h s (fun x => e x.symm)]
    · simp [hs]

theorem start_key (key nonce : List UInt8) (c : Int) {i : Nat} (hi : i < 32) : (Ch.start (key.take i) nonce c).set (4 + i / 4) (Ch.wordAt (key.take (i + 1)) (i / 4)) = Ch.start (key.take (i + 1)) nonce c := by
  unfold Ch.start
  rw [List.set_append_right _ _ (by simp [Ch.four]), show 4 + i / 4 - Ch.four.length = i / 4 by simp [Ch.four], List.set_append_left _ _ (by simp; omega),
    map_range_set (Ch.wordAt (key.take i)) (Ch.wordAt (key.take (i + 1))) (by omega) (fun s hs => wordAt_take hs)]
theorem start_nonce (key nonce : List UInt8) (c : Int) {i : Nat} (hi : i < 12) : (Ch.start key (nonce.take i) c).set (13 + i / 4) (Ch.wordAt (nonce.take (i + 1)) (i / 4)) = Ch.start key (nonce.take (i + 1)) c := by
  unfold Ch.start
  rw [List.set_append_right _ _ (by simp [Ch.four]; omega), show 13 + i / 4 - Ch.four.length = 9 + i / 4 by simp [Ch.four]; omega, List.set_append_right _ _ (by simp; omega), List.length_map, List.length_range, show 9 + i / 4 - 8 = i / 4 + 1 by omega, List.set_cons_succ,
    map_range_set (Ch.wordAt (nonce.take i)) (Ch.wordAt (nonce.take (i + 1))) (by omega) (fun s hs => wordAt_take hs)]
theorem start_key_get (key nonce : List UInt8) (c : Int) {t : Nat} (ht : t < 8) : (Ch.start key nonce c).getD (4 + t) 0 = Ch.wordAt key t := by
  unfold Ch.start
  rw [List.getD_eq_getElem?_getD, List.getElem?_append_right (by simp [Ch.four]), show 4 + t - Ch.four.length = t by simp [Ch.four], List.getElem?_append_left (by simpa using ht)]
  simp [ht]
theorem start_nonce_get (key nonce : List UInt8) (c : Int) {t : Nat} (ht : t < 3) : (Ch.start key nonce c).getD (13 + t) 0 = Ch.wordAt nonce t := by
  unfold Ch.start
  rw [List.getD_eq_getElem?_getD, List.getElem?_append_right (by simp [Ch.four]; omega), show 13 + t - Ch.four.length = 9 + t by simp [Ch.four]; omega, List.getElem?_append_right (by simp; omega), List.length_map, List.length_range, show 9 + t - 8 = t + 1 by omega, List.getElem?_cons_succ]
  simp [ht]
theorem start_none (c : Int) : Ch.start [] [] c = (((((zpad []).set 0 1634760805).set 1 857760878).set 2 2036477234).set 3 1797285236).set 12 c := by
  have h : ∀ t, Ch.wordAt [] t = 0 := fun t => by simp [Ch.wordAt, Ch.word]
  simp [Ch.start, Ch.four, zpad, h, List.range_succ, List.replicate_succ]

end Go.Proofs.Ytjeccooodkogkaa
