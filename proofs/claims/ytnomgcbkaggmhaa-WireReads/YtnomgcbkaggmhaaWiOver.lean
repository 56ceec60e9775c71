/- Over on a piece of a row; calls of both Readers side by side. Conditions: the row is short. -/
import Derived.Test.YtnomgcbkaggmhaaWiRefS
namespace Go.Proofs.Ytnomgcbkaggmhaa
open Go.RowKit

/-- What Over has left: bytes in the piece, all as it was behind it. -/
def Overd (w wr : World) (g o n : Nat) : Prop := ∀ cur, w.heap[g]? = some (.cells cur 5 (0, 0)) → (∀ j, j < n → ∃ x : Int, cur[o + j]? = some (.int .u8 x)) → ∃ cur', wr.heap[g]? = some (.cells cur' 5 (0, 0)) ∧ (∀ j, o + n ≤ j → cur'[j]? = cur[j]?) ∧ (∀ j, j < n → ∃ x : Int, cur'[o + j]? = some (.int .u8 x))

set_option maxRecDepth 100000 in
set_option maxHeartbeats 1000000 in
theorem over_piece {w : World} {g o n c : Nat} {a : Option Addr} {F : List UInt8} (h : RestAt w g o (.slice a n c) F) (hn : n ≤ 1048576) :
    Calls Try.prog 33 #[.slice a n c] w fun e w' => e = .returned (.tuple #[]) ∧ Only (fun k => k = g) w w' ∧ (∀ o' v rest, o + n ≤ o' → RestAt w g o' v rest → RestAt w' g o' v rest) := by
  obtain ⟨a', c', e, hc, hz, hx⟩ := h
  obtain ⟨rfl, rfl, rfl⟩ := Value.slice.inj e
  have HX : Hid (F.length ≠ 0 → a = some ⟨g, o, none⟩ ∧ ∃ cur, w.heap[g]? = some (.cells cur 5 (0, 0)) ∧ ∀ j, j < F.length → ∃ x : Int, cur[o + j]? = some (.int .u8 x)) := fun hne => by
    obtain ⟨h1, cur, h2, h3⟩ := hx (by rintro rfl; exact hne rfl)
    exact ⟨h1, cur, h2, fun j hj => ⟨_, h3 j F[j] (List.getElem?_eq_getElem hj)⟩⟩
  clear hx hz hc
  generalize F.length = n at *
  go_enter Try.func33, Try.ntmps33
  go_wp2
  go_loopw [5] (fun iv wr => ∃ k : Nat, k ≤ n ∧ iv = .int .i64 k ∧ Overd w wr g o n ∧ Only (fun k => k = g) w wr) (fun iv _ => n - (intOf iv).toNat)
  case atStart => exact ⟨0, Nat.zero_le _, rfl, fun cur h1 h2 => ⟨cur, h1, fun _ _ => rfl, h2⟩, Only.refl _ _⟩
  case round =>
    obtain ⟨k, hk, rfl, hov, how⟩ := hrel
    by_cases hlt : k < n
    · obtain ⟨rfl, cur0, hg0, hb0⟩ := HX.out (by omega)
      obtain ⟨cur, hg, hfar, hcur⟩ := hov cur0 hg0 hb0
      obtain ⟨x, hx⟩ := hcur k hlt
      have c1 : wr.cell? ⟨g, o + k, none⟩ = some (.int .u8 x) := by rw [cell_of hg]; exact hx
      have f1 : wr.frozen? ⟨g, o + k, none⟩ = false := frozen_of hg (o + k)
      have pz : 0 ≤ (k : Int) := by omega
      have mz : (k : Int) < (n : Int) := by omega
      have HFIN : Hid (∀ y : Int, Overd w (wr.setCell ⟨g, o + k, none⟩ (.int .u8 y)) g o n ∧ Only (fun k => k = g) w (wr.setCell ⟨g, o + k, none⟩ (.int .u8 y))) := by
        intro y
        refine ⟨fun cr h1 h2 => ⟨_, heap_setCell_self hg (o + k) (.int .u8 y), fun j hj => ?_, fun j hj => ?_⟩, how.trans (Only.setCell ⟨g, o + k, none⟩ _)⟩
        · rw [hg0] at h1
          injection h1 with h1
          injection h1 with h1
          subst h1
          rw [Array.getElem?_setIfInBounds_ne (by omega)]
          exact hfar j hj
        · by_cases e : j = k
          · subst e
            obtain ⟨hj', _⟩ := Array.getElem?_eq_some_iff.1 hx
            exact ⟨y, by simp [hj']⟩
          · obtain ⟨z, hz⟩ := hcur j hj
            exact ⟨z, by rw [Array.getElem?_setIfInBounds_ne (by omega)]; exact hz⟩
      clear how hov hg hcur hx hfar hg0 hb0
      go_wp2
      go_roundw
      case rel => exact ⟨k + 1, by omega, by go_num, (HFIN.out _).1, (HFIN.out _).2⟩
      case measure => simp [intOf]; omega
    · have HOW := Lib.hid how; have HOV := Lib.hid hov
      clear how hov
      go_wp2
      go_end0
      refine ⟨rfl, HOW.out, fun o' v rest ho' hr => ?_⟩
      obtain ⟨a2, c2, h1, h2, h3, h4⟩ := hr
      refine ⟨a2, c2, h1, h2, h3, fun hne => ?_⟩
      obtain ⟨e1, cur, e2, e3⟩ := h4 hne
      by_cases hn0 : n = 0
      · obtain ⟨cur', q1, q2, _⟩ := HOV.out cur e2 (fun j hj => by omega)
        exact ⟨e1, cur', q1, fun j x hx => by rw [q2 _ (by omega)]; exact e3 j x hx⟩
      · obtain ⟨_, cur0, hg0, hb0⟩ := HX.out hn0
        obtain ⟨cur', q1, q2, _⟩ := HOV.out cur0 hg0 hb0
        rw [hg0] at e2
        injection e2 with e2
        injection e2 with e2
        subst e2
        exact ⟨e1, cur', q1, fun j x hx => by rw [q2 _ (by omega)]; exact e3 j x hx⟩

/-- Var of both. -/
theorem var_rd (st : Option (List UInt8)) (hl : leftOf st ≤ 1048576) : ∃ (x : Int) (st' : Option (List UInt8)), leftOf st' ≤ leftOf st ∧
    (∀ w b g o, ReaderAt w b g o st → Calls Try.prog 34 #[.pointer (some ⟨b, 0, none⟩)] w fun e w' => e = .returned (.int .i64 x) ∧ (∃ o', ReaderAt w' b g o' st') ∧ Only (fun k => k = b) w w') ∧
    (∀ w b g o, Reader4At w b g o st → Calls Try.prog 35 #[.pointer (some ⟨b, 0, none⟩)] w fun e w' => e = .returned (.int .i64 x) ∧ (∃ o', Reader4At w' b g o' st') ∧ Only (fun k => k = b) w w') := by
  cases st with
  | none =>
    refine ⟨0, none, Nat.le_refl _, fun w b g o h => (rvar_none h).mono ?_, fun w b g o h => (r4var_bad h rfl hl).mono ?_⟩
    · rintro e w' ⟨rfl, rfl⟩; exact ⟨rfl, ⟨o, h⟩, Only.refl _ _⟩
    · rintro e w' ⟨rfl, h1, h2⟩; exact ⟨rfl, ⟨o, h1⟩, h2⟩
  | some rest =>
    have hl' : rest.length ≤ 1048576 := hl
    cases hr : Wi.readVar rest with
    | none =>
      refine ⟨0, none, Nat.zero_le _, fun w b g o h => (rvar_bad h hr (by omega)).mono ?_, fun w b g o h => (r4var_bad h hr hl).mono ?_⟩
      · rintro e w' ⟨rfl, h1, h2⟩; exact ⟨rfl, ⟨o, h1⟩, h2⟩
      · rintro e w' ⟨rfl, h1, h2⟩; exact ⟨rfl, ⟨o, h1⟩, h2⟩
    | some q =>
      obtain ⟨n, k⟩ := q
      refine ⟨n, some (rest.drop k), by show (rest.drop k).length ≤ rest.length; simp, fun w b g o h => (rvar_ok h hr (by omega)).mono ?_, fun w b g o h => (r4var_ok h hr hl').mono ?_⟩
      · rintro e w' ⟨rfl, h1, h2⟩; exact ⟨rfl, ⟨_, h1⟩, h2⟩
      · rintro e w' ⟨rfl, h1, h2⟩; exact ⟨rfl, ⟨_, h1⟩, h2⟩

/-- Num of both. -/
theorem num_rd (st : Option (List UInt8)) (hl : leftOf st ≤ 1048576) : ∃ (x : Int) (st' : Option (List UInt8)), leftOf st' ≤ leftOf st ∧
    (∀ w b g o, ReaderAt w b g o st → Calls Try.prog 36 #[.pointer (some ⟨b, 0, none⟩)] w fun e w' => e = .returned (.int .i64 x) ∧ (∃ o', ReaderAt w' b g o' st') ∧ Only (fun k => k = b) w w') ∧
    (∀ w b g o, Reader4At w b g o st → Calls Try.prog 37 #[.pointer (some ⟨b, 0, none⟩)] w fun e w' => e = .returned (.int .i64 x) ∧ (∃ o', Reader4At w' b g o' st') ∧ Only (fun k => k = b) w w') := by
  cases st with
  | none =>
    refine ⟨0, none, Nat.le_refl _, fun w b g o h => (rnum_none h).mono ?_, fun w b g o h => (r4num_bad h (by show 0 < 8; omega)).mono ?_⟩
    · rintro e w' ⟨rfl, rfl⟩; exact ⟨rfl, ⟨o, h⟩, Only.refl _ _⟩
    · rintro e w' ⟨rfl, h1, h2⟩; exact ⟨rfl, ⟨o, h1⟩, h2⟩
  | some rest =>
    have hl' : rest.length ≤ 1048576 := hl
    by_cases h8 : rest.length < 8
    · refine ⟨0, none, Nat.zero_le _, fun w b g o h => (rnum_bad h h8).mono ?_, fun w b g o h => (r4num_bad h h8).mono ?_⟩
      · rintro e w' ⟨rfl, h1, h2⟩; exact ⟨rfl, ⟨o, h1⟩, h2⟩
      · rintro e w' ⟨rfl, h1, h2⟩; exact ⟨rfl, ⟨o, h1⟩, h2⟩
    · refine ⟨wrap64 (Wi.be (rest.take 8) : Int), some (rest.drop 8), by show (rest.drop 8).length ≤ rest.length; simp, fun w b g o h => (rnum_ok h (by omega) (by omega)).mono ?_, fun w b g o h => (r4num_ok h (by omega)).mono ?_⟩
      · rintro e w' ⟨rfl, h1, h2⟩; exact ⟨rfl, ⟨_, h1⟩, h2⟩
      · rintro e w' ⟨rfl, h1, h2⟩; exact ⟨rfl, ⟨_, h1⟩, h2⟩

theorem rest_nil (w : World) (g o : Nat) : RestAt w g o (.slice none 0 0) [] := ⟨none, 0, rfl, Nat.le_refl _, fun _ => rfl, fun h => absurd rfl h⟩

/-- Field of both. -/
theorem field_rd (st : Option (List UInt8)) (hl : leftOf st ≤ 1048576) : ∃ (F : List UInt8) (st' : Option (List UInt8)), leftOf st' ≤ leftOf st ∧ F.length ≤ 1048576 ∧
    (∀ w b g o, ReaderAt w b g o st → Calls Try.prog 38 #[.pointer (some ⟨b, 0, none⟩)] w fun e w' => ∃ a c op o', e = .returned (.slice a F.length c) ∧ RestAt w' g op (.slice a F.length c) F ∧ op + F.length ≤ o' ∧ ReaderAt w' b g o' st' ∧ Only (fun k => k = b) w w') ∧
    (∀ w b g o, Reader4At w b g o st → Calls Try.prog 39 #[.pointer (some ⟨b, 0, none⟩)] w fun e w' => ∃ a c, e = .returned (.slice a F.length c) ∧ BytesAt w' (fun k => k < w'.heap.size) (.slice a F.length c) F ∧ (∃ o', Reader4At w' b g o' st') ∧ Only (fun k => k = b) w w') := by
  cases st with
  | none =>
    refine ⟨[], none, Nat.le_refl _, by simp, fun w b g o h => (rfield_none h).mono ?_, fun w b g o h => (r4rfield_bad h rfl hl).mono ?_⟩
    · rintro e w' ⟨rfl, rfl⟩; exact ⟨none, 0, o, o, rfl, rest_nil _ _ _, Nat.le_refl _, h, Only.refl _ _⟩
    · rintro e w' ⟨rfl, h1, h2⟩; exact ⟨none, 0, rfl, .inl ⟨rfl, rfl⟩, ⟨o, h1⟩, h2⟩
  | some rest =>
    have hl' : rest.length ≤ 1048576 := hl
    cases hr : Wi.field rest with
    | none =>
      refine ⟨[], none, Nat.zero_le _, by simp, fun w b g o h => (rfield_bad h hr (by omega)).mono ?_, fun w b g o h => (r4rfield_bad h hr hl).mono ?_⟩
      · rintro e w' ⟨rfl, ⟨o', h1⟩, h2⟩; exact ⟨none, 0, o', o', rfl, rest_nil _ _ _, Nat.le_refl _, h1, h2⟩
      · rintro e w' ⟨rfl, h1, h2⟩; exact ⟨none, 0, rfl, .inl ⟨rfl, rfl⟩, ⟨o, h1⟩, h2⟩
    | some q =>
      obtain ⟨f, k⟩ := q
      have hF := Wi.field_some hr
      have h1 := hF.le
      have h2 := hF.size
      refine ⟨f, some (rest.drop k), by show (rest.drop k).length ≤ rest.length; simp, by omega, fun w b g o h => (rfield_ok h hr (by omega)).mono ?_, fun w b g o h => (r4rfield_ok h hr hl').mono ?_⟩
      · rintro e w' ⟨a, rfl, q1, q2, q3⟩; exact ⟨a, f.length, _, _, rfl, q1, by omega, q2, q3⟩
      · rintro e w' ⟨a, c, rfl, q1, q2, q3⟩; exact ⟨a, c, rfl, q1, ⟨_, q2⟩, q3⟩

/-- Raw of both. -/
theorem raw_rd (st : Option (List UInt8)) (hl : leftOf st ≤ 1048576) (n : Int) : ∃ (F : List UInt8) (st' : Option (List UInt8)), leftOf st' ≤ leftOf st ∧ F.length ≤ 1048576 ∧
    (∀ w b g o, ReaderAt w b g o st → Calls Try.prog 40 #[.pointer (some ⟨b, 0, none⟩), .int .i64 n] w fun e w' => ∃ a c op o', e = .returned (.slice a F.length c) ∧ RestAt w' g op (.slice a F.length c) F ∧ op + F.length ≤ o' ∧ ReaderAt w' b g o' st' ∧ Only (fun k => k = b) w w') ∧
    (∀ w b g o, Reader4At w b g o st → Calls Try.prog 41 #[.pointer (some ⟨b, 0, none⟩), .int .i64 n] w fun e w' => ∃ a c, e = .returned (.slice a F.length c) ∧ BytesAt w' (fun k => k < w'.heap.size) (.slice a F.length c) F ∧ (∃ o', Reader4At w' b g o' st') ∧ Only (fun k => k = b) w w') := by
  cases st with
  | none =>
    refine ⟨[], none, Nat.le_refl _, by simp, fun w b g o h => (raw_none h).mono ?_, fun w b g o h => (r4raw_bad h (.inl rfl)).mono ?_⟩
    · rintro e w' ⟨rfl, rfl⟩; exact ⟨none, 0, o, o, rfl, rest_nil _ _ _, Nat.le_refl _, h, Only.refl _ _⟩
    · rintro e w' ⟨rfl, h1, h2⟩; exact ⟨none, 0, rfl, .inl ⟨rfl, rfl⟩, ⟨o, h1⟩, h2⟩
  | some rest =>
    have hl' : rest.length ≤ 1048576 := hl
    by_cases hin : 0 ≤ n ∧ n ≤ (rest.length : Int)
    · obtain ⟨m, rfl⟩ := Int.eq_ofNat_of_zero_le hin.1
      have hm : m ≤ rest.length := by omega
      have hfl : (rest.take m).length = m := by simp; omega
      refine ⟨rest.take m, some (rest.drop m), by show (rest.drop m).length ≤ rest.length; simp, by omega, fun w b g o h => (raw_ok h hm (by omega)).mono ?_, fun w b g o h => (r4raw_ok h hm).mono ?_⟩
      · rw [hfl]; rintro e w' ⟨a, rfl, q1, q2, q3⟩; exact ⟨a, m, _, _, rfl, q1, Nat.le_refl _, q2, q3⟩
      · rw [hfl]; rintro e w' ⟨a, c, rfl, q1, q2, q3⟩; exact ⟨a, c, rfl, q1.bytes.mono (fun k hk => hk.2), ⟨_, q2⟩, q3⟩
    · refine ⟨[], none, Nat.zero_le _, by simp, fun w b g o h => (raw_bad h (by omega)).mono ?_, fun w b g o h => (r4raw_bad h (.inr ?_)).mono ?_⟩
      · rintro e w' ⟨rfl, h1, h2⟩; exact ⟨none, 0, o, o, rfl, rest_nil _ _ _, Nat.le_refl _, h1, h2⟩
      · by_cases h0 : n < 0
        · exact .inl h0
        · exact .inr ⟨rest, rfl, by omega⟩
      · rintro e w' ⟨rfl, h1, h2⟩; exact ⟨none, 0, rfl, .inl ⟨rfl, rfl⟩, ⟨o, h1⟩, h2⟩

end Go.Proofs.Ytnomgcbkaggmhaa
