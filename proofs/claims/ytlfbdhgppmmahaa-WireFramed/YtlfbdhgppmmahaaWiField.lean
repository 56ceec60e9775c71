/- What a Reader reads: Field. Conditions: none. -/
import Derived.Test.YtlfbdhgppmmahaaWiRaw
namespace Go.Proofs.Ytlfbdhgppmmahaa
open Go.RowKit

theorem field_cases (rest : List UInt8) :
    (Wi.readVar rest = none ∧ Wi.field rest = none) ∨ (∃ n j, Wi.readVar rest = some (n, j) ∧ 67108864 < n ∧ Wi.field rest = none) ∨
    (∃ n j, Wi.readVar rest = some (n, j) ∧ n ≤ 67108864 ∧ (rest.drop j).length < n ∧ Wi.field rest = none) ∨
    (∃ n j, Wi.readVar rest = some (n, j) ∧ n ≤ 67108864 ∧ n ≤ (rest.drop j).length ∧ Wi.field rest = some ((rest.drop j).take n, j + n)) := by
  cases h : Wi.readVar rest with
  | none => exact .inl ⟨rfl, by simp [Wi.field, h]⟩
  | some q =>
    obtain ⟨n, j⟩ := q
    by_cases h1 : 67108864 < n
    · exact .inr (.inl ⟨n, j, rfl, h1, by simp [Wi.field, h]; omega⟩)
    · by_cases h2 : (rest.drop j).length < n
      · refine .inr (.inr (.inl ⟨n, j, rfl, by omega, h2, ?_⟩))
        simp at h2
        simp [Wi.field, h]; omega
      · refine .inr (.inr (.inr ⟨n, j, rfl, by omega, by omega, ?_⟩))
        simp at h2
        simp [Wi.field, h]; omega

set_option maxRecDepth 100000 in
theorem rfield_ok {w : World} {b g o k : Nat} {rest f : List UInt8} (h : ReaderAt w b g o (some rest)) (hf : Wi.field rest = some (f, k)) (hl : rest.length ≤ 140737488355328) :
    Calls Try.prog 21 #[.pointer (some ⟨b, 0, none⟩)] w fun e w' => ∃ a, e = .returned (.slice a f.length f.length) ∧ RestAt w' g (o + (k - f.length)) (.slice a f.length f.length) f ∧ ReaderAt w' b g (o + k) (some (rest.drop k)) ∧ Only (fun k => k = b) w w' := by
  rcases field_cases rest with ⟨_, h1⟩ | ⟨_, _, _, _, h1⟩ | ⟨_, _, _, _, _, h1⟩ | ⟨n, j, hr, h1, h2, h3⟩
  · rw [hf] at h1; cases h1
  · rw [hf] at h1; cases h1
  · rw [hf] at h1; cases h1
  · rw [hf] at h3
    obtain ⟨rfl, rfl⟩ := Prod.mk.inj (Option.some.inj h3)
    have hfl : ((rest.drop j).take n).length = n := by simp at h2 ⊢; omega
    rw [hfl, show j + n - n = j by omega]
    have HV := Lib.hid (rvar_ok h hr hl)
    have HRW : Hid (∀ w1, ReaderAt w1 b g (o + j) (some (rest.drop j)) → Calls Try.prog 20 #[.pointer (some ⟨b, 0, none⟩), .int .i64 (n : Int)] w1 fun e w' => ∃ a, e = .returned (.slice a n n) ∧ RestAt w' g (o + j) (.slice a n n) ((rest.drop j).take n) ∧ ReaderAt w' b g (o + (j + n)) (some (rest.drop (j + n))) ∧ Only (fun k => k = b) w1 w') := by
      intro w1 h1
      have := raw_ok h1 h2 (by simp; omega)
      rwa [List.drop_drop, Nat.add_assoc] at this
    have g1 : ¬ (n : Int) > 67108864 := by omega
    clear h hf h3 hr hfl
    go_enter Try.func21, Try.ntmps21
    go_wp2_with (first | (go_at_call 27; refine HV.out.mono ?_; rintro e w1 ⟨rfl, hb, ho⟩; have HB := Lib.hid hb; have HO := Lib.hid ho; clear hb ho) | (go_at_call 20; refine (HRW.out _ HB.out).mono ?_; rintro e w2 ⟨a, rfl, hp, hb, ho⟩; have HP := Lib.hid hp; have HB2 := Lib.hid hb; have HO2 := Lib.hid ho; clear hb ho hp))
    go_ret
    exact ⟨a, rfl, HP.out, HB2.out, HO.out.trans HO2.out⟩

set_option maxRecDepth 100000 in
theorem rfield_bad {w : World} {b g o : Nat} {rest : List UInt8} (h : ReaderAt w b g o (some rest)) (hf : Wi.field rest = none) (hl : rest.length ≤ 140737488355328) :
    Calls Try.prog 21 #[.pointer (some ⟨b, 0, none⟩)] w fun e w' => e = .returned (.slice none 0 0) ∧ (∃ o', ReaderAt w' b g o' none) ∧ Only (fun k => k = b) w w' := by
  rcases field_cases rest with ⟨hr, h1⟩ | ⟨n, j, hr, h1, _⟩ | ⟨n, j, hr, h1, h2, _⟩ | ⟨_, _, _, _, _, h3⟩
  · have HV := Lib.hid (rvar_bad h hr hl)
    have HRW : Hid (∀ w1, ReaderAt w1 b g o none → Calls Try.prog 20 #[.pointer (some ⟨b, 0, none⟩), .int .i64 0] w1 fun e w' => e = .returned (.slice none 0 0) ∧ w' = w1) := fun w1 h => raw_none h
    clear h hf h1 hr
    go_enter Try.func21, Try.ntmps21
    go_wp2_with (first | (go_at_call 27; refine HV.out.mono ?_; rintro e w1 ⟨rfl, hb, ho⟩; have HB := Lib.hid hb; have HO := Lib.hid ho; clear hb ho) | (go_at_call 20; refine (HRW.out _ HB.out).mono ?_; rintro e w2 ⟨rfl, rfl⟩))
    go_ret
    exact ⟨rfl, ⟨o, HB.out⟩, HO.out⟩
  · have HV := Lib.hid (rvar_ok h hr hl)
    have g1 : (n : Int) > 67108864 := by omega
    have HS : Hid (∀ w1, ReaderAt w1 b g (o + j) (some (rest.drop j)) → Calls Try.prog 26 #[.pointer (some ⟨b, 0, none⟩)] w1 fun e w' => e = .returned (.tuple #[]) ∧ ReaderAt w' b g (o + j) none ∧ Only (fun k => k = b) w1 w') := fun w1 h => spoil_any h
    clear h hf h1 hr
    go_enter Try.func21, Try.ntmps21
    go_wp2_with (first | (go_at_call 27; refine HV.out.mono ?_; rintro e w1 ⟨rfl, hb, ho⟩; have HB := Lib.hid hb; have HO := Lib.hid ho; clear hb ho) | (go_at_call 26; refine (HS.out _ HB.out).mono ?_; rintro e w2 ⟨rfl, hb, ho⟩; have HB2 := Lib.hid hb; have HO2 := Lib.hid ho; clear hb ho))
    go_ret
    exact ⟨rfl, ⟨_, HB2.out⟩, HO.out.trans HO2.out⟩
  · have HV := Lib.hid (rvar_ok h hr hl)
    have g1 : ¬ (n : Int) > 67108864 := by omega
    have HRW : Hid (∀ w1, ReaderAt w1 b g (o + j) (some (rest.drop j)) → Calls Try.prog 20 #[.pointer (some ⟨b, 0, none⟩), .int .i64 (n : Int)] w1 fun e w' => e = .returned (.slice none 0 0) ∧ ReaderAt w' b g (o + j) none ∧ Only (fun k => k = b) w1 w') := fun w1 h => raw_bad h (.inr (by omega))
    clear h hf h1 hr h2
    go_enter Try.func21, Try.ntmps21
    go_wp2_with (first | (go_at_call 27; refine HV.out.mono ?_; rintro e w1 ⟨rfl, hb, ho⟩; have HB := Lib.hid hb; have HO := Lib.hid ho; clear hb ho) | (go_at_call 20; refine (HRW.out _ HB.out).mono ?_; rintro e w2 ⟨rfl, hb, ho⟩; have HB2 := Lib.hid hb; have HO2 := Lib.hid ho; clear hb ho))
    go_ret
    exact ⟨rfl, ⟨_, HB2.out⟩, HO.out.trans HO2.out⟩
  · rw [hf] at h3; cases h3

theorem rfield_none {w : World} {b g o : Nat} (h : ReaderAt w b g o none) : Calls Try.prog 21 #[.pointer (some ⟨b, 0, none⟩)] w fun e w' => e = .returned (.slice none 0 0) ∧ w' = w := by
  have HV := Lib.hid (rvar_none h); have HR := Lib.hid (raw_none (n := 0) h)
  clear h
  go_enter Try.func21, Try.ntmps21
  go_wp2_with (first | (go_at_call 27; refine HV.out.mono ?_; rintro e w1 ⟨rfl, rfl⟩) | (go_at_call 20; refine HR.out.mono ?_; rintro e w2 ⟨rfl, rfl⟩))
  go_ret
  exact ⟨rfl, rfl⟩

theorem rfield_nil {w : World} : Calls Try.prog 21 #[.pointer none] w fun e w' => e = .returned (.slice none 0 0) ∧ w' = w := by
  go_enter Try.func21, Try.ntmps21
  go_wp2_with (first | (go_at_call 27; refine rvar_nil.mono ?_; rintro e w1 ⟨rfl, rfl⟩) | (go_at_call 20; refine raw_nil.mono ?_; rintro e w2 ⟨rfl, rfl⟩))
  go_ret
  exact ⟨rfl, rfl⟩

end Go.Proofs.Ytlfbdhgppmmahaa
