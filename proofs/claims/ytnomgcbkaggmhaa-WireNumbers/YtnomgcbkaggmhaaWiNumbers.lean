/- The law WireNumbers. Conditions: rows within the reach. -/
import Derived.Test.YtnomgcbkaggmhaaWiRefV
import Derived.Test.YtnomgcbkaggmhaaWiAlive
import Derived.Test.YtnomgcbkaggmhaaGNum
namespace Go.Proofs.Ytnomgcbkaggmhaa
open Go.RowKit

/-- A length within the reach. -/
structure Reach (n : Nat) : Prop where
  le : n ≤ 140737488351232

/-- What ReadVar answers, as values; f: how an error is told. -/
theorem rv_both {bs : List UInt8} : ∃ n k en : Nat, (en = 0 ∨ en = 9) ∧
    (∀ {w : World} {S : Nat → Prop} {v : Value}, BytesAt w S v bs → bs.length ≤ 140737488355328 → Calls Try.prog 12 #[v] w fun e w' => e = .returned (.tuple #[.int .i64 (n : Int), .int .i64 (k : Int), errV en]) ∧ w' = w) ∧
    (∀ {w : World} {S : Nat → Prop} {v : Value}, BytesAt w S v bs → (∀ k, S k → k < w.heap.size) → bs.length ≤ 140737488355328 → Calls Try.prog 13 #[v] w fun e w' => e = .returned (.tuple #[.int .i64 (n : Int), .int .i64 (k : Int), .int .i64 (en : Int)]) ∧ Only (fun _ => False) w w') := by
  cases hr : Wi.readVar bs with
  | none =>
    refine ⟨0, 0, 9, .inr rfl, fun hv hl => (readVar_any hv hl).mono ?_, fun hv hS hl => (r4ReadVar_any hv hS hl).mono ?_⟩
    · rintro e w' ⟨rfl, ⟨n', k', e1, rfl⟩ | ⟨e1, rfl⟩⟩
      · rw [hr] at e1; cases e1
      · exact ⟨rfl, rfl⟩
    · rintro e w' ⟨ho, ⟨n', k', e1, rfl⟩ | ⟨e1, rfl⟩⟩
      · rw [hr] at e1; cases e1
      · exact ⟨rfl, ho⟩
  | some q =>
    obtain ⟨n, k⟩ := q
    refine ⟨n, k, 0, .inl rfl, fun hv hl => (readVar_any hv hl).mono ?_, fun hv hS hl => (r4ReadVar_any hv hS hl).mono ?_⟩
    · rintro e w' ⟨rfl, ⟨n', k', e1, rfl⟩ | ⟨e1, rfl⟩⟩
      · rw [hr] at e1
        obtain ⟨rfl, rfl⟩ := Prod.mk.inj (Option.some.inj e1)
        exact ⟨rfl, rfl⟩
      · rw [hr] at e1; cases e1
    · rintro e w' ⟨ho, ⟨n', k', e1, rfl⟩ | ⟨e1, rfl⟩⟩
      · rw [hr] at e1
        obtain ⟨rfl, rfl⟩ := Prod.mk.inj (Option.some.inj e1)
        exact ⟨rfl, ho⟩
      · rw [hr] at e1; cases e1

/-- ReadNum, likewise. -/
theorem rn_both {bs : List UInt8} : ∃ (x : Int) (en : Nat), (en = 0 ∨ en = 9) ∧
    (∀ {w : World} {S : Nat → Prop} {v : Value}, BytesAt w S v bs → Calls Try.prog 14 #[v] w fun e w' => e = .returned (.tuple #[.int .i64 x, errV en]) ∧ w' = w) ∧
    (∀ {w : World} {S : Nat → Prop} {v : Value}, BytesAt w S v bs → Calls Try.prog 15 #[v] w fun e w' => e = .returned (.tuple #[.int .i64 x, .int .i64 (en : Int)]) ∧ w' = w) := by
  by_cases hl : bs.length = 8
  · refine ⟨wrap64 (Wi.be bs : Int), 0, .inl rfl, fun hv => (readNum_any hv hl).mono ?_, fun hv => (r4ReadNum_any hv hl).mono ?_⟩
    · rintro e w' ⟨rfl, rfl⟩; exact ⟨rfl, rfl⟩
    · rintro e w' ⟨rfl, rfl⟩; exact ⟨rfl, rfl⟩
  · refine ⟨0, 9, .inr rfl, fun hv => ?_, fun hv => ?_⟩
    · obtain ⟨a, c, rfl⟩ := hv.shape
      refine (readNum_err hl).mono ?_
      rintro e w' ⟨rfl, rfl⟩; exact ⟨rfl, rfl⟩
    · obtain ⟨a, c, rfl⟩ := hv.shape
      refine (r4ReadNum_err hl).mono ?_
      rintro e w' ⟨rfl, rfl⟩; exact ⟨rfl, rfl⟩

/-- Num of an error that a call answered. -/
theorem num_of {en : Nat} (h : en = 0 ∨ en = 9) (w : World) : Calls Try.prog 16 #[errV en] w fun e w' => e = .returned (.int .i64 (en : Int)) ∧ w = w' := by
  rcases h with rfl | rfl
  · exact num_nil w
  · exact num_err 9 w (by decide)

/-- Var of whatever int: what both answer as a text. -/
theorem var_both (n : Int) (hn : n ≤ 9223372036854775807) : ∃ V : List UInt8,
    (∀ w : World, Calls Try.prog 18 #[.int .i64 n] w fun e w' => ∃ a c, e = .returned (.slice a V.length c) ∧ Row w w' (.slice a V.length c) V) ∧
    (∀ w : World, Calls Try.prog 19 #[.int .i64 n] w fun e w' => ∃ a c, e = .returned (.slice a V.length c) ∧ Row w w' (.slice a V.length c) V) := by
  by_cases h : n < 0
  · refine ⟨[], fun w => (wVar_neg h).mono ?_, fun w => (r4Var_neg h).mono ?_⟩
    · rintro e w' ⟨rfl, rfl⟩; exact ⟨none, 0, rfl, Row.nil _⟩
    · rintro e w' ⟨rfl, rfl⟩; exact ⟨none, 0, rfl, Row.nil _⟩
  · obtain ⟨m, rfl⟩ := Int.eq_ofNat_of_zero_le (show 0 ≤ n by omega)
    exact ⟨Wi.var m, fun w => wVar_any (by omega), fun w => r4Var_any (by omega)⟩

set_option maxRecDepth 100000 in
set_option maxHeartbeats 2000000 in
theorem wireNumbers_any {w : World} {n : Int} (hn : -9223372036854775808 ≤ n ∧ n ≤ 9223372036854775807) {S : Nat → Prop} {v : Value} {bs : List UInt8} (hv : BytesAt w S v bs) (hS : ∀ k, S k → k < w.heap.size) (hl : bs.length ≤ 140737488351232) :
    Calls Try.prog 3 #[.int .i64 n, v] w fun e w' => e = .returned (.bool true) ∧ Only (fun _ => False) w w' := by
  obtain ⟨va, vc, rfl⟩ := hv.shape
  have HV := Lib.hid hv; have HS := Lib.hid hS; have HL : Reach bs.length := ⟨hl⟩
  obtain ⟨rn, rk, ren, hren, hrv, hrv4⟩ := rv_both (bs := bs)
  obtain ⟨nx, nen, hnen, hnv, hnv4⟩ := rn_both (bs := bs)
  obtain ⟨V, hw, h4⟩ := var_both n hn.2
  have HN1 := Lib.hid (num_of hren); have HN2 := Lib.hid (num_of hnen)
  have HRV : Hid (∀ (w : World) (S : Nat → Prop) (v : Value), BytesAt w S v bs → Calls Try.prog 12 #[v] w fun e w' => e = .returned (.tuple #[.int .i64 (rn : Int), .int .i64 (rk : Int), errV ren]) ∧ w' = w) := fun _ _ _ h => hrv h (by omega)
  have HRV4 : Hid (∀ (w : World) (S : Nat → Prop) (v : Value), BytesAt w S v bs → (∀ k, S k → k < w.heap.size) → Calls Try.prog 13 #[v] w fun e w' => e = .returned (.tuple #[.int .i64 (rn : Int), .int .i64 (rk : Int), .int .i64 (ren : Int)]) ∧ Only (fun _ => False) w w') := fun _ _ _ h g => hrv4 h g (by omega)
  have HNV : Hid (∀ (w : World) (S : Nat → Prop) (v : Value), BytesAt w S v bs → Calls Try.prog 14 #[v] w fun e w' => e = .returned (.tuple #[.int .i64 nx, errV nen]) ∧ w' = w) := fun _ _ _ h => hnv h
  have HNV4 : Hid (∀ (w : World) (S : Nat → Prop) (v : Value), BytesAt w S v bs → Calls Try.prog 15 #[v] w fun e w' => e = .returned (.tuple #[.int .i64 nx, .int .i64 (nen : Int)]) ∧ w' = w) := fun _ _ _ h => hnv4 h
  have HW := Lib.hid hw; have H4 := Lib.hid h4
  have HNW : Hid (∀ w : World, Calls Try.prog 20 #[.int .i64 n] w fun e w' => ∃ a c, e = .returned (.slice a 8 c) ∧ Row w w' (.slice a 8 c) (Wi.num n)) := fun w => wNum_any
  have HN4 : Hid (∀ w : World, Calls Try.prog 21 #[.int .i64 n] w fun e w' => ∃ a c, e = .returned (.slice a 8 c) ∧ Row w w' (.slice a 8 c) (Wi.num n)) := fun w => r4Num_any
  clear hv hS hl hren hrv hrv4 hnen hnv hnv4 hw h4 hn
  generalize errV ren = E1 at *
  generalize errV nen = E2 at *
  generalize Wi.num n = NN at *
  go_enter Try.func3, Try.ntmps3
  go_wp2_with fail
  refine alive_any.mono ?_
  rintro e w1 ⟨rfl, ho1⟩
  have HO1 := Lib.hid ho1
  clear ho1
  go_wp2_with fail
  refine (copy_any (HV.out.here HO1.out HS.out) (fun _ h => h) (by have := HL.le; omega)).mono ?_
  rintro e w2 ⟨g, c, rfl, hc, hg, ho2⟩
  have HC2 := Lib.hid hc; have HO2 := Lib.hid (HO1.out.trans ho2)
  clear hc hg ho2
  go_wp2_with fail
  refine (HRV.out _ _ _ HC2.out.bytes).mono ?_
  rintro e w3 ⟨rfl, rfl⟩
  go_wp2_with fail
  refine (HRV4.out _ _ _ (HV.out.here HO2.out HS.out) (fun _ h => h)).mono ?_
  rintro e w4 ⟨rfl, ho4⟩
  have HC4 := Lib.hid (HC2.out.only ho4 (fun x => x)); have HO4 := Lib.hid (HO2.out.trans ho4)
  clear ho4 HC2 HO2
  go_wp2_with fail
  refine (HNV.out _ _ _ HC4.out.bytes).mono ?_
  rintro e w5 ⟨rfl, rfl⟩
  go_wp2_with fail
  refine (HNV4.out _ _ _ (HV.out.here HO4.out HS.out)).mono ?_
  rintro e w6 ⟨rfl, rfl⟩
  have HK := Lib.hid (kept_any HC4.out (HV.out.here HO4.out HS.out) (by have := HL.le; omega))
  go_wp2_with fail
  refine (HN1.out _).mono ?_
  rintro e w7 ⟨rfl, rfl⟩
  go_wp2_with fail
  refine (HN2.out _).mono ?_
  rintro e w7 ⟨rfl, rfl⟩
  go_wp2_with fail
  refine HK.out.mono ?_
  rintro e w7 ⟨rfl, rfl⟩
  go_wp2_with fail
  have HO4 : Hid (Only (fun _ => False) w w6) := HO4
  generalize w6 = W0 at *
  have hor : Only (fun _ => False) W0 W0 := Only.refl _ _
  have hod : Only (fun _ => False) W0 W0.drew := Only.drew
  clear HRV HRV4 HNV HNV4 HN1 HN2 HK HC4 HV HS HL
  go_region_law ((first
    | (go_simp; go_at_call 18; refine (HW.out _).mono ?_; rintro e x1 ⟨a1, c1, rfl, hr1⟩; have ho1 : Only (fun _ => False) W0 x1 := Only.trans (by assumption) hr1.only; have ht1 : ∀ W, Only (fun _ => False) x1 W → (convert 22 9 (.slice a1 V.length c1)).run Try.prog W = .ok (.string ⟨V.toArray⟩) W := fun W h => (hr1.kept h).bytes.text; have hq1 : Only (fun _ => False) x1 x1 := Only.refl _ _; clear hr1)
    | (go_simp; go_at_call 19; refine (H4.out _).mono ?_; rintro e x2 ⟨a2, c2, rfl, hr2⟩; have ho2 : Only (fun _ => False) x1 x2 := hr2.only; have ht2 : ∀ W, Only (fun _ => False) x2 W → (convert 22 9 (.slice a2 V.length c2)).run Try.prog W = .ok (.string ⟨V.toArray⟩) W := fun W h => (hr2.kept h).bytes.text; have hq2 : Only (fun _ => False) x2 x2 := Only.refl _ _; have ho2' : Only (fun _ => False) W0 x2 := ho1.trans ho2; clear hr2)
    | (go_simp; go_at_call 20; refine (HNW.out _).mono ?_; rintro e x3 ⟨a3, c3, rfl, hr3⟩; have ho3 : Only (fun _ => False) x2 x3 := hr3.only; have ht3 : ∀ W, Only (fun _ => False) x3 W → (convert 22 9 (.slice a3 8 c3)).run Try.prog W = .ok (.string ⟨NN.toArray⟩) W := fun W h => (hr3.kept h).bytes.text; have hq3 : Only (fun _ => False) x3 x3 := Only.refl _ _; have ho3' : Only (fun _ => False) W0 x3 := ho2'.trans ho3; clear hr3)
    | (go_simp; go_at_call 21; refine (HN4.out _).mono ?_; rintro e x4 ⟨a4, c4, rfl, hr4⟩; have ho4 : Only (fun _ => False) x3 x4 := hr4.only; have ht4 : ∀ W, Only (fun _ => False) x4 W → (convert 22 9 (.slice a4 8 c4)).run Try.prog W = .ok (.string ⟨NN.toArray⟩) W := fun W h => (hr4.kept h).bytes.text; have hq4 : Only (fun _ => False) x4 x4 := Only.refl _ _; have ho4' : Only (fun _ => False) W0 x4 := ho3'.trans ho4; clear hr4)))
  all_goals (
    have HF := Lib.hid (HO4.out.trans ho4')
    clear ht1 ht2 ht3 ht4 hq1 hq2 hq3 hq4 ho1 ho2 ho2' ho3 ho3' ho4 ho4' hor hod HO4
    go_wp2
    go_ret
    exact ⟨rfl, HF.out⟩)

end Go.Proofs.Ytnomgcbkaggmhaa
