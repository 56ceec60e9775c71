/- PolySmall, PolyProducts. Conditions: none. -/
import Derived.Test.YtfbnpafanjppbaaPoAlive
namespace Go.Proofs.Ytfbnpafanjppbaa
open Go.RowKit

set_option maxRecDepth 100000 in
set_option maxHeartbeats 1000000 in
theorem polySmall_any {w : World} {p0 : Nat} (h64 : p0 < 18446744073709551616) : Calls Try.prog 6 #[.int .u64 (p0 : Int)] w fun e w' => e = .returned (.bool true) ∧ Quiet w w' := by
  obtain ⟨p, hp⟩ : ∃ p, p = p0 % 8192 := ⟨_, rfl⟩
  have hpi : (p0 : Int) % 8192 = (p : Int) := by omega
  have hp64 : p < 18446744073709551616 := by omega
  have HA := Lib.hid alive6_any
  have HI := Lib.hid (fun W => irr_any hp64 W)
  have HD := Lib.hid (fun W => r6deg_any hp64 W)
  have hle := Gf.len_le hp64
  by_cases h1 : 2 ≤ Lib.bitLen p
  · have c1 : (Lib.bitLen p : Int) - 1 ≥ 1 := by omega
    obtain ⟨M, hM⟩ : ∃ M, M = (Lib.bitLen p - 1) / 2 := ⟨_, rfl⟩
    have HV := Lib.hid (fun W => r6divides_any hp64 h1 hM W)
    obtain ⟨D, hD⟩ : ∃ D, D = Lib.bitLen p - 1 := ⟨_, rfl⟩
    have hDi : (Lib.bitLen p : Int) - 1 = (D : Int) := by omega
    rw [hDi] at HD c1
    have c2 : (D : Int) / 2 = (M : Int) := by omega
    have hD63 : D ≤ 63 := by omega
    generalize Gf.irr p = b at *
    clear hM hp hle hD hDi
    go_enter Try.func6, Try.ntmps6
    go_wp2_with fail
    refine (HA.out _).mono ?_; rintro e w1 ⟨rfl, hq⟩; have HQ1 := Lib.hid hq; clear hq
    go_wp2_with fail
    refine (HI.out _).mono ?_; rintro e w2 ⟨rfl, hq⟩; have HQ2 := Lib.hid hq; clear hq
    go_wp2_with fail
    refine (HD.out _).mono ?_; rintro e w3 ⟨rfl, rfl⟩
    go_wp2_with fail
    refine (HD.out _).mono ?_; rintro e w3 ⟨rfl, rfl⟩
    go_wp2_with fail
    refine (HV.out _).mono ?_; rintro e w4 ⟨rfl, hq⟩; have HQ4 := Lib.hid hq; clear hq
    go_wp2_with fail
    go_ret
    exact ⟨by cases b <;> rfl, (HQ1.out.trans HQ2.out).trans HQ4.out⟩
  · have c1 : ¬ (Lib.bitLen p : Int) - 1 ≥ 1 := by omega
    rw [Gf.irr_false (Gf.irr_small (by omega) hp64)] at HI
    clear hp hle
    go_enter Try.func6, Try.ntmps6
    go_wp2_with fail
    refine (HA.out _).mono ?_; rintro e w1 ⟨rfl, hq⟩; have HQ1 := Lib.hid hq; clear hq
    go_wp2_with fail
    refine (HI.out _).mono ?_; rintro e w2 ⟨rfl, hq⟩; have HQ2 := Lib.hid hq; clear hq
    go_wp2_with fail
    refine (HD.out _).mono ?_; rintro e w3 ⟨rfl, rfl⟩
    go_wp2_with fail
    go_ret
    exact ⟨rfl, HQ1.out.trans HQ2.out⟩

theorem nums_three (w : World) {x y z : Nat} (hx : x < 18446744073709551616) (hy : y < 18446744073709551616) (hz : z < 18446744073709551616) :
    NumsAt (w.alloc (.cells #[.int .u64 (x : Int), .int .u64 (y : Int), .int .u64 (z : Int)] 22)) (fun k => k = w.heap.size) (.slice (some ⟨w.heap.size, 0, none⟩) 3 3) [x, y, z] := by
  refine ⟨_, 3, rfl, by simp, fun i hi => ⟨⟨w.heap.size, 0, none⟩, rfl, rfl, ?_, ?_⟩⟩
  · rw [add_lit, cell_of (heap_alloc_self _ _)]
    have hi' : i < 3 := hi
    rcases (show i = 0 ∨ i = 1 ∨ i = 2 by omega) with rfl | rfl | rfl <;> rfl
  · have hi' : i < 3 := hi
    rcases (show i = 0 ∨ i = 1 ∨ i = 2 by omega) with rfl | rfl | rfl
    · exact hx
    · exact hy
    · exact hz
theorem nums_none (w : World) : NumsAt w (fun _ => False) (.slice none 0 0) [] := ⟨none, 0, rfl, Nat.le_refl _, fun i hi => by simp at hi⟩

set_option maxRecDepth 100000 in
set_option maxHeartbeats 1000000 in
theorem polyProducts_any {w : World} {a b m : Nat} (ha : a < 18446744073709551616) (hb : b < 18446744073709551616) (h64 : m < 18446744073709551616) : Calls Try.prog 3 #[.int .u64 (a : Int), .int .u64 (b : Int), .int .u64 (m : Int)] w fun e w' => e = .returned (.bool true) ∧ Quiet w w' := by
  have HA := Lib.hid alive6_any
  have HM := Lib.hid (fun W => mul_any ha hb W)
  have HM6 := Lib.hid (fun W => r6mul_any ha hb W)
  have HD := Lib.hid (fun W => deg_any ha W)
  have HD6 := Lib.hid (fun W => r6deg_any ha W)
  have HS : Hid (∀ W : World, Calls Try.prog 14 #[.slice (some ⟨W.heap.size, 0, none⟩) 3 3] (W.alloc (.cells #[.int .u64 (a : Int), .int .u64 (b : Int), .int .u64 (m : Int)] 22)) fun e w' => e = .returned (.int .u64 (((a ^^^ b) ^^^ m : Nat) : Int)) ∧ (W.alloc (.cells #[.int .u64 (a : Int), .int .u64 (b : Int), .int .u64 (m : Int)] 22)) = w') := fun W => by
    have h1 := sum_any (nums_three W ha hb h64) (by simp)
    rwa [show Gf.sm [a, b, m] = (a ^^^ b) ^^^ m by simp [Gf.sm]] at h1
  have HS0 : Hid (∀ W : World, Calls Try.prog 14 #[.slice none 0 0] W fun e w' => e = .returned (.int .u64 0) ∧ W = w') := fun W => sum_any (nums_none W) (by simp)
  have hab := Gf.xor64 ha hb
  have habm := Gf.xor64 hab h64
  have ex1 := bits_xor_u64 a b ha hb
  have ex2 := bits_xor_u64 (a ^^^ b) m hab h64
  generalize (a ^^^ b) ^^^ m = ABM at *
  generalize a ^^^ b = AB at *
  have hle := Gf.len_le ha
  generalize Gf.mul a b = P at *
  by_cases hm : m = 0
  · subst hm
    have HZ : Hid (∀ W : World, Calls Try.prog 15 #[.int .u64 (a : Int), .int .u64 (b : Int), .int .u64 0] W fun e w' => e = .returned (.tuple #[.int .u64 0, .iface 32 (.int .i64 27)]) ∧ W = w') := fun W => mod_zero (a : Int) (b : Int) W
    have heq : ∀ W, (binOp .eql 29 (.iface 32 (.int .i64 27)) (.iface 32 (.int .i64 27))).run Try.prog W = .ok (.bool true) W := fun W => by kernel_rfl
    have ex3 : bits .xor .u64 (AB : Int) 0 = (ABM : Int) := ex2
    rw [show ((0 : Nat) : Int) = 0 from rfl]
    go_enter Try.func3, Try.ntmps3
    go_wp2_with fail
    refine (HA.out _).mono ?_; rintro e w1 ⟨rfl, hq⟩; have HQ1 := Lib.hid hq; clear hq
    go_wp2_with fail
    refine (HM.out _).mono ?_; rintro e w2 ⟨h, l, rfl, hP, hh, hl, hq⟩; have HQ2 := Lib.hid hq; clear hq
    go_wp2_with fail
    refine (HM6.out _).mono ?_; rintro e w3 ⟨h3, l3, rfl, hP3, hh3, hl3, hq⟩; have HQ3 := Lib.hid hq; clear hq
    obtain ⟨rfl, rfl⟩ := Gf.pr_inj hl hl3 (hP.trans hP3.symm)
    go_wp2_with fail
    refine (HD.out _).mono ?_; rintro e w4 ⟨rfl, rfl⟩
    go_wp2_with fail
    refine (HD6.out _).mono ?_; rintro e w4 ⟨rfl, rfl⟩
    go_wp2_with fail
    refine (HS.out w3).mono ?_; rintro e w4 ⟨rfl, rfl⟩
    go_wp2_with fail
    refine (HS0.out _).mono ?_; rintro e w4 ⟨rfl, rfl⟩
    go_wp2_with fail
    refine (HZ.out _).mono ?_; rintro e w4 ⟨rfl, rfl⟩
    go_wp2_with fail
    go_ret
    exact ⟨rfl, ((HQ1.out.trans HQ2.out).trans HQ3.out).trans (Only.alloc _)⟩
  · have c1 : ¬ (m : Int) = 0 := by omega
    have HR := Lib.hid (fun W => mod_any ha hb h64 hm W)
    have HR6 := Lib.hid (fun W => r6mod_any ha hb h64 hm W)
    generalize Gf.rm m (Gf.pr a b) = R at *
    go_enter Try.func3, Try.ntmps3
    go_wp2_with fail
    refine (HA.out _).mono ?_; rintro e w1 ⟨rfl, hq⟩; have HQ1 := Lib.hid hq; clear hq
    go_wp2_with fail
    refine (HM.out _).mono ?_; rintro e w2 ⟨h, l, rfl, hP, hh, hl, hq⟩; have HQ2 := Lib.hid hq; clear hq
    go_wp2_with fail
    refine (HM6.out _).mono ?_; rintro e w3 ⟨h3, l3, rfl, hP3, hh3, hl3, hq⟩; have HQ3 := Lib.hid hq; clear hq
    obtain ⟨rfl, rfl⟩ := Gf.pr_inj hl hl3 (hP.trans hP3.symm)
    go_wp2_with fail
    refine (HD.out _).mono ?_; rintro e w4 ⟨rfl, rfl⟩
    go_wp2_with fail
    refine (HD6.out _).mono ?_; rintro e w4 ⟨rfl, rfl⟩
    go_wp2_with fail
    refine (HS.out w3).mono ?_; rintro e w4 ⟨rfl, rfl⟩
    go_wp2_with fail
    refine (HS0.out _).mono ?_; rintro e w4 ⟨rfl, rfl⟩
    go_wp2_with fail
    refine (HR.out _).mono ?_; rintro e w5 ⟨rfl, hq⟩; have HQ5 := Lib.hid hq; clear hq
    go_wp2_with fail
    refine (HR6.out _).mono ?_; rintro e w6 ⟨rfl, hq⟩; have HQ6 := Lib.hid hq; clear hq
    go_wp2_with fail
    go_ret
    exact ⟨rfl, (((((HQ1.out.trans HQ2.out).trans HQ3.out).trans (Only.alloc _)).trans HQ5.out).trans HQ6.out)⟩

end Go.Proofs.Ytfbnpafanjppbaa
