/- PolyRings: what the laws of products say. Conditions: none. -/
import Derived.Test.YtfbnpafanjppbaaPoSmall
namespace Go.Proofs.Ytfbnpafanjppbaa
open Go.RowKit

/-- A product of two, or of three, in a row that the call made. -/
theorem mm_two {W : World} {m x y : Nat} (h64 : m < 18446744073709551616) (hm : m ≠ 0) (hx : x < 18446744073709551616) (hy : y < 18446744073709551616) :
    Calls Try.prog 17 #[.int .u64 (m : Int), .slice (some ⟨W.heap.size, 0, none⟩) 2 2] (W.alloc (.cells #[.int .u64 (x : Int), .int .u64 (y : Int)] 22)) fun e w' => e = .returned (.tuple #[.int .u64 (Gf.rm m (Gf.mul x y) : Int), .nilIface]) ∧ Quiet W w' := by
  have h1 := mulmod_any (nums_two W hx hy) (fun k hk => own_two W k hk _) (by simp) h64 hm
  rw [show Gf.pd [x, y] = Gf.mul x y by show Gf.mul (Gf.mul 1 x) y = _; rw [Gf.one_mul]] at h1
  exact h1.mono fun e w' ⟨a, b⟩ => ⟨a, (Only.alloc _).trans b⟩
theorem mm_three {W : World} {m x y z : Nat} (h64 : m < 18446744073709551616) (hm : m ≠ 0) (hx : x < 18446744073709551616) (hy : y < 18446744073709551616) (hz : z < 18446744073709551616) :
    Calls Try.prog 17 #[.int .u64 (m : Int), .slice (some ⟨W.heap.size, 0, none⟩) 3 3] (W.alloc (.cells #[.int .u64 (x : Int), .int .u64 (y : Int), .int .u64 (z : Int)] 22)) fun e w' => e = .returned (.tuple #[.int .u64 (Gf.rm m (Gf.mul (Gf.mul x y) z) : Int), .nilIface]) ∧ Quiet W w' := by
  have h1 := mulmod_any (nums_three W hx hy hz) (fun k hk => own_two W k hk _) (by simp) h64 hm
  rw [show Gf.pd [x, y, z] = Gf.mul (Gf.mul x y) z by show Gf.mul (Gf.mul (Gf.mul 1 x) y) z = _; rw [Gf.one_mul]] at h1
  exact h1.mono fun e w' ⟨a, b⟩ => ⟨a, (Only.alloc _).trans b⟩

set_option maxRecDepth 100000 in
set_option maxHeartbeats 2000000 in
theorem laws6_any {w : World} {a b c m : Nat} (ha : a < 18446744073709551616) (hb : b < 18446744073709551616) (hc : c < 18446744073709551616) (h64 : m < 18446744073709551616) :
    Calls Try.prog 27 #[.int .u64 (a : Int), .int .u64 (b : Int), .int .u64 (c : Int), .int .u64 (m : Int)] w fun e w' => e = .returned (.bool true) ∧ Quiet w w' := by
  have HA := Lib.hid alive6_any
  by_cases hm : m = 0
  · subst hm
    rw [show ((0 : Nat) : Int) = 0 from rfl]
    go_enter Try.func27, Try.ntmps27
    go_wp2_with fail
    refine (HA.out _).mono ?_; rintro e w1 ⟨rfl, hq⟩; have HQ1 := Lib.hid hq; clear hq
    go_wp2_with fail
    refine (HA.out _).mono ?_; rintro e w2 ⟨rfl, hq⟩; have HQ2 := Lib.hid hq; clear hq
    go_wp2_with fail
    go_ret
    exact ⟨rfl, HQ1.out.trans HQ2.out⟩
  · have cm : ¬ (m : Int) = 0 := by omega
    have HM1 := Lib.hid (fun W => mul_any ha hb W)
    have HM2 := Lib.hid (fun W => mul_any hb ha W)
    have HM3 := Lib.hid (fun W => mul_any ha hc W)
    have hbc := Gf.xor64 hb hc
    have HM4 := Lib.hid (fun W => mul_any ha hbc W)
    have ebc := bits_xor_u64 b c hb hc
    rw [Gf.mul_comm b a] at HM2
    rw [Gf.mul_xor_right] at HM4
    have hAB := Gf.rm_64 (Gf.mul a b) h64
    have hBC := Gf.rm_64 (Gf.mul b c) h64
    have HP1 := Lib.hid (fun W => mm_two (W := W) h64 hm ha hb)
    have HP2 := Lib.hid (fun W => mm_two (W := W) h64 hm hb hc)
    have HP3 := Lib.hid (fun W => mm_two (W := W) h64 hm hAB hc)
    have HP4 := Lib.hid (fun W => mm_two (W := W) h64 hm ha hBC)
    have HP5 := Lib.hid (fun W => mm_three (W := W) h64 hm hc hb ha)
    rw [Gf.rm_mul hm] at HP3
    rw [Gf.mul_comm a (Gf.rm m (Gf.mul b c)), Gf.rm_mul hm, Gf.mul_comm (Gf.mul b c) a, ← Gf.mul_assoc] at HP4
    rw [Gf.mul_comm (Gf.mul c b) a, Gf.mul_comm c b, ← Gf.mul_assoc] at HP5
    have HMD : Hid (∀ (h l : Nat) (W : World), h < 18446744073709551616 → l < 18446744073709551616 → Calls Try.prog 15 #[.int .u64 (h : Int), .int .u64 (l : Int), .int .u64 (m : Int)] W fun e w' => e = .returned (.tuple #[.int .u64 (Gf.rm m (Gf.pr h l) : Int), .nilIface]) ∧ Quiet W w') := fun h l W hh hl => mod_any hh hl h64 hm W
    have HD1 := Lib.hid (fun W => deg_any hAB W)
    have HD2 := Lib.hid (fun W => deg_any h64 W)
    have hlen : Lib.bitLen (Gf.rm m (Gf.mul a b)) < Lib.bitLen m := by
      obtain ⟨h1, ht⟩ := Gf.len_top hm h64
      have hlt := Gf.rm_lt (Gf.mul a b) ht
      rcases Nat.lt_or_ge (Lib.bitLen (Gf.rm m (Gf.mul a b))) (Lib.bitLen m) with h | h
      · exact h
      · by_cases h0 : Gf.rm m (Gf.mul a b) = 0
        · rw [h0, Gf.len_zero]; omega
        · have h3 := (Gf.len_top h0 hAB).2.1
          have : 2 ^ (Lib.bitLen m - 1) ≤ 2 ^ (Lib.bitLen (Gf.rm m (Gf.mul a b)) - 1) := Nat.pow_le_pow_right (by omega) (by omega)
          omega
    have hl1 := Gf.len_le hAB
    have hl2 := Gf.len_le h64
    have HAB : Hid (∀ h l, Gf.pr h l = Gf.mul a b → Gf.rm m (Gf.pr h l) = Gf.rm m (Gf.mul a b)) := fun h l e => by rw [e]
    generalize Gf.rm m (Gf.mul (Gf.mul a b) c) = ABC at *
    generalize Gf.rm m (Gf.mul a b) = AB at *
    generalize Gf.rm m (Gf.mul b c) = BC at *
    generalize hPAB : Gf.mul a b = PAB at *
    generalize hPAC : Gf.mul a c = PAC at *
    have clen : (Lib.bitLen AB : Int) - 1 < (Lib.bitLen m : Int) - 1 := by omega
    generalize b ^^^ c = XBC at *
    go_enter Try.func27, Try.ntmps27
    go_wp2_with fail
    refine (HA.out _).mono ?_; rintro e w1 ⟨rfl, hq⟩; have HQ1 := Lib.hid hq; clear hq
    go_wp2_with fail
    refine (HM1.out _).mono ?_; rintro e w2 ⟨x, y, rfl, hP1, hx, hy, hq⟩; have HQ2 := Lib.hid hq; clear hq
    go_wp2_with fail
    refine (HM2.out _).mono ?_; rintro e w3 ⟨z, v, rfl, hP2, hz, hv, hq⟩; have HQ3 := Lib.hid hq; clear hq
    obtain ⟨rfl, rfl⟩ := Gf.pr_inj hy hv (hP1.trans hP2.symm)
    go_wp2_with fail
    refine (HM3.out _).mono ?_; rintro e w4 ⟨p, q, rfl, hP3, hp, hq', hq⟩; have HQ4 := Lib.hid hq; clear hq
    go_wp2_with fail
    refine (HM4.out _).mono ?_; rintro e w5 ⟨r, s, rfl, hP4, hr, hs, hq⟩; have HQ5 := Lib.hid hq; clear hq
    obtain ⟨rfl, rfl⟩ := Gf.pr_inj hs (Gf.xor64 hy hq') (by rw [hP4, Gf.pr_xor hy hq', hP1, hP3])
    have ex1 := bits_xor_u64 x p hx hp
    have ex2 := bits_xor_u64 y q hy hq'
    have HAB2 := Lib.hid (HAB.out x y hP1)
    clear hP1 hP2 hP3 hP4 HAB
    generalize x ^^^ p = XP at *
    generalize y ^^^ q = YQ at *
    go_wp2_with fail
    refine (HP1.out w5).mono ?_; rintro e w6 ⟨rfl, hq⟩; have HQ6 := Lib.hid hq; clear hq
    go_wp2_with fail
    refine (HP2.out w6).mono ?_; rintro e w7 ⟨rfl, hq⟩; have HQ7 := Lib.hid hq; clear hq
    go_wp2_with fail
    refine (HP3.out w7).mono ?_; rintro e w8 ⟨rfl, hq⟩; have HQ8 := Lib.hid hq; clear hq
    go_wp2_with fail
    refine (HP4.out w8).mono ?_; rintro e w9 ⟨rfl, hq⟩; have HQ9 := Lib.hid hq; clear hq
    go_wp2_with fail
    refine (HP5.out w9).mono ?_; rintro e w10 ⟨rfl, hq⟩; have HQ10 := Lib.hid hq; clear hq
    go_wp2_with fail
    refine (HMD.out x y _ hx hy).mono ?_
    rw [HAB2.out]
    rintro e w11 ⟨rfl, hq⟩; have HQ11 := Lib.hid hq; clear hq
    go_wp2_with fail
    refine (HD1.out _).mono ?_; rintro e w12 ⟨rfl, rfl⟩
    go_wp2_with fail
    refine (HD2.out _).mono ?_; rintro e w12 ⟨rfl, rfl⟩
    go_wp2_with fail
    go_ret
    refine ⟨rfl, ?_⟩
    exact (((((((((HQ1.out.trans HQ2.out).trans HQ3.out).trans HQ4.out).trans HQ5.out).trans HQ6.out).trans HQ7.out).trans HQ8.out).trans HQ9.out).trans HQ10.out).trans HQ11.out

set_option maxRecDepth 100000 in
theorem polyRings_any {w : World} {a b c m : Nat} (ha : a < 18446744073709551616) (hb : b < 18446744073709551616) (hc : c < 18446744073709551616) (h64 : m < 18446744073709551616) :
    Calls Try.prog 7 #[.agg #[.int .u64 (a : Int), .int .u64 (b : Int), .int .u64 (c : Int), .int .u64 (m : Int)]] w fun e w' => e = .returned (.bool true) ∧ Quiet w w' := by
  obtain ⟨w0, hw0⟩ : ∃ w0, w0 = w.alloc (.cells #[.int .u64 (a : Int), .int .u64 (b : Int), .int .u64 (c : Int), .int .u64 (m : Int)] 47) := ⟨_, rfl⟩
  have hb0 : w0.heap[w.heap.size]? = some (.cells #[.int .u64 (a : Int), .int .u64 (b : Int), .int .u64 (c : Int), .int .u64 (m : Int)] 47 (0, 0)) := by rw [hw0]; exact heap_alloc_self _ _
  have HO : Hid (Quiet w w0) := by rw [hw0]; exact Only.alloc _
  have c0 : (w.alloc (.cells #[.int .u64 (a : Int), .int .u64 (b : Int), .int .u64 (c : Int), .int .u64 (m : Int)] 47)).cell? ⟨w.heap.size, 0, none⟩ = some (.int .u64 (a : Int)) := by rw [← hw0, cell_of hb0]; rfl
  have c1 : (w.alloc (.cells #[.int .u64 (a : Int), .int .u64 (b : Int), .int .u64 (c : Int), .int .u64 (m : Int)] 47)).cell? ⟨w.heap.size, 1, none⟩ = some (.int .u64 (b : Int)) := by rw [← hw0, cell_of hb0]; rfl
  have c2 : (w.alloc (.cells #[.int .u64 (a : Int), .int .u64 (b : Int), .int .u64 (c : Int), .int .u64 (m : Int)] 47)).cell? ⟨w.heap.size, 2, none⟩ = some (.int .u64 (c : Int)) := by rw [← hw0, cell_of hb0]; rfl
  have c3 : (w.alloc (.cells #[.int .u64 (a : Int), .int .u64 (b : Int), .int .u64 (c : Int), .int .u64 (m : Int)] 47)).cell? ⟨w.heap.size, 3, none⟩ = some (.int .u64 (m : Int)) := by rw [← hw0, cell_of hb0]; rfl
  have HL := Lib.hid (laws6_any (w := w0) ha hb hc h64)
  go_enter Try.func7, Try.ntmps7
  go_wp2_with (go_at_call 27; rw [← hw0]; refine HL.out.mono ?_; rintro e w1 ⟨rfl, hq⟩; have HQ1 := Lib.hid hq; clear hq)
  go_ret
  exact ⟨rfl, HO.out.trans HQ1.out⟩

end Go.Proofs.Ytfbnpafanjppbaa
