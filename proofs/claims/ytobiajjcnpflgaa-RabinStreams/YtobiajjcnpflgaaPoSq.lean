/- poly.squarings, Power. Conditions: none. -/
import Derived.Test.YtobiajjcnpflgaaPoNums
namespace Go.Proofs.Ytobiajjcnpflgaa
open Go.RowKit

/-- What the squarings stand at: a word that turns, and the one by which they are taken. -/
structure SqAt (w : World) (P M a m : Nat) : Prop where
  now : w.heap[P]? = some (.cells #[.int .u64 (a : Int)] 22 (0, 0))
  by' : w.heap[M]? = some (.cells #[.int .u64 (m : Int)] 22 (0, 0))
  ne : P ≠ M

theorem SqAt.keep {w w' : World} {P M a m : Nat} (h : SqAt w P M a m) (hq : Quiet w w') : SqAt w' P M a m :=
  ⟨hq.keep h.now (fun x => x), hq.keep h.by' (fun x => x), h.ne⟩

set_option maxRecDepth 100000 in
theorem squared_any {w : World} {P M a m : Nat} (h : SqAt w P M a m) (ha : a < 18446744073709551616) (h64 : m < 18446744073709551616) (hm : m ≠ 0) :
    Calls Try.prog 53 #[.pointer (some ⟨P, 0, none⟩), .pointer (some ⟨M, 0, none⟩)] w fun e w' => e = .returned (.int .u64 (a : Int)) ∧ SqAt w' P M (Gf.rm m (Gf.mul a a)) m ∧ Only (fun k => k = P) w w' := by
  have HT := Lib.hid (fun W => times_any ha ha h64 hm W)
  have c1 : w.cell? ⟨P, 0, none⟩ = some (.int .u64 (a : Int)) := by rw [cell_of h.now]; rfl
  have c2 : w.cell? ⟨M, 0, none⟩ = some (.int .u64 (m : Int)) := by rw [cell_of h.by']; rfl
  have H := Lib.hid h
  generalize Gf.rm m (Gf.mul a a) = R at *
  clear h
  go_enter Try.func53, Try.ntmps53
  go_wp2_with (go_at_call 54; refine (HT.out _).mono ?_; rintro e w1 ⟨rfl, hq⟩; have H1 := Lib.hid (H.out.keep hq); have c3 : w1.cell? ⟨P, 0, none⟩ = some (.int .u64 (a : Int)) := (by rw [cell_of H1.out.now]; rfl); have f3 := frozen_of H1.out.now 0; have HQ := Lib.hid hq; clear hq)
  go_ret
  refine ⟨rfl, ⟨?_, ?_, H.out.ne⟩, ?_⟩
  · have := heap_setCell_self H1.out.now 0 (.int .u64 (R : Int))
    simpa using this
  · rw [heap_setCell_ne _ _ (fun x => H.out.ne x.symm)]; exact H1.out.by'
  · exact (HQ.out.mono (fun _ _ x => x.elim)).trans (Only.setCell ⟨P, 0, none⟩ _)

theorem heap_alloc_self (w : World) (x : Obj) : (w.alloc x).heap[w.heap.size]? = some x := by
  show (w.heap.push x)[w.heap.size]? = _
  simp

set_option maxRecDepth 100000 in
theorem squarings_any {m : Nat} (h64 : m < 18446744073709551616) (hm : m ≠ 0) (w : World) :
    Calls Try.prog 45 #[.int .u64 (m : Int)] w fun e w' => ∃ P M, e = .returned (.func (.func 53) #[] #[.pointer (some ⟨P, 0, none⟩), .pointer (some ⟨M, 0, none⟩)]) ∧ SqAt w' P M (Gf.rm m 2) m ∧ w.heap.size ≤ P ∧ w.heap.size ≤ M ∧ Quiet w w' := by
  have HR := Lib.hid (fun W => remainder_any (hi := 0) (lo := 2) (by omega) (by omega) h64 hm W)
  rw [Gf.pr_lo] at HR
  generalize Gf.rm m 2 = R at *
  obtain ⟨w0, hw0⟩ : ∃ w0, w0 = w.alloc (.cells #[.int .u64 (m : Int)] 22) := ⟨_, rfl⟩
  have hb0 : w0.heap[w.heap.size]? = some (.cells #[.int .u64 (m : Int)] 22 (0, 0)) := by rw [hw0]; exact heap_alloc_self _ _
  have HB := Lib.hid hb0
  have HO : Hid (Quiet w w0) := by rw [hw0]; exact Only.alloc _
  have hc0 : (w.alloc (.cells #[.int .u64 (m : Int)] 22)).cell? ⟨w.heap.size, 0, none⟩ = some (.int .u64 (m : Int)) := by rw [← hw0, cell_of hb0]; rfl
  have hmf : ∀ (fn : Fn) (first cap : Array Value) (w : World), (Instr.makeFunc fn first cap).run Try.prog w = .ok (.func fn first cap) w := fun _ _ _ _ => rfl
  go_enter Try.func45, Try.ntmps45
  go_wp2_with (go_at_call 49; rw [← hw0]; refine (HR.out _).mono ?_; rintro e w1 ⟨rfl, hq⟩; have HQ := Lib.hid hq; clear hq)
  go_ret
  have hk := HQ.out.keep HB.out (fun x => x)
  have hlt := lt_of_heap hk
  exact ⟨w1.heap.size, w.heap.size, rfl, ⟨heap_alloc_self _ _, heap_alloc_old' hk, by omega⟩, by omega, Nat.le_refl _, (HO.out.trans HQ.out).trans (Only.alloc _)⟩

theorem bits_and_i64 (n : Nat) (hn : n < 9223372036854775808) : bits .and .i64 (n : Int) 1 = ((n % 2 : Nat) : Int) := by
  show IntKind.i64.wrap (((BitVec.ofInt 64 (n : Int) &&& BitVec.ofInt 64 ((1 : Nat) : Int)).toNat : Nat) : Int) = _
  rw [BitVec.ofInt_natCast, BitVec.ofInt_natCast, BitVec.toNat_and, BitVec.toNat_ofNat, BitVec.toNat_ofNat, Nat.mod_eq_of_lt (by omega : n < 2 ^ 64), Nat.mod_eq_of_lt (by decide : 1 < 2 ^ 64), Nat.and_one_is_mod]
  simp [IntKind.wrap, IntKind.bits, IntKind.signed]
  omega

namespace Gf
theorem pow_odd {m p s k : Nat} (hm : m ≠ 0) : Cg m (mul p (pw s (2 * k + 1))) (mul (rm m (mul p s)) (pw (rm m (mul s s)) k)) := by
  rw [pw_odd, mul_comm (pw (mul s s) k) s, ← mul_assoc]
  exact (cg_rm hm (mul p s)).mul ((cg_rm hm (mul s s)).pw k)
theorem pow_even {m p s k : Nat} (hm : m ≠ 0) : Cg m (mul p (pw s (2 * k))) (mul p (pw (rm m (mul s s)) k)) := by
  rw [pw_even]
  exact (Cg.refl m p).mul ((cg_rm hm (mul s s)).pw k)
theorem pow_begin {m : Nat} (hm : m ≠ 0) (n : Nat) : Cg m (pw 2 n) (mul (rm m 1) (pw (rm m 2) n)) := by
  have := (cg_rm hm 1).mul ((cg_rm hm 2).pw n)
  rwa [one_mul] at this
theorem pow_end {m p s n : Nat} (hm : m ≠ 0) (hp : rm m p = p) (h : Cg m (pw 2 n) (mul p (pw s 0))) : rm m (pw 2 n) = p := by
  rw [rm_cg hm h]
  simp only [pw, mul_one]
  exact hp
end Gf

set_option maxRecDepth 100000 in
set_option maxHeartbeats 1000000 in
/-- poly.Power. -/
theorem power_any {m n : Nat} (h64 : m < 18446744073709551616) (hm : m ≠ 0) (hn : n < 9223372036854775808) (w : World) :
    Calls Try.prog 50 #[.int .i64 (n : Int), .int .u64 (m : Int)] w fun e w' => e = .returned (.tuple #[.int .u64 (Gf.rm m (Gf.pw 2 n) : Int), .nilIface]) ∧ Quiet w w' := by
  have HS := Lib.hid (fun W => squarings_any h64 hm W)
  have HR := Lib.hid (fun W => remainder_any (hi := 0) (lo := 1) (by omega) (by omega) h64 hm W)
  have HT : Hid (∀ (a b : Nat) (W : World), a < 18446744073709551616 → b < 18446744073709551616 → Calls Try.prog 54 #[.int .u64 (a : Int), .int .u64 (b : Int), .int .u64 (m : Int)] W (Word W (Gf.rm m (Gf.mul a b)))) := fun a b W ha hb => times_any ha hb h64 hm W
  rw [Gf.pr_lo] at HR
  have h0 : ¬ (m : Int) = 0 := by omega
  have h1 : ¬ (n : Int) < 0 := by omega
  have HB := Lib.hid (Gf.pow_begin hm n)
  have hX1 := Gf.rm_64 1 h64
  have hX2 := Gf.rm_64 2 h64
  have HX1 := Lib.hid (Gf.rm_rm hm 1)
  generalize Gf.rm m 1 = X1 at *
  generalize Gf.rm m 2 = X2 at *
  go_enter Try.func50, Try.ntmps50
  go_wp2_with (first
    | (go_at_call 45; refine (HS.out _).mono ?_; rintro e w1 ⟨P, M, rfl, hsq, hP, hM, hq⟩; have HSQ := Lib.hid hsq; have HPM := Lib.hid (And.intro hP hM); have HQ := Lib.hid hq; clear hsq hP hM hq)
    | (go_at_call 49; refine (HR.out _).mono ?_; rintro e w2 ⟨rfl, hq⟩; have HQ2 := Lib.hid hq; clear hq))
  go_loopw [0, 7] (fun nv pv wr => ∃ k p s : Nat, nv = .int .i64 (k : Int) ∧ pv = .int .u64 (p : Int) ∧ k < 9223372036854775808 ∧ p < 18446744073709551616 ∧ s < 18446744073709551616 ∧ Gf.rm m p = p ∧ Gf.Cg m (Gf.pw 2 n) (Gf.mul p (Gf.pw s k)) ∧ SqAt wr P M s m ∧ Quiet w wr) (fun nv _ _ => (intOf nv).toNat)
  case atStart => exact ⟨n, X1, X2, rfl, rfl, hn, hX1, hX2, HX1.out, HB.out, HSQ.out.keep HQ2.out, HQ.out.trans HQ2.out⟩
  case round =>
    clear HSQ HQ HQ2
    obtain ⟨k, p, s, rfl, rfl, hk, hp, hs, hrp, hc, hsq, hq⟩ := hrel
    have HSQ := Lib.hid hsq
    have HQ := Lib.hid hq
    have HC := Lib.hid hc
    have HRP := Lib.hid hrp
    clear hsq hq hc hrp
    by_cases hk0 : k = 0
    · subst hk0
      have HE := Lib.hid (Gf.pow_end hm HRP.out HC.out)
      rw [show ((0 : Nat) : Int) = 0 from rfl]
      go_wp2
      go_ret2
      exact ⟨by rw [HE.out]; rfl, HQ.out⟩
    · have hkp : (k : Int) > 0 := by omega
      have HN := Lib.hid (squared_any HSQ.out hs h64 hm)
      have hb := bits_and_i64 k hk
      have hs' := Gf.rm_64 (Gf.mul s s) h64
      have HPS := Lib.hid (fun W => HT.out p s W hp hs)
      have hY := Gf.rm_64 (Gf.mul p s) h64
      have HYY := Lib.hid (Gf.rm_rm hm (Gf.mul p s))
      have HO := Lib.hid (fun j => Gf.pow_odd (p := p) (s := s) (k := j) hm)
      have HEV := Lib.hid (fun j => Gf.pow_even (p := p) (s := s) (k := j) hm)
      generalize Gf.rm m (Gf.mul s s) = s' at *
      generalize Gf.rm m (Gf.mul p s) = Y at *
      rcases Nat.mod_two_eq_zero_or_one k with hmod | hmod
      · rw [hmod] at hb
        go_wp2_with (go_at_call 53; refine HN.out.mono ?_; rintro e w3 ⟨rfl, hsq, ho⟩; have HSQ3 := Lib.hid hsq; have HO3 := Lib.hid ho; clear hsq ho)
        go_roundw
        case rel =>
          refine ⟨k / 2, p, s', by simp, rfl, by omega, hp, hs', HRP.out, ?_, HSQ3.out, HQ.out.andThen HO3.out (fun j hj x => by have := HPM.out.1; omega)⟩
          refine HC.out.trans ?_
          have := HEV.out (k / 2)
          rwa [show 2 * (k / 2) = k by omega] at this
        case measure => simp [intOf]; omega
      · rw [hmod] at hb
        go_wp2_with (first
          | (go_at_call 53; refine HN.out.mono ?_; rintro e w3 ⟨rfl, hsq, ho⟩; have HSQ3 := Lib.hid hsq; have HO3 := Lib.hid ho; clear hsq ho)
          | (go_at_call 54; refine (HPS.out _).mono ?_; rintro e w4 ⟨rfl, hq⟩; have HQ4 := Lib.hid hq; clear hq))
        go_roundw
        case rel =>
          refine ⟨k / 2, Y, s', by simp, rfl, by omega, hY, hs', HYY.out, ?_, HSQ3.out.keep HQ4.out, (HQ.out.andThen HO3.out (fun j hj x => by have := HPM.out.1; omega)).trans HQ4.out⟩
          refine HC.out.trans ?_
          have := HO.out (k / 2)
          rwa [show 2 * (k / 2) + 1 = k by omega] at this
        case measure => simp [intOf]; omega

end Go.Proofs.Ytobiajjcnpflgaa
