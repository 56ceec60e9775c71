/- Rows of words; poly.Sum, MulMod, Gcd. Conditions: rows within the reach. -/
import Derived.Test.YtobiajjcnpflgaaPoRem
namespace Go.Proofs.Ytobiajjcnpflgaa
open Go.RowKit

/-- v holds the words xs; its block is one of S. -/
def NumsAt (w : World) (S : Nat → Prop) (v : Value) (xs : List Nat) : Prop :=
  ∃ a c, v = .slice a xs.length c ∧ xs.length ≤ c ∧ ∀ i (hi : i < xs.length), ∃ ad, a = some ad ∧ S ad.block ∧ w.cell? (ad.add i) = some (.int .u64 (xs[i] : Int)) ∧ xs[i] < 18446744073709551616

theorem NumsAt.kept {w w' : World} {S S' : Nat → Prop} {v : Value} {xs : List Nat} (h : NumsAt w S v xs) (hk : ∀ k, S k → w'.heap[k]? = w.heap[k]?) (hs : ∀ k, S k → S' k) : NumsAt w' S' v xs := by
  obtain ⟨a, c, h1, hc, h2⟩ := h
  refine ⟨a, c, h1, hc, fun i hi => ?_⟩
  obtain ⟨ad, e1, e2, e3, e4⟩ := h2 i hi
  exact ⟨ad, e1, hs _ e2, by rw [World.cell?_of_block (w := w) (by rw [add_block]; exact hk _ e2)]; exact e3, e4⟩
theorem NumsAt.quiet {w w' : World} {S : Nat → Prop} {v : Value} {xs : List Nat} (h : NumsAt w S v xs) (hq : Quiet w w') (hS : ∀ k, S k → k < w.heap.size) : NumsAt w' S v xs :=
  h.kept (fun k hk => hq.block k (hS k hk) (fun x => x)) (fun _ x => x)
theorem NumsAt.lt {w : World} {S : Nat → Prop} {v : Value} {xs : List Nat} (h : NumsAt w S v xs) (i : Nat) (hi : i < xs.length) : xs[i] < 18446744073709551616 := by
  obtain ⟨a, c, h1, hc, h2⟩ := h
  obtain ⟨ad, e1, e2, e3, e4⟩ := h2 i hi
  exact e4

theorem NumsAt.cell {w : World} {S : Nat → Prop} {a : Option Addr} {n c : Nat} {xs : List Nat} (h : NumsAt w S (.slice a n c) xs) (i : Nat) (hi : i < xs.length) :
    ∃ ad, a = some ad ∧ S ad.block ∧ w.cell? (ad.add i) = some (.int .u64 (xs[i] : Int)) ∧ xs[i] < 18446744073709551616 := by
  obtain ⟨a', c', h1, hc, h2⟩ := h
  obtain ⟨rfl, rfl, rfl⟩ := Value.slice.inj h1
  exact h2 i hi

namespace Gf
/-- The sum, the product and the divisor of a list. -/
def sm (xs : List Nat) : Nat := xs.foldl (· ^^^ ·) 0
def pd (xs : List Nat) : Nat := xs.foldl mul 1
noncomputable def gs (xs : List Nat) : Nat := xs.foldl gc 0
theorem take_next {xs : List Nat} {i : Nat} (h : i < xs.length) : xs.take (i + 1) = xs.take i ++ [xs[i]] := (List.take_append_getElem h).symm
theorem sm_next {xs : List Nat} {i : Nat} (h : i < xs.length) : sm (xs.take (i + 1)) = sm (xs.take i) ^^^ xs[i] := by unfold sm; rw [take_next h, List.foldl_append]; rfl
theorem pd_next {xs : List Nat} {i : Nat} (h : i < xs.length) : pd (xs.take (i + 1)) = mul (pd (xs.take i)) xs[i] := by unfold pd; rw [take_next h, List.foldl_append]; rfl
theorem gs_next {xs : List Nat} {i : Nat} (h : i < xs.length) : gs (xs.take (i + 1)) = gc (gs (xs.take i)) xs[i] := by unfold gs; rw [take_next h, List.foldl_append]; rfl
end Gf

set_option maxRecDepth 100000 in
theorem sum_any {w : World} {S : Nat → Prop} {v : Value} {xs : List Nat} (hv : NumsAt w S v xs) (hn : xs.length ≤ 140737488355328) :
    Calls Try.prog 47 #[v] w fun e w' => e = .returned (.int .u64 (Gf.sm xs : Int)) ∧ w = w' := by
  obtain ⟨va, vc, rfl, hcp, hat⟩ := hv
  have HAT := Lib.hid hat
  clear hat
  go_enter Try.func47, Try.ntmps47
  go_wp2
  go_loop [3, 8] (fun sv iv => ∃ i s : Nat, i ≤ xs.length ∧ iv = .int .i64 i ∧ sv = .int .u64 (s : Int) ∧ s < 18446744073709551616 ∧ s = Gf.sm (xs.take i)) (fun _ iv => xs.length - (intOf iv).toNat)
  case atStart => exact ⟨0, 0, Nat.zero_le _, rfl, rfl, by omega, by simp [Gf.sm]⟩
  case round =>
    obtain ⟨i, s, hi, rfl, rfl, hs, he⟩ := hrel
    have HE := Lib.hid he
    clear he
    by_cases hlt : i < xs.length
    · obtain ⟨ad, rfl, hsb, hcell, h64⟩ := HAT.out i hlt
      have HN := Lib.hid (Gf.sm_next hlt)
      generalize xs[i] = x at *
      have pz : 0 ≤ (i : Int) := by omega
      have mz : (i : Int) < (xs.length : Int) := by omega
      have ex := bits_xor_u64 s x hs h64
      have hX := Gf.xor64 hs h64
      generalize hXX : s ^^^ x = X at *
      go_wp2
      go_round
      case rel => exact ⟨i + 1, X, by omega, by go_num, rfl, hX, by rw [HN.out, ← HE.out, hXX]⟩
      case measure => simp [intOf]; omega
    · have e : xs.take i = xs := List.take_of_length_le (by omega)
      rw [e] at HE
      go_wp2
      go_ret
      exact ⟨by rw [← HE.out]; rfl, rfl⟩

set_option maxRecDepth 100000 in
theorem mulmod_any {w : World} {S : Nat → Prop} {v : Value} {xs : List Nat} {m : Nat} (hv : NumsAt w S v xs) (hS : ∀ k, S k → k < w.heap.size) (hn : xs.length ≤ 140737488355328) (h64 : m < 18446744073709551616) (hm : m ≠ 0) :
    Calls Try.prog 55 #[.int .u64 (m : Int), v] w fun e w' => e = .returned (.tuple #[.int .u64 (Gf.rm m (Gf.pd xs) : Int), .nilIface]) ∧ Quiet w w' := by
  have HR := Lib.hid (fun W => remainder_any (hi := 0) (lo := 1) (by omega) (by omega) h64 hm W)
  have HT : Hid (∀ (a b : Nat) (W : World), a < 18446744073709551616 → b < 18446744073709551616 → Calls Try.prog 54 #[.int .u64 (a : Int), .int .u64 (b : Int), .int .u64 (m : Int)] W (Word W (Gf.rm m (Gf.mul a b)))) := fun a b W ha hb => times_any ha hb h64 hm W
  have h0 : ¬ (m : Int) = 0 := by omega
  have HV := Lib.hid hv
  have HS := Lib.hid hS
  obtain ⟨va, vc, rfl, hcp, _⟩ := hv
  clear hS
  have e1 : Gf.rm m (Gf.pr 0 1) = Gf.rm m (Gf.pd (xs.take 0)) := by rw [Gf.pr_lo]; rfl
  rw [e1] at HR
  have hR := Gf.rm_64 (Gf.pd (xs.take 0)) h64
  obtain ⟨R, hRR⟩ : ∃ R, R = Gf.rm m (Gf.pd (xs.take 0)) := ⟨_, rfl⟩
  rw [← hRR] at HR hR
  have HRR := Lib.hid hRR
  clear hRR e1
  go_enter Try.func55, Try.ntmps55
  go_wp2_with (go_at_call 49; refine (HR.out _).mono ?_; rintro e w1 ⟨rfl, hq⟩; have HQ1 := Lib.hid hq; clear hq)
  go_loopw [6, 16] (fun sv iv wr => ∃ i s : Nat, i ≤ xs.length ∧ iv = .int .i64 i ∧ sv = .int .u64 (s : Int) ∧ s < 18446744073709551616 ∧ s = Gf.rm m (Gf.pd (xs.take i)) ∧ Quiet w wr) (fun _ iv _ => xs.length - (intOf iv).toNat)
  case atStart => exact ⟨0, R, Nat.zero_le _, rfl, rfl, hR, HRR.out, HQ1.out⟩
  case round =>
    obtain ⟨i, s, hi, rfl, rfl, hs, he, hq⟩ := hrel
    have HE := Lib.hid he
    have HQ := Lib.hid hq
    clear he hq HQ1
    by_cases hlt : i < xs.length
    · obtain ⟨ad, rfl, _, hcell, hx⟩ := (HV.out.quiet HQ.out HS.out).cell i hlt
      have HN := Lib.hid (Gf.pd_next hlt)
      have HX := Lib.hid (fun W => HT.out s xs[i] W hs hx)
      have hY := Gf.rm_64 (Gf.mul s xs[i]) h64
      have HY : Hid (Gf.rm m (Gf.mul s xs[i]) = Gf.rm m (Gf.pd (xs.take (i + 1)))) := Lib.hid (by rw [HN.out, HE.out, Gf.rm_mul hm])
      generalize Gf.rm m (Gf.mul s xs[i]) = Y at *
      generalize xs[i] = x at *
      have pz : 0 ≤ (i : Int) := by omega
      have mz : (i : Int) < (xs.length : Int) := by omega
      go_wp2_with (go_at_call 54; refine (HX.out _).mono ?_; rintro e w2 ⟨rfl, hq⟩; have HQ2 := Lib.hid hq; clear hq)
      go_roundw
      case rel => exact ⟨i + 1, Y, by omega, by go_num, rfl, hY, HY.out, HQ.out.trans HQ2.out⟩
      case measure => simp [intOf]; omega
    · have e : xs.take i = xs := List.take_of_length_le (by omega)
      rw [e] at HE
      go_wp2
      go_ret2
      exact ⟨by rw [← HE.out]; rfl, HQ.out⟩
theorem mulmod_zero (v : Value) (w : World) : Calls Try.prog 55 #[.int .u64 0, v] w fun e w' => e = .returned (.tuple #[.int .u64 0, errV 27]) ∧ w = w' := by
  go_enter Try.func55, Try.ntmps55
  go_wp2
  go_ret2
  exact ⟨rfl, rfl⟩

set_option maxRecDepth 100000 in
theorem gcd_any {w : World} {S : Nat → Prop} {v : Value} {xs : List Nat} (hv : NumsAt w S v xs) (hS : ∀ k, S k → k < w.heap.size) (hn : xs.length ≤ 140737488355328) :
    Calls Try.prog 46 #[v] w (Word w (Gf.gs xs)) := by
  have HR : Hid (∀ (a m : Nat) (W : World), a < 18446744073709551616 → m < 18446744073709551616 → m ≠ 0 → Calls Try.prog 49 #[.int .u64 0, .int .u64 (a : Int), .int .u64 (m : Int)] W (Word W (Gf.rm m a))) := fun a m W ha h64 hm => by
    have := remainder_any (hi := 0) (by omega) ha h64 hm W
    rwa [Gf.pr_lo] at this
  have HV := Lib.hid hv
  have HS := Lib.hid hS
  obtain ⟨va, vc, rfl, hcp, _⟩ := hv
  clear hS
  go_enter Try.func46, Try.ntmps46
  go_wp2
  go_loopw [3, 8] (fun sv iv wr => ∃ i s : Nat, i ≤ xs.length ∧ iv = .int .i64 i ∧ sv = .int .u64 (s : Int) ∧ s < 18446744073709551616 ∧ s = Gf.gs (xs.take i) ∧ Quiet w wr) (fun _ iv _ => xs.length - (intOf iv).toNat)
  case atStart => exact ⟨0, 0, Nat.zero_le _, rfl, rfl, by omega, by simp [Gf.gs], Only.refl _ _⟩
  case round =>
    obtain ⟨i, s, hi, rfl, rfl, hs, he, hq⟩ := hrel
    have HE := Lib.hid he
    have HQ := Lib.hid hq
    clear he hq
    by_cases hlt : i < xs.length
    · obtain ⟨ad, rfl, _, hcell, hx⟩ := (HV.out.quiet HQ.out HS.out).cell i hlt
      have HN := Lib.hid (Gf.gs_next hlt)
      generalize xs[i] = x at *
      have pz : 0 ≤ (i : Int) := by omega
      have mz : (i : Int) < (xs.length : Int) := by omega
      go_wp2
      go_loopw [3, 5] (fun dv pv wr => ∃ d p : Nat, dv = .int .u64 (d : Int) ∧ pv = .int .u64 (p : Int) ∧ d < 18446744073709551616 ∧ p < 18446744073709551616 ∧ Gf.gc s x = Gf.gc d p ∧ Quiet w wr) (fun _ pv _ => (intOf pv).toNat)
      case atStart => exact ⟨s, x, rfl, rfl, hs, hx, rfl, HQ.out⟩
      case round =>
        clear HQ hcell
        obtain ⟨d, p, rfl, rfl, hd, hp, hg, hq⟩ := hrel
        have HQ := Lib.hid hq
        have HG := Lib.hid hg
        clear hq hg
        by_cases h0 : p = 0
        · subst h0
          have hg := HG.out
          rw [Gf.gc_zero] at hg
          have HG2 := Lib.hid hg
          clear hg HG
          rw [show ((0 : Nat) : Int) = 0 from rfl]
          go_wp2
          go_roundw
          case rel => exact ⟨i + 1, d, by omega, by go_num, rfl, hd, by rw [HN.out, ← HE.out, HG2.out], HQ.out⟩
          case measure => simp [intOf]; omega
        · have h0' : ¬ (p : Int) = 0 := by omega
          have HX := Lib.hid (fun W => HR.out d p W hd hp h0)
          have hY := Gf.rm_64 d hp
          have hlt2 := Gf.rm_le d h0
          have HY := Lib.hid (Gf.gc_step (a := d) h0)
          generalize Gf.rm p d = Y at *
          go_wp2_with (go_at_call 49; refine (HX.out _).mono ?_; rintro e w2 ⟨rfl, hq⟩; have HQ2 := Lib.hid hq; clear hq)
          go_roundw
          case rel => exact ⟨p, Y, rfl, rfl, hp, hY, by rw [HG.out, HY.out], HQ.out.trans HQ2.out⟩
          case measure => simp [intOf]; omega
    · have e : xs.take i = xs := List.take_of_length_le (by omega)
      rw [e] at HE
      go_wp2
      go_ret
      exact ⟨by rw [← HE.out]; rfl, HQ.out⟩

end Go.Proofs.Ytobiajjcnpflgaa
