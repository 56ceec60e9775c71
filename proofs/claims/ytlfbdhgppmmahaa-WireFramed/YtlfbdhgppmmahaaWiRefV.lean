/- The document's own ReadVar. Conditions: none. -/
import Derived.Test.YtlfbdhgppmmahaaWiRefN
import Derived.Deep.RegionLaw
namespace Go.Proofs.Ytlfbdhgppmmahaa
open Go.RowKit

theorem BytesAt.pre {w : World} {S : Nat → Prop} {a : Option Addr} {n c k : Nat} {bs : List UInt8} (h : BytesAt w S (.slice a n c) bs) (hk : k ≤ bs.length) : BytesAt w S (.slice a k c) (bs.take k) := by
  rcases h with ⟨e, rfl⟩ | ⟨ad, c', e, hc, h2, h3⟩
  · obtain ⟨rfl, rfl, rfl⟩ := Value.slice.inj e
    have : k = 0 := by simpa using hk
    subst this
    exact .inl ⟨rfl, rfl⟩
  · obtain ⟨rfl, rfl, rfl⟩ := Value.slice.inj e
    have hl : (bs.take k).length = k := by simp; omega
    refine .inr ⟨ad, c, by rw [hl], by omega, fun hne => h2 (fun e => hne (by rw [e]; simp)), fun j x hx => h3 j x ?_⟩
    rw [List.getElem?_take] at hx
    split at hx
    · exact hx
    · cases hx

theorem BytesAt.cap {w : World} {S : Nat → Prop} {a : Option Addr} {n c : Nat} {bs : List UInt8} (h : BytesAt w S (.slice a n c) bs) : bs.length ≤ c := by
  rcases h with ⟨e, rfl⟩ | ⟨ad, c', e, hc, h2, h3⟩
  · simp
  · obtain ⟨rfl, rfl, rfl⟩ := Value.slice.inj e
    exact hc

set_option maxRecDepth 100000 in
set_option maxHeartbeats 2000000 in
theorem r4ReadVar_any {w : World} {S : Nat → Prop} {v : Value} {bs : List UInt8} (hv : BytesAt w S v bs) (hS : ∀ k, S k → k < w.heap.size) (_hlen : bs.length ≤ 140737488355328) :
    Calls Try.prog 28 #[v] w fun e w' => Only (fun _ => False) w w' ∧ ((∃ n k, Wi.readVar bs = some (n, k) ∧ e = .returned (.tuple #[.int .i64 (n : Int), .int .i64 (k : Int), .int .i64 0])) ∨ (Wi.readVar bs = none ∧ e = .returned (.tuple #[.int .i64 0, .int .i64 0, .int .i64 9]))) := by
  obtain ⟨va, vc, rfl⟩ := hv.shape
  have HV := Lib.hid hv
  have HS := Lib.hid hS
  clear hv hS
  go_enter Try.func28, Try.ntmps28
  go_wp2
  go_loopw [5, 6, 7] (fun nv uv iv wr => ∃ i acc : Nat, ∃ U : Int, nv = .int .i64 acc ∧ uv = .int .i64 U ∧ iv = .int .i64 i ∧ i ≤ 9 ∧ i ≤ bs.length ∧ acc < 128 ^ i ∧ (i < 9 → U = 128 ^ i) ∧ Wi.readVar bs = Wi.rv i acc (bs.drop i) ∧ wr = w) (fun _ _ iv _ => 9 - (intOf iv).toNat)
  case atStart => exact ⟨0, 0, 1, rfl, rfl, rfl, by omega, Nat.zero_le _, by simp, fun _ => rfl, rfl, rfl⟩
  case round =>
    obtain ⟨i, acc, U, rfl, rfl, rfl, hi9, hil, hacc, hU, hrv, rfl⟩ := hrel
    by_cases hlt : i < bs.length ∧ i < 9
    · obtain ⟨ad, rfl, hc⟩ := HV.out.byte (i := i) (by omega)
      have pz : 0 ≤ (i : Int) := by omega
      have mz : (i : Int) < (bs.length : Int) := by omega
      have nz : (i : Int) < 9 := by omega
      have hst := Wi.rv_step (b := bs) (i := i) (acc := acc) (by omega) (by omega)
      have hx := (bs.getD i 0).toNat_lt
      obtain ⟨X, hX⟩ : ∃ X, (bs.getD i 0).toNat = X := ⟨_, rfl⟩
      rw [hX] at hc hst hx
      rw [hst] at hrv
      obtain ⟨d, hd⟩ : ∃ d, X % 128 = d := ⟨_, rfl⟩
      have hd' : (X : Int) % 128 = (d : Int) := by omega
      obtain ⟨acc2, hacc2⟩ : ∃ acc2, acc2 = acc + d * 128 ^ i := ⟨_, rfl⟩
      have hdig : Digit i acc d acc2 := by rw [hacc2]; exact digit_of (by omega) hacc (by omega)
      have hU' : U = ((128 ^ i : Nat) : Int) := by rw [hU hlt.2]; simp
      obtain ⟨P, hP⟩ : ∃ P, P = d * 128 ^ i := ⟨_, rfl⟩
      have hmul : (d : Int) * U = (P : Int) := by rw [hU', hP]; simp
      have htop := hdig.top
      have hsum : acc2 = acc + P := by rw [hacc2, hP]
      have hd128 := hdig.small
      have HDIG := Lib.hid hdig
      have HRV := Lib.hid hrv
      have HACC : Hid (acc2 = acc + d * 128 ^ i) := hacc2
      obtain ⟨V, hV⟩ : ∃ V, V = wrap64 (U * 128) := ⟨_, rfl⟩
      have HVV : Hid (i + 1 < 9 → V = 128 ^ (i + 1)) := by
        intro h
        have hp := Nat.pow_le_pow_right (n := 128) (by omega) (show i + 1 ≤ 8 by omega)
        rw [hV, hU', Int.pow_succ]
        rw [show ((128 ^ i : Nat) : Int) * 128 = ((128 ^ (i + 1) : Nat) : Int) by rw [Nat.pow_succ]; simp]
        rw [IntWalk.wrap64_in _ (by have : (128:Nat)^8 = 72057594037927936 := by decide
                                    omega)]
        rw [Nat.pow_succ]; simp
      have wm : IntKind.i64.wrap ((d : Int) * U) = (P : Int) := by rw [hmul]; exact IntWalk.i64_in _ (by omega)
      have ws : IntKind.i64.wrap ((acc : Int) + (P : Int)) = (acc2 : Int) := by rw [hsum]; exact IntWalk.i64_in _ (by omega)
      have wm' : wrap64 ((d : Int) * U) = (P : Int) := by rw [← IntWalk.i64_left]; exact wm
      have ws' : wrap64 ((acc : Int) + (P : Int)) = (acc2 : Int) := by rw [← IntWalk.i64_left]; exact ws
      have wv : wrap64 (U * 128) = V := hV.symm
      clear hst hrv hacc hacc2 hdig hP hU hU' hmul hV hsum
      by_cases hbig : 128 ≤ X
      · have hne : ¬ (X : Int) < 128 := by omega
        rw [if_pos hbig, hd, ← HACC.out] at HRV
        go_wp2
        rw [wv]
        exact ⟨⟨i + 1, acc2, V, rfl, rfl, by go_num, by omega, by omega, HDIG.out.lt, HVV.out, HRV.out, trivial⟩, by simp [intOf]; omega⟩
      · have hne : (X : Int) < 128 := by omega
        have hXd : X = d := by omega
        rw [if_neg hbig, hXd, ← HACC.out] at HRV
        clear hXd
        have w1 : IntKind.i64.wrap ((i : Int) + 1) = (i : Int) + 1 := IntWalk.i64_in _ (by omega)
        have hcon : ∀ W : World, Only (fun _ => False) wr W → (convert 22 9 (.slice (some ad) (i + 1) vc)).run Try.prog W = .ok (.string ⟨(bs.take (i + 1)).toArray⟩) W := fun W ho => ((HV.out.pre (k := i + 1) (by omega)).only ho HS.out (fun _ _ x => x)).text
        have hsl : ∀ W : World, (Instr.slice 22 (.slice (some ad) bs.length vc) none (some (.int .i64 ((i : Int) + 1))) none).run Try.prog W = .ok (.slice (some ad) (i + 1) vc) W := slice_h (a := some ad) (n := bs.length) (cap := vc) (m := i + 1) (by have := HV.out.cap; omega)
        have HC := Lib.hid (fun W => r4Var_any (w := W) (n := acc2) htop)
        have hn1 : ∀ W, Only (fun _ => False) wr W → Only (fun _ => False) wr W.drew := fun W h => h.trans Only.drew
        go_wp2
        have hor : Only (fun _ => False) wr wr := Only.refl _ _
        have hod : Only (fun _ => False) wr wr.drew := Only.drew
        go_region_law ((first | (go_simp; go_at_call 24; refine (HC.out _).mono ?_; rintro e w5 ⟨a5, c5, rfl, hr5⟩; have ho5 : Only (fun _ => False) wr w5 := Only.trans (by assumption) hr5.only; have ht5 := hr5.bytes.text)))
        all_goals (
          have HO5 := Lib.hid ho5
          have hiff := Wi.readVar_iff (b := bs) (n := acc2) (k := i + 1) (by omega) (by omega) htop
          clear hcon hsl ht5 hr5 ho5 hor hod
          by_cases hz : d = 0 ∧ 0 < i
          · rw [if_pos hz] at HRV
            have hb : (Wi.var acc2 == bs.take (i + 1)) = false := by
              rw [beq_eq_false_iff_ne]
              intro e
              rw [hiff.1 e] at HRV
              cases HRV.out
            rw [hb]
            clear hiff
            go_wp2
            go_ret3
            exact ⟨HO5.out, .inr ⟨HRV.out, rfl⟩⟩
          · rw [if_neg hz] at HRV
            have hb : (Wi.var acc2 == bs.take (i + 1)) = true := by
              rw [beq_iff_eq]
              exact hiff.2 HRV.out
            rw [hb]
            clear hiff
            go_wp2
            go_ret3
            exact ⟨HO5.out, .inl ⟨acc2, i + 1, HRV.out, rfl⟩⟩)
    · have HEND : Hid (Wi.readVar bs = none) := by rw [Hid, hrv]; exact Wi.rv_end (by omega)
      clear hrv hacc
      by_cases hl : (i : Int) < (bs.length : Int)
      · have h9 : ¬ (i : Int) < 9 := by omega
        clear hlt
        go_wp2
        go_ret3
        exact ⟨Only.refl _ _, .inr ⟨HEND.out, rfl⟩⟩
      · clear hlt
        go_wp2
        go_ret3
        exact ⟨Only.refl _ _, .inr ⟨HEND.out, rfl⟩⟩

end Go.Proofs.Ytlfbdhgppmmahaa
