/- The document's Print; large. Conditions: rows within the reach. -/
import Derived.Test.YtobiajjcnpflgaaRbPrint
import Derived.Test.YtobiajjcnpflgaaPoRefG
namespace Go.Proofs.Ytobiajjcnpflgaa
open Go.RowKit

namespace Rb
theorem horner {o b : Nat} (hb : b < 256) : Gf.pr (o / 72057594037927936) ((o * 256 % 18446744073709551616) ||| b) = (o * 256) ^^^ b ∧ (o * 256 % 18446744073709551616) ||| b < 18446744073709551616 := by
  have e1 : (o * 256 % 18446744073709551616) ||| b = o * 256 % 18446744073709551616 + b := by
    have : o * 256 % 18446744073709551616 = (o % 72057594037927936) * 256 := by omega
    rw [this, or_byte _ _ hb]
  have e3 : (o * 256) ^^^ b = o * 256 + b := (shift_xor o b 8 hb).symm
  rw [e1, e3]
  unfold Gf.pr
  omega
end Rb

set_option maxRecDepth 100000 in
set_option maxHeartbeats 1000000 in
theorem r7print_any {w : World} {S : Nat → Prop} {v : Value} {bs : List UInt8} {p : Nat} (h64 : p < 18446744073709551616) (hp : p ≠ 0) (hv : BytesAt w S v bs) (hS : ∀ k, S k → k < w.heap.size) (hlen : bs.length ≤ 140737488355328) :
    Calls Try.prog 20 #[.int .u64 (p : Int), v] w fun e w' => e = .returned (.int .u64 (Rb.fp p bs : Int)) ∧ Quiet w w' := by
  have HM : Hid (∀ (a b : Nat) (W : World), a < 18446744073709551616 → b < 18446744073709551616 → Calls Try.prog 37 #[.int .u64 (a : Int), .int .u64 (b : Int), .int .u64 (p : Int)] W (Word W (Gf.rm p (Gf.pr a b)))) := fun a b W ha hb => r6mod_any ha hb h64 hp W
  have HSN := Lib.hid (fun l b => Rb.fp_snoc hp l b)
  have HNIL := Lib.hid (Rb.fp_nil hp)
  have H64 : Hid (∀ l, Rb.fp p l < 18446744073709551616) := fun l => Gf.rm_64 _ h64
  have HV := Lib.hid hv
  have HS := Lib.hid hS
  obtain ⟨va, vc, rfl⟩ := hv.shape
  clear hv hS h64 hp
  go_enter Try.func20, Try.ntmps20
  go_wp2
  go_loopw [5, 6] (fun ov iv wr => ∃ i : Nat, i ≤ bs.length ∧ iv = .int .i64 (i : Int) ∧ ov = .int .u64 (Rb.fp p (bs.take i) : Int) ∧ Quiet w wr) (fun _ iv _ => bs.length - (intOf iv).toNat)
  case atStart => exact ⟨0, Nat.zero_le _, rfl, by rw [List.take_zero, HNIL.out]; rfl, Only.refl _ _⟩
  case round =>
    obtain ⟨i, hi, rfl, rfl, hq⟩ := hrel
    have HQ := Lib.hid hq
    clear hq
    by_cases hlt : i < bs.length
    · obtain ⟨ad, rfl, hsb, hcell⟩ := (HV.out.only HQ.out HS.out (fun _ _ x => x)).nth hlt
      have HN := Lib.hid (HSN.out (bs.take i) bs[i])
      rw [List.take_append_getElem hlt] at HN
      have ho := H64.out (bs.take i)
      have hb := bs[i].toNat_lt
      generalize Rb.fp p (bs.take i) = o at *
      generalize bs[i].toNat = b at *
      have hb : b < 256 := hb
      obtain ⟨g1, g2⟩ := Rb.horner (o := o) hb
      obtain ⟨q, hq⟩ : ∃ q, o / 72057594037927936 = q := ⟨_, rfl⟩
      obtain ⟨y, hy⟩ : ∃ y, o * 256 % 18446744073709551616 = y := ⟨_, rfl⟩
      have e1 : (o : Int) / 72057594037927936 = (q : Int) := by omega
      have e2 : IntKind.u64.wrap ((o : Int) * 256) = (y : Int) := by rw [IntKind.wrap_u64]; omega
      rw [hq, hy] at g1
      rw [hy] at g2
      have hq64 : q < 18446744073709551616 := by omega
      have hy64 : y < 18446744073709551616 := by omega
      have o1 := bits_or_u64 y b hy64 (by omega)
      have HM1 := Lib.hid (fun W => HM.out q (y ||| b) W hq64 g2)
      rw [g1, ← HN.out] at HM1
      have pz : 0 ≤ (i : Int) := by omega
      have mz : (i : Int) < (bs.length : Int) := by omega
      clear g1 hq hy HN hsb
      generalize y ||| b = O at *
      go_wp2_with fail
      refine (HM1.out _).mono ?_
      rintro e w4 ⟨rfl, hq4⟩
      have HQ4 := Lib.hid (HQ.out.trans hq4)
      clear hq4
      go_wp2_with fail
      exact ⟨⟨i + 1, by omega, by go_num, rfl, HQ4.out⟩, by simp [intOf]; omega⟩
    · obtain rfl : i = bs.length := by omega
      rw [List.take_length]
      go_wp2_with fail
      go_ret
      exact ⟨rfl, HQ.out⟩

theorem large7_any {w : World} {va : Option Addr} {n vc : Nat} : Calls Try.prog 11 #[.slice va n vc] w fun e w' => e = .returned (.bool (decide (1500 < n))) ∧ w = w' := by
  by_cases h : 1500 < n
  · have hn : (n : Int) > 1500 := by omega
    have e0 : decide (1500 < n) = true := by simpa using h
    rw [e0]
    go_enter Try.func11, Try.ntmps11
    go_wp2
    go_ret
    exact ⟨rfl, rfl⟩
  · have hn : ¬ (n : Int) > 1500 := by omega
    have e0 : decide (1500 < n) = false := by simpa using h
    rw [e0]
    go_enter Try.func11, Try.ntmps11
    go_wp2
    go_ret
    exact ⟨rfl, rfl⟩

end Go.Proofs.Ytobiajjcnpflgaa
