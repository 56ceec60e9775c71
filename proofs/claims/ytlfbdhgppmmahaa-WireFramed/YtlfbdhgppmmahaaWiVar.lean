/- wire.Var: short numbers are written. Conditions: the row is far from an int's end. -/
import Derived.Test.YtlfbdhgppmmahaaWiPure
import Derived.Test.YtlfbdhgppmmahaaGRow
namespace Go.Proofs.Ytlfbdhgppmmahaa
open Go.RowKit

theorem one_byte_of {w : World} {u : Value} {b : UInt8} (h : u = byteV b) : BytesAt (w.alloc (.cells #[u] 5)) (fun k => k = w.heap.size) (.slice (some ⟨w.heap.size, 0, none⟩) 1 1) [b] := by
  subst h; exact one_byte w b

theorem u8_or (a : Nat) (h : a < 256) : bits .or .u8 (a : Int) 128 = (((UInt8.ofNat (a % 128 + 128)).toNat : Nat) : Int) := by
  have : ∀ b : Fin 256, bits .or .u8 ((b.val : Nat) : Int) 128 = (((UInt8.ofNat (b.val % 128 + 128)).toNat : Nat) : Int) := by decide +kernel
  exact this ⟨a, h⟩

set_option maxRecDepth 100000 in
set_option maxHeartbeats 1000000 in
theorem addVar_any {w wr : World} {ov : Value} {xs : List UInt8} (h : Row w wr ov xs) {n : Nat} (hn : n < 9223372036854775808) (hl : xs.length ≤ 1099511627776) :
    Calls Try.prog 16 #[ov, .int .i64 (n : Int)] wr fun e w' => ∃ a c, e = .returned (.slice a (xs ++ Wi.var n).length c) ∧ Row w w' (.slice a (xs ++ Wi.var n).length c) (xs ++ Wi.var n) := by
  obtain ⟨oa, oc, rfl⟩ := h.shape
  have H := Lib.hid h
  have hvl : (Wi.var n).length ≤ 9 := Wi.var_length 8 n (by simpa using hn)
  obtain ⟨R, hR⟩ : ∃ R, R = xs ++ Wi.var n := ⟨_, rfl⟩
  have hRl : R.length ≤ 1099511627776 + 9 := by rw [hR, List.length_append]; omega
  have HRl := Lib.hid hRl
  rw [← hR]
  have HREL : Hid (R = xs ++ Wi.var n) := hR
  clear h hvl hR hRl
  go_enter Try.func16, Try.ntmps16
  go_wp2
  go_loopw [0, 1] (fun ov iv wr => ∃ (m : Nat) (ys : List UInt8), iv = .int .i64 m ∧ m < 9223372036854775808 ∧ Row w wr ov ys ∧ R = ys ++ Wi.var m) (fun _ iv _ => (intOf iv).toNat)
  case atStart => exact ⟨n, xs, rfl, hn, H.out, HREL.out⟩
  case round =>
    obtain ⟨m, ys, rfl, hm, hr, he⟩ := hrel
    obtain ⟨ra, rc, rfl⟩ := hr.shape
    have HR := Lib.hid hr
    have HE := Lib.hid he
    have HROW : Hid (∀ x, (wr.alloc x).ownsRow 0 5 1 (.slice ra ys.length rc) ys.length (ys.map byteV)) := fun x => hr.row.alloc x
    have HYL : Hid (ys.length + 1 ≤ 140737488355328) := by
      have := HRl.out; have := Wi.var_pos m; rw [he, List.length_append] at HRl; have := HRl.out; unfold Hid; omega
    clear hr he
    by_cases hlt : m < 128
    · have hlt' : ¬ (m : Int) ≥ 128 := by omega
      have HSRC : Hid (BytesAt (wr.alloc (.cells #[.int .u8 (m : Int)] 5)) (fun k => k = wr.heap.size) (.slice (some ⟨wr.heap.size, 0, none⟩) 1 1) [UInt8.ofNat m]) := one_byte_of (by unfold byteV; rw [byte_of_nat]; congr 1; omega)
      go_wp2_with (at_builtin; refine wpList_append_bytes _ rfl _ _ rfl (.slice ra ys.length rc) (.slice (some ⟨wr.heap.size, 0, none⟩) 1 1) ys.length (ys.map byteV) rfl rfl (HROW.out _) HSRC.out HYL.out ?_; intro a1 c1 w1 hr1 hg1 hat1; have HN := Lib.hid (HR.out.app (Only.alloc _) rfl hr1 hg1 hat1); clear hr1 hg1 hat1)
      go_ret
      have e : R = ys ++ [UInt8.ofNat m] := by rw [HE.out, Wi.var_small hlt]
      refine ⟨a1, c1, ?_, ?_⟩
      · rw [e]; simp
      · rw [e]; simpa using HN.out
    · have hlt' : (m : Int) ≥ 128 := by omega
      have HSRC : Hid (BytesAt (wr.alloc (.cells #[.int .u8 (bits .or .u8 ((m : Int) % 256) 128)] 5)) (fun k => k = wr.heap.size) (.slice (some ⟨wr.heap.size, 0, none⟩) 1 1) [UInt8.ofNat (m % 128 + 128)]) := one_byte_of (by
        have := u8_or (m % 256) (by omega)
        rw [show (m % 256) % 128 = m % 128 by omega] at this
        unfold byteV
        rw [← this]
        congr 2)
      go_wp2_with (at_builtin; refine wpList_append_bytes _ rfl _ _ rfl (.slice ra ys.length rc) (.slice (some ⟨wr.heap.size, 0, none⟩) 1 1) ys.length (ys.map byteV) rfl rfl (HROW.out _) HSRC.out HYL.out ?_; intro a1 c1 w1 hr1 hg1 hat1; have HN := Lib.hid (HR.out.app (Only.alloc _) rfl hr1 hg1 hat1); clear hr1 hg1 hat1)
      go_roundw
      case rel =>
        refine ⟨m / 128, ys ++ [UInt8.ofNat (m % 128 + 128)], by go_num, by omega, HN.out, ?_⟩
        rw [HE.out, Wi.var_big (by omega)]; simp
      case measure => simp [intOf]; omega

theorem Row.nil (w : World) : Row w w (.slice none 0 0) [] := ⟨⟨rfl, .inl ⟨rfl, rfl⟩⟩, fun _ h => (by cases h), Only.refl _ _⟩

/-- wire.Var of a number from 0 on. -/
theorem wVar_any {w : World} {n : Nat} (hn : n < 9223372036854775808) :
    Calls Try.prog 15 #[.int .i64 (n : Int)] w fun e w' => ∃ a c, e = .returned (.slice a (Wi.var n).length c) ∧ Row w w' (.slice a (Wi.var n).length c) (Wi.var n) := by
  have HV := Lib.hid (addVar_any (Row.nil w) hn (by simp))
  rw [List.nil_append] at HV
  have h0 : ¬ (n : Int) < 0 := by omega
  generalize Wi.var n = V at *
  go_enter Try.func15, Try.ntmps15
  go_wp2_with (go_at_call 16; refine HV.out.mono ?_; rintro e w' ⟨a, c, rfl, hr⟩; have HR := Lib.hid hr; clear hr)
  go_ret
  exact ⟨a, c, rfl, HR.out⟩

theorem wVar_neg {w : World} {n : Int} (hn : n < 0) : Calls Try.prog 15 #[.int .i64 n] w fun e w' => e = .returned (.slice none 0 0) ∧ w' = w := by
  go_enter Try.func15, Try.ntmps15
  go_wp2
  go_ret
  exact ⟨rfl, rfl⟩

end Go.Proofs.Ytlfbdhgppmmahaa
