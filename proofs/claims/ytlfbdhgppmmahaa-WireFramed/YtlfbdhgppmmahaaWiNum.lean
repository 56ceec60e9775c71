/- wire.Num, wire.ReadNum. Conditions: none. -/
import Derived.Test.YtlfbdhgppmmahaaWiRead
namespace Go.Proofs.Ytlfbdhgppmmahaa
open Go.RowKit

namespace Wi
def num (n : Int) : List UInt8 := (List.range 8).map fun i => UInt8.ofNat ((n / 256 ^ (7 - i)) % 256).toNat
def be (l : List UInt8) : Nat := l.foldl (fun a x => a * 256 + x.toNat) 0
theorem num_len (n : Int) : (num n).length = 8 := by simp [num]
theorem num_get (n : Int) {i : Nat} (h : i < 8) : (num n)[i]? = some (UInt8.ofNat ((n / 256 ^ (7 - i)) % 256).toNat) := by simp [num, h]
theorem be_succ (l : List UInt8) {i : Nat} (h : i < l.length) : be (l.take (i + 1)) = be (l.take i) * 256 + (l.getD i 0).toNat := by
  unfold be
  rw [List.take_succ_eq_append_getElem h, List.foldl_append]
  simp [h]
theorem be_lt (l : List UInt8) : ∀ i, i ≤ l.length → be (l.take i) < 256 ^ i := by
  intro i
  induction i with
  | zero => intro _; simp [be]
  | succ i ih =>
    intro h
    have h1 := ih (by omega)
    have h2 := (l.getD i 0).toNat_lt
    rw [be_succ l (by omega), Nat.pow_succ]
    omega
theorem be_all (l : List UInt8) : be (l.take l.length) = be l := by rw [List.take_length]
theorem be_num {n : Int} (h0 : -9223372036854775808 ≤ n) (h1 : n ≤ 9223372036854775807) : wrap64 (be (num n) : Int) = n := by
  have e : num n = [UInt8.ofNat ((n / 72057594037927936) % 256).toNat, UInt8.ofNat ((n / 281474976710656) % 256).toNat, UInt8.ofNat ((n / 1099511627776) % 256).toNat, UInt8.ofNat ((n / 4294967296) % 256).toNat, UInt8.ofNat ((n / 16777216) % 256).toNat, UInt8.ofNat ((n / 65536) % 256).toNat, UInt8.ofNat ((n / 256) % 256).toNat, UInt8.ofNat (n % 256).toNat] := by
    simp [num, List.range, List.range.loop]
  have low : ∀ m : Int, ((UInt8.ofNat (m % 256).toNat).toNat : Int) = m % 256 := u8_low
  rw [e]
  unfold be
  simp only [List.foldl_cons, List.foldl_nil, Int.natCast_add, Int.natCast_mul, low]
  obtain ⟨n1, e1⟩ : ∃ x, n / 256 = x := ⟨_, rfl⟩
  obtain ⟨n2, e2⟩ : ∃ x, n1 / 256 = x := ⟨_, rfl⟩
  obtain ⟨n3, e3⟩ : ∃ x, n2 / 256 = x := ⟨_, rfl⟩
  obtain ⟨n4, e4⟩ : ∃ x, n3 / 256 = x := ⟨_, rfl⟩
  obtain ⟨n5, e5⟩ : ∃ x, n4 / 256 = x := ⟨_, rfl⟩
  obtain ⟨n6, e6⟩ : ∃ x, n5 / 256 = x := ⟨_, rfl⟩
  obtain ⟨n7, e7⟩ : ∃ x, n6 / 256 = x := ⟨_, rfl⟩
  have d2 : n / 65536 = n2 := by rw [← e2, ← e1]; omega
  have d3 : n / 16777216 = n3 := by rw [show n / 16777216 = n / 65536 / 256 by omega, d2, e3]
  have d4 : n / 4294967296 = n4 := by rw [show n / 4294967296 = n / 16777216 / 256 by omega, d3, e4]
  have d5 : n / 1099511627776 = n5 := by rw [show n / 1099511627776 = n / 4294967296 / 256 by omega, d4, e5]
  have d6 : n / 281474976710656 = n6 := by rw [show n / 281474976710656 = n / 1099511627776 / 256 by omega, d5, e6]
  have d7 : n / 72057594037927936 = n7 := by rw [show n / 72057594037927936 = n / 281474976710656 / 256 by omega, d6, e7]
  rw [d7, d6, d5, d4, d3, d2, e1]
  have s1 : ((0 : Nat) : Int) * ((256 : Nat) : Int) + n7 % 256 = n7 % 256 := by omega
  rw [s1]
  have s2 : n7 % 256 * ((256 : Nat) : Int) + n6 % 256 = n6 % 65536 := by omega
  rw [s2]
  have s3 : n6 % 65536 * ((256 : Nat) : Int) + n5 % 256 = n5 % 16777216 := by omega
  rw [s3]
  have s4 : n5 % 16777216 * ((256 : Nat) : Int) + n4 % 256 = n4 % 4294967296 := by omega
  rw [s4]
  have s5 : n4 % 4294967296 * ((256 : Nat) : Int) + n3 % 256 = n3 % 1099511627776 := by omega
  rw [s5]
  have s6 : n3 % 1099511627776 * ((256 : Nat) : Int) + n2 % 256 = n2 % 281474976710656 := by omega
  rw [s6]
  have s7 : n2 % 281474976710656 * ((256 : Nat) : Int) + n1 % 256 = n1 % 72057594037927936 := by omega
  rw [s7]
  have s8 : n1 % 72057594037927936 * ((256 : Nat) : Int) + n % 256 = n % 18446744073709551616 := by omega
  rw [s8]
  clear d2 d3 d4 d5 d6 d7 e1 e2 e3 e4 e5 e6 e7 s1 s2 s3 s4 s5 s6 s7 s8
  unfold wrap64
  omega
end Wi

theorem ofInt_wrap64 (z : Int) : BitVec.ofInt 64 (wrap64 z) = BitVec.ofInt 64 z := by
  apply BitVec.eq_of_toNat_eq
  rw [BitVec.toNat_ofInt, BitVec.toNat_ofInt]
  unfold wrap64
  omega

theorem or_step (X c : Nat) (hX : X < 72057594037927936) (hc : c < 256) : bits .or .i64 (wrap64 (wrap64 (X : Int) * 256)) (wrap64 (c : Int)) = wrap64 ((X * 256 + c : Nat) : Int) := by
  have e1 : wrap64 (X : Int) = (X : Int) := IntWalk.wrap64_in _ (by omega)
  have e2 : wrap64 (c : Int) = (c : Int) := IntWalk.wrap64_in _ (by omega)
  have e3 : (X : Int) * 256 = ((X * 256 : Nat) : Int) := by omega
  rw [e1, e2, e3]
  have e : (BitVec.ofNat 64 (X * 256) ||| BitVec.ofNat 64 c).toNat = X * 256 + c := by
    rw [BitVec.toNat_or, BitVec.toNat_ofNat, BitVec.toNat_ofNat, Nat.mod_eq_of_lt (by omega), Nat.mod_eq_of_lt (by omega)]
    have := Nat.shiftLeft_add_eq_or_of_lt (show c < 2 ^ 8 by omega) X
    rw [Nat.shiftLeft_eq] at this
    exact this.symm
  show IntKind.i64.wrap (((BitVec.ofInt 64 (wrap64 ((X * 256 : Nat) : Int)) ||| BitVec.ofInt 64 (c : Int)).toNat : Nat) : Int) = _
  rw [ofInt_wrap64, BitVec.ofInt_natCast, BitVec.ofInt_natCast, e, IntWalk.i64_left]

theorem make_8 (w : World) : (Instr.makeSlice 22 (.int .i64 8) (.int .i64 8)).run Try.prog w = .ok (.slice (some ⟨w.heap.size, 0, none⟩) 8 8) (w.alloc (.cells (ocells 8 []).toArray 5)) := by
  obtain ⟨i0, hi0, hz0, hz1, hz2⟩ := info_parts info_u8
  rw [run_make w 22 5 i0 _ Try.underlying22 hi0 hz0 .i64 .i64 8 8 (by decide) (by decide) (by rw [hz2]; decide) (by decide), hz1]
  have e : madeCells (Value.int .u8 0).cells ((8 : Int).toNat * 1) = (ocells 8 []).toArray := by kernel_rfl
  rw [e]
  rfl

/-- A whole block as a row of one's own. -/
theorem Row.of_blk {w wr : World} {bs : List UInt8} {n : Nat} (hb : Blk wr w.heap.size (bs.map byteV) 5) (hn : bs.length = n) (ho : Only (fun _ => False) w wr) (hn8 : n ≤ 1024) : Row w wr (.slice (some ⟨w.heap.size, 0, none⟩) n n) bs := by
  subst hn
  refine ⟨⟨by simp, .inr ⟨w.heap.size, bs.length, (bs.map byteV).toArray, rfl, Nat.zero_le _, hb, Nat.le_refl _, ?_, by simp, by simp [List.take_of_length_le]⟩⟩, fun q hq => ?_, ho⟩
  · unfold maxLen; omega
  · have : w.heap.size = q := Option.some.inj hq
    omega

end Go.Proofs.Ytlfbdhgppmmahaa
