/- chacha.word. Conditions: four bytes lie there. -/
import Derived.Test.YtgdnmbchhfbjoaaDoorCQuart
namespace Go.Proofs.YtgdnmbchhfbjoaaDoor
open Go.RowKit

/-- Four bytes as a word, the lowest first. -/
theorem word_or (x0 x1 x2 x3 : UInt8) : bits .or .u32 (bits .or .u32 (bits .or .u32 (x0.toNat : Int) ((x1.toNat : Int) * 256)) ((x2.toNat : Int) * 65536)) ((x3.toNat : Int) * 16777216) = Ch.word x0 x1 x2 x3 := by
  have q0 := x0.toNat_lt
  have q1 := x1.toNat_lt
  have q2 := x2.toNat_lt
  have q3 := x3.toNat_lt
  unfold Ch.word
  generalize x0.toNat = a at *
  generalize x1.toNat = b at *
  generalize x2.toNat = c at *
  generalize x3.toNat = d at *
  rw [bits_or_comm _ (a : Int)]
  rw [or_add' b a 8 256 ((b : Int) * 256) (a : Int) ((a : Int) + (b : Int) * 256) (by decide) (by omega) (by omega) (by omega) (by omega) (by omega)]
  rw [bits_or_comm _ ((a : Int) + (b : Int) * 256)]
  rw [or_add' c (a + b * 256) 16 65536 ((c : Int) * 65536) ((a : Int) + (b : Int) * 256) ((a : Int) + (b : Int) * 256 + (c : Int) * 65536) (by decide) (by omega) (by omega) (by omega) (by omega) (by omega)]
  rw [bits_or_comm _ ((a : Int) + (b : Int) * 256 + (c : Int) * 65536)]
  exact or_add' d (a + b * 256 + c * 65536) 24 16777216 _ _ _ (by decide) (by omega) (by omega) (by omega) (by omega) (by omega)

set_option maxRecDepth 100000 in
set_option maxHeartbeats 1000000 in
theorem word_any {w : World} {b o n c : Nat} {x0 x1 x2 x3 : UInt8} (h0 : w.cell? ⟨b, o, none⟩ = some (byteV x0)) (h1 : w.cell? ⟨b, o + 1, none⟩ = some (byteV x1)) (h2 : w.cell? ⟨b, o + 2, none⟩ = some (byteV x2)) (h3 : w.cell? ⟨b, o + 3, none⟩ = some (byteV x3)) (hn : 4 ≤ n) :
    Calls Tryd.prog 70 #[.slice (some ⟨b, o, none⟩) n c] w fun e w' => e = .returned (.int .u32 (Ch.word x0 x1 x2 x3)) ∧ ∃ m, w' = w.drewN m := by
  unfold byteV at h0 h1 h2 h3
  have q0 := x0.toNat_lt
  have q1 := x1.toNat_lt
  have q2 := x2.toNat_lt
  have q3 := x3.toNat_lt
  have n0 : (0 : Int) < (n : Int) := by omega
  have n1 : (1 : Int) < (n : Int) := by omega
  have n2 : (2 : Int) < (n : Int) := by omega
  have n3 : (3 : Int) < (n : Int) := by omega
  clear hn
  go_enter Tryd.func70, Tryd.ntmps70
  go_wp2
  go_quiet (fail)
  go_wp2
  go_ret
  exact ⟨by rw [word_or]; rfl, nq, rfl⟩

end Go.Proofs.YtgdnmbchhfbjoaaDoor
