/- wire.Var: short numbers are written. Conditions: the row is far from an int's end. -/
import Derived.Test.YtobiajjcnpflgaaWiPure
import Derived.Test.YtobiajjcnpflgaaGRow
namespace Go.Proofs.Ytobiajjcnpflgaa
open Go.RowKit

theorem one_byte_of {w : World} {u : Value} {b : UInt8} (h : u = byteV b) : BytesAt (w.alloc (.cells #[u] 5)) (fun k => k = w.heap.size) (.slice (some ⟨w.heap.size, 0, none⟩) 1 1) [b] := by
  subst h; exact one_byte w b

theorem u8_or (a : Nat) (h : a < 256) : bits .or .u8 (a : Int) 128 = (((UInt8.ofNat (a % 128 + 128)).toNat : Nat) : Int) := by
  have : ∀ b : Fin 256, bits .or .u8 ((b.val : Nat) : Int) 128 = (((UInt8.ofNat (b.val % 128 + 128)).toNat : Nat) : Int) := by decide +kernel
  exact this ⟨a, h⟩

theorem Row.nil (w : World) : Row w w (.slice none 0 0) [] := ⟨⟨rfl, .inl ⟨rfl, rfl⟩⟩, fun _ h => (by cases h), Only.refl _ _⟩

end Go.Proofs.Ytobiajjcnpflgaa
