/- wire.Unpack. Conditions: the row is short. -/
import Derived.Test.YtlfbdhgppmmahaaWiPcs
namespace Go.Proofs.Ytlfbdhgppmmahaa
open Go.RowKit

/-- A length that is short. -/
structure Short (n : Nat) : Prop where
  le : n ≤ 1048576

/-- What Unpack keeps on its way. -/
structure Unp (w wr : World) (b g o : Nat) (bs rest : List UInt8) (ov : Value) (ps : List Pc) (N : Nat) : Prop where
  lst : Lst w wr ov (ps.map (·.v))
  rd : ReaderAt wr b g o (some rest)
  pcs : Pcs wr g o ps
  len : ps.length + rest.length ≤ bs.length
  pos : o + rest.length = bs.length
  low : w.heap.size ≤ b
  eq : ps.length ≤ N ∧ Wi.unpack N bs = (Wi.unpack (N - ps.length) rest).map (ps.map (·.b) ++ ·)

theorem unpack_step {N i k : Nat} {bs rest f : List UInt8} {fs : List (List UInt8)} (h : Wi.unpack N bs = (Wi.unpack (N - i) rest).map (fs ++ ·)) (hi : i < N) (hf : Wi.field rest = some (f, k)) : Wi.unpack N bs = (Wi.unpack (N - (i + 1)) (rest.drop k)).map (fs ++ [f] ++ ·) := by
  rw [h, show N - i = (N - (i + 1)) + 1 by omega, Wi.unpack, hf]
  simp only [Option.map_map]
  congr 1
  funext x
  simp
theorem unpack_fail {N i : Nat} {bs rest : List UInt8} {fs : List (List UInt8)} (h : Wi.unpack N bs = (Wi.unpack (N - i) rest).map (fs ++ ·)) (hi : i < N) (hf : Wi.field rest = none) : Wi.unpack N bs = none := by
  rw [h, show N - i = (N - (i + 1)) + 1 by omega, Wi.unpack, hf]; rfl
theorem unpack_end {N : Nat} {bs rest : List UInt8} {fs : List (List UInt8)} (h : Wi.unpack N bs = (Wi.unpack (N - N) rest).map (fs ++ ·)) : (rest = [] → Wi.unpack N bs = some fs) ∧ (rest ≠ [] → Wi.unpack N bs = none) := by
  rw [h, Nat.sub_self]
  constructor
  · rintro rfl; simp [Wi.unpack]
  · intro hne; simp [Wi.unpack, hne]

/-- What Unpack answers. -/
structure Unpd (w w' : World) (bs : List UInt8) (N : Nat) (ov : Value) (g : Nat) (ps : List Pc) : Prop where
  eq : Wi.unpack N bs = some (ps.map (·.b))
  lst : Lst w w' ov (ps.map (·.v))
  pcs : Pcs w' g bs.length ps
  fresh : bs ≠ [] → w.heap.size ≤ g

end Go.Proofs.Ytlfbdhgppmmahaa
