/- Blocks that are known whole; words out of bytes. Conditions: none. -/
import Derived.Test.YtgdnmbchhfbjoaaDoorGMem
import Derived.Test.YtgdnmbchhfbjoaaDoorHRot
import Derived.Laws.CopyOwn
import Derived.Deep.WholeRow
import Derived.BigRegion
import Derived.StillTailTactics
import Derived.Deep.QuietTactic
import Derived.BigQuiet
namespace Go.Proofs.YtgdnmbchhfbjoaaDoor
open Go.RowKit

/-- Four bytes as a word, as sha reckons it. -/
theorem hword_or (x0 x1 x2 x3 : UInt8) : bits .or .u32 (bits .or .u32 (bits .or .u32 ((x0.toNat : Int) * 16777216) ((x1.toNat : Int) * 65536)) ((x2.toNat : Int) * 256)) (x3.toNat : Int) = Sh.word x0 x1 x2 x3 := by
  have q0 := x0.toNat_lt
  have q1 := x1.toNat_lt
  have q2 := x2.toNat_lt
  have q3 := x3.toNat_lt
  unfold Sh.word
  generalize x0.toNat = a at *
  generalize x1.toNat = b at *
  generalize x2.toNat = c at *
  generalize x3.toNat = d at *
  have a1 := or_add' a (b * 65536) 24 16777216 ((a : Int) * 16777216) ((b : Int) * 65536) ((a : Int) * 16777216 + (b : Int) * 65536) (by decide) (by omega) (by omega) (by omega) (by omega) (by omega)
  rw [a1]
  have a2 := or_add' (a * 256 + b) (c * 256) 16 65536 ((a : Int) * 16777216 + (b : Int) * 65536) ((c : Int) * 256) ((a : Int) * 16777216 + (b : Int) * 65536 + (c : Int) * 256) (by decide) (by omega) (by omega) (by omega) (by omega) (by omega)
  rw [a2]
  exact or_add' (a * 65536 + b * 256 + c) d 8 256 _ _ _ (by decide) (by omega) (by omega) (by omega) rfl (by omega)

/-- A row of 64 words, of which the first are ws. -/
def wcells (ws : List Int) : List Value := ws.map wordV ++ List.replicate (64 - ws.length) (wordV 0)

theorem wcells_set (ws : List Int) (v : Int) (h : ws.length < 64) : (wcells ws).set ws.length (wordV v) = wcells (ws ++ [v]) := by
  unfold wcells
  rw [List.set_append_right _ _ (by simp)]
  simp only [List.length_map, Nat.sub_self, List.map_append, List.map_cons, List.map_nil, List.append_assoc, List.length_append, List.length_cons, List.length_nil]
  congr 1
  obtain ⟨k, hk⟩ : ∃ k, 64 - ws.length = k + 1 := ⟨63 - ws.length, by omega⟩
  rw [hk, show 64 - (ws.length + (0 + 1)) = k by omega]
  simp [List.replicate_succ]

theorem wcells_get {ws : List Int} {j : Nat} (h : j < ws.length) : (wcells ws)[j]? = some (.int .u32 (ws.getD j 0)) := by
  unfold wcells
  rw [List.getElem?_append_left (by simpa using h)]
  simp [wordV, h]

theorem wcells_zero {ws : List Int} {j : Nat} (h : ws.length ≤ j) (h64 : j < 64) : (wcells ws)[j]? = some (.int .u32 0) := by
  unfold wcells
  rw [List.getElem?_append_right (by simpa using h)]
  simp [List.getElem?_replicate, wordV]
  omega

theorem wcells_length (ws : List Int) (h : ws.length ≤ 64) : (wcells ws).length = 64 := by
  unfold wcells
  simp
  omega

theorem wcells_full {ws : List Int} (h : ws.length = 64) : wcells ws = ws.map wordV := by
  unfold wcells
  simp [h]

theorem first16_len (blk : List UInt8) : (Sh.first16 blk).length = 16 := by simp [Sh.first16]
theorem grow_len (n : Nat) (ws : List Int) : (Sh.grow n ws).length = ws.length + n := by
  induction n with
  | zero => rfl
  | succ n ih => simp [Sh.grow, ih]; omega
theorem sched_len (blk : List UInt8) : (Sh.sched blk).length = 64 := by simp [Sh.sched, grow_len, first16_len]
theorem first16_take {blk : List UInt8} {t : Nat} (h : t < 16) : (Sh.first16 blk).take (t + 1) = (Sh.first16 blk).take t ++ [Sh.word (blk.getD (4 * t) 0) (blk.getD (4 * t + 1) 0) (blk.getD (4 * t + 2) 0) (blk.getD (4 * t + 3) 0)] := by
  rw [List.take_succ_eq_append_getElem (by simpa [first16_len] using h)]
  simp [Sh.first16]

end Go.Proofs.YtgdnmbchhfbjoaaDoor
