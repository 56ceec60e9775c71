/- Blocks that are known whole; words out of bytes. Conditions: none. -/
import Derived.Test.YtdgaojibfpafnaaDoorSRot
import Derived.Laws.CopyOwn
import Derived.Deep.WholeRow
import Derived.BigRegion
import Derived.StillTailTactics
import Derived.Deep.QuietTactic
import Derived.BigQuiet
namespace Go.Proofs.YtdgaojibfpafnaaDoor
open Go.RowKit

/-- Block g holds just the cells L. -/
def Blk (w : World) (g : Nat) (L : List Value) (t : TypeId) : Prop := w.heap[g]? = some (.cells L.toArray t (0, 0))

theorem Blk.heap {w : World} {g : Nat} {L : List Value} {t : TypeId} (h : Blk w g L t) : w.heap[g]? = some (.cells L.toArray t (0, 0)) := h
theorem Blk.lt {w : World} {g : Nat} {L : List Value} {t : TypeId} (h : Blk w g L t) : g < w.heap.size := lt_of_heap h.heap
theorem Blk.cell {w : World} {g : Nat} {L : List Value} {t : TypeId} (h : Blk w g L t) (j : Nat) : w.cell? ⟨g, j, none⟩ = L[j]? := by
  rw [cell_of h.heap]; simp
theorem Blk.frozen {w : World} {g : Nat} {L : List Value} {t : TypeId} (h : Blk w g L t) (j : Nat) : w.frozen? ⟨g, j, none⟩ = false := frozen_of h.heap j
theorem Blk.set {w : World} {g : Nat} {L : List Value} {t : TypeId} (h : Blk w g L t) (j : Nat) (v : Value) : Blk (w.setCell ⟨g, j, none⟩ v) g (L.set j v) t := by
  have := heap_setCell_self h.heap j v
  unfold Blk
  rw [this]
  simp
theorem Blk.setNe {w : World} {g : Nat} {L : List Value} {t : TypeId} (h : Blk w g L t) (a : Addr) (v : Value) (hne : g ≠ a.block) : Blk (w.setCell a v) g L t :=
  (heap_setCell_ne a v hne).trans h
theorem Blk.keep {w w' : World} {S : Nat → Prop} {g : Nat} {L : List Value} {t : TypeId} (h : Blk w g L t) (ho : Only S w w') (hn : ¬ S g) : Blk w' g L t := ho.keep h hn
theorem Blk.alloc {w : World} {g : Nat} {L : List Value} {t : TypeId} (h : Blk w g L t) (x : Obj) : Blk (w.alloc x) g L t := heap_alloc_old' h
theorem Blk.drew {w : World} {g : Nat} {L : List Value} {t : TypeId} (h : Blk w g L t) : Blk w.drew g L t := h
theorem Blk.new (w : World) (L : List Value) (t : TypeId) : Blk (w.alloc (.cells L.toArray t)) w.heap.size L t := heap_alloc_last w _

theorem Blk.new1 (w : World) (x : Obj) (L : List Value) (t : TypeId) : Blk ((w.alloc x).alloc (.cells L.toArray t)) (w.heap.size + 1) L t := by
  have := Blk.new (w.alloc x) L t
  rwa [World.size_alloc] at this

theorem Blk.row {w : World} {g : Nat} {L : List Value} {t : TypeId} (h : Blk w g L t) (cs : List Value) : Blk (w.setRow g cs.toArray) g cs t := setRow_heap w g _ _ t _ h
theorem Blk.rowNe {w : World} {g k : Nat} {L : List Value} {t : TypeId} (h : Blk w g L t) (cs : Array Value) (hne : g ≠ k) : Blk (w.setRow k cs) g L t := (setRow_other w k g cs hne).trans h

theorem Only.setRow {w : World} (g : Nat) (cs : Array Value) : Only (fun k => k = g) w (w.setRow g cs) :=
  ⟨rfl, rfl, rfl, by simp, fun k _ hn => setRow_other w g k cs hn⟩

/-- The cells of a range of a block. -/
theorem Blk.range {w : World} {g o : Nat} {L cs : List Value} {t : TypeId} (h : Blk w g L t) (hr : ∀ j v, cs[j]? = some v → L[o + j]? = some v) : w.rangeAt g o cs := fun j v hv => by
  rw [h.cell]; exact hr j v hv

theorem bits_or_nat (a b : Nat) (ha : a < 4294967296) (hb : b < 4294967296) : bits .or .u32 (a : Int) (b : Int) = ((a ||| b : Nat) : Int) := by
  have e : (BitVec.ofNat 32 a ||| BitVec.ofNat 32 b).toNat = a ||| b := by
    rw [BitVec.toNat_or, BitVec.toNat_ofNat, BitVec.toNat_ofNat, Nat.mod_eq_of_lt ha, Nat.mod_eq_of_lt hb]
  have hor : a ||| b < 2 ^ 32 := Nat.or_lt_two_pow (n := 32) ha hb
  show IntKind.u32.wrap (((BitVec.ofInt 32 (a : Int) ||| BitVec.ofInt 32 (b : Int)).toNat : Nat) : Int) = _
  rw [BitVec.ofInt_natCast, BitVec.ofInt_natCast, e, IntKind.wrap_u32]
  omega

theorem or_add (a b i p : Nat) (hp : p = 2 ^ i) (hb : b < p) (hs : a * p + b < 4294967296) : bits .or .u32 ((a * p : Nat) : Int) (b : Int) = ((a * p + b : Nat) : Int) := by
  subst hp
  rw [bits_or_nat _ _ (by omega) (by omega)]
  congr 1
  have := Nat.shiftLeft_add_eq_or_of_lt hb a
  rw [Nat.shiftLeft_eq] at this
  exact this.symm

theorem or_add' (a b i p : Nat) (x y z : Int) (hp : p = 2 ^ i) (hb : b < p) (hs : a * p + b < 4294967296) (hx : x = ((a * p : Nat) : Int)) (hy : y = (b : Int)) (hz : ((a * p + b : Nat) : Int) = z) : bits .or .u32 x y = z := by
  subst hx hy hz
  exact or_add a b i p hp hb hs

/-- Four bytes as a word, as sha reckons it. -/
theorem word_or (x0 x1 x2 x3 : UInt8) : bits .or .u32 (bits .or .u32 (bits .or .u32 ((x0.toNat : Int) * 16777216) ((x1.toNat : Int) * 65536)) ((x2.toNat : Int) * 256)) (x3.toNat : Int) = Sh.word x0 x1 x2 x3 := by
  have q0 := x0.toNat_lt
  have q1 := x1.toNat_lt
  have q2 := x2.toNat_lt
  have q3 := x3.toNat_lt
  unfold Sh.word
  generalize x0.toNat = a at *
  generalize x1.toNat = b at *
  generalize x2.toNat = c at *
  generalize x3.toNat = d at *
  have a1 := or_add' a (b * 65536) 24 16777216 ((a : Int) * 16777216) ((b : Int) * 65536) ((a : Int) * 16777216 + (b : Int) * 65536) (by decide) (by omega) (by omega) (by omega) (by omega) (by omega)
  rw [a1]
  have a2 := or_add' (a * 256 + b) (c * 256) 16 65536 ((a : Int) * 16777216 + (b : Int) * 65536) ((c : Int) * 256) ((a : Int) * 16777216 + (b : Int) * 65536 + (c : Int) * 256) (by decide) (by omega) (by omega) (by omega) (by omega) (by omega)
  rw [a2]
  exact or_add' (a * 65536 + b * 256 + c) d 8 256 _ _ _ (by decide) (by omega) (by omega) (by omega) rfl (by omega)

/-- A row of 64 words, of which the first are ws. -/
def wcells (ws : List Int) : List Value := ws.map wordV ++ List.replicate (64 - ws.length) (wordV 0)

theorem wcells_set (ws : List Int) (v : Int) (h : ws.length < 64) : (wcells ws).set ws.length (wordV v) = wcells (ws ++ [v]) := by
  unfold wcells
  rw [List.set_append_right _ _ (by simp)]
  simp only [List.length_map, Nat.sub_self, List.map_append, List.map_cons, List.map_nil, List.append_assoc, List.length_append, List.length_cons, List.length_nil]
  congr 1
  obtain ⟨k, hk⟩ : ∃ k, 64 - ws.length = k + 1 := ⟨63 - ws.length, by omega⟩
  rw [hk, show 64 - (ws.length + (0 + 1)) = k by omega]
  simp [List.replicate_succ]

theorem wcells_get {ws : List Int} {j : Nat} (h : j < ws.length) : (wcells ws)[j]? = some (.int .u32 (ws.getD j 0)) := by
  unfold wcells
  rw [List.getElem?_append_left (by simpa using h)]
  simp [wordV, h]

theorem wcells_zero {ws : List Int} {j : Nat} (h : ws.length ≤ j) (h64 : j < 64) : (wcells ws)[j]? = some (.int .u32 0) := by
  unfold wcells
  rw [List.getElem?_append_right (by simpa using h)]
  simp [List.getElem?_replicate, wordV]
  omega

theorem wcells_length (ws : List Int) (h : ws.length ≤ 64) : (wcells ws).length = 64 := by
  unfold wcells
  simp
  omega

theorem wcells_full {ws : List Int} (h : ws.length = 64) : wcells ws = ws.map wordV := by
  unfold wcells
  simp [h]

theorem first16_len (blk : List UInt8) : (Sh.first16 blk).length = 16 := by simp [Sh.first16]
theorem grow_len (n : Nat) (ws : List Int) : (Sh.grow n ws).length = ws.length + n := by
  induction n with
  | zero => rfl
  | succ n ih => simp [Sh.grow, ih]; omega
theorem sched_len (blk : List UInt8) : (Sh.sched blk).length = 64 := by simp [Sh.sched, grow_len, first16_len]
theorem first16_take {blk : List UInt8} {t : Nat} (h : t < 16) : (Sh.first16 blk).take (t + 1) = (Sh.first16 blk).take t ++ [Sh.word (blk.getD (4 * t) 0) (blk.getD (4 * t + 1) 0) (blk.getD (4 * t + 2) 0) (blk.getD (4 * t + 3) 0)] := by
  rw [List.take_succ_eq_append_getElem (by simpa [first16_len] using h)]
  simp [Sh.first16]

theorem oneCell_words (ws : List Int) : (ws.map wordV).toArray.all (·.oneCell') = true := by
  simp [wordV, Value.oneCell']
theorem oneCell_bytes (bs : List UInt8) : (bs.map byteV).toArray.all (·.oneCell') = true := by
  simp [byteV, Value.oneCell']

theorem range_byte {w : World} {b o j : Nat} {blk : List UInt8} (h : w.rangeAt b o (blk.map byteV)) (hj : j < blk.length) : w.cell? ⟨b, o + j, none⟩ = some (.int .u8 ((blk.getD j 0).toNat : Int)) := by
  refine h j _ ?_
  simp [hj, byteV]

theorem rangeAt_only {w w' : World} {S : Nat → Prop} {b o : Nat} {cs : List Value} (h : w.rangeAt b o cs) (ho : Only S w w') (hn : ¬ S b) : w'.rangeAt b o cs := fun j v hv => by
  have h1 := h j v hv
  rw [World.cell?_of_block (w := w) (ho.block b (World.block_lt_of_cell? w _ h1) hn)]
  exact h1

theorem splice_get {α : Type} {L : List α} {o : Nat} {cs : List α} (h : o + cs.length ≤ L.length) {i : Nat} (hi : i < cs.length) : (splice L o cs)[o + i]? = cs[i]? := by
  unfold splice
  rw [List.getElem?_append_right (by simp; omega)]
  have e : o + i - (L.take o).length = i := by simp; omega
  rw [e, List.getElem?_append_left hi]

theorem splice_set {α : Type} {L : List α} {o : Nat} {cs : List α} (h : o + cs.length ≤ L.length) {i : Nat} (hi : i < cs.length) (v : α) : (splice L o cs).set (o + i) v = splice L o (cs.set i v) := by
  unfold splice
  have e : (L.take o).length = o := by simp; omega
  rw [List.set_append_right _ _ (by omega), e, show o + i - o = i by omega, List.set_append_left _ _ hi]
  simp

theorem splice_self {α : Type} {L : List α} {o : Nat} {cs : List α} (h : ∀ j v, cs[j]? = some v → L[o + j]? = some v) (hl : o + cs.length ≤ L.length) : splice L o cs = L := by
  unfold splice
  apply List.ext_getElem?
  intro i
  by_cases h1 : i < o
  · rw [List.getElem?_append_left (by simp; omega), List.getElem?_take_of_lt h1]
  · rw [List.getElem?_append_right (by simp; omega)]
    have e : (L.take o).length = o := by simp; omega
    rw [e]
    by_cases h2 : i - o < cs.length
    · rw [List.getElem?_append_left h2, List.getElem?_eq_getElem h2]
      have := h (i - o) _ (List.getElem?_eq_getElem h2)
      rw [show o + (i - o) = i by omega] at this
      exact this.symm
    · rw [List.getElem?_append_right (by omega), List.getElem?_drop]
      congr 1
      omega

end Go.Proofs.YtdgaojibfpafnaaDoor
