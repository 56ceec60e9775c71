/- Blocks that are known whole; rows of bytes in them; splices. Conditions: none. -/
import Derived.Test.YtemfelonfokcnaaGBytes
import Derived.IntWalk
import Derived.Laws.CopyOwn
import Derived.Deep.WholeRow
import Derived.BigRegion
import Derived.StillTailTactics
import Derived.Deep.QuietTactic
import Derived.BigQuiet
namespace Go.Proofs.Ytemfelonfokcnaa
open Go.RowKit

/-- Block g holds just the cells L. -/
def Blk (w : World) (g : Nat) (L : List Value) (t : TypeId) : Prop := w.heap[g]? = some (.cells L.toArray t (0, 0))

theorem Blk.heap {w : World} {g : Nat} {L : List Value} {t : TypeId} (h : Blk w g L t) : w.heap[g]? = some (.cells L.toArray t (0, 0)) := h
theorem Blk.lt {w : World} {g : Nat} {L : List Value} {t : TypeId} (h : Blk w g L t) : g < w.heap.size := lt_of_heap h.heap
theorem Blk.cell {w : World} {g : Nat} {L : List Value} {t : TypeId} (h : Blk w g L t) (j : Nat) : w.cell? ⟨g, j, none⟩ = L[j]? := by
  rw [cell_of h.heap]; simp
theorem Blk.frozen {w : World} {g : Nat} {L : List Value} {t : TypeId} (h : Blk w g L t) (j : Nat) : w.frozen? ⟨g, j, none⟩ = false := frozen_of h.heap j
theorem Blk.set {w : World} {g : Nat} {L : List Value} {t : TypeId} (h : Blk w g L t) (j : Nat) (v : Value) : Blk (w.setCell ⟨g, j, none⟩ v) g (L.set j v) t := by
  have := heap_setCell_self h.heap j v
  unfold Blk
  rw [this]
  simp
theorem Blk.setNe {w : World} {g : Nat} {L : List Value} {t : TypeId} (h : Blk w g L t) (a : Addr) (v : Value) (hne : g ≠ a.block) : Blk (w.setCell a v) g L t :=
  (heap_setCell_ne a v hne).trans h
theorem Blk.keep {w w' : World} {S : Nat → Prop} {g : Nat} {L : List Value} {t : TypeId} (h : Blk w g L t) (ho : Only S w w') (hn : ¬ S g) : Blk w' g L t := ho.keep h hn
theorem Blk.alloc {w : World} {g : Nat} {L : List Value} {t : TypeId} (h : Blk w g L t) (x : Obj) : Blk (w.alloc x) g L t := heap_alloc_old' h
theorem Blk.drew {w : World} {g : Nat} {L : List Value} {t : TypeId} (h : Blk w g L t) : Blk w.drew g L t := h
theorem Blk.new (w : World) (L : List Value) (t : TypeId) : Blk (w.alloc (.cells L.toArray t)) w.heap.size L t := heap_alloc_last w _

theorem Blk.new1 (w : World) (x : Obj) (L : List Value) (t : TypeId) : Blk ((w.alloc x).alloc (.cells L.toArray t)) (w.heap.size + 1) L t := by
  have := Blk.new (w.alloc x) L t
  rwa [World.size_alloc] at this

theorem Blk.row {w : World} {g : Nat} {L : List Value} {t : TypeId} (h : Blk w g L t) (cs : List Value) : Blk (w.setRow g cs.toArray) g cs t := setRow_heap w g _ _ t _ h
theorem Blk.rowNe {w : World} {g k : Nat} {L : List Value} {t : TypeId} (h : Blk w g L t) (cs : Array Value) (hne : g ≠ k) : Blk (w.setRow k cs) g L t := (setRow_other w k g cs hne).trans h

theorem Only.setRow {w : World} (g : Nat) (cs : Array Value) : Only (fun k => k = g) w (w.setRow g cs) :=
  ⟨rfl, rfl, rfl, by simp, fun k _ hn => setRow_other w g k cs hn⟩

/-- The cells of a range of a block. -/
theorem Blk.range {w : World} {g o : Nat} {L cs : List Value} {t : TypeId} (h : Blk w g L t) (hr : ∀ j v, cs[j]? = some v → L[o + j]? = some v) : w.rangeAt g o cs := fun j v hv => by
  rw [h.cell]; exact hr j v hv

theorem bits_or_nat (a b : Nat) (ha : a < 4294967296) (hb : b < 4294967296) : bits .or .u32 (a : Int) (b : Int) = ((a ||| b : Nat) : Int) := by
  have e : (BitVec.ofNat 32 a ||| BitVec.ofNat 32 b).toNat = a ||| b := by
    rw [BitVec.toNat_or, BitVec.toNat_ofNat, BitVec.toNat_ofNat, Nat.mod_eq_of_lt ha, Nat.mod_eq_of_lt hb]
  have hor : a ||| b < 2 ^ 32 := Nat.or_lt_two_pow (n := 32) ha hb
  show IntKind.u32.wrap (((BitVec.ofInt 32 (a : Int) ||| BitVec.ofInt 32 (b : Int)).toNat : Nat) : Int) = _
  rw [BitVec.ofInt_natCast, BitVec.ofInt_natCast, e, IntKind.wrap_u32]
  omega

theorem or_add (a b i p : Nat) (hp : p = 2 ^ i) (hb : b < p) (hs : a * p + b < 4294967296) : bits .or .u32 ((a * p : Nat) : Int) (b : Int) = ((a * p + b : Nat) : Int) := by
  subst hp
  rw [bits_or_nat _ _ (by omega) (by omega)]
  congr 1
  have := Nat.shiftLeft_add_eq_or_of_lt hb a
  rw [Nat.shiftLeft_eq] at this
  exact this.symm

theorem or_add' (a b i p : Nat) (x y z : Int) (hp : p = 2 ^ i) (hb : b < p) (hs : a * p + b < 4294967296) (hx : x = ((a * p : Nat) : Int)) (hy : y = (b : Int)) (hz : ((a * p + b : Nat) : Int) = z) : bits .or .u32 x y = z := by
  subst hx hy hz
  exact or_add a b i p hp hb hs

theorem oneCell_words (ws : List Int) : (ws.map wordV).toArray.all (·.oneCell') = true := by
  simp [wordV, Value.oneCell']
theorem oneCell_bytes (bs : List UInt8) : (bs.map byteV).toArray.all (·.oneCell') = true := by
  simp [byteV, Value.oneCell']

theorem range_byte {w : World} {b o j : Nat} {blk : List UInt8} (h : w.rangeAt b o (blk.map byteV)) (hj : j < blk.length) : w.cell? ⟨b, o + j, none⟩ = some (.int .u8 ((blk.getD j 0).toNat : Int)) := by
  refine h j _ ?_
  simp [hj, byteV]

theorem rangeAt_only {w w' : World} {S : Nat → Prop} {b o : Nat} {cs : List Value} (h : w.rangeAt b o cs) (ho : Only S w w') (hn : ¬ S b) : w'.rangeAt b o cs := fun j v hv => by
  have h1 := h j v hv
  rw [World.cell?_of_block (w := w) (ho.block b (World.block_lt_of_cell? w _ h1) hn)]
  exact h1

theorem splice_get {α : Type} {L : List α} {o : Nat} {cs : List α} (h : o + cs.length ≤ L.length) {i : Nat} (hi : i < cs.length) : (splice L o cs)[o + i]? = cs[i]? := by
  unfold splice
  rw [List.getElem?_append_right (by simp; omega)]
  have e : o + i - (L.take o).length = i := by simp; omega
  rw [e, List.getElem?_append_left hi]

theorem splice_set {α : Type} {L : List α} {o : Nat} {cs : List α} (h : o + cs.length ≤ L.length) {i : Nat} (hi : i < cs.length) (v : α) : (splice L o cs).set (o + i) v = splice L o (cs.set i v) := by
  unfold splice
  have e : (L.take o).length = o := by simp; omega
  rw [List.set_append_right _ _ (by omega), e, show o + i - o = i by omega, List.set_append_left _ _ hi]
  simp

theorem splice_self {α : Type} {L : List α} {o : Nat} {cs : List α} (h : ∀ j v, cs[j]? = some v → L[o + j]? = some v) (hl : o + cs.length ≤ L.length) : splice L o cs = L := by
  unfold splice
  apply List.ext_getElem?
  intro i
  by_cases h1 : i < o
  · rw [List.getElem?_append_left (by simp; omega), List.getElem?_take_of_lt h1]
  · rw [List.getElem?_append_right (by simp; omega)]
    have e : (L.take o).length = o := by simp; omega
    rw [e]
    by_cases h2 : i - o < cs.length
    · rw [List.getElem?_append_left h2, List.getElem?_eq_getElem h2]
      have := h (i - o) _ (List.getElem?_eq_getElem h2)
      rw [show o + (i - o) = i by omega] at this
      exact this.symm
    · rw [List.getElem?_append_right (by omega), List.getElem?_drop]
      congr 1
      omega

/-- A row of n bytes, of which the first are bs. -/
def ocells (n : Nat) (bs : List UInt8) : List Value := bs.map byteV ++ List.replicate (n - bs.length) (byteV 0)

theorem ocells_set {n : Nat} (ws : List UInt8) (v : UInt8) (h : ws.length < n) : (ocells n ws).set ws.length (byteV v) = ocells n (ws ++ [v]) := by
  unfold ocells
  rw [List.set_append_right _ _ (by simp)]
  simp only [List.length_map, Nat.sub_self, List.map_append, List.map_cons, List.map_nil, List.append_assoc, List.length_append, List.length_cons, List.length_nil]
  congr 1
  obtain ⟨k, hk⟩ : ∃ k, n - ws.length = k + 1 := ⟨n - ws.length - 1, by omega⟩
  rw [hk, show n - (ws.length + (0 + 1)) = k by omega]
  simp [List.replicate_succ]

theorem ocells_zero {n : Nat} {ws : List UInt8} {j : Nat} (h : ws.length ≤ j) (hn : j < n) : (ocells n ws)[j]? = some (.int .u8 0) := by
  unfold ocells
  rw [List.getElem?_append_right (by simpa using h)]
  simp [List.getElem?_replicate, byteV]
  omega

theorem ocells_full {n : Nat} {ws : List UInt8} (h : ws.length = n) : ocells n ws = ws.map byteV := by
  unfold ocells
  simp [h]

theorem u8_low (x : Int) : ((UInt8.ofNat (x % 256).toNat).toNat : Int) = x % 256 := by
  simp
  omega

theorem bits_or_comm (k : IntKind) (x y : Int) : bits .or k x y = bits .or k y x := by
  unfold bits
  simp only [BitVec.or_comm]

theorem byte_of_nat (a : Nat) : ((UInt8.ofNat a).toNat : Int) = (a : Int) % 256 := by simp

theorem Only.drewN {w : World} (n : Nat) : Only (fun _ => False) w (w.drewN n) := ⟨rfl, rfl, rfl, Nat.le_refl _, fun _ _ _ => rfl⟩
theorem Blk.drewN {w : World} {g : Nat} {L : List Value} {t : TypeId} (h : Blk w g L t) (n : Nat) : Blk (w.drewN n) g L t := by
  unfold Blk; rw [heap_drewN]; exact h

/-- A row of bytes as a value of an array's type. -/
def digV (bs : List UInt8) : Value := .agg (bs.map byteV).toArray

theorem wpList_build_as {w : World} {ops : Array Oper} {rest : List Oper} {o : Oper} {a : Act} {Q : Exit → Act → World → Prop} (hg : o.guard = none) (t : TypeId) (parts : Array (Nat × Operand)) (ho : o.op = .build t parts)
    (ps : List (Nat × Value)) (hps : (parts.map fun (i, x) => (i, a.eval x)).toList = ps) (cells : Array Value) (hb : Try.prog.built t ps = some cells)
    (h : wpList Try.prog ops Q rest (a.put o.dst (.agg cells)) w) : wpList Try.prog ops Q (o :: rest) a w := by
  refine wpList_build hg t parts ho ?_ ?_
  · rw [hps, hb]; rfl
  · rw [hps, hb]; exact h

theorem bits_xor_u8 (x y : UInt8) : bits .xor .u8 (x.toNat : Int) (y.toNat : Int) = ((x ^^^ y).toNat : Int) := by
  have e : (BitVec.ofNat 8 x.toNat ^^^ BitVec.ofNat 8 y.toNat).toNat = (x ^^^ y).toNat := by
    rw [BitVec.toNat_xor, BitVec.toNat_ofNat, BitVec.toNat_ofNat, Nat.mod_eq_of_lt x.toNat_lt, Nat.mod_eq_of_lt y.toNat_lt, UInt8.toNat_xor]
  have hl := (x ^^^ y).toNat_lt
  show IntKind.u8.wrap (((BitVec.ofInt 8 (x.toNat : Int) ^^^ BitVec.ofInt 8 (y.toNat : Int)).toNat : Nat) : Int) = _
  rw [BitVec.ofInt_natCast, BitVec.ofInt_natCast, e, IntKind.wrap_u8]
  omega

theorem size_u8 : (Try.prog.info? 5).map (·.size) = some 1 := by kernel_rfl

end Go.Proofs.Ytemfelonfokcnaa
