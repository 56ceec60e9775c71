/- Plain facts on worlds, and 'Only': which blocks may have turned. Conditions: none. -/
import Derived.Test.YtemfelonfokcnaaRows
import Derived.WalkKit
import Derived.WalkSpells
import Derived.WalkLawsBesides
import Derived.Maps.OwnSet
import Derived.Maps.AppendAt
import Derived.Lib.Hide
namespace Go.Proofs.Ytemfelonfokcnaa
open Go.RowKit

section
variable {w w' w1 w2 w3 : World} {b o : Nat} {c : Array Value} {T : TypeId}

theorem heap_setCell_self {fz : Nat × Nat} (h : w.heap[b]? = some (.cells c T fz)) (o : Nat) (v : Value) :
    (w.setCell ⟨b, o, none⟩ v).heap[b]? = some (.cells (c.setIfInBounds o v) T fz) := by
  simp [World.setCell, Array.getElem?_modify, h]

theorem heap_setCell_ne {k : Nat} (a : Addr) (v : Value) (h : k ≠ a.block) : (w.setCell a v).heap[k]? = w.heap[k]? :=
  Below.heap_setCell w a v k h

theorem cell_of {fz : Nat × Nat} (h : w.heap[b]? = some (.cells c T fz)) (o : Nat) : w.cell? ⟨b, o, none⟩ = c[o]? := by
  simp [World.cell?, h]

theorem frozen_of (h : w.heap[b]? = some (.cells c T (0, 0))) (o : Nat) : w.frozen? ⟨b, o, none⟩ = false := by
  simp [World.frozen?, h]

theorem lt_of_heap {x : Obj} (h : w.heap[b]? = some x) : b < w.heap.size := (Array.getElem?_eq_some_iff.1 h).1

theorem heap_alloc_old' {k : Nat} {x ob : Obj} (h : w.heap[k]? = some x) : (w.alloc ob).heap[k]? = some x := by
  rw [Below.heap_alloc _ _ _ (lt_of_heap h)]; exact h

theorem heap_drewN (n : Nat) : (w.drewN n).heap = w.heap := by
  simp [World.drewN]

/-- The blocks outside S are as they were; nothing outside has turned. -/
structure Only (S : Nat → Prop) (w w' : World) : Prop where
  os : w'.os = w.os
  tape : w'.tape = w.tape
  output : w'.output = w.output
  size : w.heap.size ≤ w'.heap.size
  block : ∀ k, k < w.heap.size → ¬ S k → w'.heap[k]? = w.heap[k]?

theorem Only.refl (S : Nat → Prop) (w : World) : Only S w w := ⟨rfl, rfl, rfl, Nat.le_refl _, fun _ _ _ => rfl⟩

theorem Only.trans {S : Nat → Prop} (h : Only S w w1) (g : Only S w1 w2) : Only S w w2 :=
  ⟨g.os.trans h.os, g.tape.trans h.tape, g.output.trans h.output, Nat.le_trans h.size g.size,
   fun k hk hs => (g.block k (Nat.lt_of_lt_of_le hk h.size) hs).trans (h.block k hk hs)⟩

theorem Only.mono {S S' : Nat → Prop} (h : Only S w w') (hs : ∀ k, k < w.heap.size → S k → S' k) : Only S' w w' :=
  ⟨h.os, h.tape, h.output, h.size, fun k hk hn => h.block k hk (fun x => hn (hs k hk x))⟩

/-- Two steps: what the second may turn was new, or may be turned. -/
theorem Only.andThen {S S' : Nat → Prop} (h : Only S w w1) (g : Only S' w1 w2) (hs : ∀ k, k < w.heap.size → S' k → S k) : Only S w w2 :=
  ⟨g.os.trans h.os, g.tape.trans h.tape, g.output.trans h.output, Nat.le_trans h.size g.size,
   fun k hk hn => (g.block k (Nat.lt_of_lt_of_le hk h.size) (fun x => hn (hs k hk x))).trans (h.block k hk hn)⟩

theorem Only.of_grown {row : Option Nat} (h : w.grownBy w' row) : Only (fun k => some k = row) w w' :=
  ⟨h.os, h.tape, h.output, h.size, fun k hk hn => h.block k hk hn⟩

theorem Only.of_below {B : Nat} (h : Below B w w') : Only (fun k => B ≤ k) w w' :=
  ⟨h.os, h.tape, h.output, h.size, fun k _ hn => h.block k (by omega)⟩

theorem Only.below {S : Nat → Prop} {B : Nat} (h : Only S w w') (hB : B ≤ w.heap.size) (hs : ∀ k, k < B → ¬ S k) : Below B w w' :=
  ⟨h.os, h.tape, h.output, h.size, fun k hk => h.block k (by omega) (hs k hk)⟩

theorem Only.setCell (a : Addr) (v : Value) : Only (fun k => k = a.block) w (w.setCell a v) :=
  ⟨rfl, rfl, rfl, by simp [World.setCell], fun k _ hn => heap_setCell_ne a v hn⟩

theorem Only.alloc (x : Obj) : Only (fun _ => False) w (w.alloc x) :=
  ⟨rfl, rfl, rfl, by simp, fun k hk _ => Below.heap_alloc _ _ _ hk⟩

theorem Only.drew : Only (fun _ => False) w w.drew := ⟨rfl, rfl, rfl, Nat.le_refl _, fun _ _ _ => rfl⟩

theorem Only.keep {S : Nat → Prop} {x : Obj} {k : Nat} (h : Only S w w') (hk : w.heap[k]? = some x) (hn : ¬ S k) : w'.heap[k]? = some x :=
  (h.block k (lt_of_heap hk) hn).trans hk

theorem Only.grown {S : Nat → Prop} {row : Option Nat} (h : Only S w w') (hs : ∀ k, k < w.heap.size → S k → some k = row) : w.grownBy w' row :=
  ⟨h.os, h.tape, h.output, h.size, fun k hk hn => h.block k hk (fun x => hn (hs k hk x))⟩
end

/-- An error's number as a value: 0 is nil. -/
def errV (n : Nat) : Value := if n = 0 then .nilIface else .iface 47 (.int .i64 n)
theorem errV_zero : errV 0 = .nilIface := rfl
theorem errV_pos {n : Nat} (h : n ≠ 0) : errV n = .iface 47 (.int .i64 n) := by simp [errV, h]

end Go.Proofs.Ytemfelonfokcnaa
