/- Callees that lay blocks, in a drawn region that only reads. Conditions: none. -/
import Derived.Test.YtemfelonfokcnaaGMono
import Derived.Test.YtemfelonfokcnaaUsClean
import Derived.Shelf.SlSortCmp.QuietGrown
namespace Go.Proofs.Ytemfelonfokcnaa
open Go.RowKit Go.Sort

theorem only_grow (w : World) (n : Nat) (os : Array Obj) : Only (fun _ => False) w (grow (w.drewN n) os) :=
  ⟨rfl, rfl, rfl, by simp [grow, World.drewN], fun k hk _ => by simp [grow, World.drewN, Array.getElem?_append, hk]⟩
theorem grown_only {w w' : World} (h : Only (fun _ => False) w w') (hd : w.drawn ≤ w'.drawn) : ∃ q os', w' = grow (w.drewN q) os' := by
  refine ⟨w'.drawn - w.drawn, w'.heap.extract w.heap.size w'.heap.size, ?_⟩
  obtain ⟨heap', tape', drawn', os', output'⟩ := w'
  have e1 : os' = w.os := h.os
  have e2 : tape' = w.tape := h.tape
  have e3 : output' = w.output := h.output
  have hs : w.heap.size ≤ heap'.size := h.size
  have hb : ∀ k, k < w.heap.size → heap'[k]? = w.heap[k]? := fun k hk => h.block k hk (fun x => x)
  have hd' : w.drawn ≤ drawn' := hd
  subst e1 e2 e3
  have eh : heap' = w.heap ++ heap'.extract w.heap.size heap'.size := by
    apply Array.ext_getElem?
    intro k
    by_cases hk : k < w.heap.size
    · rw [Array.getElem?_append_left hk]; exact hb k hk
    · rw [Array.getElem?_append_right (by omega), Array.getElem?_extract]
      by_cases hk2 : k < heap'.size
      · rw [if_pos (by omega)]; congr 1; omega
      · rw [if_neg (by omega), Array.getElem?_eq_none (by omega)]
  have ed : drawn' = w.drawn + (drawn' - w.drawn) := by omega
  simp only [grow, World.drewN]
  rw [← ed]
  congr 1
/-- A contract for every later world, as a region that reads takes it. -/
theorem to_grown {P : Program} {f : FuncId} {args : Array Value} {v : Value} {w : World} (h : ∀ W, Only (fun _ => False) w W → Calls P f args W fun e w' => e = .returned v ∧ Only (fun _ => False) W w') :
    ∀ n os, Calls P f args (grow (w.drewN n) os) fun e w' => e = .returned v ∧ ∃ p : GrownBy, w' = grow (w.drewN p.n) p.os := fun n os =>
  Calls.grown_of ((calls_drawn (h _ (only_grow w n os))).mono fun _e _w' ⟨⟨he, ho⟩, hd⟩ => ⟨he, grown_only ho (hd _ he)⟩)
theorem mix_orders : Try.prog.follows .mixedOrders = true := by kernel_rfl

end Go.Proofs.Ytemfelonfokcnaa
