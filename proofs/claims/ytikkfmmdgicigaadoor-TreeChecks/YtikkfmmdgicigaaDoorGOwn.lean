/- Rows of any element that a call itself has made; blocks by their type. Conditions: none. -/
import Derived.Test.YtikkfmmdgicigaaDoorGMem
namespace Go.Proofs.YtikkfmmdgicigaaDoor
open Go.RowKit

/-- The block k holds elements of type t. -/
def IsTy (w : World) (k : Nat) (t : TypeId) : Prop := ∃ cur, w.heap[k]? = some (.cells cur t (0, 0))
theorem IsTy.eq {w : World} {k : Nat} {t u : TypeId} (h : IsTy w k t) (g : IsTy w k u) : t = u := by
  obtain ⟨c, h⟩ := h
  obtain ⟨c', g⟩ := g
  rw [h] at g
  exact (Obj.cells.inj (Option.some.inj g)).2.1
theorem IsTy.lt {w : World} {k : Nat} {t : TypeId} (h : IsTy w k t) : k < w.heap.size := lt_of_heap h.choose_spec
theorem IsTy.keep {w w' : World} {T : Nat → Prop} {k : Nat} {t : TypeId} (h : IsTy w k t) (ho : Only T w w') (hn : ¬ T k) : IsTy w' k t := by
  obtain ⟨c, h⟩ := h
  exact ⟨c, ho.keep h hn⟩

/-- A row of n elements of sz cells each, made by the call itself. -/
structure ORow (t : TypeId) (sz : Nat) (w wr : World) (ov : Value) (n : Nat) (cs : List Value) : Prop where
  row : wr.ownsRow 0 t sz ov n cs
  own : ∀ q, ov.ownBlock = some q → w.heap.size ≤ q
  only : Only (fun _ => False) w wr

theorem ORow.nil {t : TypeId} {sz : Nat} {w wr : World} (ho : Only (fun _ => False) w wr) : ORow t sz w wr (.slice none 0 0) 0 [] := ⟨⟨by simp, .inl ⟨rfl, rfl⟩⟩, fun _ h => (by cases h), ho⟩
theorem ORow.shape {t : TypeId} {sz : Nat} {w wr : World} {ov : Value} {n : Nat} {cs : List Value} (h : ORow t sz w wr ov n cs) : ∃ a c, ov = .slice a n c := row_shape h.row
theorem ORow.ty {t : TypeId} {sz : Nat} {w wr : World} {ov : Value} {n : Nat} {cs : List Value} (h : ORow t sz w wr ov n cs) {q : Nat} (hq : ov.ownBlock = some q) : IsTy wr q t := by
  rcases h.row.2 with ⟨rfl, _⟩ | ⟨g, cap, cur, rfl, _, hg, _⟩
  · cases hq
  · have : g = q := Option.some.inj hq
    subst this
    exact ⟨_, hg⟩
theorem ORow.keep {t : TypeId} {sz : Nat} {w wr w1 : World} {ov : Value} {n : Nat} {cs : List Value} (h : ORow t sz w wr ov n cs) (ho : Only (fun _ => False) wr w1) : ORow t sz w w1 ov n cs :=
  ⟨ownsRow_keep h.row (fun q hq => ho.block q (h.row.lt q hq).2 (fun x => x)), h.own, h.only.trans ho⟩
theorem ORow.app {t : TypeId} {sz : Nat} {w wr w1 w2 : World} {ov : Value} {n m : Nat} {cs new : List Value} {a : Option Addr} {c : Nat} (h : ORow t sz w wr ov n cs) (ho : Only (fun _ => False) wr w1) (hr : w2.ownsRow 0 t sz (.slice a (n + m) c) (n + m) (cs ++ new)) (hg : w1.grownBy w2 ov.ownBlock) (hat : (Value.slice a (n + m) c).ownBlock = ov.ownBlock ∨ (Value.slice a (n + m) c).ownBlock = some w1.heap.size) :
    ORow t sz w w2 (.slice a (n + m) c) (n + m) (cs ++ new) := by
  have hz := ho.size
  have hz0 := h.only.size
  refine ⟨hr, fun q hq => ?_, ?_⟩
  · rcases hat with e | e
    · exact h.own q (by rw [← e]; exact hq)
    · rw [hq] at e
      have e1 : q = w1.heap.size := Option.some.inj e
      omega
  · refine (h.only.trans ho).andThen ((Only.of_grown hg).mono (S' := fun q => some q = ov.ownBlock) (fun q _ h => h)) (fun k hk e => ?_)
    have := h.own k e.symm
    omega
theorem own_cells {t : TypeId} {sz : Nat} {w : World} {a : Option Addr} {n c : Nat} {cs : List Value} (h : w.ownsRow 0 t sz (.slice a n c) n cs) (hn : 0 < n) : ∃ q, a = some ⟨q, 0, none⟩ ∧ n ≤ c ∧ IsTy w q t ∧ ∀ j u, cs[j]? = some u → w.cell? ⟨q, j, none⟩ = some u := by
  rcases h.2 with ⟨_, h0⟩ | ⟨q, cap, cur, e, _, hg, _⟩
  · omega
  · obtain ⟨rfl, _, rfl⟩ := Value.slice.inj e
    refine ⟨q, rfl, row_cap h, ⟨_, hg⟩, fun j u hu => ?_⟩
    have := h.cells (g := q) rfl j u hu
    simpa [add_lit] using this
theorem cells_two (w : World) (x y : Value) (t : TypeId) : ∀ j u, [x, y][j]? = some u → (w.alloc (.cells #[x, y] t)).cell? ((⟨w.heap.size, 0, none⟩ : Addr).add j) = some u := by
  intro j u hu
  have hb := Blk.new w [x, y] t
  rw [add_lit, Nat.zero_add]
  exact (hb.cell j).trans hu

end Go.Proofs.YtikkfmmdgicigaaDoor
