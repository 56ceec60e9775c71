/- A list of entries that grows, whatever their rows of bytes. Conditions: none. -/
import Derived.Test.YtikkfmmdgicigaaDoorTrMiss
namespace Go.Proofs.YtikkfmmdgicigaaDoor
open Go.RowKit

structure GRowE (n0 m0 : Nat) (w : World) (v : Value) (ys : List Ve) : Prop where
  row : w.ownsRow 0 41 8 v ys.length (enCs ys)
  new : ∀ g, v.ownBlock = some g → n0 ≤ g
  each : ∀ y ∈ ys, BytesAt w (fun k => m0 ≤ k ∧ k < w.heap.size ∧ v.ownBlock ≠ some k) y.1 y.2.data
  low : n0 ≤ w.heap.size

theorem GRowE.nil (w : World) (m0 : Nat) : GRowE w.heap.size m0 w (.slice none 0 0) [] := ⟨World.ownsRow_nil _ _ _ _, by simp [Value.ownBlock], by simp, Nat.le_refl _⟩
theorem GRowE.made (w : World) (m0 : Nat) : GRowE w.heap.size m0 (w.alloc (.cells #[] 41)) (.slice (some ⟨w.heap.size, 0, none⟩) 0 0) [] :=
  ⟨World.ownsRow_made w #[] 0 (Nat.zero_le _) (Nat.zero_le _) rfl, fun g h => by have : w.heap.size = g := Option.some.inj h; omega, by simp, by simp⟩
theorem GRowE.lt {n0 m0 : Nat} {w : World} {v : Value} {ys : List Ve} (h : GRowE n0 m0 w v ys) {g : Nat} (hg : v.ownBlock = some g) : g < w.heap.size := (h.row.lt g hg).2
theorem GRowE.quiet {n0 m0 : Nat} {w w' : World} {v : Value} {ys : List Ve} (h : GRowE n0 m0 w v ys) (ho : Only (fun _ => False) w w') : GRowE n0 m0 w' v ys :=
  ⟨ownsRow_keep h.row (fun g hg => ho.block g (h.lt hg) (fun x => x)), h.new, fun y hy => (h.each y hy).kept (fun k hk => ho.block k hk.2.1 (fun x => x)) (fun _k hk => ⟨hk.1, Nat.lt_of_lt_of_le hk.2.1 ho.size, hk.2.2⟩), Nat.le_trans h.low ho.size⟩
theorem GRowE.ents' {n0 : Nat} {w : World} {v : Value} {ys : List Ve} (h : GRowE n0 n0 w v ys) : EntsAt w (fun k => n0 ≤ k ∧ k < w.heap.size) v ys := by
  have hb : ∀ x ∈ ys, BytesAt w (fun k => n0 ≤ k ∧ k < w.heap.size) x.1 x.2.data := fun x hx => (h.each x hx).mono (fun k hk => ⟨hk.1, hk.2.1⟩)
  rcases h.row.2 with ⟨e, h0⟩ | ⟨q, cap, cur, e, _, hq, _⟩
  · have : ys = [] := List.eq_nil_of_length_eq_zero h0
    subst this
    exact ⟨none, 0, e, Nat.le_refl _, fun _ => rfl, fun i hi => by simp at hi, hb⟩
  · have hr := h.row
    rw [e] at hr
    refine ⟨some ⟨q, 0, none⟩, cap, e, row_cap hr, (by simp), fun i hi => ⟨q, 0, rfl, ⟨h.new q (by rw [e]; rfl), lt_of_heap hq⟩, fun j u hu => ?_⟩, hb⟩
    have hj : j < 8 := by have := (List.getElem?_eq_some_iff.1 hu).1; rw [enC_len] at this; exact this
    have hc := h.row.cells (g := q) (by rw [e]; rfl) (i * 8 + j) u (by rw [enCs_at hi hj]; exact hu)
    rw [add_lit, Nat.zero_add] at hc
    rw [Nat.zero_add]
    exact hc
theorem GRowE.ents {n0 m0 : Nat} {w : World} {v : Value} {ys : List Ve} (h : GRowE n0 m0 w v ys) : EntsAt w (fun k => k < w.heap.size) v ys := by
  have hb : ∀ x ∈ ys, BytesAt w (fun k => k < w.heap.size) x.1 x.2.data := fun x hx => (h.each x hx).mono (fun k hk => hk.2.1)
  rcases h.row.2 with ⟨e, h0⟩ | ⟨q, cap, cur, e, _, hq, _⟩
  · have : ys = [] := List.eq_nil_of_length_eq_zero h0
    subst this
    exact ⟨none, 0, e, Nat.le_refl _, fun _ => rfl, fun i hi => by simp at hi, hb⟩
  · have hr := h.row
    rw [e] at hr
    refine ⟨some ⟨q, 0, none⟩, cap, e, row_cap hr, (by simp), fun i hi => ⟨q, 0, rfl, lt_of_heap hq, fun j u hu => ?_⟩, hb⟩
    have hj : j < 8 := by have := (List.getElem?_eq_some_iff.1 hu).1; rw [enC_len] at this; exact this
    have hc := h.row.cells (g := q) (by rw [e]; rfl) (i * 8 + j) u (by rw [enCs_at hi hj]; exact hu)
    rw [add_lit, Nat.zero_add] at hc
    rw [Nat.zero_add]
    exact hc
theorem GRowE.app {n0 m0 : Nat} {w w1 w2 : World} {v : Value} {xs ys : List Ve} {a : Option Addr} {c : Nat} (h : GRowE n0 m0 w v xs) (ho : Only (fun _ => False) w w1) (hr : w2.ownsRow 0 41 8 (.slice a (xs.length + ys.length) c) (xs.length + ys.length) (enCs xs ++ enCs ys)) (hg : w1.grownBy w2 v.ownBlock)
    (hat : (Value.slice a (xs.length + ys.length) c).ownBlock = v.ownBlock ∨ (Value.slice a (xs.length + ys.length) c).ownBlock = some w1.heap.size) (hy : ∀ y ∈ ys, BytesAt w1 (fun k => m0 ≤ k ∧ k < w1.heap.size ∧ v.ownBlock ≠ some k) y.1 y.2.data) :
    GRowE n0 m0 w2 (.slice a (xs ++ ys).length c) (xs ++ ys) ∧ Only (fun k => n0 ≤ k) w w2 := by
  have hz := ho.size
  have h1 := h.quiet ho
  have ho2 : Only (fun k => n0 ≤ k ∧ v.ownBlock = some k) w1 w2 := (Only.of_grown hg).mono (fun k _ e => ⟨h.new k e.symm, e.symm⟩)
  have key : ∀ {u : Value} {bs : List UInt8}, BytesAt w1 (fun k => m0 ≤ k ∧ k < w1.heap.size ∧ v.ownBlock ≠ some k) u bs → BytesAt w2 (fun k => m0 ≤ k ∧ k < w2.heap.size ∧ (Value.slice a (xs ++ ys).length c).ownBlock ≠ some k) u bs := fun hb =>
    hb.kept (fun k hk => ho2.block k hk.2.1 (fun e => hk.2.2 e.2)) (fun k hk => ⟨hk.1, Nat.lt_of_lt_of_le hk.2.1 ho2.size, fun e => by
      have e' : (Value.slice a (xs.length + ys.length) c).ownBlock = some k := by rw [List.length_append] at e; exact e
      rcases hat with h3 | h3
      · exact hk.2.2 (by rw [← h3]; exact e')
      · rw [e'] at h3
        have := Option.some.inj h3
        omega⟩)
  refine ⟨⟨?_, fun q hq => ?_, fun x hx => ?_, Nat.le_trans h1.low ho2.size⟩, (ho.mono (fun _ _ h => h.elim)).andThen ho2 (fun k _ e => e.1)⟩
  · rw [List.length_append, enCs_append]; exact hr
  · rw [List.length_append] at hq
    rcases hat with e | e
    · exact h.new q (by rw [← e]; exact hq)
    · rw [hq] at e
      have e1 : q = w1.heap.size := Option.some.inj e
      have := h.low
      omega
  · rcases List.mem_append.1 hx with hx | hx
    · exact key (h1.each x hx)
    · exact key (hy x hx)

/-- One entry, in a block of its own. -/
theorem one_src (w : World) (x : Ve) {S : Nat → Prop} (hb : BytesAt w S x.1 x.2.data) (hS : ∀ k, S k → k < w.heap.size) : EntsAt (w.alloc (.cells (enC x).toArray 41)) (fun _ => True) (.slice (some ⟨w.heap.size, 0, none⟩) 1 1) [x] := by
  have hblk : Blk (w.alloc (.cells (enC x).toArray 41)) w.heap.size (enC x) 41 := Blk.new w _ _
  refine ⟨_, 1, rfl, Nat.le_refl _, (by simp), fun i hi => ⟨w.heap.size, 0, rfl, trivial, fun j u hu => ?_⟩, fun y hy => ?_⟩
  · have : i = 0 := by simpa using hi
    subst this
    simp only [Nat.zero_mul, Nat.zero_add]
    exact (hblk.cell j).trans hu
  · rw [List.mem_singleton] at hy
    subst hy
    exact hb.kept (fun k hk => Below.heap_alloc _ _ _ (hS k hk)) (fun _ _ => trivial)

end Go.Proofs.YtikkfmmdgicigaaDoor
