/- A row of cells stored one by one into a block that is known whole. Conditions: none. -/
import Derived.Test.YtemfelonfokcnaaGMem
namespace Go.Proofs.Ytemfelonfokcnaa
open Go.RowKit

/-- The values vs stored into block g, from place o on. -/
def puts (w : World) (g : Nat) : Nat → List Value → World
  | _, [] => w
  | o, v :: vs => puts (w.setCell ⟨g, o, none⟩ v) g (o + 1) vs

theorem splice_cons {α : Type} (L : List α) (o : Nat) (v : α) (vs : List α) (h : o < L.length) : splice (L.set o v) (o + 1) vs = splice L o (v :: vs) := by
  unfold splice
  have e : o + 1 + vs.length = o + (v :: vs).length := by simp; omega
  rw [e, List.drop_set_of_lt (by simp), List.take_set, List.take_add_one, List.getElem?_eq_getElem h, Option.toList_some, List.set_append_right _ _ (by simp; omega)]
  simp [List.length_take, show min o L.length = o by omega]

theorem Blk.putted {g : Nat} {t : TypeId} : ∀ (vs : List Value) {w : World} {L : List Value} (o : Nat), Blk w g L t → o + vs.length ≤ L.length → Blk (puts w g o vs) g (splice L o vs) t ∧ Only (fun k => k = g) w (puts w g o vs)
  | [], w, L, o, h, hl => by
    refine ⟨?_, Only.refl _ _⟩
    have e : splice L o ([] : List Value) = L := by simp [splice]
    rw [e]
    exact h
  | v :: vs, w, L, o, h, hl => by
    have hl' : o + 1 + vs.length ≤ L.length := by simp at hl; omega
    obtain ⟨h1, h2⟩ := Blk.putted vs (o + 1) (h.set o v) (by rw [List.length_set]; exact hl')
    rw [splice_cons _ _ _ _ (by omega)] at h1
    exact ⟨h1, (Only.setCell ⟨g, o, none⟩ v).trans h2⟩

/-- A block stored whole. -/
theorem Blk.puts_all {g : Nat} {t : TypeId} {w : World} {L vs : List Value} (h : Blk w g L t) (hl : vs.length = L.length) : Blk (puts w g 0 vs) g vs t ∧ Only (fun k => k = g) w (puts w g 0 vs) := by
  have := Blk.putted vs 0 h (by omega)
  have e : splice L 0 vs = vs := by unfold splice; rw [List.drop_of_length_le (by omega)]; simp
  rw [e] at this
  exact this

end Go.Proofs.Ytemfelonfokcnaa
