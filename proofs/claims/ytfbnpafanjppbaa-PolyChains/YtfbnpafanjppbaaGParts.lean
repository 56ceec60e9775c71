/- Rows as lists of parts; appends under a guard; what a row begins with. Conditions: none. -/
import Derived.Test.YtfbnpafanjppbaaGMem
import Derived.Deep.DeepCutAuto
namespace Go.Proofs.Ytfbnpafanjppbaa
open Go.RowKit

/-- v holds the rows ps; all blocks are of S. -/
def PartsAt (w : World) (S : Nat → Prop) (v : Value) (ps : List (List UInt8)) : Prop :=
  ∃ a c, v = .slice a ps.length c ∧ ps.length ≤ c ∧ ∀ i (hi : i < ps.length), ∃ ad u, a = some ad ∧ S ad.block ∧ w.cell? (ad.add i) = some u ∧ BytesAt w S u ps[i]

theorem PartsAt.kept {w w' : World} {S S' : Nat → Prop} {v : Value} {ps : List (List UInt8)} (h : PartsAt w S v ps) (hk : ∀ k, S k → w'.heap[k]? = w.heap[k]?) (hs : ∀ k, S k → S' k) : PartsAt w' S' v ps := by
  obtain ⟨a, c, h1, hc, h2⟩ := h
  refine ⟨a, c, h1, hc, fun i hi => ?_⟩
  obtain ⟨ad, u, e1, e2, e3, e4⟩ := h2 i hi
  refine ⟨ad, u, e1, hs _ e2, ?_, e4.kept hk hs⟩
  rw [World.cell?_of_block (w := w) (by rw [add_block]; exact hk _ e2)]
  exact e3
theorem PartsAt.only {w w' : World} {S T : Nat → Prop} {v : Value} {ps : List (List UInt8)} (h : PartsAt w S v ps) (ho : Only T w w') (hl : ∀ k, S k → k < w.heap.size) (hs : ∀ k, S k → ¬ T k) : PartsAt w' S v ps :=
  h.kept (fun k hk => ho.block k (hl k hk) (hs k hk)) (fun _ h => h)

theorem flatten_take_succ {ps : List (List UInt8)} {i : Nat} (h : i < ps.length) : (ps.take (i + 1)).flatten = (ps.take i).flatten ++ ps[i] := by
  rw [List.take_succ_eq_append_getElem h, List.flatten_append, List.flatten_cons, List.flatten_nil, List.append_nil]
theorem flatten_take_le (ps : List (List UInt8)) (i : Nat) : (ps.take i).flatten.length ≤ ps.flatten.length := by
  have e : ps.flatten = (ps.take i).flatten ++ (ps.drop i).flatten := by rw [← List.flatten_append, List.take_append_drop]
  rw [e, List.length_append]
  omega

theorem wpList_wanted {w : World} {ops : Array Oper} {rest : List Oper} {o : Oper} {a : Act} {Q : Exit → Act → World → Prop} (hw : Region.wanted o (yielded ops a.tmps) = true)
    (h : ∀ K : Act → World → Prop, (∀ a w, wpList Try.prog ops Q rest a w → K a w) → o.wp Try.prog a w K Q) : wpList Try.prog ops Q (o :: rest) a w :=
  wpList_step fun K hK => by rw [if_pos hw]; exact h K hK

theorem bytes_pre {w : World} {a : Option Addr} {n c k : Nat} {bs : List UInt8} (h : w.ownsRow 0 5 1 (.slice a n c) n (bs.map byteV)) (hb : bs.length = n) (hk : k ≤ n) : BytesAt w (fun q => q < w.heap.size) (.slice a k c) (bs.take k) := by
  have hl : (bs.take k).length = k := by rw [List.length_take, hb]; omega
  have hc := row_cap h
  rcases h.2 with ⟨e, e0⟩ | ⟨g, cap, cur, e, _⟩
  · obtain ⟨e1, _, e3⟩ := Value.slice.inj e
    have hk0 : k = 0 := by omega
    subst e1 e3 hk0
    exact .inl ⟨rfl, rfl⟩
  · obtain ⟨e1, _, e3⟩ := Value.slice.inj e
    subst e1 e3
    refine .inr ⟨⟨g, 0, none⟩, c, by rw [hl], by omega, fun _ => (h.lt g rfl).2, fun j x hx => ?_⟩
    rw [List.getElem?_take] at hx
    split at hx
    · exact h.cells (g := g) rfl j (byteV x) (by rw [List.getElem?_map, hx]; rfl)
    · cases hx

theorem BytesAt.here {w : World} {S : Nat → Prop} {v : Value} {x : List UInt8} (h : BytesAt w S v x) {w' : World} (ho : Only (fun _ => False) w w') (hS : ∀ k, S k → k < w.heap.size) : BytesAt w' (fun k => k < w'.heap.size) v x :=
  (h.only ho hS (fun _ _ x => x)).mono (fun k hk => Nat.lt_of_lt_of_le (hS k hk) ho.size)

end Go.Proofs.Ytfbnpafanjppbaa
