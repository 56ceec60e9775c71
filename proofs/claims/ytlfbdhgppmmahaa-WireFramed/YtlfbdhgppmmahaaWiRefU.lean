/- The document's own Unpack. Conditions: the row is short. -/
import Derived.Test.YtlfbdhgppmmahaaWiRefS
import Derived.Test.YtlfbdhgppmmahaaWiUnpack
namespace Go.Proofs.Ytlfbdhgppmmahaa
open Go.RowKit

/-- What stands behind the first l bytes. -/
theorem BytesAt.dropl {w : World} {S : Nat → Prop} {a : Option Addr} {n c l : Nat} {bs : List UInt8} (h : BytesAt w S (.slice a n c) bs) (hl : l ≤ bs.length) : ∃ a', (∀ W : World, (Instr.slice 22 (.slice a n c) (some (.int .i64 (l : Int))) none none).run Try.prog W = .ok (.slice a' (n - l) (c - l)) W) ∧ BytesAt w S (.slice a' (n - l) (c - l)) (bs.drop l) := by
  have hc := h.cap
  have hn : n = bs.length := by obtain ⟨_, _, e⟩ := h.shape; exact (Value.slice.inj e).2.1
  subst hn
  refine ⟨if c = l then a else a.map (·.add l), fun W => ?_, ?_⟩
  · rw [run_slice_l (ht := by kernel_rfl) (h0 := by omega) (h1 := by omega)]
    have hsz : (sizeOf (Try.prog.elem 22)).run Try.prog W = .ok 1 W := by kernel_rfl
    rw [hsz]
    simp [Result.andThen, sliced]
  · have hll : (bs.drop l).length = bs.length - l := by simp
    rcases h with ⟨e, rfl⟩ | ⟨ad, c', e, hc', h2, h3⟩
    · obtain ⟨rfl, _, rfl⟩ := Value.slice.inj e
      have h0 : l = 0 := by simpa using hl
      subst h0
      exact .inl ⟨rfl, rfl⟩
    · obtain ⟨rfl, _, rfl⟩ := Value.slice.inj e
      by_cases hcl : c = l
      · have hk0 : bs.length - l = 0 := by omega
        rw [if_pos hcl, hk0]
        refine .inr ⟨ad, c - l, by rw [hll, hk0], by omega, fun hne => absurd (List.drop_eq_nil_of_le (by omega)) hne, fun j x hx => ?_⟩
        rw [List.drop_eq_nil_of_le (by omega)] at hx
        simp at hx
      · rw [if_neg hcl]
        refine .inr ⟨ad.add l, c - l, by rw [hll]; rfl, by omega, fun hne => ?_, fun j x hx => ?_⟩
        · rw [add_block]; exact h2 (by rintro rfl; simp at hne)
        · rw [add_add]
          rw [List.getElem?_drop] at hx
          exact h3 _ x hx

/-- Rows that lie in blocks of bytes. -/
def RowsU (w : World) (us : List Value) (fs : List (List UInt8)) : Prop := us.length = fs.length ∧ ∀ i (h : i < fs.length), ∃ u, us[i]? = some u ∧ BytesAt w (fun k => TyAt w k 5) u fs[i]
theorem RowsU.typed {w w' : World} {T : Nat → Prop} {us : List Value} {fs : List (List UInt8)} (h : RowsU w us fs) (ho : Only T w w') (hT : ∀ k, T k → ∃ t, TyAt w k t ∧ t ≠ 5) : RowsU w' us fs := by
  refine ⟨h.1, fun i hi => ?_⟩
  obtain ⟨u, h1, h2⟩ := h.2 i hi
  have hk : ∀ k, TyAt w k 5 → w'.heap[k]? = w.heap[k]? := fun k hk => ho.block k hk.lt (fun ht => by
    obtain ⟨t, q1, q2⟩ := hT k ht
    exact q2 (q1.eq hk))
  exact ⟨u, h1, h2.kept hk (fun k q => by obtain ⟨c, hc⟩ := q; exact ⟨c, (hk k ⟨c, hc⟩).trans hc⟩)⟩
theorem RowsU.snoc {w : World} {us : List Value} {fs : List (List UInt8)} {u : Value} {f : List UInt8} (h : RowsU w us fs) (hu : BytesAt w (fun k => TyAt w k 5) u f) : RowsU w (us ++ [u]) (fs ++ [f]) := by
  refine ⟨by simp [h.1], fun i hi => ?_⟩
  by_cases e : i < fs.length
  · obtain ⟨x, h1, h2⟩ := h.2 i e
    refine ⟨x, by rw [List.getElem?_append_left (by rw [h.1]; exact e)]; exact h1, ?_⟩
    rw [List.getElem_append_left e]; exact h2
  · have e' : i = fs.length := by simp at hi; omega
    subst e'
    refine ⟨u, by rw [← h.1]; simp, ?_⟩
    simpa using hu
theorem Row.typed8 {w wr : World} {v : Value} {bs : List UInt8} (h : Row w wr v bs) : BytesAt wr (fun k => TyAt wr k 5) v bs := by
  refine (BytesAt.of_row h.row).mono (fun k hk => ?_)
  rcases h.row.2 with ⟨rfl, _⟩ | ⟨g, cap, cur, rfl, _, hg, _⟩
  · cases hk
  · have : g = k := Option.some.inj hk
    subst this
    exact ⟨_, hg⟩
theorem Lst.partsU {w wr : World} {ov : Value} {us : List Value} {fs : List (List UInt8)} (h : Lst w wr ov us) (hr : RowsU wr us fs) : PartsAt wr (fun k => k < wr.heap.size) ov fs := by
  obtain ⟨a, c, rfl⟩ := h.shape
  refine ⟨a, c, by rw [hr.1], by have := row_cap h.row; rw [← hr.1]; exact this, fun i hi => ?_⟩
  obtain ⟨u, h1, h2⟩ := hr.2 i hi
  rcases h.row.2 with ⟨_, h0⟩ | ⟨q, cap, cur, e, _⟩
  · have := hr.1; omega
  · obtain ⟨rfl, _, rfl⟩ := Value.slice.inj e
    exact ⟨⟨q, 0, none⟩, u, rfl, (h.row.lt q rfl).2, h.row.cells (g := q) rfl i u h1, h2.mono (fun k hk => hk.lt)⟩

/-- What it keeps on its way. -/
structure Unq (w wr : World) (bs rest : List UInt8) (bv ov : Value) (us : List Value) (fs : List (List UInt8)) (N : Nat) : Prop where
  lst : Lst w wr ov us
  rows : RowsU wr us fs
  bv : BytesAt w (fun k => k < w.heap.size) bv rest
  len : fs.length + rest.length ≤ bs.length
  eq : fs.length ≤ N ∧ Wi.unpack N bs = (Wi.unpack (N - fs.length) rest).map (fs ++ ·)

end Go.Proofs.Ytlfbdhgppmmahaa
