/- Pieces of rows of bytes: b[l:h], b[l:], b[:h]. Conditions: none. -/
import Derived.Test.YtemfelonfokcnaaGParts
namespace Go.Proofs.Ytemfelonfokcnaa
open Go.RowKit

theorem slice_lo_hi {a : Option Addr} {n cap l h : Nat} (hlh : l ≤ h) (hc : h ≤ cap) : ∃ a', (l < cap → a' = a.map (·.add l)) ∧ ∀ w : World, (Instr.slice 25 (.slice a n cap) (some (.int .i64 (l : Int))) (some (.int .i64 (h : Int))) none).run Try.prog w = .ok (.slice a' (h - l) (cap - l)) w := by
  refine ⟨if cap = l then a else a.map (·.add l), fun hlt => by rw [if_neg (by omega)], fun w => ?_⟩
  rw [run_slice_lh (ht := by kernel_rfl) (h0 := by omega) (h1 := by omega) (h2 := by omega)]
  have hsz : (sizeOf (Try.prog.elem 25)).run Try.prog w = .ok 1 w := by kernel_rfl
  rw [hsz]
  simp [Result.andThen, sliced]

theorem BytesAt.room {w : World} {S : Nat → Prop} {a : Option Addr} {n c : Nat} {bs : List UInt8} (h : BytesAt w S (.slice a n c) bs) : n = bs.length ∧ n ≤ c := by
  rcases h with ⟨e, rfl⟩ | ⟨ad, c', e, hcap, _⟩
  · obtain ⟨_, rfl, rfl⟩ := Value.slice.inj e; simp
  · obtain ⟨_, rfl, rfl⟩ := Value.slice.inj e; exact ⟨rfl, hcap⟩

/-- A piece, empty ones too: an empty piece may lie anywhere. -/
theorem BytesAt.cut {w : World} {S : Nat → Prop} {a a' : Option Addr} {n cap l h : Nat} {bs : List UInt8} (hv : BytesAt w S (.slice a n cap) bs) (hlh : l ≤ h) (hh : h ≤ bs.length) (ha : l < cap → a' = a.map (·.add l)) (h0 : a' = none → cap - l = 0) :
    BytesAt w S (.slice a' (h - l) (cap - l)) ((bs.take h).drop l) := by
  have hl : ((bs.take h).drop l).length = h - l := by simp; omega
  have hrm := hv.room
  cases a' with
  | none =>
    have := h0 rfl
    have e : h - l = 0 := by omega
    rw [e] at hl ⊢
    rw [this]
    exact .inl ⟨rfl, List.eq_nil_of_length_eq_zero hl⟩
  | some x =>
    refine .inr ⟨x, cap - l, by rw [hl], by rw [hl]; omega, fun hne => ?_, fun j y hy => ?_⟩
    · have hpos := List.length_pos_iff.2 hne
      have ha := ha (by omega)
      rcases hv with ⟨e, rfl⟩ | ⟨ad, c', e, hcap, hS, hcell⟩
      · simp at hpos
      · obtain ⟨rfl, _, _⟩ := Value.slice.inj e
        obtain rfl := Option.some.inj ha
        rw [add_block]
        exact hS (by rintro rfl; simp at hpos)
    · have hj := (List.getElem?_eq_some_iff.1 hy).1
      have ha := ha (by omega)
      rcases hv with ⟨e, rfl⟩ | ⟨ad, c', e, hcap, hS, hcell⟩
      · simp at hj
      · obtain ⟨rfl, _, _⟩ := Value.slice.inj e
        obtain rfl := Option.some.inj ha
        rw [add_add]
        refine hcell (l + j) y ?_
        rw [List.getElem?_drop, List.getElem?_take] at hy
        split at hy
        · exact hy
        · cases hy

end Go.Proofs.Ytemfelonfokcnaa
