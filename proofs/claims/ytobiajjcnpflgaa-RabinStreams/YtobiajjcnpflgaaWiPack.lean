/- wire.Pack, wire.Frame. Conditions: parts that are few and short. -/
import Derived.Test.YtobiajjcnpflgaaWiVar
namespace Go.Proofs.Ytobiajjcnpflgaa
open Go.RowKit

/-- How many bytes there are together. -/
def tot (ps : List (List UInt8)) : Nat := ps.flatten.length

namespace Wi
theorem pack_len (fs : List (List UInt8)) (h : ∀ f ∈ fs, f.length < 9223372036854775808) : (pack fs).length ≤ 9 * fs.length + tot fs := by
  induction fs with
  | nil => simp [pack]
  | cons f fs ih =>
    have h1 := ih (fun g hg => h g (by simp [hg]))
    have h2 := var_length 8 f.length (by simpa using h f (by simp))
    rw [pack_cons, List.length_append, field_len]
    unfold tot at h1 ⊢
    simp only [List.length_cons, List.flatten_cons, List.length_append]
    omega
theorem pack_take {fs : List (List UInt8)} {i : Nat} (h : i < fs.length) : pack (fs.take (i + 1)) = (pack (fs.take i) ++ var fs[i].length) ++ fs[i] := by
  rw [List.take_succ_eq_append_getElem h, pack_append, pack_cons, pack_nil, fieldOf, List.append_nil, List.append_assoc]
end Wi

/-- Parts that are few and short. -/
structure Parts (fs : List (List UInt8)) : Prop where
  cnt : fs.length ≤ 1048576
  sum : tot fs ≤ 1048576

theorem tot_get {fs : List (List UInt8)} {i : Nat} (h : i < fs.length) : tot (fs.take (i + 1)) = tot (fs.take i) + fs[i].length := by
  unfold tot; rw [flatten_take_succ h, List.length_append]
theorem tot_le (fs : List (List UInt8)) (i : Nat) : tot (fs.take i) ≤ tot fs := flatten_take_le fs i
theorem Parts.one {fs : List (List UInt8)} (h : Parts fs) {i : Nat} (hi : i < fs.length) : fs[i].length ≤ 1048576 := by
  have := tot_get hi; have := tot_le fs (i + 1); have := h.sum; omega
theorem Parts.mem {fs : List (List UInt8)} (h : Parts fs) {f : List UInt8} (hf : f ∈ fs) : f.length ≤ 1048576 := by
  obtain ⟨i, hi, rfl⟩ := List.getElem_of_mem hf
  exact h.one hi

theorem Parts.packLen {fs : List (List UInt8)} (h : Parts fs) (i : Nat) : (Wi.pack (fs.take i)).length ≤ 16777216 := by
  have h1 := Wi.pack_len (fs.take i) (fun f hf => by have := h.mem (List.mem_of_mem_take hf); omega)
  have h2 := tot_le fs i
  have h3 := h.sum
  have h4 := h.cnt
  have h5 : (fs.take i).length ≤ fs.length := by simp; omega
  omega

theorem Row.made {w w1 : World} {c : Nat} (hr : w1.ownsRow 0 5 1 (.slice (some ⟨w.heap.size, 0, none⟩) 0 c) 0 []) (hg : w.grownBy w1 none) : Row w w1 (.slice (some ⟨w.heap.size, 0, none⟩) 0 c) [] :=
  ⟨hr, fun q hq => (by have : w.heap.size = q := Option.some.inj hq; omega), (Only.of_grown hg).mono (fun _ _ h => by cases h)⟩

/-- The i-th part, at any later world. -/
theorem PartsAt.get {w : World} {S : Nat → Prop} {va : Option Addr} {n vc i : Nat} {ps : List (List UInt8)} (h : PartsAt w S (.slice va n vc) ps) (hi : i < ps.length) : ∃ ad ua uc, va = some ad ∧ S ad.block ∧ w.cell? (ad.add i) = some (.slice ua ps[i].length uc) ∧ BytesAt w S (.slice ua ps[i].length uc) ps[i] := by
  obtain ⟨a, c, e, _, hat⟩ := h
  obtain ⟨rfl, _, _⟩ := Value.slice.inj e
  obtain ⟨ad, u, e1, e2, e3, e4⟩ := hat i hi
  obtain ⟨ua, uc, rfl⟩ := e4.shape
  exact ⟨ad, ua, uc, e1, e2, e3, e4⟩

/-- The room that Pack asks for. -/
def roomOf (fs : List (List UInt8)) : Nat := 4 * fs.length + tot fs

end Go.Proofs.Ytobiajjcnpflgaa
