/- Arguments of the laws: values of type Survival, []Op, []byte. Conditions: rows within the reach. -/
import Derived.Test.YthjabfhfkikalaaOpen
import Derived.ShutString
namespace Go.Proofs.Ythjabfhfkikalaa
open Go.ChangeShapes Go.WideShapes Go.ChangeAt Go.RowKit

set_option maxRecDepth 100000 in
/-- A value of type Survival. -/
theorem survival_arg {H : Type} {enc : TypeId × Value → H} {W : World} {b0 : Nat} {v : Value} {d : DataW H} {p : List MemPlace} (hv : Value.okWide Try.prog W .any b0 26 v) (h : DataW.Trod enc Try.prog W 0 (fun _ => true) true 26 v d p) (hz : Small 26 d) :
    ∃ dirs cv cuts, v = .agg #[.int .i64 dirs, cv] ∧ IntsAt W (fun k => k < W.heap.size) cv cuts := by
  unfold Value.okWide at hv
  rw [Try.underlying26] at hv
  obtain ⟨cs, rfl, _, _⟩ := hv
  obtain ⟨fuel, h⟩ := h
  obtain ⟨dirs, cv, cuts, hcs, hc, _, _⟩ := survival_open h hz
  have : cs = #[.int .i64 dirs, cv] := Array.toList_inj.1 hcs
  subst this
  exact ⟨dirs, cv, cuts, rfl, hc⟩

set_option maxRecDepth 100000 in
/-- A value of type []Op. -/
theorem script_arg {H : Type} {enc : TypeId × Value → H} {W : World} {b0 : Nat} {v : Value} {d : DataW H} {p : List MemPlace} (hv : Value.okWide Try.prog W .any b0 23 v) (h : DataW.Trod enc Try.prog W 0 (fun _ => true) true 23 v d p) (hz : Small 23 d) :
    ∃ l, ScriptAt W (fun k => k < W.heap.size) v l ∧ l.length < 2 ^ 47 := by
  obtain ⟨a, len, cap, rfl⟩ := okWide_slice Try.underlying23 hv
  obtain ⟨fuel, h⟩ := h
  obtain ⟨v, l, hcs, hs, hl⟩ := script_open h hz
  have : Value.slice a len cap = v := (List.cons.inj (show [Value.slice a len cap] = [v] from hcs)).1
  subst this
  exact ⟨l, hs, hl⟩

theorem small_of {H : Type} {ts : List TypeId} {ds : List (DataW H)} (h : (DataW.weightsEach Try.prog ts ds).all (· ≤ reachBytes) = true) {j : Nat} {t : TypeId} {d : DataW H} (ht : ts[j]? = some t) (hd : ds[j]? = some d) : Small t d := by
  intro n hn
  have := List.all_eq_true.1 h n (DataW.weights_mem_each ht hd n hn)
  simpa using this

set_option maxRecDepth 100000 in
/-- A value of type []byte. -/
theorem bytes_arg {H : Type} {enc : TypeId × Value → H} {W : World} {b0 : Nat} {v : Value} {d : DataW H} {p : List MemPlace} (hv : Value.okWide Try.prog W .any b0 22 v) (h : DataW.Trod enc Try.prog W 0 (fun _ => true) true 22 v d p) (hz : Small 22 d) :
    ∃ bs, BytesAt W (fun k => k < W.heap.size) v bs ∧ bs.length ≤ 140737488355328 := by
  obtain ⟨a, len, cap, rfl⟩ := okWide_slice Try.underlying22 hv
  obtain ⟨fuel, h⟩ := h
  obtain ⟨v, l, hcs, hs, hl⟩ := bytes_open h hz
  have : Value.slice a len cap = v := (List.cons.inj (show [Value.slice a len cap] = [v] from hcs)).1
  subst this
  exact ⟨l, hs, hl⟩

end Go.Proofs.Ythjabfhfkikalaa
