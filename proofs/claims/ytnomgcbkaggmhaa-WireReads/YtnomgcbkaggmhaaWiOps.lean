/- A value of type []Op: calls of a Reader. Conditions: rows within the reach. -/
import Derived.Test.YtnomgcbkaggmhaaGArgs
import Derived.Test.YtnomgcbkaggmhaaGBytes
namespace Go.Proofs.Ytnomgcbkaggmhaa
open Go.RowKit

/-- A call: its kind, its number. -/
structure OpD where
  (kind n : Int)

instance : Inhabited OpD := ⟨⟨0, 0⟩⟩

/-- v holds the calls l. -/
def OpsAt (w : World) (S : Nat → Prop) (v : Value) (l : List OpD) : Prop :=
  ∃ a c, v = .slice a l.length c ∧ ∀ i (hi : i < l.length), ∃ ad, a = some ad ∧ S ad.block ∧ w.cell? (ad.add (i * 2)) = some (.int .i64 l[i].kind) ∧ w.cell? (ad.add (i * 2 + 1)) = some (.int .i64 l[i].n)

theorem OpsAt.only {w w' : World} {S T : Nat → Prop} {v : Value} {l : List OpD} (h : OpsAt w S v l) (ho : Only T w w') (hl : ∀ k, S k → k < w.heap.size) (hs : ∀ k, S k → ¬ T k) : OpsAt w' S v l := by
  obtain ⟨a, c, h1, h2⟩ := h
  refine ⟨a, c, h1, fun i hi => ?_⟩
  obtain ⟨ad, e1, e2, e3, e4⟩ := h2 i hi
  have hk : ∀ n, w'.cell? (ad.add n) = w.cell? (ad.add n) := fun n => World.cell?_of_block (w := w) (by rw [add_block]; exact ho.block _ (hl _ e2) (hs _ e2))
  exact ⟨ad, e1, e2, by rw [hk]; exact e3, by rw [hk]; exact e4⟩

theorem lst2 {α : Type} {l : List α} (h : l.length = 2) : ∃ x0 x1, l = [x0, x1] := by
  match l, h with
  | [x0, x1], _ => exact ⟨x0, x1, rfl⟩

theorem op_open {H : Type} {enc : TypeId × Value → H} {w : World} {base : Nat} {spare : Nat → Bool} {held : Bool} {fuel : Nat} {cs : List Value} {x : DataW H × List MemPlace} (h : DataW.trod enc Try.prog w base spare held fuel 68 cs = some x) :
    ∃ o : OpD, cs = [.int .i64 o.kind, .int .i64 o.n] := by
  obtain ⟨y0, y1, n, rfl, hl, f0, f1⟩ := ChangeShapes.trod_struct2 Try.underlying68 h
  have hcl : Try.prog.cellsOf 68 = 2 := by kernel_rfl
  have hc3 : Try.prog.cellsOf 3 = 1 := by kernel_rfl
  rw [hcl] at hl
  obtain ⟨c0, c1, rfl⟩ := lst2 hl
  simp only [hc3, List.drop, List.take] at f0 f1
  obtain ⟨i, e0, _, _⟩ := DataW.trod_int Try.underlying3 f0
  obtain ⟨j, e1, _, _⟩ := DataW.trod_int Try.underlying3 f1
  have g0 := (List.cons.inj (show [c0] = [.int .i64 i] from e0)).1
  have g1 := (List.cons.inj (show [c1] = [.int .i64 j] from e1)).1
  clear f0 f1 e0 e1
  subst g0 g1
  exact ⟨⟨i, j⟩, rfl⟩

theorem ops_open {H : Type} {enc : TypeId × Value → H} {w : World} {base : Nat} {spare : Nat → Bool} {held : Bool} {fuel : Nat} {cs : List Value} {x : DataW H × List MemPlace} (h : DataW.trod enc Try.prog w base spare held fuel 60 cs = some x) :
    ∃ v l, cs = [v] ∧ OpsAt w (fun k => k < w.heap.size) v l := by
  have hcl : Try.prog.cellsOf 68 = 2 := by kernel_rfl
  rcases Deep.open_slice Try.underlying60 h with ⟨rfl, rfl⟩ | ⟨a, len, cap, m, n, D, Pl, rfl, hb, hl, hm, hmm, rfl, hx⟩
  · exact ⟨_, [], rfl, ⟨none, 0, rfl, fun i hi => absurd hi (by simp)⟩⟩
  · have hle : len ≤ m := by rw [hmm]; split <;> omega
    rw [hcl] at hx
    obtain ⟨f, hf⟩ := Deep.choose_lt (α := OpD) (n := len) (p := fun i o => w.cell? (a.add (i * 2)) = some (.int .i64 o.kind) ∧ w.cell? (a.add (i * 2 + 1)) = some (.int .i64 o.n)) (fun i hi => by
      obtain ⟨cs', h1, h2⟩ := hx i (by omega)
      obtain ⟨o, hcs⟩ := op_open h2
      obtain ⟨_, _, hc⟩ := World.cells?_some h1
      have q0 := hc 0 (by omega)
      have q1 := hc 1 (by omega)
      rw [Deep.add_add] at q0 q1
      subst hcs
      exact ⟨o, q0, q1⟩)
    refine ⟨_, (List.range len).map f, rfl, ⟨some a, cap, by simp, fun i hi => ?_⟩⟩
    have hi' : i < len := by simpa using hi
    obtain ⟨h2, h3⟩ := hf i hi'
    refine ⟨a, rfl, ?_, by simpa using h2, by simpa using h3⟩
    have := lt_of_cell h2
    rwa [add_block] at this

open Go.ChangeShapes Go.WideShapes Go.ChangeAt

set_option maxRecDepth 100000 in
theorem ops_arg {H : Type} {enc : TypeId × Value → H} {W : World} {b0 : Nat} {v : Value} {d : DataW H} {p : List MemPlace} (hv : Value.okWide Try.prog W .any b0 60 v) (h : DataW.Trod enc Try.prog W 0 (fun _ => true) true 60 v d p) (_hz : Small 60 d) :
    ∃ l, OpsAt W (fun k => k < W.heap.size) v l := by
  obtain ⟨a, len, cap, rfl⟩ := okWide_slice Try.underlying60 hv
  obtain ⟨fuel, h⟩ := h
  obtain ⟨v, l, hcs, hs⟩ := ops_open h
  have : Value.slice a len cap = v := (List.cons.inj (show [Value.slice a len cap] = [v] from hcs)).1
  subst this
  exact ⟨l, hs⟩

end Go.Proofs.Ytnomgcbkaggmhaa
