/- A value of type []Op: calls of a Stream. Conditions: rows within the reach. -/
import Derived.Test.YtjeccooodkogkaaGArgs
import Derived.Deep.Strs
namespace Go.Proofs.Ytjeccooodkogkaa
open Go.RowKit

/-- A call: its kind, its place, its data, and the data's value. -/
structure OpD where
  (kind at' : Int) (dv : Value) (data : List UInt8)

instance : Inhabited OpD := ⟨⟨0, 0, .slice none 0 0, []⟩⟩

theorem mem_weightsAll {H : Type} {P : Program} {e : TypeId} {d : DataW H} {n : Nat} : ∀ {l : List (DataW H)}, d ∈ l → n ∈ d.weights P e → n ∈ DataW.weightsAll P e l
  | x :: r, h, hn => by
    simp only [DataW.weightsAll, List.mem_append]
    rcases List.mem_cons.1 h with rfl | h
    · exact .inl hn
    · exact .inr (mem_weightsAll h hn)

/-- v holds the calls l. -/
def OpsAt (w : World) (S : Nat → Prop) (v : Value) (l : List OpD) : Prop :=
  ∃ a c, v = .slice a l.length c ∧ ∀ i (hi : i < l.length), ∃ ad, a = some ad ∧ S ad.block ∧ w.cell? (ad.add (i * 3)) = some (.int .i64 l[i].kind) ∧ w.cell? (ad.add (i * 3 + 1)) = some (.int .i64 l[i].at') ∧ w.cell? (ad.add (i * 3 + 2)) = some l[i].dv ∧ BytesAt w S l[i].dv l[i].data

theorem OpsAt.only {w w' : World} {S T : Nat → Prop} {v : Value} {l : List OpD} (h : OpsAt w S v l) (ho : Only T w w') (hl : ∀ k, S k → k < w.heap.size) (hs : ∀ k, S k → ¬ T k) : OpsAt w' S v l := by
  obtain ⟨a, c, h1, h2⟩ := h
  refine ⟨a, c, h1, fun i hi => ?_⟩
  obtain ⟨ad, e1, e2, e3, e4, e5, e6⟩ := h2 i hi
  have hk : ∀ n, w'.cell? (ad.add n) = w.cell? (ad.add n) := fun n => World.cell?_of_block (w := w) (by rw [add_block]; exact ho.block _ (hl _ e2) (hs _ e2))
  exact ⟨ad, e1, e2, by rw [hk]; exact e3, by rw [hk]; exact e4, by rw [hk]; exact e5, e6.only ho hl hs⟩

theorem lst3 {α : Type} {l : List α} (h : l.length = 3) : ∃ x0 x1 x2, l = [x0, x1, x2] := by
  match l, h with
  | [x0, x1, x2], _ => exact ⟨x0, x1, x2, rfl⟩

theorem op3_open {H : Type} {enc : TypeId × Value → H} {w : World} {base : Nat} {spare : Nat → Bool} {held : Bool} {fuel : Nat} {cs : List Value} {x : DataW H × List MemPlace} (h : DataW.trod enc Try.prog w base spare held fuel 47 cs = some x) (hz : Small 47 x.1) :
    ∃ o : OpD, cs = [.int .i64 o.kind, .int .i64 o.at', o.dv] ∧ BytesAt w (fun k => k < w.heap.size) o.dv o.data := by
  obtain ⟨y0, y1, y2, n, rfl, hl, f0, f1, f2⟩ := Deep.trod_struct3 Try.underlying47 h
  have hcl : Try.prog.cellsOf 47 = 3 := by kernel_rfl
  have hc2 : Try.prog.cellsOf 29 = 1 := by kernel_rfl
  have hc3 : Try.prog.cellsOf 3 = 1 := by kernel_rfl
  rw [hcl] at hl
  obtain ⟨c0, c1, c2, rfl⟩ := lst3 hl
  simp only [hc3, hc2, List.drop, List.take] at f0 f1 f2
  obtain ⟨i, e0, _, _⟩ := DataW.trod_int Try.underlying3 f0
  obtain ⟨j, e1, _, _⟩ := DataW.trod_int Try.underlying3 f1
  obtain ⟨dv, data, e2, hb, _⟩ := bytes_open f2 (fun q hq => hz q (by
    simp only [DataW.weights, Try.underlying47, DataW.weightsEach, List.map_cons, List.map_nil, List.mem_append]
    exact .inr (.inr (.inl hq))))
  have g0 := (List.cons.inj (show [c0] = [.int .i64 i] from e0)).1
  have g1 := (List.cons.inj (show [c1] = [.int .i64 j] from e1)).1
  have g2 := (List.cons.inj (show [c2] = [dv] from e2)).1
  clear f0 f1 f2 e0 e1 e2
  subst g0 g1 g2
  exact ⟨⟨i, j, c2, data⟩, rfl, hb⟩

theorem ops_open {H : Type} {enc : TypeId × Value → H} {w : World} {base : Nat} {spare : Nat → Bool} {held : Bool} {fuel : Nat} {cs : List Value} {x : DataW H × List MemPlace} (h : DataW.trod enc Try.prog w base spare held fuel 43 cs = some x) (hz : Small 43 x.1) :
    ∃ v l, cs = [v] ∧ OpsAt w (fun k => k < w.heap.size) v l := by
  have hcl : Try.prog.cellsOf 47 = 3 := by kernel_rfl
  rcases Deep.open_slice Try.underlying43 h with ⟨rfl, rfl⟩ | ⟨a, len, cap, m, n, D, Pl, rfl, hb, hl, hm, hmm, rfl, hx⟩
  · exact ⟨_, [], rfl, ⟨none, 0, rfl, fun i hi => absurd hi (by simp)⟩⟩
  · have hle : len ≤ m := by rw [hmm]; split <;> omega
    rw [hcl] at hx
    obtain ⟨f, hf⟩ := Deep.choose_lt (α := OpD) (n := len) (p := fun i o => BytesAt w (fun k => k < w.heap.size) o.dv o.data ∧ w.cell? (a.add (i * 3)) = some (.int .i64 o.kind) ∧ w.cell? (a.add (i * 3 + 1)) = some (.int .i64 o.at') ∧ w.cell? (a.add (i * 3 + 2)) = some o.dv) (fun i hi => by
      obtain ⟨cs', h1, h2⟩ := hx i (by omega)
      obtain ⟨o, hcs, ho⟩ := op3_open h2 (fun q hq => hz q (by
        simp only [DataW.weights, Try.underlying43]
        refine List.mem_cons.2 (.inr (List.mem_append.2 (.inl (mem_weightsAll (List.mem_map.2 ⟨i, List.mem_range.2 hi, rfl⟩) hq))))))
      obtain ⟨_, _, hc⟩ := World.cells?_some h1
      have q0 := hc 0 (by omega)
      have q1 := hc 1 (by omega)
      have q2 := hc 2 (by omega)
      rw [Deep.add_add] at q0 q1 q2
      subst hcs
      exact ⟨o, ho, q0, q1, q2⟩)
    refine ⟨_, (List.range len).map f, rfl, ⟨some a, cap, by simp, fun i hi => ?_⟩⟩
    have hi' : i < len := by simpa using hi
    obtain ⟨h1, h2, h3, h4⟩ := hf i hi'
    refine ⟨a, rfl, ?_, by simpa using h2, by simpa using h3, by simpa using h4, by simpa using h1⟩
    have := lt_of_cell h2
    rwa [add_block] at this

open Go.ChangeShapes Go.WideShapes Go.ChangeAt

set_option maxRecDepth 100000 in
theorem ops_arg {H : Type} {enc : TypeId × Value → H} {W : World} {b0 : Nat} {v : Value} {d : DataW H} {p : List MemPlace} (hv : Value.okWide Try.prog W .any b0 43 v) (h : DataW.Trod enc Try.prog W 0 (fun _ => true) true 43 v d p) (hz : Small 43 d) :
    ∃ l, OpsAt W (fun k => k < W.heap.size) v l := by
  obtain ⟨a, len, cap, rfl⟩ := okWide_slice Try.underlying43 hv
  obtain ⟨fuel, h⟩ := h
  obtain ⟨v, l, hcs, hs⟩ := ops_open h hz
  have : Value.slice a len cap = v := (List.cons.inj (show [Value.slice a len cap] = [v] from hcs)).1
  subst this
  exact ⟨l, hs⟩

end Go.Proofs.Ytjeccooodkogkaa
