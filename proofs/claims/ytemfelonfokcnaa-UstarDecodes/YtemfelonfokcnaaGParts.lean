/- Rows as lists of parts; appends under a guard; what a row begins with. Conditions: none. -/
import Derived.Test.YtemfelonfokcnaaGMem
import Derived.Deep.DeepCutAuto
namespace Go.Proofs.Ytemfelonfokcnaa
open Go.RowKit

/-- v holds the rows ps; all blocks are of S. -/
def PartsAt (w : World) (S : Nat → Prop) (v : Value) (ps : List (List UInt8)) : Prop :=
  ∃ a c, v = .slice a ps.length c ∧ ps.length ≤ c ∧ ∀ i (hi : i < ps.length), ∃ ad u, a = some ad ∧ S ad.block ∧ w.cell? (ad.add i) = some u ∧ BytesAt w S u ps[i]

theorem PartsAt.kept {w w' : World} {S S' : Nat → Prop} {v : Value} {ps : List (List UInt8)} (h : PartsAt w S v ps) (hk : ∀ k, S k → w'.heap[k]? = w.heap[k]?) (hs : ∀ k, S k → S' k) : PartsAt w' S' v ps := by
  obtain ⟨a, c, h1, hc, h2⟩ := h
  refine ⟨a, c, h1, hc, fun i hi => ?_⟩
  obtain ⟨ad, u, e1, e2, e3, e4⟩ := h2 i hi
  refine ⟨ad, u, e1, hs _ e2, ?_, e4.kept hk hs⟩
  rw [World.cell?_of_block (w := w) (by rw [add_block]; exact hk _ e2)]
  exact e3
theorem PartsAt.only {w w' : World} {S T : Nat → Prop} {v : Value} {ps : List (List UInt8)} (h : PartsAt w S v ps) (ho : Only T w w') (hl : ∀ k, S k → k < w.heap.size) (hs : ∀ k, S k → ¬ T k) : PartsAt w' S v ps :=
  h.kept (fun k hk => ho.block k (hl k hk) (hs k hk)) (fun _ h => h)

theorem flatten_take_succ {ps : List (List UInt8)} {i : Nat} (h : i < ps.length) : (ps.take (i + 1)).flatten = (ps.take i).flatten ++ ps[i] := by
  rw [List.take_succ_eq_append_getElem h, List.flatten_append, List.flatten_cons, List.flatten_nil, List.append_nil]
theorem flatten_take_le (ps : List (List UInt8)) (i : Nat) : (ps.take i).flatten.length ≤ ps.flatten.length := by
  have e : ps.flatten = (ps.take i).flatten ++ (ps.drop i).flatten := by rw [← List.flatten_append, List.take_append_drop]
  rw [e, List.length_append]
  omega

/-- A row in a block of its own, as a list of parts. -/
theorem part_at {w : World} {g : Nat} {S : Nat → Prop} {v : Value} {bs : List UInt8} (hb : Blk w g [v] 25) (hv : BytesAt w S v bs) (hS : ∀ k, S k → k < w.heap.size) :
    PartsAt w (fun k => k < w.heap.size) (.slice (some ⟨g, 0, none⟩) 1 1) [bs] := by
  refine ⟨some ⟨g, 0, none⟩, 1, rfl, Nat.le_refl _, fun i hi => ?_⟩
  match i, hi with
  | 0, _ => exact ⟨_, v, rfl, hb.lt, by rw [add_lit]; exact hb.cell 0, hv.mono hS⟩

theorem two_parts {w : World} {g : Nat} {S : Nat → Prop} {v u : Value} {x y : List UInt8} (hb : Blk w g [v, u] 25) (hv : BytesAt w S v x) (hu : BytesAt w S u y) (hS : ∀ k, S k → k < w.heap.size) :
    PartsAt w (fun k => k < w.heap.size) (.slice (some ⟨g, 0, none⟩) 2 2) [x, y] := by
  refine ⟨some ⟨g, 0, none⟩, 2, rfl, Nat.le_refl _, fun i hi => ?_⟩
  match i, hi with
  | 0, _ => exact ⟨_, v, rfl, hb.lt, by rw [add_lit]; exact hb.cell 0, hv.mono hS⟩
  | 1, _ => exact ⟨_, u, rfl, hb.lt, by rw [add_lit]; exact hb.cell 1, hu.mono hS⟩

theorem wpList_wanted {w : World} {ops : Array Oper} {rest : List Oper} {o : Oper} {a : Act} {Q : Exit → Act → World → Prop} (hw : Region.wanted o (yielded ops a.tmps) = true)
    (h : ∀ K : Act → World → Prop, (∀ a w, wpList Try.prog ops Q rest a w → K a w) → o.wp Try.prog a w K Q) : wpList Try.prog ops Q (o :: rest) a w :=
  wpList_step fun K hK => by rw [if_pos hw]; exact h K hK

theorem wpList_append_wanted (w : World) {ops : Array Oper} {rest : List Oper} {o : Oper} {a : Act} {Q : Exit → Act → World → Prop} (hgd : Region.wanted o (yielded ops a.tmps) = true) (s x : Operand)
    (ho : o.op = .call { callee := .builtin .append, args := #[s, x], argTypes := #[25, 25] }) (v vx : Value) (n : Nat) (xs : List Value) (hs : a.eval s = v) (hx : a.eval x = vx)
    (hown : w.ownsRow 0 5 1 v n xs) {S : Nat → Prop} {bs : List UInt8} (hsrc : BytesAt w S vx bs) (hlen : n + bs.length ≤ 140737488355328)
    (h : ∀ a' c' w', w'.ownsRow 0 5 1 (.slice a' (n + bs.length) c') (n + bs.length) (xs ++ bs.map byteV) → w.grownBy w' v.ownBlock →
      ((Value.slice a' (n + bs.length) c').ownBlock = v.ownBlock ∨ (Value.slice a' (n + bs.length) c').ownBlock = some w.heap.size) → wpList Try.prog ops Q rest (a.put o.dst (.slice a' (n + bs.length) c')) w') :
    wpList Try.prog ops Q (o :: rest) a w := by
  refine wpList_wanted hgd fun K hK => ?_
  obtain ⟨a', c', w', hrun, h2, h3, h4⟩ := run_append_bytes w o.type v vx n xs hown hsrc hlen
  unfold Oper.wp execOp
  simp only [ho, resolve, invoke, builtin, Sem.run_bind, Sem.run_pure, Result.andThen_ok, List.map_toArray, List.map_cons, List.map_nil, hs, hx, hrun]
  exact hK _ _ (h a' c' w' h2 h3 h4)

theorem slice_h {a : Option Addr} {n cap m : Nat} (h : m ≤ cap) (w : World) : (Instr.slice 25 (.slice a n cap) none (some (.int .i64 (m : Int))) none).run Try.prog w = .ok (.slice a m cap) w := by
  rw [run_slice_h (ht := by kernel_rfl) (h0 := by omega) (h2 := by omega)]
  have hsz : (sizeOf (Try.prog.elem 25)).run Try.prog w = .ok 1 w := by kernel_rfl
  rw [hsz]
  cases a <;> simp [Result.andThen, sliced, Addr.add]

theorem bytes_pre {w : World} {a : Option Addr} {n c k : Nat} {bs : List UInt8} (h : w.ownsRow 0 5 1 (.slice a n c) n (bs.map byteV)) (hb : bs.length = n) (hk : k ≤ n) : BytesAt w (fun q => q < w.heap.size) (.slice a k c) (bs.take k) := by
  have hl : (bs.take k).length = k := by rw [List.length_take, hb]; omega
  have hc := row_cap h
  rcases h.2 with ⟨e, e0⟩ | ⟨g, cap, cur, e, _⟩
  · obtain ⟨e1, _, e3⟩ := Value.slice.inj e
    have hk0 : k = 0 := by omega
    subst e1 e3 hk0
    exact .inl ⟨rfl, rfl⟩
  · obtain ⟨e1, _, e3⟩ := Value.slice.inj e
    subst e1 e3
    refine .inr ⟨⟨g, 0, none⟩, c, by rw [hl], by omega, fun _ => (h.lt g rfl).2, fun j x hx => ?_⟩
    rw [List.getElem?_take] at hx
    split at hx
    · exact h.cells (g := g) rfl j (byteV x) (by rw [List.getElem?_map, hx]; rfl)
    · cases hx

/-- Two rows side by side in a new block. -/
theorem new_two {w : World} {v u : Value} {x y : List UInt8} (hv : BytesAt w (fun k => k < w.heap.size) v x) (hu : BytesAt w (fun k => k < w.heap.size) u y) :
    PartsAt (w.alloc (.cells #[v, u] 25)) (fun k => k < (w.alloc (.cells #[v, u] 25)).heap.size) (.slice (some ⟨w.heap.size, 0, none⟩) 2 2) [x, y] := by
  have ho : Only (fun _ => False) w (w.alloc (.cells #[v, u] 25)) := Only.alloc _
  exact two_parts (Blk.new w [v, u] 25) (hv.only ho (fun _ h => h) (fun _ _ x => x)) (hu.only ho (fun _ h => h) (fun _ _ x => x)) (fun k hk => Nat.lt_of_lt_of_le hk ho.size)

theorem BytesAt.here {w : World} {S : Nat → Prop} {v : Value} {x : List UInt8} (h : BytesAt w S v x) {w' : World} (ho : Only (fun _ => False) w w') (hS : ∀ k, S k → k < w.heap.size) : BytesAt w' (fun k => k < w'.heap.size) v x :=
  (h.only ho hS (fun _ _ x => x)).mono (fun k hk => Nat.lt_of_lt_of_le (hS k hk) ho.size)

end Go.Proofs.Ytemfelonfokcnaa
