/- Rows of words that a call itself has made. Conditions: rows within the reach. -/
import Derived.Test.YtfbnpafanjppbaaPoSq
import Derived.Laws.MakeOwn
namespace Go.Proofs.Ytfbnpafanjppbaa
open Go.RowKit

def numV (x : Nat) : Value := .int .u64 (x : Int)
theorem info_u64 : (Try.prog.info? 22).map (fun i => (i.zero, i.size, i.bytes)) = some (some (.int .u64 0), 1, 8) := by kernel_rfl

/-- A row of words, as a value that append takes. -/
def NumsIn (w : World) (S : Nat → Prop) (v : Value) (xs : List Nat) : Prop := NumsAt w S v xs ∧ ((v = .slice none 0 0 ∧ xs = []) ∨ ∃ ad c, v = .slice (some ad) xs.length c)

theorem NumsIn.kept {w w' : World} {S S' : Nat → Prop} {v : Value} {xs : List Nat} (h : NumsIn w S v xs) (hk : ∀ k, S k → w'.heap[k]? = w.heap[k]?) (hs : ∀ k, S k → S' k) : NumsIn w' S' v xs := ⟨h.1.kept hk hs, h.2⟩

theorem run_append_nums (w : World) (ty : TypeId) (v vx : Value) (n : Nat) (xs : List Value) (hown : w.ownsRow 0 22 1 v n xs) {S : Nat → Prop} {ys : List Nat} (hsrc : NumsIn w S vx ys) (hlen : n + ys.length ≤ 1000000) :
    ∃ a' c' w', (Builtin.append_ #[35, 35] ty #[v, vx]).run Try.prog w = .ok (.slice a' (n + ys.length) c') w' ∧ w'.ownsRow 0 22 1 (.slice a' (n + ys.length) c') (n + ys.length) (xs ++ ys.map numV) ∧ w.grownBy w' v.ownBlock ∧
      ((Value.slice a' (n + ys.length) c').ownBlock = v.ownBlock ∨ (Value.slice a' (n + ys.length) c').ownBlock = some w.heap.size) := by
  obtain ⟨i, hi, hz0, hz1, hz2⟩ := info_parts info_u64
  obtain ⟨hat, hsh⟩ := hsrc
  rcases hsh with ⟨rfl, rfl⟩ | ⟨ad, c, rfl⟩
  · obtain ⟨a', c', hv⟩ := row_shape hown
    have hrun := run_append_owned_none (P := Try.prog) w 0 35 ty 22 i 1 Try.underlying35 hi v n xs hown
    refine ⟨a', c', w, ?_, by simpa [← hv] using hown, World.grownBy.refl w _, .inl (by simp [hv])⟩
    rw [hrun, hv]
    rfl
  · have h63 : n + ys.length ≤ maxLen := by unfold maxLen; omega
    obtain ⟨v', w', hrun, h2, h3, _, h5⟩ := run_append_own_at (P := Try.prog) w 0 35 ty 22 i _ 1 8 Try.underlying35 hi hz0 hz1 hz2 rfl (by omega) v n xs hown ad ys.length c (ys.map numV) (by simp)
      (by
        intro j u hu
        rw [List.getElem?_map, Option.map_eq_some_iff] at hu
        obtain ⟨x, hx, rfl⟩ := hu
        obtain ⟨hj, rfl⟩ := List.getElem?_eq_some_iff.1 hx
        obtain ⟨ad', e1, _, e3, _⟩ := hat.cell j hj
        obtain rfl := Option.some.inj e1
        exact e3)
      (by
        intro u hu
        obtain ⟨x, _, rfl⟩ := List.mem_map.1 hu
        rfl) h63 (by omega) (Nat.zero_le _)
    obtain ⟨a', c', rfl⟩ := row_shape h2
    exact ⟨a', c', w', hrun, h2, h3, h5⟩

theorem wpList_append_nums (w : World) {ops : Array Oper} {rest : List Oper} {o : Oper} {a : Act} {Q : Exit → Act → World → Prop} (hgd : o.guard = none) (s x : Operand)
    (ho : o.op = .call { callee := .builtin .append, args := #[s, x], argTypes := #[35, 35] }) (v vx : Value) (n : Nat) (xs : List Value) (hs : a.eval s = v) (hx : a.eval x = vx)
    (hown : w.ownsRow 0 22 1 v n xs) {S : Nat → Prop} {ys : List Nat} (hsrc : NumsIn w S vx ys) (hlen : n + ys.length ≤ 1000000)
    (h : ∀ a' c' w', w'.ownsRow 0 22 1 (.slice a' (n + ys.length) c') (n + ys.length) (xs ++ ys.map numV) → w.grownBy w' v.ownBlock →
      ((Value.slice a' (n + ys.length) c').ownBlock = v.ownBlock ∨ (Value.slice a' (n + ys.length) c').ownBlock = some w.heap.size) → wpList Try.prog ops Q rest (a.put o.dst (.slice a' (n + ys.length) c')) w') :
    wpList Try.prog ops Q (o :: rest) a w := by
  refine wpList_plain hgd fun K hK => ?_
  obtain ⟨a', c', w', hrun, h2, h3, h4⟩ := run_append_nums w o.type v vx n xs hown hsrc hlen
  unfold Oper.wp execOp
  simp only [ho, resolve, invoke, builtin, Sem.run_bind, Sem.run_pure, Result.andThen_ok, List.map_toArray, List.map_cons, List.map_nil, hs, hx, hrun]
  exact hK _ _ (h a' c' w' h2 h3 h4)

/-- A row that the call itself has made, and holds xs. -/
structure NRow (w wr : World) (ov : Value) (xs : List Nat) : Prop where
  row : wr.ownsRow 0 22 1 ov xs.length (xs.map numV)
  own : ∀ q, ov.ownBlock = some q → w.heap.size ≤ q
  only : Quiet w wr

theorem NRow.app {w wr w1 w2 : World} {ov : Value} {xs ys : List Nat} {a : Option Addr} {n c : Nat} (h : NRow w wr ov xs) (ho : Quiet wr w1) (hn : n = xs.length + ys.length) (hr : w2.ownsRow 0 22 1 (.slice a n c) n (xs.map numV ++ ys.map numV)) (hg : w1.grownBy w2 ov.ownBlock) (hat : (Value.slice a n c).ownBlock = ov.ownBlock ∨ (Value.slice a n c).ownBlock = some w1.heap.size) :
    NRow w w2 (.slice a n c) (xs ++ ys) := by
  subst hn
  have hz := ho.size
  have hz0 := h.only.size
  refine ⟨by rw [List.length_append, List.map_append]; exact hr, fun q hq => ?_, ?_⟩
  · rcases hat with e | e
    · exact h.own q (by rw [← e]; exact hq)
    · rw [hq] at e
      have e1 : q = w1.heap.size := Option.some.inj e
      omega
  · refine (h.only.trans ho).andThen ((Only.of_grown hg).mono (S' := fun q => some q = ov.ownBlock) (fun q _ h => h)) (fun k hk e => ?_)
    have := h.own k e.symm
    omega
theorem NRow.keep {w wr w1 : World} {ov : Value} {xs : List Nat} (h : NRow w wr ov xs) (ho : Quiet wr w1) : w1.ownsRow 0 22 1 ov xs.length (xs.map numV) :=
  ownsRow_keep h.row (fun q hq => ho.block q (h.row.lt q hq).2 (fun x => x))
theorem NRow.kept {w wr w1 : World} {ov : Value} {xs : List Nat} (h : NRow w wr ov xs) (ho : Quiet wr w1) : NRow w w1 ov xs := ⟨h.keep ho, h.own, h.only.trans ho⟩

/-- A row that is empty, with room. -/
theorem make_room (n : Nat) (hn : n ≤ 1000) (w : World) : ∃ Z : Array Value, (∀ W : World, (Instr.makeSlice 35 (.int .i64 0) (.int .i64 ((n : Int) + 1))).run Try.prog W = .ok (.slice (some ⟨W.heap.size, 0, none⟩) 0 (n + 1)) (W.alloc (.cells Z 22))) ∧
    NRow w (w.alloc (.cells Z 22)) (.slice (some ⟨w.heap.size, 0, none⟩) 0 (n + 1)) [] := by
  obtain ⟨i, hi, hz0, hz1, hz2⟩ := info_parts info_u64
  refine ⟨madeCells #[.int .u64 0] (n + 1), fun W => ?_, ⟨?_, fun q hq => ?_, Only.alloc _⟩⟩
  · have := run_make (P := Try.prog) W 35 22 i _ Try.underlying35 hi hz0 .i64 .i64 0 ((n : Int) + 1) (by omega) (by omega) (by rw [hz2]; omega) (by omega)
    rw [this, hz1, show ((n : Int) + 1).toNat = n + 1 by omega, Nat.mul_one]
    rfl
  · refine ⟨by simp, .inr ⟨w.heap.size, n + 1, madeCells #[.int .u64 0] (n + 1), rfl, Nat.zero_le _, heap_alloc_self _ _, by simp, ?_, by simp [size_madeCells], by simp⟩⟩
    unfold maxLen; omega
  · have : w.heap.size = q := Option.some.inj hq
    omega

end Go.Proofs.Ytfbnpafanjppbaa
