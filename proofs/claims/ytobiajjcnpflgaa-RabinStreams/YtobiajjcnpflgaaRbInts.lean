/- Rows of ints; amphoranum.Ints. Conditions: rows within the reach. -/
import Derived.Test.YtobiajjcnpflgaaPoNums
import Derived.Test.YtobiajjcnpflgaaGRow
namespace Go.Proofs.Ytobiajjcnpflgaa
open Go.RowKit

/-- v holds the ints xs; its block is one of S. -/
def IntsAt (w : World) (S : Nat → Prop) (v : Value) (xs : List Nat) : Prop :=
  ∃ a c, v = .slice a xs.length c ∧ xs.length ≤ c ∧ ∀ i (hi : i < xs.length), ∃ ad, a = some ad ∧ S ad.block ∧ w.cell? (ad.add i) = some (.int .i64 (xs[i] : Int)) ∧ xs[i] < 9223372036854775808

theorem IntsAt.kept {w w' : World} {S S' : Nat → Prop} {v : Value} {xs : List Nat} (h : IntsAt w S v xs) (hk : ∀ k, S k → w'.heap[k]? = w.heap[k]?) (hs : ∀ k, S k → S' k) : IntsAt w' S' v xs := by
  obtain ⟨a, c, h1, hc, h2⟩ := h
  refine ⟨a, c, h1, hc, fun i hi => ?_⟩
  obtain ⟨ad, e1, e2, e3, e4⟩ := h2 i hi
  exact ⟨ad, e1, hs _ e2, by rw [World.cell?_of_block (w := w) (by rw [add_block]; exact hk _ e2)]; exact e3, e4⟩
theorem IntsAt.quiet {w w' : World} {S : Nat → Prop} {v : Value} {xs : List Nat} (h : IntsAt w S v xs) (hq : Quiet w w') (hS : ∀ k, S k → k < w.heap.size) : IntsAt w' S v xs :=
  h.kept (fun k hk => hq.block k (hS k hk) (fun x => x)) (fun _ x => x)
theorem IntsAt.lt {w : World} {S : Nat → Prop} {v : Value} {xs : List Nat} (h : IntsAt w S v xs) (i : Nat) (hi : i < xs.length) : xs[i] < 9223372036854775808 := by
  obtain ⟨a, c, h1, hc, h2⟩ := h
  obtain ⟨ad, e1, e2, e3, e4⟩ := h2 i hi
  exact e4

theorem IntsAt.cell {w : World} {S : Nat → Prop} {a : Option Addr} {n c : Nat} {xs : List Nat} (h : IntsAt w S (.slice a n c) xs) (i : Nat) (hi : i < xs.length) :
    ∃ ad, a = some ad ∧ S ad.block ∧ w.cell? (ad.add i) = some (.int .i64 (xs[i] : Int)) ∧ xs[i] < 9223372036854775808 := by
  obtain ⟨a', c', h1, hc, h2⟩ := h
  obtain ⟨rfl, rfl, rfl⟩ := Value.slice.inj h1
  exact h2 i hi

def iV (x : Nat) : Value := .int .i64 (x : Int)
theorem info_int : (Try.prog.info? 3).map (fun i => (i.zero, i.size, i.bytes)) = some (some (.int .i64 0), 1, 8) := by kernel_rfl

/-- A row of ints, as a value that append takes. -/
def IntsIn (w : World) (S : Nat → Prop) (v : Value) (xs : List Nat) : Prop := IntsAt w S v xs ∧ ((v = .slice none 0 0 ∧ xs = []) ∨ ∃ ad c, v = .slice (some ad) xs.length c)

theorem IntsIn.kept {w w' : World} {S S' : Nat → Prop} {v : Value} {xs : List Nat} (h : IntsIn w S v xs) (hk : ∀ k, S k → w'.heap[k]? = w.heap[k]?) (hs : ∀ k, S k → S' k) : IntsIn w' S' v xs := ⟨h.1.kept hk hs, h.2⟩

theorem run_append_ints (w : World) (ty : TypeId) (v vx : Value) (n : Nat) (xs : List Value) (hown : w.ownsRow 0 3 1 v n xs) {S : Nat → Prop} {ys : List Nat} (hsrc : IntsIn w S vx ys) (hlen : n + ys.length ≤ 1099511627776) :
    ∃ a' c' w', (Builtin.append_ #[29, 29] ty #[v, vx]).run Try.prog w = .ok (.slice a' (n + ys.length) c') w' ∧ w'.ownsRow 0 3 1 (.slice a' (n + ys.length) c') (n + ys.length) (xs ++ ys.map iV) ∧ w.grownBy w' v.ownBlock ∧
      ((Value.slice a' (n + ys.length) c').ownBlock = v.ownBlock ∨ (Value.slice a' (n + ys.length) c').ownBlock = some w.heap.size) := by
  obtain ⟨i, hi, hz0, hz1, hz2⟩ := info_parts info_int
  obtain ⟨hat, hsh⟩ := hsrc
  rcases hsh with ⟨rfl, rfl⟩ | ⟨ad, c, rfl⟩
  · obtain ⟨a', c', hv⟩ := row_shape hown
    have hrun := run_append_owned_none (P := Try.prog) w 0 29 ty 3 i 1 Try.underlying29 hi v n xs hown
    refine ⟨a', c', w, ?_, by simpa [← hv] using hown, World.grownBy.refl w _, .inl (by simp [hv])⟩
    rw [hrun, hv]
    rfl
  · have h63 : n + ys.length ≤ maxLen := by unfold maxLen; omega
    obtain ⟨v', w', hrun, h2, h3, _, h5⟩ := run_append_own_at (P := Try.prog) w 0 29 ty 3 i _ 1 8 Try.underlying29 hi hz0 hz1 hz2 rfl (by omega) v n xs hown ad ys.length c (ys.map iV) (by simp)
      (by
        intro j u hu
        rw [List.getElem?_map, Option.map_eq_some_iff] at hu
        obtain ⟨x, hx, rfl⟩ := hu
        obtain ⟨hj, rfl⟩ := List.getElem?_eq_some_iff.1 hx
        obtain ⟨ad', e1, _, e3, _⟩ := hat.cell j hj
        obtain rfl := Option.some.inj e1
        exact e3)
      (by
        intro u hu
        obtain ⟨x, _, rfl⟩ := List.mem_map.1 hu
        rfl) h63 (by omega) (Nat.zero_le _)
    obtain ⟨a', c', rfl⟩ := row_shape h2
    exact ⟨a', c', w', hrun, h2, h3, h5⟩

theorem wpList_append_ints (w : World) {ops : Array Oper} {rest : List Oper} {o : Oper} {a : Act} {Q : Exit → Act → World → Prop} (hgd : o.guard = none) (s x : Operand)
    (ho : o.op = .call { callee := .builtin .append, args := #[s, x], argTypes := #[29, 29] }) (v vx : Value) (n : Nat) (xs : List Value) (hs : a.eval s = v) (hx : a.eval x = vx)
    (hown : w.ownsRow 0 3 1 v n xs) {S : Nat → Prop} {ys : List Nat} (hsrc : IntsIn w S vx ys) (hlen : n + ys.length ≤ 1099511627776)
    (h : ∀ a' c' w', w'.ownsRow 0 3 1 (.slice a' (n + ys.length) c') (n + ys.length) (xs ++ ys.map iV) → w.grownBy w' v.ownBlock →
      ((Value.slice a' (n + ys.length) c').ownBlock = v.ownBlock ∨ (Value.slice a' (n + ys.length) c').ownBlock = some w.heap.size) → wpList Try.prog ops Q rest (a.put o.dst (.slice a' (n + ys.length) c')) w') :
    wpList Try.prog ops Q (o :: rest) a w := by
  refine wpList_plain hgd fun K hK => ?_
  obtain ⟨a', c', w', hrun, h2, h3, h4⟩ := run_append_ints w o.type v vx n xs hown hsrc hlen
  unfold Oper.wp execOp
  simp only [ho, resolve, invoke, builtin, Sem.run_bind, Sem.run_pure, Result.andThen_ok, List.map_toArray, List.map_cons, List.map_nil, hs, hx, hrun]
  exact hK _ _ (h a' c' w' h2 h3 h4)

/-- A row that the call itself has made, and holds xs. -/
structure IRow (w wr : World) (ov : Value) (xs : List Nat) : Prop where
  row : wr.ownsRow 0 3 1 ov xs.length (xs.map iV)
  own : ∀ q, ov.ownBlock = some q → w.heap.size ≤ q
  only : Quiet w wr

theorem IRow.app {w wr w1 w2 : World} {ov : Value} {xs ys : List Nat} {a : Option Addr} {n c : Nat} (h : IRow w wr ov xs) (ho : Quiet wr w1) (hn : n = xs.length + ys.length) (hr : w2.ownsRow 0 3 1 (.slice a n c) n (xs.map iV ++ ys.map iV)) (hg : w1.grownBy w2 ov.ownBlock) (hat : (Value.slice a n c).ownBlock = ov.ownBlock ∨ (Value.slice a n c).ownBlock = some w1.heap.size) :
    IRow w w2 (.slice a n c) (xs ++ ys) := by
  subst hn
  have hz := ho.size
  have hz0 := h.only.size
  refine ⟨by rw [List.length_append, List.map_append]; exact hr, fun q hq => ?_, ?_⟩
  · rcases hat with e | e
    · exact h.own q (by rw [← e]; exact hq)
    · rw [hq] at e
      have e1 : q = w1.heap.size := Option.some.inj e
      omega
  · refine (h.only.trans ho).andThen ((Only.of_grown hg).mono (S' := fun q => some q = ov.ownBlock) (fun q _ h => h)) (fun k hk e => ?_)
    have := h.own k e.symm
    omega
theorem IRow.keep {w wr w1 : World} {ov : Value} {xs : List Nat} (h : IRow w wr ov xs) (ho : Quiet wr w1) : w1.ownsRow 0 3 1 ov xs.length (xs.map iV) :=
  ownsRow_keep h.row (fun q hq => ho.block q (h.row.lt q hq).2 (fun x => x))
theorem IRow.kept {w wr w1 : World} {ov : Value} {xs : List Nat} (h : IRow w wr ov xs) (ho : Quiet wr w1) : IRow w w1 ov xs := ⟨h.keep ho, h.own, h.only.trans ho⟩


theorem IRow.shape {w wr : World} {ov : Value} {xs : List Nat} (h : IRow w wr ov xs) : ∃ a c, ov = .slice a xs.length c := row_shape h.row
theorem IRow.ints {w wr : World} {ov : Value} {xs : List Nat} (h : IRow w wr ov xs) (h63 : ∀ x ∈ xs, x < 9223372036854775808) : IntsAt wr (fun k => k < wr.heap.size) ov xs := by
  obtain ⟨a, c, rfl⟩ := h.shape
  refine ⟨a, c, rfl, row_cap h.row, fun i hi => ?_⟩
  rcases h.row.2 with ⟨_, h0⟩ | ⟨q, cap, cur, e, _⟩
  · omega
  · obtain ⟨rfl, _, rfl⟩ := Value.slice.inj e
    exact ⟨⟨q, 0, none⟩, rfl, (h.row.lt q rfl).2, h.row.cells (g := q) rfl i (iV xs[i]) (by simp [hi]), h63 _ (List.getElem_mem hi)⟩
theorem IRow.nil (w : World) : IRow w w (.slice none 0 0) [] := ⟨⟨rfl, .inl ⟨rfl, rfl⟩⟩, fun _ h => (by cases h), Only.refl _ _⟩
/-- One int, laid to be appended. -/
theorem one_int (w : World) {x : Nat} (hx : x < 9223372036854775808) : IntsIn (w.alloc (.cells #[.int .i64 (x : Int)] 3)) (fun k => k = w.heap.size) (.slice (some ⟨w.heap.size, 0, none⟩) 1 1) [x] := by
  refine ⟨⟨some ⟨w.heap.size, 0, none⟩, 1, rfl, by simp, fun i hi => ⟨_, rfl, rfl, ?_, ?_⟩⟩, .inr ⟨_, 1, rfl⟩⟩
  · have hi' : i < 1 := hi
    obtain rfl : i = 0 := by omega
    rw [add_lit, cell_of (heap_alloc_last _ _)]
    rfl
  · have hi' : i < 1 := hi
    obtain rfl : i = 0 := by omega
    exact hx

set_option maxRecDepth 100000 in
theorem ints_same {w : World} {S T : Nat → Prop} {v u : Value} {xs : List Nat} (hv : IntsAt w S v xs) (hu : IntsAt w T u xs) (hn : xs.length ≤ 1099511627776) :
    Calls Try.prog 15 #[v, u] w fun e w' => e = .returned (.bool true) ∧ Quiet w w' := by
  obtain ⟨va, vc, rfl, hcp, hat⟩ := hv
  obtain ⟨ua, uc, rfl, hcq, hbt⟩ := hu
  have HAT := Lib.hid hat
  have HBT := Lib.hid hbt
  clear hat hbt
  go_enter Try.func15, Try.ntmps15
  go_wp2
  go_loopw [13] (fun iv wr => ∃ i : Nat, i ≤ xs.length ∧ iv = .int .i64 i ∧ ∃ n, wr = w.drewN n) (fun iv _ => xs.length - (intOf iv).toNat)
  case atStart => exact ⟨0, Nat.zero_le _, rfl, 0, by simp [World.drewN]⟩
  case round =>
    obtain ⟨i, hi, rfl, n, rfl⟩ := hrel
    by_cases hlt : i < xs.length
    · obtain ⟨ad, rfl, hsb, hcell, h64⟩ := HAT.out i hlt
      obtain ⟨bd, rfl, htb, hcell2, h65⟩ := HBT.out i hlt
      generalize xs[i] = x at *
      have pz : 0 ≤ (i : Int) := by omega
      have mz : (i : Int) < (xs.length : Int) := by omega
      have c1 : (w.drewN n).cell? (ad.add i) = some (.int .i64 (x : Int)) := hcell
      have c2 : (w.drewN n).cell? (bd.add i) = some (.int .i64 (x : Int)) := hcell2
      have HDD : Hid (∀ k, (w.drewN n).drewN k = w.drewN (n + k)) := fun k => by simp [World.drewN, Nat.add_assoc]
      generalize hw2 : w.drewN n = w2 at *
      clear hcell hcell2
      go_wp2
      go_quiet (fail)
      go_wp2
      go_roundw
      case rel => exact ⟨i + 1, by omega, by go_num, n + nq, HDD.out nq⟩
      case measure => simp [intOf]; omega
    · go_wp2
      go_ret
      exact ⟨rfl, Only.drewN n⟩

end Go.Proofs.Ytobiajjcnpflgaa
