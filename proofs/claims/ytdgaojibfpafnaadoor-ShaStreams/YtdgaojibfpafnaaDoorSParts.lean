/- Rows as lists of parts; appends under a guard; what a row begins with. Conditions: none. -/
import Derived.Test.YtdgaojibfpafnaaDoorSDerive
import Derived.Test.YtdgaojibfpafnaaDoorSSame
import Derived.Test.YtdgaojibfpafnaaDoorSRef
import Derived.Deep.DeepCutAuto
namespace Go.Proofs.YtdgaojibfpafnaaDoor
open Go.RowKit

theorem laid_sum {key : List UInt8} (h : 64 < key.length) : Sh.laid (Sh.sum key) = Sh.laid key := by
  unfold Sh.laid
  simp [h, sum_len]
theorem mac_long {key : List UInt8} (h : 64 < key.length) (m : List UInt8) : Sh.mac (Sh.sum key) m = Sh.mac key m := by
  unfold Sh.mac Sh.masked
  rw [laid_sum h]
theorem laid_zero {key : List UInt8} (h : key.length < 64) : Sh.laid (key ++ [0]) = Sh.laid key := by
  unfold Sh.laid
  have h1 : ¬ 64 < (key ++ [0]).length := by simp; omega
  have h2 : ¬ 64 < key.length := by omega
  rw [if_neg h1, if_neg h2]
  simp only [List.length_append, List.length_cons, List.length_nil, List.append_assoc]
  congr 1
  rw [show 64 - key.length = (64 - (key.length + (0 + 1))) + 1 by omega, List.replicate_succ]
  rfl
theorem mac_zero {key : List UInt8} (h : key.length < 64) (m : List UInt8) : Sh.mac (key ++ [0]) m = Sh.mac key m := by
  unfold Sh.mac Sh.masked
  rw [laid_zero h]
theorem derived_take (s k i : List UInt8) (n j : Nat) (h : j ≤ n) : (derived s k i n).take j = derived s k i j := by
  rw [← derived_eq s k i j ((n + 31) / 32) (by omega)]
  unfold derived
  rw [List.take_take, Nat.min_eq_left h]

/-- A row in a block of its own, as a list of parts. -/
theorem part_at {w : World} {g : Nat} {S : Nat → Prop} {v : Value} {bs : List UInt8} (hb : Blk w g [v] 22) (hv : BytesAt w S v bs) (hS : ∀ k, S k → k < w.heap.size) :
    PartsAt w (fun k => k < w.heap.size) (.slice (some ⟨g, 0, none⟩) 1 1) [bs] := by
  refine ⟨some ⟨g, 0, none⟩, 1, rfl, Nat.le_refl _, fun i hi => ?_⟩
  match i, hi with
  | 0, _ => exact ⟨_, v, rfl, hb.lt, by rw [add_lit]; exact hb.cell 0, hv.mono hS⟩

theorem two_parts {w : World} {g : Nat} {S : Nat → Prop} {v u : Value} {x y : List UInt8} (hb : Blk w g [v, u] 22) (hv : BytesAt w S v x) (hu : BytesAt w S u y) (hS : ∀ k, S k → k < w.heap.size) :
    PartsAt w (fun k => k < w.heap.size) (.slice (some ⟨g, 0, none⟩) 2 2) [x, y] := by
  refine ⟨some ⟨g, 0, none⟩, 2, rfl, Nat.le_refl _, fun i hi => ?_⟩
  match i, hi with
  | 0, _ => exact ⟨_, v, rfl, hb.lt, by rw [add_lit]; exact hb.cell 0, hv.mono hS⟩
  | 1, _ => exact ⟨_, u, rfl, hb.lt, by rw [add_lit]; exact hb.cell 1, hu.mono hS⟩

theorem wpList_wanted {w : World} {ops : Array Oper} {rest : List Oper} {o : Oper} {a : Act} {Q : Exit → Act → World → Prop} (hw : Region.wanted o (yielded ops a.tmps) = true)
    (h : ∀ K : Act → World → Prop, (∀ a w, wpList Tryd.prog ops Q rest a w → K a w) → o.wp Tryd.prog a w K Q) : wpList Tryd.prog ops Q (o :: rest) a w :=
  wpList_step fun K hK => by rw [if_pos hw]; exact h K hK

theorem wpList_append_wanted (w : World) {ops : Array Oper} {rest : List Oper} {o : Oper} {a : Act} {Q : Exit → Act → World → Prop} (hgd : Region.wanted o (yielded ops a.tmps) = true) (s x : Operand)
    (ho : o.op = .call { callee := .builtin .append, args := #[s, x], argTypes := #[22, 22] }) (v vx : Value) (n : Nat) (xs : List Value) (hs : a.eval s = v) (hx : a.eval x = vx)
    (hown : w.ownsRow 0 5 1 v n xs) {S : Nat → Prop} {bs : List UInt8} (hsrc : BytesAt w S vx bs) (hlen : n + bs.length ≤ 140737488355328)
    (h : ∀ a' c' w', w'.ownsRow 0 5 1 (.slice a' (n + bs.length) c') (n + bs.length) (xs ++ bs.map byteV) → w.grownBy w' v.ownBlock →
      ((Value.slice a' (n + bs.length) c').ownBlock = v.ownBlock ∨ (Value.slice a' (n + bs.length) c').ownBlock = some w.heap.size) → wpList Tryd.prog ops Q rest (a.put o.dst (.slice a' (n + bs.length) c')) w') :
    wpList Tryd.prog ops Q (o :: rest) a w := by
  refine wpList_wanted hgd fun K hK => ?_
  obtain ⟨a', c', w', hrun, h2, h3, h4⟩ := run_append_bytes w o.type v vx n xs hown hsrc hlen
  unfold Oper.wp execOp
  simp only [ho, resolve, invoke, builtin, Sem.run_bind, Sem.run_pure, Result.andThen_ok, List.map_toArray, List.map_cons, List.map_nil, hs, hx, hrun]
  exact hK _ _ (h a' c' w' h2 h3 h4)

theorem Only.drewN {w : World} (n : Nat) : Only (fun _ => False) w (w.drewN n) := ⟨rfl, rfl, rfl, Nat.le_refl _, fun _ _ _ => rfl⟩

theorem slice_h {a : Option Addr} {n cap m : Nat} (h : m ≤ cap) (w : World) : (Instr.slice 22 (.slice a n cap) none (some (.int .i64 (m : Int))) none).run Tryd.prog w = .ok (.slice a m cap) w := by
  rw [run_slice_h (ht := by kernel_rfl) (h0 := by omega) (h2 := by omega)]
  have hsz : (sizeOf (Tryd.prog.elem 22)).run Tryd.prog w = .ok 1 w := by kernel_rfl
  rw [hsz]
  cases a <;> simp [Result.andThen, sliced, Addr.add]

theorem bytes_pre {w : World} {a : Option Addr} {n c k : Nat} {bs : List UInt8} (h : w.ownsRow 0 5 1 (.slice a n c) n (bs.map byteV)) (hb : bs.length = n) (hk : k ≤ n) : BytesAt w (fun q => q < w.heap.size) (.slice a k c) (bs.take k) := by
  have hl : (bs.take k).length = k := by rw [List.length_take, hb]; omega
  have hc := row_cap h
  rcases h.2 with ⟨e, e0⟩ | ⟨g, cap, cur, e, _⟩
  · obtain ⟨e1, _, e3⟩ := Value.slice.inj e
    have hk0 : k = 0 := by omega
    subst e1 e3 hk0
    exact .inl ⟨rfl, rfl⟩
  · obtain ⟨e1, _, e3⟩ := Value.slice.inj e
    subst e1 e3
    refine .inr ⟨⟨g, 0, none⟩, c, by rw [hl], by omega, fun _ => (h.lt g rfl).2, fun j x hx => ?_⟩
    rw [List.getElem?_take] at hx
    split at hx
    · exact h.cells (g := g) rfl j (byteV x) (by rw [List.getElem?_map, hx]; rfl)
    · cases hx

/-- Two rows side by side in a new block. -/
theorem new_two {w : World} {v u : Value} {x y : List UInt8} (hv : BytesAt w (fun k => k < w.heap.size) v x) (hu : BytesAt w (fun k => k < w.heap.size) u y) :
    PartsAt (w.alloc (.cells #[v, u] 22)) (fun k => k < (w.alloc (.cells #[v, u] 22)).heap.size) (.slice (some ⟨w.heap.size, 0, none⟩) 2 2) [x, y] := by
  have ho : Only (fun _ => False) w (w.alloc (.cells #[v, u] 22)) := Only.alloc _
  exact two_parts (Blk.new w [v, u] 22) (hv.only ho (fun _ h => h) (fun _ _ x => x)) (hu.only ho (fun _ h => h) (fun _ _ x => x)) (fun k hk => Nat.lt_of_lt_of_le hk ho.size)

theorem BytesAt.here {w : World} {S : Nat → Prop} {v : Value} {x : List UInt8} (h : BytesAt w S v x) {w' : World} (ho : Only (fun _ => False) w w') (hS : ∀ k, S k → k < w.heap.size) : BytesAt w' (fun k => k < w'.heap.size) v x :=
  (h.only ho hS (fun _ _ x => x)).mono (fun k hk => Nat.lt_of_lt_of_le (hS k hk) ho.size)

end Go.Proofs.YtdgaojibfpafnaaDoor
