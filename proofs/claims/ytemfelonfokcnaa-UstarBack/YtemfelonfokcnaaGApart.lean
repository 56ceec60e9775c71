/- Lists that are apart: amphoranum.Apart. Conditions: lengths far from an int's end. -/
import Derived.Test.YtemfelonfokcnaaGRow
namespace Go.Proofs.Ytemfelonfokcnaa
open Go.RowKit

def pv (i j : Nat) : Value := .int .u8 ((31 * (i : Int) + 7 * (j : Int) + 1) % 256)
def pl (i n : Nat) : List Value := (List.range n).map (pv i)
theorem pl_len (i n : Nat) : (pl i n).length = n := by simp [pl]
theorem pl_succ (i n : Nat) : pl i (n + 1) = pl i n ++ [pv i n] := by simp [pl, List.range_succ]
theorem pl_get {i n j : Nat} (h : j < n) : (pl i n)[j]? = some (pv i j) := by simp [pl, h]

/-- The lists, of which the first k are marked. -/
structure Rows1 (w : World) (G : Nat) (vs : List (Value × Nat)) (k : Nat) : Prop where
  row : ∀ i (h : i < vs.length), ∃ xs, w.ownsRow 0 5 1 vs[i].1 vs[i].2 xs ∧ (i < k → xs = pl i vs[i].2)
  cell : ∀ i (h : i < vs.length), w.cell? ⟨G, i, none⟩ = some vs[i].1
  lowG : G < w.heap.size
structure Dis (G : Nat) (vs : List (Value × Nat)) : Prop where
  ne : ∀ i j (hi : i < vs.length) (hj : j < vs.length), i ≠ j → ∀ g, vs[i].1.ownBlock = some g → vs[j].1.ownBlock ≠ some g
  g : ∀ i (hi : i < vs.length), vs[i].1.ownBlock ≠ some G
  len : ∀ i (hi : i < vs.length), vs[i].2 ≤ 1048576

theorem row_set {w : World} {g n c : Nat} {ys : List Value} (h : w.ownsRow 0 5 1 (.slice (some ⟨g, 0, none⟩) n c) n ys) (j : Nat) (u : Value) : (w.setCell ⟨g, j, none⟩ u).ownsRow 0 5 1 (.slice (some ⟨g, 0, none⟩) n c) n (ys.set j u) := by
  refine ⟨by simpa using h.1, ?_⟩
  rcases h.2 with ⟨h1, _⟩ | ⟨g', cap, cur, h1, h2, h3, h4, h5, h6, h7⟩
  · cases h1
  · cases h1
    refine .inr ⟨g, c, _, rfl, h2, heap_setCell_self h3 j u, h4, h5, by simpa using h6, ?_⟩
    rw [← h7]
    simp [List.take_set]

theorem Rows1.marked {w w' : World} {G : Nat} {vs : List (Value × Nat)} {k : Nat} (h : Rows1 w G vs k) (hd : Dis G vs) (hk : k < vs.length) (hr : w'.ownsRow 0 5 1 vs[k].1 vs[k].2 (pl k vs[k].2)) (ho : Only (fun q => vs[k].1.ownBlock = some q) w w') : Rows1 w' G vs (k + 1) where
  row := fun i hi => by
    by_cases e : i = k
    · subst e; exact ⟨_, hr, fun _ => rfl⟩
    · obtain ⟨xs, h1, h2⟩ := h.row i hi
      exact ⟨xs, ownsRow_keep h1 fun g hg => ho.block g (h1.lt g hg).2 (hd.ne i k hi hk e g hg), fun hlt => h2 (by omega)⟩
  cell := fun i hi => by rw [World.cell?_of_block (w := w) (ho.block G h.lowG (hd.g k hk))]; exact h.cell i hi
  lowG := Nat.lt_of_lt_of_le h.lowG ho.size

/-- One byte appended: in its own block, or all old blocks stay. -/
theorem run_append_byte (w : World) (ty : TypeId) (v : Value) (n : Nat) (xs : List Value) (hown : w.ownsRow 0 5 1 v n xs) {g : Nat} {u : Value} {fz : Nat × Nat} (hg : w.heap[g]? = some (.cells #[u] 5 fz)) (hu : u.oneCell' = true) (hn : n ≤ 2097152) :
    ∃ a' c' w', (Builtin.append_ #[25, 25] ty #[v, .slice (some ⟨g, 0, none⟩) 1 1]).run Try.prog w = .ok (.slice a' (n + 1) c') w' ∧ w'.ownsRow 0 5 1 (.slice a' (n + 1) c') (n + 1) (xs ++ [u]) ∧
      (((Value.slice a' (n + 1) c').ownBlock = v.ownBlock ∧ w.grownBy w' v.ownBlock) ∨ ((Value.slice a' (n + 1) c').ownBlock = some w.heap.size ∧ w.grownBy w' none)) := by
  obtain ⟨i, hi, hz0, hz1, hz2⟩ := info_parts info_u8
  have hnews : ∀ j u', [u][j]? = some u' → w.cell? ((⟨g, 0, none⟩ : Addr).add j) = some u' := by
    intro j u' hu'
    match j, hu' with
    | 0, hu' => cases hu'; simp [Addr.add, cell_of hg]
  obtain ⟨v', w', hrun, h2, h3, _, h5⟩ := run_append_own_at (P := Try.prog) w 0 25 ty 5 i _ 1 1 Try.underlying25 hi hz0 hz1 hz2 rfl (by omega) v n xs hown ⟨g, 0, none⟩ 1 1 [u] (by simp) hnews
    (by intro u' hu'; simp only [List.mem_cons, List.not_mem_nil, or_false] at hu'; subst hu'; exact hu) (by unfold maxLen; omega) (by omega) (Nat.zero_le _)
  obtain ⟨a', c', rfl⟩ := row_shape h2
  refine ⟨a', c', w', hrun, h2, ?_⟩
  have hfar : ∀ X, w' = w.drew.alloc X → w.grownBy w' none := fun X e => by subst e; exact ⟨rfl, rfl, rfl, by simp, fun k hk _ => Below.heap_alloc w.drew _ k hk⟩
  rcases hown.2 with ⟨rfl, rfl⟩ | ⟨q, cap, cur, rfl, _, hq, hnc, hcm, hcs, htake⟩
  · have hr := run_append_nil (P := Try.prog) w 25 ty 5 i _ Try.underlying25 hi hz0 ⟨g, 0, none⟩ 1 1 [u] (by rw [hz1]; rfl) hnews (by omega) (by omega) (by rw [hz2]; omega)
    rw [hr] at hrun
    injection hrun with e1 e2
    refine .inr ⟨?_, hfar _ e2.symm⟩
    rw [← e1]; rfl
  · by_cases hroom : n + 1 ≤ cap
    · have hr := run_append_room (P := Try.prog) w 25 ty 5 i Try.underlying25 hi q n cap cur hq ⟨g, 0, none⟩ 1 1 [u] (by rw [hz1]; rfl) hnews (by intro u' hu'; simp only [List.mem_cons, List.not_mem_nil, or_false] at hu'; subst hu'; exact hu) hroom (by rw [hz1, hcs]; simp; omega)
      rw [hr] at hrun
      injection hrun with e1 e2
      exact .inl ⟨by rw [← e1]; rfl, h3⟩
    · have hr := run_append_grow (P := Try.prog) w 25 ty 5 i _ Try.underlying25 hi hz0 ⟨q, 0, none⟩ n cap xs (by rw [hz1]; exact hown.1) (hown.cells (g := q) rfl) ⟨g, 0, none⟩ 1 1 [u] (by rw [hz1]; rfl) hnews (by omega) (by omega) (growslice_fits (by omega) (by rw [hz2]; omega))
      rw [hr] at hrun
      injection hrun with e1 e2
      refine .inr ⟨?_, hfar _ e2.symm⟩
      rw [← e1]; rfl

theorem wpList_append_byte (w : World) {ops : Array Oper} {rest : List Oper} {o : Oper} {a : Act} {Q : Exit → Act → World → Prop} (hgd : o.guard = none) (s x : Operand)
    (ho : o.op = .call { callee := .builtin .append, args := #[s, x], argTypes := #[25, 25] }) (v : Value) (n : Nat) (xs : List Value) (g : Nat) (u : Value) (fz : Nat × Nat) (hs : a.eval s = v) (hx : a.eval x = .slice (some ⟨g, 0, none⟩) 1 1)
    (hown : w.ownsRow 0 5 1 v n xs) (hg : w.heap[g]? = some (.cells #[u] 5 fz)) (hu : u.oneCell' = true) (hn : n ≤ 2097152)
    (h : ∀ a' c' w', w'.ownsRow 0 5 1 (.slice a' (n + 1) c') (n + 1) (xs ++ [u]) → (((Value.slice a' (n + 1) c').ownBlock = v.ownBlock ∧ w.grownBy w' v.ownBlock) ∨ ((Value.slice a' (n + 1) c').ownBlock = some w.heap.size ∧ w.grownBy w' none)) →
      wpList Try.prog ops Q rest (a.put o.dst (.slice a' (n + 1) c')) w') :
    wpList Try.prog ops Q (o :: rest) a w := by
  refine wpList_plain hgd fun K hK => ?_
  obtain ⟨a', c', w', hrun, h2, h3⟩ := run_append_byte w o.type v n xs hown hg hu hn
  unfold Oper.wp execOp
  simp only [ho, resolve, invoke, builtin, Sem.run_bind, Sem.run_pure, Result.andThen_ok, List.map_toArray, List.map_cons, List.map_nil, hs, hx, hrun]
  exact hK _ _ (h a' c' w' h2 h3)

/-- What v reads. -/
def Cells (w : World) (v : Value) (xs : List Value) : Prop := ∀ j u, xs[j]? = some u → ∃ g, v.ownBlock = some g ∧ w.cell? ⟨g, j, none⟩ = some u
theorem Cells.of_row {w : World} {n : Nat} {v : Value} {xs : List Value} (h : w.ownsRow 0 5 1 v n xs) : Cells w v xs := by
  intro j u hu
  rcases h.2 with ⟨rfl, h0⟩ | ⟨g, cap, cur, rfl, _⟩
  · have : xs = [] := List.eq_nil_of_length_eq_zero (by rw [h.1, h0])
    subst this; simp at hu
  · refine ⟨g, rfl, ?_⟩
    have := h.cells (g := g) rfl j u hu
    rwa [add_lit, Nat.zero_add] at this
theorem Cells.kept {w w' : World} {v : Value} {xs : List Value} (h : Cells w v xs) (hk : ∀ g, v.ownBlock = some g → w'.heap[g]? = w.heap[g]?) : Cells w' v xs := by
  intro j u hu
  obtain ⟨g, hg, hc⟩ := h j u hu
  exact ⟨g, hg, by rw [World.cell?_of_block (w := w) (hk g hg)]; exact hc⟩
theorem Cells.pre {w : World} {v v' : Value} {xs ys : List Value} (h : Cells w v' (xs ++ ys)) (e : v'.ownBlock = v.ownBlock) : Cells w v xs := by
  intro j u hu
  obtain ⟨g, hg, hc⟩ := h j u (by rw [List.getElem?_append_left (List.getElem?_eq_some_iff.1 hu).1]; exact hu)
  exact ⟨g, e ▸ hg, hc⟩
theorem pl_add (i n : Nat) : ∀ m, ∃ t, pl i (n + m) = pl i n ++ t
  | 0 => ⟨[], by simp⟩
  | m + 1 => by
    obtain ⟨t, ht⟩ := pl_add i n m
    exact ⟨t ++ [pv i (n + m)], by rw [← Nat.add_assoc, pl_succ, ht, List.append_assoc]⟩

/-- One list on the way to its growth. -/
structure Growing (w3 w : World) (k n : Nat) (v l : Value) (m : Nat) : Prop where
  row : w.ownsRow 0 5 1 l m (pl k m)
  old : Cells w v (pl k n)
  at_ : l.ownBlock = v.ownBlock ∨ ∃ g, l.ownBlock = some g ∧ w3.heap.size ≤ g
  only : Only (fun q => v.ownBlock = some q) w3 w

theorem Growing.step {w3 w w' : World} {k n m : Nat} {v l l' : Value} {X : Obj} (h : Growing w3 w k n v l m) (hv : ∀ g, v.ownBlock = some g → g < w3.heap.size) (hnm : n ≤ m) (hr : w'.ownsRow 0 5 1 l' (m + 1) (pl k m ++ [pv k m]))
    (hc : (l'.ownBlock = l.ownBlock ∧ (w.alloc X).grownBy w' l.ownBlock) ∨ (l'.ownBlock = some (w.alloc X).heap.size ∧ (w.alloc X).grownBy w' none)) : Growing w3 w' k n v l' (m + 1) := by
  have hz := h.only.size
  have hlow : ∀ g, v.ownBlock = some g → g < w.heap.size := fun g hg => Nat.lt_of_lt_of_le (hv g hg) hz
  have hrow : w'.ownsRow 0 5 1 l' (m + 1) (pl k (m + 1)) := by rw [pl_succ]; exact hr
  rcases hc with ⟨e, hg⟩ | ⟨e, hg⟩
  · refine ⟨hrow, ?_, by rw [e]; exact h.at_, ?_⟩
    · rcases h.at_ with h1 | ⟨q, h1, h2⟩
      · obtain ⟨t, ht⟩ := pl_add k n (m + 1 - n)
        rw [show n + (m + 1 - n) = m + 1 by omega] at ht
        have hcr := Cells.of_row hrow
        rw [ht] at hcr
        exact hcr.pre (e.trans h1)
      · refine h.old.kept fun g hg' => ?_
        rw [hg.block g (by have := hlow g hg'; simp; omega) (fun e' => by rw [h1] at e'; have := Option.some.inj e'; have := hv g hg'; omega)]
        exact Below.heap_alloc w X g (hlow g hg')
    · refine (h.only.trans ((Only.alloc X).mono fun _ _ h => h.elim)).andThen (Only.of_grown hg) fun q hq hs => ?_
      rcases h.at_ with h1 | ⟨q', h1, h2⟩
      · exact h1.symm.trans hs.symm
      · rw [h1] at hs
        have := Option.some.inj hs
        omega
  · refine ⟨hrow, ?_, .inr ⟨_, e, by simp; omega⟩, ?_⟩
    · refine h.old.kept fun g hg' => ?_
      rw [hg.block g (by have := hlow g hg'; simp; omega) (by simp)]
      exact Below.heap_alloc w X g (hlow g hg')
    · exact (h.only.trans ((Only.alloc X).mono fun _ _ h => h.elim)).andThen (Only.of_grown hg) fun q _ hs => by cases hs

/-- The lists while they grow: us are the grown ones; Z: how much memory there was. -/
structure Rows2 (w : World) (Z G : Nat) (vs : List (Value × Nat)) (gv : Value) (us : List Value) : Prop where
  lowG : G < Z
  size : Z ≤ w.heap.size
  cell : ∀ i (h : i < vs.length), w.cell? ⟨G, i, none⟩ = some vs[i].1
  row : w.ownsRow 0 25 1 gv us.length us
  gz : ∀ g, gv.ownBlock = some g → Z ≤ g
  le : us.length ≤ vs.length
  rest : ∀ i (h : i < vs.length), us.length ≤ i → w.ownsRow 0 5 1 vs[i].1 vs[i].2 (pl i vs[i].2)
  old : ∀ i (h : i < vs.length), i < us.length → Cells w vs[i].1 (pl i vs[i].2)
  new : ∀ i (h : i < us.length) (h' : i < vs.length), w.ownsRow 0 5 1 us[i] (vs[i].2 + 12) (pl i (vs[i].2 + 12))
  at_ : ∀ i (h : i < us.length) (h' : i < vs.length), us[i].ownBlock = vs[i].1.ownBlock ∨ ∃ g, us[i].ownBlock = some g ∧ Z ≤ g
  vz : ∀ i (h : i < vs.length) g, vs[i].1.ownBlock = some g → g < Z

theorem Rows1.grow {w : World} {G : Nat} {vs : List (Value × Nat)} (h : Rows1 w G vs vs.length) : Rows2 (w.alloc (.cells #[] 25)) w.heap.size G vs (.slice (some ⟨w.heap.size, 0, none⟩) 0 0) [] where
  lowG := h.lowG
  size := by simp
  cell := fun i hi => by rw [World.cell?_of_block (w := w) (Below.heap_alloc _ _ _ h.lowG)]; exact h.cell i hi
  row := World.ownsRow_made w #[] 0 (Nat.zero_le _) (Nat.zero_le _) rfl
  gz := fun g hg => by have : w.heap.size = g := Option.some.inj hg; omega
  le := Nat.zero_le _
  rest := fun i hi _ => by
    obtain ⟨xs, h1, h2⟩ := h.row i hi
    have := h2 hi
    subst this
    exact h1.alloc _
  old := fun i _ hi => absurd hi (by simp)
  new := fun i hi => absurd hi (by simp)
  at_ := fun i hi => absurd hi (by simp)
  vz := fun i hi g hg => by
    obtain ⟨xs, h1, _⟩ := h.row i hi
    exact (h1.lt g hg).2

theorem type_ne {w : World} {g n m : Nat} {v u : Value} {xs ys : List Value} (h1 : w.ownsRow 0 25 1 v n xs) (h2 : w.ownsRow 0 5 1 u m ys) (e1 : v.ownBlock = some g) : u.ownBlock ≠ some g := by
  intro e2
  rcases h1.2 with ⟨rfl, _⟩ | ⟨g1, _, _, rfl, _, q1, _⟩
  · cases e1
  · rcases h2.2 with ⟨rfl, _⟩ | ⟨g2, _, _, rfl, _, q2, _⟩
    · cases e2
    · have a1 : g1 = g := Option.some.inj e1
      have a2 : g2 = g := Option.some.inj e2
      subst a1 a2
      rw [q1] at q2
      injection q2 with q2
      injection q2 with _ q2
      cases q2

theorem Rows2.step {w3 w4 w6 : World} {Z G : Nat} {vs : List (Value × Nat)} {gv gv' : Value} {us : List Value} {l : Value} {X : Obj} (h : Rows2 w3 Z G vs gv us) (hd : Dis G vs) (hk : us.length < vs.length) (hg : Growing w3 w4 us.length vs[us.length].2 vs[us.length].1 l (vs[us.length].2 + 12))
    (hr : w6.ownsRow 0 25 1 gv' (us.length + 1) (us ++ [l])) (hgr : (w4.alloc X).grownBy w6 gv.ownBlock) (hat : gv'.ownBlock = gv.ownBlock ∨ gv'.ownBlock = some (w4.alloc X).heap.size) : Rows2 w6 Z G vs gv' (us ++ [l]) := by
  have z3 := h.size
  have z4 := hg.only.size
  have z6 : w4.heap.size < w6.heap.size := by have := hgr.size; simp at this; omega
  -- what stays
  have k4 : ∀ q, q < w4.heap.size → gv.ownBlock ≠ some q → w6.heap[q]? = w4.heap[q]? := fun q hq hne => (hgr.block q (by simp; omega) (fun e => hne e.symm)).trans (Below.heap_alloc w4 X q hq)
  have kZ : ∀ q, q < Z → w6.heap[q]? = w4.heap[q]? := fun q hq => k4 q (by omega) (fun e => by have := h.gz q e; omega)
  have kv : ∀ i (hi : i < vs.length), i ≠ us.length → ∀ q, vs[i].1.ownBlock = some q → w6.heap[q]? = w3.heap[q]? := fun i hi hne q hq =>
    (kZ q (h.vz i hi q hq)).trans (hg.only.block q (by have := h.vz i hi q hq; omega) (hd.ne i us.length hi hk hne q hq))
  have hlen : (us ++ [l]).length = us.length + 1 := by simp
  exact {
    lowG := h.lowG
    size := by omega
    cell := fun i hi => by
      rw [World.cell?_of_block (w := w3) ((kZ G h.lowG).trans (hg.only.block G (by have := h.lowG; omega) (hd.g us.length hk)))]
      exact h.cell i hi
    row := by rw [hlen]; exact hr
    gz := fun g hg' => by
      rcases hat with e | e
      · exact h.gz g (e ▸ hg')
      · rw [hg'] at e
        have := Option.some.inj e
        simp at this; omega
    le := by rw [hlen]; omega
    rest := fun i hi hge => by
      rw [hlen] at hge
      exact ownsRow_keep (h.rest i hi (by omega)) fun q hq => kv i hi (by omega) q hq
    old := fun i hi hlt => by
      rw [hlen] at hlt
      by_cases e : i = us.length
      · subst e
        exact hg.old.kept fun q hq => kZ q (h.vz _ hi q hq)
      · exact (h.old i hi (by omega)).kept fun q hq => kv i hi e q hq
    new := fun i hi hi' => by
      rw [hlen] at hi
      by_cases e : i = us.length
      · subst e
        have e2 : (us ++ [l])[us.length] = l := by simp
        rw [e2]
        refine ownsRow_keep hg.row fun q hq => k4 q (hg.row.lt q hq).2 fun e3 => ?_
        rcases hg.at_ with h1 | ⟨q', h1, h2⟩
        · rw [hq] at h1
          have := h.vz _ hi' q h1.symm
          have := h.gz q e3
          omega
        · rw [hq] at h1
          have := Option.some.inj h1
          have := (h.row.lt q e3).2
          omega
      · have hi2 : i < us.length := by omega
        have e2 : (us ++ [l])[i] = us[i] := List.getElem_append_left hi2
        rw [e2]
        have hn := h.new i hi2 hi'
        refine ownsRow_keep hn fun q hq => ?_
        rw [k4 q (by have := (hn.lt q hq).2; omega) (fun e3 => type_ne h.row hn e3 hq)]
        refine hg.only.block q (hn.lt q hq).2 fun e3 => ?_
        rcases h.at_ i hi2 hi' with h1 | ⟨q', h1, h2⟩
        · exact hd.ne i us.length hi' hk e q (h1 ▸ hq) e3
        · rw [hq] at h1
          have := Option.some.inj h1
          have := h.vz _ hk q e3
          omega
    at_ := fun i hi hi' => by
      rw [hlen] at hi
      by_cases e : i = us.length
      · subst e
        have e2 : (us ++ [l])[us.length] = l := by simp
        rw [e2]
        rcases hg.at_ with h1 | ⟨q', h1, h2⟩
        · exact .inl h1
        · exact .inr ⟨q', h1, by omega⟩
      · have hi2 : i < us.length := by omega
        have e2 : (us ++ [l])[i] = us[i] := List.getElem_append_left hi2
        rw [e2]
        exact h.at_ i hi2 hi'
    vz := h.vz }

theorem info_bytes : (Try.prog.info? 25).map (fun i => (i.zero, i.size, i.bytes)) = some (some (.slice none 0 0), 1, 24) := by kernel_rfl

set_option maxRecDepth 100000 in
set_option maxHeartbeats 4000000 in
theorem apart_any {w : World} {G c : Nat} {vs : List (Value × Nat)} (h : Rows1 w G vs 0) (hd : Dis G vs) (hl : vs.length ≤ 1048576) :
    Calls Try.prog 24 #[.slice (some ⟨G, 0, none⟩) vs.length c] w fun e w' => e = .returned (.bool true) ∧ Only (fun q => ∃ i, ∃ (h : i < vs.length), vs[i].1.ownBlock = some q) w w' := by
  have HR := Lib.hid h; have HD := Lib.hid hd
  clear h hd
  go_enter Try.func24, Try.ntmps24
  go_wp2
  go_loopw [15] (fun iv wr => ∃ k : Nat, k ≤ vs.length ∧ iv = .int .i64 k ∧ Rows1 wr G vs k ∧ Only (fun q => ∃ i, ∃ (h : i < vs.length), vs[i].1.ownBlock = some q) w wr) (fun iv _ => vs.length - (intOf iv).toNat)
  case atStart => exact ⟨0, Nat.zero_le _, rfl, HR.out, Only.refl _ _⟩
  case round =>
    obtain ⟨k, hk, rfl, hrows, how⟩ := hrel
    by_cases hlt : k < vs.length
    · obtain ⟨xs, hx1, -⟩ := hrows.row k hlt
      have hcG := hrows.cell k hlt
      have hn := HD.out.len k hlt
      obtain ⟨a, cp, hsh⟩ := row_shape hx1
      have HROWS := Lib.hid hrows; have HOW := Lib.hid how
      obtain ⟨n, hnv⟩ : ∃ n, n = vs[k].2 := ⟨_, rfl⟩
      rw [hsh] at hx1 hcG
      rw [← hnv] at hx1 hcG hn hsh
      obtain ⟨w1, hw1⟩ : ∃ q, q = wr := ⟨_, rfl⟩
      subst hw1
      have HX := Lib.hid hx1; have HSH := Lib.hid hsh; have HNV := Lib.hid hnv
      clear hrows how hx1 hsh hnv
      go_wp2
      go_loopw [22] (fun iv w2 => ∃ (j : Nat) (ys : List Value), j ≤ n ∧ iv = .int .i64 j ∧ w2.ownsRow 0 5 1 (.slice a n cp) n ys ∧ ys.take j = pl k j ∧ Only (fun q => (Value.slice a n cp).ownBlock = some q) w1 w2) (fun iv _ => n - (intOf iv).toNat)
      case atStart => exact ⟨0, xs, Nat.zero_le _, rfl, HX.out, by simp [pl], Only.refl _ _⟩
      case round =>
        obtain ⟨j, ys, hj, rfl, hy, hyt, ho2⟩ := hrel
        by_cases hjn : j < n
        · obtain ⟨g, rfl⟩ : ∃ g, a = some ⟨g, 0, none⟩ := by
            rcases hy.2 with ⟨_, h2⟩ | ⟨g, _, _, h1, _⟩
            · omega
            · exact ⟨g, (Value.slice.inj h1).1⟩
          have hyl : ys.length = n := by simpa using hy.1
          have c1 : wr.cell? ⟨g, j, none⟩ = some ys[j] := by
            have := hy.cells (g := g) rfl j ys[j] (List.getElem?_eq_getElem (by omega))
            rwa [add_lit, Nat.zero_add] at this
          have f1 : wr.frozen? ⟨g, j, none⟩ = false := by
            rcases hy.2 with ⟨h1, _⟩ | ⟨g', _, _, h1, _, h3, _⟩
            · cases h1
            · cases h1; exact frozen_of h3 j
          have HFIN : Hid (∃ ys', (wr.setCell ⟨g, j, none⟩ (pv k j)).ownsRow 0 5 1 (.slice (some ⟨g, 0, none⟩) n cp) n ys' ∧ ys'.take (j + 1) = pl k (j + 1) ∧ Only (fun q => (Value.slice (some ⟨g, 0, none⟩) n cp).ownBlock = some q) w1 (wr.setCell ⟨g, j, none⟩ (pv k j))) := by
            refine ⟨ys.set j (pv k j), row_set hy j _, ?_, ho2.trans ((Only.setCell ⟨g, j, none⟩ _).mono fun q _ h => by show some g = some q; rw [show q = g from h])⟩
            rw [List.take_add_one, pl_succ, List.take_set, hyt]
            have : (ys.set j (pv k j))[j]? = some (pv k j) := List.getElem?_set_self (by omega)
            rw [this, List.set_eq_of_length_le (Nat.le_of_eq (pl_len k j))]
            rfl
          unfold pv at HFIN
          generalize ys[j] = yj at c1
          clear hy hyt ho2 hyl
          go_wp2
          go_roundw
          case rel =>
            obtain ⟨ys', q1, q2, q3⟩ := HFIN.out
            exact ⟨j + 1, ys', by omega, by go_num, q1, q2, q3⟩
          case measure => simp [intOf]; omega
        · have hj' : j = n := by omega
          subst hj'
          have HNX : Hid (Rows1 wr G vs (k + 1) ∧ Only (fun q => ∃ i, ∃ (h : i < vs.length), vs[i].1.ownBlock = some q) w wr) := by
            have hyl : ys.length = j := by simpa using hy.1
            rw [List.take_of_length_le (by omega)] at hyt
            subst hyt
            rw [← HSH.out] at hy ho2
            refine ⟨HROWS.out.marked HD.out hlt (by rw [← HNV.out]; exact hy) ho2, HOW.out.trans (ho2.mono fun q _ h => ⟨k, hlt, h⟩)⟩
          clear hy hyt ho2
          go_wp2
          go_roundw
          case rel => exact ⟨k + 1, by omega, by go_num, HNX.out.1, HNX.out.2⟩
          case measure => simp [intOf]; omega
    · have hkl : k = vs.length := by omega
      subst hkl
      have HROWS := Lib.hid hrows; have HOW := Lib.hid how
      clear hrows how
      obtain ⟨w1, hw1⟩ : ∃ q, q = wr := ⟨_, rfl⟩
      subst hw1
      go_wp2
      go_loopw [6, 40] (fun gv iv wr => ∃ (ga : Option Addr) (gc : Nat) (us : List Value), gv = .slice ga us.length gc ∧ iv = .int .i64 us.length ∧ Rows2 wr w1.heap.size G vs gv us ∧ Only (fun q => ∃ i, ∃ (h : i < vs.length), vs[i].1.ownBlock = some q) w1 wr) (fun _ iv _ => vs.length - (intOf iv).toNat)
      case atStart => exact ⟨some ⟨w1.heap.size, 0, none⟩, 0, [], rfl, rfl, HROWS.out.grow, (Only.alloc _).mono fun _ _ h => h.elim⟩
      case round =>
        obtain ⟨ga, gc, us, rfl, rfl, hr2, how2⟩ := hrel
        have hle := hr2.le
        by_cases hlt2 : us.length < vs.length
        · obtain ⟨w3, hw3⟩ : ∃ q, q = wr := ⟨_, rfl⟩
          subst hw3
          have hx1 := hr2.rest us.length hlt2 (Nat.le_refl _)
          have hcG := hr2.cell us.length hlt2
          have hn := HD.out.len us.length hlt2
          obtain ⟨a, cp, hsh⟩ := row_shape hx1
          obtain ⟨n, hnv⟩ : ∃ n, n = vs[us.length].2 := ⟨_, rfl⟩
          have hgr0 : Growing w3 w3 us.length n vs[us.length].1 vs[us.length].1 n := by
            rw [hnv]
            exact ⟨hx1, Cells.of_row hx1, .inl rfl, Only.refl _ _⟩
          have hvlt : ∀ g, vs[us.length].1.ownBlock = some g → g < w3.heap.size := fun g hg => (hx1.lt g hg).2
          rw [hsh] at hgr0 hcG hvlt
          rw [← hnv] at hcG hn hsh hgr0 hvlt
          have HG0 := Lib.hid hgr0; have HSH := Lib.hid hsh; have HNV := Lib.hid hnv; have HR2 := Lib.hid hr2; have HO2 := Lib.hid how2; have HVL := Lib.hid hvlt
          clear hr2 how2 hx1 hsh hnv hgr0 hvlt
          go_wp2
          go_loopw [8] (fun lv wr => ∃ (la : Option Addr) (lc m : Nat), lv = .slice la m lc ∧ n ≤ m ∧ m ≤ n + 12 ∧ Growing w3 wr us.length n (.slice a n cp) lv m) (fun lv _ => n + 12 - (match lv with | .slice _ m _ => m | _ => 0))
          case atStart => exact ⟨a, cp, n, rfl, Nat.le_refl _, by omega, HG0.out⟩
          case round =>
            obtain ⟨la, lc, m, rfl, hm1, hm2, hgw⟩ := hrel
            by_cases hmlt : m < n + 12
            · have HGW := Lib.hid hgw
              have HRW : Hid ((wr.alloc (.cells #[pv us.length m] 5)).ownsRow 0 5 1 (.slice la m lc) m (pl us.length m)) := hgw.row.alloc _
              have HM : Hid (m ≤ 2097152) := by unfold Hid; omega
              unfold pv at HRW
              clear hgw
              go_wp2_with (at_builtin; refine wpList_append_byte _ rfl _ _ rfl (.slice la m lc) m (pl us.length m) wr.heap.size (.int .u8 ((31 * (us.length : Int) + 7 * (m : Int) + 1) % 256)) (0, 0) rfl rfl HRW.out (heap_alloc_new wr _) rfl HM.out ?_; intro la' lc' w5 hown hcs; have HGN := Lib.hid (HGW.out.step HVL.out hm1 hown hcs); clear hown hcs)
              go_roundw
              case rel => exact ⟨la', lc', m + 1, rfl, by omega, by omega, HGN.out⟩
              case measure => simp; omega
            · have hm' : m = n + 12 := by omega
              subst hm'
              have HGW := Lib.hid hgw
              have HRG : Hid ((wr.alloc (.cells #[.slice la (n + 12) lc] 25)).ownsRow 0 25 1 (.slice ga us.length gc) us.length us) := (ownsRow_keep HR2.out.row fun q hq => hgw.only.block q (HR2.out.row.lt q hq).2 fun e => by
                have h1 := HR2.out.gz q hq
                have h2 := HR2.out.vz us.length hlt2 q (by rw [HSH.out]; exact e)
                omega).alloc _
              obtain ⟨i1, hi1, hy0, hy1, hy2⟩ := info_parts info_bytes
              have HU1 : Hid (us.length + 1 ≤ maxLen) := by unfold Hid maxLen; omega
              have HU2 : Hid ((us.length + 1) * 24 ≤ 140737488355328) := by unfold Hid; omega
              clear hgw
              go_wp2_with (at_builtin; refine wpList_append_own_at _ rfl _ _ 46 rfl 0 25 i1 _ 1 24 Try.underlying46 hi1 hy0 hy1 hy2 rfl (by omega) (.slice ga us.length gc) us.length us rfl HRG.out ⟨wr.heap.size, 0, none⟩ 1 1 [.slice la (n + 12) lc] rfl rfl (cell_one_new _ _ _) (by intro u hu; simp only [List.mem_cons, List.not_mem_nil, or_false] at hu; subst hu; rfl) HU1.out HU2.out (Nat.zero_le _) ?_; intro v' w6 hown hgr hnil hat; obtain ⟨ga', gc', rfl⟩ := row_shape hown; have HNX := Lib.hid (HR2.out.step HD.out hlt2 (by rw [HSH.out, ← HNV.out]; exact HGW.out) hown hgr hat); have HGR := Lib.hid hgr; clear hown hgr hnil hat)
              go_roundw
              case rel =>
                refine ⟨ga', gc', us ++ [.slice la (n + 12) lc], by simp, by simp, HNX.out, ?_⟩
                refine ((HO2.out.trans (HGW.out.only.mono fun q _ e => ⟨us.length, hlt2, by rw [HSH.out]; exact e⟩)).trans ((Only.alloc _).mono fun _ _ h => h.elim)).andThen (Only.of_grown HGR.out) fun q hq e => ?_
                have := HR2.out.gz q e.symm
                omega
              case measure => simp [intOf]; omega
        · have hul : us.length = vs.length := by omega
          have HR2 := Lib.hid hr2; have HO2 := Lib.hid how2
          obtain ⟨w5, hw5⟩ : ∃ q, q = wr := ⟨_, rfl⟩
          subst hw5
          have hgs := hr2.row
          clear hr2 how2
          go_wp2
          go_loopw [70] (fun iv wr => ∃ k : Nat, k ≤ us.length ∧ iv = .int .i64 k ∧ wr.heap = w5.heap ∧ Only (fun _ => False) w5 wr) (fun iv _ => us.length - (intOf iv).toNat)
          case atStart => exact ⟨0, Nat.zero_le _, rfl, rfl, Only.refl _ _⟩
          case round =>
            obtain ⟨k, hk3, rfl, hh3, how3⟩ := hrel
            by_cases hlt3 : k < us.length
            · have hkv : k < vs.length := by omega
              obtain ⟨gg, rfl⟩ : ∃ gg, ga = some ⟨gg, 0, none⟩ := by
                rcases hgs.2 with ⟨_, h2⟩ | ⟨g, _, _, h1, _⟩
                · omega
                · exact ⟨g, (Value.slice.inj h1).1⟩
              have hcu : wr.cell? ⟨gg, k, none⟩ = some us[k] := by
                have := hgs.cells (g := gg) rfl k us[k] (List.getElem?_eq_getElem hlt3)
                rw [add_lit, Nat.zero_add] at this
                rw [World.cell?_of_block (w := w5) (by rw [hh3])]; exact this
              have hnew := HR2.out.new k hlt3 hkv
              have hn3 := HD.out.len k hkv
              obtain ⟨ua, uc, hus⟩ := row_shape hnew
              have hold := HR2.out.old k hkv hlt3
              have hcv := HR2.out.cell k hkv
              obtain ⟨n, hnv⟩ : ∃ n, n = vs[k].2 := ⟨_, rfl⟩
              rw [← hnv] at hnew hn3 hus hold
              have hn0 : 0 < n + 12 := by omega
              obtain ⟨gu, hgu⟩ : ∃ gu, ua = some ⟨gu, 0, none⟩ := by
                rw [hus] at hnew
                rcases hnew.2 with ⟨_, h2⟩ | ⟨g, _, _, h1, _⟩
                · omega
                · exact ⟨g, (Value.slice.inj h1).1⟩
              subst hgu
              rw [hus] at hnew hcu
              have HNEW : Hid (∀ j, j < n + 12 → w5.cell? ⟨gu, j, none⟩ = some (pv k j)) := by
                intro j hj
                have := hnew.cells (g := gu) rfl j (pv k j) (pl_get hj)
                rwa [add_lit, Nat.zero_add] at this
              obtain ⟨va, vc, hvs⟩ : ∃ va vc, vs[k].1 = .slice va n vc := by
                obtain ⟨xs, h1, _⟩ := HROWS.out.row k hkv
                obtain ⟨va, vc, h2⟩ := row_shape h1
                exact ⟨va, vc, by rw [h2, hnv]⟩
              have HOLD : Hid (∀ j, j < n → ∃ g, va.map (·.block) = some g ∧ w5.cell? ⟨g, j, none⟩ = some (pv k j)) := by
                intro j hj
                obtain ⟨g, h1, h2⟩ := hold j (pv k j) (pl_get hj)
                rw [hvs] at h1
                refine ⟨g, ?_, h2⟩
                cases va with
                | none => cases h1
                | some x => exact h1
              have HVA : Hid (∀ x, va = some x → x = ⟨x.block, 0, none⟩) := by
                intro x hx
                obtain ⟨xs, h1, _⟩ := HROWS.out.row k hkv
                rw [hvs] at h1
                rcases h1.2 with ⟨h2, _⟩ | ⟨g, _, _, h2, _⟩
                · have := (Value.slice.inj h2).1; rw [hx] at this; cases this
                · have := (Value.slice.inj h2).1; rw [hx] at this; cases this; rfl
              rw [hvs] at hcv
              have HCV := Lib.hid hcv
              have HOW3 := Lib.hid how3; have HH3 := Lib.hid hh3
              have hk16 : k ≤ 1048576 := by omega
              clear hold hnew hus hvs hcv how3 hnv
              obtain ⟨w7, hw7⟩ : ∃ q, q = wr := ⟨_, rfl⟩
              subst hw7
              clear hh3
              go_wp2
              go_loopw [77] (fun iv wr => ∃ j : Nat, j ≤ n + 12 ∧ iv = .int .i64 j ∧ wr.heap = w5.heap ∧ Only (fun _ => False) w7 wr) (fun iv _ => n + 12 - (intOf iv).toNat)
              case atStart => exact ⟨0, Nat.zero_le _, rfl, HH3.out, Only.refl _ _⟩
              case round =>
                obtain ⟨j, hj4, rfl, hh4, how4⟩ := hrel
                by_cases hlt4 : j < n + 12
                · have d1 : wr.cell? ⟨gu, j, none⟩ = some (pv k j) := by rw [World.cell?_of_block (w := w5) (by rw [hh4])]; exact HNEW.out j hlt4
                  have d2 : wr.cell? ⟨G, k, none⟩ = some (.slice va n vc) := by rw [World.cell?_of_block (w := w5) (by rw [hh4])]; exact HCV.out
                  unfold pv at d1
                  have HOW4 := Lib.hid how4; have HH4 := Lib.hid hh4
                  have p1 : IntKind.i64.wrap (31 * (k : Int)) = 31 * (k : Int) := IntWalk.i64_in _ (by omega)
                  have p2 : IntKind.i64.wrap (7 * (j : Int)) = 7 * (j : Int) := IntWalk.i64_in _ (by omega)
                  have p3 : IntKind.i64.wrap (31 * (k : Int) + 7 * (j : Int)) = 31 * (k : Int) + 7 * (j : Int) := IntWalk.i64_in _ (by omega)
                  have p4 : IntKind.i64.wrap (31 * (k : Int) + 7 * (j : Int) + 1) = 31 * (k : Int) + 7 * (j : Int) + 1 := IntWalk.i64_in _ (by omega)
                  have i1 : (0 : Int) ≤ (j : Int) := by omega
                  have i2 : (j : Int) < ((n + 12 : Nat) : Int) := by omega
                  have i3 : (0 : Int) ≤ (k : Int) := by omega
                  have i4 : (k : Int) < (vs.length : Int) := by omega
                  by_cases hjn : j < n
                  · obtain ⟨g, hg1, hg2⟩ := HOLD.out j hjn
                    have hva : va = some ⟨g, 0, none⟩ := by
                      cases hva : va with
                      | none => rw [hva] at hg1; cases hg1
                      | some x =>
                        rw [hva] at hg1
                        have e1 : x.block = g := Option.some.inj hg1
                        rw [HVA.out x hva, e1]
                    subst hva
                    have d3 : wr.cell? ⟨g, j, none⟩ = some (pv k j) := by rw [World.cell?_of_block (w := w5) (by rw [hh4])]; exact hg2
                    unfold pv at d3
                    have i5 : (j : Int) < (n : Int) := by omega
                    clear how4 hh4 hg1 hg2
                    go_wp2
                    go_quiet (fail)
                    have hod : Only (fun _ => False) wr (wr.drewN nq) := ⟨rfl, rfl, rfl, Nat.le_refl _, fun _ _ _ => rfl⟩
                    have HFIN := Lib.hid (HOW4.out.trans hod)
                    clear hod p1 p2 p3 p4
                    go_wp2
                    go_roundw
                    case rel => exact ⟨j + 1, by omega, by go_num, HH4.out, HFIN.out⟩
                    case measure => simp [intOf]; omega
                  · have i5 : decide ((j : Int) < (n : Int)) = false := by simp; omega
                    clear how4 hh4
                    go_wp2
                    go_quiet (fail)
                    have hod : Only (fun _ => False) wr (wr.drewN nq) := ⟨rfl, rfl, rfl, Nat.le_refl _, fun _ _ _ => rfl⟩
                    have HFIN := Lib.hid (HOW4.out.trans hod)
                    clear hod p1 p2 p3 p4
                    go_wp2
                    go_roundw
                    case rel => exact ⟨j + 1, by omega, by go_num, HH4.out, HFIN.out⟩
                    case measure => simp [intOf]; omega
                · have hj' : j = n + 12 := by omega
                  subst hj'
                  have HFIN := Lib.hid (HOW3.out.trans how4); have HH4 := Lib.hid hh4
                  clear how4 hh4
                  go_wp2
                  go_roundw
                  case rel => exact ⟨k + 1, by omega, by go_num, HH4.out, HFIN.out⟩
                  case measure => simp [intOf]; omega
            · have hk' : k = us.length := by omega
              subst hk'
              have HFIN := Lib.hid ((HOW.out.trans HO2.out).trans (how3.mono fun _ _ h => h.elim))
              clear how3 hh3 hgs
              go_wp2
              go_ret
              exact ⟨rfl, HFIN.out⟩

end Go.Proofs.Ytemfelonfokcnaa
