/- Rows of entries. Conditions: none. -/
import Derived.Test.YtikkfmmdgicigaaDoorTrPure
import Derived.Test.YtikkfmmdgicigaaDoorGOwn
import Derived.Test.YtikkfmmdgicigaaDoorGParts
import Derived.Maps.AppendAt
namespace Go.Proofs.YtikkfmmdgicigaaDoor
open Go.RowKit

/-- An entry with its row of bytes: the cells. -/
abbrev Ve := Value × Tr.En
instance : Inhabited Ve := ⟨(.nilIface, default)⟩
def enC (x : Ve) : List Value := [.string ⟨x.2.path.toArray⟩, .int .i64 x.2.kind, .int .i64 x.2.mode, .int .i64 x.2.uid, .int .i64 x.2.gid, .int .i64 x.2.time, .string ⟨x.2.link.toArray⟩, x.1]
theorem enC_len (x : Ve) : (enC x).length = 8 := rfl
/-- An entry as a value. -/
def enV (x : Ve) : Value := .agg #[.string ⟨x.2.path.toArray⟩, .int .i64 x.2.kind, .int .i64 x.2.mode, .int .i64 x.2.uid, .int .i64 x.2.gid, .int .i64 x.2.time, .string ⟨x.2.link.toArray⟩, x.1]

def enCs (xs : List Ve) : List Value := xs.flatMap enC
theorem enCs_len (xs : List Ve) : (enCs xs).length = xs.length * 8 := by
  induction xs with
  | nil => rfl
  | cons x r ih => simp only [enCs, List.flatMap_cons, List.length_append, enC_len, List.length_cons] at ih ⊢; omega
theorem enCs_append (a b : List Ve) : enCs (a ++ b) = enCs a ++ enCs b := by simp [enCs]
theorem enCs_at : ∀ {xs : List Ve} {i j : Nat} (h : i < xs.length), j < 8 → (enCs xs)[i * 8 + j]? = (enC xs[i])[j]?
  | x :: xs, 0, j, _, hj => by
    have e : enCs (x :: xs) = enC x ++ enCs xs := by simp [enCs]
    rw [e, List.getElem?_append_left (by rw [enC_len]; omega)]
    simp
  | x :: xs, i + 1, j, h, hj => by
    have e : enCs (x :: xs) = enC x ++ enCs xs := by simp [enCs]
    rw [e, List.getElem?_append_right (by rw [enC_len]; omega), enC_len, show (i + 1) * 8 + j - 8 = i * 8 + j by omega]
    exact enCs_at (xs := xs) (by simpa using h) hj
theorem enC_one {x : Ve} (h : x.1.oneCell' = true) : ∀ v ∈ enC x, v.oneCell' = true := by
  intro v hv
  simp only [enC, List.mem_cons, List.not_mem_nil, or_false] at hv
  rcases hv with rfl | rfl | rfl | rfl | rfl | rfl | rfl | rfl <;> first | rfl | exact h
theorem bytes_one {w : World} {S : Nat → Prop} {v : Value} {bs : List UInt8} (h : BytesAt w S v bs) : v.oneCell' = true := by
  obtain ⟨a, c, rfl⟩ := h.shape
  rfl

/-- v holds the entries xs; what they reach lies in S. -/
def EntsAt (w : World) (S : Nat → Prop) (v : Value) (xs : List Ve) : Prop :=
  ∃ a c, v = .slice a xs.length c ∧ xs.length ≤ c ∧ (a = none → c = 0) ∧ (∀ i (hi : i < xs.length), ∃ g o, a = some ⟨g, o, none⟩ ∧ S g ∧ ∀ j u, (enC xs[i])[j]? = some u → w.cell? ⟨g, o + i * 8 + j, none⟩ = some u) ∧ ∀ x ∈ xs, BytesAt w S x.1 x.2.data

theorem EntsAt.shape {w : World} {S : Nat → Prop} {v : Value} {xs : List Ve} (h : EntsAt w S v xs) : ∃ a c, v = .slice a xs.length c := by
  obtain ⟨a, c, h1, _⟩ := h
  exact ⟨a, c, h1⟩
theorem EntsAt.kept {w w' : World} {S S' : Nat → Prop} {v : Value} {xs : List Ve} (h : EntsAt w S v xs) (hk : ∀ k, S k → w'.heap[k]? = w.heap[k]?) (hs : ∀ k, S k → S' k) : EntsAt w' S' v xs := by
  obtain ⟨a, c, h1, h2, h3, h4, h5⟩ := h
  refine ⟨a, c, h1, h2, h3, fun i hi => ?_, fun x hx => (h5 x hx).kept hk hs⟩
  obtain ⟨g, o, e, hS, hc⟩ := h4 i hi
  exact ⟨g, o, e, hs _ hS, fun j u hu => by rw [World.cell?_of_block (w := w) (hk _ hS)]; exact hc j u hu⟩
theorem EntsAt.quiet {w w' : World} {v : Value} {xs : List Ve} (h : EntsAt w (fun k => k < w.heap.size) v xs) (ho : Only (fun _ => False) w w') : EntsAt w' (fun k => k < w'.heap.size) v xs :=
  h.kept (fun k hk => ho.block k hk (fun x => x)) (fun _ hk => Nat.lt_of_lt_of_le hk ho.size)
/-- The cells of one. -/
theorem EntsAt.at_ {w : World} {S : Nat → Prop} {a : Option Addr} {n c : Nat} {xs : List Ve} (h : EntsAt w S (.slice a n c) xs) {i : Nat} (hi : i < xs.length) :
    ∃ g o ua uc, a = some ⟨g, o, none⟩ ∧ S g ∧ w.cell? ⟨g, o + i * 8, none⟩ = some (.string ⟨xs[i].2.path.toArray⟩) ∧ w.cell? ⟨g, o + i * 8 + 1, none⟩ = some (.int .i64 xs[i].2.kind) ∧ w.cell? ⟨g, o + i * 8 + 2, none⟩ = some (.int .i64 xs[i].2.mode) ∧
      w.cell? ⟨g, o + i * 8 + 3, none⟩ = some (.int .i64 xs[i].2.uid) ∧ w.cell? ⟨g, o + i * 8 + 4, none⟩ = some (.int .i64 xs[i].2.gid) ∧ w.cell? ⟨g, o + i * 8 + 5, none⟩ = some (.int .i64 xs[i].2.time) ∧
      w.cell? ⟨g, o + i * 8 + 6, none⟩ = some (.string ⟨xs[i].2.link.toArray⟩) ∧ w.cell? ⟨g, o + i * 8 + 7, none⟩ = some (.slice ua xs[i].2.data.length uc) ∧ xs[i].1 = .slice ua xs[i].2.data.length uc ∧ BytesAt w S (.slice ua xs[i].2.data.length uc) xs[i].2.data := by
  obtain ⟨a', c', h1, h2, h3, h4, h5⟩ := h
  obtain ⟨rfl, _, rfl⟩ := Value.slice.inj h1
  obtain ⟨g, o, e, hS, hc⟩ := h4 i hi
  have hb := h5 xs[i] (List.getElem_mem hi)
  obtain ⟨ua, uc, hu⟩ := hb.shape
  refine ⟨g, o, ua, uc, e, hS, hc 0 _ rfl, hc 1 _ rfl, hc 2 _ rfl, hc 3 _ rfl, hc 4 _ rfl, hc 5 _ rfl, hc 6 _ rfl, ?_, hu, ?_⟩
  · rw [← hu]; exact hc 7 _ rfl
  · rw [← hu]; exact hb

/-- A row of entries that the call itself made: the rows of bytes are older. -/
structure ERow (n0 : Nat) (w : World) (v : Value) (xs : List Ve) : Prop where
  row : w.ownsRow 0 41 8 v xs.length (enCs xs)
  new : ∀ g, v.ownBlock = some g → n0 ≤ g
  data : ∀ x ∈ xs, BytesAt w (fun k => k < n0) x.1 x.2.data
  low : n0 ≤ w.heap.size

theorem ERow.shape {n0 : Nat} {w : World} {v : Value} {xs : List Ve} (h : ERow n0 w v xs) : ∃ a c, v = .slice a xs.length c := row_shape h.row
theorem ERow.nil (w : World) : ERow w.heap.size w (.slice none 0 0) [] := ⟨World.ownsRow_nil _ _ _ _, by simp [Value.ownBlock], by simp, Nat.le_refl _⟩
theorem ERow.lt {n0 : Nat} {w : World} {v : Value} {xs : List Ve} (h : ERow n0 w v xs) {g : Nat} (hg : v.ownBlock = some g) : g < w.heap.size := (h.row.lt g hg).2
theorem ERow.keep {n0 : Nat} {w w' : World} {T : Nat → Prop} {v : Value} {xs : List Ve} (h : ERow n0 w v xs) (ho : Only T w w') (hT : ∀ k, T k → n0 ≤ k ∧ v.ownBlock ≠ some k) : ERow n0 w' v xs :=
  ⟨ownsRow_keep h.row (fun g hg => ho.block g (h.lt hg) (fun ht => (hT g ht).2 hg)), h.new, fun x hx => (h.data x hx).kept (fun k hk => ho.block k (Nat.lt_of_lt_of_le hk h.low) (fun ht => by have := (hT k ht).1; omega)) (fun _ h => h), Nat.le_trans h.low ho.size⟩
theorem ERow.quiet {n0 : Nat} {w w' : World} {v : Value} {xs : List Ve} (h : ERow n0 w v xs) (ho : Only (fun _ => False) w w') : ERow n0 w' v xs := h.keep ho (fun _ hf => hf.elim)
theorem ERow.ents {n0 : Nat} {w : World} {v : Value} {xs : List Ve} (h : ERow n0 w v xs) : EntsAt w (fun k => k < w.heap.size) v xs := by
  have hb : ∀ x ∈ xs, BytesAt w (fun k => k < w.heap.size) x.1 x.2.data := fun x hx => (h.data x hx).mono (fun k hk => Nat.lt_of_lt_of_le hk h.low)
  rcases h.row.2 with ⟨e, h0⟩ | ⟨q, cap, cur, e, _, hq, _⟩
  · have : xs = [] := List.eq_nil_of_length_eq_zero h0
    subst this
    exact ⟨none, 0, e, Nat.le_refl _, fun _ => rfl, fun i hi => by simp at hi, hb⟩
  · have hr := h.row
    rw [e] at hr
    refine ⟨some ⟨q, 0, none⟩, cap, e, row_cap hr, (by simp), fun i hi => ⟨q, 0, rfl, lt_of_heap hq, fun j u hu => ?_⟩, hb⟩
    have hj : j < 8 := by have := (List.getElem?_eq_some_iff.1 hu).1; rw [enC_len] at this; exact this
    have hc := h.row.cells (g := q) (by rw [e]; rfl) (i * 8 + j) u (by rw [enCs_at hi hj]; exact hu)
    rw [add_lit, Nat.zero_add] at hc
    rw [Nat.zero_add]
    exact hc

theorem info_Entry : (Tryd.prog.info? 41).map (fun i => (i.zero, i.size, i.bytes)) = some (some (.agg #[.string ⟨#[]⟩, .int .i64 0, .int .i64 0, .int .i64 0, .int .i64 0, .int .i64 0, .string ⟨#[]⟩, .slice none 0 0]), 8, 96) := by kernel_rfl

/-- append(row, entries..). -/
theorem run_append_ents (w : World) (ty : TypeId) (v : Value) (n : Nat) (cs : List Value) (hown : w.ownsRow 0 41 8 v n cs) {S : Nat → Prop} {vx : Value} {xs : List Ve} (hsrc : EntsAt w S vx xs) (hlen : (n + xs.length) * 96 ≤ 140737488355328) :
    ∃ a' c' w', (Builtin.append_ #[22, 22] ty #[v, vx]).run Tryd.prog w = .ok (.slice a' (n + xs.length) c') w' ∧ w'.ownsRow 0 41 8 (.slice a' (n + xs.length) c') (n + xs.length) (cs ++ enCs xs) ∧ w.grownBy w' v.ownBlock ∧
      ((Value.slice a' (n + xs.length) c').ownBlock = v.ownBlock ∨ (Value.slice a' (n + xs.length) c').ownBlock = some w.heap.size) := by
  obtain ⟨i, hi, hz0, hz1, hz2⟩ := info_parts info_Entry
  obtain ⟨a, c, rfl, hc, hnc, hcell, hb⟩ := hsrc
  rcases a with _ | ad
  · have hx : xs.length = 0 := by have := hnc rfl; omega
    have hxs : xs = [] := List.eq_nil_of_length_eq_zero hx
    subst hxs
    have hc0 := hnc rfl
    subst hc0
    obtain ⟨a', c', hv⟩ := row_shape hown
    have hrun := run_append_owned_none (P := Tryd.prog) w 0 22 ty 41 i 8 Tryd.underlying22 hi v n cs hown
    refine ⟨a', c', w, ?_, by simpa [← hv, enCs] using hown, World.grownBy.refl w _, .inl (by simp [hv])⟩
    simp only [List.length_nil]
    rw [hrun, hv]
    rfl
  · obtain ⟨v', w', hrun, h2, h3, _, h5⟩ := run_append_own_at (P := Tryd.prog) w 0 22 ty 41 i _ 8 96 Tryd.underlying22 hi hz0 hz1 hz2 rfl (by omega) v n cs hown ad xs.length c (enCs xs) (enCs_len xs)
      (by
        intro j u hu
        have hj : j < xs.length * 8 := by have := (List.getElem?_eq_some_iff.1 hu).1; rw [enCs_len] at this; exact this
        have hd : j = (j / 8) * 8 + j % 8 := by omega
        have hi8 : j / 8 < xs.length := by omega
        obtain ⟨g, o, e, _, hcc⟩ := hcell (j / 8) hi8
        cases e
        rw [hd, enCs_at hi8 (by omega)] at hu
        have := hcc _ u hu
        rw [add_lit, hd]
        rw [Nat.add_assoc] at this
        exact this)
      (by
        intro u hu
        obtain ⟨x, hx, hu⟩ := List.mem_flatMap.1 hu
        exact enC_one (bytes_one (hb x hx)) u hu) (by unfold maxLen; omega) (by omega) (Nat.zero_le _)
    obtain ⟨a', c', rfl⟩ := row_shape h2
    exact ⟨a', c', w', hrun, h2, h3, h5⟩

theorem wpList_append_ents (w : World) {ops : Array Oper} {rest : List Oper} {o : Oper} {a : Act} {Q : Exit → Act → World → Prop} (hgd : o.guard = none) (s x : Operand)
    (ho : o.op = .call { callee := .builtin .append, args := #[s, x], argTypes := #[22, 22] }) (v vx : Value) (n : Nat) (cs : List Value) (hs : a.eval s = v) (hx : a.eval x = vx)
    (hown : w.ownsRow 0 41 8 v n cs) {S : Nat → Prop} {xs : List Ve} (hsrc : EntsAt w S vx xs) (hlen : (n + xs.length) * 96 ≤ 140737488355328)
    (h : ∀ a' c' w', w'.ownsRow 0 41 8 (.slice a' (n + xs.length) c') (n + xs.length) (cs ++ enCs xs) → w.grownBy w' v.ownBlock →
      ((Value.slice a' (n + xs.length) c').ownBlock = v.ownBlock ∨ (Value.slice a' (n + xs.length) c').ownBlock = some w.heap.size) → wpList Tryd.prog ops Q rest (a.put o.dst (.slice a' (n + xs.length) c')) w') :
    wpList Tryd.prog ops Q (o :: rest) a w := by
  refine wpList_plain hgd fun K hK => ?_
  obtain ⟨a', c', w', hrun, h2, h3, h4⟩ := run_append_ents w o.type v n cs hown hsrc hlen
  unfold Oper.wp execOp
  simp only [ho, resolve, invoke, builtin, Sem.run_bind, Sem.run_pure, Result.andThen_ok, List.map_toArray, List.map_cons, List.map_nil, hs, hx, hrun]
  exact hK _ _ (h a' c' w' h2 h3 h4)

/-- The cells of an entry's own block. -/
theorem en_cells {w : World} {B : Nat} {x : Ve} {t : TypeId} (h : Blk w B (enC x) t) :
    w.cell? ⟨B, 0, none⟩ = some (.string ⟨x.2.path.toArray⟩) ∧ w.cell? ⟨B, 1, none⟩ = some (.int .i64 x.2.kind) ∧ w.cell? ⟨B, 2, none⟩ = some (.int .i64 x.2.mode) ∧ w.cell? ⟨B, 3, none⟩ = some (.int .i64 x.2.uid) ∧ w.cell? ⟨B, 4, none⟩ = some (.int .i64 x.2.gid) ∧
      w.cell? ⟨B, 5, none⟩ = some (.int .i64 x.2.time) ∧ w.cell? ⟨B, 6, none⟩ = some (.string ⟨x.2.link.toArray⟩) ∧ w.cell? ⟨B, 7, none⟩ = some x.1 ∧ ∀ o, w.frozen? ⟨B, o, none⟩ = false :=
  ⟨h.cell 0, h.cell 1, h.cell 2, h.cell 3, h.cell 4, h.cell 5, h.cell 6, h.cell 7, fun o => h.frozen o⟩

/-- An entry stored whole, cell by cell. -/
theorem en_store {w : World} {B : Nat} {L : List Value} {t : TypeId} (h : Blk w B L t) (hl : L.length = 8) (x : Ve) :
    Blk ((((((((w.setCell ⟨B, 0, none⟩ (.string ⟨x.2.path.toArray⟩)).setCell ⟨B, 1, none⟩ (.int .i64 x.2.kind)).setCell ⟨B, 2, none⟩ (.int .i64 x.2.mode)).setCell ⟨B, 3, none⟩ (.int .i64 x.2.uid)).setCell ⟨B, 4, none⟩ (.int .i64 x.2.gid)).setCell ⟨B, 5, none⟩ (.int .i64 x.2.time)).setCell ⟨B, 6, none⟩ (.string ⟨x.2.link.toArray⟩)).setCell ⟨B, 7, none⟩ x.1) B (enC x) t ∧
    Only (fun k => k = B) w ((((((((w.setCell ⟨B, 0, none⟩ (.string ⟨x.2.path.toArray⟩)).setCell ⟨B, 1, none⟩ (.int .i64 x.2.kind)).setCell ⟨B, 2, none⟩ (.int .i64 x.2.mode)).setCell ⟨B, 3, none⟩ (.int .i64 x.2.uid)).setCell ⟨B, 4, none⟩ (.int .i64 x.2.gid)).setCell ⟨B, 5, none⟩ (.int .i64 x.2.time)).setCell ⟨B, 6, none⟩ (.string ⟨x.2.link.toArray⟩)).setCell ⟨B, 7, none⟩ x.1) := by
  refine ⟨?_, (((((((Only.setCell ⟨B, 0, none⟩ _).trans (Only.setCell ⟨B, 1, none⟩ _)).trans (Only.setCell ⟨B, 2, none⟩ _)).trans (Only.setCell ⟨B, 3, none⟩ _)).trans (Only.setCell ⟨B, 4, none⟩ _)).trans (Only.setCell ⟨B, 5, none⟩ _)).trans (Only.setCell ⟨B, 6, none⟩ _)).trans (Only.setCell ⟨B, 7, none⟩ _)⟩
  have := (((((((h.set 0 (.string ⟨x.2.path.toArray⟩)).set 1 (.int .i64 x.2.kind)).set 2 (.int .i64 x.2.mode)).set 3 (.int .i64 x.2.uid)).set 4 (.int .i64 x.2.gid)).set 5 (.int .i64 x.2.time)).set 6 (.string ⟨x.2.link.toArray⟩)).set 7 x.1
  rcases L with _ | ⟨a0, _ | ⟨a1, _ | ⟨a2, _ | ⟨a3, _ | ⟨a4, _ | ⟨a5, _ | ⟨a6, _ | ⟨a7, _ | ⟨a8, L⟩⟩⟩⟩⟩⟩⟩⟩⟩ <;> first | exact this | (simp at hl; done) | (simp at hl; omega)
theorem size_Entry : (Tryd.prog.info? 41).map (·.size) = some 8 := by kernel_rfl

def enZ : Ve := (.slice none 0 0, ⟨[], 0, 0, 0, 0, 0, [], []⟩)

end Go.Proofs.YtikkfmmdgicigaaDoor
