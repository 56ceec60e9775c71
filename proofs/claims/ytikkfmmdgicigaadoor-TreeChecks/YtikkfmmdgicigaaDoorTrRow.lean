/- A row of entries of the call's own: its cells set; slices.Clone. Conditions: rows within the reach. -/
import Derived.Test.YtikkfmmdgicigaaDoorTrSmall
namespace Go.Proofs.YtikkfmmdgicigaaDoor
open Go.RowKit

theorem row_setG {w : World} {t : TypeId} {sz g n c : Nat} {ys : List Value} (h : w.ownsRow 0 t sz (.slice (some ⟨g, 0, none⟩) n c) n ys) (j : Nat) (u : Value) : (w.setCell ⟨g, j, none⟩ u).ownsRow 0 t sz (.slice (some ⟨g, 0, none⟩) n c) n (ys.set j u) := by
  refine ⟨by simpa using h.1, ?_⟩
  rcases h.2 with ⟨h1, _⟩ | ⟨g', cap, cur, h1, h2, h3, h4, h5, h6, h7⟩
  · cases h1
  · cases h1
    refine .inr ⟨g, c, _, rfl, h2, heap_setCell_self h3 j u, h4, h5, by simpa using h6, ?_⟩
    rw [← h7]
    simp [List.take_set]

theorem enCs_set : ∀ {xs : List Ve} {i j : Nat} {u : Value} {x' : Ve} (h : i < xs.length), j < 8 → (enC xs[i]).set j u = enC x' → (enCs xs).set (i * 8 + j) u = enCs (xs.set i x')
  | x :: xs, 0, j, u, x', _, hj, he => by
    have e : enCs (x :: xs) = enC x ++ enCs xs := by simp [enCs]
    have e2 : enCs ((x :: xs).set 0 x') = enC x' ++ enCs xs := by simp [enCs]
    rw [e, e2, Nat.zero_mul, Nat.zero_add, List.set_append_left _ _ (by rw [enC_len]; exact hj), ← he]
    rfl
  | x :: xs, i + 1, j, u, x', h, hj, he => by
    have e : enCs (x :: xs) = enC x ++ enCs xs := by simp [enCs]
    have e2 : enCs ((x :: xs).set (i + 1) x') = enC x ++ enCs (xs.set i x') := by simp [enCs]
    rw [e, e2, List.set_append_right _ _ (by rw [enC_len]; omega), enC_len, show (i + 1) * 8 + j - 8 = i * 8 + j by omega, enCs_set (xs := xs) (by simpa using h) hj (by simpa using he)]

theorem ERow.set {n0 : Nat} {w : World} {q n c : Nat} {xs : List Ve} (h : ERow n0 w (.slice (some ⟨q, 0, none⟩) n c) xs) {i j : Nat} {u : Value} {x' : Ve} (hi : i < xs.length) (hj : j < 8) (he : (enC xs[i]).set j u = enC x') (h1 : BytesAt w (fun k => k < n0) x'.1 x'.2.data) :
    ERow n0 (w.setCell ⟨q, i * 8 + j, none⟩ u) (.slice (some ⟨q, 0, none⟩) n c) (xs.set i x') := by
  have hq : n0 ≤ q := h.new q rfl
  have hn : n = xs.length := by obtain ⟨a', c', e⟩ := h.shape; exact (Value.slice.inj e).2.1
  subst hn
  have ho : Only (fun k => k = q) w (w.setCell ⟨q, i * 8 + j, none⟩ u) := Only.setCell ⟨q, i * 8 + j, none⟩ u
  have keep : ∀ {v : Value} {bs : List UInt8}, BytesAt w (fun k => k < n0) v bs → BytesAt (w.setCell ⟨q, i * 8 + j, none⟩ u) (fun k => k < n0) v bs := fun hb => hb.kept (fun k hk => ho.block k (Nat.lt_of_lt_of_le hk h.low) (by omega)) (fun _ h => h)
  refine ⟨?_, h.new, fun x hx => ?_, Nat.le_trans h.low ho.size⟩
  · have := row_setG h.row (i * 8 + j) u
    rw [enCs_set hi hj he] at this
    rw [List.length_set]
    exact this
  · rcases List.mem_or_eq_of_mem_set hx with hx | hx
    · exact keep (h.data x hx)
    · subst hx; exact keep h1

/-- The cells of one. -/
theorem ERow.at_ {n0 : Nat} {w : World} {v : Value} {xs : List Ve} (h : ERow n0 w v xs) {i : Nat} (hi : i < xs.length) :
    ∃ q c ua uc, v = .slice (some ⟨q, 0, none⟩) xs.length c ∧ n0 ≤ q ∧ q < w.heap.size ∧ w.cell? ⟨q, i * 8, none⟩ = some (.string ⟨xs[i].2.path.toArray⟩) ∧ w.cell? ⟨q, i * 8 + 1, none⟩ = some (.int .i64 xs[i].2.kind) ∧ w.cell? ⟨q, i * 8 + 2, none⟩ = some (.int .i64 xs[i].2.mode) ∧
      w.cell? ⟨q, i * 8 + 3, none⟩ = some (.int .i64 xs[i].2.uid) ∧ w.cell? ⟨q, i * 8 + 4, none⟩ = some (.int .i64 xs[i].2.gid) ∧ w.cell? ⟨q, i * 8 + 5, none⟩ = some (.int .i64 xs[i].2.time) ∧ w.cell? ⟨q, i * 8 + 6, none⟩ = some (.string ⟨xs[i].2.link.toArray⟩) ∧
      w.cell? ⟨q, i * 8 + 7, none⟩ = some (.slice ua xs[i].2.data.length uc) ∧ xs[i].1 = .slice ua xs[i].2.data.length uc ∧ BytesAt w (fun k => k < n0) (.slice ua xs[i].2.data.length uc) xs[i].2.data ∧ ∀ j, w.frozen? ⟨q, j, none⟩ = false := by
  rcases h.row.2 with ⟨e, h0⟩ | ⟨q, cap, cur, e, _, hq, _⟩
  · omega
  · have hb := h.data xs[i] (List.getElem_mem hi)
    obtain ⟨ua, uc, hu⟩ := hb.shape
    have hc : ∀ j u, j < 8 → (enC xs[i])[j]? = some u → w.cell? ⟨q, i * 8 + j, none⟩ = some u := fun j u hj hu => by
      have := h.row.cells (g := q) (by rw [e]; rfl) (i * 8 + j) u (by rw [enCs_at hi hj]; exact hu)
      rw [add_lit, Nat.zero_add] at this
      exact this
    refine ⟨q, cap, ua, uc, e, h.new q (by rw [e]; rfl), lt_of_heap hq, hc 0 _ (by omega) rfl, hc 1 _ (by omega) rfl, hc 2 _ (by omega) rfl, hc 3 _ (by omega) rfl, hc 4 _ (by omega) rfl, hc 5 _ (by omega) rfl, hc 6 _ (by omega) rfl, ?_, hu, ?_, fun j => frozen_of hq j⟩
    · rw [← hu]; exact hc 7 _ (by omega) rfl
    · rw [← hu]; exact hb

set_option maxHeartbeats 400000 in
/-- slices.Clone. -/
theorem eclone_any {w : World} {v : Value} {xs : List Ve} (h : EntsAt w (fun k => k < w.heap.size) v xs) (hn : xs.length * 96 ≤ 140737488355328) :
    Calls Tryd.prog 59 #[v] w fun e w' => ∃ a c, e = .returned (.slice a xs.length c) ∧ ERow w.heap.size w' (.slice a xs.length c) xs ∧ Only (fun _ => False) w w' := by
  obtain ⟨a, c, rfl, hc, hnc, hcell, hb⟩ := id h
  cases a with
  | none =>
    have hc0 := hnc rfl
    subst hc0
    have hx : xs = [] := List.eq_nil_of_length_eq_zero (by omega)
    subst hx
    have hq : ∀ w : World, (binOp .eql 22 (.slice none 0 0) (.slice none 0 0)).run Tryd.prog w = .ok (.bool true) w := fun w => Lib.run_eql_slice_nil w 22 41 none 0 0 0 0 Tryd.underlying22
    clear h hb hcell
    go_enter Tryd.func59, Tryd.ntmps59
    go_wp2
    go_ret
    exact ⟨none, 0, rfl, ERow.nil w, Only.refl _ _⟩
  | some ad =>
    have hq : ∀ w : World, (binOp .eql 22 (.slice (some ad) xs.length c) (.slice none 0 0)).run Tryd.prog w = .ok (.bool false) w := fun w => Lib.run_eql_slice_nil w 22 41 (some ad) _ _ 0 0 Tryd.underlying22
    have hb0 : (w.alloc (.cells #[] 41)).ownsRow 0 41 8 (.slice (some ⟨w.heap.size, 0, none⟩) 0 0) 0 [] := World.ownsRow_made w #[] 0 (Nat.zero_le _) (Nat.zero_le _) rfl
    have HB := Lib.hid hb0; have HS := Lib.hid (h.kept (w' := w.alloc (.cells #[] 41)) (S' := fun k => k < w.heap.size) (fun k hk => Below.heap_alloc _ _ _ hk) (fun _ h => h)); have HL := Lib.hid hn; have HBY := Lib.hid hb
    clear hcell hn h hb0 hb hnc
    go_enter Tryd.func59, Tryd.ntmps59
    go_wp2_with (at_builtin; refine wpList_append_ents _ rfl _ _ rfl _ _ 0 [] rfl rfl HB.out HS.out (by rw [Nat.zero_add]; exact HL.out) ?_; intro a' c' w' hown hgr hat; have HOWN := Lib.hid hown; have HGR := Lib.hid hgr; have HAT := Lib.hid hat; clear hown hgr hat; rw [Nat.zero_add])
    go_ret
    have ho : Only (fun _ => False) w w' := (Only.alloc (.cells #[] 41)).andThen (Only.of_grown HGR.out) fun k hk h => by
      have h3 : k = w.heap.size := Option.some.inj h
      omega
    have h1 := HOWN.out
    rw [Nat.zero_add, List.nil_append] at h1
    refine ⟨a', c', rfl, ⟨h1, fun g hg => ?_, fun x hx => (HBY.out x hx).kept (fun k hk => ho.block k hk (fun x => x)) (fun _ h => h), ho.size⟩, ho⟩
    have h2 := HAT.out
    rw [Nat.zero_add, hg] at h2
    rcases h2 with h2 | h2
    · have h3 : g = w.heap.size := Option.some.inj h2
      omega
    · have h3 := Option.some.inj h2
      simp at h3; omega

end Go.Proofs.YtikkfmmdgicigaaDoor
