/- tree.Copy. Conditions: rows within the reach. -/
import Derived.Test.YtikkfmmdgicigaaDoorTrRow
import Derived.Test.YtikkfmmdgicigaaDoorTrCheck
namespace Go.Proofs.YtikkfmmdgicigaaDoor
open Go.RowKit

/-- A row of entries of the call's own, each with a row of bytes of its own. -/
structure CRow (n0 : Nat) (w : World) (v : Value) (ys : List Ve) : Prop where
  row : w.ownsRow 0 41 8 v ys.length (enCs ys)
  new : ∀ g, v.ownBlock = some g → n0 ≤ g
  each : ∀ y ∈ ys, w.ownsRow 0 5 1 y.1 y.2.data.length (y.2.data.map byteV) ∧ ∀ k, y.1.ownBlock = some k → n0 ≤ k ∧ v.ownBlock ≠ some k
  dis : ys.Pairwise fun a b => ∀ k, a.1.ownBlock = some k → b.1.ownBlock ≠ some k

theorem CRow.lt {n0 : Nat} {w : World} {v : Value} {ys : List Ve} (h : CRow n0 w v ys) {g : Nat} (hg : v.ownBlock = some g) : g < w.heap.size := (h.row.lt g hg).2
theorem CRow.keep {n0 : Nat} {w w' : World} {v : Value} {ys : List Ve} (h : CRow n0 w v ys) (ho : Only (fun _ => False) w w') : CRow n0 w' v ys :=
  ⟨ownsRow_keep h.row (fun g hg => ho.block g (h.lt hg) (fun x => x)), h.new, fun y hy => ⟨ownsRow_keep (h.each y hy).1 (fun g hg => ho.block g ((h.each y hy).1.lt g hg).2 (fun x => x)), (h.each y hy).2⟩, h.dis⟩
theorem CRow.ents {n0 : Nat} {w : World} {v : Value} {ys : List Ve} (h : CRow n0 w v ys) : EntsAt w (fun k => k < w.heap.size) v ys := by
  have hb : ∀ x ∈ ys, BytesAt w (fun k => k < w.heap.size) x.1 x.2.data := fun x hx => (BytesAt.of_row (h.each x hx).1).mono (fun k hk => ((h.each x hx).1.lt k hk).2)
  rcases h.row.2 with ⟨e, h0⟩ | ⟨q, cap, cur, e, _, hq, _⟩
  · have : ys = [] := List.eq_nil_of_length_eq_zero h0
    subst this
    exact ⟨none, 0, e, Nat.le_refl _, fun _ => rfl, fun i hi => by simp at hi, hb⟩
  · have hr := h.row
    rw [e] at hr
    refine ⟨some ⟨q, 0, none⟩, cap, e, row_cap hr, (by simp), fun i hi => ⟨q, 0, rfl, lt_of_heap hq, fun j u hu => ?_⟩, hb⟩
    have hj : j < 8 := by have := (List.getElem?_eq_some_iff.1 hu).1; rw [enC_len] at this; exact this
    have hc := h.row.cells (g := q) (by rw [e]; rfl) (i * 8 + j) u (by rw [enCs_at hi hj]; exact hu)
    rw [add_lit, Nat.zero_add] at hc
    rw [Nat.zero_add]
    exact hc

/-- While the copies are made: the first have rows of their own, the others not yet. -/
structure MRow (n0 : Nat) (w : World) (v : Value) (ys zs : List Ve) : Prop where
  row : w.ownsRow 0 41 8 v (ys ++ zs).length (enCs (ys ++ zs))
  new : ∀ g, v.ownBlock = some g → n0 ≤ g
  each : ∀ y ∈ ys, w.ownsRow 0 5 1 y.1 y.2.data.length (y.2.data.map byteV) ∧ ∀ k, y.1.ownBlock = some k → n0 ≤ k ∧ v.ownBlock ≠ some k
  dis : ys.Pairwise fun a b => ∀ k, a.1.ownBlock = some k → b.1.ownBlock ≠ some k
  rest : ∀ z ∈ zs, BytesAt w (fun k => k < n0) z.1 z.2.data
  low : n0 ≤ w.heap.size

theorem MRow.quiet {n0 : Nat} {w w' : World} {v : Value} {ys zs : List Ve} (h : MRow n0 w v ys zs) (ho : Only (fun _ => False) w w') : MRow n0 w' v ys zs :=
  ⟨ownsRow_keep h.row (fun g hg => ho.block g (h.row.lt g hg).2 (fun x => x)), h.new, fun y hy => ⟨ownsRow_keep (h.each y hy).1 (fun g hg => ho.block g ((h.each y hy).1.lt g hg).2 (fun x => x)), (h.each y hy).2⟩, h.dis,
    fun z hz => (h.rest z hz).kept (fun k hk => ho.block k (Nat.lt_of_lt_of_le hk h.low) (fun x => x)) (fun _ h => h), Nat.le_trans h.low ho.size⟩
theorem MRow.at_ {n0 : Nat} {w : World} {v : Value} {ys zs : List Ve} {z : Ve} (h : MRow n0 w v ys (z :: zs)) :
    ∃ q c ua uc, v = .slice (some ⟨q, 0, none⟩) (ys ++ z :: zs).length c ∧ n0 ≤ q ∧ q < w.heap.size ∧ w.cell? ⟨q, ys.length * 8, none⟩ = some (.string ⟨z.2.path.toArray⟩) ∧ w.cell? ⟨q, ys.length * 8 + 1, none⟩ = some (.int .i64 z.2.kind) ∧ w.cell? ⟨q, ys.length * 8 + 2, none⟩ = some (.int .i64 z.2.mode) ∧
      w.cell? ⟨q, ys.length * 8 + 3, none⟩ = some (.int .i64 z.2.uid) ∧ w.cell? ⟨q, ys.length * 8 + 4, none⟩ = some (.int .i64 z.2.gid) ∧ w.cell? ⟨q, ys.length * 8 + 5, none⟩ = some (.int .i64 z.2.time) ∧ w.cell? ⟨q, ys.length * 8 + 6, none⟩ = some (.string ⟨z.2.link.toArray⟩) ∧
      w.cell? ⟨q, ys.length * 8 + 7, none⟩ = some (.slice ua z.2.data.length uc) ∧ z.1 = .slice ua z.2.data.length uc ∧ BytesAt w (fun k => k < n0) (.slice ua z.2.data.length uc) z.2.data ∧ ∀ j, w.frozen? ⟨q, j, none⟩ = false := by
  have hi : ys.length < (ys ++ z :: zs).length := by simp
  have hget : (ys ++ z :: zs)[ys.length] = z := by simp
  rcases h.row.2 with ⟨e, h0⟩ | ⟨q, cap, cur, e, _, hq, _⟩
  · simp at h0
  · have hb := h.rest z (by simp)
    obtain ⟨ua, uc, hu⟩ := hb.shape
    have hc : ∀ j u, j < 8 → (enC z)[j]? = some u → w.cell? ⟨q, ys.length * 8 + j, none⟩ = some u := fun j u hj hu => by
      have := h.row.cells (g := q) (by rw [e]; rfl) (ys.length * 8 + j) u (by rw [enCs_at hi hj, hget]; exact hu)
      rw [add_lit, Nat.zero_add] at this
      exact this
    refine ⟨q, cap, ua, uc, e, h.new q (by rw [e]; rfl), lt_of_heap hq, hc 0 _ (by omega) rfl, hc 1 _ (by omega) rfl, hc 2 _ (by omega) rfl, hc 3 _ (by omega) rfl, hc 4 _ (by omega) rfl, hc 5 _ (by omega) rfl, hc 6 _ (by omega) rfl, ?_, hu, ?_, fun j => frozen_of hq j⟩
    · rw [← hu]; exact hc 7 _ (by omega) rfl
    · rw [← hu]; exact hb

/-- The next one's copy is stored. -/
theorem MRow.step {n0 : Nat} {w w5 : World} {q n c : Nat} {ys zs : List Ve} {z : Ve} {v' : Value} (h : MRow n0 w (.slice (some ⟨q, 0, none⟩) n c) ys (z :: zs)) (hr : Row w w5 v' z.2.data) :
    MRow n0 ((((((((w5.setCell ⟨q, ys.length * 8, none⟩ (.string ⟨z.2.path.toArray⟩)).setCell ⟨q, ys.length * 8 + 1, none⟩ (.int .i64 z.2.kind)).setCell ⟨q, ys.length * 8 + 2, none⟩ (.int .i64 z.2.mode)).setCell ⟨q, ys.length * 8 + 3, none⟩ (.int .i64 z.2.uid)).setCell ⟨q, ys.length * 8 + 4, none⟩ (.int .i64 z.2.gid)).setCell ⟨q, ys.length * 8 + 5, none⟩ (.int .i64 z.2.time)).setCell ⟨q, ys.length * 8 + 6, none⟩ (.string ⟨z.2.link.toArray⟩)).setCell ⟨q, ys.length * 8 + 7, none⟩ v')
      (.slice (some ⟨q, 0, none⟩) n c) (ys ++ [(v', z.2)]) zs ∧
    Only (fun k => k = q) w5 ((((((((w5.setCell ⟨q, ys.length * 8, none⟩ (.string ⟨z.2.path.toArray⟩)).setCell ⟨q, ys.length * 8 + 1, none⟩ (.int .i64 z.2.kind)).setCell ⟨q, ys.length * 8 + 2, none⟩ (.int .i64 z.2.mode)).setCell ⟨q, ys.length * 8 + 3, none⟩ (.int .i64 z.2.uid)).setCell ⟨q, ys.length * 8 + 4, none⟩ (.int .i64 z.2.gid)).setCell ⟨q, ys.length * 8 + 5, none⟩ (.int .i64 z.2.time)).setCell ⟨q, ys.length * 8 + 6, none⟩ (.string ⟨z.2.link.toArray⟩)).setCell ⟨q, ys.length * 8 + 7, none⟩ v') := by
  have hn : n = (ys ++ z :: zs).length := by obtain ⟨a', c', e⟩ := row_shape h.row; exact (Value.slice.inj e).2.1
  subst hn
  have hi : ys.length < (ys ++ z :: zs).length := by simp
  have hget : (ys ++ z :: zs)[ys.length] = z := by simp
  have hqn : n0 ≤ q := h.new q rfl
  have hqlt : q < w.heap.size := (h.row.lt q rfl).2
  have h5 := h.quiet hr.only
  have hset : ∀ (j : Nat) (u : Value), j < 8 → (enC z)[j]? = some u → (enCs (ys ++ z :: zs)).set (ys.length * 8 + j) u = enCs (ys ++ z :: zs) := fun j u hj hu => by
    have := enCs_set (xs := ys ++ z :: zs) (i := ys.length) (j := j) (u := u) (x' := z) hi hj (by
      rw [hget]
      have hl := (List.getElem?_eq_some_iff.1 hu)
      obtain ⟨h1, h2⟩ := hl
      rw [← h2, List.set_getElem_self])
    rw [this]
    simp
  have h7 : (enCs (ys ++ z :: zs)).set (ys.length * 8 + 7) v' = enCs ((ys ++ [(v', z.2)]) ++ zs) := by
    rw [enCs_set (xs := ys ++ z :: zs) (i := ys.length) (j := 7) (u := v') (x' := (v', z.2)) hi (by omega) (by rw [hget]; rfl)]
    simp
  have r0 := row_setG h5.row (ys.length * 8 + 0) (.string ⟨z.2.path.toArray⟩)
  rw [hset 0 _ (by omega) rfl] at r0
  have r1 := row_setG r0 (ys.length * 8 + 1) (.int .i64 z.2.kind)
  rw [hset 1 _ (by omega) rfl] at r1
  have r2 := row_setG r1 (ys.length * 8 + 2) (.int .i64 z.2.mode)
  rw [hset 2 _ (by omega) rfl] at r2
  have r3 := row_setG r2 (ys.length * 8 + 3) (.int .i64 z.2.uid)
  rw [hset 3 _ (by omega) rfl] at r3
  have r4 := row_setG r3 (ys.length * 8 + 4) (.int .i64 z.2.gid)
  rw [hset 4 _ (by omega) rfl] at r4
  have r5 := row_setG r4 (ys.length * 8 + 5) (.int .i64 z.2.time)
  rw [hset 5 _ (by omega) rfl] at r5
  have r6 := row_setG r5 (ys.length * 8 + 6) (.string ⟨z.2.link.toArray⟩)
  rw [hset 6 _ (by omega) rfl] at r6
  have r7 := row_setG r6 (ys.length * 8 + 7) v'
  rw [h7] at r7
  have ho : Only (fun k => k = q) w5 _ := (((((((Only.setCell (w := w5) ⟨q, ys.length * 8, none⟩ (.string ⟨z.2.path.toArray⟩)).trans (Only.setCell ⟨q, ys.length * 8 + 1, none⟩ (.int .i64 z.2.kind))).trans (Only.setCell ⟨q, ys.length * 8 + 2, none⟩ (.int .i64 z.2.mode))).trans (Only.setCell ⟨q, ys.length * 8 + 3, none⟩ (.int .i64 z.2.uid))).trans (Only.setCell ⟨q, ys.length * 8 + 4, none⟩ (.int .i64 z.2.gid))).trans (Only.setCell ⟨q, ys.length * 8 + 5, none⟩ (.int .i64 z.2.time))).trans (Only.setCell ⟨q, ys.length * 8 + 6, none⟩ (.string ⟨z.2.link.toArray⟩))).trans (Only.setCell ⟨q, ys.length * 8 + 7, none⟩ v')
  have hk5 : ∀ {k}, k < w5.heap.size → k ≠ q → _ := fun {k} hk hne => ho.block k hk hne
  have hvo : ∀ k, v'.ownBlock = some k → w.heap.size ≤ k ∧ k ≠ q := fun k hk => ⟨hr.own k hk, by have := hr.own k hk; omega⟩
  refine ⟨⟨?_, h.new, fun y hy => ?_, ?_, fun x hx => (h5.rest x (by simp [hx])).kept (fun k hk => hk5 (Nat.lt_of_lt_of_le hk h5.low) (by omega)) (fun _ h => h), Nat.le_trans h5.low ho.size⟩, ho⟩
  · have hlen : ((ys ++ [(v', z.2)]) ++ zs).length = (ys ++ z :: zs).length := by simp
    rw [hlen]
    exact r7
  · rw [List.mem_append, List.mem_singleton] at hy
    rcases hy with hy | rfl
    · have := h5.each y hy
      exact ⟨ownsRow_keep this.1 (fun g hg => hk5 (this.1.lt g hg).2 (fun e => (this.2 g hg).2 (by rw [e]; rfl))), this.2⟩
    · exact ⟨ownsRow_keep hr.row (fun g hg => hk5 (hr.row.lt g hg).2 (hvo g hg).2), fun k hk => ⟨Nat.le_trans h.low (hvo k hk).1, fun e => (hvo k hk).2 (Option.some.inj e).symm⟩⟩
  · refine List.pairwise_append.2 ⟨h.dis, List.pairwise_singleton _ _, fun x hx y hy k hk e => ?_⟩
    rw [List.mem_singleton] at hy
    subst hy
    have h1 := ((h.each x hx).1.lt k hk).2
    have h2 := hr.own k e
    omega

set_option maxRecDepth 100000 in
set_option maxHeartbeats 4000000 in
theorem tcopy_any {w : World} {v : Value} {xs : List Ve} (h : EntsAt w (fun k => k < w.heap.size) v xs) (hf : ∀ x ∈ xs, x.2.data.length ≤ 140737488355328) (hn : xs.length ≤ 1000000) :
    Calls Tryd.prog 29 #[v] w fun e w' => ∃ a c ys, e = .returned (.slice a ys.length c) ∧ CRow w.heap.size w' (.slice a ys.length c) ys ∧ ens ys = ens xs ∧ Only (fun _ => False) w w' := by
  have HC := Lib.hid (eclone_any h (by omega))
  have HK : Hid (∀ W (x : Ve), BytesAt W (fun k => k < W.heap.size) x.1 x.2.data → x.2.data.length ≤ 140737488355328 → Calls Tryd.prog 55 #[enV x] W fun e w' => ∃ v, e = .returned (enV (v, x.2)) ∧ Row W w' v x.2.data) := fun W x hb hl => copied_any hb hl
  have HF := Lib.hid hf
  clear h hf
  go_enter Tryd.func29, Tryd.ntmps29
  go_wp2_with (go_at_call 59; refine HC.out.mono ?_; rintro e w1 ⟨a, c, rfl, hr1, ho1⟩; have HR1 := Lib.hid hr1; have HO1 := Lib.hid ho1; clear hr1 ho1)
  go_loopw [10] (fun iv wr => ∃ (i : Nat) (ys zs : List Ve), i ≤ xs.length ∧ iv = .int .i64 i ∧ ys.length = i ∧ ens ys = (ens xs).take i ∧ zs = xs.drop i ∧ MRow w.heap.size wr (.slice a xs.length c) ys zs ∧ Only (fun _ => False) w wr) (fun iv _ => xs.length - (intOf iv).toNat)
  case atStart => exact ⟨0, [], xs, Nat.zero_le _, rfl, rfl, by simp [ens], by simp, ⟨by simpa using HR1.out.row, HR1.out.new, by simp, List.Pairwise.nil, HR1.out.data, HR1.out.low⟩, HO1.out⟩
  case round =>
    obtain ⟨i, ys, zs, hi, rfl, hyl, hys, hzs, hrow, how⟩ := hrel
    by_cases hlt : i < xs.length
    · rw [List.drop_eq_getElem_cons hlt] at hzs
      subst hzs
      subst hyl
      obtain ⟨q, cc, ua, uc, ha, hq0, hqs, k0, k1, k2, k3, k4, k5, k6, k7, hv, hb, kf⟩ := hrow.at_
      obtain ⟨rfl, -, rfl⟩ := Value.slice.inj ha
      clear ha
      have pz : 0 ≤ (ys.length : Int) := by omega
      have mz : (ys.length : Int) < (xs.length : Int) := by omega
      have hfx := HF.out xs[ys.length] (List.getElem_mem hlt)
      have HCP : Hid (∀ X : Obj, Calls Tryd.prog 55 #[.agg #[.string ⟨xs[ys.length].2.path.toArray⟩, .int .i64 xs[ys.length].2.kind, .int .i64 xs[ys.length].2.mode, .int .i64 xs[ys.length].2.uid, .int .i64 xs[ys.length].2.gid, .int .i64 xs[ys.length].2.time, .string ⟨xs[ys.length].2.link.toArray⟩, .slice ua xs[ys.length].2.data.length uc]] (wr.alloc X) fun e w' => ∃ a c, e = .returned (.agg #[.string ⟨xs[ys.length].2.path.toArray⟩, .int .i64 xs[ys.length].2.kind, .int .i64 xs[ys.length].2.mode, .int .i64 xs[ys.length].2.uid, .int .i64 xs[ys.length].2.gid, .int .i64 xs[ys.length].2.time, .string ⟨xs[ys.length].2.link.toArray⟩, .slice a xs[ys.length].2.data.length c]) ∧ Row (wr.alloc X) w' (.slice a xs[ys.length].2.data.length c) xs[ys.length].2.data) := fun X => by
        have := HK.out (wr.alloc X) xs[ys.length] (by rw [hv]; exact hb.kept (fun k hk => Below.heap_alloc _ _ _ (Nat.lt_of_lt_of_le hk how.size)) (fun k hk => Nat.lt_of_lt_of_le hk (Nat.le_trans how.size (Only.alloc X).size))) hfx
        unfold enV at this
        rw [hv] at this
        refine this.mono ?_
        rintro e w' ⟨v, rfl, hr⟩
        obtain ⟨a, c, rfl⟩ := hr.shape
        exact ⟨a, c, rfl, hr⟩
      have HROW := Lib.hid hrow; have HOW := Lib.hid how; have HYS := Lib.hid hys; have HQ0 := Lib.hid hq0
      clear hrow how hys hb hv hq0
      go_wp2_with (go_at_call 55; refine (HCP.out _).mono ?_; rintro e w5 ⟨a5, c5, rfl, hr5⟩; have j0 := cell_keep hr5.only (fun x => x) ((World.cell?_alloc_lt _ _ _ hqs).trans k0); have j1 := cell_keep hr5.only (fun x => x) ((World.cell?_alloc_lt _ _ _ hqs).trans k1); have j2 := cell_keep hr5.only (fun x => x) ((World.cell?_alloc_lt _ _ _ hqs).trans k2); have j3 := cell_keep hr5.only (fun x => x) ((World.cell?_alloc_lt _ _ _ hqs).trans k3); have j4 := cell_keep hr5.only (fun x => x) ((World.cell?_alloc_lt _ _ _ hqs).trans k4); have j5 := cell_keep hr5.only (fun x => x) ((World.cell?_alloc_lt _ _ _ hqs).trans k5); have j6 := cell_keep hr5.only (fun x => x) ((World.cell?_alloc_lt _ _ _ hqs).trans k6); have j7 := cell_keep hr5.only (fun x => x) ((World.cell?_alloc_lt _ _ _ hqs).trans k7); have jf : ∀ j, w5.frozen? ⟨q, j, none⟩ = false := (fun j => by rw [World.frozen?_of_block (hr5.only.block q (by rw [World.size_alloc]; exact Nat.lt_succ_of_lt hqs) (fun x => x)), World.frozen?_of_block (Below.heap_alloc _ _ _ hqs)]; exact kf j); have HR5 := Lib.hid hr5; clear hr5)
      obtain ⟨hm, ho⟩ := (HROW.out.quiet (Only.alloc _)).step HR5.out
      have et : (ens xs).take (ys.length + 1) = (ens xs).take ys.length ++ [xs[ys.length].2] := by rw [List.take_add_one, List.getElem?_eq_getElem (by rw [ens_len]; exact hlt), ens_at hlt]; rfl
      have hq0 := HQ0.out
      refine ⟨⟨ys.length + 1, ys ++ [(.slice a5 xs[ys.length].2.data.length c5, xs[ys.length].2)], xs.drop (ys.length + 1), by omega, by go_num, by simp, ?_, rfl, hm, ?_⟩, by simp [intOf]; omega⟩
      · rw [et, ← HYS.out]; simp [ens]
      · exact ((HOW.out.trans (Only.alloc _)).trans HR5.out.only).andThen ho (fun k hk e => by omega)
    · have hin : i = xs.length := by omega
      subst hin
      rw [List.drop_length] at hzs
      subst hzs
      have HROW := Lib.hid hrow; have HOW := Lib.hid how; have HYS := Lib.hid hys; have HYL := Lib.hid hyl
      clear hrow how hys hyl
      go_wp2_with fail
      go_ret
      have hr := HROW.out
      refine ⟨a, c, ys, by rw [HYL.out]; rfl, ⟨by rw [HYL.out]; have := hr.row; rw [List.append_nil, HYL.out] at this; exact this, by rw [HYL.out]; exact hr.new, by rw [HYL.out]; exact hr.each, hr.dis⟩, ?_, HOW.out⟩
      rw [HYS.out, List.take_of_length_le (by rw [ens_len]; exact Nat.le_refl _)]

end Go.Proofs.YtikkfmmdgicigaaDoor
