/- A Hasher and a Keyed to which rows were written, beside a row of all of them. Conditions: rows below 2^20 bytes. -/
import Derived.Test.YtdgaojibfpafnaaDoorSSums
namespace Go.Proofs.YtdgaojibfpafnaaDoor
open Go.RowKit

/-- A Hasher in block gh to which mh was written, a Keyed in gm to which mk was written, a row that holds ma. -/
structure Stm (w wr : World) (gh gm : Nat) (key mh mk : List UInt8) (av : Value) (ma : List UInt8) : Prop where
  h : ∃ s r, HashAt wr gh 0 [] [] 69 mh s r
  k : KeyedAt wr gm key mk
  row : wr.ownsRow 0 5 1 av ma.length (ma.map byteV)
  own : ∀ q, av.ownBlock = some q → w.heap.size ≤ q ∧ q ≠ gh ∧ q ≠ gm
  ne : gh ≠ gm
  lo : w.heap.size ≤ gh ∧ w.heap.size ≤ gm
  only : Only (fun _ => False) w wr

section
variable {w wr w1 : World} {gh gm : Nat} {key mh mk ma : List UInt8} {av : Value} {T : Nat → Prop}

theorem Stm.lts (h : Stm w wr gh gm key mh mk av ma) : gh < wr.heap.size ∧ gm < wr.heap.size := by
  obtain ⟨s, r, hh⟩ := h.h
  exact ⟨hh.blk.lt, h.k.lt⟩
theorem Stm.far (h : Stm w wr gh gm key mh mk av ma) (ho : Only T wr w1) (hT : ∀ k, k < wr.heap.size → T k → w.heap.size ≤ k ∧ k ≠ gh ∧ k ≠ gm ∧ av.ownBlock ≠ some k) : Stm w w1 gh gm key mh mk av ma := by
  have hl := h.lts
  obtain ⟨s, r, hh⟩ := h.h
  refine ⟨⟨s, r, hh.only ho (fun x => (hT _ hl.1 x).2.1 rfl)⟩, h.k.only ho (fun x => (hT _ hl.2 x).2.2.1 rfl), ownsRow_keep h.row (fun q hq => ho.block q (h.row.lt q hq).2 (fun x => (hT q (h.row.lt q hq).2 x).2.2.2 hq)), h.own, h.ne, h.lo, h.only.andThen ho (fun k hk x => ?_)⟩
  have := (hT k (Nat.lt_of_lt_of_le hk h.only.size) x).1
  omega
theorem Stm.on (h : Stm w wr gh gm key mh mk av ma) (ho : Only (fun _ => False) wr w1) : Stm w w1 gh gm key mh mk av ma := h.far ho (fun _ _ x => x.elim)
theorem Stm.alloc (h : Stm w wr gh gm key mh mk av ma) (x : Obj) : Stm w (wr.alloc x) gh gm key mh mk av ma := h.on (Only.alloc x)
theorem Stm.hw (h : Stm w wr gh gm key mh mk av ma) {mh' : List UInt8} (hh : ∃ s r, HashAt w1 gh 0 [] [] 69 mh' s r) (ho : Only (fun k => k = gh) wr w1) : Stm w w1 gh gm key mh' mk av ma := by
  refine ⟨hh, h.k.only ho (fun x => h.ne x.symm), ownsRow_keep h.row (fun q hq => ho.block q (h.row.lt q hq).2 (fun x => (h.own q hq).2.1 x)), h.own, h.ne, h.lo, h.only.andThen ho (fun k hk x => ?_)⟩
  have := h.lo.1
  omega
theorem Stm.kw (h : Stm w wr gh gm key mh mk av ma) {mk' : List UInt8} (hk : KeyedAt w1 gm key mk') (ho : Only (fun k => k = gm) wr w1) : Stm w w1 gh gm key mh mk' av ma := by
  obtain ⟨s, r, hh⟩ := h.h
  refine ⟨⟨s, r, hh.only ho h.ne⟩, hk, ownsRow_keep h.row (fun q hq => ho.block q (h.row.lt q hq).2 (fun x => (h.own q hq).2.2 x)), h.own, h.ne, h.lo, h.only.andThen ho (fun k hk x => ?_)⟩
  have := h.lo.2
  omega
theorem Stm.app {y : List UInt8} {a : Option Addr} {n c : Nat} (h : Stm w wr gh gm key mh mk av ma) (hn : n = ma.length + y.length) (hr : w1.ownsRow 0 5 1 (.slice a n c) n (ma.map byteV ++ y.map byteV)) (hg : wr.grownBy w1 av.ownBlock) (hat : (Value.slice a n c).ownBlock = av.ownBlock ∨ (Value.slice a n c).ownBlock = some wr.heap.size) :
    Stm w w1 gh gm key mh mk (.slice a n c) (ma ++ y) := by
  subst hn
  have ho : Only (fun k => some k = av.ownBlock) wr w1 := Only.of_grown hg
  have hl := h.lts
  have hz := h.only.size
  obtain ⟨s, r, hh⟩ := h.h
  refine ⟨⟨s, r, hh.only ho (fun x => (h.own _ x.symm).2.1 rfl)⟩, h.k.only ho (fun x => (h.own _ x.symm).2.2 rfl), by rw [List.length_append, List.map_append]; exact hr, fun q hq => ?_, h.ne, h.lo, h.only.andThen ho (fun k hk x => ?_)⟩
  · rcases hat with h1 | h1
    · exact h.own q (h1.symm.trans hq)
    · rw [hq] at h1
      have := Option.some.inj h1
      omega
  · have := (h.own k x.symm).1
    omega
theorem Stm.shape (h : Stm w wr gh gm key mh mk av ma) : ∃ a c, av = .slice a ma.length c := row_shape h.row
theorem Stm.bytes (h : Stm w wr gh gm key mh mk av ma) : BytesAt wr (fun k => k < wr.heap.size) av ma := (BytesAt.of_row h.row).mono (fun k hk => (h.row.lt k hk).2)
end

/-- The sums of a Hasher and a Keyed. -/
theorem stm_own {w wr : World} {gh gm : Nat} {key m ma : List UInt8} {av : Value} (h : Stm w wr gh gm key m m av ma) (hm : m.length ≤ 1048576) (ht : Tab w) :
    (Calls Tryd.prog 28 #[.pointer (some ⟨gh, 0, none⟩)] wr fun e w' => e = .returned (digV (Sh.sum m)) ∧ Only (fun _ => False) wr w') ∧
    (Calls Tryd.prog 29 #[.pointer (some ⟨gm, 0, none⟩)] wr fun e w' => e = .returned (digV (Sh.mac key m)) ∧ Only (fun _ => False) wr w') ∧
    (Calls Tryd.prog 26 #[.pointer (some ⟨gh, 0, none⟩)] wr fun e w' => e = .returned (.int .i64 (m.length : Int)) ∧ wr = w') ∧
    (Calls Tryd.prog 27 #[.pointer (some ⟨gm, 0, none⟩)] wr fun e w' => e = .returned (.int .i64 (m.length : Int)) ∧ wr = w') := by
  have ht' := ht.only h.only (fun x => x)
  obtain ⟨s, r, hh⟩ := h.h
  exact ⟨hSum_any hh (by omega) ht', kSum_any h.k (by omega) ht', hLen_any hh, kLen_any h.k (by omega)⟩

/-- sha's and the document's sums of one row. -/
theorem one_sums {w : World} {vk v : Value} {key x : List UInt8} (hk : BytesAt w (fun k => k < w.heap.size) vk key) (hv : BytesAt w (fun k => k < w.heap.size) v x) (hkl : key.length ≤ 1048576) (hx : x.length ≤ 1048576) (hf : Fst w) (ht : Tab w) :
    (Calls Tryd.prog 12 #[.slice (some ⟨w.heap.size, 0, none⟩) 1 1] (w.alloc (.cells #[v] 22)) fun e w' => e = .returned (digV (Sh.sum x)) ∧ Only (fun _ => False) w w') ∧
    (Calls Tryd.prog 13 #[.slice (some ⟨w.heap.size, 0, none⟩) 1 1] (w.alloc (.cells #[v] 22)) fun e w' => e = .returned (digV (Sh.sum x)) ∧ Only (fun _ => False) w w') ∧
    (Calls Tryd.prog 14 #[vk, .slice (some ⟨w.heap.size, 0, none⟩) 1 1] (w.alloc (.cells #[v] 22)) fun e w' => e = .returned (digV (Sh.mac key x)) ∧ Only (fun _ => False) w w') ∧
    (Calls Tryd.prog 15 #[vk, .slice (some ⟨w.heap.size, 0, none⟩) 1 1] (w.alloc (.cells #[v] 22)) fun e w' => e = .returned (digV (Sh.mac key x)) ∧ Only (fun _ => False) w w') := by
  have hp := one_part hv (fun _ h => h)
  have hk' := hk.here (Only.alloc (.cells #[v] 22)) (fun _ h => h)
  have e : [x].flatten = x := by simp
  have s1 := sSum_any hp (fun _ h => h) (by rw [e]; omega) (by simp) (hf.alloc _) (ht.alloc _)
  have s2 := rSum_any hp (fun _ h => h) (by rw [e]; omega) (by simp)
  have s3 := sMac_any hk' hp (fun _ h => h) (by omega) (by rw [e]; omega) (by simp) (hf.alloc _) (ht.alloc _)
  have s4 := rMac_any hk' hp (fun _ h => h) (by omega) (by rw [e]; omega) (by simp)
  rw [e] at s1 s2 s3 s4
  exact ⟨s1.mono fun e w' ⟨he, h2⟩ => ⟨he, (Only.alloc _).trans h2⟩, s2.mono fun e w' ⟨he, h2⟩ => ⟨he, (Only.alloc _).trans h2⟩, s3.mono fun e w' ⟨he, h2⟩ => ⟨he, (Only.alloc _).trans h2⟩, s4.mono fun e w' ⟨he, h2⟩ => ⟨he, (Only.alloc _).trans h2⟩⟩

/-- One row, or two, as a list of parts: just where they lie. -/
theorem part_in {w : World} {S : Nat → Prop} {v : Value} {bs : List UInt8} (hv : BytesAt w S v bs) (hS : ∀ k, S k → k < w.heap.size) :
    PartsAt (w.alloc (.cells #[v] 22)) (fun k => k = w.heap.size ∨ S k) (.slice (some ⟨w.heap.size, 0, none⟩) 1 1) [bs] := by
  refine ⟨some ⟨w.heap.size, 0, none⟩, 1, rfl, Nat.le_refl _, fun i hi => ?_⟩
  match i, hi with
  | 0, _ => exact ⟨_, v, rfl, .inl rfl, by rw [add_lit]; exact (Blk.new w [v] 22).cell 0, (hv.only (Only.alloc _) hS (fun _ _ x => x)).mono (fun k hk => .inr hk)⟩
theorem pair_in {w : World} {S : Nat → Prop} {v u : Value} {x y : List UInt8} (hv : BytesAt w S v x) (hu : BytesAt w S u y) (hS : ∀ k, S k → k < w.heap.size) :
    PartsAt (w.alloc (.cells #[v, u] 22)) (fun k => k = w.heap.size ∨ S k) (.slice (some ⟨w.heap.size, 0, none⟩) 2 2) [x, y] := by
  refine ⟨some ⟨w.heap.size, 0, none⟩, 2, rfl, Nat.le_refl _, fun i hi => ?_⟩
  match i, hi with
  | 0, _ => exact ⟨_, v, rfl, .inl rfl, by rw [add_lit]; exact (Blk.new w [v, u] 22).cell 0, (hv.only (Only.alloc _) hS (fun _ _ x => x)).mono (fun k hk => .inr hk)⟩
  | 1, _ => exact ⟨_, u, rfl, .inl rfl, by rw [add_lit]; exact (Blk.new w [v, u] 22).cell 1, (hu.only (Only.alloc _) hS (fun _ _ x => x)).mono (fun k hk => .inr hk)⟩

/-- A copy, cut in two. -/
theorem CopyAt.halves {w : World} {g c : Nat} {bs : List UInt8} (h : CopyAt w g c bs) {j : Nat} (hj : j ≤ bs.length) :
    BytesAt w (fun k => k = g) (.slice (some ⟨g, 0, none⟩) j c) (bs.take j) ∧ BytesAt w (fun k => k = g) (.slice (some ⟨g, j, none⟩) (bs.length - j) (c - j)) (bs.drop j) := by
  have hc := row_cap h
  have e1 : (bs.take j).length = j := by rw [List.length_take]; omega
  have e2 : (bs.drop j).length = bs.length - j := List.length_drop
  have hcell : ∀ i x, bs[i]? = some x → w.cell? ⟨g, i, none⟩ = some (byteV x) := fun i x hx =>
    copy_cell h (by rw [List.getElem?_append_left (List.getElem?_eq_some_iff.1 hx).1]; exact hx)
  refine ⟨.inr ⟨⟨g, 0, none⟩, c, by rw [e1], by omega, fun _ => rfl, fun i x hx => ?_⟩, .inr ⟨⟨g, j, none⟩, c - j, by rw [e2], by omega, fun _ => rfl, fun i x hx => ?_⟩⟩
  · rw [add_lit, Nat.zero_add]
    rw [List.getElem?_take] at hx
    split at hx
    · exact hcell i x hx
    · cases hx
  · rw [add_lit]
    rw [List.getElem?_drop] at hx
    exact hcell _ x hx

theorem slice_l {g n cap j : Nat} (h : j ≤ n) (hn : n < cap) (w : World) : (Instr.slice 22 (.slice (some ⟨g, 0, none⟩) n cap) (some (.int .i64 (j : Int))) none none).run Tryd.prog w = .ok (.slice (some ⟨g, j, none⟩) (n - j) (cap - j)) w := by
  rw [run_slice_l (ht := by kernel_rfl) (h0 := by omega) (h1 := by omega)]
  have hsz : (sizeOf (Tryd.prog.elem 22)).run Tryd.prog w = .ok 1 w := by kernel_rfl
  rw [hsz]
  simp [Result.andThen, sliced, add_lit]
  omega

/-- Writes to both. -/
theorem stm_write {w wr : World} {gh gm : Nat} {key mh mk ma : List UInt8} {av v : Value} {ps : List (List UInt8)} (h : Stm w wr gh gm key mh mk av ma) {S : Nat → Prop} (hp : PartsAt wr S v ps) (hS : ∀ k, S k → k < wr.heap.size ∧ k ≠ gh ∧ k ≠ gm) (h1 : mh.length + ps.flatten.length ≤ 1048576) (h2 : mk.length + ps.flatten.length ≤ 1048576) (hn : ps.length ≤ 1048576) (ht : Tab w) :
    (Calls Tryd.prog 24 #[.pointer (some ⟨gh, 0, none⟩), v] wr fun e w' => e = .returned (.tuple #[]) ∧ Stm w w' gh gm key (mh ++ ps.flatten) mk av ma ∧ Only (fun k => k = gh) wr w') ∧
    (Calls Tryd.prog 25 #[.pointer (some ⟨gm, 0, none⟩), v] wr fun e w' => e = .returned (.tuple #[]) ∧ Stm w w' gh gm key mh (mk ++ ps.flatten) av ma ∧ Only (fun k => k = gm) wr w') := by
  have ht' := ht.only h.only (fun x => x)
  have hw := ht.lt
  have hl := h.lo
  obtain ⟨s, r, hh⟩ := h.h
  refine ⟨?_, ?_⟩
  · refine (hWrite_any hh hp (fun k hk => ⟨(hS k hk).1, (hS k hk).2.1⟩) (by omega) hn ht' (by omega)).mono ?_
    rintro e w' ⟨he, hh', ho⟩
    exact ⟨he, h.hw hh' ho, ho⟩
  · refine (kWrite_any h.k hp (fun k hk => ⟨(hS k hk).1, (hS k hk).2.2⟩) (by omega) hn ht' (by omega)).mono ?_
    rintro e w' ⟨he, hk', ho⟩
    exact ⟨he, h.kw hk' ho, ho⟩

end Go.Proofs.YtdgaojibfpafnaaDoor
