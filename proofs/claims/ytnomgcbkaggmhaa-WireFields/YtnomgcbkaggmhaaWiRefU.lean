/- The document's own Unpack. Conditions: the row is short. -/
import Derived.Test.YtnomgcbkaggmhaaWiRefS
import Derived.Test.YtnomgcbkaggmhaaWiUnpack
namespace Go.Proofs.Ytnomgcbkaggmhaa
open Go.RowKit

/-- What stands behind the first l bytes. -/
theorem BytesAt.dropl {w : World} {S : Nat → Prop} {a : Option Addr} {n c l : Nat} {bs : List UInt8} (h : BytesAt w S (.slice a n c) bs) (hl : l ≤ bs.length) : ∃ a', (∀ W : World, (Instr.slice 22 (.slice a n c) (some (.int .i64 (l : Int))) none none).run Try.prog W = .ok (.slice a' (n - l) (c - l)) W) ∧ BytesAt w S (.slice a' (n - l) (c - l)) (bs.drop l) := by
  have hc := h.cap
  have hn : n = bs.length := by obtain ⟨_, _, e⟩ := h.shape; exact (Value.slice.inj e).2.1
  subst hn
  refine ⟨if c = l then a else a.map (·.add l), fun W => ?_, ?_⟩
  · rw [run_slice_l (ht := by kernel_rfl) (h0 := by omega) (h1 := by omega)]
    have hsz : (sizeOf (Try.prog.elem 22)).run Try.prog W = .ok 1 W := by kernel_rfl
    rw [hsz]
    simp [Result.andThen, sliced]
  · have hll : (bs.drop l).length = bs.length - l := by simp
    rcases h with ⟨e, rfl⟩ | ⟨ad, c', e, hc', h2, h3⟩
    · obtain ⟨rfl, _, rfl⟩ := Value.slice.inj e
      have h0 : l = 0 := by simpa using hl
      subst h0
      exact .inl ⟨rfl, rfl⟩
    · obtain ⟨rfl, _, rfl⟩ := Value.slice.inj e
      by_cases hcl : c = l
      · have hk0 : bs.length - l = 0 := by omega
        rw [if_pos hcl, hk0]
        refine .inr ⟨ad, c - l, by rw [hll, hk0], by omega, fun hne => absurd (List.drop_eq_nil_of_le (by omega)) hne, fun j x hx => ?_⟩
        rw [List.drop_eq_nil_of_le (by omega)] at hx
        simp at hx
      · rw [if_neg hcl]
        refine .inr ⟨ad.add l, c - l, by rw [hll]; rfl, by omega, fun hne => ?_, fun j x hx => ?_⟩
        · rw [add_block]; exact h2 (by rintro rfl; simp at hne)
        · rw [add_add]
          rw [List.getElem?_drop] at hx
          exact h3 _ x hx

/-- Rows that lie in blocks of bytes. -/
def RowsU (w : World) (us : List Value) (fs : List (List UInt8)) : Prop := us.length = fs.length ∧ ∀ i (h : i < fs.length), ∃ u, us[i]? = some u ∧ BytesAt w (fun k => TyAt w k 5) u fs[i]
theorem RowsU.typed {w w' : World} {T : Nat → Prop} {us : List Value} {fs : List (List UInt8)} (h : RowsU w us fs) (ho : Only T w w') (hT : ∀ k, T k → ∃ t, TyAt w k t ∧ t ≠ 5) : RowsU w' us fs := by
  refine ⟨h.1, fun i hi => ?_⟩
  obtain ⟨u, h1, h2⟩ := h.2 i hi
  have hk : ∀ k, TyAt w k 5 → w'.heap[k]? = w.heap[k]? := fun k hk => ho.block k hk.lt (fun ht => by
    obtain ⟨t, q1, q2⟩ := hT k ht
    exact q2 (q1.eq hk))
  exact ⟨u, h1, h2.kept hk (fun k q => by obtain ⟨c, hc⟩ := q; exact ⟨c, (hk k ⟨c, hc⟩).trans hc⟩)⟩
theorem RowsU.snoc {w : World} {us : List Value} {fs : List (List UInt8)} {u : Value} {f : List UInt8} (h : RowsU w us fs) (hu : BytesAt w (fun k => TyAt w k 5) u f) : RowsU w (us ++ [u]) (fs ++ [f]) := by
  refine ⟨by simp [h.1], fun i hi => ?_⟩
  by_cases e : i < fs.length
  · obtain ⟨x, h1, h2⟩ := h.2 i e
    refine ⟨x, by rw [List.getElem?_append_left (by rw [h.1]; exact e)]; exact h1, ?_⟩
    rw [List.getElem_append_left e]; exact h2
  · have e' : i = fs.length := by simp at hi; omega
    subst e'
    refine ⟨u, by rw [← h.1]; simp, ?_⟩
    simpa using hu
theorem Row.typed8 {w wr : World} {v : Value} {bs : List UInt8} (h : Row w wr v bs) : BytesAt wr (fun k => TyAt wr k 5) v bs := by
  refine (BytesAt.of_row h.row).mono (fun k hk => ?_)
  rcases h.row.2 with ⟨rfl, _⟩ | ⟨g, cap, cur, rfl, _, hg, _⟩
  · cases hk
  · have : g = k := Option.some.inj hk
    subst this
    exact ⟨_, hg⟩
theorem Lst.partsU {w wr : World} {ov : Value} {us : List Value} {fs : List (List UInt8)} (h : Lst w wr ov us) (hr : RowsU wr us fs) : PartsAt wr (fun k => k < wr.heap.size) ov fs := by
  obtain ⟨a, c, rfl⟩ := h.shape
  refine ⟨a, c, by rw [hr.1], by have := row_cap h.row; rw [← hr.1]; exact this, fun i hi => ?_⟩
  obtain ⟨u, h1, h2⟩ := hr.2 i hi
  rcases h.row.2 with ⟨_, h0⟩ | ⟨q, cap, cur, e, _⟩
  · have := hr.1; omega
  · obtain ⟨rfl, _, rfl⟩ := Value.slice.inj e
    exact ⟨⟨q, 0, none⟩, u, rfl, (h.row.lt q rfl).2, h.row.cells (g := q) rfl i u h1, h2.mono (fun k hk => hk.lt)⟩

theorem r4unpack_neg {w : World} {v : Value} {n : Int} (hn : n < 0) : Calls Try.prog 27 #[v, .int .i64 n] w fun e w' => e = .returned (.tuple #[.slice none 0 0, .int .i64 9]) ∧ w' = w := by
  have h0 : ¬ (0 : Int) < n := by omega
  go_enter Try.func27, Try.ntmps27
  go_wp2
  go_loopw [0, 6] (fun bv ov wr => bv = v ∧ ov = .slice none 0 0 ∧ wr = w) (fun _ _ _ => 0)
  case atStart => exact ⟨rfl, rfl, rfl⟩
  case round =>
    obtain ⟨rfl, rfl, rfl⟩ := hrel
    go_wp2
    go_ret2
    exact ⟨rfl, rfl⟩

/-- What it keeps on its way. -/
structure Unq (w wr : World) (bs rest : List UInt8) (bv ov : Value) (us : List Value) (fs : List (List UInt8)) (N : Nat) : Prop where
  lst : Lst w wr ov us
  rows : RowsU wr us fs
  bv : BytesAt w (fun k => k < w.heap.size) bv rest
  len : fs.length + rest.length ≤ bs.length
  eq : fs.length ≤ N ∧ Wi.unpack N bs = (Wi.unpack (N - fs.length) rest).map (fs ++ ·)

set_option maxRecDepth 100000 in
set_option maxHeartbeats 2000000 in
theorem r4unpack_any {w : World} {v : Value} {bs : List UInt8} (hv : BytesAt w (fun k => k < w.heap.size) v bs) (hl : Short bs.length) {N : Nat} (hN : N < 9223372036854775808) :
    Calls Try.prog 27 #[v, .int .i64 (N : Int)] w fun e w' => Only (fun _ => False) w w' ∧ ((∃ fs a c, Wi.unpack N bs = some fs ∧ e = .returned (.tuple #[.slice a fs.length c, .int .i64 0]) ∧ PartsAt w' (fun k => k < w'.heap.size) (.slice a fs.length c) fs) ∨ (Wi.unpack N bs = none ∧ e = .returned (.tuple #[.slice none 0 0, .int .i64 9]))) := by
  obtain ⟨va, vc, rfl⟩ := hv.shape
  have HV := Lib.hid hv
  have h0 : ¬ (N : Int) < 0 := by omega
  clear hv
  obtain ⟨i1, hi1, hy0, hy1, hy2⟩ := info_parts info_bytes'
  go_enter Try.func27, Try.ntmps27
  go_wp2
  go_loopw [0, 6] (fun bv ov wr => ∃ (rest : List UInt8) (us : List Value) (fs : List (List UInt8)), Unq w wr bs rest bv ov us fs N) (fun _ ov _ => N - (match ov with | .slice _ m _ => m | _ => 0))
  case atStart => exact ⟨bs, [], [], Lst.nil w w (Only.refl _ _), ⟨rfl, fun i hi => absurd hi (by simp)⟩, HV.out, by simp, by simp, by simp⟩
  case round =>
    obtain ⟨rest, us, fs, hu⟩ := hrel
    have hle := hu.len
    have hiN := hu.eq.1
    have hl' := hl.le
    have hul := hu.rows.1
    obtain ⟨oa, oc, rfl⟩ := hu.lst.shape
    rw [hul]
    obtain ⟨ra, rc, rfl⟩ := hu.bv.shape
    have HU := Lib.hid hu
    by_cases hlt : fs.length < N
    · have hlt' : (fs.length : Int) < (N : Int) := by omega
      have hbw := hu.bv.here hu.lst.only (fun _ h => h)
      cases hf : Wi.field rest with
      | none =>
        have HRF := Lib.hid (r4field_bad hbw (fun _ h => h) (by omega) hf)
        have HEQ : Hid (Wi.unpack N bs = none) := unpack_fail hu.eq.2 (by omega) hf
        clear hu hf hbw
        go_wp2_with (go_at_call 46; refine HRF.out.mono ?_; rintro e w2 ⟨rfl, ho2⟩; have HO2 := Lib.hid (HU.out.lst.only.trans ho2); clear ho2)
        go_ret2
        exact ⟨HO2.out, .inr ⟨HEQ.out, rfl⟩⟩
      | some q =>
        obtain ⟨f, k⟩ := q
        have hfs := Wi.field_some hf
        have HRF := Lib.hid (r4field_ok hbw (fun _ h => h) (by omega) hf)
        have HEQ := Lib.hid (unpack_step (i := fs.length) hu.eq.2 (by omega) hf)
        have hkl := hfs.le
        have hk0 := hfs.lt
        obtain ⟨na, hsl, hbd⟩ := hu.bv.dropl (l := k) hkl
        have HNX : Hid (∀ (w2 w4 : World) (a a' : Option Addr) (c c' : Nat), Row wr w2 (.slice a f.length c) f →
            w4.ownsRow 0 22 1 (.slice a' (fs.length + 1) c') (fs.length + 1) (us ++ [.slice a f.length c]) → (w2.alloc (.cells #[.slice a f.length c] 22)).grownBy w4 (Value.slice oa fs.length oc).ownBlock → ((Value.slice a' (fs.length + 1) c').ownBlock = (Value.slice oa fs.length oc).ownBlock ∨ (Value.slice a' (fs.length + 1) c').ownBlock = some (w2.alloc (.cells #[.slice a f.length c] 22)).heap.size) →
            Unq w w4 bs (rest.drop k) (.slice na (rest.length - k) (rc - k)) (.slice a' (fs.length + 1) c') (us ++ [.slice a f.length c]) (fs ++ [f]) N) := by
          intro w2 w4 a a' c c' hrw hrow hg hat
          have hL := HU.out.lst
          rw [hul] at hL
          have hoA : Only (fun _ => False) w2 (w2.alloc (.cells #[.slice a f.length c] 22)) := Only.alloc _
          have hL2 := hL.keep hrw.only
          have hLA := hL2.keep hoA
          have ho4 : Only (fun q => (Value.slice oa fs.length oc).ownBlock = some q) (w2.alloc (.cells #[.slice a f.length c] 22)) w4 := (Only.of_grown hg).mono (fun q _ e => e.symm)
          have hT1 : ∀ q, (Value.slice oa fs.length oc).ownBlock = some q → ∃ t, TyAt (w2.alloc (.cells #[.slice a f.length c] 22)) q t ∧ t ≠ 5 := fun q hq => ⟨_, hLA.ty hq, by decide⟩
          have hLf := hL2.app hoA (u := .slice a f.length c) (a := a') (c := c') (by rw [hul]; exact hrow) hg (by rw [hul]; exact hat)
          rw [hul] at hLf
          have hR2 : RowsU w2 us fs := HU.out.rows.typed hrw.only (fun _ x => x.elim)
          refine ⟨hLf, (((hR2.snoc hrw.typed8).typed hoA (fun _ x => x.elim)).typed ho4 hT1), hbd, ?_, ?_, ?_⟩
          · have := HU.out.len
            simp only [List.length_append, List.length_cons, List.length_nil, List.length_drop]; omega
          · simp only [List.length_append, List.length_cons, List.length_nil]; omega
          · rw [HEQ.out]; simp
        have HRG : Hid (∀ (w2 : World) (y : Obj), Only (fun _ => False) wr w2 → (w2.alloc y).ownsRow 0 22 1 (.slice oa fs.length oc) fs.length us) := by
          intro w2 y ho
          have hL := HU.out.lst
          rw [hul] at hL
          have := (hL.keep ho).row.alloc y
          rwa [hul] at this
        have HU1 : Hid (fs.length + 1 ≤ maxLen) := by unfold Hid maxLen; omega
        have HU2 : Hid ((fs.length + 1) * 24 ≤ 140737488355328) := by unfold Hid; omega
        have g0 : ¬ (k : Int) < 0 := by omega
        clear hu hf hfs HEQ hbw
        generalize f.length = fl at *
        go_wp2_with (first
          | (go_at_call 46; refine HRF.out.mono ?_; rintro e w2 ⟨fa, fc, rfl, hr2⟩; have HR2 := Lib.hid hr2; clear hr2)
          | (at_builtin; refine wpList_append_own_at _ rfl _ _ 39 rfl 0 22 i1 _ 1 24 Try.underlying39 hi1 hy0 hy1 hy2 rfl (by omega) (.slice oa fs.length oc) fs.length us rfl (HRG.out _ _ HR2.out.only) ⟨w2.heap.size, 0, none⟩ 1 1 [.slice fa fl fc] rfl rfl (cell_one_new _ _ _) (by intro u hu; simp only [List.mem_cons, List.not_mem_nil, or_false] at hu; subst hu; rfl) HU1.out HU2.out (Nat.zero_le _) ?_; intro v' w6 hown hgr hnil hat; obtain ⟨ga', gc', rfl⟩ := row_shape hown; have HNF := Lib.hid (HNX.out _ _ _ _ _ _ HR2.out hown hgr hat); clear hown hgr hnil hat))
        refine ⟨⟨rest.drop k, _, _, HNF.out⟩, by simp; omega⟩
    · have hlt' : ¬ (fs.length : Int) < (N : Int) := by omega
      have hne := unpack_end (by have := hu.eq.2; rw [show fs.length = N by omega] at this; exact this)
      by_cases hr : rest = []
      · have HPT : Hid (PartsAt wr (fun k => k < wr.heap.size) (.slice oa fs.length oc) fs) := by
          have := hu.lst.partsU hu.rows
          rwa [hul] at this
        have HEQ := Lib.hid (hne.1 hr)
        have HO := Lib.hid hu.lst.only
        have hr0 : rest.length = 0 := by rw [hr]; rfl
        rw [hr0]
        clear hu hne hr
        go_wp2
        go_ret2
        exact ⟨HO.out, .inl ⟨fs, HEQ.out, oa, oc, rfl, HPT.out⟩⟩
      · have HEQ := Lib.hid (hne.2 hr)
        have HO := Lib.hid hu.lst.only
        have hr0 : (rest.length : Int) > 0 := by have := List.length_pos_iff.2 hr; omega
        clear hu hne hr
        go_wp2
        go_ret2
        exact ⟨HO.out, .inr ⟨HEQ.out, rfl⟩⟩

end Go.Proofs.Ytnomgcbkaggmhaa
