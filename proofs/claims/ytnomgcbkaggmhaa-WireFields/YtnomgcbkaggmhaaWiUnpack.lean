/- wire.Unpack. Conditions: the row is short. -/
import Derived.Test.YtnomgcbkaggmhaaWiPcs
namespace Go.Proofs.Ytnomgcbkaggmhaa
open Go.RowKit

/-- A length that is short. -/
structure Short (n : Nat) : Prop where
  le : n ≤ 1048576

/-- What Unpack keeps on its way. -/
structure Unp (w wr : World) (b g o : Nat) (bs rest : List UInt8) (ov : Value) (ps : List Pc) (N : Nat) : Prop where
  lst : Lst w wr ov (ps.map (·.v))
  rd : ReaderAt wr b g o (some rest)
  pcs : Pcs wr g o ps
  len : ps.length + rest.length ≤ bs.length
  pos : o + rest.length = bs.length
  low : w.heap.size ≤ b
  eq : ps.length ≤ N ∧ Wi.unpack N bs = (Wi.unpack (N - ps.length) rest).map (ps.map (·.b) ++ ·)

theorem unpack_step {N i k : Nat} {bs rest f : List UInt8} {fs : List (List UInt8)} (h : Wi.unpack N bs = (Wi.unpack (N - i) rest).map (fs ++ ·)) (hi : i < N) (hf : Wi.field rest = some (f, k)) : Wi.unpack N bs = (Wi.unpack (N - (i + 1)) (rest.drop k)).map (fs ++ [f] ++ ·) := by
  rw [h, show N - i = (N - (i + 1)) + 1 by omega, Wi.unpack, hf]
  simp only [Option.map_map]
  congr 1
  funext x
  simp
theorem unpack_fail {N i : Nat} {bs rest : List UInt8} {fs : List (List UInt8)} (h : Wi.unpack N bs = (Wi.unpack (N - i) rest).map (fs ++ ·)) (hi : i < N) (hf : Wi.field rest = none) : Wi.unpack N bs = none := by
  rw [h, show N - i = (N - (i + 1)) + 1 by omega, Wi.unpack, hf]; rfl
theorem unpack_end {N : Nat} {bs rest : List UInt8} {fs : List (List UInt8)} (h : Wi.unpack N bs = (Wi.unpack (N - N) rest).map (fs ++ ·)) : (rest = [] → Wi.unpack N bs = some fs) ∧ (rest ≠ [] → Wi.unpack N bs = none) := by
  rw [h, Nat.sub_self]
  constructor
  · rintro rfl; simp [Wi.unpack]
  · intro hne; simp [Wi.unpack, hne]

theorem unpack_neg {w : World} {v : Value} {n : Int} (hn : n < 0) : Calls Try.prog 26 #[v, .int .i64 n] w fun e w' => e = .returned (.tuple #[.slice none 0 0, .iface 75 (.int .i64 9)]) ∧ w' = w := by
  go_enter Try.func26, Try.ntmps26
  go_wp2
  go_ret2
  exact ⟨rfl, rfl⟩

/-- What Unpack answers. -/
structure Unpd (w w' : World) (bs : List UInt8) (N : Nat) (ov : Value) (g : Nat) (ps : List Pc) : Prop where
  eq : Wi.unpack N bs = some (ps.map (·.b))
  lst : Lst w w' ov (ps.map (·.v))
  pcs : Pcs w' g bs.length ps
  fresh : bs ≠ [] → w.heap.size ≤ g

set_option maxRecDepth 100000 in
set_option maxHeartbeats 1000000 in
theorem unpack_any {w : World} {S : Nat → Prop} {v : Value} {bs : List UInt8} (hv : BytesAt w S v bs) (hS : ∀ k, S k → k < w.heap.size) (hl : Short bs.length) {N : Nat} (hN : N < 9223372036854775808) :
    Calls Try.prog 26 #[v, .int .i64 (N : Int)] w fun e w' => (∃ a c g ps, e = .returned (.tuple #[.slice a ps.length c, .nilIface]) ∧ Unpd w w' bs N (.slice a ps.length c) g ps) ∨ (Wi.unpack N bs = none ∧ e = .returned (.tuple #[.slice none 0 0, .iface 75 (.int .i64 9)]) ∧ Only (fun _ => False) w w') := by
  have HNR := Lib.hid (new_reader hv hS (by have := hl.le; omega))
  obtain ⟨va, vc, rfl⟩ := hv.shape
  have h0 : ¬ (N : Int) < 0 := by omega
  clear hv hS
  obtain ⟨i1, hi1, hy0, hy1, hy2⟩ := info_parts info_bytes'
  go_enter Try.func26, Try.ntmps26
  go_wp2_with (go_at_call 32; refine HNR.out.mono ?_; rintro e w1 ⟨b, g, rfl, hr1, hb1, hg1, ho1⟩; have HU1 : Hid (Unp w w1 b g 0 bs bs (.slice none 0 0) [] N) := ⟨Lst.nil w w1 ho1, hr1, Pcs.nil _ _ _, by simp, by simp, hb1, by simp, by simp⟩; have HG1 := Lib.hid hg1; clear hr1 hb1 hg1 ho1)
  go_loopw [6, 17] (fun ov iv wr => ∃ (i o : Nat) (rest : List UInt8) (ps : List Pc), i = ps.length ∧ iv = .int .i64 i ∧ Unp w wr b g o bs rest ov ps N) (fun _ iv _ => N - (intOf iv).toNat)
  case atStart => exact ⟨0, 0, bs, [], rfl, rfl, HU1.out⟩
  case round =>
    obtain ⟨i, o, rest, ps, hi, rfl, hu⟩ := hrel
    have hle := hu.len
    have hpos := hu.pos
    have hiN := hu.eq.1
    rw [← hi] at hiN hle
    have hl' := hl.le
    clear HU1
    by_cases hlt : i < N
    · have hlt' : (i : Int) < (N : Int) := by omega
      have HU := Lib.hid hu
      obtain ⟨oa, oc, rfl⟩ := hu.lst.shape
      rw [List.length_map, ← hi]
      cases hf : Wi.field rest with
      | none =>
        have HRF := Lib.hid (rfield_bad hu.rd hf (by omega))
        have HEQ : Hid (Wi.unpack N bs = none) := unpack_fail hu.eq.2 (by omega) hf
        clear hu hf
        go_wp2_with (first
          | (go_at_call 38; refine HRF.out.mono ?_; rintro e w2 ⟨rfl, ⟨o2, hr2⟩, ho2⟩; have HE2 := Lib.hid (err_any hr2); have HO2 : Hid (Only (fun _ => False) w w2) := (HU.out.lst.only.andThen ho2 (fun k hk e => by have := HU.out.low; omega)); clear hr2 ho2)
          | (go_at_call 43; refine HE2.out.mono ?_; rintro e w3 ⟨rfl, rfl⟩; unfold rdE))
        go_ret2
        exact .inr ⟨HEQ.out, rfl, HO2.out⟩
      | some q =>
        obtain ⟨f, k⟩ := q
        have hfs := Wi.field_some hf
        have HRF := Lib.hid (rfield_ok hu.rd hf (by omega))
        have HEQ := Lib.hid (unpack_step (i := ps.length) hu.eq.2 (by omega) hf)
        have hkl := hfs.le
        have hk0 := hfs.lt
        have hksz := hfs.size
        have hfl : f.length ≤ k := by omega
        have HNX : Hid (∀ (w2 w4 : World) (a : Option Addr) (a' : Option Addr) (c' : Nat), RestAt w2 g (o + (k - f.length)) (.slice a f.length f.length) f → ReaderAt w2 b g (o + k) (some (rest.drop k)) → Only (fun k => k = b) wr w2 →
            w4.ownsRow 0 22 1 (.slice a' (i + 1) c') (i + 1) (ps.map (·.v) ++ [.slice a f.length f.length]) → (w2.alloc (.cells #[.slice a f.length f.length] 22)).grownBy w4 (Value.slice oa i oc).ownBlock → ((Value.slice a' (i + 1) c').ownBlock = (Value.slice oa i oc).ownBlock ∨ (Value.slice a' (i + 1) c').ownBlock = some (w2.alloc (.cells #[.slice a f.length f.length] 22)).heap.size) →
            Unp w w4 b g (o + k) bs (rest.drop k) (.slice a' (i + 1) c') (ps ++ [⟨.slice a f.length f.length, o + (k - f.length), f⟩]) N) := by
          intro w2 w4 a a' c' hp hr ho hrow hg hat
          have hL := HU.out.lst
          rw [List.length_map, ← hi] at hL
          have hbt := HU.out.rd.ty
          have hL2 := hL.typed ho (fun k e => by subst e; exact ⟨HU.out.low, _, hbt, by decide⟩)
          have hP2 := HU.out.pcs.typed ho (fun k e => by subst e; exact ⟨_, hbt, by decide⟩)
          have hoA : Only (fun _ => False) w2 (w2.alloc (.cells #[.slice a f.length f.length] 22)) := Only.alloc _
          have hLA := hL2.keep hoA
          have ho4 : Only (fun q => (Value.slice oa i oc).ownBlock = some q) (w2.alloc (.cells #[.slice a f.length f.length] 22)) w4 := (Only.of_grown hg).mono (fun q _ e => e.symm)
          have hT : ∀ q, (Value.slice oa i oc).ownBlock = some q → ∃ t, TyAt (w2.alloc (.cells #[.slice a f.length f.length] 22)) q t ∧ t ≠ 5 ∧ t ≠ 85 := fun q hq => ⟨_, hLA.ty hq, by decide, by decide⟩
          have hT1 : ∀ q, (Value.slice oa i oc).ownBlock = some q → ∃ t, TyAt (w2.alloc (.cells #[.slice a f.length f.length] 22)) q t ∧ t ≠ 5 := fun q hq => ⟨_, hLA.ty hq, by decide⟩
          have hil : (ps.map (·.v)).length = i := by simp [hi]
          have hLf := hL2.app hoA (u := .slice a f.length f.length) (a := a') (c := c') (by rw [hil]; exact hrow) hg (by rw [hil]; exact hat)
          rw [hil] at hLf
          refine ⟨by simpa using hLf, (hr.keep hoA (fun x => x) (fun x => x)).typed ho4 hT, ?_, ?_, ?_, HU.out.low, ?_, ?_⟩
          · refine ((hP2.only hoA (fun x => x)).typed ho4 hT1).snoc ⟨⟨a, rfl⟩, (hp.only hoA (fun x => x)).typed ho4 hT1⟩ ?_ ?_
            · show o ≤ o + (k - f.length); omega
            · show o + (k - f.length) + f.length ≤ o + k; omega
          · have := HU.out.len
            simp only [List.length_append, List.length_cons, List.length_nil, List.length_drop]; omega
          · simp only [List.length_drop]; omega
          · simp only [List.length_append, List.length_cons, List.length_nil]; omega
          · rw [HEQ.out]; simp
        have HRG : Hid (∀ (w2 : World) (y : Obj), Only (fun k => k = b) wr w2 → (w2.alloc y).ownsRow 0 22 1 (.slice oa i oc) i (ps.map (·.v))) := by
          intro w2 y ho
          have hL := HU.out.lst
          rw [List.length_map, ← hi] at hL
          have hL2 := hL.typed ho (fun k e => by subst e; exact ⟨HU.out.low, _, HU.out.rd.ty, by decide⟩)
          have := hL2.row.alloc y
          rwa [List.length_map, ← hi] at this
        have HU1 : Hid (i + 1 ≤ maxLen) := by unfold Hid maxLen; omega
        have HU2 : Hid ((i + 1) * 24 ≤ 140737488355328) := by unfold Hid; omega
        have HSI := Lib.hid hi
        clear hu hf hfs HEQ hi hksz
        generalize f.length = fl at *
        go_wp2_with (first
          | (go_at_call 38; refine HRF.out.mono ?_; rintro e w2 ⟨fa, rfl, hp2, hr2, ho2⟩; have HE2 := Lib.hid (err_any hr2); have HP2 := Lib.hid hp2; have HR2 := Lib.hid hr2; have HO2 := Lib.hid ho2; clear hp2 hr2 ho2)
          | (go_at_call 43; refine HE2.out.mono ?_; rintro e w3 ⟨rfl, rfl⟩; unfold rdE)
          | (at_builtin; refine wpList_append_own_at _ rfl _ _ 39 rfl 0 22 i1 _ 1 24 Try.underlying39 hi1 hy0 hy1 hy2 rfl (by omega) (.slice oa i oc) i (ps.map (·.v)) rfl (HRG.out _ _ HO2.out) ⟨w3.heap.size, 0, none⟩ 1 1 [.slice fa fl fl] rfl rfl (cell_one_new _ _ _) (by intro u hu; simp only [List.mem_cons, List.not_mem_nil, or_false] at hu; subst hu; rfl) HU1.out HU2.out (Nat.zero_le _) ?_; intro v' w6 hown hgr hnil hat; obtain ⟨ga', gc', rfl⟩ := row_shape hown; have HNF := Lib.hid (HNX.out _ _ _ _ _ HP2.out HR2.out HO2.out hown hgr hat); clear hown hgr hnil hat))
        refine ⟨⟨i + 1, o + k, rest.drop k, _, ?_, by go_num, HNF.out⟩, by simp [intOf]; omega⟩
        simp [HSI.out]
    · have hiN' : i = N := by omega
      have hlt' : ¬ (i : Int) < (N : Int) := by omega
      have hne := unpack_end (by have := hu.eq.2; rw [← hi, hiN'] at this; exact this)
      have HDN := Lib.hid (done_any hu.rd (by show rest.length ≤ 140737488355328; omega))
      obtain ⟨oa, oc, rfl⟩ := hu.lst.shape
      by_cases hr : rest = []
      · have HUF : Hid (Unpd w wr bs N (.slice oa (ps.map (·.v)).length oc) g ps) := ⟨hne.1 hr, hu.lst, hu.pcs.mono (by omega), HG1.out⟩
        rw [hr] at HDN
        unfold doneE at HDN
        rw [if_pos rfl] at HDN
        rw [List.length_map] at HUF ⊢
        clear hu hne hr HG1
        go_wp2_with (go_at_call 44; refine HDN.out.mono ?_; rintro e w3 ⟨rfl, rfl⟩)
        go_ret2
        exact .inl ⟨oa, oc, g, ps, rfl, HUF.out⟩
      · have HEQ := Lib.hid (hne.2 hr)
        unfold doneE at HDN
        rw [if_neg (by simpa using hr)] at HDN
        have HO := Lib.hid hu.lst.only
        clear hu hne hr HG1
        go_wp2_with (go_at_call 44; refine HDN.out.mono ?_; rintro e w3 ⟨rfl, rfl⟩)
        go_ret2
        exact .inr ⟨HEQ.out, rfl, HO.out⟩

end Go.Proofs.Ytnomgcbkaggmhaa
