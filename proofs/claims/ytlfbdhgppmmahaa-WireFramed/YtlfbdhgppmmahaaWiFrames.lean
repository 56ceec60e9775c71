/- wire.Frames. Conditions: the row is short. -/
import Derived.Test.YtlfbdhgppmmahaaWiUnpack
namespace Go.Proofs.Ytlfbdhgppmmahaa
open Go.RowKit

namespace Wi
theorem frames_nil (m at' : Nat) : frames m at' [] = ([], at') := by cases m <;> rfl
theorem frames_stop {m at' : Nat} {x : UInt8} {t : List UInt8} (h : field t = none) : frames m at' (x :: t) = ([], at') := by
  cases m with
  | zero => rfl
  | succ m => simp [frames, h]
theorem frames_step {m at' k : Nat} {x : UInt8} {t f : List UInt8} (hm : 0 < m) (h : field t = some (f, k)) : frames m at' (x :: t) = ((x, f, at') :: (frames (m - 1) (at' + 1 + k) (t.drop k)).1, (frames (m - 1) (at' + 1 + k) (t.drop k)).2) := by
  obtain ⟨q, rfl⟩ : ∃ q, m = q + 1 := ⟨m - 1, by omega⟩
  simp [frames, h]
end Wi

/-- A frame: its kind, its piece, its place. -/
structure Fr where
  k : UInt8
  p : Pc
  at' : Nat

def frCells (fs : List Fr) : List Value := fs.flatMap fun f => [.int .i64 (f.k.toNat : Int), f.p.v, .int .i64 (f.at' : Int)]
theorem frCells_snoc (fs : List Fr) (f : Fr) : frCells (fs ++ [f]) = frCells fs ++ [.int .i64 (f.k.toNat : Int), f.p.v, .int .i64 (f.at' : Int)] := by simp [frCells]
theorem frCells_len (fs : List Fr) : (frCells fs).length = fs.length * 3 := by
  induction fs with
  | nil => rfl
  | cons f fs ih =>
    have e : frCells (f :: fs) = [.int .i64 (f.k.toNat : Int), f.p.v, .int .i64 (f.at' : Int)] ++ frCells fs := by simp [frCells]
    rw [e, List.length_append, ih]
    simp
    omega
def frOf (f : Fr) : UInt8 × List UInt8 × Nat := (f.k, f.p.b, f.at')

/-- A list of frames that the call itself has made. -/
structure Frs (w wr : World) (ov : Value) (fs : List Fr) : Prop where
  row : wr.ownsRow 0 38 3 ov fs.length (frCells fs)
  own : ∀ q, ov.ownBlock = some q → w.heap.size ≤ q
  only : Only (fun _ => False) w wr

theorem Frs.nil (w wr : World) (ho : Only (fun _ => False) w wr) : Frs w wr (.slice none 0 0) [] := ⟨⟨rfl, .inl ⟨rfl, rfl⟩⟩, fun _ h => (by cases h), ho⟩
theorem Frs.ty {w wr : World} {ov : Value} {fs : List Fr} (h : Frs w wr ov fs) {q : Nat} (hq : ov.ownBlock = some q) : TyAt wr q 38 := by
  rcases h.row.2 with ⟨rfl, _⟩ | ⟨g, cap, cur, rfl, _, hg, _⟩
  · cases hq
  · have : g = q := Option.some.inj hq
    subst this
    exact ⟨_, hg⟩
theorem Frs.shape {w wr : World} {ov : Value} {fs : List Fr} (h : Frs w wr ov fs) : ∃ a c, ov = .slice a fs.length c := row_shape h.row
theorem Frs.typed {w wr w' : World} {T : Nat → Prop} {ov : Value} {fs : List Fr} (h : Frs w wr ov fs) (ho : Only T wr w') (hT : ∀ k, T k → w.heap.size ≤ k ∧ ∃ t, TyAt wr k t ∧ t ≠ 38) : Frs w w' ov fs := by
  refine ⟨ownsRow_keep h.row (fun q hq => ho.block q (h.row.lt q hq).2 fun ht => ?_), h.own, h.only.andThen ho (fun k hk e => by have := (hT k e).1; omega)⟩
  obtain ⟨_, t, h1, h2⟩ := hT q ht
  exact h2 (h1.eq (h.ty hq))
theorem Frs.keep {w wr w1 : World} {ov : Value} {fs : List Fr} (h : Frs w wr ov fs) (ho : Only (fun _ => False) wr w1) : Frs w w1 ov fs :=
  ⟨ownsRow_keep h.row (fun q hq => ho.block q (h.row.lt q hq).2 (fun x => x)), h.own, h.only.trans ho⟩
theorem Frs.app {w wr w1 w2 : World} {ov : Value} {fs : List Fr} {f : Fr} {a : Option Addr} {c : Nat} (h : Frs w wr ov fs) (ho : Only (fun _ => False) wr w1) (hr : w2.ownsRow 0 38 3 (.slice a (fs.length + 1) c) (fs.length + 1) (frCells (fs ++ [f]))) (hg : w1.grownBy w2 ov.ownBlock) (hat : (Value.slice a (fs.length + 1) c).ownBlock = ov.ownBlock ∨ (Value.slice a (fs.length + 1) c).ownBlock = some w1.heap.size) :
    Frs w w2 (.slice a (fs.length + 1) c) (fs ++ [f]) := by
  have hz := ho.size
  have hz0 := h.only.size
  refine ⟨by simpa using hr, fun q hq => ?_, ?_⟩
  · rcases hat with e | e
    · exact h.own q (by rw [← e]; exact hq)
    · rw [hq] at e
      have e1 : q = w1.heap.size := Option.some.inj e
      omega
  · refine (h.only.trans ho).andThen ((Only.of_grown hg).mono (S' := fun q => some q = ov.ownBlock) (fun q _ h => h)) (fun k hk e => ?_)
    have := h.own k e.symm
    omega

theorem info_frame : (Try.prog.info? 38).map (fun i => (i.zero, i.size, i.bytes)) = some (some (.agg #[.int .i64 0, .slice none 0 0, .int .i64 0]), 3, 40) := by kernel_rfl

theorem cells_three (w : World) (x y z : Value) (t : TypeId) : ∀ j u, [x, y, z][j]? = some u → (w.alloc (.cells #[x, y, z] t)).cell? ((⟨w.heap.size, 0, none⟩ : Addr).add j) = some u := by
  intro j u hu
  have hb := Blk.new w [x, y, z] t
  rw [add_lit, Nat.zero_add]
  exact (hb.cell j).trans hu

/-- What Frames keeps on its way. -/
structure Frg (w wr : World) (b g o : Nat) (bs rest : List UInt8) (ov : Value) (fs : List Fr) (m : Nat) : Prop where
  lst : Frs w wr ov fs
  rd : ReaderAt wr b g o (some rest)
  pcs : Pcs wr g o (fs.map (·.p))
  cnt : fs.length + rest.length ≤ bs.length
  pos : o + rest.length = bs.length
  low : w.heap.size ≤ b
  fuel : rest.length < m
  eq : Wi.frames (bs.length + 1) 0 bs = (fs.map frOf ++ (Wi.frames m o rest).1, (Wi.frames m o rest).2)

/-- What Frames answers. -/
structure Frmd (w w' : World) (bs : List UInt8) (ov : Value) (g : Nat) (fs : List Fr) (to' : Nat) : Prop where
  eq : Wi.frames (bs.length + 1) 0 bs = (fs.map frOf, to')
  lst : Frs w w' ov fs
  pcs : Pcs w' g bs.length (fs.map (·.p))
  cnt : fs.length ≤ bs.length
  top : to' ≤ bs.length
  fresh : bs ≠ [] → w.heap.size ≤ g

set_option maxRecDepth 100000 in
set_option maxHeartbeats 1000000 in
theorem frames_any {w : World} {S : Nat → Prop} {v : Value} {bs : List UInt8} (hv : BytesAt w S v bs) (hS : ∀ k, S k → k < w.heap.size) (hl : Short bs.length) :
    Calls Try.prog 9 #[v] w fun e w' => ∃ (a : Option Addr) (c g : Nat) (fs : List Fr) (to' : Nat), e = .returned (.tuple #[.slice a fs.length c, .int .i64 (to' : Int)]) ∧ Frmd w w' bs (.slice a fs.length c) g fs to' := by
  have HNR := Lib.hid (new_reader hv hS (by have := hl.le; omega))
  obtain ⟨va, vc, rfl⟩ := hv.shape
  clear hv hS
  obtain ⟨i1, hi1, hy0, hy1, hy2⟩ := info_parts info_frame
  go_enter Try.func9, Try.ntmps9
  go_wp2_with (go_at_call 18; refine HNR.out.mono ?_; rintro e w1 ⟨b, g, rfl, hr1, hb1, hg1, ho1⟩; have HU1 : Hid (Frg w w1 b g 0 bs bs (.slice none 0 0) [] (bs.length + 1)) := ⟨Frs.nil w w1 ho1, hr1, Pcs.nil _ _ _, by simp, by simp, hb1, by omega, by simp⟩; have HG1 := Lib.hid hg1; clear hr1 hb1 hg1 ho1)
  go_loopw [4, 5] (fun ov bv wr => ∃ (o m : Nat) (rest : List UInt8) (fs : List Fr), bv = .int .i64 (o : Int) ∧ Frg w wr b g o bs rest ov fs m) (fun _ bv _ => bs.length - (intOf bv).toNat)
  case atStart => exact ⟨0, _, bs, [], rfl, HU1.out⟩
  case round =>
    obtain ⟨o, m, rest, fs, rfl, hu⟩ := hrel
    have hcnt := hu.cnt
    have hpos := hu.pos
    have hl' := hl.le
    have HLF := Lib.hid (left_any hu.rd)
    have hlo : leftOf (some rest) = rest.length := rfl
    rw [hlo] at HLF
    clear HU1 hlo
    obtain ⟨oa, oc, rfl⟩ := hu.lst.shape
    cases rest with
    | nil =>
      have HF : Hid (Frmd w wr bs (.slice oa fs.length oc) g fs o) := by
        have he := hu.eq
        rw [Wi.frames_nil, List.append_nil] at he
        exact ⟨he, hu.lst, hu.pcs.mono (by omega), by omega, by omega, HG1.out⟩
      rw [List.length_nil] at HLF
      clear hu HG1
      go_wp2_with (go_at_call 19; refine HLF.out.mono ?_; rintro e w2 ⟨rfl, rfl⟩)
      go_ret2
      exact ⟨oa, oc, g, fs, o, rfl, HF.out⟩
    | cons x t =>
      have hrl : (x :: t).length = t.length + 1 := rfl
      rw [hrl] at hcnt hpos HLF
      have HU := Lib.hid hu
      have HRW := Lib.hid (raw_ok (n := 1) hu.rd (by rw [hrl]; omega) (by rw [hrl]; omega))
      rw [show (x :: t).take 1 = [x] from rfl, show (x :: t).drop 1 = t from rfl] at HRW
      have gl : ((t.length + 1 : Nat) : Int) > 0 := by omega
      cases hf : Wi.field t with
      | none =>
        have HF : Hid (∀ w3, Only (fun k => k = b) wr w3 → Frmd w w3 bs (.slice oa fs.length oc) g fs o) := by
          intro w3 ho
          have he := HU.out.eq
          rw [Wi.frames_stop hf, List.append_nil] at he
          exact ⟨he, HU.out.lst.typed ho (fun k e => by subst e; exact ⟨HU.out.low, _, HU.out.rd.ty, by decide⟩), (HU.out.pcs.typed ho (fun k e => by subst e; exact ⟨_, HU.out.rd.ty, by decide⟩)).mono (by omega), by omega, by omega, HG1.out⟩
        have HRF : Hid (∀ w2, ReaderAt w2 b g (o + 1) (some t) → Calls Try.prog 21 #[.pointer (some ⟨b, 0, none⟩)] w2 fun e w' => e = .returned (.slice none 0 0) ∧ (∃ o', ReaderAt w' b g o' none) ∧ Only (fun k => k = b) w2 w') := fun w2 h => rfield_bad h hf (by omega)
        clear hu hf HG1
        generalize t.length + 1 = L at *
        go_wp2_with (first
          | (go_at_call 19; refine HLF.out.mono ?_; rintro e w2 ⟨rfl, rfl⟩)
          | (go_at_call 20; refine HRW.out.mono ?_; rintro e w2 ⟨ka, rfl, hp2, hr2, ho2⟩; have HR2 := Lib.hid hr2; have HO2 := Lib.hid ho2; clear hp2 hr2 ho2)
          | (go_at_call 21; refine (HRF.out _ HR2.out).mono ?_; rintro e w3 ⟨rfl, ⟨o3, hr3⟩, ho3⟩; have HE3 := Lib.hid (err_any hr3); have HF3 := Lib.hid (HF.out _ (HO2.out.trans ho3)); clear hr3 ho3)
          | (go_at_call 22; refine HE3.out.mono ?_; rintro e w4 ⟨rfl, rfl⟩; unfold rdE))
        go_ret2
        exact ⟨oa, oc, g, fs, o, rfl, HF3.out⟩
      | some q =>
        obtain ⟨f, k⟩ := q
        have hfs := Wi.field_some hf
        have hkl := hfs.le
        have hk0 := hfs.lt
        have hksz := hfs.size
        have hfl : f.length ≤ k := by omega
        have HRF : Hid (∀ w2, ReaderAt w2 b g (o + 1) (some t) → Calls Try.prog 21 #[.pointer (some ⟨b, 0, none⟩)] w2 fun e w' => ∃ a, e = .returned (.slice a f.length f.length) ∧ RestAt w' g (o + 1 + (k - f.length)) (.slice a f.length f.length) f ∧ ReaderAt w' b g (o + 1 + k) (some (t.drop k)) ∧ Only (fun k => k = b) w2 w') := fun w2 h => rfield_ok h hf (by omega)
        have HNX : Hid (∀ (w3 w5 : World) (a a' : Option Addr) (c' : Nat), RestAt w3 g (o + 1 + (k - f.length)) (.slice a f.length f.length) f → ReaderAt w3 b g (o + 1 + k) (some (t.drop k)) → Only (fun k => k = b) wr w3 →
            w5.ownsRow 0 38 3 (.slice a' (fs.length + 1) c') (fs.length + 1) (frCells fs ++ [.int .i64 (x.toNat : Int), .slice a f.length f.length, .int .i64 (o : Int)]) → (w3.alloc (.cells #[.int .i64 (x.toNat : Int), .slice a f.length f.length, .int .i64 (o : Int)] 38)).grownBy w5 (Value.slice oa fs.length oc).ownBlock → ((Value.slice a' (fs.length + 1) c').ownBlock = (Value.slice oa fs.length oc).ownBlock ∨ (Value.slice a' (fs.length + 1) c').ownBlock = some (w3.alloc (.cells #[.int .i64 (x.toNat : Int), .slice a f.length f.length, .int .i64 (o : Int)] 38)).heap.size) →
            Frg w w5 b g (o + 1 + k) bs (t.drop k) (.slice a' (fs.length + 1) c') (fs ++ [⟨x, ⟨.slice a f.length f.length, o + 1 + (k - f.length), f⟩, o⟩]) (m - 1)) := by
          intro w3 w5 a a' c' hp hr ho hrow hg hat
          have hL := HU.out.lst
          have hbt := HU.out.rd.ty
          have hL2 := hL.typed ho (fun k e => by subst e; exact ⟨HU.out.low, _, hbt, by decide⟩)
          have hP2 := HU.out.pcs.typed ho (fun k e => by subst e; exact ⟨_, hbt, by decide⟩)
          have hoA : Only (fun _ => False) w3 (w3.alloc (.cells #[.int .i64 (x.toNat : Int), .slice a f.length f.length, .int .i64 (o : Int)] 38)) := Only.alloc _
          have hLA := hL2.keep hoA
          have ho4 : Only (fun q => (Value.slice oa fs.length oc).ownBlock = some q) (w3.alloc (.cells #[.int .i64 (x.toNat : Int), .slice a f.length f.length, .int .i64 (o : Int)] 38)) w5 := (Only.of_grown hg).mono (fun q _ e => e.symm)
          have hT : ∀ q, (Value.slice oa fs.length oc).ownBlock = some q → ∃ t', TyAt (w3.alloc (.cells #[.int .i64 (x.toNat : Int), .slice a f.length f.length, .int .i64 (o : Int)] 38)) q t' ∧ t' ≠ 5 ∧ t' ≠ 57 := fun q hq => ⟨_, hLA.ty hq, by decide, by decide⟩
          have hT1 : ∀ q, (Value.slice oa fs.length oc).ownBlock = some q → ∃ t', TyAt (w3.alloc (.cells #[.int .i64 (x.toNat : Int), .slice a f.length f.length, .int .i64 (o : Int)] 38)) q t' ∧ t' ≠ 5 := fun q hq => ⟨_, hLA.ty hq, by decide⟩
          have hLf := hL2.app hoA (f := ⟨x, ⟨.slice a f.length f.length, o + 1 + (k - f.length), f⟩, o⟩) (a := a') (c := c') (by rw [frCells_snoc]; exact hrow) hg hat
          refine ⟨hLf, (hr.keep hoA (fun x => x) (fun x => x)).typed ho4 hT, ?_, ?_, ?_, HU.out.low, ?_, ?_⟩
          · rw [List.map_append]
            refine ((hP2.only hoA (fun x => x)).typed ho4 hT1).snoc ⟨⟨a, rfl⟩, (hp.only hoA (fun x => x)).typed ho4 hT1⟩ ?_ ?_
            · show o ≤ o + 1 + (k - f.length); omega
            · show o + 1 + (k - f.length) + f.length ≤ o + 1 + k; omega
          · simp only [List.length_append, List.length_cons, List.length_nil, List.length_drop]; omega
          · simp only [List.length_drop]; omega
          · have := HU.out.fuel; rw [hrl] at this; simp only [List.length_drop]; omega
          · have := HU.out.eq
            rw [Wi.frames_step (by have := HU.out.fuel; omega) hf] at this
            rw [this]
            simp [frOf]
        have HRG : Hid (∀ (w3 : World) (y : Obj), Only (fun k => k = b) wr w3 → (w3.alloc y).ownsRow 0 38 3 (.slice oa fs.length oc) fs.length (frCells fs)) := by
          intro w3 y ho
          exact ((HU.out.lst.typed ho (fun k e => by subst e; exact ⟨HU.out.low, _, HU.out.rd.ty, by decide⟩)).row).alloc y
        have HU1 : Hid (fs.length + 1 ≤ maxLen) := by unfold Hid maxLen; omega
        have HU2 : Hid ((fs.length + 1) * 40 ≤ 140737488355328) := by unfold Hid; omega
        obtain ⟨L2, hL2⟩ : ∃ L2, (t.drop k).length = L2 := ⟨_, rfl⟩
        have hL2' : L2 = t.length - k := by rw [← hL2]; simp
        have hsub : (bs.length : Int) - (L2 : Int) = ((o + 1 + k : Nat) : Int) := by omega
        have hL2b : L2 ≤ bs.length := by omega
        have HRL : Hid (∀ w3, ReaderAt w3 b g (o + 1 + k) (some (t.drop k)) → Calls Try.prog 19 #[.pointer (some ⟨b, 0, none⟩)] w3 fun e w' => e = .returned (.int .i64 (L2 : Int)) ∧ w' = w3) := fun w3 h => by
          have := left_any h
          rwa [show leftOf (some (t.drop k)) = L2 from hL2] at this
        have HMS : Hid (bs.length - (o + 1 + k) < bs.length - o) := by unfold Hid; omega
        have hxl := x.toNat_lt
        clear hu hf hfs hksz hL2 hL2' HG1
        generalize f.length = fl at *
        generalize hTL : t.length + 1 = L at *
        generalize hXN : x.toNat = xn at *
        go_wp2_with (first
          | (go_at_call 19; refine HLF.out.mono ?_; rintro e w2 ⟨rfl, rfl⟩)
          | (go_at_call 20; refine HRW.out.mono ?_; rintro e w2 ⟨ka, rfl, hp2, hr2, ho2⟩; have HP2 := Lib.hid hp2; have HR2 := Lib.hid hr2; have HO2 := Lib.hid ho2; clear hp2 hr2 ho2)
          | (go_at_call 21; refine (HRF.out _ HR2.out).mono ?_; rintro e w3 ⟨fa, rfl, hp3, hr3, ho3⟩; have HE3 := Lib.hid (err_any hr3); have HL3 := Lib.hid (HRL.out _ hr3); have HR3 := Lib.hid hr3; have HP3 := Lib.hid hp3; have HO3 := Lib.hid (HO2.out.trans ho3); have hkp := (HP2.out.typed ho3 (fun k e => by subst e; exact ⟨_, HR2.out.ty, by decide⟩)).bytes.byte (i := 0) (by simp); obtain ⟨kad, rfl, hkc0⟩ := hkp; have hkc : w3.cell? kad = some (.int .u8 (xn : Int)) := (by rw [show kad.add 0 = kad by simp [Addr.add]] at hkc0; rw [hkc0, ← hXN]; rfl); clear hr3 ho3 hp3 hkc0))
        clear HLF HRW
        refine HE3.out.mono ?_
        rintro e w4 ⟨rfl, rfl⟩
        unfold rdE
        go_wp2_with (first
          | (at_builtin; refine wpList_append_own_at _ rfl _ _ 31 rfl 0 38 i1 _ 3 40 Try.underlying31 hi1 hy0 hy1 hy2 rfl (by omega) (.slice oa fs.length oc) fs.length (frCells fs) rfl (HRG.out _ _ HO3.out) ⟨w4.heap.size, 0, none⟩ 1 1 [.int .i64 (xn : Int), .slice fa fl fl, .int .i64 (o : Int)] rfl rfl (cells_three _ _ _ _ _) (by intro u hu; simp only [List.mem_cons, List.not_mem_nil, or_false] at hu; rcases hu with rfl | rfl | rfl <;> rfl) HU1.out HU2.out (Nat.zero_le _) ?_; intro v' w6 hown hgr hnil hat; obtain ⟨ga', gc', rfl⟩ := row_shape hown; have HNF := Lib.hid (HNX.out _ _ _ _ _ HP3.out HR3.out HO3.out hown hgr hat); have HL6 := Lib.hid (HRL.out _ HNF.out.rd); clear hown hgr hnil hat)
          | (go_at_call 19; refine HL6.out.mono ?_; rintro e w7 ⟨rfl, rfl⟩))
        exact ⟨⟨o + 1 + k, m - 1, t.drop k, _, by simp, HNF.out⟩, by have := HMS.out; simp [intOf]; omega⟩

end Go.Proofs.Ytlfbdhgppmmahaa
