/- The document's own Frames. Conditions: the row is short. -/
import Derived.Test.YtlfbdhgppmmahaaWiRefU
import Derived.Test.YtlfbdhgppmmahaaWiFrames
namespace Go.Proofs.Ytlfbdhgppmmahaa
open Go.RowKit

/-- What it keeps on its way. -/
structure Frq (w wr : World) (bs : List UInt8) (o : Nat) (ov : Value) (fs : List Fr) (m : Nat) : Prop where
  lst : Frs w wr ov fs
  rows : RowsU wr (fs.map (·.p.v)) (fs.map (·.p.b))
  cnt : fs.length + (bs.drop o).length ≤ bs.length
  pos : o ≤ bs.length
  fuel : (bs.drop o).length < m
  eq : Wi.frames (bs.length + 1) 0 bs = (fs.map frOf ++ (Wi.frames m o (bs.drop o)).1, (Wi.frames m o (bs.drop o)).2)

set_option maxRecDepth 100000 in
set_option maxHeartbeats 2000000 in
theorem r4frames_any {w : World} {v : Value} {bs : List UInt8} (hv : BytesAt w (fun k => k < w.heap.size) v bs) (hl : Short bs.length) :
    Calls Try.prog 10 #[v] w fun e w' => ∃ (a : Option Addr) (c : Nat) (fs : List Fr) (to' : Nat), e = .returned (.tuple #[.slice a fs.length c, .int .i64 (to' : Int)]) ∧ Wi.frames (bs.length + 1) 0 bs = (fs.map frOf, to') ∧ Frs w w' (.slice a fs.length c) fs ∧ RowsU w' (fs.map (·.p.v)) (fs.map (·.p.b)) := by
  obtain ⟨va, vc, rfl⟩ := hv.shape
  have HV := Lib.hid hv
  clear hv
  obtain ⟨i1, hi1, hy0, hy1, hy2⟩ := info_parts info_frame
  go_enter Try.func10, Try.ntmps10
  go_wp2
  go_loopw [4, 5] (fun ov bv wr => ∃ (o m : Nat) (fs : List Fr), bv = .int .i64 (o : Int) ∧ Frq w wr bs o ov fs m) (fun _ bv _ => bs.length - (intOf bv).toNat)
  case atStart => exact ⟨0, bs.length + 1, [], rfl, Frs.nil w w (Only.refl _ _), ⟨rfl, fun i hi => absurd hi (by simp)⟩, by simp, Nat.zero_le _, by simp, by simp⟩
  case round =>
    obtain ⟨o, m, fs, rfl, hu⟩ := hrel
    have hl' := hl.le
    have hpos := hu.pos
    have hcnt := hu.cnt
    obtain ⟨oa, oc, rfl⟩ := hu.lst.shape
    by_cases hlt : o < bs.length
    · have hlt' : (o : Int) < (bs.length : Int) := by omega
      have hcons : bs.drop o = bs.getD o 0 :: bs.drop (o + 1) := by
        rw [List.drop_eq_getElem_cons hlt]; simp [hlt]
      obtain ⟨na, hsl, hbd⟩ := HV.out.dropl (l := o + 1) (by omega)
      have hsl' : ∀ W : World, (Instr.slice 22 (.slice va bs.length vc) (some (.int .i64 ((o : Int) + 1))) none none).run Try.prog W = .ok (.slice na (bs.length - (o + 1)) (vc - (o + 1))) W := hsl
      have hbw := hbd.here hu.lst.only (fun _ h => h)
      have hdl : (bs.drop (o + 1)).length ≤ 1048576 := by simp; omega
      have HU := Lib.hid hu
      cases hf : Wi.field (bs.drop (o + 1)) with
      | none =>
        have HRF := Lib.hid (r4field_bad hbw (fun _ h => h) hdl hf)
        have HEQ : Hid (Wi.frames (bs.length + 1) 0 bs = (fs.map frOf, o)) := by
          have := hu.eq
          rw [hcons, Wi.frames_stop hf, List.append_nil] at this
          exact this
        clear hu hf hbw hbd hcons hsl
        go_wp2_with (go_at_call 23; refine HRF.out.mono ?_; rintro e w2 ⟨rfl, ho2⟩; have HL2 := Lib.hid (HU.out.lst.keep ho2); have HW2 := Lib.hid (HU.out.rows.typed ho2 (fun _ x => x.elim)); clear ho2)
        go_ret2
        exact ⟨oa, oc, fs, o, rfl, HEQ.out, HL2.out, HW2.out⟩
      | some q =>
        obtain ⟨f, k⟩ := q
        have hfs := Wi.field_some hf
        have hkl := hfs.le
        have hk0 := hfs.lt
        have hkl' : k ≤ bs.length - (o + 1) := by simpa using hkl
        have HRF := Lib.hid (r4field_ok hbw (fun _ h => h) hdl hf)
        have hm0 : 0 < m := by have := hu.fuel; omega
        have HEQ := Lib.hid (by
          have := hu.eq
          rw [hcons, Wi.frames_step hm0 hf] at this
          exact this)
        obtain ⟨ad, rfl, hc0⟩ := HV.out.byte (i := o) hlt
        have HCX : Hid (∀ W, Only (fun _ => False) w W → W.cell? (ad.add o) = some (.int .u8 ((bs.getD o 0).toNat : Int))) := fun W ho => by
          rw [World.cell?_of_block (w := w) (ho.block _ (World.block_lt_of_cell? w _ hc0) (fun x => x))]; exact hc0
        obtain ⟨x, hx⟩ : ∃ x, bs.getD o 0 = x := ⟨_, rfl⟩
        rw [hx] at HCX HEQ
        have HNX : Hid (∀ (w3 w5 : World) (a a' : Option Addr) (c c' : Nat), Row wr w3 (.slice a f.length c) f →
            w5.ownsRow 0 38 3 (.slice a' (fs.length + 1) c') (fs.length + 1) (frCells fs ++ [.int .i64 (x.toNat : Int), .slice a f.length c, .int .i64 (o : Int)]) → (w3.alloc (.cells #[.int .i64 (x.toNat : Int), .slice a f.length c, .int .i64 (o : Int)] 38)).grownBy w5 (Value.slice oa fs.length oc).ownBlock → ((Value.slice a' (fs.length + 1) c').ownBlock = (Value.slice oa fs.length oc).ownBlock ∨ (Value.slice a' (fs.length + 1) c').ownBlock = some (w3.alloc (.cells #[.int .i64 (x.toNat : Int), .slice a f.length c, .int .i64 (o : Int)] 38)).heap.size) →
            Frq w w5 bs (o + 1 + k) (.slice a' (fs.length + 1) c') (fs ++ [⟨x, ⟨.slice a f.length c, 0, f⟩, o⟩]) (m - 1)) := by
          intro w3 w5 a a' c c' hrw hrow hg hat
          have hL2 := HU.out.lst.keep hrw.only
          have hoA : Only (fun _ => False) w3 (w3.alloc (.cells #[.int .i64 (x.toNat : Int), .slice a f.length c, .int .i64 (o : Int)] 38)) := Only.alloc _
          have hLA := hL2.keep hoA
          have ho4 : Only (fun q => (Value.slice oa fs.length oc).ownBlock = some q) (w3.alloc (.cells #[.int .i64 (x.toNat : Int), .slice a f.length c, .int .i64 (o : Int)] 38)) w5 := (Only.of_grown hg).mono (fun q _ e => e.symm)
          have hT1 : ∀ q, (Value.slice oa fs.length oc).ownBlock = some q → ∃ t', TyAt (w3.alloc (.cells #[.int .i64 (x.toNat : Int), .slice a f.length c, .int .i64 (o : Int)] 38)) q t' ∧ t' ≠ 5 := fun q hq => ⟨_, hLA.ty hq, by decide⟩
          have hLf := hL2.app hoA (f := ⟨x, ⟨.slice a f.length c, 0, f⟩, o⟩) (a := a') (c := c') (by rw [frCells_snoc]; exact hrow) hg hat
          have hR2 := HU.out.rows.typed hrw.only (fun _ x => x.elim)
          have hdd : (bs.drop (o + 1)).drop k = bs.drop (o + 1 + k) := by rw [List.drop_drop]
          refine ⟨hLf, by rw [List.map_append, List.map_append]; exact (((hR2.snoc hrw.typed8).typed hoA (fun _ x => x.elim)).typed ho4 hT1), ?_, by omega, ?_, ?_⟩
          · have := HU.out.cnt
            simp only [List.length_append, List.length_cons, List.length_nil, List.length_drop] at this ⊢; omega
          · have := HU.out.fuel
            simp only [List.length_drop] at this ⊢; omega
          · rw [HEQ.out, hdd]; simp [frOf]
        have HRG : Hid (∀ (w3 : World) (y : Obj), Only (fun _ => False) wr w3 → (w3.alloc y).ownsRow 0 38 3 (.slice oa fs.length oc) fs.length (frCells fs)) := fun w3 y ho => ((HU.out.lst.keep ho).row).alloc y
        have HU1 : Hid (fs.length + 1 ≤ maxLen) := by unfold Hid maxLen; omega
        have HU2 : Hid ((fs.length + 1) * 40 ≤ 140737488355328) := by unfold Hid; omega
        have g0 : ¬ (k : Int) < 0 := by omega
        have hxl := x.toNat_lt
        have pz : 0 ≤ (o : Int) := by omega
        have HMS : Hid (bs.length - (o + 1 + k) < bs.length - o) := by unfold Hid; omega
        have HWO := Lib.hid hu.lst.only
        clear hu hf hfs HEQ hbw hbd hcons hsl hc0 hx
        generalize f.length = fl at *
        generalize x.toNat = xn at *
        go_wp2_with (first
          | (go_at_call 23; refine HRF.out.mono ?_; rintro e w3 ⟨fa, fc, rfl, hr3⟩; have hcx := HCX.out w3 (HWO.out.trans hr3.only); have HR3 := Lib.hid hr3; clear hr3)
          | (at_builtin; refine wpList_append_own_at _ rfl _ _ 31 rfl 0 38 i1 _ 3 40 Try.underlying31 hi1 hy0 hy1 hy2 rfl (by omega) (.slice oa fs.length oc) fs.length (frCells fs) rfl (HRG.out _ _ HR3.out.only) ⟨w3.heap.size, 0, none⟩ 1 1 [.int .i64 (xn : Int), .slice fa fl fc, .int .i64 (o : Int)] rfl rfl (cells_three _ _ _ _ _) (by intro u hu; simp only [List.mem_cons, List.not_mem_nil, or_false] at hu; rcases hu with rfl | rfl | rfl <;> rfl) HU1.out HU2.out (Nat.zero_le _) ?_; intro v' w6 hown hgr hnil hat; obtain ⟨ga', gc', rfl⟩ := row_shape hown; have HNF := Lib.hid (HNX.out _ _ _ _ _ _ HR3.out hown hgr hat); clear hown hgr hnil hat))
        exact ⟨⟨o + 1 + k, m - 1, _, by simp, HNF.out⟩, by have := HMS.out; simp [intOf]; omega⟩
    · have he : bs.drop o = [] := List.drop_eq_nil_of_le (by omega)
      have HEQ : Hid (Wi.frames (bs.length + 1) 0 bs = (fs.map frOf, o)) := by
        have := hu.eq
        rw [he, Wi.frames_nil, List.append_nil] at this
        exact this
      have HL := Lib.hid hu.lst; have HW := Lib.hid hu.rows
      clear hu he
      go_wp2
      go_ret2
      exact ⟨oa, oc, fs, o, rfl, HEQ.out, HL.out, HW.out⟩

end Go.Proofs.Ytlfbdhgppmmahaa
