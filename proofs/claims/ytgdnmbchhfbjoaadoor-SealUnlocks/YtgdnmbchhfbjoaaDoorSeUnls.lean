/- SealUnlocks: what is locked is unlocked. Conditions: rows within the reach. -/
import Derived.Test.YtgdnmbchhfbjoaaDoorSeApp
import Derived.Test.YtgdnmbchhfbjoaaDoorSeAlive
import Derived.Test.YtgdnmbchhfbjoaaDoorSeArgs
import Derived.Test.YtgdnmbchhfbjoaaDoorHSame
import Derived.BigQuiet
namespace Go.Proofs.YtgdnmbchhfbjoaaDoor
open Go.RowKit

namespace Se
theorem file_eq (pw salt m : List UInt8) : file pw salt m = amphora1 ++ (salt ++ blob (pass pw salt) 1 salt m) := by simp [file]
theorem file_len {pw salt m : List UInt8} (hs : salt.length = 16) (hm : m.length = 32) : (file pw salt m).length = 101 := by
  rw [file_eq]; simp [amphora1, hs, blob_len, hm]
theorem file_pre (pw salt m : List UInt8) : (file pw salt m).take 8 = amphora1 := by rw [file_eq]; rfl
theorem file_drop8 (pw salt m : List UInt8) : (file pw salt m).drop 8 = salt ++ blob (pass pw salt) 1 salt m := by rw [file_eq]; rfl
theorem file_salt {pw salt m : List UInt8} (hs : salt.length = 16) : saltIn (file pw salt m) = salt := by
  unfold saltIn
  rw [file_drop8, List.take_append_of_le_length (by omega), List.take_of_length_le (by omega)]
theorem file_blob {pw salt m : List UInt8} (hs : salt.length = 16) : (file pw salt m).drop 24 = blob (pass pw salt) 1 salt m := by
  rw [show 24 = 8 + 16 from rfl, ← List.drop_drop, file_drop8, List.drop_append_of_le_length (by omega), List.drop_of_length_le (by omega), List.nil_append]
/-- What is locked is unlocked. -/
theorem file_unl {pw salt m : List UInt8} (hs : salt.length = 16) (hm : m.length = 32) : Unl pw (file pw salt m) := ⟨file_len hs hm, file_pre pw salt m, by rw [file_salt hs, file_blob hs]; exact blob_takes _ _ _ _⟩
theorem file_master {pw salt m : List UInt8} (hs : salt.length = 16) : master pw (file pw salt m) = m := by
  unfold master
  rw [file_salt hs, file_blob hs, blob_plain]
end Se

/-- A Locked that was boxed in block g. -/
structure LBox (w : World) (g : Nat) (pw salt m : List UInt8) (vf : Value) : Prop where
  blk : Blk w g (locked5 pw salt m vf) 49
  hs : salt.length = 16
  hm : m.length = 32

theorem LBox.keep {w w' : World} {g : Nat} {pw salt m : List UInt8} {vf : Value} (h : LBox w g pw salt m vf) (ho : Only (fun _ => False) w w') : LBox w' g pw salt m vf := ⟨h.blk.keep ho (fun x => x), h.hs, h.hm⟩
theorem LBox.pw {w : World} {g : Nat} {pw salt m : List UInt8} {vf : Value} (h : LBox w g pw salt m vf) : w.cell? ⟨g, 0, none⟩ = some (textV pw) := by rw [h.blk.cell]; rfl
theorem LBox.salt {w : World} {g : Nat} {pw salt m : List UInt8} {vf : Value} (h : LBox w g pw salt m vf) : w.rangeAt g 1 (salt.map byteV) := h.blk.range fun j v hv => by
  have hj := (List.getElem?_eq_some_iff.1 hv).1
  unfold locked5
  rw [List.getElem?_append_right (by simp), show 1 + j - ([textV pw] : List Value).length = j by rw [List.length_singleton]; omega, List.getElem?_append_left hj]
  exact hv
theorem LBox.m {w : World} {g : Nat} {pw salt m : List UInt8} {vf : Value} (h : LBox w g pw salt m vf) : w.rangeAt g 17 (m.map byteV) := h.blk.range fun j v hv => by
  have hj := (List.getElem?_eq_some_iff.1 hv).1
  have hs := h.hs
  unfold locked5
  rw [List.getElem?_append_right (by simp; omega), show 17 + j - ([textV pw] : List Value).length = 16 + j by rw [List.length_singleton]; omega, List.getElem?_append_right (by simp; omega), show 16 + j - (salt.map byteV).length = j by rw [List.length_map]; omega, List.getElem?_append_left hj]
  exact hv
theorem LBox.file {w : World} {g : Nat} {pw salt m : List UInt8} {vf : Value} (h : LBox w g pw salt m vf) : w.cell? ⟨g, 49, none⟩ = some vf := by
  have hs := h.hs
  have hm := h.hm
  rw [h.blk.cell]
  unfold locked5
  rw [List.getElem?_append_right (by simp), show 49 - ([textV pw] : List Value).length = 48 by simp, List.getElem?_append_right (by simp; omega), show 48 - (salt.map byteV).length = 32 by rw [List.length_map]; omega, List.getElem?_append_right (by simp; omega), show 32 - (m.map byteV).length = 0 by rw [List.length_map]; omega]
  rfl

theorem eql_zero (W : World) : (Op.equalIn 10000 22 (.agg (Se.zero32.map byteV).toArray) (.agg #[.int .u8 0, .int .u8 0, .int .u8 0, .int .u8 0, .int .u8 0, .int .u8 0, .int .u8 0, .int .u8 0, .int .u8 0, .int .u8 0, .int .u8 0, .int .u8 0, .int .u8 0, .int .u8 0, .int .u8 0, .int .u8 0, .int .u8 0, .int .u8 0, .int .u8 0, .int .u8 0, .int .u8 0, .int .u8 0, .int .u8 0, .int .u8 0, .int .u8 0, .int .u8 0, .int .u8 0, .int .u8 0, .int .u8 0, .int .u8 0, .int .u8 0, .int .u8 0])).run Tryd.prog W = .ok true W := by
  have h := dig_same Se.zero32_len W
  unfold digV at h
  rwa [show (Se.zero32.map byteV).toArray = #[.int .u8 0, .int .u8 0, .int .u8 0, .int .u8 0, .int .u8 0, .int .u8 0, .int .u8 0, .int .u8 0, .int .u8 0, .int .u8 0, .int .u8 0, .int .u8 0, .int .u8 0, .int .u8 0, .int .u8 0, .int .u8 0, .int .u8 0, .int .u8 0, .int .u8 0, .int .u8 0, .int .u8 0, .int .u8 0, .int .u8 0, .int .u8 0, .int .u8 0, .int .u8 0, .int .u8 0, .int .u8 0, .int .u8 0, .int .u8 0, .int .u8 0, .int .u8 0] by kernel_rfl] at h ⊢

set_option maxRecDepth 100000 in
set_option maxHeartbeats 4000000 in
theorem sealUnlocks_any {w : World} {pw salt m file : List UInt8} {vf : Value} {cut : Int} (hs : salt.length = 16) (hm : m.length = 32) (hb : BytesAt w (fun k => k < w.heap.size) vf file) (_hl : file.length ≤ 140737488351232) (hpw : pw.length ≤ maxLen) (hcut : -9223372036854775808 ≤ cut ∧ cut < 9223372036854775808) (hf : Fst w) (ht : Tab w) :
    Calls Tryd.prog 7 #[.agg (locked5 pw salt m vf).toArray, .int .i64 cut] w fun e w' => e = .returned (.bool true) ∧ Only (fun _ => False) w w' := by
  obtain ⟨fa, fc, rfl⟩ := hb.shape
  have ho1 : Only (fun _ => False) w (w.alloc (.cells (locked5 pw salt m (.slice fa file.length fc)).toArray 49)) := Only.alloc _
  have hb1 : LBox (w.alloc (.cells (locked5 pw salt m (.slice fa file.length fc)).toArray 49)) w.heap.size pw salt m (.slice fa file.length fc) := ⟨Blk.new _ _ _, hs, hm⟩
  have HAL := Lib.hid (alive_any (hf.only ho1 (fun x => x)) (ht.only ho1 (fun x => x)))
  have HO1 := Lib.hid ho1; have HB1 := Lib.hid hb1; have HSL := Lib.hid hs; have HML := Lib.hid hm; have HFB := Lib.hid hb; have HF := Lib.hid hf; have HT := Lib.hid ht
  have hpl : (pw.length : Int) ≤ 9223372036854775807 := by unfold maxLen at hpw; omega
  clear ho1 hb1 hs hm hb hpw hf ht
  go_enter Tryd.func7, Tryd.ntmps7
  go_wp2_with fail
  refine HAL.out.mono ?_
  rintro e w2 ⟨rfl, ho2⟩
  have HO2 := Lib.hid (HO1.out.trans ho2); have HB2 := Lib.hid (HB1.out.keep ho2)
  clear ho2 HAL HO1 HB1
  have c0 := HB2.out.pw
  have HR1 := Lib.hid HB2.out.salt; have HR2 := Lib.hid HB2.out.m
  unfold textV at c0
  by_cases hg : Se.good pw = true
  · have hgl := of_decide_eq_true hg
    have g0 : ¬ (pw.length : Int) < 1 := by omega
    have g1 : ¬ (pw.length : Int) > 1024 := by omega
    have HLK := Lib.hid (lock_any (w := w2) hg HSL.out HML.out (HF.out.only HO2.out (fun x => x)) (HT.out.only HO2.out (fun x => x)))
    have HUA := Lib.hid (fun (W : World) (v : Value) (f : List UInt8) (hb : BytesAt W (fun k => k < W.heap.size) v f) (ho : Only (fun _ => False) w W) => unlock_any (w := W) (vf := v) (f := f) hg hb (fun _ h => h) (HF.out.only ho (fun x => x)) (HT.out.only ho (fun x => x)))
    clear hg hgl
    go_wp2_with (first
      | (refine wpList_load_mid rfl 47 (.tmp 16) rfl w.heap.size 1 rfl (salt.map byteV) _ HR1.out Tryd.underlying47 rfl (by simpa using size_a16 HSL.out) ?_)
      | (refine wpList_load_mid rfl 22 (.tmp 18) rfl w.heap.size 17 rfl (m.map byteV) _ HR2.out Tryd.underlying22 rfl (by simpa using size_a32 HML.out) ?_))
    refine HLK.out.mono ?_
    rintro e w3 ⟨ba, bc, rfl, hr3⟩
    have HUN := Lib.hid (Se.file_unl (pw := pw) HSL.out HML.out); have HMS := Lib.hid (Se.file_master (pw := pw) (m := m) HSL.out); have HFL := Lib.hid (Se.file_len (pw := pw) HSL.out HML.out)
    generalize Se.file pw salt m = B at *
    have HR3 := Lib.hid hr3
    have HO3 := Lib.hid (HO2.out.trans hr3.only); have HB3 := Lib.hid (HB2.out.keep hr3.only)
    clear hr3 HLK HO2 HB2 HR1 HR2 c0
    have c0 := HB3.out.pw
    have HBY3 := Lib.hid HR3.out.bytes
    rw [HFL.out] at HBY3
    rw [HFL.out]
    unfold textV at c0
    go_wp2_with fail
    refine (HUA.out _ _ _ HBY3.out HO3.out).mono ?_
    rintro e w4 (⟨_, rfl, ho4⟩ | ⟨hn, _⟩)
    case inr => exact (hn HUN.out).elim
    rw [HMS.out]
    have ho5 : Only (fun _ => False) w4 (w4.alloc (.cells (m.map byteV).toArray 22)) := Only.alloc _
    have hb5 := Blk.new w4 (m.map byteV) 22
    have HO5 := Lib.hid ((HO3.out.trans ho4).trans ho5); have HB5 := Lib.hid ((HB3.out.keep ho4).keep ho5); have HM5 := Lib.hid hb5; have HBY5 := Lib.hid ((HBY3.out.here ho4 (fun _ h => h)).here ho5 (fun _ h => h))
    have HW4' : Hid (w.heap.size ≤ w4.heap.size) := (HO3.out.trans ho4).size
    clear ho4 ho5 hb5 HUN HMS HO3 HB3 HBY3 HR3 c0
    generalize hw5 : w4.alloc (.cells (m.map byteV).toArray 22) = w5 at *
    have HX1 := Lib.hid HM5.out.all; have HX2 := Lib.hid HB5.out.m
    have hgd := dig_guard2
    have hneq := dig_neq HML.out
    unfold digV at hgd hneq
    have hz5 : (w4.heap.size : Nat) = w4.heap.size := rfl
    have hB := HBY5.out
    have HW4 : Hid (w.heap.size ≤ w4.heap.size) := HW4'.out
    have HZL := Lib.hid Se.zero32_len
    by_cases hin : 0 ≤ cut ∧ cut < 101
    · obtain ⟨n, rfl⟩ := Int.eq_ofNat_of_zero_le hin.1
      have n0 : (0 : Int) ≤ (n : Int) := by omega
      have n1 : (n : Int) < 101 := hin.2
      go_wp2_with (first
        | (refine wpList_store_row rfl 22 (.tmp 9) (.tmp 59) rfl w4.heap.size (m.map byteV).toArray rfl rfl 22 (ocells 32 []).toArray (heap_alloc_last _ _) (size_a32 HML.out) (by simp [ocells, HML.out]) (oneCell_bytes _) ?_; rw [World.setRow_alloc_new, hw5])
        | (refine wpList_wanted rfl (fun K hK => wp_load_mid 22 (.tmp 9) rfl w4.heap.size 0 rfl (m.map byteV) _ HX1.out Tryd.underlying22 rfl (by simpa using size_a32 HML.out) (hK _ _ ?_)))
        | (refine wpList_wanted rfl (fun K hK => wp_load_mid 22 (.tmp 69) rfl w.heap.size 17 rfl (m.map byteV) _ HX2.out Tryd.underlying22 rfl (by simpa using size_a32 HML.out) (hK _ _ ?_))))
      clear hgd hneq HX1 HX2 hw5 hz5
      refine wp_region_any (by kernel_rfl) ?_
      change wpAny _ _ _ _ 11 (Array.replicate 11 false) _ w5.drew
      have HO6 := Lib.hid (HO5.out.trans Only.drew); have HB6 := Lib.hid (HB5.out.keep Only.drew); have HM6 := Lib.hid HM5.out.drew; have HBY6 := Lib.hid (HBY5.out.here Only.drew (fun _ h => h))
      clear HO5 HB5 HM5 HBY5 hB
      generalize w5.drew = w6 at *
      have hBY := HBY6.out
      rw [← HFL.out] at hBY
      obtain ⟨hpre, hcap⟩ := pre_at hBY (k := n) (by rw [HFL.out]; omega)
      have hsl : ∀ W : World, (Instr.slice 23 (.slice ba 101 bc) none (some (.int .i64 (n : Int))) none).run Tryd.prog W = .ok (.slice ba n bc) W := fun W => slice_h (m := n) hcap W
      have HUC := Lib.hid (HUA.out _ _ _ hpre HO6.out)
      have HNU : Hid (¬ Se.Unl pw (B.take n)) := fun h => by
        have h1 := h.1
        rw [List.length_take, HFL.out] at h1
        omega
      have c0 := HB6.out.pw
      unfold textV at c0
      clear hBY hpre hcap HBY6
      refine wpAny_take (i := 0) (v := .pointer (some ⟨w.heap.size, 0, none⟩)) rfl (by kernel_rfl) (by kernel_rfl) (by kernel_rfl) (fun _ _ _ h => h) (Or.inl ⟨by rfl, fun w => by go_simp⟩) ?_
      simp only [Act.put, List.getElem_toArray, List.getElem_cons_zero, List.setIfInBounds_toArray, List.set_cons_zero, List.set_cons_succ]
      refine wpAny_take (i := 2) (v := .slice ba 101 bc) rfl (by kernel_rfl) (by kernel_rfl) (by kernel_rfl) (fun _ _ _ h => h) (Or.inl ⟨by rfl, fun w => by go_simp⟩) ?_
      simp only [Act.put, List.getElem_toArray, List.getElem_cons_succ, List.getElem_cons_zero, List.setIfInBounds_toArray, List.set_cons_zero, List.set_cons_succ]
      refine wpAny_take (i := 3) (v := .int .i64 (n : Int)) rfl (by kernel_rfl) (by kernel_rfl) (by kernel_rfl) (fun _ _ _ h => h) (Or.inl ⟨by rfl, fun w => by go_simp⟩) ?_
      simp only [Act.put, List.getElem_toArray, List.getElem_cons_succ, List.getElem_cons_zero, List.setIfInBounds_toArray, List.set_cons_zero, List.set_cons_succ]
      refine wpAny_take (i := 4) (v := .slice ba n bc) rfl (by kernel_rfl) (by kernel_rfl) (by kernel_rfl) (fun _ _ _ h => h) (Or.inl ⟨by rfl, fun w => by go_simp⟩) ?_
      simp only [Act.put, List.getElem_toArray, List.getElem_cons_succ, List.getElem_cons_zero, List.setIfInBounds_toArray, List.set_cons_zero, List.set_cons_succ]
      refine wpAny_ready (rs := [1]) (by kernel_rfl) (by simp) (AllReady.cons rfl (fun J hJ => ?_) AllReady.nil)
      go_simp
      refine hJ _ _ ?_
      clear hJ J c0 hsl
      refine wpAny_ready (rs := [5]) (by kernel_rfl) (by simp) (AllReady.cons rfl (fun J hJ => ?_) AllReady.nil)
      go_simp
      refine HUC.out.mono ?_
      rintro e w7 (⟨hn, _⟩ | ⟨_, rfl, ho7⟩)
      case inl => exact (HNU.out hn).elim
      refine hJ _ _ ?_
      clear hJ J HUC HNU
      have HO7 := Lib.hid (HO6.out.trans ho7); have HM7 := Lib.hid (HM6.out.keep ho7 (fun x => x))
      clear ho7 HO6 HB6 HM6
      refine wpAny_take (i := 6) (v := .tuple #[digV Se.zero32, .iface 45 (.int .i64 10)]) rfl (by kernel_rfl) (by kernel_rfl) (by kernel_rfl) (fun _ _ _ h => h) (Or.inl ⟨by rfl, fun w => by go_simp⟩) ?_
      simp only [Act.put, List.getElem_toArray, List.getElem_cons_succ, List.getElem_cons_zero, List.setIfInBounds_toArray, List.set_cons_zero, List.set_cons_succ]
      refine wpAny_take (i := 7) (v := digV Se.zero32) rfl (by kernel_rfl) (by kernel_rfl) (by kernel_rfl) (fun _ _ _ h => h) (Or.inl ⟨by rfl, fun w => by go_simp⟩) ?_
      simp only [Act.put, List.getElem_toArray, List.getElem_cons_succ, List.getElem_cons_zero, List.setIfInBounds_toArray, List.set_cons_zero, List.set_cons_succ]
      refine wpAny_take (i := 8) (v := .iface 45 (.int .i64 10)) rfl (by kernel_rfl) (by kernel_rfl) (by kernel_rfl) (fun _ _ _ h => h) (Or.inl ⟨by rfl, fun w => by go_simp⟩) ?_
      simp only [Act.put, List.getElem_toArray, List.getElem_cons_succ, List.getElem_cons_zero, List.setIfInBounds_toArray, List.set_cons_zero, List.set_cons_succ]
      refine wpAny_ready (rs := [9]) (by kernel_rfl) (by simp) (AllReady.cons rfl (fun J hJ => ?_) AllReady.nil)
      refine step_store_row (by rfl) 22 (.tmp 9) (.tmp 93) rfl w4.heap.size (Se.zero32.map byteV).toArray rfl rfl 22 (m.map byteV).toArray HM7.out.heap (size_a32 Se.zero32_len) (by simp [HML.out, Se.zero32]) (oneCell_bytes _) ?_
      refine hJ _ _ ?_
      clear hJ J
      refine wpAny_take (i := 10) (v := .iface 45 (.int .i64 10)) rfl (by kernel_rfl) (by kernel_rfl) (by kernel_rfl) (fun _ _ _ h => h) (Or.inl ⟨by rfl, fun w => by go_simp⟩) ?_
      simp only [Act.put, List.getElem_toArray, List.getElem_cons_succ, List.getElem_cons_zero, List.setIfInBounds_toArray, List.set_cons_zero, List.set_cons_succ]
      refine wpAny_done (by kernel_rfl) ?_ _
      have hb8 := HM7.out.row (Se.zero32.map byteV)
      have HO8 : Hid (Only (fun _ => False) w (w7.setRow w4.heap.size (Se.zero32.map byteV).toArray)) := HO7.out.andThen (Only.setRow _ _) (fun k hk e => by have := HW4.out; omega)
      have HX := Lib.hid hb8.all
      generalize w7.setRow w4.heap.size (Se.zero32.map byteV).toArray = w8 at *
      have heq : ∀ W, (binOp .eql 42 (.iface 45 (.int .i64 10)) (.iface 45 (.int .i64 10))).run Tryd.prog W = .ok (.bool true) W := fun W => by kernel_rfl
      have hgd := dig_guard2
      have heql := eql_zero
      unfold digV at hgd
      clear hb8 HM7 HO7
      generalize Se.zero32 = Z32 at *
      go_wp2_with (first
        | (refine wpList_wanted rfl (fun K hK => wp_load_mid 22 (.tmp 9) rfl w4.heap.size 0 rfl (Z32.map byteV) _ HX.out Tryd.underlying22 rfl (by simpa using size_a32 HZL.out) (hK _ _ ?_)))
        | fail)
      go_ret
      exact ⟨rfl, HO8.out⟩
    · have HNC : Hid (cut < 0 ∨ 101 ≤ cut) := by unfold Hid; omega
      clear hin
      rcases HNC.out with h1 | h1
      · have n0 : ¬ cut ≥ 0 := by omega
        clear h1 HNC
        go_wp2_with (first
          | (refine wpList_store_row rfl 22 (.tmp 9) (.tmp 59) rfl w4.heap.size (m.map byteV).toArray rfl rfl 22 (ocells 32 []).toArray (heap_alloc_last _ _) (size_a32 HML.out) (by simp [ocells, HML.out]) (oneCell_bytes _) ?_; rw [World.setRow_alloc_new, hw5])
          | (refine wpList_wanted rfl (fun K hK => wp_load_mid 22 (.tmp 9) rfl w4.heap.size 0 rfl (m.map byteV) _ HX1.out Tryd.underlying22 rfl (by simpa using size_a32 HML.out) (hK _ _ ?_)))
          | (refine wpList_wanted rfl (fun K hK => wp_load_mid 22 (.tmp 69) rfl w.heap.size 17 rfl (m.map byteV) _ HX2.out Tryd.underlying22 rfl (by simpa using size_a32 HML.out) (hK _ _ ?_))))
        clear hgd hneq HX1 HX2 hw5 hz5 hB
        refine wp_region_any (by kernel_rfl) ?_
        change wpAny _ _ appOps _ 12 (Array.replicate 12 false) _ w5.drew
        have HO6 := Lib.hid (HO5.out.trans Only.drew); have HB6 := Lib.hid (HB5.out.keep Only.drew); have HBY6 := Lib.hid (HBY5.out.here Only.drew (fun _ h => h))
        clear HO5 HB5 HM5 HBY5
        generalize w5.drew = w6 at *
        refine wpAny_take (i := 0) (v := .pointer (some ⟨w.heap.size, 0, none⟩)) app0 (by kernel_rfl) (by kernel_rfl) (by kernel_rfl) (fun _ _ _ h => h) (Or.inl ⟨by rfl, fun w => by go_simp⟩) ?_
        simp only [Act.put, List.setIfInBounds_toArray, List.set_cons_zero, List.set_cons_succ]
        refine wpAny_take (i := 3) (v := .slice ba 101 bc) app3 (by kernel_rfl) (by kernel_rfl) (by kernel_rfl) (fun _ _ _ h => h) (Or.inl ⟨by rfl, fun w => by go_simp⟩) ?_
        simp only [Act.put, List.setIfInBounds_toArray, List.set_cons_zero, List.set_cons_succ]
        refine app_as (L := appL 0 0 0 0) (by kernel_rfl) ?_
        refine app_region HB6.out.pw HB6.out.blk.lt HBY6.out (by rw [HFL.out]; decide) HFL.out ?_ 5 0 0 0 0 (by omega) (by omega) (by omega) (by omega) (fun e => by omega) rfl _ _ _ _ _ _ (Only.refl _ _) ⟨fun e => by omega, fun e => by omega, fun _ e => by omega, fun _ e => by omega, fun e => by omega⟩
        intro x105 x106 x108 x109 x110 w7 ho7 hx hr7
        subst hx
        obtain ⟨B1, hB1⟩ : ∃ q, q = B ++ [0] := ⟨_, rfl⟩
        rw [← hB1] at hr7
        obtain ⟨ra, rc, rfl⟩ := hr7.shape
        have HUC := Lib.hid (HUA.out _ _ _ hr7.bytes (HO6.out.trans ho7))
        have HNU : Hid (¬ Se.Unl pw B1) := fun h => by
          have h1 := h.1
          rw [hB1, List.length_append, HFL.out] at h1
          simp at h1
        have HO7 := Lib.hid (HO6.out.trans ho7)
        clear ho7 hr7 hB1 HO6 HB6 HBY6
        refine wpAny_ready (rs := [7]) (by kernel_rfl) (by simp) (AllReady.cons app7 (fun J hJ => ?_) AllReady.nil)
        go_simp
        refine HUC.out.mono ?_
        rintro e w8 (⟨hn, _⟩ | ⟨_, rfl, ho8⟩)
        case inl => exact (HNU.out hn).elim
        refine hJ _ _ ?_
        clear hJ J HUC HNU
        have HO8 := Lib.hid (HO7.out.trans ho8)
        clear ho8 HO7
        refine wpAny_take (i := 8) (v := .tuple #[digV Se.zero32, .iface 45 (.int .i64 10)]) app8 (by kernel_rfl) (by kernel_rfl) (by kernel_rfl) (fun _ _ _ h => h) (Or.inl ⟨by rfl, fun w => by go_simp⟩) ?_
        simp only [Act.put, List.setIfInBounds_toArray, List.set_cons_zero, List.set_cons_succ]
        refine wpAny_take (i := 9) (v := digV Se.zero32) app9 (by kernel_rfl) (by kernel_rfl) (by kernel_rfl) (fun _ _ _ h => h) (Or.inl ⟨by rfl, fun w => by go_simp⟩) ?_
        simp only [Act.put, List.setIfInBounds_toArray, List.set_cons_zero, List.set_cons_succ]
        refine wpAny_take (i := 10) (v := .iface 45 (.int .i64 10)) app10 (by kernel_rfl) (by kernel_rfl) (by kernel_rfl) (fun _ _ _ h => h) (Or.inl ⟨by rfl, fun w => by go_simp⟩) ?_
        simp only [Act.put, List.setIfInBounds_toArray, List.set_cons_zero, List.set_cons_succ]
        refine wpAny_take (i := 11) (v := .iface 45 (.int .i64 10)) app11 (by kernel_rfl) (by kernel_rfl) (by kernel_rfl) (fun _ _ _ h => h) (Or.inl ⟨by rfl, fun w => by go_simp⟩) ?_
        simp only [Act.put, List.setIfInBounds_toArray, List.set_cons_zero, List.set_cons_succ]
        refine wpAny_done (by kernel_rfl) ?_ _
        have heq : ∀ W, (binOp .eql 42 (.iface 45 (.int .i64 10)) (.iface 45 (.int .i64 10))).run Tryd.prog W = .ok (.bool true) W := fun W => by kernel_rfl
        go_wp2_with fail
        go_ret
        exact ⟨rfl, HO8.out⟩
      · have n0 : (0 : Int) ≤ cut := by omega
        have n1 : ¬ cut < 101 := by omega
        clear h1 HNC
        go_wp2_with (first
          | (refine wpList_store_row rfl 22 (.tmp 9) (.tmp 59) rfl w4.heap.size (m.map byteV).toArray rfl rfl 22 (ocells 32 []).toArray (heap_alloc_last _ _) (size_a32 HML.out) (by simp [ocells, HML.out]) (oneCell_bytes _) ?_; rw [World.setRow_alloc_new, hw5])
          | (refine wpList_wanted rfl (fun K hK => wp_load_mid 22 (.tmp 9) rfl w4.heap.size 0 rfl (m.map byteV) _ HX1.out Tryd.underlying22 rfl (by simpa using size_a32 HML.out) (hK _ _ ?_)))
          | (refine wpList_wanted rfl (fun K hK => wp_load_mid 22 (.tmp 69) rfl w.heap.size 17 rfl (m.map byteV) _ HX2.out Tryd.underlying22 rfl (by simpa using size_a32 HML.out) (hK _ _ ?_))))
        clear hgd hneq HX1 HX2 hw5 hz5 hB
        refine wp_region_any (by kernel_rfl) ?_
        change wpAny _ _ appOps _ 12 (Array.replicate 12 false) _ w5.drew
        have HO6 := Lib.hid (HO5.out.trans Only.drew); have HB6 := Lib.hid (HB5.out.keep Only.drew); have HBY6 := Lib.hid (HBY5.out.here Only.drew (fun _ h => h))
        clear HO5 HB5 HM5 HBY5
        generalize w5.drew = w6 at *
        refine wpAny_take (i := 0) (v := .pointer (some ⟨w.heap.size, 0, none⟩)) app0 (by kernel_rfl) (by kernel_rfl) (by kernel_rfl) (fun _ _ _ h => h) (Or.inl ⟨by rfl, fun w => by go_simp⟩) ?_
        simp only [Act.put, List.setIfInBounds_toArray, List.set_cons_zero, List.set_cons_succ]
        refine wpAny_take (i := 3) (v := .slice ba 101 bc) app3 (by kernel_rfl) (by kernel_rfl) (by kernel_rfl) (fun _ _ _ h => h) (Or.inl ⟨by rfl, fun w => by go_simp⟩) ?_
        simp only [Act.put, List.setIfInBounds_toArray, List.set_cons_zero, List.set_cons_succ]
        refine app_as (L := appL 0 0 0 0) (by kernel_rfl) ?_
        refine app_region HB6.out.pw HB6.out.blk.lt HBY6.out (by rw [HFL.out]; decide) HFL.out ?_ 5 0 0 0 0 (by omega) (by omega) (by omega) (by omega) (fun e => by omega) rfl _ _ _ _ _ _ (Only.refl _ _) ⟨fun e => by omega, fun e => by omega, fun _ e => by omega, fun _ e => by omega, fun e => by omega⟩
        intro x105 x106 x108 x109 x110 w7 ho7 hx hr7
        subst hx
        obtain ⟨B1, hB1⟩ : ∃ q, q = B ++ [0] := ⟨_, rfl⟩
        rw [← hB1] at hr7
        obtain ⟨ra, rc, rfl⟩ := hr7.shape
        have HUC := Lib.hid (HUA.out _ _ _ hr7.bytes (HO6.out.trans ho7))
        have HNU : Hid (¬ Se.Unl pw B1) := fun h => by
          have h1 := h.1
          rw [hB1, List.length_append, HFL.out] at h1
          simp at h1
        have HO7 := Lib.hid (HO6.out.trans ho7)
        clear ho7 hr7 hB1 HO6 HB6 HBY6
        refine wpAny_ready (rs := [7]) (by kernel_rfl) (by simp) (AllReady.cons app7 (fun J hJ => ?_) AllReady.nil)
        go_simp
        refine HUC.out.mono ?_
        rintro e w8 (⟨hn, _⟩ | ⟨_, rfl, ho8⟩)
        case inl => exact (HNU.out hn).elim
        refine hJ _ _ ?_
        clear hJ J HUC HNU
        have HO8 := Lib.hid (HO7.out.trans ho8)
        clear ho8 HO7
        refine wpAny_take (i := 8) (v := .tuple #[digV Se.zero32, .iface 45 (.int .i64 10)]) app8 (by kernel_rfl) (by kernel_rfl) (by kernel_rfl) (fun _ _ _ h => h) (Or.inl ⟨by rfl, fun w => by go_simp⟩) ?_
        simp only [Act.put, List.setIfInBounds_toArray, List.set_cons_zero, List.set_cons_succ]
        refine wpAny_take (i := 9) (v := digV Se.zero32) app9 (by kernel_rfl) (by kernel_rfl) (by kernel_rfl) (fun _ _ _ h => h) (Or.inl ⟨by rfl, fun w => by go_simp⟩) ?_
        simp only [Act.put, List.setIfInBounds_toArray, List.set_cons_zero, List.set_cons_succ]
        refine wpAny_take (i := 10) (v := .iface 45 (.int .i64 10)) app10 (by kernel_rfl) (by kernel_rfl) (by kernel_rfl) (fun _ _ _ h => h) (Or.inl ⟨by rfl, fun w => by go_simp⟩) ?_
        simp only [Act.put, List.setIfInBounds_toArray, List.set_cons_zero, List.set_cons_succ]
        refine wpAny_take (i := 11) (v := .iface 45 (.int .i64 10)) app11 (by kernel_rfl) (by kernel_rfl) (by kernel_rfl) (fun _ _ _ h => h) (Or.inl ⟨by rfl, fun w => by go_simp⟩) ?_
        simp only [Act.put, List.setIfInBounds_toArray, List.set_cons_zero, List.set_cons_succ]
        refine wpAny_done (by kernel_rfl) ?_ _
        have heq : ∀ W, (binOp .eql 42 (.iface 45 (.int .i64 10)) (.iface 45 (.int .i64 10))).run Tryd.prog W = .ok (.bool true) W := fun W => by kernel_rfl
        go_wp2_with fail
        go_ret
        exact ⟨rfl, HO8.out⟩
  · have hg' : Se.good pw = false := by simpa using hg
    have HLK := Lib.hid (lock_bad (w := w2) (salt := salt) (m := m) hg')
    have hor : pw.length < 1 ∨ 1024 < pw.length := by
      have := of_decide_eq_false hg'
      omega
    have HUB := Lib.hid (fun W => unlock_bad (w := W) (vf := .slice fa file.length fc) hg')
    have heq : ∀ W, (binOp .eql 42 (.iface 45 (.int .i64 28)) (.iface 45 (.int .i64 28))).run Tryd.prog W = .ok (.bool true) W := fun W => by kernel_rfl
    have HZ32 : Hid ((Tryd.prog.info? 22).map (·.size) = some (Se.zero32.map byteV).toArray.size) := size_a32 Se.zero32_len
    clear hg hg'
    go_wp2_with (first
      | (refine wpList_load_mid rfl 47 (.tmp 16) rfl w.heap.size 1 rfl (salt.map byteV) _ HR1.out Tryd.underlying47 rfl (by simpa using size_a16 HSL.out) ?_)
      | (refine wpList_load_mid rfl 22 (.tmp 18) rfl w.heap.size 17 rfl (m.map byteV) _ HR2.out Tryd.underlying22 rfl (by simpa using size_a32 HML.out) ?_))
    refine HLK.out.mono ?_
    rintro e w3 ⟨rfl, ho3⟩
    have HO3 := Lib.hid (HO2.out.trans ho3); have HB3 := Lib.hid (HB2.out.keep ho3)
    clear ho3 HLK HO2 HB2 HR1 HR2 c0
    have c0 := HB3.out.pw
    have c49 := HB3.out.file
    unfold textV at c0
    have HST : Hid (∀ W : World, (W.alloc (.cells (ocells 32 []).toArray 22)).heap[W.heap.size]? = some (.cells (ocells 32 []).toArray 22 (0, 0))) := fun W => heap_alloc_last _ _
    rcases hor with h1 | h1
    · have g1 : (pw.length : Int) < 1 := by omega
      go_wp2_with fail
      refine (HUB.out _).mono ?_
      rintro e w4 ⟨rfl, ho4⟩
      have HO4 := Lib.hid (HO3.out.trans ho4)
      clear ho4 HUB HO3 HB3 c0 c49
      go_wp2_with (refine wpList_store_row rfl 22 (.tmp 7) (.tmp 39) rfl w4.heap.size (Se.zero32.map byteV).toArray rfl rfl 22 (ocells 32 []).toArray (HST.out _) HZ32.out (by simp [ocells, Se.zero32]) (oneCell_bytes _) ?_; rw [World.setRow_alloc_new])
      go_ret
      exact ⟨rfl, HO4.out.trans (Only.alloc _)⟩
    · have g0 : ¬ (pw.length : Int) < 1 := by omega
      have g1 : (pw.length : Int) > 1024 := by omega
      go_wp2_with fail
      refine (HUB.out _).mono ?_
      rintro e w4 ⟨rfl, ho4⟩
      have HO4 := Lib.hid (HO3.out.trans ho4)
      clear ho4 HUB HO3 HB3 c0 c49
      go_wp2_with (refine wpList_store_row rfl 22 (.tmp 7) (.tmp 39) rfl w4.heap.size (Se.zero32.map byteV).toArray rfl rfl 22 (ocells 32 []).toArray (HST.out _) HZ32.out (by simp [ocells, Se.zero32]) (oneCell_bytes _) ?_; rw [World.setRow_alloc_new])
      go_ret
      exact ⟨rfl, HO4.out.trans (Only.alloc _)⟩

end Go.Proofs.YtgdnmbchhfbjoaaDoor
