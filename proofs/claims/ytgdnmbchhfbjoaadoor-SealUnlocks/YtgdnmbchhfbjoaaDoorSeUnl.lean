/- Unlock. Conditions: few bytes. -/
import Derived.Test.YtgdnmbchhfbjoaaDoorSeOpen
import Derived.Test.YtgdnmbchhfbjoaaDoorSeLock
namespace Go.Proofs.YtgdnmbchhfbjoaaDoor
open Go.RowKit

namespace Se
def zero32 : List UInt8 := List.replicate 32 0
/-- Which files are unlocked. -/
def saltIn (f : List UInt8) : List UInt8 := (f.drop 8).take 16
def Unl (pw f : List UInt8) : Prop := f.length = 101 ∧ f.take 8 = amphora1 ∧ Takes (pass pw (saltIn f)) 1 (saltIn f) (f.drop 24)
def master (pw f : List UInt8) : List UInt8 := plain (pass pw (saltIn f)) (f.drop 24)
theorem salt_len {f : List UInt8} (h : f.length = 101) : (saltIn f).length = 16 := by simp [saltIn, h]
theorem master_len {pw f : List UInt8} (h : f.length = 101) : (master pw f).length = 32 := by
  unfold master plain body bodyIn
  rw [Ch.xor_length]
  simp [h]
theorem zero32_len : zero32.length = 32 := by simp [zero32]
theorem zero32_cells : zero32.map byteV = ocells 32 [] := by simp [zero32, ocells]
end Se

theorem results_row_tmp {fn : Func} {p u : Tmp} {ty : TypeId} (h : fn.results = #[.cell p ty, .tmp u]) (tmps : Array Value) (w : World) (g : Nat) (cs : List Value) (d : TypeDesc) (v : Value)
    (hp : tmps.getD p undef = .pointer (some ⟨g, 0, none⟩)) (hv : tmps.getD u undef = v) (hg : w.rangeAt g 0 cs) (hu : Tryd.prog.underlying ty = some d) (hd : d.isRow = true) (hi : (Tryd.prog.info? ty).map (·.size) = some cs.length) :
    (results fn tmps).run Tryd.prog w = .ok (.tuple #[.agg cs.toArray, v]) w := by
  have hp' : tmps[p]?.getD undef = .pointer (some ⟨g, 0, none⟩) := by simpa using hp
  have hv' : tmps[u]?.getD undef = v := by simpa using hv
  simp [results, h, hp', hv', asAddr, run_loadVar_mid w g 0 ty cs d hg hu hd hi]

theorem built_z32 : Tryd.prog.built 22 [] = some (ocells 32 []).toArray := by kernel_rfl
theorem size_z32 : (Tryd.prog.info? 22).map (·.size) = some (ocells 32 []).toArray.size := by kernel_rfl
theorem one_z32 : (ocells 32 []).toArray.all (·.oneCell') = true := by kernel_rfl
theorem Blk.zall {w : World} {g : Nat} {t : TypeId} (h : Blk w g (ocells 32 []) t) : w.rangeAt g 0 (ocells 32 []) := h.range fun j v hv => by rw [Nat.zero_add]; exact hv

theorem pre_at {w : World} {S : Nat → Prop} {a : Option Addr} {c k : Nat} {bs : List UInt8} (h : BytesAt w S (.slice a bs.length c) bs) (hk : k ≤ bs.length) : BytesAt w S (.slice a k c) (bs.take k) ∧ k ≤ c := by
  have hl : (bs.take k).length = k := by rw [List.length_take]; omega
  rcases h with ⟨e, rfl⟩ | ⟨ad, c', e, hc, h2, h3⟩
  · obtain ⟨rfl, _, rfl⟩ := Value.slice.inj e
    have h0 : k = 0 := by simpa using hk
    subst h0
    exact ⟨.inl ⟨rfl, rfl⟩, Nat.le_refl _⟩
  · obtain ⟨rfl, _, rfl⟩ := Value.slice.inj e
    refine ⟨.inr ⟨ad, c, by rw [hl], by omega, fun hne => h2 (by rintro rfl; simp at hne), fun j x hx => ?_⟩, by omega⟩
    rw [List.getElem?_take] at hx
    split at hx
    · exact h3 j x hx
    · cases hx

set_option maxRecDepth 100000 in
set_option maxHeartbeats 1000000 in
theorem unlock_bad {w : World} {pw : List UInt8} {vf : Value} (hg : Se.good pw = false) :
    Calls Tryd.prog 23 #[textV pw, vf] w fun e w' => e = .returned (.tuple #[digV Se.zero32, .iface 45 (.int .i64 28)]) ∧ Only (fun _ => False) w w' := by
  have HM := Lib.hid (fun W => may_any (w := W) (pw := pw))
  rw [hg] at HM
  have hb : Blk (w.alloc (.cells (ocells 32 []).toArray 22)) w.heap.size (ocells 32 []) 22 := Blk.new _ _ _
  have HB := Lib.hid hb; have HBU := Lib.hid built_z32; have HSZ := Lib.hid size_z32; have HON := Lib.hid one_z32
  have HO : Hid (Only (fun _ => False) w (w.alloc (.cells (ocells 32 []).toArray 22))) := Only.alloc _
  clear hg hb
  go_enter Tryd.func23, Tryd.ntmps23
  go_wp2_with fail
  refine (HM.out _).mono ?_
  rintro e w1 ⟨rfl, rfl⟩
  go_wp2_with (first
    | (refine wpList_build_as rfl 22 _ rfl [] rfl _ HBU.out ?_)
    | (refine wpList_store_row rfl 22 (.tmp 4) (.tmp 12) rfl w.heap.size (ocells 32 []).toArray rfl rfl 22 (ocells 32 []).toArray HB.out.heap HSZ.out rfl HON.out ?_))
  have hfin := HB.out.row (ocells 32 [])
  exact bodyPost_ret (v := .tuple #[digV Se.zero32, .iface 45 (.int .i64 28)]) (by unfold digV; rw [Se.zero32_cells]; exact results_row_tmp rfl _ _ w.heap.size (ocells 32 []) _ _ rfl rfl hfin.zall Tryd.underlying22 rfl (by simpa using HSZ.out)) rfl ⟨rfl, HO.out.andThen (Only.setRow _ _) (fun k hk e => by omega)⟩

/-- What Unlock answers to a password that may be one. -/
def Unls (w : World) (pw f : List UInt8) (e : Ending) (w' : World) : Prop :=
  (Se.Unl pw f ∧ e = .returned (.tuple #[digV (Se.master pw f), .nilIface]) ∧ Only (fun _ => False) w w') ∨
  (¬ Se.Unl pw f ∧ e = .returned (.tuple #[digV Se.zero32, .iface 45 (.int .i64 10)]) ∧ Only (fun _ => False) w w')

set_option maxRecDepth 100000 in
set_option maxHeartbeats 2000000 in
theorem unlock_any {w : World} {S : Nat → Prop} {pw f : List UInt8} {vf : Value} (hg : Se.good pw = true) (hb : BytesAt w S vf f) (hS : ∀ k, S k → k < w.heap.size) (hf : Fst w) (ht : Tab w) :
    Calls Tryd.prog 23 #[textV pw, vf] w (Unls w pw f) := by
  have hpl : pw.length ≤ 1024 := (of_decide_eq_true hg).2
  have HM := Lib.hid (fun W => may_any (w := W) (pw := pw))
  rw [hg] at HM
  obtain ⟨fa, fc, rfl⟩ := hb.shape
  have hb1 : Blk (w.alloc (.cells (ocells 32 []).toArray 22)) w.heap.size (ocells 32 []) 22 := Blk.new _ _ _
  have ho1 : Only (fun _ => False) w (w.alloc (.cells (ocells 32 []).toArray 22)) := Only.alloc _
  have HB1 := Lib.hid hb1; have HO1 := Lib.hid ho1; have HBU := Lib.hid built_z32; have HSZ := Lib.hid size_z32; have HON := Lib.hid one_z32
  have HB := Lib.hid hb; have HS := Lib.hid hS; have HF := Lib.hid hf; have HT := Lib.hid ht; have HPL := Lib.hid hpl
  by_cases hlen : f.length = 101
  case neg =>
    have HN : Hid (¬ Se.Unl pw f) := fun h => hlen h.1
    have hne : ¬ (f.length : Int) = 101 := by omega
    clear hg hpl hb hS hf ht hb1 ho1 hlen
    go_enter Tryd.func23, Tryd.ntmps23
    go_wp2_with fail
    refine (HM.out _).mono ?_
    rintro e w1 ⟨rfl, rfl⟩
    go_wp2_with (first
      | (refine wpList_build_as rfl 22 _ rfl [] rfl _ HBU.out ?_)
      | (refine wpList_store_row rfl 22 (.tmp 4) (.tmp 23) rfl w.heap.size (ocells 32 []).toArray rfl rfl 22 (ocells 32 []).toArray HB1.out.heap HSZ.out rfl HON.out ?_))
    have hfin := HB1.out.row (ocells 32 [])
    exact bodyPost_ret (v := .tuple #[digV Se.zero32, .iface 45 (.int .i64 10)]) (by unfold digV; rw [Se.zero32_cells]; exact results_row_tmp rfl _ _ w.heap.size (ocells 32 []) _ _ rfl rfl hfin.zall Tryd.underlying22 rfl (by simpa using HSZ.out)) rfl (.inr ⟨HN.out, rfl, HO1.out.andThen (Only.setRow _ _) (fun k hk e => by omega)⟩)
  case pos =>
    obtain ⟨hp8, hc8⟩ := pre_at hb (k := 8) (by omega)
    have hs8 : ∀ W : World, (Instr.slice 23 (.slice fa 101 fc) none (some (.int .i64 8)) none).run Tryd.prog W = .ok (.slice fa 8 fc) W := fun W => slice_h (m := 8) hc8 W
    have ht8 := (hp8.here ho1 hS).text
    rw [z32] at ht8
    have HLN := Lib.hid hlen
    rw [hlen]
    by_cases hpre : f.take 8 = Se.amphora1
    case neg =>
      have HN : Hid (¬ Se.Unl pw f) := fun h => hpre h.2.1
      have hne : (f.take 8 == [97, 109, 112, 104, 111, 114, 97, 49]) = false := by simpa [Se.amphora1] using hpre
      clear hg hpl hb hS hf ht hb1 ho1 hlen hp8 hc8 hpre
      generalize f.take 8 = P at *
      go_enter Tryd.func23, Tryd.ntmps23
      go_wp2_with fail
      refine (HM.out _).mono ?_
      rintro e w1 ⟨rfl, rfl⟩
      go_wp2_with (first
        | (refine wpList_build_as rfl 22 _ rfl [] rfl _ HBU.out ?_)
        | (refine wpList_store_row rfl 22 (.tmp 4) (.tmp 23) rfl w.heap.size (ocells 32 []).toArray rfl rfl 22 (ocells 32 []).toArray HB1.out.heap HSZ.out rfl HON.out ?_))
      have hfin := HB1.out.row (ocells 32 [])
      exact bodyPost_ret (v := .tuple #[digV Se.zero32, .iface 45 (.int .i64 10)]) (by unfold digV; rw [Se.zero32_cells]; exact results_row_tmp rfl _ _ w.heap.size (ocells 32 []) _ _ rfl rfl hfin.zall Tryd.underlying22 rfl (by simpa using HSZ.out)) rfl (.inr ⟨HN.out, rfl, HO1.out.andThen (Only.setRow _ _) (fun k hk e => by omega)⟩)
    case pos =>
      obtain ⟨g1, o1, hs1, hr1, hg1⟩ := mid_at hb (i := 8) (j := 24) (by omega) (by omega) (by omega)
      obtain ⟨g3, o3, hs3, hr3, hg3, hc3⟩ := tail_at hb (i := 24) (by omega) (by omega)
      rw [hlen] at hs1 hs3 hc3
      have hs1' : ∀ W : World, (Instr.slice 23 (.slice fa 101 fc) (some (.int .i64 8)) (some (.int .i64 24)) none).run Tryd.prog W = .ok (.slice (some ⟨g1, o1, none⟩) 16 (fc - 8)) W := hs1
      have hs3' : ∀ W : World, (Instr.slice 23 (.slice fa 101 fc) (some (.int .i64 24)) none none).run Tryd.prog W = .ok (.slice (some ⟨g3, o3, none⟩) 77 (fc - 24)) W := hs3
      have hpt := ptr_16 (some ⟨g1, o1, none⟩) 16 (fc - 8) (by decide)
      have HSL := Lib.hid (Se.salt_len hlen)
      have hr1' : w.rangeAt g1 o1 ((Se.saltIn f).map byteV) := hr1
      have HRG := Lib.hid (rangeAt_here hr1' ho1 (hS _ hg1)); have HR3 := Lib.hid hr3; have HG3 := Lib.hid (hS _ hg3); have HC3 := Lib.hid hc3
      have hz2 : Blk ((w.alloc (.cells (ocells 32 []).toArray 22)).alloc (.cells (ocells 16 []).toArray 47)) (w.heap.size + 1) (ocells 16 []) 47 := Blk.new1 _ _ _ _
      have ho2 : Only (fun k => k = w.heap.size + 1) ((w.alloc (.cells (ocells 32 []).toArray 22)).alloc (.cells (ocells 16 []).toArray 47)) (((w.alloc (.cells (ocells 32 []).toArray 22)).alloc (.cells (ocells 16 []).toArray 47)).setRow (w.heap.size + 1) ((Se.saltIn f).map byteV).toArray) := Only.setRow _ _
      have HZ2 := Lib.hid hz2
      have HS2 := Lib.hid (hz2.row ((Se.saltIn f).map byteV))
      have HR2 := Lib.hid ((hb1.alloc (.cells (ocells 16 []).toArray 47)).keep ho2 (by omega))
      have HO2 : Hid (Only (fun _ => False) w (((w.alloc (.cells (ocells 32 []).toArray 22)).alloc (.cells (ocells 16 []).toArray 47)).setRow (w.heap.size + 1) ((Se.saltIn f).map byteV).toArray)) := (ho1.trans (Only.alloc _)).andThen ho2 (fun k hk e => by omega)
      have HUN : Hid (Se.Unl pw f ↔ Se.Takes (Se.pass pw (Se.saltIn f)) 1 (Se.saltIn f) (f.drop 24)) := ⟨fun h => h.2.2, fun h => ⟨hlen, hpre, h⟩⟩
      have HML := Lib.hid (Se.master_len (pw := pw) hlen)
      have HMA : Hid (Se.master pw f = Se.plain (Se.pass pw (Se.saltIn f)) (f.drop 24)) := rfl
      have HDL : Hid ((f.drop 24).length = 77) := by unfold Hid; simp [hlen]
      rw [hpre] at ht8
      unfold Se.amphora1 at ht8
      clear hg hpl hb hS hf ht hb1 ho1 hlen hp8 hc8 hpre hs1 hs3 hr1 hr3 hg1 hg3 hc3 hr1' hz2 ho2
      generalize Se.saltIn f = salt at *
      generalize f.drop 24 = bl at *
      go_enter Tryd.func23, Tryd.ntmps23
      go_wp2_with fail
      refine (HM.out _).mono ?_
      rintro e w1 ⟨rfl, rfl⟩
      go_wp2_with (first
        | (refine wpList_load_mid rfl 47 (.tmp 27) rfl g1 o1 rfl (salt.map byteV) _ HRG.out Tryd.underlying47 rfl (by simpa using size_a16 HSL.out) ?_)
        | (refine wpList_store_row rfl 47 (.tmp 6) (.tmp 28) rfl (w.heap.size + 1) (salt.map byteV).toArray rfl rfl 47 (ocells 16 []).toArray HZ2.out.heap (size_a16 HSL.out) (by simp [ocells, HSL.out]) (oneCell_bytes _) ?_; rw [← z16, ← z32]; generalize ((w.alloc (.cells (ocells 32 []).toArray 22)).alloc (.cells (ocells 16 []).toArray 47)).setRow (w.heap.size + 1) (salt.map byteV).toArray = w2 at *))
      clear ht8 hs8 hs1' hpt HRG HZ2 HM
      refine wp_region_any (by kernel_rfl) ?_
      change wpAny _ _ _ _ 12 (Array.replicate 12 false) _ w2.drew
      have HO3 := Lib.hid (HO2.out.trans Only.drew); have HS3 := Lib.hid HS2.out.drew; have HRR3 := Lib.hid HR2.out.drew
      clear HO2 HS2 HR2
      generalize w2.drew = w3 at *
      have HP := Lib.hid (pass_any (pw := pw) HSL.out (by have := HPL.out; omega) (HF.out.only HO3.out (fun x => x)) (HT.out.only HO3.out (fun x => x)))
      refine wpAny_take (i := 0) (v := textV pw) rfl (by kernel_rfl) (by kernel_rfl) (by kernel_rfl) (fun _ _ _ h => h) (Or.inl ⟨by rfl, fun w => by go_simp⟩) ?_
      simp only [Act.put, List.getElem_toArray, List.getElem_cons_zero, List.setIfInBounds_toArray, List.set_cons_zero, List.set_cons_succ]
      refine wpAny_take (i := 3) (v := .slice (some ⟨w.heap.size + 1, 0, none⟩) 16 16) rfl (by kernel_rfl) (by kernel_rfl) (by kernel_rfl) (fun _ _ _ h => h) (Or.inl ⟨by rfl, fun w => by go_simp⟩) ?_
      simp only [Act.put, List.getElem_toArray, List.getElem_cons_succ, List.getElem_cons_zero, List.setIfInBounds_toArray, List.set_cons_zero, List.set_cons_succ]
      refine wpAny_take (i := 4) (v := .slice fa 101 fc) rfl (by kernel_rfl) (by kernel_rfl) (by kernel_rfl) (fun _ _ _ h => h) (Or.inl ⟨by rfl, fun w => by go_simp⟩) ?_
      simp only [Act.put, List.getElem_toArray, List.getElem_cons_succ, List.getElem_cons_zero, List.setIfInBounds_toArray, List.set_cons_zero, List.set_cons_succ]
      refine wpAny_take (i := 5) (v := .slice (some ⟨g3, o3, none⟩) 77 (fc - 24)) rfl (by kernel_rfl) (by kernel_rfl) (by kernel_rfl) (fun _ _ _ h => h) (Or.inl ⟨by rfl, fun w => by go_simp⟩) ?_
      simp only [Act.put, List.getElem_toArray, List.getElem_cons_succ, List.getElem_cons_zero, List.setIfInBounds_toArray, List.set_cons_zero, List.set_cons_succ]
      refine wpAny_ready (rs := [1]) (by kernel_rfl) (by simp) (AllReady.cons rfl (fun J hJ => ?_) AllReady.nil)
      refine step_load_mid (by rfl) 47 (.tmp 6) rfl (w.heap.size + 1) 0 rfl (salt.map byteV) _ HS3.out.all Tryd.underlying47 rfl (by simpa using size_a16 HSL.out) ?_
      refine hJ _ _ ?_
      clear hJ J
      simp only [Act.put, List.getElem_toArray, List.getElem_cons_succ, List.getElem_cons_zero, List.setIfInBounds_toArray, List.set_cons_zero, List.set_cons_succ]
      refine wpAny_ready (rs := [2]) (by kernel_rfl) (by simp) (AllReady.cons rfl (fun J hJ => ?_) AllReady.nil)
      go_simp
      refine HP.out.mono ?_
      rintro e w4 ⟨rfl, ho4⟩
      refine hJ _ _ ?_
      clear hJ J HP
      have HO4 := Lib.hid (HO3.out.trans ho4); have HS4 := Lib.hid (HS3.out.keep ho4 (fun x => x)); have HR4 := Lib.hid (HRR3.out.keep ho4 (fun x => x))
      clear ho4 HO3 HS3 HRR3
      have hbl := (BytesAt.of_range (bs := bl) (c := fc - 24) (by rw [HDL.out]; exact HC3.out) (rangeAt_here HR3.out HO4.out HG3.out)).mono (S' := fun k => k < w4.heap.size) (fun k hk => by rw [hk]; exact Nat.lt_of_lt_of_le HG3.out HO4.out.size)
      rw [HDL.out] at hbl
      have HOP := Lib.hid (open_any (kind := 1) (Se.pass_len pw salt) (HS4.out.whole HSL.out) hbl (fun _ h => h) ⟨by have := HSL.out; have := HDL.out; omega⟩ (HF.out.only HO4.out (fun x => x)) (HT.out.only HO4.out (fun x => x)))
      clear hbl HS4 HR3 HG3 HC3
      refine wpAny_ready (rs := [6]) (by kernel_rfl) (by simp) (AllReady.cons rfl (fun J hJ => ?_) AllReady.nil)
      go_simp
      refine HOP.out.mono ?_
      rintro e w5 (⟨htk, ra, rc, rfl, hr5⟩ | ⟨hnt, rfl, ho5⟩)
      · refine hJ _ _ ?_
        clear hJ J HOP
        have HU := Lib.hid (HUN.out.2 htk)
        rw [← HMA.out] at hr5
        rw [← HMA.out]
        have hrow := hr5.row
        rw [HML.out] at hrow
        obtain ⟨g, rfl, hrg, _⟩ := own_range hrow (by decide)
        have HRG := Lib.hid hrg
        have HO5 := Lib.hid (HO4.out.trans hr5.only); have HR5 := Lib.hid (HR4.out.keep hr5.only (fun x => x))
        rw [HML.out]
        clear hr5 hrow hrg HO4 HR4 HUN HMA htk
        generalize hM : Se.master pw f = M at *
        refine wpAny_take (i := 7) (v := .tuple #[.slice (some ⟨g, 0, none⟩) 32 rc, .nilIface]) rfl (by kernel_rfl) (by kernel_rfl) (by kernel_rfl) (fun _ _ _ h => h) (Or.inl ⟨by rfl, fun w => by go_simp⟩) ?_
        simp only [Act.put, List.getElem_toArray, List.getElem_cons_succ, List.getElem_cons_zero, List.setIfInBounds_toArray, List.set_cons_zero, List.set_cons_succ]
        refine wpAny_take (i := 8) (v := .slice (some ⟨g, 0, none⟩) 32 rc) rfl (by kernel_rfl) (by kernel_rfl) (by kernel_rfl) (fun _ _ _ h => h) (Or.inl ⟨by rfl, fun w => by go_simp⟩) ?_
        simp only [Act.put, List.getElem_toArray, List.getElem_cons_succ, List.getElem_cons_zero, List.setIfInBounds_toArray, List.set_cons_zero, List.set_cons_succ]
        refine wpAny_take (i := 9) (v := .nilIface) rfl (by kernel_rfl) (by kernel_rfl) (by kernel_rfl) (fun _ _ _ h => h) (Or.inl ⟨by rfl, fun w => by go_simp⟩) ?_
        simp only [Act.put, List.getElem_toArray, List.getElem_cons_succ, List.getElem_cons_zero, List.setIfInBounds_toArray, List.set_cons_zero, List.set_cons_succ]
        refine wpAny_take (i := 10) (v := .slice (some ⟨g, 0, none⟩) 32 rc) rfl (by kernel_rfl) (by kernel_rfl) (by kernel_rfl) (fun _ _ _ h => h) (Or.inl ⟨by rfl, fun w => by go_simp⟩) ?_
        simp only [Act.put, List.getElem_toArray, List.getElem_cons_succ, List.getElem_cons_zero, List.setIfInBounds_toArray, List.set_cons_zero, List.set_cons_succ]
        refine wpAny_take (i := 11) (v := .nilIface) rfl (by kernel_rfl) (by kernel_rfl) (by kernel_rfl) (fun _ _ _ h => h) (Or.inl ⟨by rfl, fun w => by go_simp⟩) ?_
        simp only [Act.put, List.getElem_toArray, List.getElem_cons_succ, List.getElem_cons_zero, List.setIfInBounds_toArray, List.set_cons_zero, List.set_cons_succ]
        refine wpAny_done (by kernel_rfl) ?_ _
        have hp32 := ptr_32 (some ⟨g, 0, none⟩) 32 rc (by decide)
        go_wp2_with (first
          | (refine wpList_load_mid rfl 22 (.tmp 44) rfl g 0 rfl (M.map byteV) _ HRG.out Tryd.underlying22 rfl (by simpa using size_a32 HML.out) ?_)
          | (refine wpList_store_row rfl 22 (.tmp 4) (.tmp 45) rfl w.heap.size (M.map byteV).toArray rfl rfl 22 (ocells 32 []).toArray HR5.out.heap (size_a32 HML.out) (by simp [ocells, HML.out]) (oneCell_bytes _) ?_))
        have hfin := HR5.out.row (M.map byteV)
        exact bodyPost_ret (v := .tuple #[digV M, .nilIface]) (results_row_tmp rfl _ _ w.heap.size (M.map byteV) _ _ rfl rfl hfin.all Tryd.underlying22 rfl (by simpa using size_a32 HML.out)) rfl (.inl ⟨HU.out, by rw [hM], HO5.out.andThen (Only.setRow _ _) (fun k hk e => by omega)⟩)
      · refine hJ _ _ ?_
        clear hJ J HOP
        have HU : Hid (¬ Se.Unl pw f) := fun h => hnt (HUN.out.1 h)
        have HO5 := Lib.hid (HO4.out.trans ho5); have HR5 := Lib.hid (HR4.out.keep ho5 (fun x => x))
        clear ho5 HO4 HR4 HUN HMA hnt
        refine wpAny_take (i := 7) (v := .tuple #[.slice none 0 0, .iface 45 (.int .i64 10)]) rfl (by kernel_rfl) (by kernel_rfl) (by kernel_rfl) (fun _ _ _ h => h) (Or.inl ⟨by rfl, fun w => by go_simp⟩) ?_
        simp only [Act.put, List.getElem_toArray, List.getElem_cons_succ, List.getElem_cons_zero, List.setIfInBounds_toArray, List.set_cons_zero, List.set_cons_succ]
        refine wpAny_take (i := 8) (v := .slice none 0 0) rfl (by kernel_rfl) (by kernel_rfl) (by kernel_rfl) (fun _ _ _ h => h) (Or.inl ⟨by rfl, fun w => by go_simp⟩) ?_
        simp only [Act.put, List.getElem_toArray, List.getElem_cons_succ, List.getElem_cons_zero, List.setIfInBounds_toArray, List.set_cons_zero, List.set_cons_succ]
        refine wpAny_take (i := 9) (v := .iface 45 (.int .i64 10)) rfl (by kernel_rfl) (by kernel_rfl) (by kernel_rfl) (fun _ _ _ h => h) (Or.inl ⟨by rfl, fun w => by go_simp⟩) ?_
        simp only [Act.put, List.getElem_toArray, List.getElem_cons_succ, List.getElem_cons_zero, List.setIfInBounds_toArray, List.set_cons_zero, List.set_cons_succ]
        refine wpAny_take (i := 10) (v := .slice none 0 0) rfl (by kernel_rfl) (by kernel_rfl) (by kernel_rfl) (fun _ _ _ h => h) (Or.inl ⟨by rfl, fun w => by go_simp⟩) ?_
        simp only [Act.put, List.getElem_toArray, List.getElem_cons_succ, List.getElem_cons_zero, List.setIfInBounds_toArray, List.set_cons_zero, List.set_cons_succ]
        refine wpAny_take (i := 11) (v := .iface 45 (.int .i64 10)) rfl (by kernel_rfl) (by kernel_rfl) (by kernel_rfl) (fun _ _ _ h => h) (Or.inl ⟨by rfl, fun w => by go_simp⟩) ?_
        simp only [Act.put, List.getElem_toArray, List.getElem_cons_succ, List.getElem_cons_zero, List.setIfInBounds_toArray, List.set_cons_zero, List.set_cons_succ]
        refine wpAny_done (by kernel_rfl) ?_ _
        go_wp2_with (first
          | (refine wpList_build_as rfl 22 _ rfl [] rfl _ HBU.out ?_)
          | (refine wpList_store_row rfl 22 (.tmp 4) (.tmp 41) rfl w.heap.size (ocells 32 []).toArray rfl rfl 22 (ocells 32 []).toArray HR5.out.heap HSZ.out rfl HON.out ?_))
        have hfin := HR5.out.row (ocells 32 [])
        exact bodyPost_ret (v := .tuple #[digV Se.zero32, .iface 45 (.int .i64 10)]) (by unfold digV; rw [Se.zero32_cells]; exact results_row_tmp rfl _ _ w.heap.size (ocells 32 []) _ _ rfl rfl hfin.zall Tryd.underlying22 rfl (by simpa using HSZ.out)) rfl (.inr ⟨HU.out, rfl, HO5.out.andThen (Only.setRow _ _) (fun k hk e => by omega)⟩)

end Go.Proofs.YtgdnmbchhfbjoaaDoor
