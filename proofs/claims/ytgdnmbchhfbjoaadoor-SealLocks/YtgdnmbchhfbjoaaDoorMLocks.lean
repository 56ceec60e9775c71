/- SealLocks: key files are what the chapter says. Conditions: rows within the reach. -/
import Derived.Test.YtgdnmbchhfbjoaaDoorMSeR
import Derived.Deep.AppendSrc
import Derived.Test.YtgdnmbchhfbjoaaDoorMSeA
import Derived.Test.YtgdnmbchhfbjoaaDoorMRefH
import Derived.BigQuiet

namespace Go.Proofs.YtgdnmbchhfbjoaaDoor
open Go.RowKit

set_option maxRecDepth 100000 in
set_option maxHeartbeats 1000000 in
theorem r5under_any {w : World} {S : Nat → Prop} {vs : Value} {pw salt : List UInt8} (hs : BytesAt w S vs salt) (hS : ∀ k, S k → k < w.heap.size) (hsl : salt.length = 16) (hl : pw.length ≤ 1048576) :
    Calls Tryd.prog 44 #[textV pw, vs] w fun e w' => e = .returned (digV (Se.pass pw salt)) ∧ Only (fun _ => False) w w' := by
  obtain ⟨hzk, hzn⟩ := zero_keys
  obtain ⟨Z, hZ⟩ : ∃ Z, Z = (ocells 96 []).toArray := ⟨_, rfl⟩
  rw [← hZ] at hzk
  obtain ⟨sa, sc, rfl⟩ := hs.shape
  have hz0 : Blk (w.alloc (.cells Z 29)) w.heap.size (ocells 96 []) 29 := by rw [hZ]; exact Blk.new _ _ _
  have ho0 : Only (fun _ => False) w (w.alloc (.cells Z 29)) := Only.alloc _
  obtain ⟨c1, w1, hcv, hb1, hlt1, ho1⟩ := conv_text (w.alloc (.cells Z 29)) pw
  have HD := Lib.hid (r5derived_any Se.tKey (hs.here (ho0.trans ho1) hS) (hb1.mono (S' := fun k => k < w1.heap.size) (fun k hk => by omega)) (fun _ h => h) (by omega) hl (by decide))
  have HZ1 := Lib.hid (hz0.keep ho1 (fun x => x)); have HO1 := Lib.hid (ho0.trans ho1)
  have HPL := Lib.hid (Se.pass_len pw salt)
  rw [World.size_alloc] at hcv HD
  clear hs hS hsl hl hz0 ho0 hb1 hlt1 ho1 hZ
  unfold textV
  go_enter Tryd.func44, Tryd.ntmps44
  go_wp2_with fail
  refine HD.out.mono ?_
  rintro e w2 ⟨rfl, ho2⟩
  have HM := Lib.hid (r5from_any (w := w2) (derived_len salt pw Se.tKey 32))
  have HZ2 := Lib.hid (HZ1.out.keep ho2 (fun x => x)); have HO2 := Lib.hid (HO1.out.trans ho2)
  clear ho2 HD HZ1 HO1 hcv hzk
  go_wp2_with fail
  refine HM.out.mono ?_
  rintro e w3 ⟨rfl, ho3⟩
  have HZ3 := Lib.hid (HZ2.out.keep ho3 (fun x => x)); have HO3 := Lib.hid (HO2.out.trans ho3)
  rw [show Se.keys (derived salt pw Se.tKey 32) = Se.pass pw salt from rfl]
  clear ho3 HM HZ2 HO2
  generalize hP : Se.pass pw salt = P at *
  go_wp2_with (refine wpList_store_row rfl 29 (.tmp 4) (.tmp 9) rfl w.heap.size (P.map byteV).toArray rfl rfl 29 (ocells 96 []).toArray HZ3.out.heap (size_keys HPL.out) (by simp [ocells, HPL.out]) (oneCell_bytes _) ?_)
  have hfin := HZ3.out.row (P.map byteV)
  exact bodyPost_ret (v := digV P) (results_cell_row rfl _ _ w.heap.size 29 _ (0, 0) _ rfl hfin Tryd.underlying29 rfl (size_keys HPL.out)) rfl ⟨by rw [hP], HO3.out.andThen (Only.setRow _ _) (fun k hk e => by omega)⟩

/-- append onto a constant's row: there is no room, so the row is new. -/
theorem append_marked {w : World} {g gs : Nat} {f : Nat × Nat} {X salt : List UInt8} {t : TypeId} (h : w.heap[g]? = some (.cells (X.map byteV).toArray 5 f)) (hs : Blk w gs (salt.map byteV) t) (hx : X.length = 8) (hl : salt.length = 16) :
    ∃ c w', (∀ ty, (Builtin.append_ #[23, 23] ty #[.slice (some ⟨g, 0, none⟩) 8 8, .slice (some ⟨gs, 0, none⟩) 16 16]).run Tryd.prog w = .ok (.slice (some ⟨w.heap.size, 0, none⟩) 24 c) w') ∧ Row w w' (.slice (some ⟨w.heap.size, 0, none⟩) 24 c) (X ++ salt) := by
  obtain ⟨i, hi, hz0, hz1, hz2⟩ := info_parts info_u8
  have hold : (Builtin.firstCells i.size 8 (.slice (some ⟨g, 0, none⟩) 8 8)).run Tryd.prog w.drew = .ok (X.map byteV).toArray w.drew := by
    rw [hz1]
    refine run_firstCells_some w.drew 1 8 ⟨g, 0, none⟩ 8 8 (X.map byteV) (by simp [hx]) (fun j v hv => ?_)
    rw [add_lit, Nat.zero_add]
    have := cell_of (w := w.drew) h j
    rw [this]
    simpa using hv
  have hsrc : Src Tryd.prog i.size 23 (.slice (some ⟨gs, 0, none⟩) 16 16) 16 (salt.map byteV) w := by
    rw [hz1]
    refine Src.ofSlice w Tryd.underlying23 ⟨gs, 0, none⟩ 16 16 (salt.map byteV) (by simp [hl]) (fun j v hv => ?_) (fun u hu => ?_)
    · rw [add_lit, Nat.zero_add, hs.cell]; exact hv
    · obtain ⟨x, _, rfl⟩ := List.mem_map.1 hu
      rfl
  have hr := fun ty => run_append_grow_src (P := Tryd.prog) w 23 23 ty 5 i _ Tryd.underlying23 hi hz0 (some ⟨g, 0, none⟩) 8 8 (X.map byteV) hold (.slice (some ⟨gs, 0, none⟩) 16 16) 16 (salt.map byteV) hsrc (by omega) (by omega) (by rw [hz2]; decide)
  have hge : 24 ≤ grownCap w 24 8 5 := grownCap_ge w 24 8 5
  have hle := grownCap_le_maxLen w (8 + 16) 8 5 (by unfold maxLen; omega)
  refine ⟨_, _, hr, ⟨⟨by simp [hx, hl], .inr ⟨w.heap.size, _, _, by simp [hx, hl], Nat.zero_le _, heap_alloc_last w.drew _, by simp [hx, hl]; omega, hle, ?_, ?_⟩⟩, fun q hq => ?_, Only.drew.trans (Only.alloc _)⟩⟩
  · simp [Builtin.zeroCells, Value.cells, hx, hl]; omega
  · simp [hx, hl, List.take_append]
    rw [List.take_of_length_le (by simp [hx])]
  · have : w.heap.size = q := Option.some.inj hq
    omega

set_option maxRecDepth 100000 in
set_option maxHeartbeats 1000000 in
theorem r5lock_bad {w : World} {pw salt m : List UInt8} (hg : Se.good pw = false) (hpw : pw.length ≤ maxLen) :
    Calls Tryd.prog 22 #[textV pw, digV salt, digV m] w fun e w' => e = .returned (.tuple #[.slice none 0 0, .int .i64 28]) ∧ Only (fun _ => False) w w' := by
  have hor : pw.length < 1 ∨ 1024 < pw.length := by
    have := of_decide_eq_false hg
    omega
  have hpl : (pw.length : Int) ≤ 9223372036854775807 := by unfold maxLen at hpw; omega
  have HO : Hid (Only (fun _ => False) w ((w.alloc (.cells (salt.map byteV).toArray 47)).alloc (.cells (m.map byteV).toArray 22))) := (Only.alloc _).trans (Only.alloc _)
  clear hg hpw
  unfold digV textV
  rcases hor with h1 | h1
  · have g1 : (pw.length : Int) < 1 := by omega
    go_enter Tryd.func22, Tryd.ntmps22
    go_wp2
    go_ret2
    exact ⟨rfl, HO.out⟩
  · have g0 : ¬ (pw.length : Int) < 1 := by omega
    have g1 : (pw.length : Int) > 1024 := by omega
    go_enter Tryd.func22, Tryd.ntmps22
    go_wp2
    go_ret2
    exact ⟨rfl, HO.out⟩

set_option maxRecDepth 100000 in
set_option maxHeartbeats 1000000 in
theorem r5lock_any {w : World} {pw salt m : List UInt8} (hg : Se.good pw = true) (hs : salt.length = 16) (hm : m.length = 32) :
    Calls Tryd.prog 22 #[textV pw, digV salt, digV m] w fun e w' => ∃ a c, e = .returned (.tuple #[.slice a (Se.file pw salt m).length c, .int .i64 0]) ∧ Row w w' (.slice a (Se.file pw salt m).length c) (Se.file pw salt m) := by
  have hgl := of_decide_eq_true hg
  have hpl := hgl.2
  have g0 : ¬ (pw.length : Int) < 1 := by omega
  have g1 : ¬ (pw.length : Int) > 1024 := by omega
  have hs1 := ((Blk.new w (salt.map byteV) 47).alloc (.cells (m.map byteV).toArray 22)).alloc (.cells (Se.amphora1.map byteV).toArray 5 (8, 8 + 1))
  have hm1 := (Blk.new1 w (.cells (salt.map byteV).toArray 47) (m.map byteV) 22).alloc (.cells (Se.amphora1.map byteV).toArray 5 (8, 8 + 1))
  have ho1 : Only (fun _ => False) w (((w.alloc (.cells (salt.map byteV).toArray 47)).alloc (.cells (m.map byteV).toArray 22)).alloc (.cells (Se.amphora1.map byteV).toArray 5 (8, 8 + 1))) := ((Only.alloc _).trans (Only.alloc _)).trans (Only.alloc _)
  have hh1 : (((w.alloc (.cells (salt.map byteV).toArray 47)).alloc (.cells (m.map byteV).toArray 22)).alloc (.cells (Se.amphora1.map byteV).toArray 5 (8, 8 + 1))).heap[w.heap.size + 1 + 1]? = some (.cells (Se.amphora1.map byteV).toArray 5 (8, 8 + 1)) := by
    have := heap_alloc_last ((w.alloc (.cells (salt.map byteV).toArray 47)).alloc (.cells (m.map byteV).toArray 22)) (.cells (Se.amphora1.map byteV).toArray 5 (8, 8 + 1))
    rwa [World.size_alloc, World.size_alloc] at this
  have kc2 : ∀ (C : Array Value) (n c : Nat), (convert 23 23 (.slice (some ⟨w.heap.size + 1 + 1, 0, none⟩) n c)).run Tryd.prog (((w.alloc (.cells (salt.map byteV).toArray 47)).alloc (.cells (m.map byteV).toArray 22)).alloc (.cells C 5)) = .ok (.slice (some ⟨w.heap.size + 1 + 1, 0, none⟩) n c) (((w.alloc (.cells (salt.map byteV).toArray 47)).alloc (.cells (m.map byteV).toArray 22)).alloc (.cells C 5 (C.size, C.size + 1))) := by
    intro C n c
    have := Lib.run_convert_bytes_const (P := Tryd.prog) ((w.alloc (.cells (salt.map byteV).toArray 47)).alloc (.cells (m.map byteV).toArray 22)) 23 5 C n c Tryd.underlying23 Tryd.underlying5
    simpa using this
  obtain ⟨c2, w2, hap, hr2⟩ := append_marked hh1 hs1 rfl hs
  have hz1 : (((w.alloc (.cells (salt.map byteV).toArray 47)).alloc (.cells (m.map byteV).toArray 22)).alloc (.cells (Se.amphora1.map byteV).toArray 5 (8, 8 + 1))).heap.size = w.heap.size + 1 + 1 + 1 := by simp
  rw [hz1] at hap hr2
  have HAP := Lib.hid hap
  have HS2 := Lib.hid (hs1.keep hr2.only (fun x => x)); have HM2 := Lib.hid (hm1.keep hr2.only (fun x => x)); have HR2 := Lib.hid (Row.under ho1 hr2)
  have HSL := Lib.hid hs; have HML := Lib.hid hm; have HPL := Lib.hid hpl
  clear hg hgl hpl hs hm hs1 hm1 ho1 hh1 hap hr2 hz1
  unfold digV
  go_enter Tryd.func22, Tryd.ntmps22
  unfold textV
  go_wp2_with (at_builtin; refine Lib.wpList_append_run _ rfl (.tmp 18) (.tmp 19) 23 23 rfl (.slice (some ⟨w.heap.size + 1 + 1, 0, none⟩) 8 8) (.slice (some ⟨w.heap.size, 0, none⟩) 16 16) rfl rfl _ _ (HAP.out _) ?_)
  refine wp_region_any (by kernel_rfl) ?_
  change wpAny _ _ _ _ 10 (Array.replicate 10 false) _ w2.drew
  have HS3 := Lib.hid HS2.out.drew; have HM3 := Lib.hid HM2.out.drew; have HR3 := Lib.hid (HR2.out.kept Only.drew)
  clear HS2 HM2 HR2 HAP kc2
  generalize w2.drew = w3 at *
  have HP := Lib.hid (r5under_any (pw := pw) (HS3.out.whole HSL.out) (fun _ h => h) HSL.out (by have := HPL.out; omega))
  unfold textV at HP
  refine wpAny_take (i := 0) (v := .slice (some ⟨w.heap.size + 1 + 1 + 1, 0, none⟩) 24 c2) rfl (by kernel_rfl) (by kernel_rfl) (by kernel_rfl) (fun _ _ _ h => h) (Or.inl ⟨by rfl, fun w => by go_simp⟩) ?_
  simp only [Act.put, List.getElem_toArray, List.getElem_cons_zero, List.setIfInBounds_toArray, List.set_cons_zero, List.set_cons_succ]
  refine wpAny_take (i := 1) (v := .string ⟨pw.toArray⟩) rfl (by kernel_rfl) (by kernel_rfl) (by kernel_rfl) (fun _ _ _ h => h) (Or.inl ⟨by rfl, fun w => by go_simp⟩) ?_
  simp only [Act.put, List.getElem_toArray, List.getElem_cons_succ, List.getElem_cons_zero, List.setIfInBounds_toArray, List.set_cons_zero, List.set_cons_succ]
  refine wpAny_take (i := 2) (v := .slice (some ⟨w.heap.size, 0, none⟩) 16 16) rfl (by kernel_rfl) (by kernel_rfl) (by kernel_rfl) (fun _ _ _ h => h) (Or.inl ⟨by rfl, fun w => by go_simp⟩) ?_
  simp only [Act.put, List.getElem_toArray, List.getElem_cons_succ, List.getElem_cons_zero, List.setIfInBounds_toArray, List.set_cons_zero, List.set_cons_succ]
  refine wpAny_take (i := 4) (v := .slice (some ⟨w.heap.size, 0, none⟩) 16 16) rfl (by kernel_rfl) (by kernel_rfl) (by kernel_rfl) (fun _ _ _ h => h) (Or.inl ⟨by rfl, fun w => by go_simp⟩) ?_
  simp only [Act.put, List.getElem_toArray, List.getElem_cons_succ, List.getElem_cons_zero, List.setIfInBounds_toArray, List.set_cons_zero, List.set_cons_succ]
  refine wpAny_take (i := 5) (v := .slice (some ⟨w.heap.size + 1, 0, none⟩) 32 32) rfl (by kernel_rfl) (by kernel_rfl) (by kernel_rfl) (fun _ _ _ h => h) (Or.inl ⟨by rfl, fun w => by go_simp⟩) ?_
  simp only [Act.put, List.getElem_toArray, List.getElem_cons_succ, List.getElem_cons_zero, List.setIfInBounds_toArray, List.set_cons_zero, List.set_cons_succ]
  refine wpAny_ready (rs := [3]) (by kernel_rfl) (by simp) (AllReady.cons rfl (fun J hJ => ?_) AllReady.nil)
  go_simp
  refine HP.out.mono ?_
  rintro e w4 ⟨rfl, ho4⟩
  refine hJ _ _ ?_
  clear hJ J
  have HS4 := Lib.hid (HS3.out.keep ho4 (fun x => x)); have HM4 := Lib.hid (HM3.out.keep ho4 (fun x => x)); have HR4 := Lib.hid (HR3.out.kept ho4)
  have HSE := Lib.hid (r5seal_any (kind := 1) (Se.pass_len pw salt) (HS4.out.whole HSL.out) (HM4.out.whole HML.out) (fun _ h => h) ⟨by have := HSL.out; have := HML.out; omega⟩)
  clear ho4 HS3 HM3 HR3 HP
  refine wpAny_ready (rs := [6]) (by kernel_rfl) (by simp) (AllReady.cons rfl (fun J hJ => ?_) AllReady.nil)
  go_simp
  refine HSE.out.mono ?_
  rintro e w5 ⟨ba, bc, rfl, hr5⟩
  refine hJ _ _ ?_
  clear hJ J
  have HR5 := Lib.hid (HR4.out.kept hr5.only); have HB5 := Lib.hid hr5.bytes
  have HBL : Hid ((Se.blob (Se.pass pw salt) 1 salt m).length = 77) := by unfold Hid; rw [Se.blob_len, HML.out]
  have HFI : Hid (Se.file pw salt m = Se.amphora1 ++ salt ++ Se.blob (Se.pass pw salt) 1 salt m) := by unfold Hid Se.file; simp
  clear hr5 HS4 HM4 HR4 HSE
  generalize Se.blob (Se.pass pw salt) 1 salt m = B at *
  have HAL : Hid ((Se.amphora1 ++ salt).length = 24) := by unfold Hid; rw [List.length_append, HSL.out]; rfl
  refine wpAny_ready (rs := [7]) (by kernel_rfl) (by simp) (AllReady.cons rfl (fun J hJ => ?_) AllReady.nil)
  refine step_append_bytes (by rfl) (.tmp 21) (.tmp 27) (by rfl) (.slice (some ⟨w.heap.size + 1 + 1 + 1, 0, none⟩) 24 c2) (.slice ba B.length bc) 24 ((Se.amphora1 ++ salt).map byteV) rfl rfl (by have := HR5.out.row; rw [HAL.out] at this; exact this) HB5.out (by rw [HBL.out]; decide) ?_
  intro a6 c6 w6 hr6 hg6 hat6
  have HR6 := Lib.hid (HR5.out.app (Only.refl _ _) (by rw [HAL.out]) hr6 hg6 hat6)
  refine hJ _ _ ?_
  clear hJ J hr6 hg6 hat6 HR5 HB5
  simp only [Act.put, List.getElem_toArray, List.getElem_cons_succ, List.getElem_cons_zero, List.setIfInBounds_toArray, List.set_cons_zero, List.set_cons_succ]
  refine wpAny_take (i := 8) (v := .slice a6 (24 + B.length) c6) rfl (by kernel_rfl) (by kernel_rfl) (by kernel_rfl) (fun _ _ _ h => h) (Or.inl ⟨by rfl, fun w => by go_simp⟩) ?_
  simp only [Act.put, List.getElem_toArray, List.getElem_cons_succ, List.getElem_cons_zero, List.setIfInBounds_toArray, List.set_cons_zero, List.set_cons_succ]
  refine wpAny_take (i := 9) (v := .int .i64 0) rfl (by kernel_rfl) (by kernel_rfl) (by kernel_rfl) (fun _ _ _ h => h) (Or.inl ⟨by rfl, fun w => by go_simp⟩) ?_
  simp only [Act.put, List.getElem_toArray, List.getElem_cons_succ, List.getElem_cons_zero, List.setIfInBounds_toArray, List.set_cons_zero, List.set_cons_succ]
  refine wpAny_done (by kernel_rfl) ?_ _
  go_wp2_with fail
  go_ret2
  have hln : (Se.file pw salt m).length = 24 + B.length := by rw [HFI.out, List.length_append, HAL.out]
  refine ⟨a6, c6, by rw [hln]; rfl, ?_⟩
  rw [hln, HFI.out]
  exact HR6.out

end Go.Proofs.YtgdnmbchhfbjoaaDoor

namespace Go.Proofs.YtgdnmbchhfbjoaaDoor
open Go.RowKit

/-- What the document's Unlock answers to a password that may be one. -/
def Unls5 (w : World) (pw f : List UInt8) (e : Ending) (w' : World) : Prop :=
  (Se.Unl pw f ∧ e = .returned (.tuple #[digV (Se.master pw f), .int .i64 0]) ∧ Only (fun _ => False) w w') ∨
  (¬ Se.Unl pw f ∧ e = .returned (.tuple #[digV Se.zero32, .int .i64 10]) ∧ Only (fun _ => False) w w')

set_option maxRecDepth 100000 in
set_option maxHeartbeats 1000000 in
theorem r5unlock_bad {w : World} {pw : List UInt8} {vf : Value} (hg : Se.good pw = false) (hpw : pw.length ≤ maxLen) :
    Calls Tryd.prog 24 #[textV pw, vf] w fun e w' => e = .returned (.tuple #[digV Se.zero32, .int .i64 28]) ∧ Only (fun _ => False) w w' := by
  have hor : pw.length < 1 ∨ 1024 < pw.length := by
    have := of_decide_eq_false hg
    omega
  have hpl : (pw.length : Int) ≤ 9223372036854775807 := by unfold maxLen at hpw; omega
  clear hg hpw
  have hz2 : Blk ((w.alloc (.cells (ocells 32 []).toArray 22)).alloc (.cells (ocells 32 []).toArray 22)) (w.heap.size + 1) (ocells 32 []) 22 := Blk.new1 _ _ _ _
  have hz1 := (Blk.new w (ocells 32 []) 22).alloc (.cells (ocells 32 []).toArray 22)
  have ho2 : Only (fun k => k = w.heap.size + 1) ((w.alloc (.cells (ocells 32 []).toArray 22)).alloc (.cells (ocells 32 []).toArray 22)) (((w.alloc (.cells (ocells 32 []).toArray 22)).alloc (.cells (ocells 32 []).toArray 22)).setRow (w.heap.size + 1) (ocells 32 []).toArray) := Only.setRow _ _
  have HZ2 := Lib.hid hz2; have H7 := Lib.hid (hz2.row (ocells 32 [])); have H6 := Lib.hid (hz1.keep ho2 (by omega))
  have HO2 : Hid (Only (fun _ => False) w (((w.alloc (.cells (ocells 32 []).toArray 22)).alloc (.cells (ocells 32 []).toArray 22)).setRow (w.heap.size + 1) (ocells 32 []).toArray)) := ((Only.alloc _).trans (Only.alloc _)).andThen ho2 (fun k hk e => by omega)
  have HBU := Lib.hid built_z32; have HSZ := Lib.hid size_z32; have HON := Lib.hid one_z32
  clear hz1 hz2 ho2
  unfold textV
  rcases hor with h1 | h1
  · have g1 : (pw.length : Int) < 1 := by omega
    go_enter Tryd.func24, Tryd.ntmps24
    go_wp2_with (first
      | (refine wpList_build_as rfl 22 _ rfl [] rfl _ HBU.out ?_)
      | (refine wpList_store_row rfl 22 (.tmp 6) (.tmp 10) rfl (w.heap.size + 1) (ocells 32 []).toArray rfl rfl 22 (ocells 32 []).toArray HZ2.out.heap HSZ.out rfl HON.out ?_; rw [← z32]; generalize ((w.alloc (.cells (ocells 32 []).toArray 22)).alloc (.cells (ocells 32 []).toArray 22)).setRow (w.heap.size + 1) (ocells 32 []).toArray = w2 at *)
      | (refine wpList_load_mid rfl 22 (.tmp 6) rfl (w.heap.size + 1) 0 rfl (ocells 32 []) _ H7.out.zall Tryd.underlying22 rfl (by simpa using HSZ.out) ?_)
      | (refine wpList_store_row rfl 22 (.tmp 4) (.tmp 19) rfl w.heap.size (ocells 32 []).toArray rfl rfl 22 (ocells 32 []).toArray H6.out.heap HSZ.out rfl HON.out ?_)
      | (refine wpList_store_row rfl 22 (.tmp 4) (.tmp 29) rfl w.heap.size (ocells 32 []).toArray rfl rfl 22 (ocells 32 []).toArray H6.out.heap HSZ.out rfl HON.out ?_))
    have hfin := H6.out.row (ocells 32 [])
    exact bodyPost_ret (v := .tuple #[digV Se.zero32, .int .i64 28]) (by unfold digV; rw [Se.zero32_cells]; exact results_row_tmp rfl _ _ w.heap.size (ocells 32 []) _ _ rfl rfl hfin.zall Tryd.underlying22 rfl (by simpa using HSZ.out)) rfl ⟨rfl, HO2.out.andThen (Only.setRow _ _) (fun k hk e => by omega)⟩
  · have g0 : ¬ (pw.length : Int) < 1 := by omega
    have g1 : (pw.length : Int) > 1024 := by omega
    go_enter Tryd.func24, Tryd.ntmps24
    go_wp2_with (first
      | (refine wpList_build_as rfl 22 _ rfl [] rfl _ HBU.out ?_)
      | (refine wpList_store_row rfl 22 (.tmp 6) (.tmp 10) rfl (w.heap.size + 1) (ocells 32 []).toArray rfl rfl 22 (ocells 32 []).toArray HZ2.out.heap HSZ.out rfl HON.out ?_; rw [← z32]; generalize ((w.alloc (.cells (ocells 32 []).toArray 22)).alloc (.cells (ocells 32 []).toArray 22)).setRow (w.heap.size + 1) (ocells 32 []).toArray = w2 at *)
      | (refine wpList_load_mid rfl 22 (.tmp 6) rfl (w.heap.size + 1) 0 rfl (ocells 32 []) _ H7.out.zall Tryd.underlying22 rfl (by simpa using HSZ.out) ?_)
      | (refine wpList_store_row rfl 22 (.tmp 4) (.tmp 19) rfl w.heap.size (ocells 32 []).toArray rfl rfl 22 (ocells 32 []).toArray H6.out.heap HSZ.out rfl HON.out ?_)
      | (refine wpList_store_row rfl 22 (.tmp 4) (.tmp 29) rfl w.heap.size (ocells 32 []).toArray rfl rfl 22 (ocells 32 []).toArray H6.out.heap HSZ.out rfl HON.out ?_))
    have hfin := H6.out.row (ocells 32 [])
    exact bodyPost_ret (v := .tuple #[digV Se.zero32, .int .i64 28]) (by unfold digV; rw [Se.zero32_cells]; exact results_row_tmp rfl _ _ w.heap.size (ocells 32 []) _ _ rfl rfl hfin.zall Tryd.underlying22 rfl (by simpa using HSZ.out)) rfl ⟨rfl, HO2.out.andThen (Only.setRow _ _) (fun k hk e => by omega)⟩

set_option maxRecDepth 100000 in
set_option maxHeartbeats 2000000 in
theorem r5unlock_any {w : World} {S : Nat → Prop} {pw f : List UInt8} {vf : Value} (hg : Se.good pw = true) (hb : BytesAt w S vf f) (hS : ∀ k, S k → k < w.heap.size) :
    Calls Tryd.prog 24 #[textV pw, vf] w (Unls5 w pw f) := by
  have hgl := of_decide_eq_true hg
  have hpl := hgl.2
  have g0 : ¬ (pw.length : Int) < 1 := by omega
  have g1 : ¬ (pw.length : Int) > 1024 := by omega
  obtain ⟨fa, fc, rfl⟩ := hb.shape
  have HB := Lib.hid hb; have HS := Lib.hid hS; have HPL := Lib.hid hpl
  have hz2 : Blk ((w.alloc (.cells (ocells 32 []).toArray 22)).alloc (.cells (ocells 32 []).toArray 22)) (w.heap.size + 1) (ocells 32 []) 22 := Blk.new1 _ _ _ _
  have hz1 := (Blk.new w (ocells 32 []) 22).alloc (.cells (ocells 32 []).toArray 22)
  have ho2 : Only (fun k => k = w.heap.size + 1) ((w.alloc (.cells (ocells 32 []).toArray 22)).alloc (.cells (ocells 32 []).toArray 22)) (((w.alloc (.cells (ocells 32 []).toArray 22)).alloc (.cells (ocells 32 []).toArray 22)).setRow (w.heap.size + 1) (ocells 32 []).toArray) := Only.setRow _ _
  have HZ2 := Lib.hid hz2; have H7 := Lib.hid (hz2.row (ocells 32 [])); have H6 := Lib.hid (hz1.keep ho2 (by omega))
  have HO2 : Hid (Only (fun _ => False) w (((w.alloc (.cells (ocells 32 []).toArray 22)).alloc (.cells (ocells 32 []).toArray 22)).setRow (w.heap.size + 1) (ocells 32 []).toArray)) := ((Only.alloc _).trans (Only.alloc _)).andThen ho2 (fun k hk e => by omega)
  have HBU := Lib.hid built_z32; have HSZ := Lib.hid size_z32; have HON := Lib.hid one_z32
  clear hz1 hz2 ho2
  by_cases hlen : f.length = 101
  case neg =>
    have HN : Hid (¬ Se.Unl pw f) := fun h => hlen h.1
    have hne : ¬ (f.length : Int) = 101 := by omega
    clear hg hgl hpl hb hS hlen
    unfold textV
    go_enter Tryd.func24, Tryd.ntmps24
    go_wp2_with (first
      | (refine wpList_build_as rfl 22 _ rfl [] rfl _ HBU.out ?_)
      | (refine wpList_store_row rfl 22 (.tmp 6) (.tmp 10) rfl (w.heap.size + 1) (ocells 32 []).toArray rfl rfl 22 (ocells 32 []).toArray HZ2.out.heap HSZ.out rfl HON.out ?_; rw [← z32]; generalize ((w.alloc (.cells (ocells 32 []).toArray 22)).alloc (.cells (ocells 32 []).toArray 22)).setRow (w.heap.size + 1) (ocells 32 []).toArray = w2 at *)
      | (refine wpList_load_mid rfl 22 (.tmp 6) rfl (w.heap.size + 1) 0 rfl (ocells 32 []) _ H7.out.zall Tryd.underlying22 rfl (by simpa using HSZ.out) ?_)
      | (refine wpList_store_row rfl 22 (.tmp 4) (.tmp 19) rfl w.heap.size (ocells 32 []).toArray rfl rfl 22 (ocells 32 []).toArray H6.out.heap HSZ.out rfl HON.out ?_)
      | (refine wpList_store_row rfl 22 (.tmp 4) (.tmp 29) rfl w.heap.size (ocells 32 []).toArray rfl rfl 22 (ocells 32 []).toArray H6.out.heap HSZ.out rfl HON.out ?_))
    have hfin := H6.out.row (ocells 32 [])
    exact bodyPost_ret (v := .tuple #[digV Se.zero32, .int .i64 10]) (by unfold digV; rw [Se.zero32_cells]; exact results_row_tmp rfl _ _ w.heap.size (ocells 32 []) _ _ rfl rfl hfin.zall Tryd.underlying22 rfl (by simpa using HSZ.out)) rfl (.inr ⟨HN.out, rfl, HO2.out.andThen (Only.setRow _ _) (fun k hk e => by omega)⟩)
  case pos =>
    obtain ⟨hp8, hc8⟩ := pre_at hb (k := 8) (by omega)
    have hs8 : ∀ W : World, (Instr.slice 23 (.slice fa 101 fc) none (some (.int .i64 8)) none).run Tryd.prog W = .ok (.slice fa 8 fc) W := fun W => slice_h (m := 8) hc8 W
    have ht8 := (hp8.here HO2.out hS).text
    have HLN := Lib.hid hlen
    rw [hlen]
    by_cases hpre : f.take 8 = Se.amphora1
    case neg =>
      have HN : Hid (¬ Se.Unl pw f) := fun h => hpre h.2.1
      have hne : (f.take 8 == [97, 109, 112, 104, 111, 114, 97, 49]) = false := by simpa [Se.amphora1] using hpre
      clear hg hgl hpl hb hS hlen hp8 hc8 hpre
      generalize f.take 8 = P at *
      unfold textV
      go_enter Tryd.func24, Tryd.ntmps24
      go_wp2_with (first
        | (refine wpList_build_as rfl 22 _ rfl [] rfl _ HBU.out ?_)
        | (refine wpList_store_row rfl 22 (.tmp 6) (.tmp 10) rfl (w.heap.size + 1) (ocells 32 []).toArray rfl rfl 22 (ocells 32 []).toArray HZ2.out.heap HSZ.out rfl HON.out ?_; rw [← z32]; generalize ((w.alloc (.cells (ocells 32 []).toArray 22)).alloc (.cells (ocells 32 []).toArray 22)).setRow (w.heap.size + 1) (ocells 32 []).toArray = w2 at *)
        | (refine wpList_load_mid rfl 22 (.tmp 6) rfl (w.heap.size + 1) 0 rfl (ocells 32 []) _ H7.out.zall Tryd.underlying22 rfl (by simpa using HSZ.out) ?_)
        | (refine wpList_store_row rfl 22 (.tmp 4) (.tmp 19) rfl w.heap.size (ocells 32 []).toArray rfl rfl 22 (ocells 32 []).toArray H6.out.heap HSZ.out rfl HON.out ?_)
        | (refine wpList_store_row rfl 22 (.tmp 4) (.tmp 29) rfl w.heap.size (ocells 32 []).toArray rfl rfl 22 (ocells 32 []).toArray H6.out.heap HSZ.out rfl HON.out ?_))
      have hfin := H6.out.row (ocells 32 [])
      exact bodyPost_ret (v := .tuple #[digV Se.zero32, .int .i64 10]) (by unfold digV; rw [Se.zero32_cells]; exact results_row_tmp rfl _ _ w.heap.size (ocells 32 []) _ _ rfl rfl hfin.zall Tryd.underlying22 rfl (by simpa using HSZ.out)) rfl (.inr ⟨HN.out, rfl, HO2.out.andThen (Only.setRow _ _) (fun k hk e => by omega)⟩)
    case pos =>
      obtain ⟨g1', o1, hs1, hr1, hg1⟩ := mid_at hb (i := 8) (j := 24) (by omega) (by omega) (by omega)
      obtain ⟨g3, o3, hs3, hr3, hg3, hc3⟩ := tail_at hb (i := 24) (by omega) (by omega)
      obtain ⟨_, hc24⟩ := pre_at hb (k := 24) (by omega)
      rw [hlen] at hs1 hs3 hc3
      have hs1' : ∀ W : World, (Instr.slice 23 (.slice fa 101 fc) (some (.int .i64 8)) (some (.int .i64 24)) none).run Tryd.prog W = .ok (.slice (some ⟨g1', o1, none⟩) 16 (fc - 8)) W := hs1
      have hs3' : ∀ W : World, (Instr.slice 23 (.slice fa 101 fc) (some (.int .i64 24)) none none).run Tryd.prog W = .ok (.slice (some ⟨g3, o3, none⟩) 77 (fc - 24)) W := hs3
      have HSL := Lib.hid (Se.salt_len hlen)
      have hr1' : w.rangeAt g1' o1 ((Se.saltIn f).map byteV) := hr1
      have HSA : Hid (∀ W, Only (fun _ => False) w W → BytesAt W (fun k => k < W.heap.size) (.slice (some ⟨g1', o1, none⟩) 16 (fc - 8)) (Se.saltIn f)) := fun W ho => by
        have h := (BytesAt.of_range (bs := Se.saltIn f) (c := fc - 8) (by rw [HSL.out]; omega) (rangeAt_here hr1' ho (hS _ hg1))).mono (S' := fun k => k < W.heap.size) (fun k hk => by rw [hk]; exact Nat.lt_of_lt_of_le (hS _ hg1) ho.size)
        rwa [HSL.out] at h
      have HDL : Hid ((f.drop 24).length = 77) := by unfold Hid; simp [hlen]
      have HBA : Hid (∀ W, Only (fun _ => False) w W → BytesAt W (fun k => k < W.heap.size) (.slice (some ⟨g3, o3, none⟩) 77 (fc - 24)) (f.drop 24)) := fun W ho => by
        have h := (BytesAt.of_range (bs := f.drop 24) (c := fc - 24) (by rw [HDL.out]; exact hc3) (rangeAt_here hr3 ho (hS _ hg3))).mono (S' := fun k => k < W.heap.size) (fun k hk => by rw [hk]; exact Nat.lt_of_lt_of_le (hS _ hg3) ho.size)
        rwa [HDL.out] at h
      have HUN : Hid (Se.Unl pw f ↔ Se.Takes (Se.pass pw (Se.saltIn f)) 1 (Se.saltIn f) (f.drop 24)) := ⟨fun h => h.2.2, fun h => ⟨hlen, hpre, h⟩⟩
      have HML := Lib.hid (Se.master_len (pw := pw) hlen)
      have HMA : Hid (Se.master pw f = Se.plain (Se.pass pw (Se.saltIn f)) (f.drop 24)) := rfl
      rw [hpre] at ht8
      unfold Se.amphora1 at ht8
      clear hg hgl hpl hb hS hlen hp8 hc8 hpre hs1 hs3 hr1 hr3 hg1 hg3 hc3 hr1' hc24
      generalize Se.saltIn f = salt at *
      generalize f.drop 24 = bl at *
      unfold textV
      go_enter Tryd.func24, Tryd.ntmps24
      go_wp2_with (first
        | (refine wpList_build_as rfl 22 _ rfl [] rfl _ HBU.out ?_)
        | (refine wpList_store_row rfl 22 (.tmp 6) (.tmp 10) rfl (w.heap.size + 1) (ocells 32 []).toArray rfl rfl 22 (ocells 32 []).toArray HZ2.out.heap HSZ.out rfl HON.out ?_; rw [← z32]; generalize ((w.alloc (.cells (ocells 32 []).toArray 22)).alloc (.cells (ocells 32 []).toArray 22)).setRow (w.heap.size + 1) (ocells 32 []).toArray = w2 at *)
        | (refine wpList_load_mid rfl 22 (.tmp 6) rfl (w.heap.size + 1) 0 rfl (ocells 32 []) _ H7.out.zall Tryd.underlying22 rfl (by simpa using HSZ.out) ?_)
        | (refine wpList_store_row rfl 22 (.tmp 4) (.tmp 19) rfl w.heap.size (ocells 32 []).toArray rfl rfl 22 (ocells 32 []).toArray H6.out.heap HSZ.out rfl HON.out ?_)
        | (refine wpList_store_row rfl 22 (.tmp 4) (.tmp 29) rfl w.heap.size (ocells 32 []).toArray rfl rfl 22 (ocells 32 []).toArray H6.out.heap HSZ.out rfl HON.out ?_))
      clear ht8 hs8 HZ2
      refine wp_region_any (by kernel_rfl) ?_
      change wpAny _ _ _ _ 14 (Array.replicate 14 false) _ w2.drew
      have HO3 := Lib.hid (HO2.out.trans Only.drew); have H73 := Lib.hid H7.out.drew; have H63 := Lib.hid H6.out.drew
      clear HO2 H7 H6
      generalize w2.drew = w3 at *
      have HP := Lib.hid (r5under_any (pw := pw) (HSA.out _ HO3.out) (fun _ h => h) HSL.out (by have := HPL.out; omega))
      unfold textV at HP
      refine wpAny_take (i := 0) (v := .string ⟨pw.toArray⟩) rfl (by kernel_rfl) (by kernel_rfl) (by kernel_rfl) (fun _ _ _ h => h) (Or.inl ⟨by rfl, fun w => by go_simp⟩) ?_
      simp only [Act.put, List.getElem_toArray, List.getElem_cons_zero, List.setIfInBounds_toArray, List.set_cons_zero, List.set_cons_succ]
      refine wpAny_take (i := 1) (v := .slice fa 101 fc) rfl (by kernel_rfl) (by kernel_rfl) (by kernel_rfl) (fun _ _ _ h => h) (Or.inl ⟨by rfl, fun w => by go_simp⟩) ?_
      simp only [Act.put, List.getElem_toArray, List.getElem_cons_succ, List.getElem_cons_zero, List.setIfInBounds_toArray, List.set_cons_zero, List.set_cons_succ]
      refine wpAny_take (i := 2) (v := .slice (some ⟨g1', o1, none⟩) 16 (fc - 8)) rfl (by kernel_rfl) (by kernel_rfl) (by kernel_rfl) (fun _ _ _ h => h) (Or.inl ⟨by rfl, fun w => by go_simp⟩) ?_
      simp only [Act.put, List.getElem_toArray, List.getElem_cons_succ, List.getElem_cons_zero, List.setIfInBounds_toArray, List.set_cons_zero, List.set_cons_succ]
      refine wpAny_take (i := 4) (v := .slice fa 101 fc) rfl (by kernel_rfl) (by kernel_rfl) (by kernel_rfl) (fun _ _ _ h => h) (Or.inl ⟨by rfl, fun w => by go_simp⟩) ?_
      simp only [Act.put, List.getElem_toArray, List.getElem_cons_succ, List.getElem_cons_zero, List.setIfInBounds_toArray, List.set_cons_zero, List.set_cons_succ]
      refine wpAny_take (i := 5) (v := .slice (some ⟨g1', o1, none⟩) 16 (fc - 8)) rfl (by kernel_rfl) (by kernel_rfl) (by kernel_rfl) (fun _ _ _ h => h) (Or.inl ⟨by rfl, fun w => by go_simp⟩) ?_
      simp only [Act.put, List.getElem_toArray, List.getElem_cons_succ, List.getElem_cons_zero, List.setIfInBounds_toArray, List.set_cons_zero, List.set_cons_succ]
      refine wpAny_take (i := 6) (v := .slice fa 101 fc) rfl (by kernel_rfl) (by kernel_rfl) (by kernel_rfl) (fun _ _ _ h => h) (Or.inl ⟨by rfl, fun w => by go_simp⟩) ?_
      simp only [Act.put, List.getElem_toArray, List.getElem_cons_succ, List.getElem_cons_zero, List.setIfInBounds_toArray, List.set_cons_zero, List.set_cons_succ]
      refine wpAny_take (i := 7) (v := .slice (some ⟨g3, o3, none⟩) 77 (fc - 24)) rfl (by kernel_rfl) (by kernel_rfl) (by kernel_rfl) (fun _ _ _ h => h) (Or.inl ⟨by rfl, fun w => by go_simp⟩) ?_
      simp only [Act.put, List.getElem_toArray, List.getElem_cons_succ, List.getElem_cons_zero, List.setIfInBounds_toArray, List.set_cons_zero, List.set_cons_succ]
      refine wpAny_ready (rs := [3]) (by kernel_rfl) (by simp) (AllReady.cons rfl (fun J hJ => ?_) AllReady.nil)
      go_simp
      refine HP.out.mono ?_
      rintro e w4 ⟨rfl, ho4⟩
      refine hJ _ _ ?_
      clear hJ J HP
      have HO4 := Lib.hid (HO3.out.trans ho4); have H74 := Lib.hid (H73.out.keep ho4 (fun x => x)); have H64 := Lib.hid (H63.out.keep ho4 (fun x => x))
      clear ho4 HO3 H73 H63
      have HOP := Lib.hid (r5open_any (kind := 1) (Se.pass_len pw salt) (HSA.out _ HO4.out) (HBA.out _ HO4.out) (fun _ h => h) ⟨by have := HSL.out; have := HDL.out; omega⟩)
      clear HSA HBA hs1' hs3'
      refine wpAny_ready (rs := [8]) (by kernel_rfl) (by simp) (AllReady.cons rfl (fun J hJ => ?_) AllReady.nil)
      go_simp
      refine HOP.out.mono ?_
      intro e w5 hop
      obtain ⟨D, pa, pc, ev, rfl, hcp, hcase⟩ : ∃ D pa pc, ∃ ev : Int, e = .returned (.tuple #[.slice pa D.length pc, .int .i64 ev]) ∧ Cpy w w5 w.heap.size (w.heap.size + 1) 32 22 (.slice pa D.length pc) D 0 ∧ ((Se.Unl pw f ∧ D = Se.master pw f ∧ ev = 0) ∨ (¬ Se.Unl pw f ∧ D = [] ∧ ev = 10)) := by
        have h7l := H74.out.lt
        rcases hop with ⟨htk, ra, rc, rfl, hr5⟩ | ⟨hnt, rfl, ho5⟩
        · refine ⟨_, ra, rc, 0, rfl, ⟨H64.out.keep hr5.only (fun x => x), by simpa using H74.out.keep hr5.only (fun x => x), (BytesAt.of_row hr5.row).mono (fun k hk => ⟨(hr5.row.lt k hk).2, by have := hr5.own k hk; omega⟩), HO4.out.trans hr5.only⟩, .inl ⟨HUN.out.2 htk, HMA.out.symm, rfl⟩⟩
        · exact ⟨[], none, 0, 10, rfl, ⟨H64.out.keep ho5 (fun x => x), by simpa using H74.out.keep ho5 (fun x => x), .inl ⟨rfl, rfl⟩, HO4.out.trans ho5⟩, .inr ⟨fun h => hnt (HUN.out.1 h), rfl, rfl⟩⟩
      refine hJ _ _ ?_
      have HC := Lib.hid hcp; have HCA := Lib.hid hcase
      have HDM : Hid (D.length ≤ 32) := by
        unfold Hid
        rcases hcase with ⟨_, rfl, _⟩ | ⟨_, rfl, _⟩
        · rw [HML.out]; exact Nat.le_refl _
        · simp
      clear hJ J HOP hop hcp hcase HUN HMA HO4 H74 H64
      refine wpAny_take (i := 9) (v := .tuple #[.slice pa D.length pc, .int .i64 ev]) rfl (by kernel_rfl) (by kernel_rfl) (by kernel_rfl) (fun _ _ _ h => h) (Or.inl ⟨by rfl, fun w => by go_simp⟩) ?_
      simp only [Act.put, List.getElem_toArray, List.getElem_cons_succ, List.getElem_cons_zero, List.setIfInBounds_toArray, List.set_cons_zero, List.set_cons_succ]
      refine wpAny_take (i := 10) (v := .slice pa D.length pc) rfl (by kernel_rfl) (by kernel_rfl) (by kernel_rfl) (fun _ _ _ h => h) (Or.inl ⟨by rfl, fun w => by go_simp⟩) ?_
      simp only [Act.put, List.getElem_toArray, List.getElem_cons_succ, List.getElem_cons_zero, List.setIfInBounds_toArray, List.set_cons_zero, List.set_cons_succ]
      refine wpAny_take (i := 11) (v := .int .i64 ev) rfl (by kernel_rfl) (by kernel_rfl) (by kernel_rfl) (fun _ _ _ h => h) (Or.inl ⟨by rfl, fun w => by go_simp⟩) ?_
      simp only [Act.put, List.getElem_toArray, List.getElem_cons_succ, List.getElem_cons_zero, List.setIfInBounds_toArray, List.set_cons_zero, List.set_cons_succ]
      refine wpAny_take (i := 12) (v := .slice pa D.length pc) rfl (by kernel_rfl) (by kernel_rfl) (by kernel_rfl) (fun _ _ _ h => h) (Or.inl ⟨by rfl, fun w => by go_simp⟩) ?_
      simp only [Act.put, List.getElem_toArray, List.getElem_cons_succ, List.getElem_cons_zero, List.setIfInBounds_toArray, List.set_cons_zero, List.set_cons_succ]
      refine wpAny_take (i := 13) (v := .int .i64 ev) rfl (by kernel_rfl) (by kernel_rfl) (by kernel_rfl) (fun _ _ _ h => h) (Or.inl ⟨by rfl, fun w => by go_simp⟩) ?_
      simp only [Act.put, List.getElem_toArray, List.getElem_cons_succ, List.getElem_cons_zero, List.setIfInBounds_toArray, List.set_cons_zero, List.set_cons_succ]
      refine wpAny_done (by kernel_rfl) ?_ _
      go_wp2_with fail
      go_loopw [9] (fun iv wr => ∃ i : Nat, i ≤ D.length ∧ iv = .int .i64 i ∧ Cpy w wr w.heap.size (w.heap.size + 1) 32 22 (.slice pa D.length pc) D i) (fun iv _ => D.length - (intOf iv).toNat)
      case atStart => exact ⟨0, Nat.zero_le _, rfl, HC.out⟩
      case round =>
        obtain ⟨i, hi, rfl, hcp⟩ := hrel
        by_cases hlt : i < D.length
        · obtain ⟨ad, rfl, hcell⟩ := hcp.src.byte (i := i) hlt
          have hd32 := HDM.out
          have HN := Lib.hid (hcp.next hlt (by omega) (by omega) (by omega))
          have hold : wr.cell? ⟨w.heap.size + 1, i, none⟩ = some (.int .u8 0) := (hcp.seven.cell i).trans (ocells_zero (by rw [List.length_take]; omega) (by omega))
          have hfr := hcp.seven.frozen i
          have pz : 0 ≤ (i : Int) := by omega
          have mz : (i : Int) < (D.length : Int) := by omega
          have mz2 : (i : Int) < 32 := by omega
          clear hcp
          generalize D.getD i 0 = y at *
          go_wp2
          exact ⟨⟨i + 1, by omega, by go_num, HN.out⟩, by simp [intOf]; omega⟩
        · have hti : ¬ (i : Int) < (D.length : Int) := by omega
          have HCP := Lib.hid hcp
          have hsv := hcp.seven
          rw [List.take_of_length_le (by omega)] at hsv
          have HSV : Hid (wr.rangeAt (w.heap.size + 1) 0 (ocells 32 D)) := hsv.range fun j v hv => by rw [Nat.zero_add]; exact hv
          have hd32 := HDM.out
          have HOL : Hid ((ocells 32 D).length = 32) := by unfold Hid ocells; simp; omega
          have HOZ : Hid ((Tryd.prog.info? 22).map (·.size) = some (ocells 32 D).toArray.size) := by
            have e2 : (Tryd.prog.info? 22).map (·.size) = some 32 := by kernel_rfl
            unfold Hid; rw [e2, List.size_toArray, HOL.out]
          have HO1 : Hid ((ocells 32 D).toArray.all (·.oneCell') = true) := by
            unfold Hid ocells; simp [byteV, Value.oneCell']
          clear hcp hsv hd32
          go_wp2_with (first
            | (refine wpList_load_mid rfl 22 (.tmp 6) rfl (w.heap.size + 1) 0 rfl (ocells 32 D) _ HSV.out Tryd.underlying22 rfl (by simpa using HOZ.out) ?_)
            | (refine wpList_store_row rfl 22 (.tmp 4) (.tmp 54) rfl w.heap.size (ocells 32 D).toArray rfl rfl 22 (ocells 32 []).toArray HCP.out.six.heap HOZ.out (by simp [HOL.out]; simp [ocells]) HO1.out ?_))
          have hfin := HCP.out.six.row (ocells 32 D)
          have hall : (wr.setRow w.heap.size (ocells 32 D).toArray).rangeAt w.heap.size 0 (ocells 32 D) := hfin.range fun j v hv => by rw [Nat.zero_add]; exact hv
          have hof : Only (fun _ => False) w (wr.setRow w.heap.size (ocells 32 D).toArray) := HCP.out.only.andThen (Only.setRow _ _) (fun k hk e => by omega)
          refine bodyPost_ret (v := .tuple #[.agg (ocells 32 D).toArray, .int .i64 ev]) (results_row_tmp rfl _ _ w.heap.size (ocells 32 D) _ _ rfl rfl hall Tryd.underlying22 rfl (by simpa using HOZ.out)) rfl ?_
          rcases HCA.out with ⟨hu, rfl, rfl⟩ | ⟨hu, rfl, rfl⟩
          · exact .inl ⟨hu, by unfold digV; rw [ocells_full HML.out], hof⟩
          · exact .inr ⟨hu, by unfold digV; rw [Se.zero32_cells], hof⟩

end Go.Proofs.YtgdnmbchhfbjoaaDoor

namespace Go.Proofs.YtgdnmbchhfbjoaaDoor
open Go.RowKit

namespace Se
theorem file_eq (pw salt m : List UInt8) : file pw salt m = amphora1 ++ (salt ++ blob (pass pw salt) 1 salt m) := by simp [file]
theorem file_len {pw salt m : List UInt8} (hs : salt.length = 16) (hm : m.length = 32) : (file pw salt m).length = 101 := by
  rw [file_eq]; simp [amphora1, hs, blob_len, hm]
theorem file_pre (pw salt m : List UInt8) : (file pw salt m).take 8 = amphora1 := by rw [file_eq]; rfl
theorem file_drop8 (pw salt m : List UInt8) : (file pw salt m).drop 8 = salt ++ blob (pass pw salt) 1 salt m := by rw [file_eq]; rfl
theorem file_salt {pw salt m : List UInt8} (hs : salt.length = 16) : saltIn (file pw salt m) = salt := by
  unfold saltIn
  rw [file_drop8, List.take_append_of_le_length (by omega), List.take_of_length_le (by omega)]
theorem file_blob {pw salt m : List UInt8} (hs : salt.length = 16) : (file pw salt m).drop 24 = blob (pass pw salt) 1 salt m := by
  rw [show 24 = 8 + 16 from rfl, ← List.drop_drop, file_drop8, List.drop_append_of_le_length (by omega), List.drop_of_length_le (by omega), List.nil_append]
/-- What is locked is unlocked. -/
theorem file_unl {pw salt m : List UInt8} (hs : salt.length = 16) (hm : m.length = 32) : Unl pw (file pw salt m) := ⟨file_len hs hm, file_pre pw salt m, by rw [file_salt hs, file_blob hs]; exact blob_takes _ _ _ _⟩
theorem file_master {pw salt m : List UInt8} (hs : salt.length = 16) : master pw (file pw salt m) = m := by
  unfold master
  rw [file_salt hs, file_blob hs, blob_plain]
end Se

/-- A Locked that was boxed in block g. -/
structure LBox (w : World) (g : Nat) (pw salt m : List UInt8) (vf : Value) : Prop where
  blk : Blk w g (locked5 pw salt m vf) 49
  hs : salt.length = 16
  hm : m.length = 32

theorem LBox.keep {w w' : World} {g : Nat} {pw salt m : List UInt8} {vf : Value} (h : LBox w g pw salt m vf) (ho : Only (fun _ => False) w w') : LBox w' g pw salt m vf := ⟨h.blk.keep ho (fun x => x), h.hs, h.hm⟩
theorem LBox.pw {w : World} {g : Nat} {pw salt m : List UInt8} {vf : Value} (h : LBox w g pw salt m vf) : w.cell? ⟨g, 0, none⟩ = some (textV pw) := by rw [h.blk.cell]; rfl
theorem LBox.salt {w : World} {g : Nat} {pw salt m : List UInt8} {vf : Value} (h : LBox w g pw salt m vf) : w.rangeAt g 1 (salt.map byteV) := h.blk.range fun j v hv => by
  have hj := (List.getElem?_eq_some_iff.1 hv).1
  unfold locked5
  rw [List.getElem?_append_right (by simp), show 1 + j - ([textV pw] : List Value).length = j by rw [List.length_singleton]; omega, List.getElem?_append_left hj]
  exact hv
theorem LBox.m {w : World} {g : Nat} {pw salt m : List UInt8} {vf : Value} (h : LBox w g pw salt m vf) : w.rangeAt g 17 (m.map byteV) := h.blk.range fun j v hv => by
  have hj := (List.getElem?_eq_some_iff.1 hv).1
  have hs := h.hs
  unfold locked5
  rw [List.getElem?_append_right (by simp; omega), show 17 + j - ([textV pw] : List Value).length = 16 + j by rw [List.length_singleton]; omega, List.getElem?_append_right (by simp; omega), show 16 + j - (salt.map byteV).length = j by rw [List.length_map]; omega, List.getElem?_append_left hj]
  exact hv
theorem LBox.file {w : World} {g : Nat} {pw salt m : List UInt8} {vf : Value} (h : LBox w g pw salt m vf) : w.cell? ⟨g, 49, none⟩ = some vf := by
  have hs := h.hs
  have hm := h.hm
  rw [h.blk.cell]
  unfold locked5
  rw [List.getElem?_append_right (by simp), show 49 - ([textV pw] : List Value).length = 48 by simp, List.getElem?_append_right (by simp; omega), show 48 - (salt.map byteV).length = 32 by rw [List.length_map]; omega, List.getElem?_append_right (by simp; omega), show 32 - (m.map byteV).length = 0 by rw [List.length_map]; omega]
  rfl

theorem CopyAt.here {w : World} {g c : Nat} {bs : List UInt8} (h : CopyAt w g c bs) : BytesAt w (fun k => k < w.heap.size) (.slice (some ⟨g, 0, none⟩) bs.length c) bs := h.bytes.mono (fun k hk => by rw [hk]; exact h.lt)

end Go.Proofs.YtgdnmbchhfbjoaaDoor

namespace Go.Proofs.YtgdnmbchhfbjoaaDoor
open Go.RowKit

set_option maxRecDepth 100000 in
set_option maxHeartbeats 4000000 in
theorem sealLocks_any {w : World} {pw salt m file : List UInt8} {vf : Value} (hs : salt.length = 16) (hm : m.length = 32) (hb : BytesAt w (fun k => k < w.heap.size) vf file) (hl : file.length ≤ 140737488351232) (hpw : pw.length ≤ maxLen) (hf : Fst w) (ht : Tab w) :
    Calls Tryd.prog 6 #[.agg (locked5 pw salt m vf).toArray] w fun e w' => e = .returned (.bool true) ∧ Only (fun _ => False) w w' := by
  obtain ⟨fa, fc, rfl⟩ := hb.shape
  have ho1 : Only (fun _ => False) w (w.alloc (.cells (locked5 pw salt m (.slice fa file.length fc)).toArray 49)) := Only.alloc _
  have hb1 : LBox (w.alloc (.cells (locked5 pw salt m (.slice fa file.length fc)).toArray 49)) w.heap.size pw salt m (.slice fa file.length fc) := ⟨Blk.new _ _ _, hs, hm⟩
  have HAL := Lib.hid (alive_any (hf.only ho1 (fun x => x)) (ht.only ho1 (fun x => x)))
  have HO1 := Lib.hid ho1; have HB1 := Lib.hid hb1; have HSL := Lib.hid hs; have HML := Lib.hid hm; have HFB := Lib.hid hb; have HF := Lib.hid hf; have HT := Lib.hid ht; have HPW := Lib.hid hpw; have HLF := Lib.hid hl
  have hpl : (pw.length : Int) ≤ 9223372036854775807 := by unfold maxLen at hpw; omega
  clear ho1 hb1 hs hm hb hl hpw hf ht
  go_enter Tryd.func6, Tryd.ntmps6
  go_wp2_with fail
  refine HAL.out.mono ?_
  rintro e w2 ⟨rfl, ho2⟩
  have HO2 := Lib.hid (HO1.out.trans ho2); have HB2 := Lib.hid (HB1.out.keep ho2)
  clear ho2 HAL HO1 HB1
  have c0 := HB2.out.pw
  have c49 := HB2.out.file
  unfold textV at c0
  by_cases hlong : 8192 < pw.length
  · have gl : (pw.length : Int) > 8192 := by omega
    go_wp2_with fail
    go_ret
    exact ⟨rfl, HO2.out⟩
  have gl : ¬ (pw.length : Int) > 8192 := by omega
  go_wp2_with fail
  have ho3 : Only (fun _ => False) w2 (w2.alloc (.cells #[.slice fa file.length fc] 23)) := Only.alloc _
  have hb3 := Blk.new w2 [.slice fa file.length fc] 23
  generalize w2.alloc (.cells #[.slice fa file.length fc] 23) = w3 at *
  have HO3 := Lib.hid (HO2.out.trans ho3); have HB3 := Lib.hid (HB2.out.keep ho3)
  have HLG := Lib.hid (large5_any (part_at hb3 (HFB.out.here HO3.out (fun _ h => h)) (fun _ h => h)) (fun p hp => by
    have h1 := HLF.out
    simp at hp
    subst hp; omega) (by simp))
  clear ho3 hb3 c0 c49 HO2 HB2
  refine HLG.out.mono ?_
  rintro e w3' ⟨rfl, rfl⟩
  clear HLG
  by_cases hbig : 8192 < tot [file]
  · rw [decide_eq_true hbig]
    clear hbig
    go_wp2_with fail
    go_ret
    exact ⟨rfl, HO3.out⟩
  rw [decide_eq_false hbig]
  have hsum : file.length ≤ 8192 := by simp [tot] at hbig; omega
  have HSU := Lib.hid hsum
  clear hsum hbig HLF
  have c49 := HB3.out.file
  have HCP := Lib.hid (copy_any (HFB.out.here HO3.out (fun _ h => h)) (fun _ h => h) (by have := HSU.out; omega))
  go_wp2_with fail
  refine HCP.out.mono ?_
  rintro e w4 ⟨g1, c1, rfl, hx4, _, ho4⟩
  have HO4 := Lib.hid (HO3.out.trans ho4); have HB4 := Lib.hid (HB3.out.keep ho4); have HX4 := Lib.hid hx4
  clear ho4 hx4 HCP HO3 HB3 c49
  -- the two answers of Lock and of Unlock, whatever the password
  obtain ⟨eb, hLK, hRL⟩ : ∃ r : Option (List UInt8), (∀ W, Only (fun _ => False) w W → Calls Tryd.prog 21 #[textV pw, .agg (salt.map byteV).toArray, .agg (m.map byteV).toArray] W fun e w' => ∃ a c, e = .returned (.tuple #[.slice a (r.getD []).length c, errV (if r.isSome then 0 else 28)]) ∧ BytesAt w' (fun k => k < w'.heap.size) (.slice a (r.getD []).length c) (r.getD []) ∧ Only (fun _ => False) W w') ∧
      (∀ W, Only (fun _ => False) w W → Calls Tryd.prog 22 #[textV pw, .agg (salt.map byteV).toArray, .agg (m.map byteV).toArray] W fun e w' => ∃ a c, e = .returned (.tuple #[.slice a (r.getD []).length c, .int .i64 ((if r.isSome then 0 else 28 : Nat) : Int)]) ∧ BytesAt w' (fun k => k < w'.heap.size) (.slice a (r.getD []).length c) (r.getD []) ∧ Only (fun _ => False) W w') := by
    by_cases hg : Se.good pw = true
    · refine ⟨some (Se.file pw salt m), fun W ho => ?_, fun W ho => ?_⟩
      · refine (lock_any (w := W) hg HSL.out HML.out (HF.out.only ho (fun x => x)) (HT.out.only ho (fun x => x))).mono ?_
        rintro e w' ⟨a, c, rfl, hr⟩
        exact ⟨a, c, rfl, hr.bytes, hr.only⟩
      · refine (r5lock_any (w := W) hg HSL.out HML.out).mono ?_
        rintro e w' ⟨a, c, rfl, hr⟩
        exact ⟨a, c, rfl, hr.bytes, hr.only⟩
    · have hg' : Se.good pw = false := by simpa using hg
      refine ⟨none, fun W ho => ?_, fun W ho => ?_⟩
      · refine (lock_bad (w := W) (salt := salt) (m := m) hg').mono ?_
        rintro e w' ⟨rfl, ho'⟩
        exact ⟨none, 0, rfl, .inl ⟨rfl, rfl⟩, ho'⟩
      · refine (r5lock_bad (w := W) (salt := salt) (m := m) hg' HPW.out).mono ?_
        rintro e w' ⟨rfl, ho'⟩
        exact ⟨none, 0, rfl, .inl ⟨rfl, rfl⟩, ho'⟩
  obtain ⟨M, nE, hMl, hUN, hRU⟩ : ∃ (M : List UInt8) (nE : Nat), M.length = 32 ∧ (∀ W v, Only (fun _ => False) w W → BytesAt W (fun k => k < W.heap.size) v file → Calls Tryd.prog 23 #[textV pw, v] W fun e w' => e = .returned (.tuple #[digV M, errV nE]) ∧ Only (fun _ => False) W w') ∧
      (∀ W, Only (fun _ => False) w W → Calls Tryd.prog 24 #[textV pw, .slice fa file.length fc] W fun e w' => e = .returned (.tuple #[digV M, .int .i64 (nE : Int)]) ∧ Only (fun _ => False) W w') := by
    by_cases hg : Se.good pw = true
    · by_cases hu : Se.Unl pw file
      · refine ⟨Se.master pw file, 0, Se.master_len hu.1, fun W v ho hv => ?_, fun W ho => ?_⟩
        · refine (unlock_any (w := W) hg hv (fun _ h => h) (HF.out.only ho (fun x => x)) (HT.out.only ho (fun x => x))).mono ?_
          rintro e w' (⟨_, rfl, ho'⟩ | ⟨hn, _⟩)
          · exact ⟨rfl, ho'⟩
          · exact (hn hu).elim
        · refine (r5unlock_any (w := W) hg (HFB.out.here ho (fun _ h => h)) (fun _ h => h)).mono ?_
          rintro e w' (⟨_, rfl, ho'⟩ | ⟨hn, _⟩)
          · exact ⟨rfl, ho'⟩
          · exact (hn hu).elim
      · refine ⟨Se.zero32, 10, Se.zero32_len, fun W v ho hv => ?_, fun W ho => ?_⟩
        · refine (unlock_any (w := W) hg hv (fun _ h => h) (HF.out.only ho (fun x => x)) (HT.out.only ho (fun x => x))).mono ?_
          rintro e w' (⟨hn, _⟩ | ⟨_, rfl, ho'⟩)
          · exact (hu hn).elim
          · exact ⟨rfl, ho'⟩
        · refine (r5unlock_any (w := W) hg (HFB.out.here ho (fun _ h => h)) (fun _ h => h)).mono ?_
          rintro e w' (⟨hn, _⟩ | ⟨_, rfl, ho'⟩)
          · exact (hu hn).elim
          · exact ⟨rfl, ho'⟩
    · have hg' : Se.good pw = false := by simpa using hg
      refine ⟨Se.zero32, 28, Se.zero32_len, fun W v ho hv => ?_, fun W ho => ?_⟩
      · refine (unlock_bad (w := W) (vf := v) hg').mono ?_
        rintro e w' ⟨rfl, ho'⟩
        exact ⟨rfl, ho'⟩
      · refine (r5unlock_bad (w := W) hg' HPW.out).mono ?_
        rintro e w' ⟨rfl, ho'⟩
        exact ⟨rfl, ho'⟩
  have HLK := Lib.hid hLK; have HRL := Lib.hid hRL; have HUN := Lib.hid hUN; have HRU := Lib.hid hRU; have HMM := Lib.hid hMl
  obtain ⟨nL, hnL⟩ : ∃ n, n = (if eb.isSome then 0 else 28 : Nat) := ⟨_, rfl⟩
  rw [← hnL] at HLK HRL
  have HKP := Lib.hid (fun (W : World) (ho : Only (fun _ => False) w4 W) => kept_any (HX4.out.only ho (fun x => x)) (HFB.out.here (HO4.out.trans ho) (fun _ h => h)) (by have := HSU.out; omega))
  have HNU : Hid (∀ n W, Calls Tryd.prog 25 #[errV n] W fun e w' => e = .returned (.int .i64 (n : Int)) ∧ W = w') := fun n W => by
    by_cases h0 : n = 0
    · subst h0; exact num_nil W
    · rw [errV_pos h0]; exact num_err n W h0
  clear hLK hRL hUN hRU hMl hnL HF HT HPW hlong
  generalize eb.getD [] = X at *
  unfold textV at HLK HRL HUN HRU
  have c0 := HB4.out.pw
  unfold textV at c0
  have HR1 := Lib.hid HB4.out.salt; have HR2 := Lib.hid HB4.out.m
  go_wp2_with (first
    | (refine wpList_load_mid rfl 47 (.tmp 30) rfl w.heap.size 1 rfl (salt.map byteV) _ HR1.out Tryd.underlying47 rfl (by simpa using size_a16 HSL.out) ?_)
    | (refine wpList_load_mid rfl 22 (.tmp 32) rfl w.heap.size 17 rfl (m.map byteV) _ HR2.out Tryd.underlying22 rfl (by simpa using size_a32 HML.out) ?_))
  refine (HLK.out _ HO4.out).mono ?_
  rintro e w5 ⟨a5, c5, rfl, hy5, ho5⟩
  have HO5 := Lib.hid (HO4.out.trans ho5); have HB5 := Lib.hid (HB4.out.keep ho5); have HY5 := Lib.hid hy5; have HW5 := Lib.hid ho5
  clear hy5 ho5 HLK HR1 HR2 c0 HO4 HB4
  have c0 := HB5.out.pw
  unfold textV at c0
  have HR1 := Lib.hid HB5.out.salt; have HR2 := Lib.hid HB5.out.m
  go_wp2_with (first
    | (refine wpList_load_mid rfl 47 (.tmp 40) rfl w.heap.size 1 rfl (salt.map byteV) _ HR1.out Tryd.underlying47 rfl (by simpa using size_a16 HSL.out) ?_)
    | (refine wpList_load_mid rfl 22 (.tmp 42) rfl w.heap.size 17 rfl (m.map byteV) _ HR2.out Tryd.underlying22 rfl (by simpa using size_a32 HML.out) ?_))
  refine (HRL.out _ HO5.out).mono ?_
  rintro e w6 ⟨a6, c6, rfl, hy6, ho6⟩
  have HO6 := Lib.hid (HO5.out.trans ho6); have HB6 := Lib.hid (HB5.out.keep ho6); have HY6 := Lib.hid hy6; have HX6 := Lib.hid (HY5.out.here ho6 (fun _ h => h)); have HW6 := Lib.hid (HW5.out.trans ho6)
  clear hy6 ho6 HRL HR1 HR2 c0 HO5 HB5 HY5 HW5
  have c0 := HB6.out.pw
  unfold textV at c0
  go_wp2_with fail
  refine (HUN.out _ _ HO6.out (HX4.out.only HW6.out (fun x => x)).here).mono ?_
  rintro e w7 ⟨rfl, ho7⟩
  have ho8 : Only (fun _ => False) w7 (w7.alloc (.cells (M.map byteV).toArray 22)) := Only.alloc _
  have hb8 := Blk.new w7 (M.map byteV) 22
  have HO8 := Lib.hid (HO6.out.trans (ho7.trans ho8)); have HB8 := Lib.hid (HB6.out.keep (ho7.trans ho8)); have HM8 := Lib.hid hb8; have HY8 := Lib.hid (HY6.out.here (ho7.trans ho8) (fun _ h => h)); have HX8 := Lib.hid (HX6.out.here (ho7.trans ho8) (fun _ h => h)); have HW8 := Lib.hid (HW6.out.trans (ho7.trans ho8))
  clear ho7 ho8 hb8 HUN c0 HO6 HB6 HY6 HX6 HW6
  generalize hw8 : w7.alloc (.cells (M.map byteV).toArray 22) = w8 at *
  have c0 := HB8.out.pw
  have c49 := HB8.out.file
  unfold textV at c0
  go_wp2_with (refine wpList_store_row rfl 22 (.tmp 8) (.tmp 52) rfl w7.heap.size (M.map byteV).toArray rfl rfl 22 (ocells 32 []).toArray (heap_alloc_last _ _) (size_a32 HMM.out) (by simp [ocells, HMM.out]) (oneCell_bytes _) ?_; rw [World.setRow_alloc_new, hw8])
  clear hw8
  refine (HRU.out _ HO8.out).mono ?_
  rintro e w9 ⟨rfl, ho9⟩
  have ho10 : Only (fun _ => False) w9 (w9.alloc (.cells (M.map byteV).toArray 22)) := Only.alloc _
  have hb10 := Blk.new w9 (M.map byteV) 22
  have HO10 := Lib.hid (HO8.out.trans (ho9.trans ho10)); have HB10 := Lib.hid (HB8.out.keep (ho9.trans ho10)); have HN10 := Lib.hid hb10; have HM10 := Lib.hid (HM8.out.keep (ho9.trans ho10) (fun x => x)); have HY10 := Lib.hid (HY8.out.here (ho9.trans ho10) (fun _ h => h)); have HX10 := Lib.hid (HX8.out.here (ho9.trans ho10) (fun _ h => h)); have HW10 := Lib.hid (HW8.out.trans (ho9.trans ho10))
  clear ho9 ho10 hb10 HRU c0 c49 HO8 HB8 HY8 HX8 HW8 HM8
  generalize hw10 : w9.alloc (.cells (M.map byteV).toArray 22) = w10 at *
  have t1 := HX10.out.text
  have t2 := HY10.out.text
  have c49 := HB10.out.file
  have HKK := Lib.hid (HKP.out _ HW10.out)
  have HL1 := Lib.hid HM10.out.all; have HL2 := Lib.hid HN10.out.all
  have hgd := dig_guard2
  have heql := dig_eql HMM.out
  unfold digV at hgd heql
  clear HKP HB10 HY10 HX10 HW10 HM10 HN10 HX4 HFB
  go_wp2_with (refine wpList_store_row rfl 22 (.tmp 10) (.tmp 60) rfl w9.heap.size (M.map byteV).toArray rfl rfl 22 (ocells 32 []).toArray (heap_alloc_last _ _) (size_a32 HMM.out) (by simp [ocells, HMM.out]) (oneCell_bytes _) ?_; rw [World.setRow_alloc_new, hw10])
  clear hw10
  refine (HNU.out _ _).mono ?_
  rintro e w11 ⟨rfl, rfl⟩
  go_wp2_with (first
    | (refine wpList_wanted rfl (fun K hK => wp_load_mid 22 (.tmp 8) rfl w7.heap.size 0 rfl (M.map byteV) _ HL1.out Tryd.underlying22 rfl (by simpa using size_a32 HMM.out) (hK _ _ ?_)))
    | (refine wpList_wanted rfl (fun K hK => wp_load_mid 22 (.tmp 10) rfl w9.heap.size 0 rfl (M.map byteV) _ HL2.out Tryd.underlying22 rfl (by simpa using size_a32 HMM.out) (hK _ _ ?_))))
  refine (HNU.out _ _).mono ?_
  rintro e w11 ⟨rfl, rfl⟩
  go_wp2_with fail
  refine HKK.out.mono ?_
  rintro e w11 ⟨rfl, rfl⟩
  go_wp2_with fail
  go_ret
  exact ⟨rfl, HO10.out⟩

end Go.Proofs.YtgdnmbchhfbjoaaDoor
