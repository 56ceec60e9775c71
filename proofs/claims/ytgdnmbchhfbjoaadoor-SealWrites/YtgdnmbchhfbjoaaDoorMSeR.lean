/- The document's own keys, tags, blobs. Conditions: few bytes. -/
import Derived.Test.YtgdnmbchhfbjoaaDoorMSeA
import Derived.Test.YtgdnmbchhfbjoaaDoorMRefH
import Derived.Test.YtgdnmbchhfbjoaaDoorMRefC
import Derived.BigQuiet

namespace Go.Proofs.YtgdnmbchhfbjoaaDoor
open Go.RowKit

theorem ocells_next {n i : Nat} {D : List UInt8} (h : i < D.length) (hn : i < n) : (ocells n (D.take i)).set i (.int .u8 ((D.getD i 0).toNat : Int)) = ocells n (D.take (i + 1)) := by
  have hl : (D.take i).length = i := by rw [List.length_take]; omega
  have := ocells_set (n := n) (D.take i) D[i] (by omega)
  rw [hl] at this
  rw [show D.getD i 0 = D[i] by simp [List.getD, h], List.take_succ_eq_append_getElem h]
  exact this

/-- A row that is being filled, byte by byte, beside a row that stays. -/
structure Cpy (w wr : World) (g6 g7 n : Nat) (T : TypeId) (v : Value) (D : List UInt8) (i : Nat) : Prop where
  six : Blk wr g6 (ocells n []) T
  seven : Blk wr g7 (ocells n (D.take i)) T
  src : BytesAt wr (fun k => k < wr.heap.size ∧ k ≠ g7) v D
  only : Only (fun _ => False) w wr

theorem Cpy.next {w wr : World} {g6 g7 n i : Nat} {T : TypeId} {v : Value} {D : List UInt8} (h : Cpy w wr g6 g7 n T v D i) (hi : i < D.length) (hn : i < n) (h6 : g6 ≠ g7) (hw : w.heap.size ≤ g7) : Cpy w (wr.setCell ⟨g7, i, none⟩ (.int .u8 ((D.getD i 0).toNat : Int))) g6 g7 n T v D (i + 1) := by
  have ho : Only (fun k => k = g7) wr (wr.setCell ⟨g7, i, none⟩ (.int .u8 ((D.getD i 0).toNat : Int))) := Only.setCell (w := wr) ⟨g7, i, none⟩ _
  refine ⟨h.six.keep ho h6, ?_, ?_, h.only.andThen ho (fun k hk e => by omega)⟩
  · have := h.seven.set i (.int .u8 ((D.getD i 0).toNat : Int))
    rwa [ocells_next hi hn] at this
  · exact (h.src.only ho (fun k hk => hk.1) (fun k hk => hk.2)).mono (fun k hk => ⟨Nat.lt_of_lt_of_le hk.1 ho.size, hk.2⟩)

set_option maxRecDepth 100000 in
set_option maxHeartbeats 1000000 in
theorem r5derived_any {w : World} {S : Nat → Prop} {vs vk : Value} {salt secret : List UInt8} (info : List UInt8) (hs : BytesAt w S vs salt) (hk : BytesAt w S vk secret) (hS : ∀ k, S k → k < w.heap.size) (h1 : salt.length ≤ 1048576) (h2 : secret.length ≤ 1048576) (h3 : info.length ≤ 1048576) :
    Calls Tryd.prog 29 #[vs, vk, .string ⟨info.toArray⟩] w fun e w' => e = .returned (digV (derived salt secret info 32)) ∧ Only (fun _ => False) w w' := by
  obtain ⟨sa, sc, rfl⟩ := hs.shape
  obtain ⟨ka, kc, rfl⟩ := hk.shape
  have hz : Blk ((w.alloc (.cells (ocells 32 []).toArray 22)).alloc (.cells (ocells 32 []).toArray 22)) (w.heap.size + 1) (ocells 32 []) 22 := Blk.new1 _ _ _ _
  have hz0 := (Blk.new w (ocells 32 []) 22).alloc (.cells (ocells 32 []).toArray 22)
  have ho0 : Only (fun k => k = w.heap.size + 1) ((w.alloc (.cells (ocells 32 []).toArray 22)).alloc (.cells (ocells 32 []).toArray 22)) (((w.alloc (.cells (ocells 32 []).toArray 22)).alloc (.cells (ocells 32 []).toArray 22)).setRow (w.heap.size + 1) (ocells 32 []).toArray) := Only.setRow _ _
  have H7 := Lib.hid (hz.row (ocells 32 [])); have H6 := Lib.hid (hz0.keep ho0 (by omega))
  have HO : Hid (Only (fun _ => False) w (((w.alloc (.cells (ocells 32 []).toArray 22)).alloc (.cells (ocells 32 []).toArray 22)).setRow (w.heap.size + 1) (ocells 32 []).toArray)) := ((Only.alloc _).trans (Only.alloc _)).andThen ho0 (fun k hk e => by omega)
  have HSA := Lib.hid hs; have HKA := Lib.hid hk; have HS := Lib.hid hS; have HBU := Lib.hid built_z32; have HSZ := Lib.hid size_z32; have HON := Lib.hid one_z32; have HZ := Lib.hid hz
  have HL1 := Lib.hid h1; have HL2 := Lib.hid h2; have HL3 := Lib.hid h3
  have HDL := Lib.hid (derived_len salt secret info 32)
  clear hs hk hS h1 h2 h3 hz hz0 ho0
  go_enter Tryd.func29, Tryd.ntmps29
  go_wp2_with (first
    | (refine wpList_build_as rfl 22 _ rfl [] rfl _ HBU.out ?_)
    | (refine wpList_store_row rfl 22 (.tmp 7) (.tmp 11) rfl (w.heap.size + 1) (ocells 32 []).toArray rfl rfl 22 (ocells 32 []).toArray HZ.out.heap HSZ.out rfl HON.out ?_; rw [← z32]; generalize ((w.alloc (.cells (ocells 32 []).toArray 22)).alloc (.cells (ocells 32 []).toArray 22)).setRow (w.heap.size + 1) (ocells 32 []).toArray = w1 at *; obtain ⟨c2, w2, hcv, hb2, hlt2, ho2⟩ := conv_text w1 info))
  have hd := rDerive_any (n := 32) (HSA.out.here (HO.out.trans ho2) HS.out) (HKA.out.here (HO.out.trans ho2) HS.out) (hb2.mono (S' := fun k => k < w2.heap.size) (fun k hk => by omega)) (fun _ h => h) (by have := HL1.out; omega) (by have := HL2.out; omega) (by have := HL3.out; omega) (by omega)
  have HD := Lib.hid hd
  have HO2 := Lib.hid (HO.out.trans ho2); have H72 := Lib.hid (H7.out.keep ho2 (fun x => x)); have H62 := Lib.hid (H6.out.keep ho2 (fun x => x))
  clear hd hb2 hlt2 ho2 HO H7 H6 HSA HKA HS HZ hcv
  refine HD.out.mono ?_
  rintro e w3 ⟨a3, c3, rfl, hb3, ho3⟩
  have h7lt := H72.out.lt
  have HC : Hid (Cpy w w3 w.heap.size (w.heap.size + 1) 32 22 (.slice a3 32 c3) (derived salt secret info 32) 0) := ⟨H62.out.keep ho3 (fun x => x), by simpa using H72.out.keep ho3 (fun x => x), hb3.mono (fun k hk => ⟨hk.2, by omega⟩), HO2.out.trans ho3⟩
  clear hb3 ho3 HD HO2 H72 H62 h7lt
  generalize hD : derived salt secret info 32 = D at *
  go_wp2_with fail
  go_loopw [10] (fun iv wr => ∃ i : Nat, i ≤ 32 ∧ iv = .int .i64 i ∧ Cpy w wr w.heap.size (w.heap.size + 1) 32 22 (.slice a3 32 c3) D i) (fun iv _ => 32 - (intOf iv).toNat)
  case atStart => exact ⟨0, Nat.zero_le _, rfl, HC.out⟩
  case round =>
    obtain ⟨i, hi, rfl, hcp⟩ := hrel
    by_cases hlt : i < 32
    · obtain ⟨ad, rfl, hcell⟩ := hcp.src.byte (i := i) (by rw [HDL.out]; exact hlt)
      have HN := Lib.hid (hcp.next (by rw [HDL.out]; exact hlt) hlt (by omega) (by omega))
      have hold : wr.cell? ⟨w.heap.size + 1, i, none⟩ = some (.int .u8 0) := (hcp.seven.cell i).trans (ocells_zero (by rw [List.length_take]; omega) hlt)
      have hfr := hcp.seven.frozen i
      have pz : 0 ≤ (i : Int) := by omega
      have mz : (i : Int) < 32 := by omega
      clear hcp
      generalize D.getD i 0 = x at *
      go_wp2
      exact ⟨⟨i + 1, by omega, by go_num, HN.out⟩, by simp [intOf]; omega⟩
    · obtain rfl : i = 32 := by omega
      have HCP := Lib.hid hcp
      have HSV : Hid (Blk wr (w.heap.size + 1) (D.map byteV) 22) := by
        have := hcp.seven
        rwa [List.take_of_length_le (by rw [HDL.out]; exact Nat.le_refl _), ocells_full HDL.out] at this
      clear hcp
      go_wp2_with (first
        | (refine wpList_load_row rfl 22 (.tmp 7) rfl (w.heap.size + 1) rfl 22 (D.map byteV).toArray (0, 0) _ HSV.out.heap Tryd.underlying22 rfl (size_a32 HDL.out) ?_)
        | (refine wpList_store_row rfl 22 (.tmp 6) (.tmp 30) rfl w.heap.size (D.map byteV).toArray rfl rfl 22 (ocells 32 []).toArray HCP.out.six.heap (size_a32 HDL.out) (by simp [ocells, HDL.out]) (oneCell_bytes _) ?_))
      have hfin := HCP.out.six.row (D.map byteV)
      exact bodyPost_ret (v := digV D) (results_cell_row rfl _ _ w.heap.size 22 _ (0, 0) _ rfl hfin Tryd.underlying22 rfl (size_a32 HDL.out)) rfl ⟨by rw [hD], HCP.out.only.andThen (Only.setRow _ _) (fun k hk e => by omega)⟩

end Go.Proofs.YtgdnmbchhfbjoaaDoor

namespace Go.Proofs.YtgdnmbchhfbjoaaDoor
open Go.RowKit

set_option maxRecDepth 100000 in
set_option maxHeartbeats 1000000 in
theorem r5from_any {w : World} {m : List UInt8} (hm : m.length = 32) :
    Calls Tryd.prog 12 #[digV m] w fun e w' => e = .returned (digV (Se.keys m)) ∧ Only (fun _ => False) w w' := by
  obtain ⟨hzk, hzn⟩ := zero_keys
  obtain ⟨Z, hZ⟩ : ∃ Z, Z = (ocells 96 []).toArray := ⟨_, rfl⟩
  rw [← hZ] at hzk
  have hb0 := ((Blk.new w (m.map byteV) 22).alloc (.cells Z 29)).alloc (.cells (Se.amphora.map byteV).toArray 5 (7, 7 + 1))
  have hz0 : Blk (((w.alloc (.cells (m.map byteV).toArray 22)).alloc (.cells Z 29)).alloc (.cells (Se.amphora.map byteV).toArray 5 (7, 7 + 1))) (w.heap.size + 1) (ocells 96 []) 29 := by
    rw [hZ]; exact (Blk.new1 w (.cells (m.map byteV).toArray 22) (ocells 96 []) 29).alloc _
  have hh0 : (((w.alloc (.cells (m.map byteV).toArray 22)).alloc (.cells Z 29)).alloc (.cells (Se.amphora.map byteV).toArray 5 (7, 7 + 1))).heap[w.heap.size + 1 + 1]? = some (.cells (Se.amphora.map byteV).toArray 5 (7, 7 + 1)) := by
    have := heap_alloc_last ((w.alloc (.cells (m.map byteV).toArray 22)).alloc (.cells Z 29)) (.cells (Se.amphora.map byteV).toArray 5 (7, 7 + 1))
    rwa [World.size_alloc, World.size_alloc] at this
  have ho0 : Only (fun _ => False) w (((w.alloc (.cells (m.map byteV).toArray 22)).alloc (.cells Z 29)).alloc (.cells (Se.amphora.map byteV).toArray 5 (7, 7 + 1))) := ((Only.alloc _).trans (Only.alloc _)).trans (Only.alloc _)
  have HB0 := Lib.hid hb0; have HZ0 := Lib.hid hz0; have HH0 := Lib.hid hh0; have HO0 := Lib.hid ho0; have HML := Lib.hid hm
  have HKL := Lib.hid (Se.keys_len m)
  have kc2 : ∀ (w : World) (X Y : Obj) (C : Array Value) (n c : Nat), (convert 23 23 (.slice (some ⟨w.heap.size + 1 + 1, 0, none⟩) n c)).run Tryd.prog (((w.alloc X).alloc Y).alloc (.cells C 5)) = .ok (.slice (some ⟨w.heap.size + 1 + 1, 0, none⟩) n c) (((w.alloc X).alloc Y).alloc (.cells C 5 (C.size, C.size + 1))) := by
    intro w X Y C n c
    have := Lib.run_convert_bytes_const (P := Tryd.prog) ((w.alloc X).alloc Y) 23 5 C n c Tryd.underlying23 Tryd.underlying5
    simpa using this
  clear hb0 hz0 hh0 ho0 hm hZ
  unfold digV
  go_enter Tryd.func12, Tryd.ntmps12
  go_wp2_with fail
  refine wp_region_any (by kernel_rfl) ?_
  change wpAny _ _ _ _ 11 (Array.replicate 11 false) _ (World.drew (((w.alloc (.cells (m.map byteV).toArray 22)).alloc (.cells Z 29)).alloc (.cells (Se.amphora.map byteV).toArray 5 (7, 7 + 1))))
  generalize ((w.alloc (.cells (m.map byteV).toArray 22)).alloc (.cells Z 29)).alloc (.cells (Se.amphora.map byteV).toArray 5 (7, 7 + 1)) = w0 at *
  have HB1 := Lib.hid HB0.out.drew; have HZ1 := Lib.hid HZ0.out.drew; have HO1 := Lib.hid (HO0.out.trans Only.drew)
  have HH1 : Hid (w0.drew.heap[w.heap.size + 1 + 1]? = some (.cells (Se.amphora.map byteV).toArray 5 (7, 7 + 1))) := HH0.out
  clear HB0 HZ0 HO0 HH0 kc2 hzk
  generalize w0.drew = w1 at *
  have HD := Lib.hid (fun (W : World) (ho : Only (fun _ => False) w1 W) (info : List UInt8) (hi : info.length ≤ 1048576) => r5derived_any (w := W) info (((BytesAt.of_marked (bs := Se.amphora) (c := 7) HH1.out (by decide)).mono (S' := fun k => k < w1.heap.size) (fun k hk => by rw [hk]; exact lt_of_heap HH1.out)).here ho (fun _ h => h)) (((HB1.out.keep ho (fun x => x)).whole HML.out)) (fun _ h => h) (by decide) (by have := HML.out; omega) hi)
  refine wpAny_take (i := 0) (v := .slice (some ⟨w.heap.size + 1 + 1, 0, none⟩) 7 7) rfl (by kernel_rfl) (by kernel_rfl) (by kernel_rfl) (fun _ _ _ h => h) (Or.inl ⟨by rfl, fun w => by go_simp⟩) ?_
  simp only [Act.put, List.getElem_toArray, List.getElem_cons_zero, List.setIfInBounds_toArray, List.set_cons_zero, List.set_cons_succ]
  refine wpAny_take (i := 1) (v := .slice (some ⟨w.heap.size, 0, none⟩) 32 32) rfl (by kernel_rfl) (by kernel_rfl) (by kernel_rfl) (fun _ _ _ h => h) (Or.inl ⟨by rfl, fun w => by go_simp⟩) ?_
  simp only [Act.put, List.getElem_toArray, List.getElem_cons_succ, List.getElem_cons_zero, List.setIfInBounds_toArray, List.set_cons_zero, List.set_cons_succ]
  refine wpAny_take (i := 3) (v := .slice (some ⟨w.heap.size + 1 + 1, 0, none⟩) 7 7) rfl (by kernel_rfl) (by kernel_rfl) (by kernel_rfl) (fun _ _ _ h => h) (Or.inl ⟨by rfl, fun w => by go_simp⟩) ?_
  simp only [Act.put, List.getElem_toArray, List.getElem_cons_succ, List.getElem_cons_zero, List.setIfInBounds_toArray, List.set_cons_zero, List.set_cons_succ]
  refine wpAny_take (i := 4) (v := .slice (some ⟨w.heap.size, 0, none⟩) 32 32) rfl (by kernel_rfl) (by kernel_rfl) (by kernel_rfl) (fun _ _ _ h => h) (Or.inl ⟨by rfl, fun w => by go_simp⟩) ?_
  simp only [Act.put, List.getElem_toArray, List.getElem_cons_succ, List.getElem_cons_zero, List.setIfInBounds_toArray, List.set_cons_zero, List.set_cons_succ]
  refine wpAny_take (i := 6) (v := .slice (some ⟨w.heap.size + 1 + 1, 0, none⟩) 7 7) rfl (by kernel_rfl) (by kernel_rfl) (by kernel_rfl) (fun _ _ _ h => h) (Or.inl ⟨by rfl, fun w => by go_simp⟩) ?_
  simp only [Act.put, List.getElem_toArray, List.getElem_cons_succ, List.getElem_cons_zero, List.setIfInBounds_toArray, List.set_cons_zero, List.set_cons_succ]
  refine wpAny_take (i := 7) (v := .slice (some ⟨w.heap.size, 0, none⟩) 32 32) rfl (by kernel_rfl) (by kernel_rfl) (by kernel_rfl) (fun _ _ _ h => h) (Or.inl ⟨by rfl, fun w => by go_simp⟩) ?_
  simp only [Act.put, List.getElem_toArray, List.getElem_cons_succ, List.getElem_cons_zero, List.setIfInBounds_toArray, List.set_cons_zero, List.set_cons_succ]
  refine wpAny_ready (rs := [2]) (by kernel_rfl) (by simp) (AllReady.cons rfl (fun J hJ => ?_) AllReady.nil)
  go_simp
  refine (HD.out _ (Only.refl _ _) Se.tCipher (by decide)).mono ?_
  rintro e w2 ⟨rfl, ho2⟩
  refine hJ _ _ ?_
  clear hJ J
  refine wpAny_ready (rs := [5]) (by kernel_rfl) (by simp) (AllReady.cons rfl (fun J hJ => ?_) AllReady.nil)
  go_simp
  refine (HD.out _ ho2 Se.tMac (by decide)).mono ?_
  rintro e w3 ⟨rfl, ho3⟩
  refine hJ _ _ ?_
  clear hJ J
  refine wpAny_ready (rs := [8]) (by kernel_rfl) (by simp) (AllReady.cons rfl (fun J hJ => ?_) AllReady.nil)
  go_simp
  refine (HD.out _ (ho2.trans ho3) Se.tName (by decide)).mono ?_
  rintro e w4 ⟨rfl, ho4⟩
  refine hJ _ _ ?_
  clear hJ J
  have HO4 := Lib.hid (HO1.out.trans ((ho2.trans ho3).trans ho4)); have HZ4 := Lib.hid (HZ1.out.keep ((ho2.trans ho3).trans ho4) (fun x => x))
  have l1 := derived_len Se.amphora m Se.tCipher 32
  have l2 := derived_len Se.amphora m Se.tMac 32
  have l3 := derived_len Se.amphora m Se.tName 32
  have hk : Se.keys m = derived Se.amphora m Se.tCipher 32 ++ derived Se.amphora m Se.tMac 32 ++ derived Se.amphora m Se.tName 32 := rfl
  rw [hk] at HKL
  have HK := Lib.hid hk
  clear hk ho2 ho3 ho4 HD HO1 HZ1 HH1 HB1
  generalize derived Se.amphora m Se.tCipher 32 = d1 at *
  generalize derived Se.amphora m Se.tMac 32 = d2 at *
  generalize derived Se.amphora m Se.tName 32 = d3 at *
  refine wpAny_ready (rs := [9]) (by kernel_rfl) (by simp) (AllReady.cons rfl (fun J hJ => ?_) AllReady.nil)
  refine step_built (by rfl) 29 _ rfl [(0, digV d1), (1, digV d2), (2, digV d3)] (by kernel_rfl) _ (built_keys l1 l2 l3) ?_
  refine hJ _ _ ?_
  clear hJ J
  simp only [Act.put, List.getElem_toArray, List.getElem_cons_succ, List.getElem_cons_zero, List.setIfInBounds_toArray, List.set_cons_zero, List.set_cons_succ]
  refine wpAny_ready (rs := [10]) (by kernel_rfl) (by simp) (AllReady.cons rfl (fun J hJ => ?_) AllReady.nil)
  refine step_store_row (by rfl) 29 (.tmp 2) (.tmp 15) rfl (w.heap.size + 1) ((d1 ++ d2 ++ d3).map byteV).toArray rfl rfl 29 (ocells 96 []).toArray HZ4.out.heap (size_keys HKL.out) (by simp [ocells, l1, l2, l3]) (oneCell_bytes _) ?_
  refine hJ _ _ (wpAny_done (by kernel_rfl) ?_ _)
  clear hJ J
  have hfin := HZ4.out.row ((d1 ++ d2 ++ d3).map byteV)
  have HOS : Hid (Only (fun _ => False) w (w4.setRow (w.heap.size + 1) ((d1 ++ d2 ++ d3).map byteV).toArray)) := HO4.out.andThen (Only.setRow _ _) (fun k hk e => by omega)
  generalize w4.setRow (w.heap.size + 1) ((d1 ++ d2 ++ d3).map byteV).toArray = ws at *
  go_wp2_with fail
  exact bodyPost_ret (v := digV (d1 ++ d2 ++ d3)) (results_cell_row rfl _ _ (w.heap.size + 1) 29 _ (0, 0) _ rfl hfin Tryd.underlying29 rfl (size_keys HKL.out)) rfl ⟨by rw [HK.out]; rfl, HOS.out⟩

end Go.Proofs.YtgdnmbchhfbjoaaDoor

namespace Go.Proofs.YtgdnmbchhfbjoaaDoor
open Go.RowKit

theorem rpacks_any {w : World} {v : Value} {fs : List (List UInt8)} (hv : PartsAt w (fun k => k < w.heap.size) v fs) (hc : fs.length ≤ 4) (hs : Sml (tot fs)) :
    Calls Tryd.prog 35 #[v] w fun e w' => ∃ a c, e = .returned (.slice a (Wi.pack fs).length c) ∧ BytesAt w' (fun k => k < w'.heap.size) (.slice a (Wi.pack fs).length c) (Wi.pack fs) ∧ Only (fun _ => False) w w' := by
  refine (r4pack_any hv (fun _ h => h) ⟨by omega, by have := hs.le; omega⟩).mono ?_
  rintro e w' ⟨a, c, rfl, hr⟩
  exact ⟨a, c, rfl, hr.bytes, hr.only⟩

theorem rmacsP_any {w : World} {vk v : Value} {key fs : List UInt8} (hv : PartsAt w (fun k => k < w.heap.size) v [fs]) (hk : BytesAt w (fun k => k < w.heap.size) vk key) (hkl : key.length = 32) (hl : fs.length ≤ 16777216) :
    Calls Tryd.prog 34 #[vk, v] w fun e w' => e = .returned (digV (Sh.mac key fs)) ∧ Only (fun _ => False) w w' := by
  have := rMac_any hk hv (fun _ h => h) (by omega) (by simp; omega) (by simp)
  simpa using this

set_option maxRecDepth 100000 in
set_option maxHeartbeats 1000000 in
theorem r5id_any {w : World} {S : Nat → Prop} {vp : Value} {ks pl : List UInt8} (hk : ks.length = 96) (hp : BytesAt w S vp pl) (hS : ∀ k, S k → k < w.heap.size) (hl : Sml (tot [Se.chunk, pl])) :
    Calls Tryd.prog 17 #[digV ks, vp] w fun e w' => e = .returned (digV (Se.idOf ks pl)) ∧ Only (fun _ => False) w w' := by
  obtain ⟨pa, pc, rfl⟩ := hp.shape
  have hr0 : Blk ((w.alloc (.cells (ks.map byteV).toArray 29)).alloc (.cells (ocells 32 []).toArray 33)) (w.heap.size + 1) (ocells 32 []) 33 := Blk.new1 _ _ _ _
  have hk0 := (Blk.new w (ks.map byteV) 29).alloc (.cells (ocells 32 []).toArray 33)
  have ho0 : Only (fun _ => False) w ((w.alloc (.cells (ks.map byteV).toArray 29)).alloc (.cells (ocells 32 []).toArray 33)) := (Only.alloc _).trans (Only.alloc _)
  have HR0 := Lib.hid hr0; have HK0 := Lib.hid hk0; have HO0 := Lib.hid ho0; have HKL := Lib.hid hk; have HP := Lib.hid hp; have HS := Lib.hid hS
  have HIL := Lib.hid (Se.id_len ks pl)
  clear hr0 hk0 ho0 hk hp hS
  unfold digV
  go_enter Tryd.func17, Tryd.ntmps17
  go_wp2_with fail
  refine wp_region_any (by kernel_rfl) ?_
  rw [← z32]
  change wpAny _ _ _ _ 10 (Array.replicate 10 false) _ (World.drew ((w.alloc (.cells (ks.map byteV).toArray 29)).alloc (.cells (ocells 32 []).toArray 33)))
  generalize (w.alloc (.cells (ks.map byteV).toArray 29)).alloc (.cells (ocells 32 []).toArray 33) = w0 at *
  have HO1 : Hid (Only (fun _ => False) w w0.drew) := HO0.out.trans Only.drew
  have HR1 := Lib.hid HR0.out.drew; have HK1 := Lib.hid HK0.out.drew
  clear HO0 HR0 HK0
  generalize w0.drew = w1 at *
  refine wpAny_take (i := 0) (v := .pointer (some ⟨w.heap.size, 64, none⟩)) rfl (by kernel_rfl) (by kernel_rfl) (by kernel_rfl) (fun _ _ _ h => h) (Or.inl ⟨by rfl, fun w => by go_simp⟩) ?_
  simp only [Act.put, List.getElem_toArray, List.getElem_cons_zero, List.setIfInBounds_toArray, List.set_cons_zero, List.set_cons_succ]
  refine wpAny_take (i := 1) (v := .slice (some ⟨w.heap.size, 64, none⟩) 32 32) rfl (by kernel_rfl) (by kernel_rfl) (by kernel_rfl) (fun _ _ _ h => h) (Or.inl ⟨by rfl, fun w => by go_simp⟩) ?_
  simp only [Act.put, List.getElem_toArray, List.getElem_cons_succ, List.getElem_cons_zero, List.setIfInBounds_toArray, List.set_cons_zero, List.set_cons_succ]
  refine wpAny_take (i := 4) (v := .slice pa pl.length pc) rfl (by kernel_rfl) (by kernel_rfl) (by kernel_rfl) (fun _ _ _ h => h) (Or.inl ⟨by rfl, fun w => by go_simp⟩) ?_
  simp only [Act.put, List.getElem_toArray, List.getElem_cons_succ, List.getElem_cons_zero, List.setIfInBounds_toArray, List.set_cons_zero, List.set_cons_succ]
  refine wpAny_ready (rs := [2]) (by kernel_rfl) (by simp) (AllReady.cons rfl (fun J hJ => ?_) AllReady.nil)
  go_simp
  refine hJ _ _ ?_
  clear hJ J
  have hh2 : (w1.alloc (.cells (Se.chunk.map byteV).toArray 5)).heap[w1.heap.size]? = some (.cells (Se.chunk.map byteV).toArray 5 (0, 0)) := heap_alloc_last _ _
  have ho2 : Only (fun _ => False) w1 (w1.alloc (.cells (Se.chunk.map byteV).toArray 5)) := Only.alloc _
  change wpAny _ _ _ _ _ _ _ (w1.alloc (.cells (Se.chunk.map byteV).toArray 5))
  generalize w1.alloc (.cells (Se.chunk.map byteV).toArray 5) = w2 at *
  have hcv := conv_const hh2 5 5
  have hh3 := freeze_heap hh2 (Se.chunk.map byteV).toArray.size
  have ho3 : Only (fun k => k = w1.heap.size) w2 (w2.freeze ⟨w1.heap.size, (Se.chunk.map byteV).toArray.size, none⟩ 1) := freeze_only _ _
  generalize w2.freeze ⟨w1.heap.size, (Se.chunk.map byteV).toArray.size, none⟩ 1 = w3 at *
  have HO3 : Hid (Only (fun _ => False) w w3) := (HO1.out.trans ho2).andThen ho3 (fun k hk e => by have := HO1.out.size; omega)
  have HK3 := Lib.hid ((HK1.out.keep ho2 (fun x => x)).keep ho3 (by have := HK1.out.lt; omega)); have HR3 := Lib.hid ((HR1.out.keep ho2 (fun x => x)).keep ho3 (by have := HR1.out.lt; omega))
  have HC3 : Hid (BytesAt w3 (fun k => k < w3.heap.size) (.slice (some ⟨w1.heap.size, 0, none⟩) 5 5) Se.chunk) := (BytesAt.of_marked (bs := Se.chunk) (c := 5) hh3 (by decide)).mono (fun k hk => by rw [hk]; exact lt_of_heap hh3)
  clear hh2 ho2 hh3 ho3 HO1 HK1 HR1
  refine wpAny_ready (rs := [3]) (by kernel_rfl) (by simp) (AllReady.cons rfl (fun J hJ => ?_) AllReady.nil)
  go_simp
  refine hJ _ _ ?_
  clear hJ J hcv
  refine wpAny_ready (rs := [5]) (by kernel_rfl) (by simp) (AllReady.cons rfl (fun J hJ => ?_) AllReady.nil)
  go_simp
  refine hJ _ _ ?_
  clear hJ J
  have hbl := Blk.new w3 [.slice (some ⟨w1.heap.size, 0, none⟩) 5 5, .slice pa pl.length pc] 23
  have ho4 : Only (fun _ => False) w3 (w3.alloc (.cells #[.slice (some ⟨w1.heap.size, 0, none⟩) 5 5, .slice pa pl.length pc] 23)) := Only.alloc _
  generalize w3.alloc (.cells #[.slice (some ⟨w1.heap.size, 0, none⟩) 5 5, .slice pa pl.length pc] 23) = w4 at *
  have HO4 := Lib.hid (HO3.out.trans ho4)
  have HK4 := Lib.hid (HK3.out.keep ho4 (fun x => x)); have HR4 := Lib.hid (HR3.out.keep ho4 (fun x => x))
  have HPK := Lib.hid (rpacks_any (two_blk hbl (HC3.out.here ho4 (fun _ h => h)) (HP.out.here HO4.out HS.out)) (by simp) hl)
  clear hbl ho4 HO3 HK3 HR3 HC3 HP
  refine wpAny_ready (rs := [6]) (by kernel_rfl) (by simp) (AllReady.cons rfl (fun J hJ => ?_) AllReady.nil)
  go_simp
  refine HPK.out.mono ?_
  rintro e w5 ⟨qa, qc, rfl, hp5, ho5⟩
  refine hJ _ _ ?_
  clear hJ J
  refine wpAny_ready (rs := [7]) (by kernel_rfl) (by simp) (AllReady.cons rfl (fun J hJ => ?_) AllReady.nil)
  go_simp
  refine hJ _ _ ?_
  clear hJ J
  have ho6 : Only (fun _ => False) w5 (w5.alloc (.cells #[.slice qa (Wi.pack [Se.chunk, pl]).length qc] 23)) := Only.alloc _
  have hb6 := Blk.new w5 [.slice qa (Wi.pack [Se.chunk, pl]).length qc] 23
  have hp6 := hp5.here ho6 (fun _ h => h)
  generalize w5.alloc (.cells #[.slice qa (Wi.pack [Se.chunk, pl]).length qc] 23) = w6 at *
  have HO6 := Lib.hid ((HO4.out.trans ho5).trans ho6)
  have HR6 := Lib.hid ((HR4.out.keep ho5 (fun x => x)).keep ho6 (fun x => x))
  have hk6 := ((HK4.out.keep ho5 (fun x => x)).keep ho6 (fun x => x)).part (o := 64) (n := 32) (Se.name_len HKL.out)
  have HM := Lib.hid (rmacsP_any (part_at hb6 hp6 (fun _ h => h)) hk6 (Se.name_len HKL.out) (packs_len (by simp) hl))
  clear ho6 hb6 hp6 hk6 hp5 ho5 HO4 HK4 HR4 HPK
  refine wpAny_ready (rs := [8]) (by kernel_rfl) (by simp) (AllReady.cons rfl (fun J hJ => ?_) AllReady.nil)
  go_simp
  refine HM.out.mono ?_
  rintro e w7 ⟨rfl, ho7⟩
  refine hJ _ _ ?_
  clear hJ J
  have HR7 := Lib.hid (HR6.out.keep ho7 (fun x => x)); have HO7 := Lib.hid (HO6.out.trans ho7)
  clear ho7 HM HR6 HO6
  rw [show Sh.mac (List.take 32 (List.drop 64 ks)) (Wi.pack [Se.chunk, pl]) = Se.idOf ks pl from rfl]
  refine wpAny_ready (rs := [9]) (by kernel_rfl) (by simp) (AllReady.cons rfl (fun J hJ => ?_) AllReady.nil)
  refine step_store_row (by rfl) 33 (.tmp 4) (.tmp 13) rfl (w.heap.size + 1) ((Se.idOf ks pl).map byteV).toArray rfl rfl 33 (ocells 32 []).toArray HR7.out.heap (size_id HIL.out) (by simp [ocells, HIL.out]) (oneCell_bytes _) ?_
  refine hJ _ _ (wpAny_done (by kernel_rfl) ?_ _)
  clear hJ J
  have hfin := HR7.out.row ((Se.idOf ks pl).map byteV)
  have HOS : Hid (Only (fun _ => False) w (w7.setRow (w.heap.size + 1) ((Se.idOf ks pl).map byteV).toArray)) := HO7.out.andThen (Only.setRow _ _) (fun k hk e => by omega)
  generalize w7.setRow (w.heap.size + 1) ((Se.idOf ks pl).map byteV).toArray = ws at *
  go_wp2_with fail
  exact bodyPost_ret (v := digV (Se.idOf ks pl)) (results_cell_row rfl _ _ (w.heap.size + 1) 33 _ (0, 0) _ rfl hfin Tryd.underlying33 rfl (size_id HIL.out)) rfl ⟨rfl, HOS.out⟩

theorem rno0 : (secondOps Tryd.f15.body)[0]? = some { dst := some 16, op := Go.Op.fieldAddr 29 (Go.Operand.tmp 4) 2, type := 0, pos := "ref.go:34", after := #[], guard := none } := by kernel_rfl
theorem rno1 : (secondOps Tryd.f15.body)[1]? = some { dst := some 17, op := Go.Op.slice 22 (Go.Operand.tmp 16) none none none, type := 23, pos := "ref.go:34", after := #[{ on := 0, ground := Go.Ground.data }], guard := none } := by kernel_rfl
theorem rno2 : (secondOps Tryd.f15.body)[2]? = some { dst := some 18, op := Go.Op.move (Go.Operand.tmp 1), type := 5, pos := "ref.go:34", after := #[], guard := none } := by kernel_rfl
theorem rno3 : (secondOps Tryd.f15.body)[3]? = some { dst := some 19, op := Go.Op.buildSlice 23 1 #[(0, Go.Operand.tmp 18)], type := 23, pos := "ref.go:34", after := #[{ on := 2, ground := Go.Ground.data }], guard := none } := by kernel_rfl
theorem rno4 : (secondOps Tryd.f15.body)[4]? = some { dst := some 20, op := Go.Op.move (Go.Operand.tmp 2), type := 23, pos := "ref.go:34", after := #[], guard := none } := by kernel_rfl
theorem rno5 : (secondOps Tryd.f15.body)[5]? = some { dst := some 21, op := Go.Op.move (Go.Operand.tmp 3), type := 23, pos := "ref.go:34", after := #[], guard := none } := by kernel_rfl
theorem rno6 : (secondOps Tryd.f15.body)[6]? = some { dst := some 22, op := Go.Op.buildSlice 61 3 #[(0, Go.Operand.tmp 19), (1, Go.Operand.tmp 20), (2, Go.Operand.tmp 21)], type := 61, pos := "ref.go:34", after := #[{ on := 3, ground := Go.Ground.data }, { on := 4, ground := Go.Ground.data }, { on := 5, ground := Go.Ground.data }], guard := none } := by kernel_rfl
theorem rno7 : (secondOps Tryd.f15.body)[7]? = some { dst := some 23, op := Go.Op.call { callee := Go.Callee.value (Go.Operand.func 35), args := #[Go.Operand.tmp 22], argTypes := #[61] }, type := 23, pos := "ref.go:34", after := #[{ on := 6, ground := Go.Ground.data }], guard := none } := by kernel_rfl
theorem rno8 : (secondOps Tryd.f15.body)[8]? = some { dst := some 24, op := Go.Op.buildSlice 61 1 #[(0, Go.Operand.tmp 23)], type := 61, pos := "ref.go:34", after := #[{ on := 7, ground := Go.Ground.data }], guard := none } := by kernel_rfl
theorem rno9 : (secondOps Tryd.f15.body)[9]? = some { dst := some 25, op := Go.Op.call { callee := Go.Callee.value (Go.Operand.func 34), args := #[Go.Operand.tmp 17, Go.Operand.tmp 24], argTypes := #[23, 61] }, type := 22, pos := "ref.go:34", after := #[{ on := 1, ground := Go.Ground.data }, { on := 8, ground := Go.Ground.data }, { on := 7, ground := Go.Ground.chain }], guard := none } := by kernel_rfl
theorem rno10 : (secondOps Tryd.f15.body)[10]? = some { dst := some 9, op := Go.Op.alloc 22, type := 0, pos := "ref.go:34", after := #[], guard := none } := by kernel_rfl
theorem rno11 : (secondOps Tryd.f15.body)[11]? = some { dst := none, op := Go.Op.store 22 (Go.Operand.tmp 9) (Go.Operand.tmp 25), type := 0, pos := "ref.go:34", after := #[{ on := 10, ground := Go.Ground.data }, { on := 9, ground := Go.Ground.data }, { on := 9, ground := Go.Ground.chain }, { on := 0, ground := Go.Ground.phase }, { on := 1, ground := Go.Ground.phase }, { on := 2, ground := Go.Ground.phase }, { on := 3, ground := Go.Ground.phase }, { on := 4, ground := Go.Ground.phase }, { on := 5, ground := Go.Ground.phase }, { on := 6, ground := Go.Ground.phase }, { on := 7, ground := Go.Ground.phase }, { on := 8, ground := Go.Ground.phase }, { on := 9, ground := Go.Ground.phase }, { on := 10, ground := Go.Ground.phase }], guard := none } := by kernel_rfl

def rnoL (p q : Nat) : Array Bool := #[true, true, true, decide (1 ≤ p), true, true, decide (2 ≤ p), decide (3 ≤ p), decide (4 ≤ p), decide (5 ≤ p), decide (1 ≤ q), false]
def rnoMay (p q i : Nat) : Bool := (i == 3 && p == 0) || (i == 6 && p == 1) || (i == 7 && p == 2) || (i == 8 && p == 3) || (i == 9 && p == 4) || (i == 10 && q == 0)
theorem rno_all : ((List.range 6).all fun p => (List.range 2).all fun q => p + q == 6 || (!(Region.ready .any (secondOps Tryd.f15.body) (rnoL p q)).isEmpty && (Region.ready .any (secondOps Tryd.f15.body) (rnoL p q)).all (rnoMay p q))) = true := by kernel_rfl
theorem rno_may {p q : Nat} (h1 : p ≤ 5) (h2 : q ≤ 1) (hs : p + q < 6) : Region.ready .any (secondOps Tryd.f15.body) (rnoL p q) ≠ [] ∧ ∀ i ∈ Region.ready .any (secondOps Tryd.f15.body) (rnoL p q),
    (i = 3 ∧ p = 0) ∨ (i = 6 ∧ p = 1) ∨ (i = 7 ∧ p = 2) ∨ (i = 8 ∧ p = 3) ∨ (i = 9 ∧ p = 4) ∨ (i = 10 ∧ q = 0) := by
  have h := List.all_eq_true.1 (List.all_eq_true.1 rno_all p (by simp; omega)) q (by simp; omega)
  have hn : (p + q == 6) = false := by simp; omega
  rw [hn, Bool.false_or, Bool.and_eq_true] at h
  refine ⟨fun e => by rw [e] at h; simp at h, fun i hi => ?_⟩
  have := List.all_eq_true.1 h.2 i hi
  simpa [rnoMay, or_assoc] using this

theorem rno_as {Q : Exit → Act → World → Prop} {n : Nat} {L L' : Array Bool} {a : Act} {w : World} (h : L = L') (hh : wpAny Tryd.prog .any (secondOps Tryd.f15.body) Q n L a w) : wpAny Tryd.prog .any (secondOps Tryd.f15.body) Q n L' a w := h ▸ hh

set_option maxRecDepth 100000 in
set_option maxHeartbeats 1000000 in
theorem rno_region {Q : Exit → Act → World → Prop} {w0 : World} {gK : Nat} {ks ctx pl : List UInt8} {kind : UInt8} {vc vp : Value} (hk : ks.length = 96) (hK : Blk w0 gK (ks.map byteV) 29) (hc : BytesAt w0 (fun k => k < w0.heap.size) vc ctx) (hp : BytesAt w0 (fun k => k < w0.heap.size) vp pl) (hl : Sml (tot [[kind], ctx, pl]))
    (hQ : ∀ x9 x13 x16 x17 x18 x19 w g, Only (fun _ => False) w0 w → w0.heap.size ≤ g → Blk w g (ocells 32 []) 22 → x9 = .pointer (some ⟨g, 0, none⟩) → Q .normal ⟨#[.agg (ks.map byteV).toArray, .int .u8 (kind.toNat : Int), vc, vp, .pointer (some ⟨gK, 0, none⟩), undef, undef, undef, .slice none 0 0, x9, undef, undef, undef, undef, undef, undef, .pointer (some ⟨gK, 64, none⟩), .slice (some ⟨gK, 64, none⟩) 32 32, .int .u8 (kind.toNat : Int), x13, vc, vp, x16, x17, x18, x19, undef, undef, undef, undef, undef, undef, undef, undef, undef, undef, undef, undef, undef, undef, undef, undef, undef, undef, undef, undef, undef, undef, undef, undef, undef, undef, undef, undef, undef, undef, undef, undef, undef, undef], []⟩ (w.setRow g ((Sh.mac (Se.name ks) (Wi.pack [[kind], ctx, pl])).map byteV).toArray)) :
    ∀ n p q, p ≤ 5 → q ≤ 1 → p + q + n = 6 → ∀ x9 x13 x16 x17 x18 x19 w, Only (fun _ => False) w0 w → NonSt w0 w ks kind ctx pl p q x9 x13 x16 x17 x18 x19 →
      wpAny Tryd.prog .any (secondOps Tryd.f15.body) Q (n + 1) (rnoL p q) ⟨#[.agg (ks.map byteV).toArray, .int .u8 (kind.toNat : Int), vc, vp, .pointer (some ⟨gK, 0, none⟩), undef, undef, undef, .slice none 0 0, x9, undef, undef, undef, undef, undef, undef, .pointer (some ⟨gK, 64, none⟩), .slice (some ⟨gK, 64, none⟩) 32 32, .int .u8 (kind.toNat : Int), x13, vc, vp, x16, x17, x18, x19, undef, undef, undef, undef, undef, undef, undef, undef, undef, undef, undef, undef, undef, undef, undef, undef, undef, undef, undef, undef, undef, undef, undef, undef, undef, undef, undef, undef, undef, undef, undef, undef, undef, undef], []⟩ w := by
  obtain ⟨ca, cc, rfl⟩ := hc.shape
  obtain ⟨pa, pc, rfl⟩ := hp.shape
  intro n
  induction n with
  | zero =>
    intro p q h1 h2 hs x9 x13 x16 x17 x18 x19 w ho st
    obtain rfl : p = 5 := by omega
    obtain rfl : q = 1 := by omega
    obtain ⟨g, rfl, hg, hb⟩ := st.new rfl
    obtain rfl := st.five rfl
    have hml : (Sh.mac (Se.name ks) (Wi.pack [[kind], ctx, pl])).length = 32 := sum_len _
    have hQ' := hQ (.pointer (some ⟨g, 0, none⟩)) x13 x16 x17 x18 (digV (Sh.mac (Se.name ks) (Wi.pack [[kind], ctx, pl]))) w g ho hg hb rfl
    generalize Sh.mac (Se.name ks) (Wi.pack [[kind], ctx, pl]) = M at *
    refine wpAny_ready (rs := [11]) (by kernel_rfl) (by simp) (AllReady.cons rno11 (fun J hJ => ?_) AllReady.nil)
    refine step_store_row (by rfl) 22 (.tmp 9) (.tmp 25) rfl g (M.map byteV).toArray rfl rfl 22 (ocells 32 []).toArray hb.heap (size_a32 hml) (by simp [ocells, hml]) (oneCell_bytes _) ?_
    exact hJ _ _ (wpAny_done (by kernel_rfl) hQ' _)
  | succ n ih =>
    intro p q h1 h2 hs x9 x13 x16 x17 x18 x19 w ho st
    obtain ⟨hne, hmay⟩ := rno_may h1 h2 (by omega)
    refine ⟨fun e => absurd e hne, fun i hi => ?_⟩
    rcases hmay i hi with ⟨rfl, rfl⟩ | ⟨rfl, rfl⟩ | ⟨rfl, rfl⟩ | ⟨rfl, rfl⟩ | ⟨rfl, rfl⟩ | ⟨rfl, rfl⟩
    · refine wpOp_step rno3 fun J hJ => ?_
      go_simp
      refine hJ _ _ (rno_as (by rfl) (ih 1 q (by omega) h2 (by omega) x9 _ x16 x17 x18 x19 _ (ho.trans (Only.alloc _)) ?_))
      exact ⟨fun _ => (one_byte w kind).mono (fun k hk => by rw [hk]; simp), fun e => by omega, fun e => by omega, fun e => by omega, fun e => by omega, fun e => st.newKept (Only.alloc _) e⟩
    · have h13 := st.one rfl
      obtain ⟨a13, c13, rfl⟩ := h13.shape
      refine wpOp_step rno6 fun J hJ => ?_
      go_simp
      refine hJ _ _ (rno_as (by rfl) (ih 2 q (by omega) h2 (by omega) x9 _ _ x17 x18 x19 _ (ho.trans (Only.alloc _)) ?_))
      exact ⟨fun e => by omega, fun _ => three_blk (Blk.new w [_, _, _] 23) (h13.here (Only.alloc _) (fun _ h => h)) (hc.here (ho.trans (Only.alloc _)) (fun _ h => h)) (hp.here (ho.trans (Only.alloc _)) (fun _ h => h)), fun e => by omega, fun e => by omega, fun e => by omega, fun e => st.newKept (Only.alloc _) e⟩
    · have HP := Lib.hid (rpacks_any (st.two rfl) (by simp) hl)
      refine wpOp_step rno7 fun J hJ => ?_
      go_simp
      refine HP.out.mono ?_
      rintro e w' ⟨a, c, rfl, hb, ho'⟩
      refine hJ _ _ (rno_as (by rfl) (ih 3 q (by omega) h2 (by omega) x9 x13 x16 _ x18 x19 _ (ho.trans ho') ?_))
      exact ⟨fun e => by omega, fun e => by omega, fun _ => hb, fun e => by omega, fun e => by omega, fun e => st.newKept ho' e⟩
    · have h17 := st.three rfl
      obtain ⟨a17, c17, rfl⟩ := h17.shape
      refine wpOp_step rno8 fun J hJ => ?_
      go_simp
      refine hJ _ _ (rno_as (by rfl) (ih 4 q (by omega) h2 (by omega) x9 x13 x16 _ _ x19 _ (ho.trans (Only.alloc _)) ?_))
      exact ⟨fun e => by omega, fun e => by omega, fun e => by omega, fun _ => part_at (Blk.new w [_] 23) (h17.here (Only.alloc _) (fun _ h => h)) (fun _ h => h), fun e => by omega, fun e => st.newKept (Only.alloc _) e⟩
    · have hkb := (hK.keep ho (fun x => x)).part (o := 64) (n := 32) (Se.name_len hk)
      have HM := Lib.hid (rmacsP_any (st.four rfl) hkb (Se.name_len hk) (packs_len (by simp) hl))
      refine wpOp_step rno9 fun J hJ => ?_
      go_simp
      refine HM.out.mono ?_
      rintro e w' ⟨rfl, ho'⟩
      refine hJ _ _ (rno_as (by rfl) (ih 5 q (by omega) h2 (by omega) x9 x13 x16 x17 x18 _ _ (ho.trans ho') ?_))
      exact ⟨fun e => by omega, fun e => by omega, fun e => by omega, fun e => by omega, fun _ => rfl, fun e => st.newKept ho' e⟩
    · refine wpOp_step rno10 fun J hJ => ?_
      go_simp
      rw [← z32]
      refine hJ _ _ (rno_as (by rfl) (ih p 1 h1 (by omega) (by omega) _ x13 x16 x17 x18 x19 _ (ho.trans (Only.alloc _)) ?_))
      have sk := st.kept (w' := w.alloc (.cells (ocells 32 []).toArray 22)) (Only.alloc _)
      exact ⟨sk.one, sk.two, sk.three, sk.four, sk.five, fun _ => ⟨_, rfl, ho.size, Blk.new _ _ _⟩⟩

set_option maxRecDepth 100000 in
set_option maxHeartbeats 1000000 in
theorem r5tag_any {w : World} {S : Nat → Prop} {vc vn vb : Value} {K ctx nn body : List UInt8} {kind : UInt8} (hK : K.length = 96) (hn : BytesAt w S vn nn) (hc : BytesAt w S vc ctx) (hb : BytesAt w S vb body) (hS : ∀ k, S k → k < w.heap.size) (hl : Sml (tot [[kind], ctx, nn, body])) :
    Calls Tryd.prog 37 #[digV K, byteV kind, vc, vn, vb] w fun e w' => e = .returned (digV (Se.tag K kind ctx nn body)) ∧ Only (fun _ => False) w w' := by
  obtain ⟨ca, cc, rfl⟩ := hc.shape
  obtain ⟨ba, bc, rfl⟩ := hb.shape
  obtain ⟨na, nc, rfl⟩ := hn.shape
  have hr0 : Blk ((w.alloc (.cells (K.map byteV).toArray 29)).alloc (.cells (ocells 32 []).toArray 22)) (w.heap.size + 1) (ocells 32 []) 22 := Blk.new1 _ _ _ _
  have hk0 := (Blk.new w (K.map byteV) 29).alloc (.cells (ocells 32 []).toArray 22)
  have ho0 : Only (fun _ => False) w ((w.alloc (.cells (K.map byteV).toArray 29)).alloc (.cells (ocells 32 []).toArray 22)) := (Only.alloc _).trans (Only.alloc _)
  have HR0 := Lib.hid hr0; have HK0 := Lib.hid hk0; have HO0 := Lib.hid ho0; have HKL := Lib.hid hK; have HNN := Lib.hid hn; have HC := Lib.hid hc; have HB := Lib.hid hb; have HS := Lib.hid hS
  have HTL := Lib.hid (Se.tag_len K kind ctx nn body)
  clear hr0 hk0 ho0 hK hn hc hb hS
  unfold digV
  rw [show byteV kind = .int .u8 (kind.toNat : Int) from rfl]
  go_enter Tryd.func37, Tryd.ntmps37
  go_wp2_with fail
  refine wp_region_any (by kernel_rfl) ?_
  rw [← z32]
  change wpAny _ _ _ _ 12 (Array.replicate 12 false) _ (World.drew ((w.alloc (.cells (K.map byteV).toArray 29)).alloc (.cells (ocells 32 []).toArray 22)))
  generalize (w.alloc (.cells (K.map byteV).toArray 29)).alloc (.cells (ocells 32 []).toArray 22) = w0 at *
  have HO1 : Hid (Only (fun _ => False) w w0.drew) := HO0.out.trans Only.drew
  have HR1 := Lib.hid HR0.out.drew; have HK1 := Lib.hid HK0.out.drew
  clear HO0 HR0 HK0
  generalize w0.drew = w1 at *
  refine wpAny_take (i := 0) (v := .pointer (some ⟨w.heap.size, 32, none⟩)) rfl (by kernel_rfl) (by kernel_rfl) (by kernel_rfl) (fun _ _ _ h => h) (Or.inl ⟨by rfl, fun w => by go_simp⟩) ?_
  simp only [Act.put, List.getElem_toArray, List.getElem_cons_zero, List.setIfInBounds_toArray, List.set_cons_zero, List.set_cons_succ]
  refine wpAny_take (i := 1) (v := .slice (some ⟨w.heap.size, 32, none⟩) 32 32) rfl (by kernel_rfl) (by kernel_rfl) (by kernel_rfl) (fun _ _ _ h => h) (Or.inl ⟨by rfl, fun w => by go_simp⟩) ?_
  simp only [Act.put, List.getElem_toArray, List.getElem_cons_succ, List.getElem_cons_zero, List.setIfInBounds_toArray, List.set_cons_zero, List.set_cons_succ]
  refine wpAny_take (i := 2) (v := .int .u8 kind.toNat) rfl (by kernel_rfl) (by kernel_rfl) (by kernel_rfl) (fun _ _ _ h => h) (Or.inl ⟨by rfl, fun w => by go_simp⟩) ?_
  simp only [Act.put, List.getElem_toArray, List.getElem_cons_succ, List.getElem_cons_zero, List.setIfInBounds_toArray, List.set_cons_zero, List.set_cons_succ]
  refine wpAny_take (i := 4) (v := .slice ca ctx.length cc) rfl (by kernel_rfl) (by kernel_rfl) (by kernel_rfl) (fun _ _ _ h => h) (Or.inl ⟨by rfl, fun w => by go_simp⟩) ?_
  simp only [Act.put, List.getElem_toArray, List.getElem_cons_succ, List.getElem_cons_zero, List.setIfInBounds_toArray, List.set_cons_zero, List.set_cons_succ]
  refine wpAny_take (i := 5) (v := .slice na nn.length nc) rfl (by kernel_rfl) (by kernel_rfl) (by kernel_rfl) (fun _ _ _ h => h) (Or.inl ⟨by rfl, fun w => by go_simp⟩) ?_
  simp only [Act.put, List.getElem_toArray, List.getElem_cons_succ, List.getElem_cons_zero, List.setIfInBounds_toArray, List.set_cons_zero, List.set_cons_succ]
  refine wpAny_take (i := 6) (v := .slice ba body.length bc) rfl (by kernel_rfl) (by kernel_rfl) (by kernel_rfl) (fun _ _ _ h => h) (Or.inl ⟨by rfl, fun w => by go_simp⟩) ?_
  simp only [Act.put, List.getElem_toArray, List.getElem_cons_succ, List.getElem_cons_zero, List.setIfInBounds_toArray, List.set_cons_zero, List.set_cons_succ]
  refine wpAny_ready (rs := [3]) (by kernel_rfl) (by simp) (AllReady.cons rfl (fun J hJ => ?_) AllReady.nil)
  go_simp
  refine hJ _ _ ?_
  clear hJ J
  refine wpAny_ready (rs := [7]) (by kernel_rfl) (by simp) (AllReady.cons rfl (fun J hJ => ?_) AllReady.nil)
  go_simp
  refine hJ _ _ ?_
  clear hJ J
  have hkb := (one_byte w1 kind).here (w' := (w1.alloc (.cells #[byteV kind] 5)).alloc (.cells #[.slice (some ⟨w1.heap.size, 0, none⟩) 1 1, .slice ca ctx.length cc, .slice na nn.length nc, .slice ba body.length bc] 23)) (Only.alloc _) (fun k hk => by rw [hk]; simp)
  have hbl := Blk.new1 w1 (.cells #[byteV kind] 5) [.slice (some ⟨w1.heap.size, 0, none⟩) 1 1, .slice ca ctx.length cc, .slice na nn.length nc, .slice ba body.length bc] 23
  have ho3 : Only (fun _ => False) w1 ((w1.alloc (.cells #[byteV kind] 5)).alloc (.cells #[.slice (some ⟨w1.heap.size, 0, none⟩) 1 1, .slice ca ctx.length cc, .slice na nn.length nc, .slice ba body.length bc] 23)) := (Only.alloc _).trans (Only.alloc _)
  unfold byteV at hkb hbl ho3
  generalize (w1.alloc (.cells #[.int .u8 (kind.toNat : Int)] 5)).alloc (.cells #[.slice (some ⟨w1.heap.size, 0, none⟩) 1 1, .slice ca ctx.length cc, .slice na nn.length nc, .slice ba body.length bc] 23) = w3 at *
  have HO3 := Lib.hid (HO1.out.trans ho3)
  have HK3 := Lib.hid (HK1.out.keep ho3 (fun x => x)); have HR3 := Lib.hid (HR1.out.keep ho3 (fun x => x))
  have HP := Lib.hid (rpacks_any (four_blk hbl hkb (HC.out.here HO3.out HS.out) (HNN.out.here HO3.out HS.out) (HB.out.here HO3.out HS.out)) (Nat.le_refl _) hl)
  clear hkb hbl ho3 HO1 HK1 HR1 HNN HC HB
  refine wpAny_ready (rs := [8]) (by kernel_rfl) (by simp) (AllReady.cons rfl (fun J hJ => ?_) AllReady.nil)
  go_simp
  refine HP.out.mono ?_
  rintro e w4 ⟨pa, pc, rfl, hp4, ho4⟩
  refine hJ _ _ ?_
  clear hJ J
  refine wpAny_ready (rs := [9]) (by kernel_rfl) (by simp) (AllReady.cons rfl (fun J hJ => ?_) AllReady.nil)
  go_simp
  refine hJ _ _ ?_
  clear hJ J
  have ho5 : Only (fun _ => False) w4 (w4.alloc (.cells #[.slice pa (Wi.pack [[kind], ctx, nn, body]).length pc] 23)) := Only.alloc _
  have hb5 := Blk.new w4 [.slice pa (Wi.pack [[kind], ctx, nn, body]).length pc] 23
  have hp5 := hp4.here ho5 (fun _ h => h)
  generalize w4.alloc (.cells #[.slice pa (Wi.pack [[kind], ctx, nn, body]).length pc] 23) = w5 at *
  have HO5 := Lib.hid ((HO3.out.trans ho4).trans ho5)
  have HR5 := Lib.hid ((HR3.out.keep ho4 (fun x => x)).keep ho5 (fun x => x))
  have hk5 := ((HK3.out.keep ho4 (fun x => x)).keep ho5 (fun x => x)).part (o := 32) (n := 32) (Se.mac_len HKL.out)
  have HM := Lib.hid (rmacsP_any (part_at hb5 hp5 (fun _ h => h)) hk5 (Se.mac_len HKL.out) (packs_len (Nat.le_refl _) hl))
  clear ho5 hb5 hp5 hk5 hp4 ho4 HO3 HK3 HR3 HP
  refine wpAny_ready (rs := [10]) (by kernel_rfl) (by simp) (AllReady.cons rfl (fun J hJ => ?_) AllReady.nil)
  go_simp
  refine HM.out.mono ?_
  rintro e w6 ⟨rfl, ho6⟩
  refine hJ _ _ ?_
  clear hJ J
  have HR6 := Lib.hid (HR5.out.keep ho6 (fun x => x)); have HO6 := Lib.hid (HO5.out.trans ho6)
  clear ho6 HM HR5 HO5
  rw [show Sh.mac (List.take 32 (List.drop 32 K)) (Wi.pack [[kind], ctx, nn, body]) = Se.tag K kind ctx nn body from rfl]
  refine wpAny_ready (rs := [11]) (by kernel_rfl) (by simp) (AllReady.cons rfl (fun J hJ => ?_) AllReady.nil)
  refine step_store_row (by rfl) 22 (.tmp 10) (.tmp 21) rfl (w.heap.size + 1) ((Se.tag K kind ctx nn body).map byteV).toArray rfl rfl 22 (ocells 32 []).toArray HR6.out.heap (size_a32 HTL.out) (by simp [ocells, HTL.out]) (oneCell_bytes _) ?_
  refine hJ _ _ (wpAny_done (by kernel_rfl) ?_ _)
  clear hJ J
  have hfin := HR6.out.row ((Se.tag K kind ctx nn body).map byteV)
  have HOS : Hid (Only (fun _ => False) w (w6.setRow (w.heap.size + 1) ((Se.tag K kind ctx nn body).map byteV).toArray)) := HO6.out.andThen (Only.setRow _ _) (fun k hk e => by omega)
  generalize w6.setRow (w.heap.size + 1) ((Se.tag K kind ctx nn body).map byteV).toArray = ws at *
  go_wp2_with fail
  exact bodyPost_ret (v := digV (Se.tag K kind ctx nn body)) (results_cell_row rfl _ _ (w.heap.size + 1) 22 _ (0, 0) _ rfl hfin Tryd.underlying22 rfl (size_a32 HTL.out)) rfl ⟨rfl, HOS.out⟩


end Go.Proofs.YtgdnmbchhfbjoaaDoor

namespace Go.Proofs.YtgdnmbchhfbjoaaDoor
open Go.RowKit

structure TgSt (w0 w : World) (ks T : List UInt8) (p q : Nat) (x44 x49 x14 : Value) : Prop where
  one : p = 1 → x44 = .agg (ks.map byteV).toArray
  two : p = 2 → x49 = digV T
  new : q = 1 → ∃ g, x14 = .pointer (some ⟨g, 0, none⟩) ∧ w0.heap.size ≤ g ∧ Blk w g (ocells 32 []) 22
theorem TgSt.newKept {w0 w w' : World} {ks T : List UInt8} {p q : Nat} {x44 x49 x14 : Value} (h : TgSt w0 w ks T p q x44 x49 x14) (ho : Only (fun _ => False) w w') (e : q = 1) : ∃ g, x14 = .pointer (some ⟨g, 0, none⟩) ∧ w0.heap.size ≤ g ∧ Blk w' g (ocells 32 []) 22 := by
  obtain ⟨g, e1, e2, e3⟩ := h.new e
  exact ⟨g, e1, e2, e3.keep ho (fun x => x)⟩

def tgsOps : Array Oper := #[{ dst := some 44, op := Go.Op.load 29 (Go.Operand.tmp 4), type := 29, pos := "ref.go:40", after := #[], guard := none }, { dst := some 45, op := Go.Op.move (Go.Operand.tmp 1), type := 5, pos := "ref.go:40", after := #[], guard := none }, { dst := some 46, op := Go.Op.move (Go.Operand.tmp 2), type := 23, pos := "ref.go:40", after := #[], guard := none }, { dst := some 47, op := Go.Op.slice 64 (Go.Operand.tmp 10) none none none, type := 23, pos := "ref.go:40", after := #[], guard := none }, { dst := some 48, op := Go.Op.move (Go.Operand.tmp 12), type := 23, pos := "ref.go:40", after := #[], guard := none }, { dst := some 49, op := Go.Op.call { callee := Go.Callee.value (Go.Operand.func 37), args := #[Go.Operand.tmp 44, Go.Operand.tmp 45, Go.Operand.tmp 46, Go.Operand.tmp 47, Go.Operand.tmp 48], argTypes := #[29, 5, 23, 23, 23] }, type := 22, pos := "ref.go:40", after := #[{ on := 0, ground := Go.Ground.data }, { on := 1, ground := Go.Ground.data }, { on := 2, ground := Go.Ground.data }, { on := 3, ground := Go.Ground.data }, { on := 4, ground := Go.Ground.data }], guard := none }, { dst := some 14, op := Go.Op.alloc 22, type := 0, pos := "ref.go:40", after := #[], guard := none }, { dst := none, op := Go.Op.store 22 (Go.Operand.tmp 14) (Go.Operand.tmp 49), type := 0, pos := "ref.go:40", after := #[{ on := 6, ground := Go.Ground.data }, { on := 5, ground := Go.Ground.data }, { on := 5, ground := Go.Ground.chain }, { on := 0, ground := Go.Ground.phase }, { on := 1, ground := Go.Ground.phase }, { on := 2, ground := Go.Ground.phase }, { on := 3, ground := Go.Ground.phase }, { on := 4, ground := Go.Ground.phase }, { on := 5, ground := Go.Ground.phase }, { on := 6, ground := Go.Ground.phase }], guard := none }]
theorem tgs0 : tgsOps[0]? = some { dst := some 44, op := Go.Op.load 29 (Go.Operand.tmp 4), type := 29, pos := "ref.go:40", after := #[], guard := none } := by kernel_rfl
theorem tgs1 : tgsOps[1]? = some { dst := some 45, op := Go.Op.move (Go.Operand.tmp 1), type := 5, pos := "ref.go:40", after := #[], guard := none } := by kernel_rfl
theorem tgs2 : tgsOps[2]? = some { dst := some 46, op := Go.Op.move (Go.Operand.tmp 2), type := 23, pos := "ref.go:40", after := #[], guard := none } := by kernel_rfl
theorem tgs3 : tgsOps[3]? = some { dst := some 47, op := Go.Op.slice 64 (Go.Operand.tmp 10) none none none, type := 23, pos := "ref.go:40", after := #[], guard := none } := by kernel_rfl
theorem tgs4 : tgsOps[4]? = some { dst := some 48, op := Go.Op.move (Go.Operand.tmp 12), type := 23, pos := "ref.go:40", after := #[], guard := none } := by kernel_rfl
theorem tgs5 : tgsOps[5]? = some { dst := some 49, op := Go.Op.call { callee := Go.Callee.value (Go.Operand.func 37), args := #[Go.Operand.tmp 44, Go.Operand.tmp 45, Go.Operand.tmp 46, Go.Operand.tmp 47, Go.Operand.tmp 48], argTypes := #[29, 5, 23, 23, 23] }, type := 22, pos := "ref.go:40", after := #[{ on := 0, ground := Go.Ground.data }, { on := 1, ground := Go.Ground.data }, { on := 2, ground := Go.Ground.data }, { on := 3, ground := Go.Ground.data }, { on := 4, ground := Go.Ground.data }], guard := none } := by kernel_rfl
theorem tgs6 : tgsOps[6]? = some { dst := some 14, op := Go.Op.alloc 22, type := 0, pos := "ref.go:40", after := #[], guard := none } := by kernel_rfl
theorem tgs7 : tgsOps[7]? = some { dst := none, op := Go.Op.store 22 (Go.Operand.tmp 14) (Go.Operand.tmp 49), type := 0, pos := "ref.go:40", after := #[{ on := 6, ground := Go.Ground.data }, { on := 5, ground := Go.Ground.data }, { on := 5, ground := Go.Ground.chain }, { on := 0, ground := Go.Ground.phase }, { on := 1, ground := Go.Ground.phase }, { on := 2, ground := Go.Ground.phase }, { on := 3, ground := Go.Ground.phase }, { on := 4, ground := Go.Ground.phase }, { on := 5, ground := Go.Ground.phase }, { on := 6, ground := Go.Ground.phase }], guard := none } := by kernel_rfl
def tgsL (p q : Nat) : Array Bool := #[decide (1 ≤ p), true, true, true, true, decide (2 ≤ p), decide (1 ≤ q), false]
def tgsMay (p q i : Nat) : Bool := (i == 0 && p == 0) || (i == 5 && p == 1) || (i == 6 && q == 0)
theorem tgs_all : ((List.range 3).all fun p => (List.range 2).all fun q => p + q == 3 || (!(Region.ready .any tgsOps (tgsL p q)).isEmpty && (Region.ready .any tgsOps (tgsL p q)).all (tgsMay p q))) = true := by kernel_rfl
theorem tgs_may {p q : Nat} (h1 : p ≤ 2) (h2 : q ≤ 1) (hs : p + q < 3) : Region.ready .any tgsOps (tgsL p q) ≠ [] ∧ ∀ i ∈ Region.ready .any tgsOps (tgsL p q), (i = 0 ∧ p = 0) ∨ (i = 5 ∧ p = 1) ∨ (i = 6 ∧ q = 0) := by
  have h := List.all_eq_true.1 (List.all_eq_true.1 tgs_all p (by simp; omega)) q (by simp; omega)
  have hn : (p + q == 3) = false := by simp; omega
  rw [hn, Bool.false_or, Bool.and_eq_true] at h
  refine ⟨fun e => by rw [e] at h; simp at h, fun i hi => ?_⟩
  have := List.all_eq_true.1 h.2 i hi
  simpa [tgsMay, or_assoc] using this
theorem tgs_as {Q : Exit → Act → World → Prop} {n : Nat} {L L' : Array Bool} {a : Act} {w : World} (h : L = L') (hh : wpAny Tryd.prog .any tgsOps Q n L a w) : wpAny Tryd.prog .any tgsOps Q n L' a w := h ▸ hh

set_option maxRecDepth 100000 in
set_option maxHeartbeats 1000000 in
theorem tgs_region {Q : Exit → Act → World → Prop} {w0 : World} {gK : Nat} {ks T : List UInt8} {vk vc vn vb : Value} {f0 f1 f2 f3 f5 f6 f7 f8 f9 f10 f11 f12 f13 f15 f16 f17 f18 f19 f20 f21 f22 f23 f24 f25 f26 f27 f28 f29 f30 f31 f32 f33 f34 f35 f36 f37 f38 f39 f40 f41 f42 f43 f50 f51 f52 f53 f54 f55 f56 f57 f58 f59 : Value} (hk : ks.length = 96) (hK : Blk w0 gK (ks.map byteV) 29) (hT : T.length = 32)
    (hc : ∀ W, Only (fun _ => False) w0 W → Calls Tryd.prog 37 #[.agg (ks.map byteV).toArray, vk, vc, vn, vb] W fun e w' => e = .returned (digV T) ∧ Only (fun _ => False) W w')
    (hQ : ∀ x44 x49 x14 w g, Only (fun _ => False) w0 w → w0.heap.size ≤ g → Blk w g (ocells 32 []) 22 → x14 = .pointer (some ⟨g, 0, none⟩) → Q .normal ⟨(List.toArray (f0 :: f1 :: f2 :: f3 :: .pointer (some ⟨gK, 0, none⟩) :: f5 :: f6 :: f7 :: f8 :: f9 :: f10 :: f11 :: f12 :: f13 :: x14 :: f15 :: f16 :: f17 :: f18 :: f19 :: f20 :: f21 :: f22 :: f23 :: f24 :: f25 :: f26 :: f27 :: f28 :: f29 :: f30 :: f31 :: f32 :: f33 :: f34 :: f35 :: f36 :: f37 :: f38 :: f39 :: f40 :: f41 :: f42 :: f43 :: x44 :: vk :: vc :: vn :: vb :: x49 :: f50 :: f51 :: f52 :: f53 :: f54 :: f55 :: f56 :: f57 :: f58 :: f59 :: [])), []⟩ (w.setRow g (T.map byteV).toArray)) :
    ∀ n p q, p ≤ 2 → q ≤ 1 → p + q + n = 3 → ∀ x44 x49 x14 w, Only (fun _ => False) w0 w → TgSt w0 w ks T p q x44 x49 x14 →
      wpAny Tryd.prog .any tgsOps Q (n + 1) (tgsL p q) ⟨(List.toArray (f0 :: f1 :: f2 :: f3 :: .pointer (some ⟨gK, 0, none⟩) :: f5 :: f6 :: f7 :: f8 :: f9 :: f10 :: f11 :: f12 :: f13 :: x14 :: f15 :: f16 :: f17 :: f18 :: f19 :: f20 :: f21 :: f22 :: f23 :: f24 :: f25 :: f26 :: f27 :: f28 :: f29 :: f30 :: f31 :: f32 :: f33 :: f34 :: f35 :: f36 :: f37 :: f38 :: f39 :: f40 :: f41 :: f42 :: f43 :: x44 :: vk :: vc :: vn :: vb :: x49 :: f50 :: f51 :: f52 :: f53 :: f54 :: f55 :: f56 :: f57 :: f58 :: f59 :: [])), []⟩ w := by
  intro n
  induction n with
  | zero =>
    intro p q h1 h2 hs x44 x49 x14 w ho st
    obtain rfl : p = 2 := by omega
    obtain rfl : q = 1 := by omega
    obtain ⟨g, rfl, hg, hb⟩ := st.new rfl
    obtain rfl := st.two rfl
    have hQ' := hQ x44 (digV T) (.pointer (some ⟨g, 0, none⟩)) w g ho hg hb rfl
    refine wpAny_ready (rs := [7]) (by kernel_rfl) (by simp) (AllReady.cons tgs7 (fun J hJ => ?_) AllReady.nil)
    refine step_store_row (by rfl) 22 (.tmp 14) (.tmp 49) rfl g (T.map byteV).toArray rfl rfl 22 (ocells 32 []).toArray hb.heap (size_a32 hT) (by simp [ocells, hT]) (oneCell_bytes _) ?_
    exact hJ _ _ (wpAny_done (by kernel_rfl) hQ' _)
  | succ n ih =>
    intro p q h1 h2 hs x44 x49 x14 w ho st
    obtain ⟨hne, hmay⟩ := tgs_may h1 h2 (by omega)
    refine ⟨fun e => absurd e hne, fun i hi => ?_⟩
    rcases hmay i hi with ⟨rfl, rfl⟩ | ⟨rfl, rfl⟩ | ⟨rfl, rfl⟩
    · refine wpOp_step tgs0 fun J hJ => ?_
      refine step_load_mid (by rfl) 29 (.tmp 4) rfl gK 0 rfl (ks.map byteV) _ (hK.keep ho (fun x => x)).all Tryd.underlying29 rfl (by simpa using size_keys hk) ?_
      exact hJ _ _ (tgs_as (by rfl) (ih 1 q (by omega) h2 (by omega) _ x49 x14 _ ho ⟨fun _ => rfl, fun e => by omega, st.new⟩))
    · obtain rfl := st.one rfl
      have HC := Lib.hid (hc w ho)
      refine wpOp_step tgs5 fun J hJ => ?_
      go_simp
      refine HC.out.mono ?_
      rintro e w' ⟨rfl, ho'⟩
      exact hJ _ _ (tgs_as (by rfl) (ih 2 q (by omega) h2 (by omega) _ _ x14 _ (ho.trans ho') ⟨fun e => by omega, fun _ => rfl, fun e => st.newKept ho' e⟩))
    · refine wpOp_step tgs6 fun J hJ => ?_
      go_simp
      rw [← z32]
      refine hJ _ _ (tgs_as (by rfl) (ih p 1 h1 (by omega) (by omega) x44 x49 _ _ (ho.trans (Only.alloc _)) ?_))
      exact ⟨st.one, st.two, fun _ => ⟨_, rfl, ho.size, Blk.new _ _ _⟩⟩


def tgoOps : Array Oper := #[{ dst := some 45, op := Go.Op.load 29 (Go.Operand.tmp 4), type := 29, pos := "ref.go:57", after := #[], guard := none }, { dst := some 46, op := Go.Op.move (Go.Operand.tmp 1), type := 5, pos := "ref.go:57", after := #[], guard := none }, { dst := some 47, op := Go.Op.move (Go.Operand.tmp 2), type := 23, pos := "ref.go:57", after := #[], guard := none }, { dst := some 48, op := Go.Op.slice 64 (Go.Operand.tmp 11) none none none, type := 23, pos := "ref.go:57", after := #[], guard := none }, { dst := some 49, op := Go.Op.move (Go.Operand.tmp 13), type := 23, pos := "ref.go:57", after := #[], guard := none }, { dst := some 50, op := Go.Op.call { callee := Go.Callee.value (Go.Operand.func 37), args := #[Go.Operand.tmp 45, Go.Operand.tmp 46, Go.Operand.tmp 47, Go.Operand.tmp 48, Go.Operand.tmp 49], argTypes := #[29, 5, 23, 23, 23] }, type := 22, pos := "ref.go:57", after := #[{ on := 0, ground := Go.Ground.data }, { on := 1, ground := Go.Ground.data }, { on := 2, ground := Go.Ground.data }, { on := 3, ground := Go.Ground.data }, { on := 4, ground := Go.Ground.data }], guard := none }, { dst := some 14, op := Go.Op.alloc 22, type := 0, pos := "ref.go:57", after := #[], guard := none }, { dst := none, op := Go.Op.store 22 (Go.Operand.tmp 14) (Go.Operand.tmp 50), type := 0, pos := "ref.go:57", after := #[{ on := 6, ground := Go.Ground.data }, { on := 5, ground := Go.Ground.data }, { on := 5, ground := Go.Ground.chain }, { on := 0, ground := Go.Ground.phase }, { on := 1, ground := Go.Ground.phase }, { on := 2, ground := Go.Ground.phase }, { on := 3, ground := Go.Ground.phase }, { on := 4, ground := Go.Ground.phase }, { on := 5, ground := Go.Ground.phase }, { on := 6, ground := Go.Ground.phase }], guard := none }]
theorem tgo0 : tgoOps[0]? = some { dst := some 45, op := Go.Op.load 29 (Go.Operand.tmp 4), type := 29, pos := "ref.go:57", after := #[], guard := none } := by kernel_rfl
theorem tgo1 : tgoOps[1]? = some { dst := some 46, op := Go.Op.move (Go.Operand.tmp 1), type := 5, pos := "ref.go:57", after := #[], guard := none } := by kernel_rfl
theorem tgo2 : tgoOps[2]? = some { dst := some 47, op := Go.Op.move (Go.Operand.tmp 2), type := 23, pos := "ref.go:57", after := #[], guard := none } := by kernel_rfl
theorem tgo3 : tgoOps[3]? = some { dst := some 48, op := Go.Op.slice 64 (Go.Operand.tmp 11) none none none, type := 23, pos := "ref.go:57", after := #[], guard := none } := by kernel_rfl
theorem tgo4 : tgoOps[4]? = some { dst := some 49, op := Go.Op.move (Go.Operand.tmp 13), type := 23, pos := "ref.go:57", after := #[], guard := none } := by kernel_rfl
theorem tgo5 : tgoOps[5]? = some { dst := some 50, op := Go.Op.call { callee := Go.Callee.value (Go.Operand.func 37), args := #[Go.Operand.tmp 45, Go.Operand.tmp 46, Go.Operand.tmp 47, Go.Operand.tmp 48, Go.Operand.tmp 49], argTypes := #[29, 5, 23, 23, 23] }, type := 22, pos := "ref.go:57", after := #[{ on := 0, ground := Go.Ground.data }, { on := 1, ground := Go.Ground.data }, { on := 2, ground := Go.Ground.data }, { on := 3, ground := Go.Ground.data }, { on := 4, ground := Go.Ground.data }], guard := none } := by kernel_rfl
theorem tgo6 : tgoOps[6]? = some { dst := some 14, op := Go.Op.alloc 22, type := 0, pos := "ref.go:57", after := #[], guard := none } := by kernel_rfl
theorem tgo7 : tgoOps[7]? = some { dst := none, op := Go.Op.store 22 (Go.Operand.tmp 14) (Go.Operand.tmp 50), type := 0, pos := "ref.go:57", after := #[{ on := 6, ground := Go.Ground.data }, { on := 5, ground := Go.Ground.data }, { on := 5, ground := Go.Ground.chain }, { on := 0, ground := Go.Ground.phase }, { on := 1, ground := Go.Ground.phase }, { on := 2, ground := Go.Ground.phase }, { on := 3, ground := Go.Ground.phase }, { on := 4, ground := Go.Ground.phase }, { on := 5, ground := Go.Ground.phase }, { on := 6, ground := Go.Ground.phase }], guard := none } := by kernel_rfl
def tgoL (p q : Nat) : Array Bool := #[decide (1 ≤ p), true, true, true, true, decide (2 ≤ p), decide (1 ≤ q), false]
def tgoMay (p q i : Nat) : Bool := (i == 0 && p == 0) || (i == 5 && p == 1) || (i == 6 && q == 0)
theorem tgo_all : ((List.range 3).all fun p => (List.range 2).all fun q => p + q == 3 || (!(Region.ready .any tgoOps (tgoL p q)).isEmpty && (Region.ready .any tgoOps (tgoL p q)).all (tgoMay p q))) = true := by kernel_rfl
theorem tgo_may {p q : Nat} (h1 : p ≤ 2) (h2 : q ≤ 1) (hs : p + q < 3) : Region.ready .any tgoOps (tgoL p q) ≠ [] ∧ ∀ i ∈ Region.ready .any tgoOps (tgoL p q), (i = 0 ∧ p = 0) ∨ (i = 5 ∧ p = 1) ∨ (i = 6 ∧ q = 0) := by
  have h := List.all_eq_true.1 (List.all_eq_true.1 tgo_all p (by simp; omega)) q (by simp; omega)
  have hn : (p + q == 3) = false := by simp; omega
  rw [hn, Bool.false_or, Bool.and_eq_true] at h
  refine ⟨fun e => by rw [e] at h; simp at h, fun i hi => ?_⟩
  have := List.all_eq_true.1 h.2 i hi
  simpa [tgoMay, or_assoc] using this
theorem tgo_as {Q : Exit → Act → World → Prop} {n : Nat} {L L' : Array Bool} {a : Act} {w : World} (h : L = L') (hh : wpAny Tryd.prog .any tgoOps Q n L a w) : wpAny Tryd.prog .any tgoOps Q n L' a w := h ▸ hh

set_option maxRecDepth 100000 in
set_option maxHeartbeats 1000000 in
theorem tgo_region {Q : Exit → Act → World → Prop} {w0 : World} {gK : Nat} {ks T : List UInt8} {vk vc vn vb : Value} {f0 f1 f2 f3 f5 f6 f7 f8 f9 f10 f11 f12 f13 f15 f16 f17 f18 f19 f20 f21 f22 f23 f24 f25 f26 f27 f28 f29 f30 f31 f32 f33 f34 f35 f36 f37 f38 f39 f40 f41 f42 f43 f44 f51 f52 f53 f54 f55 f56 f57 f58 f59 f60 f61 f62 f63 f64 f65 f66 f67 : Value} (hk : ks.length = 96) (hK : Blk w0 gK (ks.map byteV) 29) (hT : T.length = 32)
    (hc : ∀ W, Only (fun _ => False) w0 W → Calls Tryd.prog 37 #[.agg (ks.map byteV).toArray, vk, vc, vn, vb] W fun e w' => e = .returned (digV T) ∧ Only (fun _ => False) W w')
    (hQ : ∀ x44 x49 x14 w g, Only (fun _ => False) w0 w → w0.heap.size ≤ g → Blk w g (ocells 32 []) 22 → x14 = .pointer (some ⟨g, 0, none⟩) → Q .normal ⟨(List.toArray (f0 :: f1 :: f2 :: f3 :: .pointer (some ⟨gK, 0, none⟩) :: f5 :: f6 :: f7 :: f8 :: f9 :: f10 :: f11 :: f12 :: f13 :: x14 :: f15 :: f16 :: f17 :: f18 :: f19 :: f20 :: f21 :: f22 :: f23 :: f24 :: f25 :: f26 :: f27 :: f28 :: f29 :: f30 :: f31 :: f32 :: f33 :: f34 :: f35 :: f36 :: f37 :: f38 :: f39 :: f40 :: f41 :: f42 :: f43 :: f44 :: x44 :: vk :: vc :: vn :: vb :: x49 :: f51 :: f52 :: f53 :: f54 :: f55 :: f56 :: f57 :: f58 :: f59 :: f60 :: f61 :: f62 :: f63 :: f64 :: f65 :: f66 :: f67 :: [])), []⟩ (w.setRow g (T.map byteV).toArray)) :
    ∀ n p q, p ≤ 2 → q ≤ 1 → p + q + n = 3 → ∀ x44 x49 x14 w, Only (fun _ => False) w0 w → TgSt w0 w ks T p q x44 x49 x14 →
      wpAny Tryd.prog .any tgoOps Q (n + 1) (tgoL p q) ⟨(List.toArray (f0 :: f1 :: f2 :: f3 :: .pointer (some ⟨gK, 0, none⟩) :: f5 :: f6 :: f7 :: f8 :: f9 :: f10 :: f11 :: f12 :: f13 :: x14 :: f15 :: f16 :: f17 :: f18 :: f19 :: f20 :: f21 :: f22 :: f23 :: f24 :: f25 :: f26 :: f27 :: f28 :: f29 :: f30 :: f31 :: f32 :: f33 :: f34 :: f35 :: f36 :: f37 :: f38 :: f39 :: f40 :: f41 :: f42 :: f43 :: f44 :: x44 :: vk :: vc :: vn :: vb :: x49 :: f51 :: f52 :: f53 :: f54 :: f55 :: f56 :: f57 :: f58 :: f59 :: f60 :: f61 :: f62 :: f63 :: f64 :: f65 :: f66 :: f67 :: [])), []⟩ w := by
  intro n
  induction n with
  | zero =>
    intro p q h1 h2 hs x44 x49 x14 w ho st
    obtain rfl : p = 2 := by omega
    obtain rfl : q = 1 := by omega
    obtain ⟨g, rfl, hg, hb⟩ := st.new rfl
    obtain rfl := st.two rfl
    have hQ' := hQ x44 (digV T) (.pointer (some ⟨g, 0, none⟩)) w g ho hg hb rfl
    refine wpAny_ready (rs := [7]) (by kernel_rfl) (by simp) (AllReady.cons tgo7 (fun J hJ => ?_) AllReady.nil)
    refine step_store_row (by rfl) 22 (.tmp 14) (.tmp 50) rfl g (T.map byteV).toArray rfl rfl 22 (ocells 32 []).toArray hb.heap (size_a32 hT) (by simp [ocells, hT]) (oneCell_bytes _) ?_
    exact hJ _ _ (wpAny_done (by kernel_rfl) hQ' _)
  | succ n ih =>
    intro p q h1 h2 hs x44 x49 x14 w ho st
    obtain ⟨hne, hmay⟩ := tgo_may h1 h2 (by omega)
    refine ⟨fun e => absurd e hne, fun i hi => ?_⟩
    rcases hmay i hi with ⟨rfl, rfl⟩ | ⟨rfl, rfl⟩ | ⟨rfl, rfl⟩
    · refine wpOp_step tgo0 fun J hJ => ?_
      refine step_load_mid (by rfl) 29 (.tmp 4) rfl gK 0 rfl (ks.map byteV) _ (hK.keep ho (fun x => x)).all Tryd.underlying29 rfl (by simpa using size_keys hk) ?_
      exact hJ _ _ (tgo_as (by rfl) (ih 1 q (by omega) h2 (by omega) _ x49 x14 _ ho ⟨fun _ => rfl, fun e => by omega, st.new⟩))
    · obtain rfl := st.one rfl
      have HC := Lib.hid (hc w ho)
      refine wpOp_step tgo5 fun J hJ => ?_
      go_simp
      refine HC.out.mono ?_
      rintro e w' ⟨rfl, ho'⟩
      exact hJ _ _ (tgo_as (by rfl) (ih 2 q (by omega) h2 (by omega) _ _ x14 _ (ho.trans ho') ⟨fun e => by omega, fun _ => rfl, fun e => st.newKept ho' e⟩))
    · refine wpOp_step tgo6 fun J hJ => ?_
      go_simp
      rw [← z32]
      refine hJ _ _ (tgo_as (by rfl) (ih p 1 h1 (by omega) (by omega) x44 x49 _ _ (ho.trans (Only.alloc _)) ?_))
      exact ⟨st.one, st.two, fun _ => ⟨_, rfl, ho.size, Blk.new _ _ _⟩⟩

end Go.Proofs.YtgdnmbchhfbjoaaDoor

namespace Go.Proofs.YtgdnmbchhfbjoaaDoor
open Go.RowKit

theorem built_z12 : Tryd.prog.built 64 [] = some (ocells 12 []).toArray := by kernel_rfl
theorem size_z12 : (Tryd.prog.info? 64).map (·.size) = some (ocells 12 []).toArray.size := by kernel_rfl
theorem one_z12 : (ocells 12 []).toArray.all (·.oneCell') = true := by kernel_rfl

/-- A nonce that is being filled out of a row that stays; the keys stay too. -/
structure Fil (w wr : World) (gK g7 : Nat) (ks D : List UInt8) (i : Nat) : Prop where
  keys : Blk wr gK (ks.map byteV) 29
  seven : Blk wr g7 (ocells 12 (D.take i)) 64
  only : Only (fun _ => False) w wr

theorem Fil.next {w wr : World} {gK g7 i : Nat} {ks D : List UInt8} (h : Fil w wr gK g7 ks D i) (hi : i < D.length) (hn : i < 12) (h6 : gK ≠ g7) (hw : w.heap.size ≤ g7) : Fil w (wr.setCell ⟨g7, i, none⟩ (.int .u8 ((D.getD i 0).toNat : Int))) gK g7 ks D (i + 1) := by
  have ho : Only (fun k => k = g7) wr (wr.setCell ⟨g7, i, none⟩ (.int .u8 ((D.getD i 0).toNat : Int))) := Only.setCell (w := wr) ⟨g7, i, none⟩ _
  refine ⟨h.keys.keep ho h6, ?_, h.only.andThen ho (fun k hk e => by omega)⟩
  have := h.seven.set i (.int .u8 ((D.getD i 0).toNat : Int))
  rwa [ocells_next hi hn] at this

theorem one_row (w : World) (b : UInt8) : Row w (w.alloc (.cells #[byteV b] 5)) (.slice (some ⟨w.heap.size, 0, none⟩) 1 1) [b] :=
  ⟨⟨rfl, .inr ⟨w.heap.size, 1, #[byteV b], rfl, Nat.zero_le _, heap_alloc_last _ _, Nat.le_refl _, by unfold maxLen; decide, rfl, rfl⟩⟩, fun q hq => (by have : w.heap.size = q := Option.some.inj hq; omega), Only.alloc _⟩

set_option maxRecDepth 100000 in
set_option maxHeartbeats 2000000 in
theorem r5seal_any {w : World} {S : Nat → Prop} {vc vp : Value} {ks ctx pl : List UInt8} {kind : UInt8} (hk : ks.length = 96) (hc : BytesAt w S vc ctx) (hp : BytesAt w S vp pl) (hS : ∀ k, S k → k < w.heap.size) (hl : Lil ctx pl) :
    Calls Tryd.prog 15 #[digV ks, byteV kind, vc, vp] w fun e w' => ∃ a c, e = .returned (.slice a (Se.blob ks kind ctx pl).length c) ∧ Row w w' (.slice a (Se.blob ks kind ctx pl).length c) (Se.blob ks kind ctx pl) := by
  obtain ⟨ca, cc, rfl⟩ := hc.shape
  obtain ⟨pa, pc, rfl⟩ := hp.shape
  have hk0 := Blk.new w (ks.map byteV) 29
  have ho0 : Only (fun _ => False) w (w.alloc (.cells (ks.map byteV).toArray 29)) := Only.alloc _
  have HK0 := Lib.hid hk0; have HO0 := Lib.hid ho0; have HKL := Lib.hid hk; have HC := Lib.hid hc; have HP := Lib.hid hp; have HS := Lib.hid hS
  have HNL := Lib.hid (Se.nonce_len ks kind ctx pl); have HBU := Lib.hid built_z12; have HSZ := Lib.hid size_z12; have HON := Lib.hid one_z12
  clear hk0 ho0 hk hc hp hS
  unfold digV
  rw [show byteV kind = .int .u8 (kind.toNat : Int) from rfl]
  go_enter Tryd.func15, Tryd.ntmps15
  go_wp2_with fail
  refine wp_region_any (by kernel_rfl) ?_
  change wpAny _ _ (secondOps Tryd.f15.body) _ 12 (Array.replicate 12 false) _ (World.drew (w.alloc (.cells (ks.map byteV).toArray 29)))
  generalize w.alloc (.cells (ks.map byteV).toArray 29) = w0 at *
  have HO1 : Hid (Only (fun _ => False) w w0.drew) := HO0.out.trans Only.drew
  have HK1 := Lib.hid HK0.out.drew
  clear HO0 HK0
  generalize w0.drew = w1 at *
  refine wpAny_take (i := 0) (v := .pointer (some ⟨w.heap.size, 64, none⟩)) rno0 (by kernel_rfl) (by kernel_rfl) (by kernel_rfl) (fun _ _ _ h => h) (Or.inl ⟨by rfl, fun w => by go_simp⟩) ?_
  simp only [Act.put, List.setIfInBounds_toArray, List.set_cons_zero, List.set_cons_succ]
  refine wpAny_take (i := 1) (v := .slice (some ⟨w.heap.size, 64, none⟩) 32 32) rno1 (by kernel_rfl) (by kernel_rfl) (by kernel_rfl) (fun _ _ _ h => h) (Or.inl ⟨by rfl, fun w => by go_simp⟩) ?_
  simp only [Act.put, List.setIfInBounds_toArray, List.set_cons_zero, List.set_cons_succ]
  refine wpAny_take (i := 2) (v := .int .u8 kind.toNat) rno2 (by kernel_rfl) (by kernel_rfl) (by kernel_rfl) (fun _ _ _ h => h) (Or.inl ⟨by rfl, fun w => by go_simp⟩) ?_
  simp only [Act.put, List.setIfInBounds_toArray, List.set_cons_zero, List.set_cons_succ]
  refine wpAny_take (i := 4) (v := .slice ca ctx.length cc) rno4 (by kernel_rfl) (by kernel_rfl) (by kernel_rfl) (fun _ _ _ h => h) (Or.inl ⟨by rfl, fun w => by go_simp⟩) ?_
  simp only [Act.put, List.setIfInBounds_toArray, List.set_cons_zero, List.set_cons_succ]
  refine wpAny_take (i := 5) (v := .slice pa pl.length pc) rno5 (by kernel_rfl) (by kernel_rfl) (by kernel_rfl) (fun _ _ _ h => h) (Or.inl ⟨by rfl, fun w => by go_simp⟩) ?_
  simp only [Act.put, List.setIfInBounds_toArray, List.set_cons_zero, List.set_cons_succ]
  refine rno_as (L := rnoL 0 0) (by kernel_rfl) ?_
  refine rno_region HKL.out HK1.out (HC.out.here HO1.out HS.out) (HP.out.here HO1.out HS.out) (hl.nonce kind) ?_ 6 0 0 (by omega) (by omega) rfl _ _ _ _ _ _ _ (Only.refl _ _) ⟨fun e => by omega, fun e => by omega, fun e => by omega, fun e => by omega, fun e => by omega, fun e => by omega⟩
  intro x9 x13 x16 x17 x18 x19 w2 g ho2 hg hb2 hx9
  subst hx9
  have hml : (Sh.mac (Se.name ks) (Wi.pack [[kind], ctx, pl])).length = 32 := sum_len _
  have hnd : Se.nonce ks kind ctx pl = (Sh.mac (Se.name ks) (Wi.pack [[kind], ctx, pl])).take 12 := rfl
  generalize Sh.mac (Se.name ks) (Wi.pack [[kind], ctx, pl]) = M at *
  have ho3 : Only (fun k => k = g) w2 (w2.setRow g (M.map byteV).toArray) := Only.setRow _ _
  have hz1 := HO1.out.size
  have hklt := HK1.out.lt
  have HM3 := Lib.hid (hb2.row (M.map byteV)); have HK3 := Lib.hid ((HK1.out.keep ho2 (fun x => x)).keep ho3 (by omega))
  have HO3 : Hid (Only (fun _ => False) w (w2.setRow g (M.map byteV).toArray)) := (HO1.out.trans ho2).andThen ho3 (fun k hk e => by omega)
  have HGK : Hid (g ≠ w.heap.size) := by unfold Hid; omega
  have HML := Lib.hid hml; have HND := Lib.hid hnd
  clear hb2 ho2 ho3 hz1 hklt hg HO1 HK1 hml hnd
  generalize w2.setRow g (M.map byteV).toArray = w3 at *
  have hz4 := Blk.new w3 (ocells 12 []) 64
  have ho4 : Only (fun _ => False) w3 (w3.alloc (.cells (ocells 12 []).toArray 64)) := Only.alloc _
  have hf4 : Fil w (w3.alloc (.cells (ocells 12 []).toArray 64)) w.heap.size w3.heap.size ks M 0 := ⟨HK3.out.keep ho4 (fun x => x), by simpa using hz4, HO3.out.trans ho4⟩
  have HF4 := Lib.hid hf4; have HM4 := Lib.hid (HM3.out.keep ho4 (fun x => x)); have HG3 := Lib.hid HM3.out.lt; have HW3 := Lib.hid HO3.out.size; have HK3L := Lib.hid HK3.out.lt
  clear hz4 ho4 hf4 HM3 HK3 HO3
  go_wp2_with (first
    | (refine wpList_build_as rfl 64 _ rfl [] rfl _ HBU.out ?_)
    | (refine wpList_store_row rfl 64 (.tmp 10) (.tmp 26) rfl w3.heap.size (ocells 12 []).toArray rfl rfl 64 (ocells 12 []).toArray (heap_alloc_last _ _) HSZ.out rfl HON.out ?_; rw [World.setRow_alloc_new]; generalize w3.alloc (.cells (ocells 12 []).toArray 64) = w4 at *))
  go_loopw [11] (fun iv wr => ∃ i : Nat, i ≤ 12 ∧ iv = .int .i64 i ∧ Fil w wr w.heap.size w3.heap.size ks M i ∧ Blk wr g (M.map byteV) 22) (fun iv _ => 12 - (intOf iv).toNat)
  case atStart => exact ⟨0, Nat.zero_le _, rfl, HF4.out, HM4.out⟩
  case round =>
    obtain ⟨i, hi, rfl, hcp, hmr⟩ := hrel
    by_cases hlt : i < 12
    · have hcell : wr.cell? ⟨g, i, none⟩ = some (.int .u8 ((M.getD i 0).toNat : Int)) := by
        rw [hmr.cell, List.getElem?_map, List.getD, List.getElem?_eq_getElem (by rw [HML.out]; omega)]; rfl
      have HN := Lib.hid (hcp.next (by rw [HML.out]; omega) hlt (by have := HK3L.out; omega) HW3.out)
      have HMN : Hid (Blk (wr.setCell ⟨w3.heap.size, i, none⟩ (.int .u8 ((M.getD i 0).toNat : Int))) g (M.map byteV) 22) := hmr.setNe _ _ (by have := HG3.out; show g ≠ w3.heap.size; omega)
      have hold : wr.cell? ⟨w3.heap.size, i, none⟩ = some (.int .u8 0) := (hcp.seven.cell i).trans (ocells_zero (by rw [List.length_take]; omega) hlt)
      have hfr := hcp.seven.frozen i
      have pz : 0 ≤ (i : Int) := by omega
      have mz : (i : Int) < 12 := by omega
      have mz2 : (i : Int) < 32 := by omega
      clear hcp hmr
      generalize M.getD i 0 = x at *
      go_wp2
      exact ⟨⟨i + 1, by omega, by go_num, HN.out, HMN.out⟩, by simp [intOf]; omega⟩
    · obtain rfl : i = 12 := by omega
      have HSV : Hid (Blk wr w3.heap.size ((Se.nonce ks kind ctx pl).map byteV) 64) := by
        have := hcp.seven
        rwa [← HND.out, ocells_full HNL.out] at this
      have HK5 := Lib.hid hcp.keys; have HO5 := Lib.hid hcp.only
      clear hcp hmr HF4 HM4 HND
      have HX := Lib.hid (r3XOR_ok (p := 0) (Se.cipher_len HKL.out) HNL.out (HP.out.here HO5.out HS.out) (fun _ h => h) hl.few ⟨by have := hl.le; omega⟩)
      have HCI := Lib.hid (HK5.out.mid (o := 0) (n := 32))
      go_wp2_with (first
        | (refine wpList_load_mid rfl 22 (.tmp 37) rfl w.heap.size 0 rfl ((Se.cipher ks).map byteV) _ HCI.out Tryd.underlying22 rfl (by simpa using size_a32 (Se.cipher_len HKL.out)) ?_)
        | (refine wpList_load_row rfl 64 (.tmp 10) rfl w3.heap.size rfl 64 ((Se.nonce ks kind ctx pl).map byteV).toArray (0, 0) _ HSV.out.heap Tryd.underlying64 rfl (size_a12 HNL.out) ?_))
      refine HX.out.mono ?_
      rintro e w6 ⟨ba, bc, rfl, hr6⟩
      have HO6 := Lib.hid (HO5.out.trans hr6.only); have HK6 := Lib.hid (HK5.out.keep hr6.only (fun x => x)); have HN6 := Lib.hid (HSV.out.keep hr6.only (fun x => x))
      have hbl : (Se.body ks (Se.nonce ks kind ctx pl) pl).length = pl.length := Ch.xor_length _ _ _ _
      have hby : BytesAt w6 (fun k => k < w6.heap.size) (.slice ba pl.length bc) (Se.body ks (Se.nonce ks kind ctx pl) pl) := hr6.bytes
      have HBL := Lib.hid hbl; have HBY := Lib.hid hby
      have HTS := Lib.hid (hl.tag kind HNL.out hbl)
      clear hr6 hbl hby HX HCI HK5 HO5 HSV
      generalize hN : Se.nonce ks kind ctx pl = N at *
      generalize hBo : Se.body ks N pl = Bo at *
      go_wp2_with fail
      refine wp_region_any (by kernel_rfl) ?_
      change wpAny _ _ tgsOps _ 8 (Array.replicate 8 false) _ w6.drew
      have HO7 := Lib.hid (HO6.out.trans Only.drew); have HK7 := Lib.hid HK6.out.drew; have HN7 := Lib.hid HN6.out.drew; have HBY7 := Lib.hid (HBY.out.here Only.drew (fun _ h => h))
      clear HO6 HK6 HN6 HBY
      generalize w6.drew = w7 at *
      refine wpAny_take (i := 1) (v := .int .u8 (kind.toNat : Int)) tgs1 (by kernel_rfl) (by kernel_rfl) (by kernel_rfl) (fun _ _ _ h => h) (Or.inl ⟨by rfl, fun w => by go_simp⟩) ?_
      simp only [Act.put, List.setIfInBounds_toArray, List.set_cons_zero, List.set_cons_succ]
      refine wpAny_take (i := 2) (v := .slice ca ctx.length cc) tgs2 (by kernel_rfl) (by kernel_rfl) (by kernel_rfl) (fun _ _ _ h => h) (Or.inl ⟨by rfl, fun w => by go_simp⟩) ?_
      simp only [Act.put, List.setIfInBounds_toArray, List.set_cons_zero, List.set_cons_succ]
      refine wpAny_take (i := 3) (v := .slice (some ⟨w3.heap.size, 0, none⟩) 12 12) tgs3 (by kernel_rfl) (by kernel_rfl) (by kernel_rfl) (fun _ _ _ h => h) (Or.inl ⟨by rfl, fun w => by go_simp⟩) ?_
      simp only [Act.put, List.setIfInBounds_toArray, List.set_cons_zero, List.set_cons_succ]
      refine wpAny_take (i := 4) (v := .slice ba pl.length bc) tgs4 (by kernel_rfl) (by kernel_rfl) (by kernel_rfl) (fun _ _ _ h => h) (Or.inl ⟨by rfl, fun w => by go_simp⟩) ?_
      simp only [Act.put, List.setIfInBounds_toArray, List.set_cons_zero, List.set_cons_succ]
      refine tgs_as (L := tgsL 0 0) (by kernel_rfl) ?_
      have hTC : ∀ W, Only (fun _ => False) w7 W → Calls Tryd.prog 37 #[.agg (ks.map byteV).toArray, .int .u8 (kind.toNat : Int), .slice ca ctx.length cc, .slice (some ⟨w3.heap.size, 0, none⟩) 12 12, .slice ba pl.length bc] W fun e w' => e = .returned (digV (Se.tag ks kind ctx N Bo)) ∧ Only (fun _ => False) W w' := fun W ho =>
        r5tag_any (kind := kind) HKL.out ((HN7.out.keep ho (fun x => x)).whole HNL.out) (HC.out.here (HO7.out.trans ho) HS.out) (HBY7.out.here ho (fun _ h => h)) (fun _ h => h) HTS.out
      refine tgs_region HKL.out HK7.out (Se.tag_len ks kind ctx N Bo) hTC ?_ 3 0 0 (by omega) (by omega) rfl _ _ _ _ (Only.refl _ _) ⟨fun e => by omega, fun e => by omega, fun e => by omega⟩
      clear hTC
      intro x44 x49 x14 w8 g8 ho8 hg8 hb8 hx14
      subst hx14
      have HTL := Lib.hid (Se.tag_len ks kind ctx N Bo)
      generalize hTa : Se.tag ks kind ctx N Bo = Ta at *
      have ho9 : Only (fun k => k = g8) w8 (w8.setRow g8 (Ta.map byteV).toArray) := Only.setRow _ _
      have hz7 := HO7.out.size
      have hn7 := HN7.out.lt
      have HT9 := Lib.hid (hb8.row (Ta.map byteV)); have HN9 := Lib.hid ((HN7.out.keep ho8 (fun x => x)).keep ho9 (by omega))
      have HO9 : Hid (Only (fun _ => False) w (w8.setRow g8 (Ta.map byteV).toArray)) := (HO7.out.trans ho8).andThen ho9 (fun k hk e => by omega)
      have HBY9 : Hid (BytesAt (w8.setRow g8 (Ta.map byteV).toArray) (fun k => k < w7.heap.size) (.slice ba pl.length bc) Bo) := (HBY7.out.only ho8 (fun _ h => h) (fun _ _ x => x)).only ho9 (fun k hk => Nat.lt_of_lt_of_le hk ho8.size) (fun k hk e => by omega)
      have HZ9 : Hid (w7.heap.size ≤ (w8.setRow g8 (Ta.map byteV).toArray).heap.size) := Nat.le_trans ho8.size ho9.size
      clear ho8 hg8 hb8 ho9 hz7 hn7 HO7 HK7 HN7 HBY7
      generalize w8.setRow g8 (Ta.map byteV).toArray = w9 at *
      have hrow := one_row w9 kind
      have hnb := (HN9.out.whole HNL.out).here (w' := w9.alloc (.cells #[byteV kind] 5)) (Only.alloc _) (fun _ h => h)
      unfold byteV at hrow hnb
      have HROW := Lib.hid hrow; have HNB := Lib.hid hnb
      clear hrow hnb
      have hfl : Se.blob ks kind ctx pl = [kind] ++ N ++ Bo ++ Ta := by
        unfold Se.blob; rw [hN, hBo, hTa]; simp
      have HFL := Lib.hid hfl
      have hlB : ∀ k, k < w7.heap.size → k < w9.heap.size := fun k h => Nat.lt_of_lt_of_le h HZ9.out
      have l1 : ([kind] : List UInt8).length = 1 := rfl
      clear hfl l1
      have nl := HNL.out
      have bl := HBL.out
      have tl := HTL.out
      have pll : pl.length ≤ 32768 := by have := hl.le; omega
      have HB1 : Hid ((([kind] : List UInt8).length : Nat) + N.length ≤ 140737488355328) := by unfold Hid; simp; omega
      have HB2 : Hid (([kind] ++ N).length + Bo.length ≤ 140737488355328) := by unfold Hid; simp; omega
      have HB3 : Hid (([kind] ++ N ++ Bo).length + Ta.length ≤ 140737488355328) := by unfold Hid; simp; omega
      have HLA : Hid (([kind] ++ N).length = 13) := by unfold Hid; simp; omega
      have HLB : Hid (([kind] ++ N ++ Bo).length = 13 + pl.length) := by unfold Hid; simp; omega
      clear nl bl tl pll
      go_wp2_with (first
        | (at_builtin; refine wpList_append_bytes _ rfl (.tmp 51) (.tmp 52) rfl (.slice (some ⟨w9.heap.size, 0, none⟩) 1 1) (.slice (some ⟨w3.heap.size, 0, none⟩) 12 12) 1 (([kind] : List UInt8).map byteV) rfl rfl HROW.out.row HNB.out HB1.out ?_; intro a1 c1 w10 hr10 hg10 hat10; have hR10 := HROW.out.app (Only.refl _ _) rfl hr10 hg10 hat10; rw [HNL.out] at hR10; have HR10 := Lib.hid hR10; clear hr10 hg10 hat10 hR10; rw [HNL.out])
        | (at_builtin; refine wpList_append_bytes _ rfl (.tmp 54) (.tmp 55) rfl (.slice a1 (1 + 12) c1) (.slice ba pl.length bc) (1 + 12) (([kind] ++ N).map byteV) rfl rfl (by have := HR10.out.row; rw [HLA.out] at this; exact this) (HBY9.out.only HR10.out.only hlB (fun _ _ x => x)) (by have := HB2.out; rw [HLA.out] at this; exact this) ?_; intro a2 c2 w11 hr11 hg11 hat11; have hR11 := HR10.out.app (Only.refl _ _) (by rw [HLA.out]) hr11 hg11 hat11; have HR11 := Lib.hid hR11; clear hr11 hg11 hat11 hR11)
        | (at_builtin; refine wpList_append_bytes _ rfl (.tmp 57) (.tmp 58) rfl (.slice a2 (1 + 12 + Bo.length) c2) (.slice (some ⟨g8, 0, none⟩) 32 32) (1 + 12 + Bo.length) (([kind] ++ N ++ Bo).map byteV) rfl rfl (by have := HR11.out.row; rw [List.length_append, HLA.out] at this; exact this) ((HT9.out.keep HR11.out.only (fun x => x)).whole HTL.out) (by have := HB3.out; rw [List.length_append, HLA.out] at this; exact this) ?_; intro a3 c3 w12 hr12 hg12 hat12; have hR12 := HR11.out.app (Only.refl _ _) (by rw [List.length_append, HLA.out]) hr12 hg12 hat12; have HR12 := Lib.hid hR12; clear hr12 hg12 hat12 hR12))
      go_ret
      have hrF := Row.under HO9.out HR12.out
      have hln : 1 + 12 + Bo.length + Ta.length = (Se.blob ks kind ctx pl).length := by
        rw [HFL.out, List.length_append, List.length_append, HLA.out]
      rw [← HFL.out] at hrF
      refine ⟨a3, c3, by rw [← hln]; rfl, ?_⟩
      rw [← hln]
      exact hrF

end Go.Proofs.YtgdnmbchhfbjoaaDoor

namespace Go.Proofs.YtgdnmbchhfbjoaaDoor
open Go.RowKit

/-- What the document's Open answers. -/
def Opens5 (w : World) (ks : List UInt8) (kind : UInt8) (ctx b : List UInt8) (e : Ending) (w' : World) : Prop :=
  (Se.Takes ks kind ctx b ∧ ∃ a c, e = .returned (.tuple #[.slice a (Se.plain ks b).length c, .int .i64 0]) ∧ Row w w' (.slice a (Se.plain ks b).length c) (Se.plain ks b)) ∨
  (¬ Se.Takes ks kind ctx b ∧ e = .returned (.tuple #[.slice none 0 0, .int .i64 10]) ∧ Only (fun _ => False) w w')

theorem nonce_get {b : List UInt8} {i : Nat} (hi : i < 12) : (Se.nonceIn b).getD i 0 = b.getD (1 + i) 0 := by
  unfold Se.nonceIn
  rw [List.getD, List.getD, List.getElem?_take_of_lt hi, List.getElem?_drop]

set_option maxRecDepth 100000 in
set_option maxHeartbeats 2000000 in
theorem r5open_any {w : World} {S : Nat → Prop} {vc vb : Value} {ks ctx b : List UInt8} {kind : UInt8} (hk : ks.length = 96) (hc : BytesAt w S vc ctx) (hb : BytesAt w S vb b) (hS : ∀ k, S k → k < w.heap.size) (hl : Lil ctx b) :
    Calls Tryd.prog 40 #[digV ks, byteV kind, vc, vb] w (Opens5 w ks kind ctx b) := by
  obtain ⟨ca, cc, rfl⟩ := hc.shape
  obtain ⟨va, vd, rfl⟩ := hb.shape
  have ho1 : Only (fun _ => False) w (w.alloc (.cells (ks.map byteV).toArray 29)) := Only.alloc _
  have hb1 := Blk.new w (ks.map byteV) 29
  have HO1 := Lib.hid ho1; have HB1 := Lib.hid hb1; have HKL := Lib.hid hk; have HC := Lib.hid hc; have HB := Lib.hid hb; have HS := Lib.hid hS
  have hble := hl.le
  have hwr : wrap64 ((b.length : Int) - 45) = (b.length : Int) - 45 := by unfold wrap64; omega
  by_cases hlen : b.length < 45
  · have hlt : (b.length : Int) - 45 < 0 := by omega
    have HN : Hid (¬ Se.Takes ks kind ctx b) := fun h => by have := h.1; omega
    clear ho1 hb1 hk hc hb hS hlen hble
    unfold digV
    rw [show byteV kind = .int .u8 (kind.toNat : Int) from rfl]
    go_enter Tryd.func40, Tryd.ntmps40
    go_wp2
    go_ret2
    exact .inr ⟨HN.out, rfl, HO1.out⟩
  · have hlt : ¬ (b.length : Int) - 45 < 0 := by omega
    obtain ⟨ad, rfl, hcell⟩ := hb.byte (i := 0) (by omega)
    obtain ⟨x, hx⟩ : ∃ x, b[0]? = some x := ⟨_, List.getElem?_eq_getElem (by omega)⟩
    rw [show b.getD 0 0 = x by simp [List.getD, hx]] at hcell
    have hcell1 : (w.alloc (.cells (ks.map byteV).toArray 29)).cell? (ad.add 0) = some (.int .u8 (x.toNat : Int)) := by
      rw [World.cell?_of_block (w := w) (by rw [add_block]; exact ho1.block _ (by have := lt_of_cell hcell; rwa [add_block] at this) (fun x => x))]; exact hcell
    rw [show ad.add 0 = ad from rfl] at hcell1
    by_cases hb0 : x = kind
    case neg =>
      have hne : ¬ (x.toNat : Int) = (kind.toNat : Int) := fun h => hb0 (u8_eq h)
      have HN : Hid (¬ Se.Takes ks kind ctx b) := fun h => by have := h.2.1; rw [hx] at this; exact hb0 (Option.some.inj this)
      clear ho1 hb1 hk hc hb hS hlen hcell hx hb0 hble
      unfold digV
      rw [show byteV kind = .int .u8 (kind.toNat : Int) from rfl]
      go_enter Tryd.func40, Tryd.ntmps40
      go_wp2
      go_ret2
      exact .inr ⟨HN.out, rfl, HO1.out⟩
    case pos =>
      subst hb0
      obtain ⟨u, hs2, hu⟩ := piece_at hb (i := 13) (j := b.length - 32) (by omega) (by omega)
      obtain ⟨g3, o3, hs3, hr3, hg3, hc3⟩ := tail_at hb (i := b.length - 32) (by omega) (by omega)
      have e32 : ((b.length - 32 : Nat) : Int) = 13 + ((b.length : Int) - 45) := by omega
      rw [e32] at hs2 hs3
      have e33 : b.length - (b.length - 32) = 32 := by omega
      rw [e33] at hs3 hc3
      have hwr2 : wrap64 (13 + ((b.length : Int) - 45)) = 13 + ((b.length : Int) - 45) := by unfold wrap64; omega
      have hwr3 : IntKind.i64.wrap (13 + ((b.length : Int) - 45)) = 13 + ((b.length : Int) - 45) := by rw [IntKind.wrap_i64]; omega
      have hs2' : ∀ W : World, (Instr.slice 23 (.slice (some ad) b.length vd) (some (.int .i64 13)) (some (.int .i64 (13 + ((b.length : Int) - 45)))) none).run Tryd.prog W = .ok u W := hs2
      have hnl : (Se.nonceIn b).length = 12 := by unfold Se.nonceIn; simp; omega
      have hbl : (Se.bodyIn b).length = b.length - 45 := by unfold Se.bodyIn; simp; omega
      have htl : (Se.tagIn b).length = 32 := by unfold Se.tagIn; simp; omega
      have hu' : BytesAt w S u (Se.bodyIn b) := hu
      have hr3' : w.rangeAt g3 o3 ((Se.tagIn b).map byteV) := hr3
      have htake : Se.Takes ks x ctx b ↔ Se.tag ks x ctx (Se.nonceIn b) (Se.bodyIn b) = Se.tagIn b := ⟨fun h => h.2.2, fun h => ⟨by omega, hx, h⟩⟩
      have HTK := Lib.hid htake; have HNL := Lib.hid hnl; have HBL := Lib.hid hbl; have HTL := Lib.hid htl; have HU := Lib.hid hu'; have HR3 := Lib.hid hr3'; have HC3 := Lib.hid hc3; have HG3 := Lib.hid (HS.out _ hg3)
      have HPL : Hid (Se.plain ks b = Ch.xor (Se.cipher ks) (Se.nonceIn b) 0 (Se.bodyIn b)) := rfl
      have HSM : Hid (Sml (tot [[x], ctx, Se.nonceIn b, Se.bodyIn b])) := ⟨by simp [tot, hnl, hbl]; omega⟩
      have HFW : Hid (Few (Se.bodyIn b).length) := ⟨by omega⟩
      have HBI : Hid (∀ i, i < 12 → w.cell? (ad.add (1 + i)) = some (.int .u8 (((Se.nonceIn b).getD i 0).toNat : Int)) ∧ ad.block < w.heap.size) := fun i hi => by
        obtain ⟨ad', e, h⟩ := hb.byte (i := 1 + i) (by omega)
        obtain rfl := Option.some.inj e
        rw [nonce_get hi]
        exact ⟨h, by have := lt_of_cell h; rwa [add_block] at this⟩
      have HLE : Hid (13 ≤ b.length) := by unfold Hid; omega
      obtain ⟨ua, uc, rfl⟩ := hu'.shape
      have hz2 : Blk ((w.alloc (.cells (ks.map byteV).toArray 29)).alloc (.cells (ocells 12 []).toArray 64)) (w.heap.size + 1) (ocells 12 []) 64 := Blk.new1 _ _ _ _
      have ho2 : Only (fun k => k = w.heap.size + 1) ((w.alloc (.cells (ks.map byteV).toArray 29)).alloc (.cells (ocells 12 []).toArray 64)) (((w.alloc (.cells (ks.map byteV).toArray 29)).alloc (.cells (ocells 12 []).toArray 64)).setRow (w.heap.size + 1) (ocells 12 []).toArray) := Only.setRow _ _
      have hf2 : Fil w (((w.alloc (.cells (ks.map byteV).toArray 29)).alloc (.cells (ocells 12 []).toArray 64)).setRow (w.heap.size + 1) (ocells 12 []).toArray) w.heap.size (w.heap.size + 1) ks (Se.nonceIn b) 0 := ⟨(hb1.alloc (.cells (ocells 12 []).toArray 64)).keep ho2 (by omega), by simpa using hz2.row (ocells 12 []), (ho1.trans (Only.alloc _)).andThen ho2 (fun k hk e => by omega)⟩
      have HF2 := Lib.hid hf2; have HZ2 := Lib.hid hz2; have HBU := Lib.hid built_z12; have HSZ := Lib.hid size_z12; have HON := Lib.hid one_z12
      clear ho1 hb1 hk hc hb hS hlen hcell hx hs2 hu hr3 hg3 hc3 e32 e33 hnl hbl htl hu' hr3' htake HB hz2 ho2 hf2 hble
      generalize hNi : Se.nonceIn b = N at *
      generalize hBi : Se.bodyIn b = Bo at *
      generalize hTi : Se.tagIn b = Ta at *
      unfold digV
      rw [show byteV x = .int .u8 (x.toNat : Int) from rfl]
      go_enter Tryd.func40, Tryd.ntmps40
      go_wp2_with (first
        | (refine wpList_build_as rfl 64 _ rfl [] rfl _ HBU.out ?_)
        | (refine wpList_store_row rfl 64 (.tmp 11) (.tmp 29) rfl (w.heap.size + 1) (ocells 12 []).toArray rfl rfl 64 (ocells 12 []).toArray HZ2.out.heap HSZ.out rfl HON.out ?_; rw [← z12]; generalize ((w.alloc (.cells (ks.map byteV).toArray 29)).alloc (.cells (ocells 12 []).toArray 64)).setRow (w.heap.size + 1) (ocells 12 []).toArray = w2 at *))
      clear HZ2 hcell1
      go_loopw [12] (fun iv wr => ∃ i : Nat, i ≤ 12 ∧ iv = .int .i64 i ∧ Fil w wr w.heap.size (w.heap.size + 1) ks N i) (fun iv _ => 12 - (intOf iv).toNat)
      case atStart => exact ⟨0, Nat.zero_le _, rfl, HF2.out⟩
      case round =>
        obtain ⟨i, hi, rfl, hcp⟩ := hrel
        by_cases hlt2 : i < 12
        · obtain ⟨hc1, hadl⟩ := HBI.out i hlt2
          have hcell : wr.cell? (ad.add (1 + i)) = some (.int .u8 ((N.getD i 0).toNat : Int)) := by
            rw [World.cell?_of_block (w := w) (by rw [add_block]; exact hcp.only.block _ hadl (fun x => x))]; exact hc1
          have HN := Lib.hid (hcp.next (by rw [HNL.out]; omega) hlt2 (by omega) (by omega))
          have hold : wr.cell? ⟨w.heap.size + 1, i, none⟩ = some (.int .u8 0) := (hcp.seven.cell i).trans (ocells_zero (by rw [List.length_take]; omega) hlt2)
          have hfr := hcp.seven.frozen i
          have pz : 0 ≤ (i : Int) := by omega
          have mz : (i : Int) < 12 := by omega
          have mz2 : (1 : Int) + (i : Int) < (b.length : Int) := by have := HLE.out; omega
          have mz3 : 0 ≤ (1 : Int) + (i : Int) := by omega
          have e1 : ((1 : Int) + (i : Int)).toNat = 1 + i := by omega
          clear hcp hc1
          generalize N.getD i 0 = y at *
          go_wp2
          exact ⟨⟨i + 1, by omega, by go_num, HN.out⟩, by simp [intOf]; omega⟩
        · obtain rfl : i = 12 := by omega
          have HSV : Hid (Blk wr (w.heap.size + 1) (N.map byteV) 64) := by
            have := hcp.seven
            rwa [List.take_of_length_le (by rw [HNL.out]; exact Nat.le_refl _), ocells_full HNL.out] at this
          have HK5 := Lib.hid hcp.keys; have HO5 := Lib.hid hcp.only
          clear hcp HF2 HBI
          go_wp2_with fail
          refine wp_region_any (by kernel_rfl) ?_
          change wpAny _ _ tgoOps _ 8 (Array.replicate 8 false) _ wr.drew
          have HO7 := Lib.hid (HO5.out.trans Only.drew); have HK7 := Lib.hid HK5.out.drew; have HN7 := Lib.hid HSV.out.drew
          clear HO5 HK5 HSV
          generalize wr.drew = w7 at *
          refine wpAny_take (i := 1) (v := .int .u8 (x.toNat : Int)) tgo1 (by kernel_rfl) (by kernel_rfl) (by kernel_rfl) (fun _ _ _ h => h) (Or.inl ⟨by rfl, fun w => by go_simp⟩) ?_
          simp only [Act.put, List.setIfInBounds_toArray, List.set_cons_zero, List.set_cons_succ]
          refine wpAny_take (i := 2) (v := .slice ca ctx.length cc) tgo2 (by kernel_rfl) (by kernel_rfl) (by kernel_rfl) (fun _ _ _ h => h) (Or.inl ⟨by rfl, fun w => by go_simp⟩) ?_
          simp only [Act.put, List.setIfInBounds_toArray, List.set_cons_zero, List.set_cons_succ]
          refine wpAny_take (i := 3) (v := .slice (some ⟨w.heap.size + 1, 0, none⟩) 12 12) tgo3 (by kernel_rfl) (by kernel_rfl) (by kernel_rfl) (fun _ _ _ h => h) (Or.inl ⟨by rfl, fun w => by go_simp⟩) ?_
          simp only [Act.put, List.setIfInBounds_toArray, List.set_cons_zero, List.set_cons_succ]
          refine wpAny_take (i := 4) (v := .slice ua Bo.length uc) tgo4 (by kernel_rfl) (by kernel_rfl) (by kernel_rfl) (fun _ _ _ h => h) (Or.inl ⟨by rfl, fun w => by go_simp⟩) ?_
          simp only [Act.put, List.setIfInBounds_toArray, List.set_cons_zero, List.set_cons_succ]
          refine tgo_as (L := tgoL 0 0) (by kernel_rfl) ?_
          have hTC : ∀ W, Only (fun _ => False) w7 W → Calls Tryd.prog 37 #[.agg (ks.map byteV).toArray, .int .u8 (x.toNat : Int), .slice ca ctx.length cc, .slice (some ⟨w.heap.size + 1, 0, none⟩) 12 12, .slice ua Bo.length uc] W fun e w' => e = .returned (digV (Se.tag ks x ctx N Bo)) ∧ Only (fun _ => False) W w' := fun W ho =>
            r5tag_any (kind := x) HKL.out ((HN7.out.keep ho (fun x => x)).whole HNL.out) (HC.out.here (HO7.out.trans ho) HS.out) (HU.out.here (HO7.out.trans ho) HS.out) (fun _ h => h) HSM.out
          refine tgo_region HKL.out HK7.out (Se.tag_len ks x ctx N Bo) hTC ?_ 3 0 0 (by omega) (by omega) rfl _ _ _ _ (Only.refl _ _) ⟨fun e => by omega, fun e => by omega, fun e => by omega⟩
          clear hTC
          intro x44 x49 x14 w8 g8 ho8 hg8 hb8 hx14
          subst hx14
          have HGL := Lib.hid (Se.tag_len ks x ctx N Bo)
          generalize hG : Se.tag ks x ctx N Bo = G at *
          have ho9 : Only (fun k => k = g8) w8 (w8.setRow g8 (G.map byteV).toArray) := Only.setRow _ _
          have hz7 := HO7.out.size
          have hn7 := HN7.out.lt
          have HT9 := Lib.hid (hb8.row (G.map byteV)); have HN9 := Lib.hid ((HN7.out.keep ho8 (fun x => x)).keep ho9 (by omega)); have HK9 := Lib.hid ((HK7.out.keep ho8 (fun x => x)).keep ho9 (by have := HK7.out.lt; omega))
          have HO9 : Hid (Only (fun _ => False) w (w8.setRow g8 (G.map byteV).toArray)) := (HO7.out.trans ho8).andThen ho9 (fun k hk e => by omega)
          clear ho8 hg8 hb8 ho9 hz7 hn7 HO7 HK7 HN7 HSM
          generalize w8.setRow g8 (G.map byteV).toArray = w9 at *
          have hta : ∀ n, BytesAt (w9.drewN n) (fun k => k < (w9.drewN n).heap.size) (.slice (some ⟨g3, o3, none⟩) 32 (vd - (b.length - 32))) Ta := fun n => by
            have h := (BytesAt.of_range (bs := Ta) (c := vd - (b.length - 32)) (by rw [HTL.out]; exact HC3.out) (rangeAt_here HR3.out (HO9.out.trans (Only.drewN n)) HG3.out)).mono (S' := fun k => k < (w9.drewN n).heap.size) (fun k hk => by rw [hk]; exact Nat.lt_of_lt_of_le HG3.out (HO9.out.trans (Only.drewN n)).size)
            rwa [HTL.out] at h
          have t1 : ∀ n, (convert 23 9 (.slice (some ⟨g8, 0, none⟩) 32 32)).run Tryd.prog (w9.drewN n) = .ok (.string ⟨G.toArray⟩) (w9.drewN n) := fun n => ((HT9.out.drewN n).whole HGL.out).text
          have t2 : ∀ n, (convert 23 9 (.slice (some ⟨g3, o3, none⟩) 32 (vd - (b.length - 32)))).run Tryd.prog (w9.drewN n) = .ok (.string ⟨Ta.toArray⟩) (w9.drewN n) := fun n => (hta n).text
          have ha := all_32 g8 0
          clear hta HC3 HR3 HG3 HT9
          by_cases hGT : G = Ta
          · subst hGT
            go_wp2_with fail
            go_quiet ((fail))
            have HO10 : Hid (Only (fun _ => False) w (w9.drewN nq)) := HO9.out.trans (Only.drewN nq)
            have HN10 := Lib.hid (HN9.out.drewN nq); have HK10 := Lib.hid (HK9.out.drewN nq)
            clear HO9 HN9 HK9 t1 t2 ha hs2' hs3
            generalize w9.drewN nq = w10 at *
            have HX := Lib.hid (r3XOR_ok (p := 0) (Se.cipher_len HKL.out) HNL.out (HU.out.here HO10.out HS.out) (fun _ h => h) HFW.out ⟨by have := HFW.out.le; omega⟩)
            have HCI := Lib.hid (HK10.out.mid (o := 0) (n := 32))
            have HTT : Hid (Se.Takes ks x ctx b) := HTK.out.2 trivial
            have HPN : Hid ((Se.plain ks b).length = Bo.length) := by unfold Hid; rw [HPL.out]; exact Ch.xor_length _ _ _ _
            clear HK10 HTK HU HFW HC HS hG
            go_wp2_with (first
              | (refine wpList_load_mid rfl 22 (.tmp 60) rfl w.heap.size 0 rfl ((Se.cipher ks).map byteV) _ HCI.out Tryd.underlying22 rfl (by simpa using size_a32 (Se.cipher_len HKL.out)) ?_)
              | (refine wpList_load_row rfl 64 (.tmp 11) rfl (w.heap.size + 1) rfl 64 (N.map byteV).toArray (0, 0) _ HN10.out.heap Tryd.underlying64 rfl (size_a12 HNL.out) ?_))
            refine HX.out.mono ?_
            rintro e w11 ⟨ra, rc, rfl, hr11⟩
            have HR11 := Lib.hid (Row.under HO10.out hr11)
            clear hr11 HX HCI
            go_wp2_with fail
            go_ret2
            refine .inl ⟨HTT.out, ra, rc, by rw [HPN.out]; rfl, ?_⟩
            rw [HPN.out, HPL.out]
            exact HR11.out
          · have hne : (G == Ta) = false := by simpa using hGT
            go_wp2_with fail
            go_quiet ((fail))
            have HO10 : Hid (Only (fun _ => False) w (w9.drewN nq)) := HO9.out.trans (Only.drewN nq)
            have HTT : Hid (¬ Se.Takes ks x ctx b) := fun h => hGT (HTK.out.1 h)
            clear HO9 HN9 HK9 t1 t2 ha hs2' hs3 hGT hG
            generalize w9.drewN nq = w10 at *
            go_wp2_with fail
            go_ret2
            exact .inr ⟨HTT.out, rfl, HO10.out⟩

end Go.Proofs.YtgdnmbchhfbjoaaDoor
