/- Write, Len, Sum of a Keyed; sha.Mac; Len of a Hasher. Conditions: key and message are below 2^38 bytes. -/
import Derived.Test.YtgdnmbchhfbjoaaDoorHMac
namespace Go.Proofs.YtgdnmbchhfbjoaaDoor
open Go.RowKit

set_option maxRecDepth 100000 in
set_option maxHeartbeats 1000000 in
theorem kWrite_any {w : World} {g : Nat} {key m : List UInt8} (h : KeyedAt w g key m) {S : Nat → Prop} {v : Value} {ps : List (List UInt8)} (hv : PartsAt w S v ps) (hS : ∀ k, S k → k < w.heap.size ∧ k ≠ g) (hlen : m.length + ps.flatten.length ≤ 549755813888) (hn : ps.length ≤ 1048576) (ht : Tab w) (h1 : g ≠ 1) :
    Calls Tryd.prog 55 #[.pointer (some ⟨g, 0, none⟩), v] w fun e w' => e = .returned (.tuple #[]) ∧ KeyedAt w' g key (m ++ ps.flatten) ∧ Only (fun k => k = g) w w' := by
  obtain ⟨s1, r1, s2, r2, hb, k1, k2⟩ := h
  have hh : HashAt w g 0 [] (hcells s2 r2 (Sh.masked key 0x5c).length) 115 (Sh.masked key 0x36 ++ m) s1 r1 := ⟨hb, rfl, k1⟩
  have hw := hWrite_any hh hv hS (by rw [List.length_append, masked_len]; omega) hn ht h1
  have HW := Lib.hid hw
  obtain ⟨va, vc, rfl, _, _⟩ := hv
  clear hh hw hb hS ht k1
  go_enter Tryd.func55, Tryd.ntmps55
  go_wp2_with (go_at_call 68; refine HW.out.mono ?_; rintro e w2 ⟨rfl, ⟨s3, r3, hh3⟩, ho3⟩; have HH3 := Lib.hid hh3; have HO3 := Lib.hid ho3; clear hh3 ho3)
  go_end0
  have hh3 := HH3.out
  rw [List.append_assoc] at hh3
  exact ⟨rfl, ⟨s3, r3, s2, r2, hh3.blk, hh3.took, k2⟩, HO3.out⟩

set_option maxRecDepth 100000 in
set_option maxHeartbeats 1000000 in
theorem kSum_any {w : World} {g : Nat} {key m : List UInt8} (h : KeyedAt w g key m) (hlen : m.length ≤ 274877906944) (ht : Tab w) :
    Calls Tryd.prog 56 #[.pointer (some ⟨g, 0, none⟩)] w fun e w' => e = .returned (digV (Sh.mac key m)) ∧ Only (fun _ => False) w w' := by
  obtain ⟨s1, r1, s2, r2, hb, k1, k2⟩ := h
  have hg := hb.lt
  obtain ⟨I, hI⟩ : ∃ I, Sh.sum (Sh.masked key 0x36 ++ m) = I := ⟨_, rfl⟩
  have hIl : I.length = 32 := by rw [← hI]; exact sum_len _
  have ho1 : Only (fun _ => False) w (w.alloc (.cells (ocells 32 []).toArray 22)) := Only.alloc _
  have hr1 : Blk (w.alloc (.cells (ocells 32 []).toArray 22)) w.heap.size (ocells 32 []) 22 := Blk.new _ _ _
  have hh : HashAt (w.alloc (.cells (ocells 32 []).toArray 22)) g 0 [] (hcells s2 r2 (Sh.masked key 0x5c).length) 115 (Sh.masked key 0x36 ++ m) s1 r1 := ⟨hb.alloc _, rfl, k1⟩
  have hs := hSum_any hh (by rw [List.length_append, masked_len]; omega) (ht.alloc _)
  rw [hI] at hs
  have HI := Lib.hid hI; have HIL := Lib.hid hIl
  have HS := Lib.hid hs; have HO1 := Lib.hid ho1; have HR1 := Lib.hid hr1; have HB := Lib.hid hb; have HK1 := Lib.hid k1; have HK2 := Lib.hid k2; have HT := Lib.hid ht
  have hz := zeroHasher.1
  have hY : ∀ g w1, (Instr.sliceAt 22 (.pointer (some ⟨g, 0, none⟩)) none none none).run Tryd.prog w1 = .ok (.slice (some ⟨g, 0, none⟩) 32 32) w1 := slice_all_32
  have hn' : (hcells s2 r2 (Sh.masked key 0x5c).length).length = 73 := hcells_len k2.len
  have hn : (hcells s2 r2 (Sh.masked key 0x5c).length).toArray.size = 73 := by simp [hcells_len k2.len]
  have hsz : (Tryd.prog.info? 111).map (·.size) = some (hcells s2 r2 (Sh.masked key 0x5c).length).toArray.size := by rw [hn]; exact zeroHasher.2
  have hsz' : (Tryd.prog.info? 111).map (·.size) = some (hcells s2 r2 (Sh.masked key 0x5c).length).length := by rw [hn']; exact zeroHasher.2
  have hzz : (hcells zero8 noRest 0).toArray.size = (hcells s2 r2 (Sh.masked key 0x5c).length).toArray.size := by rw [hn]; rfl
  have HSZ := Lib.hid hsz; have HSZ' := Lib.hid hsz'; have HZZ := Lib.hid hzz
  clear hb hh hs ho1 hr1 k1 k2 ht hI hIl hn hn' hsz hsz' hzz hlen
  generalize hcells zero8 noRest 0 = Z at *
  go_enter Tryd.func56, Tryd.ntmps56
  go_wp2_with (first
    | (go_at_call 69; refine HS.out.mono ?_; rintro e w2 ⟨rfl, ho2⟩; have HO2 := Lib.hid (HO1.out.trans ho2); have HR2 := Lib.hid (HR1.out.keep ho2 (fun x => x)); clear ho2)
    | (refine wpList_store_row rfl 22 (.tmp 3) (.tmp 11) rfl w2.heap.size (I.map byteV).toArray rfl rfl 22 (ocells 32 []).toArray (heap_alloc_last _ _) (hsize_a32 HIL.out) (by simp [HIL.out, ocells]) (oneCell_bytes _) ?_; rw [World.setRow_alloc_new]; have HD3 := Lib.hid (Blk.new w2 (I.map byteV) 22); have HO3 := Lib.hid (HO2.out.trans (Only.alloc (.cells (I.map byteV).toArray 22))); have HR3 := Lib.hid (HR2.out.alloc (.cells (I.map byteV).toArray 22)); have HRG := Lib.hid (HashAt.range (w := w2.alloc (.cells (I.map byteV).toArray 22)) (m := Sh.masked key 0x5c) ⟨by rw [List.append_nil]; exact HB.out.keep HO3.out (fun x => x), hcells_len HK1.out.len, HK2.out⟩); generalize w2.alloc (.cells (I.map byteV).toArray 22) = w3 at *)
    | (refine wpList_load_mid rfl 111 (.tmp 14) rfl g 73 rfl (hcells s2 r2 (Sh.masked key 0x5c).length) _ HRG.out Tryd.underlying111 rfl HSZ'.out ?_)
    | (refine wpList_store_row rfl 111 (.tmp 4) (.tmp 15) rfl w3.heap.size (hcells s2 r2 (Sh.masked key 0x5c).length).toArray rfl rfl 111 Z.toArray (heap_alloc_last _ _) HSZ.out HZZ.out (oneCell_hash _ _ _) ?_; rw [World.setRow_alloc_new]))
  have hd4 := dig_bytes (HD3.out.alloc (.cells (hcells s2 r2 (Sh.masked key 0x5c).length).toArray 111)) HIL.out
  have hh4 : HashAt (w3.alloc (.cells (hcells s2 r2 (Sh.masked key 0x5c).length).toArray 111)) w3.heap.size 0 [] [] 111 (Sh.masked key 0x5c) s2 r2 := ⟨by rw [List.append_nil]; exact Blk.new w3 _ 111, rfl, HK2.out⟩
  have hr4 := HR3.out.alloc (.cells (hcells s2 r2 (Sh.masked key 0x5c).length).toArray 111)
  have ho4 : Only (fun _ => False) w (w3.alloc (.cells (hcells s2 r2 (Sh.masked key 0x5c).length).toArray 111)) := HO3.out.trans (Only.alloc _)
  have hz3 := HD3.out.lt
  have hr3l := HR3.out.lt
  have h1w := HT.out.lt
  generalize w3.alloc (.cells (hcells s2 r2 (Sh.masked key 0x5c).length).toArray 111) = w4 at *
  have htk := take_any hh4 hd4 (fun k hk => by subst hk; exact ⟨Nat.lt_trans hz3 hh4.blk.lt, by omega⟩) (by rw [masked_len, HIL.out]; decide) (HT.out.only ho4 (fun x => x)) (by omega)
  refine htk.mono ?_
  rintro e w5 ⟨rfl, ⟨s5, r5, hh5⟩, ho5⟩
  have hr5 := hr4.keep ho5 (by omega)
  have ho5' : Only (fun _ => False) w w5 := ho4.andThen ho5 (fun k hk e => by omega)
  have hs5 := hSum_any hh5 (by rw [List.length_append, masked_len, HIL.out]; decide) (HT.out.only ho5' (fun x => x))
  have em : Sh.sum (Sh.masked key 0x5c ++ I) = Sh.mac key m := by rw [← HI.out]; rfl
  rw [em] at hs5
  have HS5 := Lib.hid hs5; have HR5 := Lib.hid hr5; have HO5 := Lib.hid ho5'
  have HML := Lib.hid (show (Sh.mac key m).length = 32 from sum_len _)
  clear hd4 hh4 hr4 ho4 hz3 hr3l htk hh5 ho5 hr5 ho5' hs5 em hz hY
  obtain ⟨M, hM⟩ : ∃ M, Sh.mac key m = M := ⟨_, rfl⟩
  have HM := Lib.hid hM
  rw [hM] at HS5 HML
  clear hM
  go_wp2_with (first
    | (go_at_call 69; refine HS5.out.mono ?_; rintro e w6 ⟨rfl, ho6⟩; have HR6 := Lib.hid ((HR5.out.keep ho6 (fun x => x)).heap); have HO6 := Lib.hid (HO5.out.trans ho6); clear ho6)
    | (refine wpList_store_row rfl 22 (.tmp 2) (.tmp 18) rfl w.heap.size (M.map byteV).toArray rfl rfl 22 (ocells 32 []).toArray HR6.out (hsize_a32 HML.out) (by simp [HML.out, ocells]) (oneCell_bytes _) ?_))
  have hfin : (w6.setRow w.heap.size (M.map byteV).toArray).heap[w.heap.size]? = some (.cells (M.map byteV).toArray 22 (0, 0)) := Blk.row (L := ocells 32 []) HR6.out _
  exact bodyPost_ret (v := digV M) (results_cell_row rfl _ _ w.heap.size 22 _ (0, 0) _ rfl hfin Tryd.underlying22 rfl (hsize_a32 HML.out)) rfl ⟨by rw [HM.out], HO6.out.andThen (Only.setRow _ _) (fun k hk e => by omega)⟩

set_option maxRecDepth 100000 in
set_option maxHeartbeats 1000000 in
theorem sMac_any {w : World} {S : Nat → Prop} {vk v : Value} {key : List UInt8} {ps : List (List UInt8)} (hk : BytesAt w S vk key) (hv : PartsAt w S v ps) (hS : ∀ k, S k → k < w.heap.size) (hkl : key.length ≤ 549755813888) (hlen : ps.flatten.length ≤ 274877906944) (hn : ps.length ≤ 1048576) (hf : Fst w) (ht : Tab w) :
    Calls Tryd.prog 38 #[vk, v] w fun e w' => e = .returned (digV (Sh.mac key ps.flatten)) ∧ Only (fun _ => False) w w' := by
  have ho1 : Only (fun _ => False) w (w.alloc (.cells (ocells 32 []).toArray 22)) := Only.alloc _
  have hr1 : Blk (w.alloc (.cells (ocells 32 []).toArray 22)) w.heap.size (ocells 32 []) 22 := Blk.new _ _ _
  have hnm := newMac_any (hk.only ho1 hS (fun _ _ x => x)) (fun k hk => Nat.lt_of_lt_of_le (hS k hk) ho1.size) hkl (hf.only ho1 (fun x => x)) (ht.only ho1 (fun x => x))
  rw [World.size_alloc] at hnm
  have HNM := Lib.hid hnm; have HO1 := Lib.hid ho1; have HR1 := Lib.hid hr1; have HV := Lib.hid hv; have HS := Lib.hid hS; have HT := Lib.hid ht; have HL := Lib.hid hlen
  have h1w := ht.lt
  have HML := Lib.hid (show (Sh.mac key ps.flatten).length = 32 from sum_len _)
  obtain ⟨va, vc, rfl, _, _⟩ := id hv
  obtain ⟨ka, kc, rfl⟩ := hk.shape
  clear hk hv hS hkl hlen hf ht ho1 hr1 hnm
  go_enter Tryd.func38, Tryd.ntmps38
  go_wp2_with fail
  refine HNM.out.mono ?_
  rintro e w2 ⟨g, rfl, hg, hk2, ho2⟩
  have hr2 := HR1.out.keep ho2 (fun x => x)
  have ho2' := HO1.out.trans ho2
  have hkw := kWrite_any hk2 (HV.out.only ho2' HS.out (fun _ _ x => x)) (fun k hk => ⟨Nat.lt_of_lt_of_le (HS.out k hk) ho2'.size, by have := HS.out k hk; omega⟩) (by have := HL.out; rw [List.length_nil]; omega) hn (HT.out.only ho2' (fun x => x)) (by omega)
  rw [List.nil_append] at hkw
  have HKW := Lib.hid hkw; have HR2 := Lib.hid hr2; have HO2 := Lib.hid ho2'; have HG := Lib.hid hg
  clear hk2 ho2 hr2 ho2' hkw hg
  go_wp2_with fail
  refine HKW.out.mono ?_
  rintro e w3 ⟨rfl, hk3, ho3⟩
  have hg := HG.out
  have hr3 := HR2.out.keep ho3 (by omega)
  have ho3' : Only (fun _ => False) w w3 := HO2.out.andThen ho3 (fun k hk e => by omega)
  have HKS := Lib.hid (kSum_any hk3 HL.out (HT.out.only ho3' (fun x => x)))
  have HR3 := Lib.hid hr3; have HO3 := Lib.hid ho3'
  clear hk3 ho3 hr3 ho3' hg
  obtain ⟨M, hM⟩ : ∃ M, Sh.mac key ps.flatten = M := ⟨_, rfl⟩
  have HM := Lib.hid hM
  rw [hM] at HKS HML
  clear hM
  go_wp2_with (first
    | (go_at_call 56; refine HKS.out.mono ?_; rintro e w6 ⟨rfl, ho6⟩; have HR6 := Lib.hid ((HR3.out.keep ho6 (fun x => x)).heap); have HO6 := Lib.hid (HO3.out.trans ho6); clear ho6)
    | (refine wpList_store_row rfl 22 (.tmp 4) (.tmp 12) rfl w.heap.size (M.map byteV).toArray rfl rfl 22 (ocells 32 []).toArray HR6.out (hsize_a32 HML.out) (by simp [HML.out, ocells]) (oneCell_bytes _) ?_))
  have hfin : (w6.setRow w.heap.size (M.map byteV).toArray).heap[w.heap.size]? = some (.cells (M.map byteV).toArray 22 (0, 0)) := Blk.row (L := ocells 32 []) HR6.out _
  exact bodyPost_ret (v := digV M) (results_cell_row rfl _ _ w.heap.size 22 _ (0, 0) _ rfl hfin Tryd.underlying22 rfl (hsize_a32 HML.out)) rfl ⟨by rw [HM.out], HO6.out.andThen (Only.setRow _ _) (fun k hk e => by omega)⟩

end Go.Proofs.YtgdnmbchhfbjoaaDoor
