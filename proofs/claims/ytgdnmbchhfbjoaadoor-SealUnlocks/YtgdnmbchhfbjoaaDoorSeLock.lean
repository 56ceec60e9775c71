/- Lock. Conditions: few bytes. -/
import Derived.Test.YtgdnmbchhfbjoaaDoorSePass
import Derived.Test.YtgdnmbchhfbjoaaDoorSeSeal
namespace Go.Proofs.YtgdnmbchhfbjoaaDoor
open Go.RowKit

namespace Se
/-- The key file. -/
def file (pw salt m : List UInt8) : List UInt8 := [amphora1, salt, blob (pass pw salt) 1 salt m].flatten
theorem blob_len (ks : List UInt8) (kind : UInt8) (ctx pl : List UInt8) : (blob ks kind ctx pl).length = pl.length + 45 := by
  simp [blob, nonce_len, tag_len, body, Ch.xor_length]; omega
end Se

theorem step_load_mid {ops : Array Oper} {o : Oper} {a : Act} {w : World} {K : Act → World → Prop} {Q : Exit → Act → World → Prop} {E : Prop} (hw : Region.wanted o (yielded ops a.tmps) = true) (ty : TypeId) (x : Operand) (ho : o.op = .load ty x)
    (b p : Nat) (hx : a.eval x = .pointer (some ⟨b, p, none⟩)) (cs : List Value) (d : TypeDesc) (hc : w.rangeAt b p cs) (hu : Tryd.prog.underlying ty = some d) (hd : d.isRow = true) (hi : (Tryd.prog.info? ty).map (·.size) = some cs.length)
    (h : K (a.put o.dst (.agg cs.toArray)) w) : if Region.wanted o (yielded ops a.tmps) = true then Oper.wp Tryd.prog o a w K Q else E := by
  rw [if_pos hw]
  exact wp_load_mid ty x ho b p hx cs d hc hu hd hi h

theorem Blk.all {w : World} {g : Nat} {bs : List UInt8} {t : TypeId} (h : Blk w g (bs.map byteV) t) : w.rangeAt g 0 (bs.map byteV) := h.range fun j v hv => by rw [Nat.zero_add]; exact hv

set_option maxRecDepth 100000 in
set_option maxHeartbeats 1000000 in
theorem lock_bad {w : World} {pw salt m : List UInt8} (hg : Se.good pw = false) :
    Calls Tryd.prog 21 #[textV pw, digV salt, digV m] w fun e w' => e = .returned (.tuple #[.slice none 0 0, .iface 45 (.int .i64 28)]) ∧ Only (fun _ => False) w w' := by
  have HM := Lib.hid (fun W => may_any (w := W) (pw := pw))
  rw [hg] at HM
  have HO : Hid (Only (fun _ => False) w ((w.alloc (.cells (salt.map byteV).toArray 47)).alloc (.cells (m.map byteV).toArray 22))) := (Only.alloc _).trans (Only.alloc _)
  clear hg
  unfold digV
  go_enter Tryd.func21, Tryd.ntmps21
  go_wp2_with fail
  refine (HM.out _).mono ?_
  rintro e w1 ⟨rfl, rfl⟩
  go_wp2_with fail
  go_ret2
  exact ⟨rfl, HO.out⟩

set_option maxRecDepth 100000 in
set_option maxHeartbeats 1000000 in
theorem lock_any {w : World} {pw salt m : List UInt8} (hg : Se.good pw = true) (hs : salt.length = 16) (hm : m.length = 32) (hf : Fst w) (ht : Tab w) :
    Calls Tryd.prog 21 #[textV pw, digV salt, digV m] w fun e w' => ∃ a c, e = .returned (.tuple #[.slice a (Se.file pw salt m).length c, .nilIface]) ∧ Row w w' (.slice a (Se.file pw salt m).length c) (Se.file pw salt m) := by
  have hpl : pw.length ≤ 1024 := (of_decide_eq_true hg).2
  have HM := Lib.hid (fun W => may_any (w := W) (pw := pw))
  rw [hg] at HM
  have hs1 := (Blk.new w (salt.map byteV) 47).alloc (.cells (m.map byteV).toArray 22)
  have hm1 := Blk.new1 w (.cells (salt.map byteV).toArray 47) (m.map byteV) 22
  have ho1 : Only (fun _ => False) w ((w.alloc (.cells (salt.map byteV).toArray 47)).alloc (.cells (m.map byteV).toArray 22)) := (Only.alloc _).trans (Only.alloc _)
  generalize hw1 : (w.alloc (.cells (salt.map byteV).toArray 47)).alloc (.cells (m.map byteV).toArray 22) = w1 at *
  have HS1 := Lib.hid hs1; have HM1 := Lib.hid hm1; have HO1 := Lib.hid ho1; have HSL := Lib.hid hs; have HML := Lib.hid hm; have HF := Lib.hid hf; have HT := Lib.hid ht; have HPL := Lib.hid hpl
  clear hs1 hm1 ho1 hs hm hf ht hg hpl
  unfold digV
  go_enter Tryd.func21, Tryd.ntmps21
  go_wp2_with fail
  refine (HM.out _).mono ?_
  rintro e w2 ⟨rfl, rfl⟩
  clear hw1 HM
  go_wp2_with fail
  refine wp_region_any (by kernel_rfl) ?_
  change wpAny _ _ _ _ 7 (Array.replicate 7 false) _ w2.drew
  have HS3 := Lib.hid HS1.out.drew; have HM3 := Lib.hid HM1.out.drew; have HO3 := Lib.hid (HO1.out.trans Only.drew)
  clear HS1 HM1 HO1
  generalize w2.drew = w3 at *
  have HP := Lib.hid (pass_any (pw := pw) HSL.out (by have := HPL.out; omega) (HF.out.only HO3.out (fun x => x)) (HT.out.only HO3.out (fun x => x)))
  refine wpAny_take (i := 0) (v := textV pw) rfl (by kernel_rfl) (by kernel_rfl) (by kernel_rfl) (fun _ _ _ h => h) (Or.inl ⟨by rfl, fun w => by go_simp⟩) ?_
  simp only [Act.put, List.getElem_toArray, List.getElem_cons_zero, List.setIfInBounds_toArray, List.set_cons_zero, List.set_cons_succ]
  refine wpAny_take (i := 3) (v := .slice (some ⟨w.heap.size, 0, none⟩) 16 16) rfl (by kernel_rfl) (by kernel_rfl) (by kernel_rfl) (fun _ _ _ h => h) (Or.inl ⟨by rfl, fun w => by go_simp⟩) ?_
  simp only [Act.put, List.getElem_toArray, List.getElem_cons_succ, List.getElem_cons_zero, List.setIfInBounds_toArray, List.set_cons_zero, List.set_cons_succ]
  refine wpAny_take (i := 4) (v := .slice (some ⟨w.heap.size + 1, 0, none⟩) 32 32) rfl (by kernel_rfl) (by kernel_rfl) (by kernel_rfl) (fun _ _ _ h => h) (Or.inl ⟨by rfl, fun w => by go_simp⟩) ?_
  simp only [Act.put, List.getElem_toArray, List.getElem_cons_succ, List.getElem_cons_zero, List.setIfInBounds_toArray, List.set_cons_zero, List.set_cons_succ]
  refine wpAny_ready (rs := [1]) (by kernel_rfl) (by simp) (AllReady.cons rfl (fun J hJ => ?_) AllReady.nil)
  refine step_load_mid (by rfl) 47 (.tmp 4) rfl w.heap.size 0 rfl (salt.map byteV) _ HS3.out.all Tryd.underlying47 rfl (by simpa using size_a16 HSL.out) ?_
  refine hJ _ _ ?_
  clear hJ J
  simp only [Act.put, List.getElem_toArray, List.getElem_cons_succ, List.getElem_cons_zero, List.setIfInBounds_toArray, List.set_cons_zero, List.set_cons_succ]
  refine wpAny_ready (rs := [2]) (by kernel_rfl) (by simp) (AllReady.cons rfl (fun J hJ => ?_) AllReady.nil)
  go_simp
  refine HP.out.mono ?_
  rintro e w4 ⟨rfl, ho4⟩
  refine hJ _ _ ?_
  clear hJ J
  have HS4 := Lib.hid (HS3.out.keep ho4 (fun x => x)); have HM4 := Lib.hid (HM3.out.keep ho4 (fun x => x)); have HO4 := Lib.hid (HO3.out.trans ho4)
  have hll : Lil salt m := ⟨by have := HSL.out; have := HML.out; omega⟩
  have HSE := Lib.hid (seal_any (kind := 1) (Se.pass_len pw salt) (HS4.out.whole HSL.out) (HM4.out.whole HML.out) (fun _ h => h) hll (HF.out.only HO4.out (fun x => x)) (HT.out.only HO4.out (fun x => x)))
  clear ho4 HS3 HM3 HO3 HP hll
  refine wpAny_ready (rs := [5]) (by kernel_rfl) (by simp) (AllReady.cons rfl (fun J hJ => ?_) AllReady.nil)
  go_simp
  refine HSE.out.mono ?_
  rintro e w5 ⟨ba, bc, rfl, hr5⟩
  refine hJ _ _ ?_
  clear hJ J
  have HS5 := Lib.hid (HS4.out.keep hr5.only (fun x => x)); have HO5 := Lib.hid (HO4.out.trans hr5.only); have HB5 := Lib.hid hr5.bytes
  have hbl : (Se.blob (Se.pass pw salt) 1 salt m).length = 77 := by rw [Se.blob_len, HML.out]
  have HBL := Lib.hid hbl
  clear hr5 HS4 HM4 HO4 HSE hbl
  have hfile : Se.file pw salt m = [Se.amphora1, salt, Se.blob (Se.pass pw salt) 1 salt m].flatten := rfl
  generalize Se.blob (Se.pass pw salt) 1 salt m = B at *
  have HFI := Lib.hid hfile
  clear hfile
  refine wpAny_take (i := 6) (v := .slice ba B.length bc) rfl (by kernel_rfl) (by kernel_rfl) (by kernel_rfl) (fun _ _ _ h => h) (Or.inl ⟨by rfl, fun w => by go_simp⟩) ?_
  simp only [Act.put, List.getElem_toArray, List.getElem_cons_succ, List.getElem_cons_zero, List.setIfInBounds_toArray, List.set_cons_zero, List.set_cons_succ]
  refine wpAny_done (by kernel_rfl) ?_ _
  have kc := fun (w : World) (C : Array Value) (n c : Nat) => Lib.run_convert_bytes_const (P := Tryd.prog) w 23 5 C n c Tryd.underlying23 Tryd.underlying5
  have ha16 := all_16 w.heap.size 0
  go_wp2_with fail
  have hh6 : (w5.alloc (.cells (Se.amphora1.map byteV).toArray 5 (8, 8 + 1))).heap[w5.heap.size]? = some (.cells (Se.amphora1.map byteV).toArray 5 (8, 8 + 1)) := heap_alloc_last _ _
  have ho6 : Only (fun _ => False) w5 (w5.alloc (.cells (Se.amphora1.map byteV).toArray 5 (8, 8 + 1))) := Only.alloc _
  change Calls _ _ _ ((w5.alloc (.cells (Se.amphora1.map byteV).toArray 5 (8, 8 + 1))).alloc (.cells #[.slice (some ⟨w5.heap.size, 0, none⟩) 8 8, .slice (some ⟨w.heap.size, 0, none⟩) 16 16, .slice ba B.length bc] 23)) _
  have hz6 : (w5.alloc (.cells (Se.amphora1.map byteV).toArray 5 (8, 8 + 1))).heap.size = w5.heap.size + 1 := by simp
  generalize w5.alloc (.cells (Se.amphora1.map byteV).toArray 5 (8, 8 + 1)) = w6 at *
  have ho7 : Only (fun _ => False) w6 (w6.alloc (.cells #[.slice (some ⟨w5.heap.size, 0, none⟩) 8 8, .slice (some ⟨w.heap.size, 0, none⟩) 16 16, .slice ba B.length bc] 23)) := Only.alloc _
  have hb7 := Blk.new w6 [.slice (some ⟨w5.heap.size, 0, none⟩) 8 8, .slice (some ⟨w.heap.size, 0, none⟩) 16 16, .slice ba B.length bc] 23
  have ha7 := ((BytesAt.of_marked (bs := Se.amphora1) (c := 8) hh6 (by decide)).mono (S' := fun k => k < w6.heap.size) (fun k hk => by rw [hk]; exact lt_of_heap hh6)).here ho7 (fun _ h => h)
  rw [hz6] at hb7
  generalize w6.alloc (.cells #[.slice (some ⟨w5.heap.size, 0, none⟩) 8 8, .slice (some ⟨w.heap.size, 0, none⟩) 16 16, .slice ba B.length bc] 23) = w7 at *
  have ho57 := ho6.trans ho7
  have hfe : Few8 [Se.amphora1, salt, B] := ⟨by have := HSL.out; have := HBL.out; simp [tot, Se.amphora1]; omega, by simp⟩
  have HCC := Lib.hid (concat_any (three_blk hb7 ha7 ((HS5.out.keep ho57 (fun x => x)).whole HSL.out) (HB5.out.here ho57 (fun _ h => h))) (fun _ h => h) hfe)
  have HO7 := Lib.hid (HO5.out.trans ho57)
  clear hh6 ho6 hz6 ho7 hb7 ha7 ho57 hfe HO5 HS5 HB5 kc ha16
  refine HCC.out.mono ?_
  rintro e w8 ⟨ra, rc, rfl, hr8⟩
  have HR8 := Lib.hid (Row.under HO7.out hr8)
  clear hr8 HCC HO7
  generalize [Se.amphora1, salt, B].flatten = R at *
  go_wp2_with fail
  go_ret2
  rw [HFI.out]
  exact ⟨ra, rc, rfl, HR8.out⟩

end Go.Proofs.YtgdnmbchhfbjoaaDoor
