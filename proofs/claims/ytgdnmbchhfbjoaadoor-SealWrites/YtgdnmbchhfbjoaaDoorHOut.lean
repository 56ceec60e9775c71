/- (*state).bytes: the 32 bytes of a state. Conditions: none. -/
import Derived.Test.YtgdnmbchhfbjoaaDoorGMem
import Derived.Test.YtgdnmbchhfbjoaaDoorHMix
namespace Go.Proofs.YtgdnmbchhfbjoaaDoor
open Go.RowKit

theorem out_len (s : Sh.V8) : (Sh.out s).length = 32 := by simp [Sh.out]

set_option maxRecDepth 100000 in
set_option maxHeartbeats 1000000 in
theorem bytes_any {w : World} {b o : Nat} {s : Sh.V8} (hs : w.rangeAt b o (hscells s)) :
    Calls Tryd.prog 76 #[.pointer (some ⟨b, o, none⟩)] w fun e w' => e = .returned (.agg ((Sh.out s).map byteV).toArray) ∧ Only (fun _ => False) w w' := by
  have HS := Lib.hid hs
  clear hs
  go_enter Tryd.func76, Tryd.ntmps76
  go_wp2
  go_loopw [5] (fun iv wr => ∃ i : Nat, i ≤ 32 ∧ iv = .int .i64 i ∧ Blk wr (w.heap.size + 1) (ocells 32 ((Sh.out s).take i)) 22 ∧ Blk wr w.heap.size (ocells 32 []) 22 ∧ Only (fun _ => False) w wr) (fun iv _ => 32 - (intOf iv).toNat)
  case atStart =>
    refine ⟨0, Nat.zero_le _, rfl, ?_, ?_, ?_⟩
    · exact Blk.new1 w (.cells (ocells 32 []).toArray 22) (ocells 32 []) 22
    · exact (Blk.new w (ocells 32 []) 22).alloc _
    · exact (Only.alloc _).trans (Only.alloc _)
  case round =>
    obtain ⟨i, hi, rfl, hrow, hres, ho⟩ := hrel
    by_cases hlt : i < 32
    · have hc : wr.cell? ⟨b, o + i / 4, none⟩ = some (.int .u32 (s.list.getD (i / 4) 0)) := by
        refine rangeAt_only HS.out ho (fun x => x) (i / 4) _ ?_
        have : i / 4 < s.list.length := by simp [Sh.V8.list]; omega
        simp [hscells, this, wordV]
      have hf := hrow.frozen i
      have hlen : ((Sh.out s).take i).length = i := by simp [out_len]; omega
      have hz : wr.cell? ⟨w.heap.size + 1, i, none⟩ = some (.int .u8 0) := by rw [hrow.cell]; exact ocells_zero (by omega) hlt
      obtain ⟨x, hx⟩ : ∃ x, s.list.getD (i / 4) 0 = x := ⟨_, rfl⟩
      rw [hx] at hc
      have HST : Hid (Blk (wr.setCell ⟨w.heap.size + 1, i, none⟩ (.int .u8 (x / 2 ^ (24 - 8 * (i % 4)) % 256))) (w.heap.size + 1) (ocells 32 ((Sh.out s).take (i + 1))) 22) := by
        have := hrow.set i (byteV (Sh.byteAt s i))
        have e := ocells_set (n := 32) ((Sh.out s).take i) (Sh.byteAt s i) (by omega)
        rw [hlen] at e
        rw [e] at this
        have e2 : (Sh.out s).take (i + 1) = (Sh.out s).take i ++ [Sh.byteAt s i] := by
          rw [List.take_succ_eq_append_getElem (by rw [out_len]; exact hlt)]
          simp [Sh.out]
        rw [← e2] at this
        have e3 : byteV (Sh.byteAt s i) = .int .u8 (x / 2 ^ (24 - 8 * (i % 4)) % 256) := by
          rw [← hx]
          unfold byteV Sh.byteAt
          rw [u8_low]
        rwa [e3] at this
      have HOS : Hid (∀ v, Blk (wr.setCell ⟨w.heap.size + 1, i, none⟩ v) w.heap.size (ocells 32 []) 22 ∧ Only (fun _ => False) w (wr.setCell ⟨w.heap.size + 1, i, none⟩ v)) := fun v =>
        ⟨hres.setNe _ _ (by simp), ho.andThen (Only.setCell ⟨w.heap.size + 1, i, none⟩ _) (fun k hk e => by simp at e; omega)⟩
      clear hrow hres ho hx hlen
      go_wp2
      refine ⟨⟨i + 1, by omega, by go_num, HST.out, (HOS.out _).1, (HOS.out _).2⟩, ?_⟩
      simp [intOf]; omega
    · have e32 : ocells 32 ((Sh.out s).take i) = (Sh.out s).map byteV := by
        rw [List.take_of_length_le (by rw [out_len]; omega)]
        exact ocells_full (out_len s)
      rw [e32] at hrow
      have HRES := Lib.hid hres.heap
      have HROW := Lib.hid hrow.heap
      have HFIN : Hid ((wr.setRow w.heap.size ((Sh.out s).map byteV).toArray).heap[w.heap.size]? = some (.cells ((Sh.out s).map byteV).toArray 22 (0, 0)) ∧ Only (fun _ => False) w (wr.setRow w.heap.size ((Sh.out s).map byteV).toArray)) :=
        ⟨hres.row _, ho.andThen (Only.setRow _ _) (fun k hk e => by omega)⟩
      have esz : ((Sh.out s).map byteV).toArray.size = 32 := by simp [out_len]
      have hsz : (Tryd.prog.info? 22).map (·.size) = some ((Sh.out s).map byteV).toArray.size := by
        rw [esz]; kernel_rfl
      have hwz : (ocells 32 []).toArray.size = ((Sh.out s).map byteV).toArray.size := by
        rw [esz]; simp [ocells]
      have hone := oneCell_bytes (Sh.out s)
      have HSZ := Lib.hid hsz; have HWZ := Lib.hid hwz; have HONE := Lib.hid hone
      clear hrow hres e32 esz hsz hwz hone ho
      generalize hA : ((Sh.out s).map byteV).toArray = A at *
      have HA := Lib.hid hA
      clear hA
      generalize (ocells 32 []).toArray = Z at *
      go_wp2_with (first
        | (refine wpList_load_row rfl 22 (.tmp 3) rfl (w.heap.size + 1) rfl 22 A (0, 0) _ HROW.out Tryd.underlying22 rfl HSZ.out ?_)
        | (refine wpList_store_row rfl 22 (.tmp 2) (.tmp 23) rfl w.heap.size A rfl rfl 22 Z HRES.out HSZ.out HWZ.out HONE.out ?_))
      refine bodyPost_ret (v := .agg A) (results_cell_row rfl _ _ w.heap.size 22 A (0, 0) _ rfl HFIN.out.1 Tryd.underlying22 rfl HSZ.out) rfl ⟨?_, HFIN.out.2⟩
      rw [HA.out]

end Go.Proofs.YtgdnmbchhfbjoaaDoor
