/- (*block).spread: the words of a block. Conditions: none. -/
import Derived.Test.YtgdnmbchhfbjoaaDoorGMem
import Derived.Test.YtgdnmbchhfbjoaaDoorHMem
namespace Go.Proofs.YtgdnmbchhfbjoaaDoor
open Go.RowKit

/-- What the loops of spread keep. -/
structure Spr (w wr : World) (ws : List Int) : Prop where
  row : Blk wr (w.heap.size + 1) (wcells ws) 101
  res : Blk wr w.heap.size (wcells []) 101
  only : Only (fun _ => False) w wr

theorem Spr.step {w wr : World} {ws : List Int} (h : Spr w wr ws) (hl : ws.length < 64) {t : Nat} (ht : ws.length = t) (v : Int) {ws' : List Int} (he : ws' = ws ++ [v]) :
    Spr w (wr.setCell ⟨w.heap.size + 1, t, none⟩ (.int .u32 v)) ws' where
  row := by
    subst ht he
    have := h.row.set ws.length (wordV v)
    rwa [wcells_set ws v hl] at this
  res := h.res.setNe _ _ (by simp)
  only := h.only.andThen (Only.setCell ⟨w.heap.size + 1, t, none⟩ _) (fun k hk e => by simp at e; omega)

theorem Spr.drew {w wr : World} {ws : List Int} (h : Spr w wr ws) : Spr w wr.drew ws := ⟨h.row.drew, h.res.drew, h.only.andThen Only.drew (fun _ _ x => x)⟩
theorem Spr.drewN {w wr : World} {ws : List Int} (h : Spr w wr ws) (n : Nat) : Spr w (wr.drewN n) ws :=
  ⟨by have := h.row; unfold Blk at *; rw [heap_drewN]; exact this, by have := h.res; unfold Blk at *; rw [heap_drewN]; exact this, ⟨h.only.os, h.only.tape, h.only.output, h.only.size, h.only.block⟩⟩

theorem grow_snoc (n : Nat) (ws : List Int) : Sh.grow (n + 1) ws = Sh.grow n ws ++ [Sh.next (Sh.grow n ws)] := rfl

set_option maxRecDepth 100000 in
set_option maxHeartbeats 1000000 in
theorem spread_any {w : World} {b o : Nat} {blk : List UInt8} (hb : w.rangeAt b o (blk.map byteV)) (hl : blk.length = 64) :
    Calls Tryd.prog 78 #[.pointer (some ⟨b, o, none⟩)] w fun e w' => e = .returned (.agg ((Sh.sched blk).map wordV).toArray) ∧ Only (fun _ => False) w w' := by
  have HB := Lib.hid hb; have HL := Lib.hid hl
  clear hb hl
  go_enter Tryd.func78, Tryd.ntmps78
  go_wp2
  go_loopw [10] (fun iv wr => ∃ t : Nat, t ≤ 16 ∧ iv = .int .i64 t ∧ Spr w wr ((Sh.first16 blk).take t)) (fun iv _ => 16 - (intOf iv).toNat)
  case atStart =>
    refine ⟨0, Nat.zero_le _, rfl, ?_, ?_, ?_⟩
    · exact Blk.new1 w (.cells (wcells []).toArray 101) (wcells []) 101
    · exact (Blk.new w (wcells []) 101).alloc _
    · exact (Only.alloc _).trans (Only.alloc _)
  case round =>
    obtain ⟨t, ht, rfl, hs⟩ := hrel
    by_cases hlt : t < 16
    · have hB := HB.out; have hL := HL.out
      have hrg := rangeAt_only hB hs.only (fun x => x)
      have hc0 := range_byte hrg (j := 4 * t) (by omega)
      have hc1 := range_byte hrg (j := 4 * t + 1) (by omega)
      have hc2 := range_byte hrg (j := 4 * t + 2) (by omega)
      have hc3 := range_byte hrg (j := 4 * t + 3) (by omega)
      have hlen : ((Sh.first16 blk).take t).length = t := by simp [first16_len]; omega
      have hf := hs.row.drew.frozen t
      have hz : wr.drew.cell? ⟨w.heap.size + 1, t, none⟩ = some (.int .u32 0) := by
        rw [hs.row.drew.cell]; exact wcells_zero (by omega) (by omega)
      have HST := Lib.hid (fun v he => hs.drew.step (by omega) hlen v (ws' := (Sh.first16 blk).take (t + 1)) he)
      have HF := Lib.hid (first16_take (blk := blk) hlt)
      generalize (blk.getD (4 * t) 0) = x0 at *
      generalize (blk.getD (4 * t + 1) 0) = x1 at *
      generalize (blk.getD (4 * t + 2) 0) = x2 at *
      generalize (blk.getD (4 * t + 3) 0) = x3 at *
      have q0 := x0.toNat_lt
      have q1 := x1.toNat_lt
      have q2 := x2.toNat_lt
      have q3 := x3.toNat_lt
      have w0 : IntKind.i64.wrap (4 * (t : Int)) = 4 * (t : Int) := IntWalk.i64_in _ (by omega)
      have w1 : IntKind.i64.wrap (4 * (t : Int) + 1) = 4 * (t : Int) + 1 := IntWalk.i64_in _ (by omega)
      have w2 : IntKind.i64.wrap (4 * (t : Int) + 2) = 4 * (t : Int) + 2 := IntWalk.i64_in _ (by omega)
      have w3 : IntKind.i64.wrap (4 * (t : Int) + 3) = 4 * (t : Int) + 3 := IntWalk.i64_in _ (by omega)
      have n0 : (4 * (t : Int)).toNat = 4 * t := by omega
      have n1 : (4 * (t : Int) + 1).toNat = 4 * t + 1 := by omega
      have n2 : (4 * (t : Int) + 2).toNat = 4 * t + 2 := by omega
      have n3 : (4 * (t : Int) + 3).toNat = 4 * t + 3 := by omega
      have p0 : 0 ≤ 4 * (t : Int) := by omega
      have p1 : 0 ≤ 4 * (t : Int) + 1 := by omega
      have p2 : 0 ≤ 4 * (t : Int) + 2 := by omega
      have p3 : 0 ≤ 4 * (t : Int) + 3 := by omega
      have pz : 0 ≤ (t : Int) := by omega
      have mz : (t : Int) < 64 := by omega
      have m0 : 4 * (t : Int) < 64 := by omega
      have m1 : 4 * (t : Int) + 1 < 64 := by omega
      have m2 : 4 * (t : Int) + 2 < 64 := by omega
      have m3 : 4 * (t : Int) + 3 < 64 := by omega
      clear hs hB hL hrg hlen
      go_wp2
      go_still_tail 39, (by kernel_rfl)
      change wpList _ _ _ _ _ wr.drew
      clear hc0 hc1 hc2 hc3
      generalize wr.drew = w5 at *
      go_wp2
      go_roundw
      case rel => exact ⟨t + 1, by omega, by go_num, HST.out _ (by rw [HF.out, hword_or])⟩
      case measure => simp [intOf]; omega
    · have e16 : (Sh.first16 blk).take t = Sh.first16 blk := List.take_of_length_le (by rw [first16_len]; omega)
      rw [e16] at hs
      obtain rfl : t = 16 := by omega
      have HS := Lib.hid hs
      clear hs e16
      rw [show ((16 : Nat) : Int) = 16 from rfl]
      go_wp2
      go_loopw [5] (fun iv w6 => ∃ t : Nat, 16 ≤ t ∧ t ≤ 64 ∧ iv = .int .i64 t ∧ Spr w w6 (Sh.grow (t - 16) (Sh.first16 blk))) (fun iv _ => 64 - (intOf iv).toNat)
      case atStart => exact ⟨16, by omega, by omega, rfl, HS.out⟩
      case round =>
        obtain ⟨t, ht0, ht, rfl, hs⟩ := hrel
        by_cases hlt : t < 64
        · have hlen : (Sh.grow (t - 16) (Sh.first16 blk)).length = t := by rw [grow_len, first16_len]; omega
          have HG : Hid (Sh.grow (t + 1 - 16) (Sh.first16 blk) = Sh.grow (t - 16) (Sh.first16 blk) ++ [Sh.next (Sh.grow (t - 16) (Sh.first16 blk))]) := by
            have e : t + 1 - 16 = (t - 16) + 1 := by omega
            rw [e]; exact grow_snoc _ _
          generalize Sh.grow (t - 16) (Sh.first16 blk) = ws at *
          have HN : Hid (Sh.next ws = Sh.low (Sh.sg1 (ws.getD (t - 2) 0) + ws.getD (t - 7) 0 + Sh.sg0 (ws.getD (t - 15) 0) + ws.getD (t - 16) 0)) := by
            rw [← hlen]; exact rfl
          have c15 : wr.cell? ⟨w.heap.size + 1, t - 15, none⟩ = some (.int .u32 (ws.getD (t - 15) 0)) := by rw [hs.row.cell]; exact wcells_get (by omega)
          have c2 : wr.cell? ⟨w.heap.size + 1, t - 2, none⟩ = some (.int .u32 (ws.getD (t - 2) 0)) := by rw [hs.row.cell]; exact wcells_get (by omega)
          have c7 : wr.cell? ⟨w.heap.size + 1, t - 7, none⟩ = some (.int .u32 (ws.getD (t - 7) 0)) := by rw [hs.row.cell]; exact wcells_get (by omega)
          have c16 : wr.cell? ⟨w.heap.size + 1, t - 16, none⟩ = some (.int .u32 (ws.getD (t - 16) 0)) := by rw [hs.row.cell]; exact wcells_get (by omega)
          have hf := hs.row.frozen t
          have hz : wr.cell? ⟨w.heap.size + 1, t, none⟩ = some (.int .u32 0) := by
            rw [hs.row.cell]; exact wcells_zero (by omega) (by omega)
          have HS6 := Lib.hid hs
          have HLEN := Lib.hid hlen
          have k15 : IntKind.i64.wrap ((t : Int) - 15) = (t : Int) - 15 := IntWalk.i64_in _ (by omega)
          have k2 : IntKind.i64.wrap ((t : Int) - 2) = (t : Int) - 2 := IntWalk.i64_in _ (by omega)
          have k7 : IntKind.i64.wrap ((t : Int) - 7) = (t : Int) - 7 := IntWalk.i64_in _ (by omega)
          have k16 : IntKind.i64.wrap ((t : Int) - 16) = (t : Int) - 16 := IntWalk.i64_in _ (by omega)
          have n15 : ((t : Int) - 15).toNat = t - 15 := by omega
          have n2 : ((t : Int) - 2).toNat = t - 2 := by omega
          have n7 : ((t : Int) - 7).toNat = t - 7 := by omega
          have n16 : ((t : Int) - 16).toNat = t - 16 := by omega
          have p15 : 0 ≤ (t : Int) - 15 := by omega
          have p2 : 0 ≤ (t : Int) - 2 := by omega
          have p7 : 0 ≤ (t : Int) - 7 := by omega
          have r7 : 7 ≤ (t : Int) := by omega
          have r16 : 16 ≤ (t : Int) := by omega
          have p16 : 0 ≤ (t : Int) - 16 := by omega
          have m15 : (t : Int) - 15 < 64 := by omega
          have m2 : (t : Int) - 2 < 64 := by omega
          have m7 : (t : Int) - 7 < 64 := by omega
          have m16 : (t : Int) - 16 < 64 := by omega
          have pz : 0 ≤ (t : Int) := by omega
          have mz : (t : Int) < 64 := by omega
          clear hs hlen HS
          generalize (ws.getD (t - 15) 0) = x15 at *
          generalize (ws.getD (t - 2) 0) = x2 at *
          generalize (ws.getD (t - 7) 0) = x7 at *
          generalize (ws.getD (t - 16) 0) = x16 at *
          go_wp2
          go_quiet (fail)
          go_wp2_with (go_at_call 79; refine (rotr_any _ _ (by decide) _).mono ?_; rintro e w' ⟨rfl, rfl⟩)
          have HS7 := Lib.hid ((HS6.out.drewN nq).drew)
          have c7' : (wr.drewN nq).cell? ⟨w.heap.size + 1, t - 7, none⟩ = some (.int .u32 x7) := c7
          have c16' : (wr.drewN nq).cell? ⟨w.heap.size + 1, t - 16, none⟩ = some (.int .u32 x16) := c16
          have hf' : (wr.drewN nq).drew.frozen? ⟨w.heap.size + 1, t, none⟩ = false := hf
          have hz' : (wr.drewN nq).drew.cell? ⟨w.heap.size + 1, t, none⟩ = some (.int .u32 0) := hz
          clear c7 c16 hf hz c15 c2 HS6
          generalize wr.drewN nq = w7 at *
          go_still_tail 15, (by kernel_rfl)
          change wpList _ _ _ _ _ w7.drew
          clear c7' c16'
          generalize w7.drew = w8 at *
          go_wp2
          go_roundw
          case rel =>
            refine ⟨t + 1, by omega, by omega, by go_num, HS7.out.step (by have := HLEN.out; omega) HLEN.out _ ?_⟩
            rw [HG.out, HN.out]
            rfl
          case measure => simp [intOf]; omega
        · obtain rfl : t = 64 := by omega
          have HS := Lib.hid hs
          clear hs
          have e64 : wcells (Sh.grow (64 - 16) (Sh.first16 blk)) = (Sh.sched blk).map wordV := wcells_full (sched_len blk)
          have hrow := HS.out.row
          rw [e64] at hrow
          have hres := HS.out.res
          have HO := Lib.hid HS.out.only
          have HROW := Lib.hid hrow.heap
          have HRES := Lib.hid hres.heap
          have HFIN : Hid ((wr.setRow w.heap.size ((Sh.sched blk).map wordV).toArray).heap[w.heap.size]? = some (.cells ((Sh.sched blk).map wordV).toArray 101 (0, 0)) ∧ Only (fun _ => False) w (wr.setRow w.heap.size ((Sh.sched blk).map wordV).toArray)) :=
            ⟨hres.row _, HS.out.only.andThen (Only.setRow _ _) (fun k hk e => by omega)⟩
          have esz : ((Sh.sched blk).map wordV).toArray.size = 64 := by simp [sched_len]
          have hsz : (Tryd.prog.info? 101).map (·.size) = some ((Sh.sched blk).map wordV).toArray.size := by
            rw [esz]; kernel_rfl
          have hwz : (wcells []).toArray.size = ((Sh.sched blk).map wordV).toArray.size := by
            rw [esz]; simp [wcells]
          have hone := oneCell_words (Sh.sched blk)
          have HSZ := Lib.hid hsz; have HWZ := Lib.hid hwz; have HONE := Lib.hid hone
          clear hrow hres e64 HS esz hsz hwz hone
          generalize hA : ((Sh.sched blk).map wordV).toArray = A at *
          have HA := Lib.hid hA
          clear hA
          generalize (wcells []).toArray = Z at *
          go_wp2_with (first
            | (refine wpList_load_row rfl 101 (.tmp 3) rfl (w.heap.size + 1) rfl 101 A (0, 0) _ HROW.out Tryd.underlying101 rfl HSZ.out ?_)
            | (refine wpList_store_row rfl 101 (.tmp 2) (.tmp 96) rfl w.heap.size A rfl rfl 101 Z HRES.out HSZ.out HWZ.out HONE.out ?_))
          refine bodyPost_ret (v := .agg A) (results_cell_row rfl _ _ w.heap.size 101 A (0, 0) _ rfl HFIN.out.1 Tryd.underlying101 rfl HSZ.out) rfl ⟨?_, HFIN.out.2⟩
          rw [HA.out]
end Go.Proofs.YtgdnmbchhfbjoaaDoor
