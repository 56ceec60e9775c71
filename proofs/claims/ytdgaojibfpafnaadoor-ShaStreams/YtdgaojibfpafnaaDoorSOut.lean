/- (*state).bytes: the 32 bytes of a state. Conditions: none. -/
import Derived.Test.YtdgaojibfpafnaaDoorSMix
namespace Go.Proofs.YtdgaojibfpafnaaDoor
open Go.RowKit

/-- A row of 32 bytes, of which the first are bs. -/
def ocells (n : Nat) (bs : List UInt8) : List Value := bs.map byteV ++ List.replicate (n - bs.length) (byteV 0)

theorem ocells_set {n : Nat} (ws : List UInt8) (v : UInt8) (h : ws.length < n) : (ocells n ws).set ws.length (byteV v) = ocells n (ws ++ [v]) := by
  unfold ocells
  rw [List.set_append_right _ _ (by simp)]
  simp only [List.length_map, Nat.sub_self, List.map_append, List.map_cons, List.map_nil, List.append_assoc, List.length_append, List.length_cons, List.length_nil]
  congr 1
  obtain ⟨k, hk⟩ : ∃ k, n - ws.length = k + 1 := ⟨n - ws.length - 1, by omega⟩
  rw [hk, show n - (ws.length + (0 + 1)) = k by omega]
  simp [List.replicate_succ]

theorem ocells_zero {n : Nat} {ws : List UInt8} {j : Nat} (h : ws.length ≤ j) (hn : j < n) : (ocells n ws)[j]? = some (.int .u8 0) := by
  unfold ocells
  rw [List.getElem?_append_right (by simpa using h)]
  simp [List.getElem?_replicate, byteV]
  omega

theorem ocells_full {n : Nat} {ws : List UInt8} (h : ws.length = n) : ocells n ws = ws.map byteV := by
  unfold ocells
  simp [h]

theorem u8_low (x : Int) : ((UInt8.ofNat (x % 256).toNat).toNat : Int) = x % 256 := by
  simp
  omega

theorem out_len (s : Sh.V8) : (Sh.out s).length = 32 := by simp [Sh.out]

set_option maxRecDepth 100000 in
set_option maxHeartbeats 1000000 in
theorem bytes_any {w : World} {b o : Nat} {s : Sh.V8} (hs : w.rangeAt b o (scells s)) :
    Calls Tryd.prog 39 #[.pointer (some ⟨b, o, none⟩)] w fun e w' => e = .returned (.agg ((Sh.out s).map byteV).toArray) ∧ Only (fun _ => False) w w' := by
  have HS := Lib.hid hs
  clear hs
  go_enter Tryd.func39, Tryd.ntmps39
  go_wp2
  go_loopw [5] (fun iv wr => ∃ i : Nat, i ≤ 32 ∧ iv = .int .i64 i ∧ Blk wr (w.heap.size + 1) (ocells 32 ((Sh.out s).take i)) 26 ∧ Blk wr w.heap.size (ocells 32 []) 26 ∧ Only (fun _ => False) w wr) (fun iv _ => 32 - (intOf iv).toNat)
  case atStart =>
    refine ⟨0, Nat.zero_le _, rfl, ?_, ?_, ?_⟩
    · exact Blk.new1 w (.cells (ocells 32 []).toArray 26) (ocells 32 []) 26
    · exact (Blk.new w (ocells 32 []) 26).alloc _
    · exact (Only.alloc _).trans (Only.alloc _)
  case round =>
    obtain ⟨i, hi, rfl, hrow, hres, ho⟩ := hrel
    by_cases hlt : i < 32
    · have hc : wr.cell? ⟨b, o + i / 4, none⟩ = some (.int .u32 (s.list.getD (i / 4) 0)) := by
        refine rangeAt_only HS.out ho (fun x => x) (i / 4) _ ?_
        have : i / 4 < s.list.length := by simp [Sh.V8.list]; omega
        simp [scells, this, wordV]
      have hf := hrow.frozen i
      have hlen : ((Sh.out s).take i).length = i := by simp [out_len]; omega
      have hz : wr.cell? ⟨w.heap.size + 1, i, none⟩ = some (.int .u8 0) := by rw [hrow.cell]; exact ocells_zero (by omega) hlt
      obtain ⟨x, hx⟩ : ∃ x, s.list.getD (i / 4) 0 = x := ⟨_, rfl⟩
      rw [hx] at hc
      have HST : Hid (Blk (wr.setCell ⟨w.heap.size + 1, i, none⟩ (.int .u8 (x / 2 ^ (24 - 8 * (i % 4)) % 256))) (w.heap.size + 1) (ocells 32 ((Sh.out s).take (i + 1))) 26) := by
        have := hrow.set i (byteV (Sh.byteAt s i))
        have e := ocells_set (n := 32) ((Sh.out s).take i) (Sh.byteAt s i) (by omega)
        rw [hlen] at e
        rw [e] at this
        have e2 : (Sh.out s).take (i + 1) = (Sh.out s).take i ++ [Sh.byteAt s i] := by
          rw [List.take_succ_eq_append_getElem (by rw [out_len]; exact hlt)]
          simp [Sh.out]
        rw [← e2] at this
        have e3 : byteV (Sh.byteAt s i) = .int .u8 (x / 2 ^ (24 - 8 * (i % 4)) % 256) := by
          rw [← hx]
          unfold byteV Sh.byteAt
          rw [u8_low]
        rwa [e3] at this
      have HOS : Hid (∀ v, Blk (wr.setCell ⟨w.heap.size + 1, i, none⟩ v) w.heap.size (ocells 32 []) 26 ∧ Only (fun _ => False) w (wr.setCell ⟨w.heap.size + 1, i, none⟩ v)) := fun v =>
        ⟨hres.setNe _ _ (by simp), ho.andThen (Only.setCell ⟨w.heap.size + 1, i, none⟩ _) (fun k hk e => by simp at e; omega)⟩
      clear hrow hres ho hx hlen
      go_wp2
      refine ⟨⟨i + 1, by omega, by go_num, HST.out, (HOS.out _).1, (HOS.out _).2⟩, ?_⟩
      simp [intOf]; omega
    · have e32 : ocells 32 ((Sh.out s).take i) = (Sh.out s).map byteV := by
        rw [List.take_of_length_le (by rw [out_len]; omega)]
        exact ocells_full (out_len s)
      rw [e32] at hrow
      have HRES := Lib.hid hres.heap
      have HROW := Lib.hid hrow.heap
      have HFIN : Hid ((wr.setRow w.heap.size ((Sh.out s).map byteV).toArray).heap[w.heap.size]? = some (.cells ((Sh.out s).map byteV).toArray 26 (0, 0)) ∧ Only (fun _ => False) w (wr.setRow w.heap.size ((Sh.out s).map byteV).toArray)) :=
        ⟨hres.row _, ho.andThen (Only.setRow _ _) (fun k hk e => by omega)⟩
      have esz : ((Sh.out s).map byteV).toArray.size = 32 := by simp [out_len]
      have hsz : (Tryd.prog.info? 26).map (·.size) = some ((Sh.out s).map byteV).toArray.size := by
        rw [esz]; kernel_rfl
      have hwz : (ocells 32 []).toArray.size = ((Sh.out s).map byteV).toArray.size := by
        rw [esz]; simp [ocells]
      have hone := oneCell_bytes (Sh.out s)
      have HSZ := Lib.hid hsz; have HWZ := Lib.hid hwz; have HONE := Lib.hid hone
      clear hrow hres e32 esz hsz hwz hone ho
      generalize hA : ((Sh.out s).map byteV).toArray = A at *
      have HA := Lib.hid hA
      clear hA
      generalize (ocells 32 []).toArray = Z at *
      go_wp2_with (first
        | (refine wpList_load_row rfl 26 (.tmp 3) rfl (w.heap.size + 1) rfl 26 A (0, 0) _ HROW.out Tryd.underlying26 rfl HSZ.out ?_)
        | (refine wpList_store_row rfl 26 (.tmp 2) (.tmp 23) rfl w.heap.size A rfl rfl 26 Z HRES.out HSZ.out HWZ.out HONE.out ?_))
      refine bodyPost_ret (v := .agg A) (results_cell_row rfl _ _ w.heap.size 26 A (0, 0) _ rfl HFIN.out.1 Tryd.underlying26 rfl HSZ.out) rfl ⟨?_, HFIN.out.2⟩
      rw [HA.out]

end Go.Proofs.YtdgaojibfpafnaaDoor
