/- The fixed fact of every statement of layer 3. Conditions: none. -/
import Derived.Test.YtjeccooodkogkaaCBlk
namespace Go.Proofs.Ytjeccooodkogkaa
open Go.RowKit

theorem key0_take {i : Nat} (h : i < 32) : byteV (Ch.key0.getD i 0) = .int .u8 (i : Int) := by
  have : Ch.key0.getD i 0 = UInt8.ofNat i := by simp [Ch.key0, h]
  rw [this]
  unfold byteV
  rw [byte_of_nat]
  congr 1
  omega

theorem nonce0V : digV Ch.nonce0 = .agg #[.int .u8 0, .int .u8 0, .int .u8 0, .int .u8 9, .int .u8 0, .int .u8 0, .int .u8 0, .int .u8 74, .int .u8 0, .int .u8 0, .int .u8 0, .int .u8 0] := by kernel_rfl
theorem key0_len : Ch.key0.length = 32 := by simp [Ch.key0]

theorem built_key : Try.prog.built 22 [] = some (ocells 32 []).toArray := by kernel_rfl
theorem zero_key : (∀ w, (zeroValue 22).run Try.prog w = .ok (.agg (ocells 32 []).toArray) w) ∧ (Try.prog.info? 22).map (·.size) = some 32 :=
  zero_of_info (v := .agg (ocells 32 []).toArray) (n := 32) (by kernel_rfl)
/-- The nonce of the example, as a value. -/
def nV : Value := .agg #[.int .u8 0, .int .u8 0, .int .u8 0, .int .u8 9, .int .u8 0, .int .u8 0, .int .u8 0, .int .u8 74, .int .u8 0, .int .u8 0, .int .u8 0, .int .u8 0]

theorem block0_any (w1 : World) : Calls Try.prog 10 #[.agg (Ch.key0.map byteV).toArray, .int .u32 1, nV] w1 fun e w' => e = .returned (digV (Ch.block Ch.key0 Ch.nonce0 1)) ∧ Only (fun _ => False) w1 w' := by
  have := cBlock_any (w := w1) key0_len (show Ch.nonce0.length = 12 by decide) 1
  rw [nonce0V] at this
  exact this

set_option maxRecDepth 100000 in
set_option maxHeartbeats 1000000 in
theorem alive_walk {w : World} {K bs : List UInt8} (HL : Hid (bs.length = 64)) (HD0 : Hid (bs[0]? = some 16)) (HD1 : Hid (bs[1]? = some 241)) (HD2 : Hid (bs[2]? = some 231)) (HD3 : Hid (bs[3]? = some 228)) (HD15 : Hid (bs[15]? = some 196))
    (HBK : Hid (∀ w1, Calls Try.prog 10 #[.agg (K.map byteV).toArray, .int .u32 1, nV] w1 fun e w' => e = .returned (digV bs) ∧ Only (fun _ => False) w1 w')) (HKL : Hid (K.length = 32)) (HKT : Hid (∀ i : Nat, i < 32 → byteV (K.getD i 0) = .int .u8 (i : Int))) :
    Calls Try.prog 9 #[] w fun e w' => e = .returned (.bool true) ∧ Only (fun _ => False) w w' := by
  have hsz : (Try.prog.info? 22).map (·.size) = some (ocells 32 []).toArray.size := by kernel_rfl
  have HSZ := Lib.hid hsz; have HONE := Lib.hid (show (ocells 32 []).toArray.all (·.oneCell') = true by simp [ocells, byteV, Value.oneCell'])
  have HNEW := Lib.hid (Blk.new w (ocells 32 []) 22)
  have HBU := Lib.hid built_key
  clear hsz
  obtain ⟨Z, hZ⟩ : ∃ Z, (ocells 32 []).toArray = Z := ⟨_, rfl⟩
  rw [hZ] at HSZ HONE HBU
  have hzv : ∀ w1, (zeroValue 22).run Try.prog w1 = .ok (.agg Z) w1 := by rw [← hZ]; exact zero_key.1
  unfold Blk at HNEW
  rw [hZ] at HNEW
  go_enter Try.func9, Try.ntmps9
  go_wp2_with (first
    | (refine wpList_build_as rfl 22 #[] rfl [] (by simp [go_sem]) Z HBU.out ?_)
    | (refine wpList_store_row rfl 22 (.tmp 1) (.tmp 4) rfl w.heap.size Z rfl rfl 22 Z (heap_alloc_last _ _) HSZ.out rfl HONE.out ?_; rw [World.setRow_alloc_new]))
  go_loopw [5] (fun iv wr => ∃ i : Nat, i ≤ 32 ∧ iv = .int .i64 i ∧ Blk wr w.heap.size (ocells 32 (K.take i)) 22 ∧ Only (fun _ => False) w wr) (fun iv _ => 32 - (intOf iv).toNat)
  case atStart => exact ⟨0, Nat.zero_le _, rfl, by unfold Blk; rw [List.take_zero, hZ]; exact HNEW.out, Only.alloc _⟩
  case round =>
    obtain ⟨i, hi, rfl, hb, ho⟩ := hrel
    by_cases hlt : i < 32
    · obtain ⟨c1, f1, hn⟩ := out_step (v := (i : Int)) hb HKL.out hlt (HKT.out i hlt)
      have HN := Lib.hid hn
      have HO : Hid (∀ v, Only (fun _ => False) w (wr.setCell ⟨w.heap.size, i, none⟩ v)) := fun v => ho.andThen (Only.setCell ⟨w.heap.size, i, none⟩ _) (fun k hk e => by simp at e; omega)
      clear hb ho hn
      go_wp2
      go_roundw
      case rel => exact ⟨i + 1, by omega, by go_num, HN.out, HO.out _⟩
      case measure => simp [intOf]; omega
    · obtain rfl : i = 32 := by omega
      rw [List.take_of_length_le (by rw [HKL.out]; omega), ocells_full HKL.out] at hb
      have HB := Lib.hid hb
      have HO := Lib.hid ho
      clear hb ho
      rw [show ((32 : Nat) : Int) = 32 from rfl]
      go_wp2_with (first
        | (refine wpList_load_row rfl 22 (.tmp 1) rfl w.heap.size rfl 22 (K.map byteV).toArray (0, 0) _ HB.out.heap Try.underlying22 rfl (size_a32 HKL.out) ?_)
        | (go_at_call 10; refine (HBK.out _).mono ?_; rintro e w2 ⟨rfl, ho2⟩; have HO2 := Lib.hid (HO.out.trans ho2); clear ho2)
        | (refine wpList_store_row rfl 26 (.tmp 3) (.tmp 15) rfl w2.heap.size (bs.map byteV).toArray rfl rfl 26 (ocells 64 []).toArray (heap_alloc_last _ _) (size_a64 HL.out) (by simp [ocells, HL.out]) (oneCell_bytes _) ?_; rw [World.setRow_alloc_new];
           have c0 : (w2.alloc (.cells (bs.map byteV).toArray 26)).cell? ⟨w2.heap.size, 0, none⟩ = some (.int .u8 16) := (Blk.new w2 (bs.map byteV) 26).cell 0 |>.trans (by rw [List.getElem?_map, HD0.out]; rfl);
           have c1 : (w2.alloc (.cells (bs.map byteV).toArray 26)).cell? ⟨w2.heap.size, 1, none⟩ = some (.int .u8 241) := (Blk.new w2 (bs.map byteV) 26).cell 1 |>.trans (by rw [List.getElem?_map, HD1.out]; rfl);
           have c2 : (w2.alloc (.cells (bs.map byteV).toArray 26)).cell? ⟨w2.heap.size, 2, none⟩ = some (.int .u8 231) := (Blk.new w2 (bs.map byteV) 26).cell 2 |>.trans (by rw [List.getElem?_map, HD2.out]; rfl);
           have c3 : (w2.alloc (.cells (bs.map byteV).toArray 26)).cell? ⟨w2.heap.size, 3, none⟩ = some (.int .u8 228) := (Blk.new w2 (bs.map byteV) 26).cell 3 |>.trans (by rw [List.getElem?_map, HD3.out]; rfl);
           have c15 : (w2.alloc (.cells (bs.map byteV).toArray 26)).cell? ⟨w2.heap.size, 15, none⟩ = some (.int .u8 196) := (Blk.new w2 (bs.map byteV) 26).cell 15 |>.trans (by rw [List.getElem?_map, HD15.out]; rfl);
           have HO3 : Hid (Only (fun _ => False) w (w2.alloc (.cells (bs.map byteV).toArray 26))) := HO2.out.trans (Only.alloc _);
           generalize w2.alloc (.cells (bs.map byteV).toArray 26) = w3 at *))
      go_ret
      exact ⟨rfl, HO3.out⟩

theorem alive_any {w : World} : Calls Try.prog 9 #[] w fun e w' => e = .returned (.bool true) ∧ Only (fun _ => False) w w' := by
  obtain ⟨d0, d1, d2, d3, d15⟩ := Ch.block0
  exact alive_walk (Lib.hid (Ch.block_length Ch.key0 Ch.nonce0 1)) (Lib.hid d0) (Lib.hid d1) (Lib.hid d2) (Lib.hid d3) (Lib.hid d15) (Lib.hid block0_any) (Lib.hid key0_len) (Lib.hid fun i h => key0_take h)

end Go.Proofs.Ytjeccooodkogkaa
