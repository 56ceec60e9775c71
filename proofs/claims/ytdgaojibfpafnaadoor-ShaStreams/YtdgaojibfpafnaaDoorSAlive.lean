/- The fixed fact of every statement of layer 2; which rows are large. Conditions: none. -/
import Derived.Test.YtdgaojibfpafnaaDoorSHash
import Derived.Lib.SlBytesConst
namespace Go.Proofs.YtdgaojibfpafnaaDoor
open Go.RowKit

set_option maxRecDepth 100000 in
theorem abc : (Sh.sum [97, 98, 99])[0]? = some 186 ∧ (Sh.sum [97, 98, 99])[1]? = some 120 ∧ (Sh.sum [97, 98, 99])[2]? = some 22 ∧ (Sh.sum [97, 98, 99])[3]? = some 191 ∧ (Sh.sum [97, 98, 99])[31]? = some 173 := by
  have e : Sh.sum [97, 98, 99] = [186, 120, 22, 191, 143, 1, 207, 234, 65, 65, 64, 222, 93, 174, 34, 35, 176, 3, 97, 163, 150, 23, 122, 156, 180, 16, 255, 97, 242, 0, 21, 173] := by kernel_rfl
  rw [e]
  exact ⟨rfl, rfl, rfl, rfl, rfl⟩

theorem alive_parts {w : World} (hf : Fst w) (ht : Tab w) :
    Calls Tryd.prog 12 #[.slice (some ⟨w.heap.size + 1 + 1, 0, none⟩) 2 2] (((w.alloc (.cells #[.int .u8 97] 5 (1, 2))).alloc (.cells #[.int .u8 98, .int .u8 99] 5 (2, 3))).alloc (.cells #[.slice (some ⟨w.heap.size, 0, none⟩) 1 1, .slice (some ⟨w.heap.size + 1, 0, none⟩) 2 2] 22))
      (fun e w' => e = .returned (digV (Sh.sum [97, 98, 99])) ∧ Only (fun _ => False) w w') := by
  generalize hw : (((w.alloc (.cells #[.int .u8 97] 5 (1, 2))).alloc (.cells #[.int .u8 98, .int .u8 99] 5 (2, 3))).alloc (.cells #[.slice (some ⟨w.heap.size, 0, none⟩) 1 1, .slice (some ⟨w.heap.size + 1, 0, none⟩) 2 2] 22)) = w3
  have ho : Only (fun _ => False) w w3 := by rw [← hw]; exact ((Only.alloc _).trans (Only.alloc _)).trans (Only.alloc _)
  have hz : w3.heap.size = w.heap.size + 3 := by rw [← hw]; simp
  have b0 : w3.heap[w.heap.size]? = some (.cells #[.int .u8 97] 5 (1, 2)) := by
    rw [← hw, Below.heap_alloc _ _ _ (by simp; omega), Below.heap_alloc _ _ _ (by simp)]; exact heap_alloc_last w _
  have b1 : w3.heap[w.heap.size + 1]? = some (.cells #[.int .u8 98, .int .u8 99] 5 (2, 3)) := by
    rw [← hw, Below.heap_alloc _ _ _ (by simp)]
    have := heap_alloc_last (w.alloc (.cells #[.int .u8 97] 5 (1, 2))) (.cells #[.int .u8 98, .int .u8 99] 5 (2, 3))
    rwa [World.size_alloc] at this
  have b2 : w3.heap[w.heap.size + 1 + 1]? = some (.cells #[.slice (some ⟨w.heap.size, 0, none⟩) 1 1, .slice (some ⟨w.heap.size + 1, 0, none⟩) 2 2] 22 (0, 0)) := by
    rw [← hw]
    have := heap_alloc_last ((w.alloc (.cells #[.int .u8 97] 5 (1, 2))).alloc (.cells #[.int .u8 98, .int .u8 99] 5 (2, 3))) (.cells #[.slice (some ⟨w.heap.size, 0, none⟩) 1 1, .slice (some ⟨w.heap.size + 1, 0, none⟩) 2 2] 22)
    rwa [World.size_alloc, World.size_alloc] at this
  have p0 : BytesAt w3 (fun k => k < w3.heap.size) (.slice (some ⟨w.heap.size, 0, none⟩) 1 1) [97] := by
    refine .inr ⟨⟨w.heap.size, 0, none⟩, 1, rfl, by decide, fun _ => by show w.heap.size < _; omega, fun j x hx => ?_⟩
    match j, hx with
    | 0, hx => cases hx; simp [Addr.add, cell_of b0, byteV]
  have p1 : BytesAt w3 (fun k => k < w3.heap.size) (.slice (some ⟨w.heap.size + 1, 0, none⟩) 2 2) [98, 99] := by
    refine .inr ⟨⟨w.heap.size + 1, 0, none⟩, 2, rfl, by decide, fun _ => by show w.heap.size + 1 < _; omega, fun j x hx => ?_⟩
    match j, hx with
    | 0, hx => cases hx; simp [Addr.add, cell_of b1, byteV]
    | 1, hx => cases hx; simp [Addr.add, cell_of b1, byteV]
  have hp : PartsAt w3 (fun k => k < w3.heap.size) (.slice (some ⟨w.heap.size + 1 + 1, 0, none⟩) 2 2) [[97], [98, 99]] := by
    refine ⟨some ⟨w.heap.size + 1 + 1, 0, none⟩, 2, rfl, by decide, fun i hi => ?_⟩
    match i, hi with
    | 0, _ => exact ⟨_, _, rfl, by show w.heap.size + 1 + 1 < _; omega, by simp [Addr.add, cell_of b2], p0⟩
    | 1, _ => exact ⟨_, _, rfl, by show w.heap.size + 1 + 1 < _; omega, by simp [Addr.add, cell_of b2], p1⟩
  refine (sSum_any hp (fun _ h => h) (by decide) (by decide) (hf.only ho (fun x => x)) (ht.only ho (fun x => x))).mono fun e w' ⟨he, ho'⟩ => ?_
  exact ⟨he, ho.trans ho'⟩

set_option maxRecDepth 100000 in
set_option maxHeartbeats 1000000 in
theorem alive_any {w : World} (hf : Fst w) (ht : Tab w) :
    Calls Tryd.prog 9 #[] w fun e w' => e = .returned (.bool true) ∧ Only (fun _ => False) w w' := by
  have HSUM := Lib.hid (alive_parts hf ht)
  obtain ⟨d0, d1, d2, d3, d31⟩ := abc
  have hdl := sum_len [97, 98, 99]
  obtain ⟨D, hD⟩ : ∃ D, Sh.sum [97, 98, 99] = D := ⟨_, rfl⟩
  rw [hD] at HSUM d0 d1 d2 d3 d31 hdl
  have HDL := Lib.hid hdl
  have HD0 := Lib.hid d0; have HD1 := Lib.hid d1; have HD2 := Lib.hid d2; have HD3 := Lib.hid d3; have HD31 := Lib.hid d31
  clear hD hf ht hdl d0 d1 d2 d3 d31
  have kc := fun (w : World) (C : Array Value) (n c : Nat) => Lib.run_convert_bytes_const (P := Tryd.prog) w 22 5 C n c Tryd.underlying22 Tryd.underlying5
  have kc2 : ∀ (w : World) (X : Obj) (C : Array Value) (n c : Nat), (convert 22 22 (.slice (some ⟨w.heap.size + 1, 0, none⟩) n c)).run Tryd.prog ((w.alloc X).alloc (.cells C 5)) = .ok (.slice (some ⟨w.heap.size + 1, 0, none⟩) n c) ((w.alloc X).alloc (.cells C 5 (C.size, C.size + 1))) := by
    intro w X C n c
    have := kc (w.alloc X) C n c
    simpa using this
  go_enter Tryd.func9, Tryd.ntmps9
  go_wp2_with (first
    | (go_at_call 12; refine HSUM.out.mono ?_; rintro e w1 ⟨rfl, ho⟩; have HO := Lib.hid ho; clear ho kc kc2)
    | (refine wpList_store_row rfl 26 (.tmp 1) (.tmp 7) rfl w1.heap.size (D.map byteV).toArray rfl rfl 26 (ocells 32 []).toArray (heap_alloc_last _ _) (size_a32 HDL.out) (by simp [HDL.out, ocells]) (oneCell_bytes _) ?_; rw [World.setRow_alloc_new];
       have c0 : (w1.alloc (.cells (D.map byteV).toArray 26)).cell? ⟨w1.heap.size, 0, none⟩ = some (.int .u8 186) := (Blk.new w1 (D.map byteV) 26).cell 0 |>.trans (by rw [List.getElem?_map, HD0.out]; rfl);
       have c1 : (w1.alloc (.cells (D.map byteV).toArray 26)).cell? ⟨w1.heap.size, 1, none⟩ = some (.int .u8 120) := (Blk.new w1 (D.map byteV) 26).cell 1 |>.trans (by rw [List.getElem?_map, HD1.out]; rfl);
       have c2 : (w1.alloc (.cells (D.map byteV).toArray 26)).cell? ⟨w1.heap.size, 2, none⟩ = some (.int .u8 22) := (Blk.new w1 (D.map byteV) 26).cell 2 |>.trans (by rw [List.getElem?_map, HD2.out]; rfl);
       have c3 : (w1.alloc (.cells (D.map byteV).toArray 26)).cell? ⟨w1.heap.size, 3, none⟩ = some (.int .u8 191) := (Blk.new w1 (D.map byteV) 26).cell 3 |>.trans (by rw [List.getElem?_map, HD3.out]; rfl);
       have c31 : (w1.alloc (.cells (D.map byteV).toArray 26)).cell? ⟨w1.heap.size, 31, none⟩ = some (.int .u8 173) := (Blk.new w1 (D.map byteV) 26).cell 31 |>.trans (by rw [List.getElem?_map, HD31.out]; rfl);
       have HO2 : Hid (Only (fun _ => False) w (w1.alloc (.cells (D.map byteV).toArray 26))) := HO.out.trans (Only.alloc _);
       generalize w1.alloc (.cells (D.map byteV).toArray 26) = w2 at *))
  go_ret
  exact ⟨rfl, HO2.out⟩

end Go.Proofs.YtdgaojibfpafnaaDoor
