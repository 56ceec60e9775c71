/- settle, SyncDir. Conditions: counts far from an int's end. -/
import Derived.Test.YthjabfhfkikalaaW8
import Derived.Shelf.SlMaps.Clone
namespace Go.Proofs.Ythjabfhfkikalaa
open Go.RowKit Go.Maps Go.WideMaps

set_option maxHeartbeats 1000000 in
theorem mclone_any {w : World} {m : Nat} {d : Dm.Dir} (h : DirAt w m d) :
    Calls Try.prog 65 #[.map (some m)] w fun e w' => e = .returned (.map (some w.heap.size)) ∧ DirAt w' w.heap.size d ∧ Only (fun _ => False) w w' ∧ w'.heap.size = w.heap.size + 1 := by
  obtain ⟨es, clock, hb, F, hs, hD⟩ := h
  have hq := fun w => run_eql_map_nil_sl (P := Try.prog) w 72 _ _ (some m) Try.underlying72
  have hta : ∀ (w : World) (r : Option Nat), (Instr.typeAssert (.iface 72 (.map r)) 20 72 false).run Try.prog w = .ok (.map r) w := fun w r => run_typeAssert_map_sl w 72 20 _ _ _ Try.underlying72
  have HF := Lib.hid F; have HS := Lib.hid hs; have HD := Lib.hid hD; clear F hs hD
  go_enter Try.func65, Try.ntmps65
  go_wp2
  rw [run_callFunc_extern Try.func69 (by kernel_rfl) (by kernel_rfl) (by kernel_rfl) (e := Extern.MapsClone.clone) (by kernel_rfl), run_maps_clone_sl w 72 hb]
  simp only [Result.andThen]
  rw [Oper.upon_value]
  go_wp2
  go_ret
  exact ⟨rfl, ⟨es, clock, heap_alloc_new w _, HF.out, HS.out, HD.out⟩, Only.alloc _, by simp⟩

set_option maxHeartbeats 400000 in
theorem copied_any {w : World} {m : Nat} {d : Dm.Dir} (h : DirAt w m d) :
    Calls Try.prog 60 #[.map (some m)] w fun e w' => e = .returned (.map (some w.heap.size)) ∧ DirAt w' w.heap.size d ∧ Only (fun _ => False) w w' ∧ w'.heap.size = w.heap.size + 1 := by
  have hm := mclone_any h
  have H0 := Lib.hid h; clear h
  go_enter Try.func60, Try.ntmps60
  go_wp2_with (go_at_call 65; refine hm.mono ?_; rintro e w' ⟨rfl, hd, ho, hz⟩; have HD := Lib.hid hd; have HO := Lib.hid ho; have HZ := Lib.hid hz; clear hd ho hz)
  go_ret
  exact ⟨rfl, HD.out, HO.out, HZ.out⟩

set_option maxHeartbeats 400000 in
/-- settle, as far as the disk's own block goes: it is asked of the directory and that block alone. -/
theorem settle_any {w : World} {b m : Nat} {d : Dm.Dir} {u7 u8 : Value} (h : DirAt w m d) (h6 : w.cell? ⟨b, 6, none⟩ = some (.map (some m))) (h7 : w.cell? ⟨b, 7, none⟩ = some u7) (h8 : w.cell? ⟨b, 8, none⟩ = some u8)
    (f7 : w.frozen? ⟨b, 7, none⟩ = false) (f8 : w.frozen? ⟨b, 8, none⟩ = false) :
    Calls Try.prog 52 #[.pointer (some ⟨b, 0, none⟩)] w fun e w' => e = .returned (.tuple #[]) ∧ ∃ w1, w' = (w1.setCell ⟨b, 7, none⟩ (.map (some w.heap.size))).setCell ⟨b, 8, none⟩ (.slice none 0 0) ∧ DirAt w1 w.heap.size d ∧ Only (fun _ => False) w w1 := by
  have hm := copied_any h
  have H0 := Lib.hid h; clear h
  have hbl := World.block_lt_of_cell? w _ h6
  go_enter Try.func52, Try.ntmps52
  go_wp2_with (go_at_call 60; refine hm.mono ?_; rintro e w1 ⟨rfl, hd, ho, hz⟩; have hx := ho.block b hbl (fun h => h); have h7' := (World.cell?_of_block (a := ⟨b, 7, none⟩) hx).trans h7; have h8' := (World.cell?_of_block (a := ⟨b, 8, none⟩) hx).trans h8; have f7' := (World.frozen?_of_block (a := ⟨b, 7, none⟩) hx).trans f7; have f8' := (World.frozen?_of_block (a := ⟨b, 8, none⟩) hx).trans f8; have HD := Lib.hid hd; have HO := Lib.hid ho; clear hd ho hz hx)
  go_end0
  exact ⟨rfl, w1, rfl, HD.out, HO.out⟩

end Go.Proofs.Ythjabfhfkikalaa
