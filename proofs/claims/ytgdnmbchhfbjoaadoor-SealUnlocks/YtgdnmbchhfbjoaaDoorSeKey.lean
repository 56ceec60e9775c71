/- seal.derived, FromMaster. Conditions: rows of few bytes. -/
import Derived.Test.YtgdnmbchhfbjoaaDoorSeBase
namespace Go.Proofs.YtgdnmbchhfbjoaaDoor
open Go.RowKit

set_option maxRecDepth 100000 in
set_option maxHeartbeats 1000000 in
theorem ederived_any {w : World} {S : Nat → Prop} {vs vk : Value} {salt secret : List UInt8} (info : List UInt8) (hs : BytesAt w S vs salt) (hk : BytesAt w S vk secret) (hS : ∀ k, S k → k < w.heap.size) (h1 : salt.length ≤ 1048576) (h2 : secret.length ≤ 1048576) (h3 : info.length ≤ 1048576) (hf : Fst w) (ht : Tab w) :
    Calls Tryd.prog 28 #[vs, vk, .string ⟨info.toArray⟩] w fun e w' => e = .returned (digV (derived salt secret info 32)) ∧ Only (fun _ => False) w w' := by
  have ho1 : Only (fun _ => False) w (w.alloc (.cells (ocells 32 []).toArray 22)) := Only.alloc _
  have hr1 : Blk (w.alloc (.cells (ocells 32 []).toArray 22)) w.heap.size (ocells 32 []) 22 := Blk.new _ _ _
  obtain ⟨c1, w1, hconv, hb1, hlt1, ho2⟩ := conv_text (w.alloc (.cells (ocells 32 []).toArray 22)) info
  have ho12 := ho1.trans ho2
  have hS1 : ∀ k, k < w1.heap.size → k < w1.heap.size := fun _ h => h
  have hd := derive_any (n := 32) (hs.here ho12 hS) (hk.here ho12 hS) (hb1.mono (S' := fun k => k < w1.heap.size) (fun k hk => by omega)) hS1 (by omega) (by omega) (by omega) (by omega) (hf.only ho12 (fun x => x)) (ht.only ho12 (fun x => x))
  have HD := Lib.hid hd; have HO12 := Lib.hid ho12; have HR1 := Lib.hid (hr1.keep ho2 (fun x => x))
  have HL := Lib.hid (derived_len salt secret info 32)
  rw [World.size_alloc, z32] at hconv
  rw [World.size_alloc] at HD
  obtain ⟨sa, sc, rfl⟩ := hs.shape
  obtain ⟨ka, kc, rfl⟩ := hk.shape
  clear hs hk hS h1 h2 h3 hf ht ho1 hr1 hb1 hlt1 ho2 ho12 hS1 hd
  go_enter Tryd.func28, Tryd.ntmps28
  go_wp2_with fail
  refine HD.out.mono ?_
  rintro e w2 ⟨a2, c2, rfl, hr2, -, ho2⟩
  obtain ⟨g, rfl, hrg, hgl⟩ := own_range hr2 (by decide)
  have HRG := Lib.hid hrg
  have HB := Lib.hid (HR1.out.keep ho2 (fun x => x))
  have HO := Lib.hid (HO12.out.trans ho2)
  have hp := ptr_32 (some ⟨g, 0, none⟩) 32 c2 (by decide)
  clear hr2 ho2 hrg hgl hconv HD HR1 HO12
  go_wp2_with (first
    | (refine wpList_load_mid rfl 22 (.tmp 21) rfl g 0 rfl ((derived salt secret info 32).map byteV) _ HRG.out Tryd.underlying22 rfl (by simpa using hsize_a32 HL.out) ?_)
    | (refine wpList_store_row rfl 22 (.tmp 6) (.tmp 22) rfl w.heap.size ((derived salt secret info 32).map byteV).toArray rfl rfl 22 (ocells 32 []).toArray HB.out.heap (hsize_a32 HL.out) (by simp [ocells, HL.out]) (oneCell_bytes _) ?_))
  have hfin := HB.out.row ((derived salt secret info 32).map byteV)
  exact bodyPost_ret (v := digV (derived salt secret info 32)) (results_cell_row rfl _ _ w.heap.size 22 _ (0, 0) _ rfl hfin Tryd.underlying22 rfl (hsize_a32 HL.out)) rfl ⟨rfl, HO.out.andThen (Only.setRow _ _) (fun k hk e => by omega)⟩

end Go.Proofs.YtgdnmbchhfbjoaaDoor
