/- The document's own Frame. Conditions: the body is short. -/
import Derived.Test.YtlfbdhgppmmahaaWiRefP
namespace Go.Proofs.Ytlfbdhgppmmahaa
open Go.RowKit

set_option maxRecDepth 100000 in
theorem r4frame_any {w : World} {x : UInt8} {S : Nat → Prop} {v : Value} {f : List UInt8} (hv : BytesAt w S v f) (hS : ∀ k, S k → k < w.heap.size) (hl : f.length ≤ 1048576) :
    Calls Try.prog 7 #[byteV x, v] w fun e w' => ∃ a c, e = .returned (.slice a (Wi.frameOf x f).length c) ∧ Row w w' (.slice a (Wi.frameOf x f).length c) (Wi.frameOf x f) := by
  obtain ⟨va, vc, rfl⟩ := hv.shape
  have hp : Parts [f] := ⟨by simp, by simp [tot]; exact hl⟩
  have HPK : Hid (∀ w1 v1, PartsAt w1 (fun k => k < w1.heap.size) v1 [f] → Calls Try.prog 17 #[v1] w1 fun e w' => ∃ a c, e = .returned (.slice a (Wi.pack [f]).length c) ∧ Row w1 w' (.slice a (Wi.pack [f]).length c) (Wi.pack [f])) := fun w1 v1 h => r4pack_any h (fun _ h => h) hp
  have HPT : Hid (∀ w1, Only (fun _ => False) w w1 → PartsAt (w1.alloc (.cells #[.slice va f.length vc] 22)) (fun k => k < (w1.alloc (.cells #[.slice va f.length vc] 22)).heap.size) (.slice (some ⟨w1.heap.size, 0, none⟩) 1 1) [f]) := fun w1 ho =>
    part_at (Blk.new w1 [.slice va f.length vc] 22) ((hv.here ho hS).only (Only.alloc _) (fun _ h => h) (fun _ _ x => x)) (fun k hk => Nat.lt_of_lt_of_le hk (by simp))
  have hpl : (Wi.pack [f]).length ≤ 16777216 := by have := hp.packLen 1; simpa using this
  have HPL := Lib.hid hpl
  have HFO : Hid (Wi.frameOf x f = [x] ++ Wi.pack [f]) := by simp [Hid, Wi.frameOf, Wi.pack_cons, Wi.pack_nil]
  have g1 : ¬ (f.length : Int) > 67108864 := by omega
  generalize Wi.frameOf x f = FO at *
  generalize Wi.pack [f] = P at *
  clear hv hS hp hpl
  have HR1 : Hid (Row w (w.alloc (.cells #[byteV x] 5)) (.slice (some ⟨w.heap.size, 0, none⟩) 1 1) [x]) := Row.of_blk (bs := [x]) (Blk.new w [byteV x] 5) rfl (Only.alloc _) (by omega)
  have HRX : Hid (byteV x = .int .u8 (x.toNat : Int)) := rfl
  unfold byteV at HR1 ⊢
  go_enter Try.func7, Try.ntmps7
  go_wp2_with fail
  have HP1 := Lib.hid (HPK.out _ _ (HPT.out _ HR1.out.only))
  rw [World.size_alloc] at HP1
  refine HP1.out.mono ?_
  rintro e w3 ⟨a3, c3, rfl, hr3⟩
  have HR3 := Lib.hid (HR1.out.kept ((Only.alloc _).trans hr3.only)); have HB3 := Lib.hid hr3.bytes
  clear hr3 HP1
  go_wp2_with (at_builtin; refine wpList_append_bytes _ rfl _ _ rfl (.slice (some ⟨w.heap.size, 0, none⟩) 1 1) (.slice a3 P.length c3) 1 ([x].map byteV) rfl rfl HR3.out.row HB3.out (by have := HPL.out; omega) ?_; intro a4 c4 w4 hr4 hg4 hat4; have HR4 := Lib.hid (HR3.out.app (y := P) (Only.refl _ _) rfl hr4 hg4 hat4); clear hr4 hg4 hat4)
  go_ret
  have hrow := HR4.out
  rw [HFO.out]
  refine ⟨a4, c4, by simp [Nat.add_comm], ?_⟩
  have e : ([x] ++ P).length = 1 + P.length := by simp [Nat.add_comm]
  rw [e]
  exact hrow

end Go.Proofs.Ytlfbdhgppmmahaa
