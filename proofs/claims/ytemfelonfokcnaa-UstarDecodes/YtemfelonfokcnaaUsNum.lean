/- ustar.numbers, putSum. Conditions: none. -/
import Derived.Test.YtemfelonfokcnaaUsPath
import Derived.Test.YtemfelonfokcnaaGPuts
import Derived.Lib.LazyBuf
import Derived.BigRegion
import Derived.Laws.ResultCell
namespace Go.Proofs.Ytemfelonfokcnaa
open Go.RowKit

def numL (g : Nat) : List Value := [.int .i64 100, .int .i64 7, .pointer (some ⟨g, 1, none⟩), .int .i64 108, .int .i64 7, .pointer (some ⟨g, 2, none⟩), .int .i64 116, .int .i64 7, .pointer (some ⟨g, 3, none⟩),
  .int .i64 124, .int .i64 11, .pointer (some ⟨g, 4, none⟩), .int .i64 136, .int .i64 11, .pointer (some ⟨g, 5, none⟩)]
def numV (g : Nat) : Value := .agg #[.int .i64 100, .int .i64 7, .pointer (some ⟨g, 1, none⟩), .int .i64 108, .int .i64 7, .pointer (some ⟨g, 2, none⟩), .int .i64 116, .int .i64 7, .pointer (some ⟨g, 3, none⟩),
  .int .i64 124, .int .i64 11, .pointer (some ⟨g, 4, none⟩), .int .i64 136, .int .i64 11, .pointer (some ⟨g, 5, none⟩)]

theorem size_numbers : (Try.prog.info? 54).map (·.size) = some 15 := by kernel_rfl
theorem cells15 {w : World} {g : Nat} {a0 a1 a2 a3 a4 a5 a6 a7 a8 a9 a10 a11 a12 a13 a14 : Value} {t : TypeId} (h : Blk w g [a0, a1, a2, a3, a4, a5, a6, a7, a8, a9, a10, a11, a12, a13, a14] t) :
    w.cell? ⟨g, 0, none⟩ = some a0 ∧ w.cell? ⟨g, 1, none⟩ = some a1 ∧ w.cell? ⟨g, 2, none⟩ = some a2 ∧ w.cell? ⟨g, 3, none⟩ = some a3 ∧ w.cell? ⟨g, 4, none⟩ = some a4 ∧ w.cell? ⟨g, 5, none⟩ = some a5 ∧
      w.cell? ⟨g, 6, none⟩ = some a6 ∧ w.cell? ⟨g, 7, none⟩ = some a7 ∧ w.cell? ⟨g, 8, none⟩ = some a8 ∧ w.cell? ⟨g, 9, none⟩ = some a9 ∧ w.cell? ⟨g, 10, none⟩ = some a10 ∧ w.cell? ⟨g, 11, none⟩ = some a11 ∧
      w.cell? ⟨g, 12, none⟩ = some a12 ∧ w.cell? ⟨g, 13, none⟩ = some a13 ∧ w.cell? ⟨g, 14, none⟩ = some a14 ∧ ∀ o, w.frozen? ⟨g, o, none⟩ = false :=
  ⟨h.cell 0, h.cell 1, h.cell 2, h.cell 3, h.cell 4, h.cell 5, h.cell 6, h.cell 7, h.cell 8, h.cell 9, h.cell 10, h.cell 11, h.cell 12, h.cell 13, h.cell 14, fun o => h.frozen o⟩

set_option maxRecDepth 100000 in
set_option maxHeartbeats 2000000 in
theorem numbers_any (g : Nat) (w : World) : Calls Try.prog 27 #[.pointer (some ⟨g, 0, none⟩)] w fun e w' => e = .returned (numV g) ∧ Quiet w w' := by
  go_enter Try.func27, Try.ntmps27
  go_wp2
  have HB := Lib.hid (Blk.new w [.int .i64 0, .int .i64 0, .pointer none, .int .i64 0, .int .i64 0, .pointer none, .int .i64 0, .int .i64 0, .pointer none, .int .i64 0, .int .i64 0, .pointer none, .int .i64 0, .int .i64 0, .pointer none] 54)
  have HO : Hid (Quiet w (w.alloc (.cells #[.int .i64 0, .int .i64 0, .pointer none, .int .i64 0, .int .i64 0, .pointer none, .int .i64 0, .int .i64 0, .pointer none, .int .i64 0, .int .i64 0, .pointer none, .int .i64 0, .int .i64 0, .pointer none] 54))) := Only.alloc _
  change Hid (Blk (w.alloc (.cells #[.int .i64 0, .int .i64 0, .pointer none, .int .i64 0, .int .i64 0, .pointer none, .int .i64 0, .int .i64 0, .pointer none, .int .i64 0, .int .i64 0, .pointer none, .int .i64 0, .int .i64 0, .pointer none] 54)) w.heap.size _ _) at HB
  generalize w.alloc (.cells #[.int .i64 0, .int .i64 0, .pointer none, .int .i64 0, .int .i64 0, .pointer none, .int .i64 0, .int .i64 0, .pointer none, .int .i64 0, .int .i64 0, .pointer none, .int .i64 0, .int .i64 0, .pointer none] 54) = w0 at *
  go_still_tail 21, (by kernel_rfl)
  change wpList _ _ _ _ _ w0.drew
  have HB1 := Lib.hid (HB.out.drew)
  have HO1 := Lib.hid (HO.out.trans Only.drew)
  clear HB HO
  generalize w0.drew = w1 at *
  obtain ⟨c0, c1, c2, c3, c4, c5, c6, c7, c8, c9, c10, c11, c12, c13, c14, fz⟩ := cells15 HB1.out
  go_wp2
  obtain ⟨hb, ho⟩ := Blk.puts_all (vs := numL g) HB1.out rfl
  refine bodyPost_ret (v := numV g) (results_cell_row rfl _ _ w.heap.size 54 _ (0, 0) _ rfl hb.heap Try.underlying54 rfl size_numbers) rfl ⟨rfl, HO1.out.andThen ho (fun k hk e => by omega)⟩

end Go.Proofs.Ytemfelonfokcnaa
