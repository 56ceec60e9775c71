/- Digests are held against each other. Conditions: none. -/
import Derived.Test.YtgdnmbchhfbjoaaDoorHLarge
import Derived.DeepKeys
import Derived.Laws.StructEq
import Derived.Lay
namespace Go.Proofs.YtgdnmbchhfbjoaaDoor
open Go.RowKit

theorem dig_lits {D : List UInt8} (h : D.length = 32) : Tryd.prog.keyLits 2 22 (D.map byteV) = some ((List.range 32).map fun i => [Lit.int .u8 ((D.getD i 0).toNat : Int)]).flatten := by
  have hc : Tryd.prog.cellsOf 22 = 32 := by kernel_rfl
  have hc1 : Tryd.prog.cellsOf 5 = 1 := by kernel_rfl
  unfold Program.keyLits
  simp only [Tryd.underlying22, hc, hc1, List.length_map, h, if_true]
  rw [Lay.mapM_some' _ (fun i => [Lit.int .u8 ((D.getD i 0).toNat : Int)])]
  · rfl
  · intro i hi
    have hi : i < 32 := List.mem_range.1 hi
    have e : ((D.map byteV).drop (i * 1)).take 1 = [byteV (D.getD i 0)] := by
      rw [Nat.mul_one, List.drop_eq_getElem_cons (by simp; omega)]
      simp [h, hi]
    rw [e]
    generalize D.getD i 0 = x
    unfold Program.keyLits byteV
    have hq := x.toNat_lt
    simp only [Tryd.underlying5]
    rw [if_pos ⟨trivial, by simp [Lit.wf, IntKind.min, IntKind.max, IntKind.signed, IntKind.bits]; omega⟩]

theorem dig_same {D : List UInt8} (h : D.length = 32) (w : World) : (Op.equalIn 10000 22 (digV D) (digV D)).run Tryd.prog w = .ok true w := by
  have hf : (digV D).formed Tryd.prog 22 = true := by
    have hc : Tryd.prog.cellsOf 22 = 32 := by kernel_rfl
    simp [digV, Value.formed, Tryd.underlying22, hc, h]
  obtain ⟨r, hr, hi⟩ := run_equalIn_deep (P := Tryd.prog) 9998 2 22 (by kernel_rfl) w 2 2 (digV D) (digV D) _ _ hf hf (dig_lits h) (dig_lits h)
  have e : r = true := hi.2 rfl
  rw [e] at hr
  exact hr

theorem dig_eql {D : List UInt8} (h : D.length = 32) (w : World) : (binOp .eql 22 (digV D) (digV D)).run Tryd.prog w = .ok (.bool true) w := by
  have := dig_same h w
  unfold digV at *
  rw [run_eql_struct, this]
  rfl
theorem dig_neq {D : List UInt8} (h : D.length = 32) (w : World) : (binOp .neq 22 (digV D) (digV D)).run Tryd.prog w = .ok (.bool false) w := by
  have := dig_same h w
  unfold digV at *
  rw [run_neq_struct, this]
  rfl

theorem dig_guard (op : BinOp) (x y : Operand) (D : List UInt8) (ys : Array Value) (w : World) : (eqGuard op 22 x y (digV D) (.agg ys)).run Tryd.prog w = .ok () w :=
  run_eqGuard_agg w op 22 x y _ ys (by kernel_rfl)
theorem dig_guard2 (op : BinOp) (x y : Operand) (D E : List UInt8) (w : World) : (eqGuard op 22 x y (digV D) (digV E)).run Tryd.prog w = .ok () w := dig_guard op x y D _ w

end Go.Proofs.YtgdnmbchhfbjoaaDoor
