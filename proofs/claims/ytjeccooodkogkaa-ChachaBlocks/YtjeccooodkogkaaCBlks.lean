/- The law ChachaBlocks. Conditions: none. -/
import Derived.Test.YtjeccooodkogkaaCArgs
import Derived.Test.YtjeccooodkogkaaCAlive
import Derived.Test.YtjeccooodkogkaaCRefB
import Derived.Deep.RegionHeld3
import Derived.DeepKeys
import Derived.Laws.StructEq
import Derived.Lay
namespace Go.Proofs.Ytjeccooodkogkaa
open Go.RowKit

theorem blk_lits {D : List UInt8} (h : D.length = 64) : Try.prog.keyLits 2 26 (D.map byteV) = some ((List.range 64).map fun i => [Lit.int .u8 ((D.getD i 0).toNat : Int)]).flatten := by
  have hc : Try.prog.cellsOf 26 = 64 := by kernel_rfl
  have hc1 : Try.prog.cellsOf 5 = 1 := by kernel_rfl
  unfold Program.keyLits
  simp only [Try.underlying26, hc, hc1, List.length_map, h, if_true]
  rw [Lay.mapM_some' _ (fun i => [Lit.int .u8 ((D.getD i 0).toNat : Int)])]
  · rfl
  · intro i hi
    have hi : i < 64 := List.mem_range.1 hi
    have e : ((D.map byteV).drop (i * 1)).take 1 = [byteV (D.getD i 0)] := by
      rw [Nat.mul_one, List.drop_eq_getElem_cons (by simp; omega)]
      simp [h, hi]
    rw [e]
    generalize D.getD i 0 = x
    unfold Program.keyLits byteV
    have hq := x.toNat_lt
    simp only [Try.underlying5]
    rw [if_pos ⟨trivial, by simp [Lit.wf, IntKind.min, IntKind.max, IntKind.signed, IntKind.bits]; omega⟩]

theorem blk_same {D : List UInt8} (h : D.length = 64) (w : World) : (Op.equalIn 10000 26 (digV D) (digV D)).run Try.prog w = .ok true w := by
  have hf : (digV D).formed Try.prog 26 = true := by
    have hc : Try.prog.cellsOf 26 = 64 := by kernel_rfl
    simp [digV, Value.formed, Try.underlying26, hc, h]
  obtain ⟨r, hr, hi⟩ := run_equalIn_deep (P := Try.prog) 9998 2 26 (by kernel_rfl) w 2 2 (digV D) (digV D) _ _ hf hf (blk_lits h) (blk_lits h)
  have e : r = true := hi.2 rfl
  rw [e] at hr
  exact hr

theorem blk_eql {D : List UInt8} (h : D.length = 64) (w : World) : (binOp .eql 26 (digV D) (digV D)).run Try.prog w = .ok (.bool true) w := by
  have := blk_same h w
  unfold digV at *
  rw [run_eql_struct, this]
  rfl
theorem blk_guard (op : BinOp) (x y : Operand) (D E : List UInt8) (w : World) : (eqGuard op 26 x y (digV D) (digV E)).run Try.prog w = .ok () w :=
  run_eqGuard_agg w op 26 x y _ _ (by kernel_rfl)

/-- An equality, as one step of a region that draws its order. -/
theorem step_eql {ops : Array Oper} {o : Oper} {a : Act} {w : World} {K : Act → World → Prop} {Q : Exit → Act → World → Prop} {E : Prop} (hw : Region.wanted o (yielded ops a.tmps) = true) (t : TypeId) (x y : Operand) (rt : TypeId) (ho : o.op = .binOp .eql t x y rt) (vx vy : Value) (hx : a.eval x = vx) (hy : a.eval y = vy) (r : Bool)
    (hg : (eqGuard .eql t x y vx vy).run Try.prog w = .ok () w) (hb : (binOp .eql t vx vy).run Try.prog w = .ok (.bool r) w) (h : K (a.put o.dst (.bool r)) w) : if Region.wanted o (yielded ops a.tmps) = true then Oper.wp Try.prog o a w K Q else E := by
  rw [if_pos hw]
  unfold Oper.wp execOp
  simp only [ho, hx, hy, Sem.run_bind, Sem.run_pure, Result.andThen_ok, hg, hb]
  exact h

set_option maxRecDepth 100000 in
set_option maxHeartbeats 2000000 in
theorem chachaBlocks_any {w : World} {key nonce : List UInt8} (hk : key.length = 32) {c : Int} (hc : 0 ≤ c ∧ c ≤ 4294967295) (hn : nonce.length = 12) :
    Calls Try.prog 3 #[digV key, .int .u32 c, digV nonce] w fun e w' => e = .returned (.bool true) ∧ Only (fun _ => False) w w' := by
  obtain ⟨c, rfl⟩ := Int.eq_ofNat_of_zero_le hc.1
  have HK := Lib.hid hk; have HN := Lib.hid hn
  have HKN : Hid (∀ w1, Only (fun _ => False) ((w.alloc (.cells (key.map byteV).toArray 22)).alloc (.cells (nonce.map byteV).toArray 24)) w1 → w1.rangeAt w.heap.size 0 (key.map byteV) ∧ w1.rangeAt (w.heap.size + 1) 0 (nonce.map byteV)) := by
    intro w1 ho
    have h := (KN.new w key nonce).keep ho (fun _ x => x.elim)
    exact ⟨h.kb.range fun j v hv => by rw [Nat.zero_add]; exact hv, h.nb.range fun j v hv => by rw [Nat.zero_add]; exact hv⟩
  have HO0 : Hid (Only (fun _ => False) w ((w.alloc (.cells (key.map byteV).toArray 22)).alloc (.cells (nonce.map byteV).toArray 24))) := (KN.new w key nonce).only
  have HB : Hid (∀ w1, Calls Try.prog 10 #[.agg (key.map byteV).toArray, .int .u32 (c : Int), .agg (nonce.map byteV).toArray] w1 fun e w' => e = .returned (digV (Ch.block key nonce c)) ∧ Only (fun _ => False) w1 w') := fun w1 => cBlock_any HK.out HN.out c
  have HR : Hid (∀ w1, Calls Try.prog 11 #[.agg (key.map byteV).toArray, .int .u32 (c : Int), .agg (nonce.map byteV).toArray] w1 fun e w' => e = .returned (digV (Ch.block key nonce c)) ∧ Only (fun _ => False) w1 w') := fun w1 => r3Block_any HK.out HN.out c
  have heq := blk_eql (Ch.block_length key nonce c)
  have hgd := fun x y => blk_guard .eql x y (Ch.block key nonce c) (Ch.block key nonce c)
  generalize digV (Ch.block key nonce c) = V at *
  unfold digV
  clear hk hn hc
  go_enter Try.func3, Try.ntmps3
  go_wp2_with fail
  obtain ⟨k1, k2⟩ := HKN.out _ (Only.drew)
  refine wp_region_held_drew (S := fun w' => w'.rangeAt w.heap.size 0 (key.map byteV) ∧ w'.rangeAt (w.heap.size + 1) 0 (nonce.map byteV)) (by kernel_rfl) ⟨k1, k2⟩ (fun hHeld => ?_)
  refine wpAnyH_ready (rs := [0]) (by kernel_rfl) (by simp) (AllReadyH.cons rfl (fun K hK => ?_) AllReadyH.nil)
  go_simp
  refine alive_any.mono ?_
  rintro e w1 ⟨rfl, ho1⟩
  refine hK.out _ _ (HKN.out w1 (Only.drew.trans ho1)) (fun hHeld => ?_)
  clear hK K
  refine wpAnyH_take (i := 1) (v := .bool true) rfl (by kernel_rfl) (by kernel_rfl) (by kernel_rfl) (fun _ _ _ h => h) (Or.inl ⟨by rfl, fun w _ => by go_simp⟩) hHeld ?_
  refine wpAnyH_take (i := 2) rfl (by kernel_rfl) (by kernel_rfl) (by kernel_rfl) (fun _ _ _ h => h) (yieldsIf_load_mid (by rfl) 22 (.tmp 3) rfl w.heap.size 0 rfl (key.map byteV) _ (fun w hS => hS.1) Try.underlying22 rfl (size_key HK.out)) hHeld ?_
  refine wpAnyH_take (i := 3) (v := .int .u32 (c : Int)) rfl (by kernel_rfl) (by kernel_rfl) (by kernel_rfl) (fun _ _ _ h => h) (Or.inl ⟨by rfl, fun w _ => by go_simp⟩) hHeld ?_
  refine wpAnyH_take (i := 4) rfl (by kernel_rfl) (by kernel_rfl) (by kernel_rfl) (fun _ _ _ h => h) (yieldsIf_load_mid (by rfl) 24 (.tmp 5) rfl (w.heap.size + 1) 0 rfl (nonce.map byteV) _ (fun w hS => hS.2) Try.underlying24 rfl (size_nonce HN.out)) hHeld ?_
  refine wpAnyH_take (i := 6) rfl (by kernel_rfl) (by kernel_rfl) (by kernel_rfl) (fun _ _ _ h => h) (yieldsIf_load_mid (by rfl) 22 (.tmp 3) rfl w.heap.size 0 rfl (key.map byteV) _ (fun w hS => hS.1) Try.underlying22 rfl (size_key HK.out)) hHeld ?_
  refine wpAnyH_take (i := 7) (v := .int .u32 (c : Int)) rfl (by kernel_rfl) (by kernel_rfl) (by kernel_rfl) (fun _ _ _ h => h) (Or.inl ⟨by rfl, fun w _ => by go_simp⟩) hHeld ?_
  refine wpAnyH_take (i := 8) rfl (by kernel_rfl) (by kernel_rfl) (by kernel_rfl) (fun _ _ _ h => h) (yieldsIf_load_mid (by rfl) 24 (.tmp 5) rfl (w.heap.size + 1) 0 rfl (nonce.map byteV) _ (fun w hS => hS.2) Try.underlying24 rfl (size_nonce HN.out)) hHeld ?_
  refine wpAnyH_ready (rs := [5]) (by kernel_rfl) (by simp) (AllReadyH.cons rfl (fun K hK => ?_) AllReadyH.nil)
  go_simp
  refine (HB.out _).mono ?_
  rintro e w2 ⟨rfl, ho2⟩
  refine hK.out _ _ (HKN.out w2 ((Only.drew.trans ho1).trans ho2)) (fun hHeld => ?_)
  clear hK K
  refine wpAnyH_ready (rs := [9]) (by kernel_rfl) (by simp) (AllReadyH.cons rfl (fun K hK => ?_) AllReadyH.nil)
  go_simp
  refine (HR.out _).mono ?_
  rintro e w3 ⟨rfl, ho3⟩
  refine hK.out _ _ (HKN.out w3 (((Only.drew.trans ho1).trans ho2).trans ho3)) (fun hHeld => ?_)
  clear hK K
  refine wpAnyH_ready (rs := [10]) (by kernel_rfl) (by simp) (AllReadyH.cons rfl (fun K hK => ?_) AllReadyH.nil)
  refine step_eql (by rfl) 26 (.tmp 12) (.tmp 16) 26 rfl V V rfl rfl true (hgd _ _ _) (heq _) ?_
  refine hK.out _ _ hHeld (fun hHeld => ?_)
  clear hK K
  refine wpAnyH_take (i := 11) (v := .bool true) rfl (by kernel_rfl) (by kernel_rfl) (by kernel_rfl) (fun _ _ _ h => h) (Or.inl ⟨by rfl, fun w _ => by go_simp⟩) hHeld ?_
  refine wpAnyH_take (i := 12) (v := .bool true) rfl (by kernel_rfl) (by kernel_rfl) (by kernel_rfl) (fun _ _ _ h => h) (Or.inl ⟨by rfl, fun w _ => by go_simp⟩) hHeld ?_
  refine wpAnyH_done (by kernel_rfl) ?_ _
  have HO3 := Lib.hid (HO0.out.trans (((Only.drew.trans ho1).trans ho2).trans ho3))
  clear ho1 ho2 ho3 hHeld k1 k2 HKN HO0
  go_wp2_with fail
  go_ret
  exact ⟨rfl, HO3.out⟩

end Go.Proofs.Ytjeccooodkogkaa
