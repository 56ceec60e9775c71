/- SealWrites: keys, blobs and identifiers are what the chapter says. Conditions: rows within the reach. -/
import Derived.Test.YtgdnmbchhfbjoaaDoorMSeR
import Derived.Test.YtgdnmbchhfbjoaaDoorMRefH
import Derived.Test.YtgdnmbchhfbjoaaDoorMTakes
import Derived.Deep.RegionHeld3

namespace Go.Proofs.YtgdnmbchhfbjoaaDoor
open Go.RowKit

theorem idq_lits {D : List UInt8} (h : D.length = 32) : Tryd.prog.keyLits 2 33 (D.map byteV) = some ((List.range 32).map fun i => [Lit.int .u8 ((D.getD i 0).toNat : Int)]).flatten := by
  have hc : Tryd.prog.cellsOf 33 = 32 := by kernel_rfl
  have hc1 : Tryd.prog.cellsOf 5 = 1 := by kernel_rfl
  unfold Program.keyLits
  simp only [Tryd.underlying33, hc, hc1, List.length_map, h, if_true]
  rw [Lay.mapM_some' _ (fun i => [Lit.int .u8 ((D.getD i 0).toNat : Int)])]
  · rfl
  · intro i hi
    have hi : i < 32 := List.mem_range.1 hi
    have e : ((D.map byteV).drop (i * 1)).take 1 = [byteV (D.getD i 0)] := by
      rw [Nat.mul_one, List.drop_eq_getElem_cons (by simp; omega)]
      simp [h, hi]
    rw [e]
    generalize D.getD i 0 = x
    unfold Program.keyLits byteV
    have hq := x.toNat_lt
    simp only [Tryd.underlying5]
    rw [if_pos ⟨trivial, by simp [Lit.wf, IntKind.min, IntKind.max, IntKind.signed, IntKind.bits]; omega⟩]

theorem idq_same {D : List UInt8} (h : D.length = 32) (w : World) : (Op.equalIn 10000 33 (digV D) (digV D)).run Tryd.prog w = .ok true w := by
  have hf : (digV D).formed Tryd.prog 33 = true := by
    have hc : Tryd.prog.cellsOf 33 = 32 := by kernel_rfl
    simp [digV, Value.formed, Tryd.underlying33, hc, h]
  obtain ⟨r, hr, hi⟩ := run_equalIn_deep (P := Tryd.prog) 9998 2 33 (by kernel_rfl) w 2 2 (digV D) (digV D) _ _ hf hf (idq_lits h) (idq_lits h)
  have e : r = true := hi.2 rfl
  rw [e] at hr
  exact hr

theorem idq_eql {D : List UInt8} (h : D.length = 32) (w : World) : (binOp .eql 33 (digV D) (digV D)).run Tryd.prog w = .ok (.bool true) w := by
  have := idq_same h w
  unfold digV at *
  rw [run_eql_struct, this]
  rfl
theorem idq_neq {D : List UInt8} (h : D.length = 32) (w : World) : (binOp .neq 33 (digV D) (digV D)).run Tryd.prog w = .ok (.bool false) w := by
  have := idq_same h w
  unfold digV at *
  rw [run_neq_struct, this]
  rfl

theorem idq_guard (op : BinOp) (x y : Operand) (D : List UInt8) (ys : Array Value) (w : World) : (eqGuard op 33 x y (digV D) (.agg ys)).run Tryd.prog w = .ok () w :=
  run_eqGuard_agg w op 33 x y _ ys (by kernel_rfl)
theorem idq_guard2 (op : BinOp) (x y : Operand) (D E : List UInt8) (w : World) : (eqGuard op 33 x y (digV D) (digV E)).run Tryd.prog w = .ok () w := idq_guard op x y D _ w

theorem keys_lits {K : List UInt8} (h : K.length = 96) : ∃ L, Tryd.prog.keyLits 3 29 (K.map byteV) = some L := by
  have hc : Tryd.prog.cellsOf 29 = 96 := by kernel_rfl
  have hc1 : Tryd.prog.cellsOf 22 = 32 := by kernel_rfl
  have e0 := dig_lits (D := K.take 32) (by simp [h])
  have e1 := dig_lits (D := (K.drop 32).take 32) (by simp [h])
  have e2 := dig_lits (D := (K.drop 64).take 32) (by simp [h])
  rw [List.map_take] at e0
  rw [List.map_take, List.map_drop] at e1 e2
  unfold Program.keyLits
  simp only [Tryd.underlying29, hc, List.length_map, h]
  rw [if_pos ⟨trivial, by kernel_rfl⟩]
  simp only [List.mapM_cons, List.mapM_nil, hc1, List.drop_zero, e0, e1, e2]
  exact ⟨_, rfl⟩

theorem keys_same {K : List UInt8} (h : K.length = 96) (w : World) : (Op.equalIn 10000 29 (digV K) (digV K)).run Tryd.prog w = .ok true w := by
  have hf : (digV K).formed Tryd.prog 29 = true := by
    have hc : Tryd.prog.cellsOf 29 = 96 := by kernel_rfl
    simp [digV, Value.formed, Tryd.underlying29, hc, h]
  obtain ⟨L, hL⟩ := keys_lits h
  obtain ⟨r, hr, hi⟩ := run_equalIn_deep (P := Tryd.prog) 9997 3 29 (by kernel_rfl) w 3 3 (digV K) (digV K) L L hf hf hL hL
  have e : r = true := hi.2 rfl
  rw [e] at hr
  exact hr
theorem keys_neq {K : List UInt8} (h : K.length = 96) (w : World) : (binOp .neq 29 (digV K) (digV K)).run Tryd.prog w = .ok (.bool false) w := by
  have := keys_same h w
  unfold digV at *
  rw [run_neq_struct, this]
  rfl
theorem keys_guard (op : BinOp) (x y : Operand) (D E : List UInt8) (w : World) : (eqGuard op 29 x y (digV D) (digV E)).run Tryd.prog w = .ok () w :=
  run_eqGuard_agg w op 29 x y _ _ (by kernel_rfl)

end Go.Proofs.YtgdnmbchhfbjoaaDoor

namespace Go.Proofs.YtgdnmbchhfbjoaaDoor
open Go.RowKit

theorem step_neq {ops : Array Oper} {o : Oper} {a : Act} {w : World} {K : Act → World → Prop} {Q : Exit → Act → World → Prop} {E : Prop} (hw : Region.wanted o (yielded ops a.tmps) = true) (t : TypeId) (x y : Operand) (rt : TypeId) (ho : o.op = .binOp .neq t x y rt) (vx vy : Value) (hx : a.eval x = vx) (hy : a.eval y = vy) (r : Bool)
    (hg : (eqGuard .neq t x y vx vy).run Tryd.prog w = .ok () w) (hb : (binOp .neq t vx vy).run Tryd.prog w = .ok (.bool r) w) (h : K (a.put o.dst (.bool r)) w) : if Region.wanted o (yielded ops a.tmps) = true then Oper.wp Tryd.prog o a w K Q else E := by
  rw [if_pos hw]
  unfold Oper.wp execOp
  simp only [ho, hx, hy, Sem.run_bind, Sem.run_pure, Result.andThen_ok, hg, hb]
  exact h
theorem step_eql {ops : Array Oper} {o : Oper} {a : Act} {w : World} {K : Act → World → Prop} {Q : Exit → Act → World → Prop} {E : Prop} (hw : Region.wanted o (yielded ops a.tmps) = true) (t : TypeId) (x y : Operand) (rt : TypeId) (ho : o.op = .binOp .eql t x y rt) (vx vy : Value) (hx : a.eval x = vx) (hy : a.eval y = vy) (r : Bool)
    (hg : (eqGuard .eql t x y vx vy).run Tryd.prog w = .ok () w) (hb : (binOp .eql t vx vy).run Tryd.prog w = .ok (.bool r) w) (h : K (a.put o.dst (.bool r)) w) : if Region.wanted o (yielded ops a.tmps) = true then Oper.wp Tryd.prog o a w K Q else E := by
  rw [if_pos hw]
  unfold Oper.wp execOp
  simp only [ho, hx, hy, Sem.run_bind, Sem.run_pure, Result.andThen_ok, hg, hb]
  exact h

set_option maxRecDepth 100000 in
set_option maxHeartbeats 4000000 in
theorem sealWrites_any {w : World} {m : List UInt8} {kind : UInt8} {vc vp : Value} {ctx pl : List UInt8} (hm : m.length = 32) (hc : BytesAt w (fun k => k < w.heap.size) vc ctx) (hp : BytesAt w (fun k => k < w.heap.size) vp pl)
    (l1 : ctx.length ≤ 140737488351232) (l2 : pl.length ≤ 140737488351232) (hf : Fst w) (ht : Tab w) :
    Calls Tryd.prog 3 #[.agg (case5 m kind vc vp).toArray] w fun e w' => e = .returned (.bool true) ∧ Only (fun _ => False) w w' := by
  obtain ⟨hzk, hzn⟩ := zero_keys
  obtain ⟨Z, hZ⟩ : ∃ Z, Z = (ocells 96 []).toArray := ⟨_, rfl⟩
  rw [← hZ] at hzk
  have HZ := Lib.hid hZ
  obtain ⟨ca, cc, rfl⟩ := hc.shape
  obtain ⟨pa, pc, rfl⟩ := hp.shape
  have ho1 : Only (fun _ => False) w (w.alloc (.cells (case5 m kind (.slice ca ctx.length cc) (.slice pa pl.length pc)).toArray 25)) := Only.alloc _
  have hb1 : Box5 (w.alloc (.cells (case5 m kind (.slice ca ctx.length cc) (.slice pa pl.length pc)).toArray 25)) w.heap.size 32 25 m kind (.slice ca ctx.length cc) (.slice pa pl.length pc) := ⟨Blk.new _ _ _, hm⟩
  have HAL := Lib.hid (alive_any (hf.only ho1 (fun x => x)) (ht.only ho1 (fun x => x)))
  have HO1 := Lib.hid ho1; have HB1 := Lib.hid hb1; have HML := Lib.hid hm; have HC := Lib.hid hc; have HP := Lib.hid hp; have HF := Lib.hid hf; have HT := Lib.hid ht
  have HL1 := Lib.hid l1; have HL2 := Lib.hid l2
  clear ho1 hb1 hm hc hp l1 l2 hf ht hZ
  go_enter Tryd.func3, Tryd.ntmps3
  go_wp2_with fail
  refine HAL.out.mono ?_
  rintro e w2 ⟨rfl, ho2⟩
  have HO2 := Lib.hid (HO1.out.trans ho2); have HB2 := Lib.hid (HB1.out.keep ho2)
  obtain ⟨c32, c33, c34⟩ := HB2.out.rest
  clear ho2 HAL HO1 HB1
  go_wp2_with fail
  have ho3 : Only (fun _ => False) w2 (w2.alloc (.cells #[.slice ca ctx.length cc, .slice pa pl.length pc] 23)) := Only.alloc _
  have hb3 := Blk.new w2 [.slice ca ctx.length cc, .slice pa pl.length pc] 23
  generalize w2.alloc (.cells #[.slice ca ctx.length cc, .slice pa pl.length pc] 23) = w3 at *
  have HO3 := Lib.hid (HO2.out.trans ho3); have HB3 := Lib.hid (HB2.out.keep ho3)
  have HLG := Lib.hid (large5_any (two_blk hb3 (HC.out.here HO3.out (fun _ h => h)) (HP.out.here HO3.out (fun _ h => h))) (fun p hp => by
    have h1 := HL1.out; have h2 := HL2.out
    simp at hp
    rcases hp with rfl | rfl <;> omega) (by simp))
  clear ho3 hb3 c32 c33 c34 HO2 HB2 HL1 HL2
  refine HLG.out.mono ?_
  rintro e w3' ⟨rfl, rfl⟩
  clear HLG
  by_cases hbig : 8192 < tot [ctx, pl]
  · rw [decide_eq_true hbig]
    clear hbig
    go_wp2_with fail
    go_ret
    exact ⟨rfl, HO3.out⟩
  rw [decide_eq_false hbig]
  have hsum : ctx.length + pl.length ≤ 8192 := by simp [tot] at hbig; omega
  have HSU := Lib.hid hsum
  clear hsum hbig
  have HFM := Lib.hid (from_any HML.out (HF.out.only HO3.out (fun x => x)) (HT.out.only HO3.out (fun x => x)))
  have HMR := Lib.hid HB3.out.m
  go_wp2_with (refine wpList_load_mid rfl 22 (.tmp 15) rfl w.heap.size 0 rfl (m.map byteV) _ HMR.out Tryd.underlying22 rfl (by simpa using size_a32 HML.out) ?_)
  refine HFM.out.mono ?_
  rintro e w4 ⟨rfl, ho4⟩
  have HKL := Lib.hid (Se.keys_len m)
  generalize hKS : Se.keys m = ks at *
  have ho5 : Only (fun _ => False) w4 (w4.alloc (.cells (ks.map byteV).toArray 29)) := Only.alloc _
  have hk5 := Blk.new w4 (ks.map byteV) 29
  have HO5 := Lib.hid ((HO3.out.trans ho4).trans ho5); have HB5 := Lib.hid ((HB3.out.keep ho4).keep ho5); have HK5 := Lib.hid hk5
  clear ho4 ho5 hk5 HFM HMR HO3 HB3
  generalize hw5 : w4.alloc (.cells (ks.map byteV).toArray 29) = w5 at *
  go_wp2_with (refine wpList_store_row rfl 29 (.tmp 3) (.tmp 17) rfl w4.heap.size (ks.map byteV).toArray rfl rfl 29 Z (heap_alloc_last _ _) (size_keys HKL.out) (by rw [HZ.out]; simp [ocells, HKL.out]) (oneCell_bytes _) ?_; rw [World.setRow_alloc_new, hw5])
  clear hw5 hzk HZ
  refine wp_region_held_drew (S := fun W => Only (fun _ => False) w5 W) (by kernel_rfl) Only.drew (fun hHeld => ?_)
  refine wpAnyH_take (i := 0) rfl (by kernel_rfl) (by kernel_rfl) (by kernel_rfl) (fun _ _ _ h => h) (yieldsIf_load_mid (by rfl) 29 (.tmp 3) rfl w4.heap.size 0 rfl (ks.map byteV) _ (fun W hSw => (HK5.out.keep hSw (fun x => x)).all) Tryd.underlying29 rfl (by simpa using size_keys HKL.out)) hHeld ?_
  simp only [Act.put, List.getElem_toArray, List.getElem_cons_zero, List.setIfInBounds_toArray, List.set_cons_zero, List.set_cons_succ]
  refine wpAnyH_take (i := 1) (v := .pointer (some ⟨w.heap.size, 0, none⟩)) rfl (by kernel_rfl) (by kernel_rfl) (by kernel_rfl) (fun _ _ _ h => h) (Or.inl ⟨by rfl, fun W hSw => by go_simp⟩) hHeld ?_
  simp only [Act.put, List.getElem_toArray, List.getElem_cons_succ, List.getElem_cons_zero, List.setIfInBounds_toArray, List.set_cons_zero, List.set_cons_succ]
  refine wpAnyH_take (i := 2) rfl (by kernel_rfl) (by kernel_rfl) (by kernel_rfl) (fun _ _ _ h => h) (yieldsIf_load_mid (by rfl) 22 (.tmp 19) rfl w.heap.size 0 rfl (m.map byteV) _ (fun W hSw => (HB5.out.keep hSw).m) Tryd.underlying22 rfl (by simpa using size_a32 HML.out)) hHeld ?_
  simp only [Act.put, List.getElem_toArray, List.getElem_cons_succ, List.getElem_cons_zero, List.setIfInBounds_toArray, List.set_cons_zero, List.set_cons_succ]
  refine wpAnyH_ready (rs := [3]) (by kernel_rfl) (by simp) (AllReadyH.cons rfl (fun J hJ => ?_) AllReadyH.nil)
  go_simp
  have HRF := Lib.hid (fun W => r5from_any (w := W) HML.out)
  refine (HRF.out _).mono ?_
  rintro e w6 ⟨rfl, ho6⟩
  rw [hKS]
  refine hJ.out _ _ (hHeld.trans ho6) (fun hHeld => ?_)
  clear hJ J HRF
  have hng := keys_guard
  have hnq := keys_neq HKL.out
  unfold digV at hng hnq
  refine wpAnyH_ready (rs := [4]) (by kernel_rfl) (by simp) (AllReadyH.cons rfl (fun J hJ => ?_) AllReadyH.nil)
  refine step_neq (by rfl) 29 (.tmp 18) (.tmp 21) 29 rfl (.agg (ks.map byteV).toArray) (.agg (ks.map byteV).toArray) rfl rfl false (hng _ _ _ _ _ _) (hnq _) ?_
  refine hJ.out _ _ hHeld (fun hHeld => ?_)
  clear hJ J hng hnq
  simp only [Act.put, List.getElem_toArray, List.getElem_cons_succ, List.getElem_cons_zero, List.setIfInBounds_toArray, List.set_cons_zero, List.set_cons_succ]
  refine wpAnyH_done (by kernel_rfl) ?_ _
  have HO6 := Lib.hid (HO5.out.trans hHeld); have HK6 := Lib.hid (HK5.out.keep hHeld (fun x => x)); have HB6 := Lib.hid (HB5.out.keep hHeld)
  clear hHeld ho6 HO5 HK5 HB5 hKS
  go_wp2_with fail
  refine wp_region_held_drew (S := fun W => Only (fun _ => False) w6 W) (by kernel_rfl) Only.drew (fun hHeld => ?_)
  refine wpAnyH_take (i := 0) (v := .pointer (some ⟨w.heap.size, 33, none⟩)) rfl (by kernel_rfl) (by kernel_rfl) (by kernel_rfl) (fun _ _ _ h => h) (Or.inl ⟨by rfl, fun W hSw => by go_simp⟩) hHeld ?_
  simp only [Act.put, List.getElem_toArray, List.getElem_cons_zero, List.setIfInBounds_toArray, List.set_cons_zero, List.set_cons_succ]
  refine wpAnyH_take (i := 1) (v := .slice ca ctx.length cc) rfl (by kernel_rfl) (by kernel_rfl) (by kernel_rfl) (fun _ _ _ h => h) (Or.inl ⟨by rfl, fun W hSw => by obtain ⟨z1, z2, z3⟩ := (HB6.out.keep hSw).rest; go_simp⟩) hHeld ?_
  simp only [Act.put, List.getElem_toArray, List.getElem_cons_succ, List.getElem_cons_zero, List.setIfInBounds_toArray, List.set_cons_zero, List.set_cons_succ]
  refine wpAnyH_take (i := 3) (v := .pointer (some ⟨w.heap.size, 34, none⟩)) rfl (by kernel_rfl) (by kernel_rfl) (by kernel_rfl) (fun _ _ _ h => h) (Or.inl ⟨by rfl, fun W hSw => by go_simp⟩) hHeld ?_
  simp only [Act.put, List.getElem_toArray, List.getElem_cons_succ, List.getElem_cons_zero, List.setIfInBounds_toArray, List.set_cons_zero, List.set_cons_succ]
  refine wpAnyH_take (i := 4) (v := .slice pa pl.length pc) rfl (by kernel_rfl) (by kernel_rfl) (by kernel_rfl) (fun _ _ _ h => h) (Or.inl ⟨by rfl, fun W hSw => by obtain ⟨z1, z2, z3⟩ := (HB6.out.keep hSw).rest; go_simp⟩) hHeld ?_
  simp only [Act.put, List.getElem_toArray, List.getElem_cons_succ, List.getElem_cons_zero, List.setIfInBounds_toArray, List.set_cons_zero, List.set_cons_succ]
  refine wpAnyH_ready (rs := [2]) (by kernel_rfl) (by simp) (AllReadyH.cons rfl (fun J hJ => ?_) AllReadyH.nil)
  go_simp
  have HC1 := Lib.hid (fun (W : World) (ho : Only (fun _ => False) w W) => copy_any (HC.out.here ho (fun _ h => h)) (fun _ h => h) (by have := HSU.out; omega))
  have HC2 := Lib.hid (fun (W : World) (ho : Only (fun _ => False) w W) => copy_any (HP.out.here ho (fun _ h => h)) (fun _ h => h) (by have := HSU.out; omega))
  refine (HC1.out _ (HO6.out.trans hHeld)).mono ?_
  rintro e w7 ⟨g1, c1, rfl, hx7, _, ho7⟩
  refine hJ.out _ _ (hHeld.trans ho7) (fun hHeld => ?_)
  clear hJ J HC1
  have HX7 := Lib.hid hx7
  clear hx7 ho7
  refine wpAnyH_ready (rs := [5]) (by kernel_rfl) (by simp) (AllReadyH.cons rfl (fun J hJ => ?_) AllReadyH.nil)
  go_simp
  refine (HC2.out _ (HO6.out.trans hHeld)).mono ?_
  rintro e w8 ⟨g2, c2, rfl, hy8, _, ho8⟩
  refine hJ.out _ _ (hHeld.trans ho8) (fun hHeld => ?_)
  clear hJ J HC2
  have HX8 := Lib.hid (HX7.out.only ho8 (fun x => x)); have HY8 := Lib.hid hy8
  clear hy8 ho8 HX7
  refine wpAnyH_take (i := 6) (v := .slice (some ⟨g1, 0, none⟩) ctx.length c1) rfl (by kernel_rfl) (by kernel_rfl) (by kernel_rfl) (fun _ _ _ h => h) (Or.inl ⟨by rfl, fun W hSw => by go_simp⟩) hHeld ?_
  simp only [Act.put, List.getElem_toArray, List.getElem_cons_succ, List.getElem_cons_zero, List.setIfInBounds_toArray, List.set_cons_zero, List.set_cons_succ]
  refine wpAnyH_take (i := 7) (v := .slice (some ⟨g2, 0, none⟩) pl.length c2) rfl (by kernel_rfl) (by kernel_rfl) (by kernel_rfl) (fun _ _ _ h => h) (Or.inl ⟨by rfl, fun W hSw => by go_simp⟩) hHeld ?_
  simp only [Act.put, List.getElem_toArray, List.getElem_cons_succ, List.getElem_cons_zero, List.setIfInBounds_toArray, List.set_cons_zero, List.set_cons_succ]
  refine wpAnyH_done (by kernel_rfl) ?_ _
  have HO8 := Lib.hid (HO6.out.trans hHeld); have HK8 := Lib.hid (HK6.out.keep hHeld (fun x => x)); have HB8 := Lib.hid (HB6.out.keep hHeld)
  clear hHeld HO6 HK6 HB6
  obtain ⟨c32, c33, c34⟩ := HB8.out.rest
  have HLI : Hid (Lil ctx pl) := ⟨by have := HSU.out; omega⟩
  have HSE := Lib.hid (seal_any (kind := kind) HKL.out HX8.out.here HY8.out.here (fun _ h => h) HLI.out (HF.out.only HO8.out (fun x => x)) (HT.out.only HO8.out (fun x => x)))
  go_wp2_with (refine wpList_load_row rfl 29 (.tmp 3) rfl w4.heap.size rfl 29 (ks.map byteV).toArray (0, 0) _ HK8.out.heap Tryd.underlying29 rfl (size_keys HKL.out) ?_)
  refine HSE.out.mono ?_
  rintro e w9 ⟨sa, sc, rfl, hr9⟩
  have HO9 := Lib.hid (HO8.out.trans hr9.only); have HK9 := Lib.hid (HK8.out.keep hr9.only (fun x => x)); have HB9 := Lib.hid (HB8.out.keep hr9.only); have HY9 := Lib.hid (HY8.out.only hr9.only (fun x => x)); have HX9 := Lib.hid (HX8.out.only hr9.only (fun x => x)); have HR9 := Lib.hid hr9.bytes
  clear hr9 HSE HO8 HK8 HB8 HX8 HY8 c32 c33 c34
  have HRS := Lib.hid (fun (W : World) (ho : Only (fun _ => False) w9 W) => r5seal_any (w := W) (kind := kind) HKL.out (HC.out.here (HO9.out.trans ho) (fun _ h => h)) (HP.out.here (HO9.out.trans ho) (fun _ h => h)) (fun _ h => h) HLI.out)
  have hsm : Sml (tot [Se.chunk, pl]) := ⟨by have := HSU.out; simp [tot, Se.chunk]; omega⟩
  have HID := Lib.hid (fun (W : World) (ho : Only (fun _ => False) w9 W) => id_any (w := W) HKL.out (HY9.out.only ho (fun x => x)).here (fun _ h => h) hsm (HF.out.only (HO9.out.trans ho) (fun x => x)) (HT.out.only (HO9.out.trans ho) (fun x => x)))
  have HRI := Lib.hid (fun (W : World) (ho : Only (fun _ => False) w9 W) => r5id_any (w := W) HKL.out (HP.out.here (HO9.out.trans ho) (fun _ h => h)) (fun _ h => h) hsm)
  have HKX := Lib.hid (fun (W : World) (ho : Only (fun _ => False) w9 W) => kept_any (HX9.out.only ho (fun x => x)) (HC.out.here (HO9.out.trans ho) (fun _ h => h)) (by have := HSU.out; omega))
  have HKY := Lib.hid (fun (W : World) (ho : Only (fun _ => False) w9 W) => kept_any (HY9.out.only ho (fun x => x)) (HP.out.here (HO9.out.trans ho) (fun _ h => h)) (by have := HSU.out; omega))
  have HIL := Lib.hid (Se.id_len ks pl)
  clear hsm HX9 HY9 HC HP HF HT HSU
  generalize Se.blob ks kind ctx pl = B at *
  generalize Se.idOf ks pl = D at *
  go_wp2_with fail
  refine wp_region_held_drew (S := fun W => Only (fun _ => False) w9 W) (by kernel_rfl) Only.drew (fun hHeld => ?_)
  refine wpAnyH_take (i := 0) (v := .slice sa B.length sc) rfl (by kernel_rfl) (by kernel_rfl) (by kernel_rfl) (fun _ _ _ h => h) (Or.inl ⟨by rfl, fun W hSw => by go_simp⟩) hHeld ?_
  simp only [Act.put, List.getElem_toArray, List.getElem_cons_zero, List.setIfInBounds_toArray, List.set_cons_zero, List.set_cons_succ]
  refine wpAnyH_take (i := 1) (v := .string ⟨B.toArray⟩) rfl (by kernel_rfl) (by kernel_rfl) (by kernel_rfl) (fun _ _ _ h => h) (Or.inl ⟨by rfl, fun W hSw => by have t := (HR9.out.here hSw (fun _ h => h)).text; go_simp⟩) hHeld ?_
  simp only [Act.put, List.getElem_toArray, List.getElem_cons_succ, List.getElem_cons_zero, List.setIfInBounds_toArray, List.set_cons_zero, List.set_cons_succ]
  refine wpAnyH_take (i := 2) rfl (by kernel_rfl) (by kernel_rfl) (by kernel_rfl) (fun _ _ _ h => h) (yieldsIf_load_mid (by rfl) 29 (.tmp 3) rfl w4.heap.size 0 rfl (ks.map byteV) _ (fun W hSw => (HK9.out.keep hSw (fun x => x)).all) Tryd.underlying29 rfl (by simpa using size_keys HKL.out)) hHeld ?_
  simp only [Act.put, List.getElem_toArray, List.getElem_cons_succ, List.getElem_cons_zero, List.setIfInBounds_toArray, List.set_cons_zero, List.set_cons_succ]
  refine wpAnyH_take (i := 3) (v := .pointer (some ⟨w.heap.size, 32, none⟩)) rfl (by kernel_rfl) (by kernel_rfl) (by kernel_rfl) (fun _ _ _ h => h) (Or.inl ⟨by rfl, fun W hSw => by go_simp⟩) hHeld ?_
  simp only [Act.put, List.getElem_toArray, List.getElem_cons_succ, List.getElem_cons_zero, List.setIfInBounds_toArray, List.set_cons_zero, List.set_cons_succ]
  refine wpAnyH_take (i := 4) (v := .int .u8 (kind.toNat : Int)) rfl (by kernel_rfl) (by kernel_rfl) (by kernel_rfl) (fun _ _ _ h => h) (Or.inl ⟨by rfl, fun W hSw => by obtain ⟨z1, z2, z3⟩ := (HB9.out.keep hSw).rest; go_simp⟩) hHeld ?_
  simp only [Act.put, List.getElem_toArray, List.getElem_cons_succ, List.getElem_cons_zero, List.setIfInBounds_toArray, List.set_cons_zero, List.set_cons_succ]
  refine wpAnyH_take (i := 5) (v := .pointer (some ⟨w.heap.size, 33, none⟩)) rfl (by kernel_rfl) (by kernel_rfl) (by kernel_rfl) (fun _ _ _ h => h) (Or.inl ⟨by rfl, fun W hSw => by go_simp⟩) hHeld ?_
  simp only [Act.put, List.getElem_toArray, List.getElem_cons_succ, List.getElem_cons_zero, List.setIfInBounds_toArray, List.set_cons_zero, List.set_cons_succ]
  refine wpAnyH_take (i := 6) (v := .slice ca ctx.length cc) rfl (by kernel_rfl) (by kernel_rfl) (by kernel_rfl) (fun _ _ _ h => h) (Or.inl ⟨by rfl, fun W hSw => by obtain ⟨z1, z2, z3⟩ := (HB9.out.keep hSw).rest; go_simp⟩) hHeld ?_
  simp only [Act.put, List.getElem_toArray, List.getElem_cons_succ, List.getElem_cons_zero, List.setIfInBounds_toArray, List.set_cons_zero, List.set_cons_succ]
  refine wpAnyH_take (i := 7) (v := .pointer (some ⟨w.heap.size, 34, none⟩)) rfl (by kernel_rfl) (by kernel_rfl) (by kernel_rfl) (fun _ _ _ h => h) (Or.inl ⟨by rfl, fun W hSw => by go_simp⟩) hHeld ?_
  simp only [Act.put, List.getElem_toArray, List.getElem_cons_succ, List.getElem_cons_zero, List.setIfInBounds_toArray, List.set_cons_zero, List.set_cons_succ]
  refine wpAnyH_take (i := 8) (v := .slice pa pl.length pc) rfl (by kernel_rfl) (by kernel_rfl) (by kernel_rfl) (fun _ _ _ h => h) (Or.inl ⟨by rfl, fun W hSw => by obtain ⟨z1, z2, z3⟩ := (HB9.out.keep hSw).rest; go_simp⟩) hHeld ?_
  simp only [Act.put, List.getElem_toArray, List.getElem_cons_succ, List.getElem_cons_zero, List.setIfInBounds_toArray, List.set_cons_zero, List.set_cons_succ]
  refine wpAnyH_ready (rs := [9]) (by kernel_rfl) (by simp) (AllReadyH.cons rfl (fun J hJ => ?_) AllReadyH.nil)
  go_simp
  refine (HRS.out _ hHeld).mono ?_
  rintro e w10 ⟨ra, rc, rfl, hr10⟩
  refine hJ.out _ _ (hHeld.trans hr10.only) (fun hHeld => ?_)
  clear hJ J HRS
  have t10 := hr10.bytes.text
  clear hr10
  refine wpAnyH_ready (rs := [10]) (by kernel_rfl) (by simp) (AllReadyH.cons rfl (fun J hJ => ?_) AllReadyH.nil)
  go_simp
  refine hJ.out _ _ hHeld (fun hHeld => ?_)
  clear hJ J t10
  refine wpAnyH_take (i := 11) (v := .bool true) rfl (by kernel_rfl) (by kernel_rfl) (by kernel_rfl) (fun _ _ _ h => h) (Or.inl ⟨by rfl, fun W hSw => by go_simp⟩) hHeld ?_
  simp only [Act.put, List.getElem_toArray, List.getElem_cons_succ, List.getElem_cons_zero, List.setIfInBounds_toArray, List.set_cons_zero, List.set_cons_succ]
  refine wpAnyH_take (i := 12) (v := .bool true) rfl (by kernel_rfl) (by kernel_rfl) (by kernel_rfl) (fun _ _ _ h => h) (Or.inl ⟨by rfl, fun W hSw => by go_simp⟩) hHeld ?_
  simp only [Act.put, List.getElem_toArray, List.getElem_cons_succ, List.getElem_cons_zero, List.setIfInBounds_toArray, List.set_cons_zero, List.set_cons_succ]
  refine wpAnyH_take (i := 13) rfl (by kernel_rfl) (by kernel_rfl) (by kernel_rfl) (fun _ _ _ h => h) (yieldsIf_load_mid (by rfl) 29 (.tmp 3) rfl w4.heap.size 0 rfl (ks.map byteV) _ (fun W hSw => (HK9.out.keep hSw (fun x => x)).all) Tryd.underlying29 rfl (by simpa using size_keys HKL.out)) hHeld ?_
  simp only [Act.put, List.getElem_toArray, List.getElem_cons_succ, List.getElem_cons_zero, List.setIfInBounds_toArray, List.set_cons_zero, List.set_cons_succ]
  refine wpAnyH_take (i := 14) (v := .slice (some ⟨g2, 0, none⟩) pl.length c2) rfl (by kernel_rfl) (by kernel_rfl) (by kernel_rfl) (fun _ _ _ h => h) (Or.inl ⟨by rfl, fun W hSw => by go_simp⟩) hHeld ?_
  simp only [Act.put, List.getElem_toArray, List.getElem_cons_succ, List.getElem_cons_zero, List.setIfInBounds_toArray, List.set_cons_zero, List.set_cons_succ]
  refine wpAnyH_take (i := 16) rfl (by kernel_rfl) (by kernel_rfl) (by kernel_rfl) (fun _ _ _ h => h) (yieldsIf_load_mid (by rfl) 29 (.tmp 3) rfl w4.heap.size 0 rfl (ks.map byteV) _ (fun W hSw => (HK9.out.keep hSw (fun x => x)).all) Tryd.underlying29 rfl (by simpa using size_keys HKL.out)) hHeld ?_
  simp only [Act.put, List.getElem_toArray, List.getElem_cons_succ, List.getElem_cons_zero, List.setIfInBounds_toArray, List.set_cons_zero, List.set_cons_succ]
  refine wpAnyH_take (i := 17) (v := .pointer (some ⟨w.heap.size, 34, none⟩)) rfl (by kernel_rfl) (by kernel_rfl) (by kernel_rfl) (fun _ _ _ h => h) (Or.inl ⟨by rfl, fun W hSw => by go_simp⟩) hHeld ?_
  simp only [Act.put, List.getElem_toArray, List.getElem_cons_succ, List.getElem_cons_zero, List.setIfInBounds_toArray, List.set_cons_zero, List.set_cons_succ]
  refine wpAnyH_take (i := 18) (v := .slice pa pl.length pc) rfl (by kernel_rfl) (by kernel_rfl) (by kernel_rfl) (fun _ _ _ h => h) (Or.inl ⟨by rfl, fun W hSw => by obtain ⟨z1, z2, z3⟩ := (HB9.out.keep hSw).rest; go_simp⟩) hHeld ?_
  simp only [Act.put, List.getElem_toArray, List.getElem_cons_succ, List.getElem_cons_zero, List.setIfInBounds_toArray, List.set_cons_zero, List.set_cons_succ]
  refine wpAnyH_ready (rs := [15]) (by kernel_rfl) (by simp) (AllReadyH.cons rfl (fun J hJ => ?_) AllReadyH.nil)
  go_simp
  refine (HID.out _ hHeld).mono ?_
  rintro e w11 ⟨rfl, ho⟩
  refine hJ.out _ _ (hHeld.trans ho) (fun hHeld => ?_)
  clear hJ J ho HID
  refine wpAnyH_ready (rs := [19]) (by kernel_rfl) (by simp) (AllReadyH.cons rfl (fun J hJ => ?_) AllReadyH.nil)
  go_simp
  refine (HRI.out _ hHeld).mono ?_
  rintro e w12 ⟨rfl, ho⟩
  refine hJ.out _ _ (hHeld.trans ho) (fun hHeld => ?_)
  clear hJ J ho HRI
  have hig := idq_guard2
  have hiq := idq_eql HIL.out
  refine wpAnyH_ready (rs := [20]) (by kernel_rfl) (by simp) (AllReadyH.cons rfl (fun J hJ => ?_) AllReadyH.nil)
  refine step_eql (by rfl) 33 (.tmp 50) (.tmp 54) 33 rfl (digV D) (digV D) rfl rfl true (hig _ _ _ _ _ _) (hiq _) ?_
  refine hJ.out _ _ hHeld (fun hHeld => ?_)
  clear hJ J hig hiq
  simp only [Act.put, List.getElem_toArray, List.getElem_cons_succ, List.getElem_cons_zero, List.setIfInBounds_toArray, List.set_cons_zero, List.set_cons_succ]
  refine wpAnyH_take (i := 21) (v := .bool true) rfl (by kernel_rfl) (by kernel_rfl) (by kernel_rfl) (fun _ _ _ h => h) (Or.inl ⟨by rfl, fun W hSw => by go_simp⟩) hHeld ?_
  simp only [Act.put, List.getElem_toArray, List.getElem_cons_succ, List.getElem_cons_zero, List.setIfInBounds_toArray, List.set_cons_zero, List.set_cons_succ]
  refine wpAnyH_take (i := 22) (v := .bool true) rfl (by kernel_rfl) (by kernel_rfl) (by kernel_rfl) (fun _ _ _ h => h) (Or.inl ⟨by rfl, fun W hSw => by go_simp⟩) hHeld ?_
  simp only [Act.put, List.getElem_toArray, List.getElem_cons_succ, List.getElem_cons_zero, List.setIfInBounds_toArray, List.set_cons_zero, List.set_cons_succ]
  refine wpAnyH_take (i := 23) (v := .slice (some ⟨g1, 0, none⟩) ctx.length c1) rfl (by kernel_rfl) (by kernel_rfl) (by kernel_rfl) (fun _ _ _ h => h) (Or.inl ⟨by rfl, fun W hSw => by go_simp⟩) hHeld ?_
  simp only [Act.put, List.getElem_toArray, List.getElem_cons_succ, List.getElem_cons_zero, List.setIfInBounds_toArray, List.set_cons_zero, List.set_cons_succ]
  refine wpAnyH_take (i := 24) (v := .pointer (some ⟨w.heap.size, 33, none⟩)) rfl (by kernel_rfl) (by kernel_rfl) (by kernel_rfl) (fun _ _ _ h => h) (Or.inl ⟨by rfl, fun W hSw => by go_simp⟩) hHeld ?_
  simp only [Act.put, List.getElem_toArray, List.getElem_cons_succ, List.getElem_cons_zero, List.setIfInBounds_toArray, List.set_cons_zero, List.set_cons_succ]
  refine wpAnyH_take (i := 25) (v := .slice ca ctx.length cc) rfl (by kernel_rfl) (by kernel_rfl) (by kernel_rfl) (fun _ _ _ h => h) (Or.inl ⟨by rfl, fun W hSw => by obtain ⟨z1, z2, z3⟩ := (HB9.out.keep hSw).rest; go_simp⟩) hHeld ?_
  simp only [Act.put, List.getElem_toArray, List.getElem_cons_succ, List.getElem_cons_zero, List.setIfInBounds_toArray, List.set_cons_zero, List.set_cons_succ]
  refine wpAnyH_ready (rs := [26]) (by kernel_rfl) (by simp) (AllReadyH.cons rfl (fun J hJ => ?_) AllReadyH.nil)
  go_simp
  refine (HKX.out _ hHeld).mono ?_
  rintro e w13 ⟨rfl, rfl⟩
  refine hJ.out _ _ hHeld (fun hHeld => ?_)
  clear hJ J HKX
  refine wpAnyH_take (i := 27) (v := .bool true) rfl (by kernel_rfl) (by kernel_rfl) (by kernel_rfl) (fun _ _ _ h => h) (Or.inl ⟨by rfl, fun W hSw => by go_simp⟩) hHeld ?_
  simp only [Act.put, List.getElem_toArray, List.getElem_cons_succ, List.getElem_cons_zero, List.setIfInBounds_toArray, List.set_cons_zero, List.set_cons_succ]
  refine wpAnyH_take (i := 28) (v := .bool true) rfl (by kernel_rfl) (by kernel_rfl) (by kernel_rfl) (fun _ _ _ h => h) (Or.inl ⟨by rfl, fun W hSw => by go_simp⟩) hHeld ?_
  simp only [Act.put, List.getElem_toArray, List.getElem_cons_succ, List.getElem_cons_zero, List.setIfInBounds_toArray, List.set_cons_zero, List.set_cons_succ]
  refine wpAnyH_take (i := 29) (v := .slice (some ⟨g2, 0, none⟩) pl.length c2) rfl (by kernel_rfl) (by kernel_rfl) (by kernel_rfl) (fun _ _ _ h => h) (Or.inl ⟨by rfl, fun W hSw => by go_simp⟩) hHeld ?_
  simp only [Act.put, List.getElem_toArray, List.getElem_cons_succ, List.getElem_cons_zero, List.setIfInBounds_toArray, List.set_cons_zero, List.set_cons_succ]
  refine wpAnyH_take (i := 30) (v := .pointer (some ⟨w.heap.size, 34, none⟩)) rfl (by kernel_rfl) (by kernel_rfl) (by kernel_rfl) (fun _ _ _ h => h) (Or.inl ⟨by rfl, fun W hSw => by go_simp⟩) hHeld ?_
  simp only [Act.put, List.getElem_toArray, List.getElem_cons_succ, List.getElem_cons_zero, List.setIfInBounds_toArray, List.set_cons_zero, List.set_cons_succ]
  refine wpAnyH_take (i := 31) (v := .slice pa pl.length pc) rfl (by kernel_rfl) (by kernel_rfl) (by kernel_rfl) (fun _ _ _ h => h) (Or.inl ⟨by rfl, fun W hSw => by obtain ⟨z1, z2, z3⟩ := (HB9.out.keep hSw).rest; go_simp⟩) hHeld ?_
  simp only [Act.put, List.getElem_toArray, List.getElem_cons_succ, List.getElem_cons_zero, List.setIfInBounds_toArray, List.set_cons_zero, List.set_cons_succ]
  refine wpAnyH_ready (rs := [32]) (by kernel_rfl) (by simp) (AllReadyH.cons rfl (fun J hJ => ?_) AllReadyH.nil)
  go_simp
  refine (HKY.out _ hHeld).mono ?_
  rintro e w14 ⟨rfl, rfl⟩
  refine hJ.out _ _ hHeld (fun hHeld => ?_)
  clear hJ J HKY
  refine wpAnyH_take (i := 33) (v := .bool true) rfl (by kernel_rfl) (by kernel_rfl) (by kernel_rfl) (fun _ _ _ h => h) (Or.inl ⟨by rfl, fun W hSw => by go_simp⟩) hHeld ?_
  simp only [Act.put, List.getElem_toArray, List.getElem_cons_succ, List.getElem_cons_zero, List.setIfInBounds_toArray, List.set_cons_zero, List.set_cons_succ]
  refine wpAnyH_take (i := 34) (v := .bool true) rfl (by kernel_rfl) (by kernel_rfl) (by kernel_rfl) (fun _ _ _ h => h) (Or.inl ⟨by rfl, fun W hSw => by go_simp⟩) hHeld ?_
  simp only [Act.put, List.getElem_toArray, List.getElem_cons_succ, List.getElem_cons_zero, List.setIfInBounds_toArray, List.set_cons_zero, List.set_cons_succ]
  refine wpAnyH_done (by kernel_rfl) ?_ _
  have HOF := Lib.hid (HO9.out.trans hHeld)
  clear hHeld
  go_wp2_with fail
  go_ret
  exact ⟨rfl, HOF.out⟩

end Go.Proofs.YtgdnmbchhfbjoaaDoor
