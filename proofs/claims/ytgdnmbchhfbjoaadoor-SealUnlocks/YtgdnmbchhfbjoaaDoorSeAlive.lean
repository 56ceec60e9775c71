/- The fixed fact of every statement of layer 5. Conditions: none. -/
import Derived.Test.YtgdnmbchhfbjoaaDoorSeFix
import Derived.Test.YtgdnmbchhfbjoaaDoorSeOpen
import Derived.Test.YtgdnmbchhfbjoaaDoorHLarge
namespace Go.Proofs.YtgdnmbchhfbjoaaDoor
open Go.RowKit

theorem built_m0 : Tryd.prog.built 22 [(0, .int .u8 1), (1, .int .u8 2), (2, .int .u8 3)] = some (Se.m0.map byteV).toArray := by kernel_rfl

/-- A row of one block, marked or not, at any later world. -/
theorem marked_here {w w' : World} {g c : Nat} {t : TypeId} {bs : List UInt8} {f : Nat × Nat} (h : w.heap[g]? = some (.cells (bs.map byteV).toArray t f)) (hc : bs.length ≤ c) (ho : Only (fun _ => False) w w') : BytesAt w' (fun k => k < w'.heap.size) (.slice (some ⟨g, 0, none⟩) bs.length c) bs :=
  (BytesAt.of_marked h hc).here ho (fun k hk => by rw [hk]; exact lt_of_heap h)

set_option maxRecDepth 100000 in
set_option maxHeartbeats 1000000 in
theorem alive_any {w : World} (hf : Fst w) (ht : Tab w) :
    Calls Tryd.prog 9 #[] w fun e w' => e = .returned (.bool true) ∧ Only (fun _ => False) w w' := by
  obtain ⟨hzk, hzn⟩ := zero_keys
  obtain ⟨Z, hZ⟩ : ∃ Z, Z = (ocells 96 []).toArray := ⟨_, rfl⟩
  rw [← hZ] at hzk
  have HZ := Lib.hid hZ
  have HFM := Lib.hid (from_any (m := Se.m0) rfl hf ht)
  have HF := Lib.hid hf; have HT := Lib.hid ht; have HBU := Lib.hid built_m0
  have kc := fun (w : World) (C : Array Value) (n c : Nat) => Lib.run_convert_bytes_const (P := Tryd.prog) w 23 5 C n c Tryd.underlying23 Tryd.underlying5
  have kc2 : ∀ (w : World) (X : Obj) (C : Array Value) (n c : Nat), (convert 23 23 (.slice (some ⟨w.heap.size + 1, 0, none⟩) n c)).run Tryd.prog ((w.alloc X).alloc (.cells C 5)) = .ok (.slice (some ⟨w.heap.size + 1, 0, none⟩) n c) ((w.alloc X).alloc (.cells C 5 (C.size, C.size + 1))) := by
    intro w X C n c
    have := kc (w.alloc X) C n c
    simpa using this
  clear hf ht hZ
  go_enter Tryd.func9, Tryd.ntmps9
  go_wp2_with (refine wpList_build_as rfl 22 _ rfl _ rfl _ HBU.out ?_)
  refine HFM.out.mono ?_
  rintro e w1 ⟨rfl, ho1⟩
  have HKL := Lib.hid (Se.keys_len Se.m0)
  have HFB := Lib.hid Se.fix_body
  generalize hK : Se.keys Se.m0 = K at *
  have ho2 : Only (fun _ => False) w1 (w1.alloc (.cells (K.map byteV).toArray 29)) := Only.alloc _
  have hb2 := Blk.new w1 (K.map byteV) 29
  have HO2 := Lib.hid (ho1.trans ho2); have HB2 := Lib.hid hb2
  clear ho1 ho2 hb2 hK HFM HBU
  go_wp2_with (first
    | (refine wpList_store_row rfl 29 (.tmp 1) (.tmp 8) rfl w1.heap.size (K.map byteV).toArray rfl rfl 29 Z (heap_alloc_last _ _) (size_keys HKL.out) (by rw [HZ.out]; simp [ocells, HKL.out]) (oneCell_bytes _) ?_; rw [World.setRow_alloc_new]; generalize w1.alloc (.cells (K.map byteV).toArray 29) = w2 at *)
    | (refine wpList_load_row rfl 29 (.tmp 1) rfl w1.heap.size rfl 29 (K.map byteV).toArray (0, 0) _ HB2.out.heap Tryd.underlying29 rfl (size_keys HKL.out) ?_))
  change Calls _ _ _ ((w2.alloc (.cells (([99] : List UInt8).map byteV).toArray 5 (1, 1 + 1))).alloc (.cells (Se.hello.map byteV).toArray 5 (5, 5 + 1))) _
  have hh1 : (w2.alloc (.cells (([99] : List UInt8).map byteV).toArray 5 (1, 1 + 1))).heap[w2.heap.size]? = some (.cells (([99] : List UInt8).map byteV).toArray 5 (1, 1 + 1)) := heap_alloc_last _ _
  have hh2 : ((w2.alloc (.cells (([99] : List UInt8).map byteV).toArray 5 (1, 1 + 1))).alloc (.cells (Se.hello.map byteV).toArray 5 (5, 5 + 1))).heap[w2.heap.size + 1]? = some (.cells (Se.hello.map byteV).toArray 5 (5, 5 + 1)) := by
    have := heap_alloc_last (w2.alloc (.cells (([99] : List UInt8).map byteV).toArray 5 (1, 1 + 1))) (.cells (Se.hello.map byteV).toArray 5 (5, 5 + 1))
    rwa [World.size_alloc] at this
  have ho3 : Only (fun _ => False) w2 ((w2.alloc (.cells (([99] : List UInt8).map byteV).toArray 5 (1, 1 + 1))).alloc (.cells (Se.hello.map byteV).toArray 5 (5, 5 + 1))) := (Only.alloc _).trans (Only.alloc _)
  have hx1 : BytesAt ((w2.alloc (.cells (([99] : List UInt8).map byteV).toArray 5 (1, 1 + 1))).alloc (.cells (Se.hello.map byteV).toArray 5 (5, 5 + 1))) (fun k => k < ((w2.alloc (.cells (([99] : List UInt8).map byteV).toArray 5 (1, 1 + 1))).alloc (.cells (Se.hello.map byteV).toArray 5 (5, 5 + 1))).heap.size) (.slice (some ⟨w2.heap.size, 0, none⟩) 1 1) [99] := marked_here (bs := [99]) (c := 1) hh1 (by decide) (Only.alloc _)
  have hx2 : BytesAt ((w2.alloc (.cells (([99] : List UInt8).map byteV).toArray 5 (1, 1 + 1))).alloc (.cells (Se.hello.map byteV).toArray 5 (5, 5 + 1))) (fun k => k < ((w2.alloc (.cells (([99] : List UInt8).map byteV).toArray 5 (1, 1 + 1))).alloc (.cells (Se.hello.map byteV).toArray 5 (5, 5 + 1))).heap.size) (.slice (some ⟨w2.heap.size + 1, 0, none⟩) 5 5) Se.hello := marked_here (bs := Se.hello) (c := 5) hh2 (by decide) (Only.refl _ _)
  generalize (w2.alloc (.cells (([99] : List UInt8).map byteV).toArray 5 (1, 1 + 1))).alloc (.cells (Se.hello.map byteV).toArray 5 (5, 5 + 1)) = w3 at *
  have HO3 := Lib.hid (HO2.out.trans ho3); have HB3 := Lib.hid (HB2.out.keep ho3 (fun x => x))
  have HSE := Lib.hid (seal_any (kind := 2) HKL.out hx1 hx2 (fun _ h => h) ⟨by decide⟩ (HF.out.only HO3.out (fun x => x)) (HT.out.only HO3.out (fun x => x)))
  clear hh1 hh2 hx1 hx2 ho3 HO2 HB2
  refine HSE.out.mono ?_
  rintro e w4 ⟨ba, bc, rfl, hr4⟩
  have HBT := Lib.hid (Se.blob_takes K 2 [99] Se.hello); have HBP := Lib.hid (Se.blob_plain K 2 [99] Se.hello); have HBO := Lib.hid (Se.blob_other K 2 [99] Se.hello (k := 3) (by decide) [99])
  have hbl : (Se.blob K 2 [99] Se.hello).length = 50 := Se.blob_len' K 2 [99] Se.hello
  have hbd : ((Se.blob K 2 [99] Se.hello).drop 13).take 5 = [214, 221, 65, 192, 233] := by
    rw [Se.blob_drop13, HFB.out]; rfl
  have HO4 := Lib.hid (HO3.out.trans hr4.only); have HB4 := Lib.hid (HB3.out.keep hr4.only (fun x => x)); have HBY4 := Lib.hid hr4.bytes
  clear hr4 HSE HO3 HB3 HFB
  generalize hB : Se.blob K 2 [99] Se.hello = B at *
  have HBL := Lib.hid hbl; have HBD := Lib.hid hbd
  rw [hbl] at HBY4
  rw [hbl]
  clear hbl hbd hB
  go_wp2_with (refine wpList_load_row rfl 29 (.tmp 1) rfl w1.heap.size rfl 29 (K.map byteV).toArray (0, 0) _ HB4.out.heap Tryd.underlying29 rfl (size_keys HKL.out) ?_)
  change Calls _ _ _ (w4.alloc (.cells (([99] : List UInt8).map byteV).toArray 5 (1, 1 + 1))) _
  have hh : (w4.alloc (.cells (([99] : List UInt8).map byteV).toArray 5 (1, 1 + 1))).heap[w4.heap.size]? = some (.cells (([99] : List UInt8).map byteV).toArray 5 (1, 1 + 1)) := heap_alloc_last _ _
  have ho : Only (fun _ => False) w4 (w4.alloc (.cells (([99] : List UInt8).map byteV).toArray 5 (1, 1 + 1))) := Only.alloc _
  generalize w4.alloc (.cells (([99] : List UInt8).map byteV).toArray 5 (1, 1 + 1)) = w5 at *
  have hx : BytesAt w5 (fun k => k < w5.heap.size) (.slice (some ⟨w4.heap.size, 0, none⟩) 1 1) [99] := marked_here (bs := [99]) (c := 1) hh (by decide) (Only.refl _ _)
  have HO5 := Lib.hid (HO4.out.trans ho); have HB5 := Lib.hid (HB4.out.keep ho (fun x => x)); have HBY5 := Lib.hid (HBY4.out.here ho (fun _ h => h))
  have HOP := Lib.hid (open_any (kind := 2) HKL.out hx HBY5.out (fun _ h => h) ⟨by rw [HBL.out]; decide⟩ (HF.out.only HO5.out (fun x => x)) (HT.out.only HO5.out (fun x => x)))
  clear hh hx ho HO4 HB4 HBY4
  refine HOP.out.mono ?_
  rintro e w6 (⟨_, pa, pc, rfl, hr6⟩ | ⟨hn, _⟩)
  case inr => exact (hn HBT.out).elim
  rw [HBP.out] at hr6
  rw [HBP.out]
  have HO6 := Lib.hid (HO5.out.trans hr6.only); have HB6 := Lib.hid (HB5.out.keep hr6.only (fun x => x)); have HBY6 := Lib.hid (HBY5.out.here hr6.only (fun _ h => h)); have HPY6 := Lib.hid hr6.bytes
  clear hr6 HOP HO5 HB5 HBY5 HBT
  go_wp2_with (refine wpList_load_row rfl 29 (.tmp 1) rfl w1.heap.size rfl 29 (K.map byteV).toArray (0, 0) _ HB6.out.heap Tryd.underlying29 rfl (size_keys HKL.out) ?_)
  change Calls _ _ _ (w6.alloc (.cells (([99] : List UInt8).map byteV).toArray 5 (1, 1 + 1))) _
  have hh : (w6.alloc (.cells (([99] : List UInt8).map byteV).toArray 5 (1, 1 + 1))).heap[w6.heap.size]? = some (.cells (([99] : List UInt8).map byteV).toArray 5 (1, 1 + 1)) := heap_alloc_last _ _
  have ho : Only (fun _ => False) w6 (w6.alloc (.cells (([99] : List UInt8).map byteV).toArray 5 (1, 1 + 1))) := Only.alloc _
  generalize w6.alloc (.cells (([99] : List UInt8).map byteV).toArray 5 (1, 1 + 1)) = w7 at *
  have hx : BytesAt w7 (fun k => k < w7.heap.size) (.slice (some ⟨w6.heap.size, 0, none⟩) 1 1) [99] := marked_here (bs := [99]) (c := 1) hh (by decide) (Only.refl _ _)
  have HO7 := Lib.hid (HO6.out.trans ho); have HB7 := Lib.hid (HB6.out.keep ho (fun x => x)); have HBY7 := Lib.hid (HBY6.out.here ho (fun _ h => h)); have HPY7 := Lib.hid (HPY6.out.here ho (fun _ h => h))
  have HOP := Lib.hid (open_any (kind := 3) HKL.out hx HBY7.out (fun _ h => h) ⟨by rw [HBL.out]; decide⟩ (HF.out.only HO7.out (fun x => x)) (HT.out.only HO7.out (fun x => x)))
  clear hh hx ho HO6 HB6 HBY6
  refine HOP.out.mono ?_
  rintro e w8 (⟨hn, _⟩ | ⟨_, rfl, ho8⟩)
  case inl => exact (HBO.out hn).elim
  have HO8 := Lib.hid (HO7.out.trans ho8)
  have hBY := HBY7.out.here ho8 (fun _ h => h)
  rw [← HBL.out] at hBY
  obtain ⟨u, hu1, hu2⟩ := piece_at hBY (i := 13) (j := 18) (by omega) (by rw [HBL.out]; omega)
  have hu3 := hu2.text
  rw [show 18 - 13 = 5 from rfl, HBD.out] at hu3
  rw [HBL.out] at hu1
  have hu4 : ∀ W : World, (Instr.slice 23 (.slice ba 50 bc) (some (.int .i64 13)) (some (.int .i64 18)) none).run Tryd.prog W = .ok u W := hu1
  have hpt : (convert 23 9 (.slice pa 5 pc)).run Tryd.prog w8 = .ok (.string ⟨#[104, 101, 108, 108, 111]⟩) w8 := (HPY7.out.here ho8 (fun _ h => h)).text

  clear hBY hu2 hu1 ho8 HOP HO7 HB7 HBY7 HPY7 HPY6 HBL HBD HBP HBO kc kc2 hzk
  have heq : ∀ W, (binOp .eql 42 (.iface 45 (.int .i64 10)) (.iface 45 (.int .i64 10))).run Tryd.prog W = .ok (.bool true) W := fun W => by kernel_rfl
  unfold Se.hello at *
  go_wp2
  go_ret
  exact ⟨rfl, HO8.out⟩

set_option maxRecDepth 100000 in
theorem large5_any {w : World} {S : Nat → Prop} {v : Value} {ps : List (List UInt8)} (hv : PartsAt w S v ps) (hl : ∀ p ∈ ps, p.length ≤ 140737488355328) (hn : ps.length ≤ 140737488355328) :
    Calls Tryd.prog 10 #[v] w fun e w' => e = .returned (.bool (decide (8192 < tot ps))) ∧ w = w' := by
  have hs := numSum_any (most := 1048576) hv hl hn (Nat.le_refl _)
  have HS := Lib.hid (show Calls Tryd.prog 27 #[v, .int .i64 1048576] w _ from hs)
  have he : htot ps = tot ps := rfl
  rw [he] at HS
  obtain ⟨va, vc, rfl, -, -⟩ := hv
  clear hs hl hn he
  by_cases hb : 8192 < tot ps
  · have h1 : ((min (tot ps) 1048576 : Nat) : Int) > 8192 := by omega
    generalize ((min (tot ps) 1048576 : Nat) : Int) = q at *
    go_enter Tryd.func10, Tryd.ntmps10
    go_wp2_with (go_at_call 27; refine HS.out.mono ?_; rintro e w1 ⟨rfl, rfl⟩)
    go_ret
    exact ⟨by rw [decide_eq_true hb]; rfl, rfl⟩
  · have h1 : ¬ ((min (tot ps) 1048576 : Nat) : Int) > 8192 := by omega
    generalize ((min (tot ps) 1048576 : Nat) : Int) = q at *
    go_enter Tryd.func10, Tryd.ntmps10
    go_wp2_with (go_at_call 27; refine HS.out.mono ?_; rintro e w1 ⟨rfl, rfl⟩)
    go_ret
    exact ⟨by rw [decide_eq_false hb]; show Ending.returned (Value.bool (decide (8192 < q))) = _; rw [decide_eq_false (by omega)], rfl⟩

end Go.Proofs.YtgdnmbchhfbjoaaDoor
