/- SealBack: what is sealed is opened. Conditions: rows within the reach. -/
import Derived.Test.YtgdnmbchhfbjoaaDoorSeAlive
import Derived.Test.YtgdnmbchhfbjoaaDoorSeArgs
import Derived.BigQuiet
namespace Go.Proofs.YtgdnmbchhfbjoaaDoor
open Go.RowKit

/-- A Case or a Blob that was boxed in block g. -/
structure Box5 (w : World) (g n : Nat) (t : TypeId) (m : List UInt8) (kind : UInt8) (vc vp : Value) : Prop where
  blk : Blk w g (case5 m kind vc vp) t
  len : m.length = n

theorem Box5.keep {w w' : World} {g n : Nat} {t : TypeId} {m : List UInt8} {kind : UInt8} {vc vp : Value} (h : Box5 w g n t m kind vc vp) (ho : Only (fun _ => False) w w') : Box5 w' g n t m kind vc vp := ⟨h.blk.keep ho (fun x => x), h.len⟩
theorem Box5.m {w : World} {g n : Nat} {t : TypeId} {m : List UInt8} {kind : UInt8} {vc vp : Value} (h : Box5 w g n t m kind vc vp) : w.rangeAt g 0 (m.map byteV) := h.blk.range fun j v hv => by
  rw [Nat.zero_add]
  unfold case5
  rw [List.getElem?_append_left (List.getElem?_eq_some_iff.1 hv).1]
  exact hv
theorem Box5.rest {w : World} {g n : Nat} {t : TypeId} {m : List UInt8} {kind : UInt8} {vc vp : Value} (h : Box5 w g n t m kind vc vp) :
    w.cell? ⟨g, n, none⟩ = some (.int .u8 (kind.toNat : Int)) ∧ w.cell? ⟨g, n + 1, none⟩ = some vc ∧ w.cell? ⟨g, n + 2, none⟩ = some vp := by
  have hl := h.len
  refine ⟨?_, ?_, ?_⟩
  · rw [h.blk.cell]
    unfold case5
    rw [List.getElem?_append_right (by rw [List.length_map]; omega), List.length_map, hl, Nat.sub_self]
    rfl
  · rw [h.blk.cell]
    unfold case5
    rw [List.getElem?_append_right (by rw [List.length_map]; omega), List.length_map, hl, show n + 1 - n = 1 by omega]
    rfl
  · rw [h.blk.cell]
    unfold case5
    rw [List.getElem?_append_right (by rw [List.length_map]; omega), List.length_map, hl, show n + 2 - n = 2 by omega]
    rfl

theorem succ_ne (k : UInt8) : k + 1 ≠ k := fun h => by
  have h1 := congrArg UInt8.toNat h
  have h2 := k.toNat_lt
  rw [UInt8.toNat_add] at h1
  simp at h1
  omega
theorem succ_val (k : UInt8) : ((k.toNat : Int) + 1) % 256 = ((k + 1).toNat : Int) := by
  rw [UInt8.toNat_add]
  simp

set_option maxRecDepth 100000 in
set_option maxHeartbeats 2000000 in
theorem sealBack_any {w : World} {ks m : List UInt8} {kind : UInt8} {vc vp vs : Value} {ctx pl short : List UInt8} (hk : ks.length = 96) (hm : m.length = 32) (hc : BytesAt w (fun k => k < w.heap.size) vc ctx) (hp : BytesAt w (fun k => k < w.heap.size) vp pl) (hs : BytesAt w (fun k => k < w.heap.size) vs short)
    (l1 : ctx.length ≤ 140737488351232) (l2 : pl.length ≤ 140737488351232) (l3 : short.length ≤ 140737488351232) (hf : Fst w) (ht : Tab w) :
    Calls Tryd.prog 5 #[digV ks, .agg (case5 m kind vc vp).toArray, vs] w fun e w' => e = .returned (.bool true) ∧ Only (fun _ => False) w w' := by
  obtain ⟨ca, cc, rfl⟩ := hc.shape
  obtain ⟨pa, pc, rfl⟩ := hp.shape
  obtain ⟨sa, sc, rfl⟩ := hs.shape
  have ho1 : Only (fun _ => False) w ((w.alloc (.cells (ks.map byteV).toArray 29)).alloc (.cells (case5 m kind (.slice ca ctx.length cc) (.slice pa pl.length pc)).toArray 25)) := (Only.alloc _).trans (Only.alloc _)
  have hk1 := (Blk.new w (ks.map byteV) 29).alloc (.cells (case5 m kind (.slice ca ctx.length cc) (.slice pa pl.length pc)).toArray 25)
  have hb1 : Box5 ((w.alloc (.cells (ks.map byteV).toArray 29)).alloc (.cells (case5 m kind (.slice ca ctx.length cc) (.slice pa pl.length pc)).toArray 25)) (w.heap.size + 1) 32 25 m kind (.slice ca ctx.length cc) (.slice pa pl.length pc) := ⟨Blk.new1 _ _ _ _, hm⟩
  have HAL := Lib.hid (alive_any (hf.only ho1 (fun x => x)) (ht.only ho1 (fun x => x)))
  have HO1 := Lib.hid ho1; have HK1 := Lib.hid hk1; have HB1 := Lib.hid hb1; have HKL := Lib.hid hk; have HC := Lib.hid hc; have HP := Lib.hid hp; have HS := Lib.hid hs; have HF := Lib.hid hf; have HT := Lib.hid ht
  have HL1 := Lib.hid l1; have HL2 := Lib.hid l2; have HL3 := Lib.hid l3
  clear ho1 hk1 hb1 hk hm hc hp hs l1 l2 l3 hf ht
  unfold digV
  go_enter Tryd.func5, Tryd.ntmps5
  go_wp2_with fail
  refine HAL.out.mono ?_
  rintro e w2 ⟨rfl, ho2⟩
  have HO2 := Lib.hid (HO1.out.trans ho2); have HK2 := Lib.hid (HK1.out.keep ho2 (fun x => x)); have HB2 := Lib.hid (HB1.out.keep ho2)
  obtain ⟨c32, c33, c34⟩ := HB2.out.rest
  clear ho2 HAL HO1 HK1 HB1
  go_wp2_with fail
  have ho3 : Only (fun _ => False) w2 (w2.alloc (.cells #[.slice ca ctx.length cc, .slice pa pl.length pc, .slice sa short.length sc] 23)) := Only.alloc _
  have hb3 := Blk.new w2 [.slice ca ctx.length cc, .slice pa pl.length pc, .slice sa short.length sc] 23
  generalize w2.alloc (.cells #[.slice ca ctx.length cc, .slice pa pl.length pc, .slice sa short.length sc] 23) = w3 at *
  have HO3 := Lib.hid (HO2.out.trans ho3); have HK3 := Lib.hid (HK2.out.keep ho3 (fun x => x)); have HB3 := Lib.hid (HB2.out.keep ho3)
  have HLG := Lib.hid (large5_any (three_blk hb3 (HC.out.here HO3.out (fun _ h => h)) (HP.out.here HO3.out (fun _ h => h)) (HS.out.here HO3.out (fun _ h => h))) (fun p hp => by
    have h1 := HL1.out; have h2 := HL2.out; have h3 := HL3.out
    simp at hp
    rcases hp with rfl | rfl | rfl <;> omega) (by simp))
  clear ho3 hb3 c32 c33 c34 HO2 HK2 HB2 HL1 HL2 HL3
  refine HLG.out.mono ?_
  rintro e w3' ⟨rfl, rfl⟩
  clear HLG
  by_cases hbig : 8192 < tot [ctx, pl, short]
  · rw [decide_eq_true hbig]
    clear hbig
    go_wp2_with fail
    go_ret
    exact ⟨rfl, HO3.out⟩
  rw [decide_eq_false hbig]
  have hsum : ctx.length + pl.length + short.length ≤ 8192 := by simp [tot] at hbig; omega
  have HSU := Lib.hid hsum
  clear hsum hbig
  obtain ⟨c32, c33, c34⟩ := HB3.out.rest
  have HSE := Lib.hid (seal_any (kind := kind) HKL.out (HC.out.here HO3.out (fun _ h => h)) (HP.out.here HO3.out (fun _ h => h)) (fun _ h => h) ⟨by have := HSU.out; omega⟩ (HF.out.only HO3.out (fun x => x)) (HT.out.only HO3.out (fun x => x)))
  go_wp2_with (refine wpList_load_row rfl 29 (.tmp 3) rfl w.heap.size rfl 29 (ks.map byteV).toArray (0, 0) _ HK3.out.heap Tryd.underlying29 rfl (size_keys HKL.out) ?_)
  refine HSE.out.mono ?_
  rintro e w4 ⟨ba, bc, rfl, hr4⟩
  have HO4 := Lib.hid (HO3.out.trans hr4.only); have HK4 := Lib.hid (HK3.out.keep hr4.only (fun x => x)); have HB4 := Lib.hid (HB3.out.keep hr4.only); have HY4 := Lib.hid hr4.bytes
  have HBT := Lib.hid (Se.blob_takes ks kind ctx pl); have HBP := Lib.hid (Se.blob_plain ks kind ctx pl); have HBO := Lib.hid (Se.blob_other ks kind ctx pl (succ_ne kind) ctx); have HBH := Lib.hid (Se.blob_head ks kind ctx pl)
  have HBL := Lib.hid (Se.blob_len' ks kind ctx pl)
  clear hr4 HSE HO3 HK3 HB3 c32 c33 c34
  generalize Se.blob ks kind ctx pl = B at *
  have HLI : Hid (Lil ctx B) := ⟨by have := HSU.out; have := HBL.out; omega⟩
  obtain ⟨c32, c33, c34⟩ := HB4.out.rest
  have HOP := Lib.hid (open_any (kind := kind) HKL.out (HC.out.here HO4.out (fun _ h => h)) HY4.out (fun _ h => h) HLI.out (HF.out.only HO4.out (fun x => x)) (HT.out.only HO4.out (fun x => x)))
  go_wp2_with (refine wpList_load_row rfl 29 (.tmp 3) rfl w.heap.size rfl 29 (ks.map byteV).toArray (0, 0) _ HK4.out.heap Tryd.underlying29 rfl (size_keys HKL.out) ?_)
  refine HOP.out.mono ?_
  rintro e w5 (⟨_, qa, qc, rfl, hr5⟩ | ⟨hn, _⟩)
  case inr => exact (hn HBT.out).elim
  rw [HBP.out] at hr5
  rw [HBP.out]
  have HO5 := Lib.hid (HO4.out.trans hr5.only); have HK5 := Lib.hid (HK4.out.keep hr5.only (fun x => x)); have HB5 := Lib.hid (HB4.out.keep hr5.only); have HY5 := Lib.hid (HY4.out.here hr5.only (fun _ h => h)); have HQ5 := Lib.hid hr5.bytes
  clear hr5 HOP HO4 HK4 HB4 HY4 c32 c33 c34 HBT HBP
  obtain ⟨c32, c33, c34⟩ := HB5.out.rest
  have HOP := Lib.hid (open_any (kind := kind + 1) HKL.out (HC.out.here HO5.out (fun _ h => h)) HY5.out (fun _ h => h) HLI.out (HF.out.only HO5.out (fun x => x)) (HT.out.only HO5.out (fun x => x)))
  go_wp2_with (refine wpList_load_row rfl 29 (.tmp 3) rfl w.heap.size rfl 29 (ks.map byteV).toArray (0, 0) _ HK5.out.heap Tryd.underlying29 rfl (size_keys HKL.out) ?_)
  rw [succ_val kind]
  refine HOP.out.mono ?_
  rintro e w6 (⟨hn, _⟩ | ⟨_, rfl, ho6⟩)
  case inl => exact (HBO.out hn).elim
  have hq : ∀ n, (convert 23 9 (.slice qa pl.length qc)).run Tryd.prog (w6.drewN n) = .ok (.string ⟨pl.toArray⟩) (w6.drewN n) := fun n => (HQ5.out.here (ho6.trans (Only.drewN n)) (fun _ h => h)).text
  have hpt : ∀ n, (convert 23 9 (.slice pa pl.length pc)).run Tryd.prog (w6.drewN n) = .ok (.string ⟨pl.toArray⟩) (w6.drewN n) := fun n => (HP.out.here (HO5.out.trans (ho6.trans (Only.drewN n))) (fun _ h => h)).text
  have HO6 := Lib.hid (HO5.out.trans ho6); have HK6 := Lib.hid (HK5.out.keep ho6 (fun x => x)); have HB6 := Lib.hid (HB5.out.keep ho6)
  obtain ⟨ad, rfl, hcell⟩ := (HY5.out.here ho6 (fun _ h => h)).byte (i := 0) (by have := HBL.out; omega)
  rw [show B.getD 0 0 = kind by rw [List.getD, HBH.out]; rfl, show ad.add 0 = ad from rfl] at hcell
  obtain ⟨d32, d33, d34⟩ := HB6.out.rest
  have hlen : IntKind.i64.wrap ((pl.length : Int) + 45) = (pl.length : Int) + 45 := by rw [IntKind.wrap_i64]; have := HSU.out; omega
  have heqt : ∀ W, (binOp .eql 42 (.iface 45 (.int .i64 10)) (.iface 45 (.int .i64 10))).run Tryd.prog W = .ok (.bool true) W := fun W => by kernel_rfl
  have heqn : ∀ W, (binOp .neq 42 (.iface 45 (.int .i64 10)) (.iface 45 (.int .i64 10))).run Tryd.prog W = .ok (.bool false) W := fun W => by kernel_rfl
  clear ho6 HOP HO5 HK5 HB5 HY5 HQ5 c32 c33 c34 HBO HBH HP HLI
  rw [HBL.out]
  go_wp2_with fail
  go_quiet ((fail))
  clear hcell d32 d33 d34 hq hpt hlen heqn
  have HO7 : Hid (Only (fun _ => False) w (w6.drewN nq)) := HO6.out.trans (Only.drewN nq)
  have HK7 : Hid (Blk (w6.drewN nq) w.heap.size (ks.map byteV) 29) := HK6.out.drewN nq
  have HB7 : Hid (Box5 (w6.drewN nq) (w.heap.size + 1) 32 25 m kind (.slice ca ctx.length cc) (.slice pa pl.length pc)) := HB6.out.keep (Only.drewN nq)
  clear HO6 HK6 HB6
  generalize w6.drewN nq = w7 at *
  by_cases hsh : short.length < 45
  · have hshi : (short.length : Int) < 45 := by omega
    obtain ⟨c32, c33, c34⟩ := HB7.out.rest
    have HNT : Hid (¬ Se.Takes ks kind ctx short) := fun h => by have := h.1; omega
    have HOP := Lib.hid (open_any (kind := kind) HKL.out (HC.out.here HO7.out (fun _ h => h)) (HS.out.here HO7.out (fun _ h => h)) (fun _ h => h) ⟨by have := HSU.out; omega⟩ (HF.out.only HO7.out (fun x => x)) (HT.out.only HO7.out (fun x => x)))
    clear hsh
    go_wp2_with (refine wpList_load_row rfl 29 (.tmp 3) rfl w.heap.size rfl 29 (ks.map byteV).toArray (0, 0) _ HK7.out.heap Tryd.underlying29 rfl (size_keys HKL.out) ?_)
    refine HOP.out.mono ?_
    rintro e w8 (⟨hn, _⟩ | ⟨_, rfl, ho8⟩)
    case inl => exact (HNT.out hn).elim
    have HO8 := Lib.hid (HO7.out.trans ho8)
    clear ho8 HOP c32 c33 c34
    go_wp2
    go_ret
    exact ⟨rfl, HO8.out⟩
  · have hshi : ¬ (short.length : Int) < 45 := by omega
    go_wp2
    go_ret
    exact ⟨rfl, HO7.out⟩

end Go.Proofs.YtgdnmbchhfbjoaaDoor
