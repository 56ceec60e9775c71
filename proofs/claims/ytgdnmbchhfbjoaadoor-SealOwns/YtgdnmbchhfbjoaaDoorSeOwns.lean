/- SealOwns: answers are new memory. Conditions: rows within the reach. -/
import Derived.Test.YtgdnmbchhfbjoaaDoorSeBack
import Derived.Test.YtgdnmbchhfbjoaaDoorGApart
namespace Go.Proofs.YtgdnmbchhfbjoaaDoor
open Go.RowKit

/-- Four rows that lie apart. -/
theorem four_apart {w : World} {u0 u1 u2 u3 : Value} {n0 n1 n2 n3 : Nat} {x0 x1 x2 x3 : List Value} (h0 : w.ownsRow 0 5 1 u0 n0 x0) (h1 : w.ownsRow 0 5 1 u1 n1 x1) (h2 : w.ownsRow 0 5 1 u2 n2 x2) (h3 : w.ownsRow 0 5 1 u3 n3 x3) {s0 s1 s2 s3 : Nat}
    (l0 : ∀ g, u0.ownBlock = some g → s0 ≤ g ∧ g < s1) (l1 : ∀ g, u1.ownBlock = some g → s1 ≤ g ∧ g < s2) (l2 : ∀ g, u2.ownBlock = some g → s2 ≤ g ∧ g < s3) (l3 : ∀ g, u3.ownBlock = some g → s3 ≤ g) (h01 : s0 ≤ s1) (h12 : s1 ≤ s2) (h23 : s2 ≤ s3) (k0 : n0 ≤ 1048576) (k1 : n1 ≤ 1048576) (k2 : n2 ≤ 1048576) (k3 : n3 ≤ 1048576) :
    Calls Tryd.prog 26 #[.slice (some ⟨w.heap.size, 0, none⟩) 4 4] (w.alloc (.cells #[u0, u1, u2, u3] 23)) fun e w' => e = .returned (.bool true) ∧ Only (fun q => s0 ≤ q) (w.alloc (.cells #[u0, u1, u2, u3] 23)) w' := by
  have hG := Blk.new w [u0, u1, u2, u3] 23
  have hr : Rows1 (w.alloc (.cells #[u0, u1, u2, u3] 23)) w.heap.size [(u0, n0), (u1, n1), (u2, n2), (u3, n3)] 0 := by
    refine ⟨fun i hi => ?_, fun i hi => ?_, hG.lt⟩
    · match i, hi with
      | 0, _ => exact ⟨_, h0.alloc _, fun h => by omega⟩
      | 1, _ => exact ⟨_, h1.alloc _, fun h => by omega⟩
      | 2, _ => exact ⟨_, h2.alloc _, fun h => by omega⟩
      | 3, _ => exact ⟨_, h3.alloc _, fun h => by omega⟩
    · match i, hi with
      | 0, _ => exact hG.cell 0
      | 1, _ => exact hG.cell 1
      | 2, _ => exact hG.cell 2
      | 3, _ => exact hG.cell 3
  have hdis : Dis w.heap.size [(u0, n0), (u1, n1), (u2, n2), (u3, n3)] := by
    refine ⟨fun i j hi hj hne g e1 e2 => ?_, fun i hi h => ?_, fun i hi => ?_⟩
    · match i, j, hi, hj, hne, e1, e2 with
      | 0, 0, _, _, hne, _, _ => exact hne rfl
      | 0, 1, _, _, _, e1, e2 => have a := l0 g e1; have b := l1 g e2; omega
      | 0, 2, _, _, _, e1, e2 => have a := l0 g e1; have b := l2 g e2; omega
      | 0, 3, _, _, _, e1, e2 => have a := l0 g e1; have b := l3 g e2; omega
      | 1, 0, _, _, _, e1, e2 => have a := l0 g e2; have b := l1 g e1; omega
      | 1, 1, _, _, hne, _, _ => exact hne rfl
      | 1, 2, _, _, _, e1, e2 => have a := l1 g e1; have b := l2 g e2; omega
      | 1, 3, _, _, _, e1, e2 => have a := l1 g e1; have b := l3 g e2; omega
      | 2, 0, _, _, _, e1, e2 => have a := l0 g e2; have b := l2 g e1; omega
      | 2, 1, _, _, _, e1, e2 => have a := l1 g e2; have b := l2 g e1; omega
      | 2, 2, _, _, hne, _, _ => exact hne rfl
      | 2, 3, _, _, _, e1, e2 => have a := l2 g e1; have b := l3 g e2; omega
      | 3, 0, _, _, _, e1, e2 => have a := l0 g e2; have b := l3 g e1; omega
      | 3, 1, _, _, _, e1, e2 => have a := l1 g e2; have b := l3 g e1; omega
      | 3, 2, _, _, _, e1, e2 => have a := l2 g e2; have b := l3 g e1; omega
      | 3, 3, _, _, hne, _, _ => exact hne rfl
    · match i, hi, h with
      | 0, _, h => have a := (h0.lt _ h).2; omega
      | 1, _, h => have a := (h1.lt _ h).2; omega
      | 2, _, h => have a := (h2.lt _ h).2; omega
      | 3, _, h => have a := (h3.lt _ h).2; omega
    · match i, hi with
      | 0, _ => exact k0
      | 1, _ => exact k1
      | 2, _ => exact k2
      | 3, _ => exact k3
  refine (apart_any (c := 4) hr hdis (by simp)).mono ?_
  rintro e w' ⟨rfl, ho⟩
  refine ⟨rfl, ho.mono ?_⟩
  rintro q _ ⟨i, hi, h⟩
  match i, hi, h with
  | 0, _, h => exact (l0 q h).1
  | 1, _, h => have := (l1 q h).1; omega
  | 2, _, h => have := (l2 q h).1; omega
  | 3, _, h => have := l3 q h; omega

theorem Row.range {w w' : World} {v : Value} {bs : List UInt8} (h : Row w w' v bs) : ∀ g, v.ownBlock = some g → w.heap.size ≤ g ∧ g < w'.heap.size := fun g hg => ⟨h.own g hg, (h.row.lt g hg).2⟩

set_option maxRecDepth 100000 in
set_option maxHeartbeats 2000000 in
theorem sealOwns_any {w : World} {m : List UInt8} {kind : UInt8} {vc vp : Value} {ctx pl : List UInt8} (hm : m.length = 32) (hc : BytesAt w (fun k => k < w.heap.size) vc ctx) (hp : BytesAt w (fun k => k < w.heap.size) vp pl)
    (l1 : ctx.length ≤ 140737488351232) (l2 : pl.length ≤ 140737488351232) (hf : Fst w) (ht : Tab w) :
    Calls Tryd.prog 8 #[.agg (case5 m kind vc vp).toArray] w fun e w' => e = .returned (.bool true) ∧ Only (fun _ => False) w w' := by
  obtain ⟨hzk, hzn⟩ := zero_keys
  obtain ⟨Z, hZ⟩ : ∃ Z, Z = (ocells 96 []).toArray := ⟨_, rfl⟩
  rw [← hZ] at hzk
  have HZ := Lib.hid hZ
  obtain ⟨ca, cc, rfl⟩ := hc.shape
  obtain ⟨pa, pc, rfl⟩ := hp.shape
  have ho1 : Only (fun _ => False) w (w.alloc (.cells (case5 m kind (.slice ca ctx.length cc) (.slice pa pl.length pc)).toArray 25)) := Only.alloc _
  have hb1 : Box5 (w.alloc (.cells (case5 m kind (.slice ca ctx.length cc) (.slice pa pl.length pc)).toArray 25)) w.heap.size 32 25 m kind (.slice ca ctx.length cc) (.slice pa pl.length pc) := ⟨Blk.new _ _ _, hm⟩
  have HAL := Lib.hid (alive_any (hf.only ho1 (fun x => x)) (ht.only ho1 (fun x => x)))
  have HO1 := Lib.hid ho1; have HB1 := Lib.hid hb1; have HML := Lib.hid hm; have HC := Lib.hid hc; have HP := Lib.hid hp; have HF := Lib.hid hf; have HT := Lib.hid ht
  have HL1 := Lib.hid l1; have HL2 := Lib.hid l2
  clear ho1 hb1 hm hc hp l1 l2 hf ht hZ
  go_enter Tryd.func8, Tryd.ntmps8
  go_wp2_with fail
  refine HAL.out.mono ?_
  rintro e w2 ⟨rfl, ho2⟩
  have HO2 := Lib.hid (HO1.out.trans ho2); have HB2 := Lib.hid (HB1.out.keep ho2)
  obtain ⟨c32, c33, c34⟩ := HB2.out.rest
  clear ho2 HAL HO1 HB1
  go_wp2_with fail
  have ho3 : Only (fun _ => False) w2 (w2.alloc (.cells #[.slice ca ctx.length cc, .slice pa pl.length pc] 23)) := Only.alloc _
  have hb3 := Blk.new w2 [.slice ca ctx.length cc, .slice pa pl.length pc] 23
  generalize w2.alloc (.cells #[.slice ca ctx.length cc, .slice pa pl.length pc] 23) = w3 at *
  have HO3 := Lib.hid (HO2.out.trans ho3); have HB3 := Lib.hid (HB2.out.keep ho3)
  have HLG := Lib.hid (large5_any (two_blk hb3 (HC.out.here HO3.out (fun _ h => h)) (HP.out.here HO3.out (fun _ h => h))) (fun p hp => by
    have h1 := HL1.out; have h2 := HL2.out
    simp at hp
    rcases hp with rfl | rfl <;> omega) (by simp))
  clear ho3 hb3 c32 c33 c34 HO2 HB2 HL1 HL2
  refine HLG.out.mono ?_
  rintro e w3' ⟨rfl, rfl⟩
  clear HLG
  by_cases hbig : 8192 < tot [ctx, pl]
  · rw [decide_eq_true hbig]
    clear hbig
    go_wp2_with fail
    go_ret
    exact ⟨rfl, HO3.out⟩
  rw [decide_eq_false hbig]
  have hsum : ctx.length + pl.length ≤ 8192 := by simp [tot] at hbig; omega
  have HSU := Lib.hid hsum
  clear hsum hbig
  have HFM := Lib.hid (from_any HML.out (HF.out.only HO3.out (fun x => x)) (HT.out.only HO3.out (fun x => x)))
  have HMR := Lib.hid HB3.out.m
  go_wp2_with (refine wpList_load_mid rfl 22 (.tmp 18) rfl w.heap.size 0 rfl (m.map byteV) _ HMR.out Tryd.underlying22 rfl (by simpa using size_a32 HML.out) ?_)
  refine HFM.out.mono ?_
  rintro e w4 ⟨rfl, ho4⟩
  have HKL := Lib.hid (Se.keys_len m)
  generalize Se.keys m = ks at *
  have ho5 : Only (fun _ => False) w4 (w4.alloc (.cells (ks.map byteV).toArray 29)) := Only.alloc _
  have hk5 := Blk.new w4 (ks.map byteV) 29
  have HO5 := Lib.hid ((HO3.out.trans ho4).trans ho5); have HB5 := Lib.hid ((HB3.out.keep ho4).keep ho5); have HK5 := Lib.hid hk5
  clear ho4 ho5 hk5 HFM HMR HO3 HB3
  generalize hw5 : w4.alloc (.cells (ks.map byteV).toArray 29) = w5 at *
  obtain ⟨c32, c33, c34⟩ := HB5.out.rest
  have HLI : Hid (Lil ctx pl) := ⟨by have := HSU.out; omega⟩
  have HSE := Lib.hid (fun (W : World) (ho : Only (fun _ => False) w W) => seal_any (w := W) (kind := kind) HKL.out (HC.out.here ho (fun _ h => h)) (HP.out.here ho (fun _ h => h)) (fun _ h => h) HLI.out (HF.out.only ho (fun x => x)) (HT.out.only ho (fun x => x)))
  go_wp2_with (first
    | (refine wpList_store_row rfl 29 (.tmp 3) (.tmp 20) rfl w4.heap.size (ks.map byteV).toArray rfl rfl 29 Z (heap_alloc_last _ _) (size_keys HKL.out) (by rw [HZ.out]; simp [ocells, HKL.out]) (oneCell_bytes _) ?_; rw [World.setRow_alloc_new, hw5])
    | (refine wpList_load_row rfl 29 (.tmp 3) rfl w4.heap.size rfl 29 (ks.map byteV).toArray (0, 0) _ HK5.out.heap Tryd.underlying29 rfl (size_keys HKL.out) ?_))
  clear hw5
  have HO5' : Hid (w.heap.size ≤ w5.heap.size) := HO5.out.size
  refine (HSE.out _ HO5.out).mono ?_
  rintro e w6 ⟨aa, ac, rfl, hr6⟩
  have HR6 := Lib.hid hr6
  have HO6 := Lib.hid (HO5.out.trans hr6.only); have HK6 := Lib.hid (HK5.out.keep hr6.only (fun x => x)); have HB6 := Lib.hid (HB5.out.keep hr6.only)
  have HBT := Lib.hid (Se.blob_takes ks kind ctx pl); have HBP := Lib.hid (Se.blob_plain ks kind ctx pl)
  have HBL := Lib.hid (Se.blob_len' ks kind ctx pl)
  clear hr6 HO5 HK5 HB5 c32 c33 c34
  generalize Se.blob ks kind ctx pl = B at *
  have HLB : Hid (Lil ctx B) := ⟨by have := HSU.out; have := HBL.out; omega⟩
  obtain ⟨c32, c33, c34⟩ := HB6.out.rest
  go_wp2_with (refine wpList_load_row rfl 29 (.tmp 3) rfl w4.heap.size rfl 29 (ks.map byteV).toArray (0, 0) _ HK6.out.heap Tryd.underlying29 rfl (size_keys HKL.out) ?_)
  refine (HSE.out _ HO6.out).mono ?_
  rintro e w7 ⟨ba, bc, rfl, hr7⟩
  have HR7 := Lib.hid hr7
  have HO7 := Lib.hid (HO6.out.trans hr7.only); have HK7 := Lib.hid (HK6.out.keep hr7.only (fun x => x)); have HB7 := Lib.hid (HB6.out.keep hr7.only)
  clear hr7 HO6 HK6 HB6 c32 c33 c34 HSE HP
  obtain ⟨c32, c33, c34⟩ := HB7.out.rest
  have HOP := Lib.hid (open_any (kind := kind) HKL.out (HC.out.here HO7.out (fun _ h => h)) (HR6.out.bytes.here HR7.out.only (fun _ h => h)) (fun _ h => h) HLB.out (HF.out.only HO7.out (fun x => x)) (HT.out.only HO7.out (fun x => x)))
  go_wp2_with (refine wpList_load_row rfl 29 (.tmp 3) rfl w4.heap.size rfl 29 (ks.map byteV).toArray (0, 0) _ HK7.out.heap Tryd.underlying29 rfl (size_keys HKL.out) ?_)
  refine HOP.out.mono ?_
  rintro e w8 (⟨_, xa, xc, rfl, hr8⟩ | ⟨hn, _⟩)
  case inr => exact (hn HBT.out).elim
  rw [HBP.out] at hr8
  rw [HBP.out]
  have HR8 := Lib.hid hr8
  have HO8 := Lib.hid (HO7.out.trans hr8.only); have HK8 := Lib.hid (HK7.out.keep hr8.only (fun x => x)); have HB8 := Lib.hid (HB7.out.keep hr8.only)
  clear hr8 HOP HO7 HK7 HB7 c32 c33 c34
  obtain ⟨c32, c33, c34⟩ := HB8.out.rest
  have HOP := Lib.hid (open_any (kind := kind) HKL.out (HC.out.here HO8.out (fun _ h => h)) (HR6.out.bytes.here (HR7.out.only.trans HR8.out.only) (fun _ h => h)) (fun _ h => h) HLB.out (HF.out.only HO8.out (fun x => x)) (HT.out.only HO8.out (fun x => x)))
  go_wp2_with (refine wpList_load_row rfl 29 (.tmp 3) rfl w4.heap.size rfl 29 (ks.map byteV).toArray (0, 0) _ HK8.out.heap Tryd.underlying29 rfl (size_keys HKL.out) ?_)
  refine HOP.out.mono ?_
  rintro e w9 (⟨_, ya, yc, rfl, hr9⟩ | ⟨hn, _⟩)
  case inr => exact (hn HBT.out).elim
  rw [HBP.out] at hr9
  rw [HBP.out]
  have hta := (HR6.out.bytes.here (HR7.out.only.trans (HR8.out.only.trans hr9.only)) (fun _ h => h)).text
  have htb := (HR7.out.bytes.here (HR8.out.only.trans hr9.only) (fun _ h => h)).text
  have htx := (HR8.out.bytes.here hr9.only (fun _ h => h)).text
  have hty := hr9.bytes.text
  have HAP := Lib.hid (four_apart (HR6.out.keep (HR7.out.only.trans (HR8.out.only.trans hr9.only))) (HR7.out.keep (HR8.out.only.trans hr9.only)) (HR8.out.keep hr9.only) hr9.row HR6.out.range HR7.out.range HR8.out.range (fun g hg => (hr9.range g hg).1) HR6.out.only.size HR7.out.only.size HR8.out.only.size (by have := HSU.out; have := HBL.out; omega) (by have := HSU.out; have := HBL.out; omega) (by have := HSU.out; omega) (by have := HSU.out; omega))
  have HO9 := Lib.hid (HO8.out.trans hr9.only)
  clear hr9 HOP HO8 HK8 HB8 c32 c33 c34 HR6 HR7 HR8 HBT HBP hzk
  go_wp2_with fail
  refine HAP.out.mono ?_
  rintro e w10 ⟨rfl, ho10⟩
  have HOF : Hid (Only (fun _ => False) w w10) := (HO9.out.trans (Only.alloc _)).andThen ho10 (fun k hk e => by have := HO5'.out; omega)
  clear ho10 HAP HO9 HO5'
  go_wp2_with fail
  go_ret
  exact ⟨rfl, HOF.out⟩

end Go.Proofs.YtgdnmbchhfbjoaaDoor
