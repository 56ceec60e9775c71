/- SealTakes: Open takes a blob just if its tag is that of its parts. Conditions: rows within the reach. -/
import Derived.Test.YtgdnmbchhfbjoaaDoorMSeR
import Derived.Test.YtgdnmbchhfbjoaaDoorMSeA

namespace Go.Proofs.YtgdnmbchhfbjoaaDoor
open Go.RowKit

theorem CopyAt.here {w : World} {g c : Nat} {bs : List UInt8} (h : CopyAt w g c bs) : BytesAt w (fun k => k < w.heap.size) (.slice (some ⟨g, 0, none⟩) bs.length c) bs := h.bytes.mono (fun k hk => by rw [hk]; exact h.lt)

set_option maxRecDepth 100000 in
set_option maxHeartbeats 2000000 in
theorem opens_any {w : World} {ks ctx b : List UInt8} {kind : UInt8} {vc vb : Value} (hk : ks.length = 96) (hc : BytesAt w (fun k => k < w.heap.size) vc ctx) (hb : BytesAt w (fun k => k < w.heap.size) vb b)
    (l1 : ctx.length ≤ 140737488351232) (l2 : b.length ≤ 140737488351232) (hf : Fst w) (ht : Tab w) :
    Calls Tryd.prog 19 #[digV ks, byteV kind, vc, vb] w fun e w' => e = .returned (.bool true) ∧ Only (fun _ => False) w w' := by
  obtain ⟨ca, cc, rfl⟩ := hc.shape
  obtain ⟨va, vd, rfl⟩ := hb.shape
  have ho1 : Only (fun _ => False) w (w.alloc (.cells (ks.map byteV).toArray 29)) := Only.alloc _
  have hk1 := Blk.new w (ks.map byteV) 29
  have HAL := Lib.hid (alive_any (hf.only ho1 (fun x => x)) (ht.only ho1 (fun x => x)))
  have HO1 := Lib.hid ho1; have HK1 := Lib.hid hk1; have HKL := Lib.hid hk; have HC := Lib.hid hc; have HB := Lib.hid hb; have HF := Lib.hid hf; have HT := Lib.hid ht
  have HL1 := Lib.hid l1; have HL2 := Lib.hid l2
  clear ho1 hk1 hk hc hb l1 l2 hf ht
  unfold digV
  rw [show byteV kind = .int .u8 (kind.toNat : Int) from rfl]
  go_enter Tryd.func19, Tryd.ntmps19
  go_wp2_with fail
  refine HAL.out.mono ?_
  rintro e w2 ⟨rfl, ho2⟩
  have HO2 := Lib.hid (HO1.out.trans ho2); have HK2 := Lib.hid (HK1.out.keep ho2 (fun x => x))
  clear ho2 HAL HO1 HK1
  go_wp2_with fail
  have ho3 : Only (fun _ => False) w2 (w2.alloc (.cells #[.slice ca ctx.length cc, .slice va b.length vd] 23)) := Only.alloc _
  have hb3 := Blk.new w2 [.slice ca ctx.length cc, .slice va b.length vd] 23
  generalize w2.alloc (.cells #[.slice ca ctx.length cc, .slice va b.length vd] 23) = w3 at *
  have HO3 := Lib.hid (HO2.out.trans ho3); have HK3 := Lib.hid (HK2.out.keep ho3 (fun x => x))
  have HLG := Lib.hid (large5_any (two_blk hb3 (HC.out.here HO3.out (fun _ h => h)) (HB.out.here HO3.out (fun _ h => h))) (fun p hp => by
    have h1 := HL1.out; have h2 := HL2.out
    simp at hp
    rcases hp with rfl | rfl <;> omega) (by simp))
  clear ho3 hb3 HO2 HK2
  refine HLG.out.mono ?_
  rintro e w3' ⟨rfl, rfl⟩
  clear HLG
  by_cases hbig : 8192 < tot [ctx, b]
  · rw [decide_eq_true hbig]
    clear hbig
    go_wp2_with fail
    go_ret
    exact ⟨rfl, HO3.out⟩
  rw [decide_eq_false hbig]
  have hsum : ctx.length + b.length ≤ 8192 := by simp [tot] at hbig; omega
  have HSU := Lib.hid hsum
  clear hsum hbig HL1 HL2
  have HCP := Lib.hid (copy_any (HC.out.here HO3.out (fun _ h => h)) (fun _ h => h) (by have := HSU.out; omega))
  go_wp2_with fail
  refine HCP.out.mono ?_
  rintro e w4 ⟨g1, c1, rfl, hx4, _, ho4⟩
  have HO4 := Lib.hid (HO3.out.trans ho4); have HK4 := Lib.hid (HK3.out.keep ho4 (fun x => x)); have HX4 := Lib.hid hx4
  clear ho4 hx4 HCP HO3 HK3
  have HCP := Lib.hid (copy_any (HB.out.here HO4.out (fun _ h => h)) (fun _ h => h) (by have := HSU.out; omega))
  go_wp2_with fail
  refine HCP.out.mono ?_
  rintro e w5 ⟨g2, c2, rfl, hy5, _, ho5⟩
  have HO5 := Lib.hid (HO4.out.trans ho5); have HK5 := Lib.hid (HK4.out.keep ho5 (fun x => x)); have HX5 := Lib.hid (HX4.out.only ho5 (fun x => x)); have HY5 := Lib.hid hy5
  clear ho5 hy5 HCP HO4 HK4 HX4
  have HLI : Hid (Lil ctx b) := ⟨by have := HSU.out; omega⟩
  have HOP := Lib.hid (open_any (kind := kind) HKL.out HX5.out.here HY5.out.here (fun _ h => h) HLI.out (HF.out.only HO5.out (fun x => x)) (HT.out.only HO5.out (fun x => x)))
  have HRO := Lib.hid (fun (W : World) (ho : Only (fun _ => False) w W) => r5open_any (w := W) (kind := kind) HKL.out (HC.out.here ho (fun _ h => h)) (HB.out.here ho (fun _ h => h)) (fun _ h => h) HLI.out)
  have HKP := Lib.hid (fun (W : World) (ho : Only (fun _ => False) w5 W) => kept_any (HX5.out.only ho (fun x => x)) (HC.out.here (HO5.out.trans ho) (fun _ h => h)) (by have := HSU.out; omega))
  have HKQ := Lib.hid (fun (W : World) (ho : Only (fun _ => False) w5 W) => kept_any (HY5.out.only ho (fun x => x)) (HB.out.here (HO5.out.trans ho) (fun _ h => h)) (by have := HSU.out; omega))
  clear HX5 HY5 HC HB HF HT
  go_wp2_with (refine wpList_load_row rfl 29 (.tmp 4) rfl w.heap.size rfl 29 (ks.map byteV).toArray (0, 0) _ HK5.out.heap Tryd.underlying29 rfl (size_keys HKL.out) ?_)
  refine HOP.out.mono ?_
  rintro e w6 (⟨htk, pa, pc, rfl, hr6⟩ | ⟨hnt, rfl, ho6⟩)
  · have HO6 := Lib.hid (HO5.out.trans hr6.only); have HK6 := Lib.hid (HK5.out.keep hr6.only (fun x => x)); have HR6 := Lib.hid hr6
    clear hr6 HOP HK5
    go_wp2_with (refine wpList_load_row rfl 29 (.tmp 4) rfl w.heap.size rfl 29 (ks.map byteV).toArray (0, 0) _ HK6.out.heap Tryd.underlying29 rfl (size_keys HKL.out) ?_)
    refine (HRO.out _ HO6.out).mono ?_
    rintro e w7 (⟨_, qa, qc, rfl, hr7⟩ | ⟨hnt, _⟩)
    case inr => exact (hnt htk).elim
    have t1 := (HR6.out.bytes.here hr7.only (fun _ h => h)).text
    have t2 := hr7.bytes.text
    have HO7 := Lib.hid (HO6.out.trans hr7.only)
    have HK7 := Lib.hid (HKP.out _ (HR6.out.only.trans hr7.only)); have HQ7 := Lib.hid (HKQ.out _ (HR6.out.only.trans hr7.only))
    have HNU := Lib.hid (num_nil w7)
    clear hr7 HRO HO6 HK6 HR6 HKP HKQ htk
    generalize Se.plain ks b = P at *
    go_wp2_with fail
    refine HNU.out.mono ?_
    rintro e w8 ⟨rfl, rfl⟩
    go_wp2_with fail
    refine HK7.out.mono ?_
    rintro e w8 ⟨rfl, rfl⟩
    go_wp2_with fail
    refine HQ7.out.mono ?_
    rintro e w8 ⟨rfl, rfl⟩
    go_wp2_with fail
    go_ret
    exact ⟨rfl, HO7.out⟩
  · have HO6 := Lib.hid (HO5.out.trans ho6); have HK6 := Lib.hid (HK5.out.keep ho6 (fun x => x)); have HO56 := Lib.hid ho6
    clear ho6 HOP HK5
    go_wp2_with (refine wpList_load_row rfl 29 (.tmp 4) rfl w.heap.size rfl 29 (ks.map byteV).toArray (0, 0) _ HK6.out.heap Tryd.underlying29 rfl (size_keys HKL.out) ?_)
    refine (HRO.out _ HO6.out).mono ?_
    rintro e w7 (⟨htk, _⟩ | ⟨_, rfl, ho7⟩)
    case inl => exact (hnt htk).elim
    have t1 : ∀ W, (convert 23 9 (.slice none 0 0)).run Tryd.prog W = .ok (.string ⟨#[]⟩) W := fun W => by kernel_rfl
    have HO7 := Lib.hid (HO6.out.trans ho7)
    have HK7 := Lib.hid (HKP.out _ (HO56.out.trans ho7)); have HQ7 := Lib.hid (HKQ.out _ (HO56.out.trans ho7))
    have HNU := Lib.hid (num_err 10 w7 (by decide))
    clear ho7 HRO HO6 HK6 HO56 HKP HKQ hnt
    go_wp2_with fail
    refine HNU.out.mono ?_
    rintro e w8 ⟨rfl, rfl⟩
    go_wp2_with fail
    refine HK7.out.mono ?_
    rintro e w8 ⟨rfl, rfl⟩
    go_wp2_with fail
    refine HQ7.out.mono ?_
    rintro e w8 ⟨rfl, rfl⟩
    go_wp2_with fail
    go_ret
    exact ⟨rfl, HO7.out⟩

set_option maxRecDepth 100000 in
set_option maxHeartbeats 1000000 in
theorem sealTakes_any {w : World} {m : List UInt8} {kind : UInt8} {vc vp : Value} {ctx pl : List UInt8} (hm : m.length = 96) (hc : BytesAt w (fun k => k < w.heap.size) vc ctx) (hp : BytesAt w (fun k => k < w.heap.size) vp pl)
    (l1 : ctx.length ≤ 140737488351232) (l2 : pl.length ≤ 140737488351232) (hf : Fst w) (ht : Tab w) :
    Calls Tryd.prog 4 #[.agg (case5 m kind vc vp).toArray] w fun e w' => e = .returned (.bool true) ∧ Only (fun _ => False) w w' := by
  obtain ⟨ca, cc, rfl⟩ := hc.shape
  obtain ⟨pa, pc, rfl⟩ := hp.shape
  have ho1 : Only (fun _ => False) w (w.alloc (.cells (case5 m kind (.slice ca ctx.length cc) (.slice pa pl.length pc)).toArray 38)) := Only.alloc _
  have hb1 : Box5 (w.alloc (.cells (case5 m kind (.slice ca ctx.length cc) (.slice pa pl.length pc)).toArray 38)) w.heap.size 96 38 m kind (.slice ca ctx.length cc) (.slice pa pl.length pc) := ⟨Blk.new _ _ _, hm⟩
  have HCL := Lib.hid (opens_any (kind := kind) hm (hc.here ho1 (fun _ h => h)) (hp.here ho1 (fun _ h => h)) l1 l2 (hf.only ho1 (fun x => x)) (ht.only ho1 (fun x => x)))
  obtain ⟨c96, c97, c98⟩ := hb1.rest
  have HMR := Lib.hid hb1.m; have HO1 := Lib.hid ho1; have HML := Lib.hid hm
  clear hm hc hp l1 l2 hf ht ho1 hb1
  go_enter Tryd.func4, Tryd.ntmps4
  go_wp2_with (refine wpList_load_mid rfl 29 (.tmp 3) rfl w.heap.size 0 rfl (m.map byteV) _ HMR.out Tryd.underlying29 rfl (by simpa using size_keys HML.out) ?_)
  refine HCL.out.mono ?_
  rintro e w2 ⟨rfl, ho2⟩
  have HO2 := Lib.hid (HO1.out.trans ho2)
  clear ho2 HCL c96 c97 c98
  go_wp2_with fail
  go_ret
  exact ⟨rfl, HO2.out⟩

end Go.Proofs.YtgdnmbchhfbjoaaDoor
