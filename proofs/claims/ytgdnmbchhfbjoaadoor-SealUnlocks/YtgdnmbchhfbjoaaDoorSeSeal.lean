/- Seal. Conditions: few bytes. -/
import Derived.Test.YtgdnmbchhfbjoaaDoorSeNon
namespace Go.Proofs.YtgdnmbchhfbjoaaDoor
open Go.RowKit

/-- A context and a row of few bytes. -/
structure Lil (ctx pl : List UInt8) : Prop where
  le : ctx.length + pl.length ≤ 32768

theorem Lil.nonce {ctx pl : List UInt8} (h : Lil ctx pl) (kind : UInt8) : Sml (tot [[kind], ctx, pl]) := ⟨by have := h.le; simp [tot]; omega⟩
theorem Lil.tag {ctx pl nn body : List UInt8} (h : Lil ctx pl) (kind : UInt8) (hn : nn.length = 12) (hb : body.length = pl.length) : Sml (tot [[kind], ctx, nn, body]) := ⟨by have := h.le; simp [tot, hn, hb]; omega⟩
theorem Lil.few {ctx pl : List UInt8} (h : Lil ctx pl) : Few pl.length := ⟨by have := h.le; omega⟩
theorem Lil.within {ctx pl : List UInt8} (h : Lil ctx pl) : Within 0 pl.length := ⟨by omega, by have := h.le; omega⟩

theorem Row.under {w w1 w2 : World} {v : Value} {bs : List UInt8} (ho : Only (fun _ => False) w w1) (h : Row w1 w2 v bs) : Row w w2 v bs :=
  ⟨h.row, fun q hq => Nat.le_trans ho.size (h.own q hq), ho.trans h.only⟩

/-- chacha.XOR from the first byte on. -/
theorem xor0_any {w : World} {key nn : List UInt8} (hk : key.length = 32) (hn : nn.length = 12) {v : Value} {bs : List UInt8} (hv : BytesAt w (fun k => k < w.heap.size) v bs) (hlen : Few bs.length) :
    Calls Tryd.prog 31 #[digV key, digV nn, .int .i64 0, v] w fun e w' => ∃ a c, e = .returned (.tuple #[.slice a bs.length c, .nilIface]) ∧ Row w w' (.slice a bs.length c) (Ch.xor key nn 0 bs) := by
  have hl : (Ch.xor key nn 0 bs).length = bs.length := by simp [Ch.xor]
  refine (cXOR_any hk hn (at' := 0) hv (fun _ h => h) hlen).mono ?_
  rintro e w' (⟨_, u, rfl, hr, hg, ho⟩ | ⟨hn, _⟩)
  · obtain ⟨a, c, rfl⟩ := row_shape hr
    exact ⟨a, c, rfl, ⟨by rw [hl]; exact hr, hg, ho⟩⟩
  · exact (hn ⟨by omega, by have := hlen.le; omega⟩).elim

set_option maxRecDepth 100000 in
set_option maxHeartbeats 1000000 in
theorem seal_any {w : World} {S : Nat → Prop} {vc vp : Value} {ks ctx pl : List UInt8} {kind : UInt8} (hk : ks.length = 96) (hc : BytesAt w S vc ctx) (hp : BytesAt w S vp pl) (hS : ∀ k, S k → k < w.heap.size) (hl : Lil ctx pl) (hf : Fst w) (ht : Tab w) :
    Calls Tryd.prog 14 #[digV ks, byteV kind, vc, vp] w fun e w' => ∃ a c, e = .returned (.slice a (Se.blob ks kind ctx pl).length c) ∧ Row w w' (.slice a (Se.blob ks kind ctx pl).length c) (Se.blob ks kind ctx pl) := by
  obtain ⟨ca, cc, rfl⟩ := hc.shape
  obtain ⟨pa, pc, rfl⟩ := hp.shape
  have ho1 : Only (fun _ => False) w (w.alloc (.cells (ks.map byteV).toArray 29)) := Only.alloc _
  have hb1 := Blk.new w (ks.map byteV) 29
  have HN := Lib.hid (nonce_any (kind := kind) hk (hc.here ho1 hS) (hp.here ho1 hS) (fun _ h => h) (hl.nonce kind) (hf.only ho1 (fun x => x)) (ht.only ho1 (fun x => x)))
  generalize hw1 : w.alloc (.cells (ks.map byteV).toArray 29) = w1 at *
  have HB1 := Lib.hid hb1; have HO1 := Lib.hid ho1; have HKL := Lib.hid hk; have HC := Lib.hid hc; have HP := Lib.hid hp; have HS := Lib.hid hS; have HF := Lib.hid hf; have HT := Lib.hid ht
  have HNL := Lib.hid (Se.nonce_len ks kind ctx pl)
  clear ho1 hb1 hk hc hp hS hf ht
  unfold digV
  rw [show byteV kind = .int .u8 (kind.toNat : Int) from rfl]
  go_enter Tryd.func14, Tryd.ntmps14
  go_wp2_with (refine wpList_load_row rfl 29 (.tmp 4) rfl w.heap.size rfl 29 (ks.map byteV).toArray (0, 0) _ HB1.out.heap Tryd.underlying29 rfl (size_keys HKL.out) ?_)
  refine HN.out.mono ?_
  rintro e w2 ⟨rfl, ho2⟩
  have ho3 : Only (fun _ => False) w2 (w2.alloc (.cells ((Se.nonce ks kind ctx pl).map byteV).toArray 64)) := Only.alloc _
  have hb3 := Blk.new w2 ((Se.nonce ks kind ctx pl).map byteV) 64
  have HK3 := Lib.hid ((HB1.out.keep ho2 (fun x => x)).keep ho3 (fun x => x)); have HO3 := Lib.hid ((HO1.out.trans ho2).trans ho3); have HB3 := Lib.hid hb3
  have HX := Lib.hid (xor0_any (Se.cipher_len HKL.out) HNL.out (HP.out.here HO3.out HS.out) hl.few)
  have HCI := Lib.hid (HK3.out.mid (o := 0) (n := 32))
  clear ho2 ho3 hb3 HN HB1 HO1 hw1
  go_wp2_with (first
    | (refine wpList_store_row rfl 64 (.tmp 9) (.tmp 17) rfl w2.heap.size ((Se.nonce ks kind ctx pl).map byteV).toArray rfl rfl 64 (ocells 12 []).toArray (heap_alloc_last _ _) (size_a12 HNL.out) (by simp [ocells, HNL.out]) (oneCell_bytes _) ?_; rw [World.setRow_alloc_new];
       generalize w2.alloc (.cells ((Se.nonce ks kind ctx pl).map byteV).toArray 64) = w3 at *)
    | (refine wpList_load_mid rfl 22 (.tmp 19) rfl w.heap.size 0 rfl ((Se.cipher ks).map byteV) _ HCI.out Tryd.underlying22 rfl (by simpa using size_a32 (Se.cipher_len HKL.out)) ?_)
    | (refine wpList_load_row rfl 64 (.tmp 9) rfl w2.heap.size rfl 64 ((Se.nonce ks kind ctx pl).map byteV).toArray (0, 0) _ HB3.out.heap Tryd.underlying64 rfl (size_a12 HNL.out) ?_))
  refine HX.out.mono ?_
  rintro e w4 ⟨ba, bc, rfl, hr4⟩
  have HR4 := Lib.hid hr4
  have HO4 := Lib.hid (HO3.out.trans hr4.only); have HK4 := Lib.hid (HK3.out.keep hr4.only (fun x => x)); have HB4 := Lib.hid (HB3.out.keep hr4.only (fun x => x))
  have hbl : (Se.body ks (Se.nonce ks kind ctx pl) pl).length = pl.length := Ch.xor_length _ _ _ _
  have hby : BytesAt w4 (fun k => k < w4.heap.size) (.slice ba pl.length bc) (Se.body ks (Se.nonce ks kind ctx pl) pl) := hr4.bytes
  have HT4 := Lib.hid (tag_any (kind := kind) HKL.out HNL.out (HC.out.here HO4.out HS.out) hby (fun _ h => h) (hl.tag kind HNL.out hbl) (HF.out.only HO4.out (fun x => x)) (HT.out.only HO4.out (fun x => x)))
  have HBL := Lib.hid hbl; have HBY := Lib.hid hby
  clear hr4 hbl hby HX HCI HK3 HO3 HB3 HR4
  go_wp2_with (first
    | (refine wpList_load_row rfl 29 (.tmp 4) rfl w.heap.size rfl 29 (ks.map byteV).toArray (0, 0) _ HK4.out.heap Tryd.underlying29 rfl (size_keys HKL.out) ?_)
    | (refine wpList_load_row rfl 64 (.tmp 9) rfl w2.heap.size rfl 64 ((Se.nonce ks kind ctx pl).map byteV).toArray (0, 0) _ HB4.out.heap Tryd.underlying64 rfl (size_a12 HNL.out) ?_))
  refine HT4.out.mono ?_
  rintro e w5 ⟨rfl, ho5⟩
  generalize hN : Se.nonce ks kind ctx pl = N at *
  generalize hBo : Se.body ks N pl = Bo at *
  have HTL := Lib.hid (Se.tag_len ks kind ctx N Bo)
  generalize hTa : Se.tag ks kind ctx N Bo = Ta at *
  have ho6 : Only (fun _ => False) w5 (w5.alloc (.cells (Ta.map byteV).toArray 22)) := Only.alloc _
  have hb6 := Blk.new w5 (Ta.map byteV) 22
  have HO6 := Lib.hid ((HO4.out.trans ho5).trans ho6); have HB6 := Lib.hid hb6; have HN6 := Lib.hid ((HB4.out.keep ho5 (fun x => x)).keep ho6 (fun x => x))
  have HBY6 := Lib.hid (HBY.out.here (ho5.trans ho6) (fun _ h => h))
  clear ho5 ho6 hb6 HT4 HK4 HB4 HO4 HBY
  go_wp2_with (refine wpList_store_row rfl 22 (.tmp 12) (.tmp 33) rfl w5.heap.size (Ta.map byteV).toArray rfl rfl 22 (ocells 32 []).toArray (heap_alloc_last _ _) (size_a32 HTL.out) (by simp [ocells, HTL.out]) (oneCell_bytes _) ?_; rw [World.setRow_alloc_new]; generalize w5.alloc (.cells (Ta.map byteV).toArray 22) = w6 at *)
  refine wp_region_any (by kernel_rfl) ?_
  change wpAny _ _ _ _ 8 (Array.replicate 8 false) _ w6.drew
  have HO7 := Lib.hid (HO6.out.trans Only.drew); have HB7 := Lib.hid HB6.out.drew; have HN7 := Lib.hid HN6.out.drew; have HBY7 := Lib.hid (HBY6.out.here Only.drew (fun _ h => h))
  clear HO6 HB6 HN6 HBY6
  generalize w6.drew = w7 at *
  refine wpAny_take (i := 0) (v := .int .u8 kind.toNat) rfl (by kernel_rfl) (by kernel_rfl) (by kernel_rfl) (fun _ _ _ h => h) (Or.inl ⟨by rfl, fun w => by go_simp⟩) ?_
  simp only [Act.put, List.getElem_toArray, List.getElem_cons_zero, List.setIfInBounds_toArray, List.set_cons_zero, List.set_cons_succ]
  refine wpAny_take (i := 2) (v := .slice (some ⟨w2.heap.size, 0, none⟩) 12 12) rfl (by kernel_rfl) (by kernel_rfl) (by kernel_rfl) (fun _ _ _ h => h) (Or.inl ⟨by rfl, fun w => by go_simp⟩) ?_
  simp only [Act.put, List.getElem_toArray, List.getElem_cons_succ, List.getElem_cons_zero, List.setIfInBounds_toArray, List.set_cons_zero, List.set_cons_succ]
  refine wpAny_take (i := 3) (v := .slice ba pl.length bc) rfl (by kernel_rfl) (by kernel_rfl) (by kernel_rfl) (fun _ _ _ h => h) (Or.inl ⟨by rfl, fun w => by go_simp⟩) ?_
  simp only [Act.put, List.getElem_toArray, List.getElem_cons_succ, List.getElem_cons_zero, List.setIfInBounds_toArray, List.set_cons_zero, List.set_cons_succ]
  refine wpAny_take (i := 4) (v := .slice (some ⟨w5.heap.size, 0, none⟩) 32 32) rfl (by kernel_rfl) (by kernel_rfl) (by kernel_rfl) (fun _ _ _ h => h) (Or.inl ⟨by rfl, fun w => by go_simp⟩) ?_
  simp only [Act.put, List.getElem_toArray, List.getElem_cons_succ, List.getElem_cons_zero, List.setIfInBounds_toArray, List.set_cons_zero, List.set_cons_succ]
  refine wpAny_ready (rs := [1]) (by kernel_rfl) (by simp) (AllReady.cons rfl (fun J hJ => ?_) AllReady.nil)
  go_simp
  refine hJ _ _ ?_
  clear hJ J
  refine wpAny_ready (rs := [5]) (by kernel_rfl) (by simp) (AllReady.cons rfl (fun J hJ => ?_) AllReady.nil)
  go_simp
  refine hJ _ _ ?_
  clear hJ J
  have hkb := (one_byte w7 kind).here (w' := (w7.alloc (.cells #[byteV kind] 5)).alloc (.cells #[.slice (some ⟨w7.heap.size, 0, none⟩) 1 1, .slice (some ⟨w2.heap.size, 0, none⟩) 12 12, .slice ba pl.length bc, .slice (some ⟨w5.heap.size, 0, none⟩) 32 32] 23)) (Only.alloc _) (fun k hk => by rw [hk]; simp)
  have hbl := Blk.new1 w7 (.cells #[byteV kind] 5) [.slice (some ⟨w7.heap.size, 0, none⟩) 1 1, .slice (some ⟨w2.heap.size, 0, none⟩) 12 12, .slice ba pl.length bc, .slice (some ⟨w5.heap.size, 0, none⟩) 32 32] 23
  have ho8 : Only (fun _ => False) w7 ((w7.alloc (.cells #[byteV kind] 5)).alloc (.cells #[.slice (some ⟨w7.heap.size, 0, none⟩) 1 1, .slice (some ⟨w2.heap.size, 0, none⟩) 12 12, .slice ba pl.length bc, .slice (some ⟨w5.heap.size, 0, none⟩) 32 32] 23)) := (Only.alloc _).trans (Only.alloc _)
  unfold byteV at hkb hbl ho8
  generalize (w7.alloc (.cells #[.int .u8 (kind.toNat : Int)] 5)).alloc (.cells #[.slice (some ⟨w7.heap.size, 0, none⟩) 1 1, .slice (some ⟨w2.heap.size, 0, none⟩) 12 12, .slice ba pl.length bc, .slice (some ⟨w5.heap.size, 0, none⟩) 32 32] 23) = w8 at *
  have HO8 := Lib.hid (HO7.out.trans ho8)
  have hfe : Few8 [[kind], N, Bo, Ta] := ⟨by have := hl.le; have := HNL.out; have := HBL.out; have := HTL.out; simp [tot]; omega, by simp⟩
  have HCC := Lib.hid (concat_any (four_blk hbl hkb ((HN7.out.keep ho8 (fun x => x)).whole HNL.out) (HBY7.out.here ho8 (fun _ h => h)) ((HB7.out.keep ho8 (fun x => x)).whole HTL.out)) (fun _ h => h) hfe)
  clear hkb hbl ho8 hfe HO7 HB7 HN7 HBY7
  refine wpAny_ready (rs := [6]) (by kernel_rfl) (by simp) (AllReady.cons rfl (fun J hJ => ?_) AllReady.nil)
  go_simp
  refine HCC.out.mono ?_
  rintro e w9 ⟨ra, rc, rfl, hr9⟩
  refine hJ _ _ ?_
  clear hJ J
  have HR9 := Lib.hid (Row.under HO8.out hr9)
  clear hr9 HCC
  have hblob : Se.blob ks kind ctx pl = [[kind], N, Bo, Ta].flatten := by
    unfold Se.blob; rw [hN, hBo, hTa]
  have HBB := Lib.hid hblob
  clear hblob
  generalize [[kind], N, Bo, Ta].flatten = R at *
  refine wpAny_take (i := 7) (v := .slice ra R.length rc) rfl (by kernel_rfl) (by kernel_rfl) (by kernel_rfl) (fun _ _ _ h => h) (Or.inl ⟨by rfl, fun w => by go_simp⟩) ?_
  simp only [Act.put, List.getElem_toArray, List.getElem_cons_succ, List.getElem_cons_zero, List.setIfInBounds_toArray, List.set_cons_zero, List.set_cons_succ]
  refine wpAny_done (by kernel_rfl) ?_ _
  go_wp2_with fail
  go_ret
  rw [HBB.out]
  exact ⟨ra, rc, rfl, HR9.out⟩

end Go.Proofs.YtgdnmbchhfbjoaaDoor
