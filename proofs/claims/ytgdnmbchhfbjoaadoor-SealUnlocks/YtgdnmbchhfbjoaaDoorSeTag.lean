/- tagOf: the tag of a blob's parts. Conditions: few bytes. -/
import Derived.Test.YtgdnmbchhfbjoaaDoorSeFrom
namespace Go.Proofs.YtgdnmbchhfbjoaaDoor
open Go.RowKit

/-- Few bytes. -/
structure Sml (n : Nat) : Prop where
  le : n ≤ 65536

theorem parts_blk {w : World} {g : Nat} {vs : List Value} {ps : List (List UInt8)} (hb : Blk w g vs 23) (h : ∀ i (hi : i < ps.length), ∃ u, vs[i]? = some u ∧ BytesAt w (fun k => k < w.heap.size) u ps[i]) :
    PartsAt w (fun k => k < w.heap.size) (.slice (some ⟨g, 0, none⟩) ps.length ps.length) ps := by
  refine ⟨_, _, rfl, Nat.le_refl _, fun i hi => ?_⟩
  obtain ⟨u, hu, hby⟩ := h i hi
  exact ⟨_, u, rfl, hb.lt, by rw [add_lit, Nat.zero_add, hb.cell, hu], hby⟩

theorem two_blk {w : World} {g : Nat} {v1 v2 : Value} {p1 p2 : List UInt8} (hb : Blk w g [v1, v2] 23) (h1 : BytesAt w (fun k => k < w.heap.size) v1 p1) (h2 : BytesAt w (fun k => k < w.heap.size) v2 p2) :
    PartsAt w (fun k => k < w.heap.size) (.slice (some ⟨g, 0, none⟩) 2 2) [p1, p2] := parts_blk (ps := [p1, p2]) hb (fun i hi => by
  match i, hi with
  | 0, _ => exact ⟨_, rfl, h1⟩
  | 1, _ => exact ⟨_, rfl, h2⟩)
theorem three_blk {w : World} {g : Nat} {v1 v2 v3 : Value} {p1 p2 p3 : List UInt8} (hb : Blk w g [v1, v2, v3] 23) (h1 : BytesAt w (fun k => k < w.heap.size) v1 p1) (h2 : BytesAt w (fun k => k < w.heap.size) v2 p2) (h3 : BytesAt w (fun k => k < w.heap.size) v3 p3) :
    PartsAt w (fun k => k < w.heap.size) (.slice (some ⟨g, 0, none⟩) 3 3) [p1, p2, p3] := parts_blk (ps := [p1, p2, p3]) hb (fun i hi => by
  match i, hi with
  | 0, _ => exact ⟨_, rfl, h1⟩
  | 1, _ => exact ⟨_, rfl, h2⟩
  | 2, _ => exact ⟨_, rfl, h3⟩)
theorem four_blk {w : World} {g : Nat} {v1 v2 v3 v4 : Value} {p1 p2 p3 p4 : List UInt8} (hb : Blk w g [v1, v2, v3, v4] 23) (h1 : BytesAt w (fun k => k < w.heap.size) v1 p1) (h2 : BytesAt w (fun k => k < w.heap.size) v2 p2) (h3 : BytesAt w (fun k => k < w.heap.size) v3 p3) (h4 : BytesAt w (fun k => k < w.heap.size) v4 p4) :
    PartsAt w (fun k => k < w.heap.size) (.slice (some ⟨g, 0, none⟩) 4 4) [p1, p2, p3, p4] := parts_blk (ps := [p1, p2, p3, p4]) hb (fun i hi => by
  match i, hi with
  | 0, _ => exact ⟨_, rfl, h1⟩
  | 1, _ => exact ⟨_, rfl, h2⟩
  | 2, _ => exact ⟨_, rfl, h3⟩
  | 3, _ => exact ⟨_, rfl, h4⟩)

/-- Pack, and the mac of what it packed. -/
theorem packs_any {w : World} {v : Value} {fs : List (List UInt8)} (hv : PartsAt w (fun k => k < w.heap.size) v fs) (hc : fs.length ≤ 4) (hs : Sml (tot fs)) :
    Calls Tryd.prog 39 #[v] w fun e w' => ∃ a c, e = .returned (.slice a (Wi.pack fs).length c) ∧ BytesAt w' (fun k => k < w'.heap.size) (.slice a (Wi.pack fs).length c) (Wi.pack fs) ∧ Only (fun _ => False) w w' := by
  refine (pack_any hv (fun _ h => h) ⟨by omega, by have := hs.le; omega⟩).mono ?_
  rintro e w' ⟨a, c, rfl, hr⟩
  exact ⟨a, c, rfl, hr.bytes, hr.only⟩

theorem packs_len {fs : List (List UInt8)} (hc : fs.length ≤ 4) (hs : Sml (tot fs)) : (Wi.pack fs).length ≤ 16777216 := by
  have := (Parts.packLen (fs := fs) ⟨by omega, by have := hs.le; omega⟩ fs.length)
  rwa [List.take_length] at this

theorem macs_any {w : World} {g : Nat} {vk u : Value} {key fs : List UInt8} (hb : Blk w g [u] 23) (hk : BytesAt w (fun k => k < w.heap.size) vk key) (hu : BytesAt w (fun k => k < w.heap.size) u fs) (hkl : key.length = 32) (hl : fs.length ≤ 16777216) (hf : Fst w) (ht : Tab w) :
    Calls Tryd.prog 38 #[vk, .slice (some ⟨g, 0, none⟩) 1 1] w fun e w' => e = .returned (digV (Sh.mac key fs)) ∧ Only (fun _ => False) w w' := by
  have := sMac_any hk (part_at hb hu (fun _ h => h)) (fun _ h => h) (by omega) (by simp; omega) (by simp) hf ht
  simpa using this


set_option maxRecDepth 100000 in
set_option maxHeartbeats 1000000 in
theorem tag_any {w : World} {S : Nat → Prop} {vc vb : Value} {K ctx nn body : List UInt8} {kind : UInt8} (hK : K.length = 96) (hn : nn.length = 12) (hc : BytesAt w S vc ctx) (hb : BytesAt w S vb body) (hS : ∀ k, S k → k < w.heap.size) (hl : Sml (tot [[kind], ctx, nn, body])) (hf : Fst w) (ht : Tab w) :
    Calls Tryd.prog 32 #[digV K, byteV kind, vc, digV nn, vb] w fun e w' => e = .returned (digV (Se.tag K kind ctx nn body)) ∧ Only (fun _ => False) w w' := by
  obtain ⟨ca, cc, rfl⟩ := hc.shape
  obtain ⟨ba, bc, rfl⟩ := hb.shape
  have hr0 : Blk (((w.alloc (.cells (K.map byteV).toArray 29)).alloc (.cells (nn.map byteV).toArray 64)).alloc (.cells (ocells 32 []).toArray 22)) (w.heap.size + 1 + 1) (ocells 32 []) 22 := by
    have := Blk.new1 (w.alloc (.cells (K.map byteV).toArray 29)) (.cells (nn.map byteV).toArray 64) (ocells 32 []) 22
    rwa [World.size_alloc] at this
  have hk0 := ((Blk.new w (K.map byteV) 29).alloc (.cells (nn.map byteV).toArray 64)).alloc (.cells (ocells 32 []).toArray 22)
  have hn0 := (Blk.new1 w (.cells (K.map byteV).toArray 29) (nn.map byteV) 64).alloc (.cells (ocells 32 []).toArray 22)
  have ho0 : Only (fun _ => False) w (((w.alloc (.cells (K.map byteV).toArray 29)).alloc (.cells (nn.map byteV).toArray 64)).alloc (.cells (ocells 32 []).toArray 22)) := ((Only.alloc _).trans (Only.alloc _)).trans (Only.alloc _)
  have HR0 := Lib.hid hr0; have HK0 := Lib.hid hk0; have HN0 := Lib.hid hn0; have HO0 := Lib.hid ho0; have HKL := Lib.hid hK; have HNL := Lib.hid hn; have HC := Lib.hid hc; have HB := Lib.hid hb; have HS := Lib.hid hS; have HF := Lib.hid hf; have HT := Lib.hid ht
  have HTL := Lib.hid (Se.tag_len K kind ctx nn body)
  clear hr0 hk0 hn0 ho0 hK hn hc hb hS hf ht
  unfold digV
  rw [show byteV kind = .int .u8 (kind.toNat : Int) from rfl]
  go_enter Tryd.func32, Tryd.ntmps32
  go_wp2_with fail
  refine wp_region_any (by kernel_rfl) ?_
  rw [← z32]
  change wpAny _ _ _ _ 12 (Array.replicate 12 false) _ (World.drew (((w.alloc (.cells (K.map byteV).toArray 29)).alloc (.cells (nn.map byteV).toArray 64)).alloc (.cells (ocells 32 []).toArray 22)))
  generalize ((w.alloc (.cells (K.map byteV).toArray 29)).alloc (.cells (nn.map byteV).toArray 64)).alloc (.cells (ocells 32 []).toArray 22) = w0 at *
  have HO1 : Hid (Only (fun _ => False) w w0.drew) := HO0.out.trans Only.drew
  have HR1 := Lib.hid HR0.out.drew; have HK1 := Lib.hid HK0.out.drew; have HN1 := Lib.hid HN0.out.drew
  clear HO0 HR0 HK0 HN0
  generalize w0.drew = w1 at *
  refine wpAny_take (i := 0) (v := .pointer (some ⟨w.heap.size, 32, none⟩)) rfl (by kernel_rfl) (by kernel_rfl) (by kernel_rfl) (fun _ _ _ h => h) (Or.inl ⟨by rfl, fun w => by go_simp⟩) ?_
  simp only [Act.put, List.getElem_toArray, List.getElem_cons_zero, List.setIfInBounds_toArray, List.set_cons_zero, List.set_cons_succ]
  refine wpAny_take (i := 1) (v := .slice (some ⟨w.heap.size, 32, none⟩) 32 32) rfl (by kernel_rfl) (by kernel_rfl) (by kernel_rfl) (fun _ _ _ h => h) (Or.inl ⟨by rfl, fun w => by go_simp⟩) ?_
  simp only [Act.put, List.getElem_toArray, List.getElem_cons_succ, List.getElem_cons_zero, List.setIfInBounds_toArray, List.set_cons_zero, List.set_cons_succ]
  refine wpAny_take (i := 2) (v := .int .u8 kind.toNat) rfl (by kernel_rfl) (by kernel_rfl) (by kernel_rfl) (fun _ _ _ h => h) (Or.inl ⟨by rfl, fun w => by go_simp⟩) ?_
  simp only [Act.put, List.getElem_toArray, List.getElem_cons_succ, List.getElem_cons_zero, List.setIfInBounds_toArray, List.set_cons_zero, List.set_cons_succ]
  refine wpAny_take (i := 4) (v := .slice ca ctx.length cc) rfl (by kernel_rfl) (by kernel_rfl) (by kernel_rfl) (fun _ _ _ h => h) (Or.inl ⟨by rfl, fun w => by go_simp⟩) ?_
  simp only [Act.put, List.getElem_toArray, List.getElem_cons_succ, List.getElem_cons_zero, List.setIfInBounds_toArray, List.set_cons_zero, List.set_cons_succ]
  refine wpAny_take (i := 5) (v := .slice (some ⟨w.heap.size + 1, 0, none⟩) 12 12) rfl (by kernel_rfl) (by kernel_rfl) (by kernel_rfl) (fun _ _ _ h => h) (Or.inl ⟨by rfl, fun w => by go_simp⟩) ?_
  simp only [Act.put, List.getElem_toArray, List.getElem_cons_succ, List.getElem_cons_zero, List.setIfInBounds_toArray, List.set_cons_zero, List.set_cons_succ]
  refine wpAny_take (i := 6) (v := .slice ba body.length bc) rfl (by kernel_rfl) (by kernel_rfl) (by kernel_rfl) (fun _ _ _ h => h) (Or.inl ⟨by rfl, fun w => by go_simp⟩) ?_
  simp only [Act.put, List.getElem_toArray, List.getElem_cons_succ, List.getElem_cons_zero, List.setIfInBounds_toArray, List.set_cons_zero, List.set_cons_succ]
  refine wpAny_ready (rs := [3]) (by kernel_rfl) (by simp) (AllReady.cons rfl (fun J hJ => ?_) AllReady.nil)
  go_simp
  refine hJ _ _ ?_
  clear hJ J
  refine wpAny_ready (rs := [7]) (by kernel_rfl) (by simp) (AllReady.cons rfl (fun J hJ => ?_) AllReady.nil)
  go_simp
  refine hJ _ _ ?_
  clear hJ J
  have hkb := (one_byte w1 kind).here (w' := (w1.alloc (.cells #[byteV kind] 5)).alloc (.cells #[.slice (some ⟨w1.heap.size, 0, none⟩) 1 1, .slice ca ctx.length cc, .slice (some ⟨w.heap.size + 1, 0, none⟩) 12 12, .slice ba body.length bc] 23)) (Only.alloc _) (fun k hk => by rw [hk]; simp)
  have hbl := Blk.new1 w1 (.cells #[byteV kind] 5) [.slice (some ⟨w1.heap.size, 0, none⟩) 1 1, .slice ca ctx.length cc, .slice (some ⟨w.heap.size + 1, 0, none⟩) 12 12, .slice ba body.length bc] 23
  have ho3 : Only (fun _ => False) w1 ((w1.alloc (.cells #[byteV kind] 5)).alloc (.cells #[.slice (some ⟨w1.heap.size, 0, none⟩) 1 1, .slice ca ctx.length cc, .slice (some ⟨w.heap.size + 1, 0, none⟩) 12 12, .slice ba body.length bc] 23)) := (Only.alloc _).trans (Only.alloc _)
  unfold byteV at hkb hbl ho3
  generalize (w1.alloc (.cells #[.int .u8 (kind.toNat : Int)] 5)).alloc (.cells #[.slice (some ⟨w1.heap.size, 0, none⟩) 1 1, .slice ca ctx.length cc, .slice (some ⟨w.heap.size + 1, 0, none⟩) 12 12, .slice ba body.length bc] 23) = w3 at *
  have HO3 := Lib.hid (HO1.out.trans ho3)
  have HK3 := Lib.hid (HK1.out.keep ho3 (fun x => x)); have HR3 := Lib.hid (HR1.out.keep ho3 (fun x => x))
  have HP := Lib.hid (packs_any (four_blk hbl hkb (HC.out.here HO3.out HS.out) ((HN1.out.keep ho3 (fun x => x)).whole HNL.out) (HB.out.here HO3.out HS.out)) (Nat.le_refl _) hl)
  clear hkb hbl ho3 HO1 HK1 HR1 HN1 HC HB
  refine wpAny_ready (rs := [8]) (by kernel_rfl) (by simp) (AllReady.cons rfl (fun J hJ => ?_) AllReady.nil)
  go_simp
  refine HP.out.mono ?_
  rintro e w4 ⟨pa, pc, rfl, hp4, ho4⟩
  refine hJ _ _ ?_
  clear hJ J
  refine wpAny_ready (rs := [9]) (by kernel_rfl) (by simp) (AllReady.cons rfl (fun J hJ => ?_) AllReady.nil)
  go_simp
  refine hJ _ _ ?_
  clear hJ J
  have ho5 : Only (fun _ => False) w4 (w4.alloc (.cells #[.slice pa (Wi.pack [[kind], ctx, nn, body]).length pc] 23)) := Only.alloc _
  have hb5 := Blk.new w4 [.slice pa (Wi.pack [[kind], ctx, nn, body]).length pc] 23
  have hp5 := hp4.here ho5 (fun _ h => h)
  generalize w4.alloc (.cells #[.slice pa (Wi.pack [[kind], ctx, nn, body]).length pc] 23) = w5 at *
  have HO5 := Lib.hid ((HO3.out.trans ho4).trans ho5)
  have HR5 := Lib.hid ((HR3.out.keep ho4 (fun x => x)).keep ho5 (fun x => x))
  have hk5 := ((HK3.out.keep ho4 (fun x => x)).keep ho5 (fun x => x)).part (o := 32) (n := 32) (Se.mac_len HKL.out)
  have HM := Lib.hid (macs_any hb5 hk5 hp5 (Se.mac_len HKL.out) (packs_len (Nat.le_refl _) hl) (HF.out.only HO5.out (fun x => x)) (HT.out.only HO5.out (fun x => x)))
  clear ho5 hb5 hp5 hk5 hp4 ho4 HO3 HK3 HR3 HP
  refine wpAny_ready (rs := [10]) (by kernel_rfl) (by simp) (AllReady.cons rfl (fun J hJ => ?_) AllReady.nil)
  go_simp
  refine HM.out.mono ?_
  rintro e w6 ⟨rfl, ho6⟩
  refine hJ _ _ ?_
  clear hJ J
  have HR6 := Lib.hid (HR5.out.keep ho6 (fun x => x)); have HO6 := Lib.hid (HO5.out.trans ho6)
  clear ho6 HM HR5 HO5
  rw [show Sh.mac (List.take 32 (List.drop 32 K)) (Wi.pack [[kind], ctx, nn, body]) = Se.tag K kind ctx nn body from rfl]
  refine wpAny_ready (rs := [11]) (by kernel_rfl) (by simp) (AllReady.cons rfl (fun J hJ => ?_) AllReady.nil)
  refine step_store_row (by rfl) 22 (.tmp 10) (.tmp 21) rfl (w.heap.size + 1 + 1) ((Se.tag K kind ctx nn body).map byteV).toArray rfl rfl 22 (ocells 32 []).toArray HR6.out.heap (size_a32 HTL.out) (by simp [ocells, HTL.out]) (oneCell_bytes _) ?_
  refine hJ _ _ (wpAny_done (by kernel_rfl) ?_ _)
  clear hJ J
  have hfin := HR6.out.row ((Se.tag K kind ctx nn body).map byteV)
  have HOS : Hid (Only (fun _ => False) w (w6.setRow (w.heap.size + 1 + 1) ((Se.tag K kind ctx nn body).map byteV).toArray)) := HO6.out.andThen (Only.setRow _ _) (fun k hk e => by omega)
  generalize w6.setRow (w.heap.size + 1 + 1) ((Se.tag K kind ctx nn body).map byteV).toArray = ws at *
  go_wp2_with fail
  exact bodyPost_ret (v := digV (Se.tag K kind ctx nn body)) (results_cell_row rfl _ _ (w.heap.size + 1 + 1) 22 _ (0, 0) _ rfl hfin Tryd.underlying22 rfl (size_a32 HTL.out)) rfl ⟨rfl, HOS.out⟩

end Go.Proofs.YtgdnmbchhfbjoaaDoor
