/- Open. Conditions: few bytes. -/
import Derived.Test.YtgdnmbchhfbjoaaDoorSeSeal
import Derived.Test.YtgdnmbchhfbjoaaDoorWiRead
namespace Go.Proofs.YtgdnmbchhfbjoaaDoor
open Go.RowKit

/-- A piece of a row. -/
theorem piece_at {w : World} {S : Nat → Prop} {a : Option Addr} {c : Nat} {bs : List UInt8} (h : BytesAt w S (.slice a bs.length c) bs) {i j : Nat} (hij : i ≤ j) (hj : j ≤ bs.length) :
    ∃ u, (∀ w1 : World, (Instr.slice 23 (.slice a bs.length c) (some (.int .i64 (i : Int))) (some (.int .i64 (j : Int))) none).run Tryd.prog w1 = .ok u w1) ∧ BytesAt w S u ((bs.drop i).take (j - i)) := by
  have hlen : ((bs.drop i).take (j - i)).length = j - i := by simp; omega
  rcases h with ⟨e, rfl⟩ | ⟨ad, c', e, hc, hs, hcell⟩
  · obtain ⟨rfl, _, rfl⟩ := Value.slice.inj e
    have hj0 : j = 0 := by simpa using hj
    subst hj0
    have hi0 : i = 0 := by omega
    subst hi0
    refine ⟨.slice none 0 0, fun w1 => ?_, .inl ⟨rfl, by simp⟩⟩
    rw [run_slice_lh (ht := by kernel_rfl) (h0 := by omega) (h1 := by omega) (h2 := by simp)]
    have hsz : (sizeOf (Tryd.prog.elem 23)).run Tryd.prog w1 = .ok 1 w1 := by kernel_rfl
    rw [hsz]
    simp [Result.andThen, sliced]
  · obtain ⟨rfl, _, rfl⟩ := Value.slice.inj e
    refine ⟨.slice (some (if c = i then ad else ad.add i)) (j - i) (c - i), fun w1 => ?_, .inr ⟨_, c - i, by rw [hlen], by omega, fun hne => ?_, fun t x hx => ?_⟩⟩
    · rw [run_slice_lh (ht := by kernel_rfl) (h0 := by omega) (h1 := by omega) (h2 := by omega)]
      have hsz : (sizeOf (Tryd.prog.elem 23)).run Tryd.prog w1 = .ok 1 w1 := by kernel_rfl
      rw [hsz]
      by_cases e : c = i
      · simp [Result.andThen, sliced, e]
      · simp [Result.andThen, sliced, e]
    · have hb : (if c = i then ad else ad.add i).block = ad.block := by
        split
        · rfl
        · exact add_block _ _
      rw [hb]
      exact hs (by rintro rfl; simp at hne)
    · have ht : t < j - i := by
        have := (List.getElem?_eq_some_iff.1 hx).1
        omega
      rw [List.getElem?_take_of_lt ht, List.getElem?_drop] at hx
      rw [if_neg (by omega), add_add]
      exact hcell _ x hx


/-- What Open answers. -/
def Opens (w : World) (ks : List UInt8) (kind : UInt8) (ctx b : List UInt8) (e : Ending) (w' : World) : Prop :=
  (Se.Takes ks kind ctx b ∧ ∃ a c, e = .returned (.tuple #[.slice a (Se.plain ks b).length c, .nilIface]) ∧ Row w w' (.slice a (Se.plain ks b).length c) (Se.plain ks b)) ∨
  (¬ Se.Takes ks kind ctx b ∧ e = .returned (.tuple #[.slice none 0 0, .iface 45 (.int .i64 10)]) ∧ Only (fun _ => False) w w')

theorem u8_eq {x y : UInt8} (h : (x.toNat : Int) = (y.toNat : Int)) : x = y := UInt8.toNat_inj.1 (by omega)

set_option maxRecDepth 100000 in
set_option maxHeartbeats 1000000 in
theorem open_any {w : World} {S : Nat → Prop} {vc vb : Value} {ks ctx b : List UInt8} {kind : UInt8} (hk : ks.length = 96) (hc : BytesAt w S vc ctx) (hb : BytesAt w S vb b) (hS : ∀ k, S k → k < w.heap.size) (hl : Lil ctx b) (hf : Fst w) (ht : Tab w) :
    Calls Tryd.prog 20 #[digV ks, byteV kind, vc, vb] w (Opens w ks kind ctx b) := by
  obtain ⟨ca, cc, rfl⟩ := hc.shape
  obtain ⟨va, vd, rfl⟩ := hb.shape
  have ho1 : Only (fun _ => False) w (w.alloc (.cells (ks.map byteV).toArray 29)) := Only.alloc _
  have hb1 := Blk.new w (ks.map byteV) 29
  have HO1 := Lib.hid ho1; have HB1 := Lib.hid hb1; have HKL := Lib.hid hk; have HC := Lib.hid hc; have HB := Lib.hid hb; have HS := Lib.hid hS; have HF := Lib.hid hf; have HT := Lib.hid ht
  by_cases hlen : b.length < 45
  · have hlt : (b.length : Int) < 45 := by omega
    have HN : Hid (¬ Se.Takes ks kind ctx b) := fun h => by have := h.1; omega
    clear ho1 hb1 hk hc hb hS hf ht hlen
    unfold digV
    rw [show byteV kind = .int .u8 (kind.toNat : Int) from rfl]
    go_enter Tryd.func20, Tryd.ntmps20
    go_wp2
    go_ret2
    exact .inr ⟨HN.out, rfl, HO1.out⟩
  · have hlt : ¬ (b.length : Int) < 45 := by omega
    obtain ⟨ad, rfl, hcell⟩ := hb.byte (i := 0) (by omega)
    obtain ⟨x, hx⟩ : ∃ x, b[0]? = some x := ⟨_, List.getElem?_eq_getElem (by omega)⟩
    rw [show b.getD 0 0 = x by simp [List.getD, hx]] at hcell
    have hcell1 : (w.alloc (.cells (ks.map byteV).toArray 29)).cell? (ad.add 0) = some (.int .u8 (x.toNat : Int)) := by
      rw [World.cell?_of_block (w := w) (by rw [add_block]; exact ho1.block _ (by have := lt_of_cell hcell; rwa [add_block] at this) (fun x => x))]; exact hcell
    rw [show ad.add 0 = ad from rfl] at hcell1
    by_cases hb0 : x = kind
    · subst hb0
      obtain ⟨g1, o1, hs1, hr1, hg1⟩ := mid_at hb (i := 1) (j := 13) (by omega) (by omega) (by omega)
      obtain ⟨u, hs2, hu⟩ := piece_at hb (i := 13) (j := b.length - 32) (by omega) (by omega)
      obtain ⟨g3, o3, hs3, hr3, hg3, hc3⟩ := tail_at hb (i := b.length - 32) (by omega) (by omega)
      have e32 : ((b.length - 32 : Nat) : Int) = (b.length : Int) - 32 := by omega
      rw [e32] at hs2 hs3
      have e33 : b.length - (b.length - 32) = 32 := by omega
      rw [e33] at hs3 hc3
      have hwr : wrap64 ((b.length : Int) - 32) = (b.length : Int) - 32 := by unfold wrap64; have := hl.le; omega
      have hs1' : ∀ W : World, (Instr.slice 23 (.slice (some ad) b.length vd) (some (.int .i64 1)) (some (.int .i64 13)) none).run Tryd.prog W = .ok (.slice (some ⟨g1, o1, none⟩) 12 (vd - 1)) W := hs1
      have hs2' : ∀ W : World, (Instr.slice 23 (.slice (some ad) b.length vd) (some (.int .i64 13)) (some (.int .i64 ((b.length : Int) - 32))) none).run Tryd.prog W = .ok u W := hs2
      have hpt := ptr_12 (some ⟨g1, o1, none⟩) 12 (vd - 1) (by decide)
      have hnl : (Se.nonceIn b).length = 12 := by unfold Se.nonceIn; simp; omega
      have hbl : (Se.bodyIn b).length = b.length - 45 := by unfold Se.bodyIn; simp; omega
      have htl : (Se.tagIn b).length = 32 := by unfold Se.tagIn; simp; omega
      have hu' : BytesAt w S u (Se.bodyIn b) := hu
      have hr1' : w.rangeAt g1 o1 ((Se.nonceIn b).map byteV) := hr1
      have hr3' : w.rangeAt g3 o3 ((Se.tagIn b).map byteV) := hr3
      have htake : Se.Takes ks x ctx b ↔ Se.tag ks x ctx (Se.nonceIn b) (Se.bodyIn b) = Se.tagIn b := ⟨fun h => h.2.2, fun h => ⟨by omega, hx, h⟩⟩
      have HTK := Lib.hid htake; have HNL := Lib.hid hnl; have HBL := Lib.hid hbl; have HTL := Lib.hid htl; have HU := Lib.hid hu'; have HR3 := Lib.hid hr3'; have HC3 := Lib.hid hc3
      have HRG := Lib.hid (rangeAt_here hr1' ho1 (HS.out _ hg1)); have HG3 := Lib.hid (HS.out _ hg3)
      have HPL : Hid (Se.plain ks b = Ch.xor (Se.cipher ks) (Se.nonceIn b) 0 (Se.bodyIn b)) := rfl
      have HSM : Hid (Sml (tot [[x], ctx, Se.nonceIn b, Se.bodyIn b])) := ⟨by have := hl.le; simp [tot, hnl, hbl]; omega⟩
      have HFW : Hid (Few (Se.bodyIn b).length) := ⟨by have := hl.le; omega⟩
      obtain ⟨ua, uc, rfl⟩ := hu'.shape
      clear ho1 hb1 hk hc hb hS hf ht hlen hcell hx hs1 hr1 hg1 hs2 hu hr3 hg3 hc3 e32 e33 hnl hbl htl hu' hr1' hr3' htake HB
      generalize hNi : Se.nonceIn b = N at *
      generalize hBi : Se.bodyIn b = Bo at *
      generalize hTi : Se.tagIn b = Ta at *
      have hz2 : Blk ((w.alloc (.cells (ks.map byteV).toArray 29)).alloc (.cells (ocells 12 []).toArray 64)) (w.heap.size + 1) (ocells 12 []) 64 := Blk.new1 _ _ _ _
      have ho2 : Only (fun k => k = w.heap.size + 1) ((w.alloc (.cells (ks.map byteV).toArray 29)).alloc (.cells (ocells 12 []).toArray 64)) (((w.alloc (.cells (ks.map byteV).toArray 29)).alloc (.cells (ocells 12 []).toArray 64)).setRow (w.heap.size + 1) (N.map byteV).toArray) := Only.setRow _ _
      have HN2 := Lib.hid (hz2.row (N.map byteV))
      have HK2 := Lib.hid ((HB1.out.alloc (.cells (ocells 12 []).toArray 64)).keep ho2 (by omega))
      have HO2 : Hid (Only (fun _ => False) w (((w.alloc (.cells (ks.map byteV).toArray 29)).alloc (.cells (ocells 12 []).toArray 64)).setRow (w.heap.size + 1) (N.map byteV).toArray)) := (HO1.out.trans (Only.alloc _)).andThen ho2 (fun k hk e => by omega)
      clear hz2 ho2
      unfold digV
      rw [show byteV x = .int .u8 (x.toNat : Int) from rfl]
      go_enter Tryd.func20, Tryd.ntmps20
      go_wp2_with (first
        | (refine wpList_load_mid rfl 64 (.tmp 30) rfl g1 o1 rfl (N.map byteV) _ HRG.out Tryd.underlying64 rfl (by simpa using size_a12 HNL.out) ?_)
        | (refine wpList_store_row rfl 64 (.tmp 11) (.tmp 31) rfl (w.heap.size + 1) (N.map byteV).toArray rfl rfl 64 (ocells 12 []).toArray (Blk.new1 _ _ _ _) (size_a12 HNL.out) (by simp [ocells, HNL.out]) (oneCell_bytes _) ?_; rw [← z12]; generalize ((w.alloc (.cells (ks.map byteV).toArray 29)).alloc (.cells (ocells 12 []).toArray 64)).setRow (w.heap.size + 1) (N.map byteV).toArray = w2 at *)
        | (refine wpList_load_row rfl 64 (.tmp 11) rfl (w.heap.size + 1) rfl 64 (N.map byteV).toArray (0, 0) _ HN2.out.heap Tryd.underlying64 rfl (size_a12 HNL.out) ?_)
        | (refine wpList_load_row rfl 29 (.tmp 4) rfl w.heap.size rfl 29 (ks.map byteV).toArray (0, 0) _ HK2.out.heap Tryd.underlying29 rfl (size_keys HKL.out) ?_))
      have HTG := Lib.hid (tag_any (kind := x) HKL.out HNL.out (HC.out.here HO2.out HS.out) (HU.out.here HO2.out HS.out) (fun _ h => h) HSM.out (HF.out.only HO2.out (fun x => x)) (HT.out.only HO2.out (fun x => x)))
      refine HTG.out.mono ?_
      rintro e w3 ⟨rfl, ho3⟩
      have HGL := Lib.hid (Se.tag_len ks x ctx N Bo)
      generalize hG : Se.tag ks x ctx N Bo = G at *
      have ho4 : Only (fun _ => False) w3 (w3.alloc (.cells (G.map byteV).toArray 22)) := Only.alloc _
      have hb4 := Blk.new w3 (G.map byteV) 22
      have HO4 := Lib.hid ((HO2.out.trans ho3).trans ho4); have HB4 := Lib.hid hb4; have HN4 := Lib.hid ((HN2.out.keep ho3 (fun x => x)).keep ho4 (fun x => x)); have HK4 := Lib.hid ((HK2.out.keep ho3 (fun x => x)).keep ho4 (fun x => x))
      clear ho3 ho4 hb4 HTG HO2 HN2 HK2 HRG HB1 HO1 HSM
      go_wp2_with (refine wpList_store_row rfl 22 (.tmp 13) (.tmp 40) rfl w3.heap.size (G.map byteV).toArray rfl rfl 22 (ocells 32 []).toArray (heap_alloc_last _ _) (size_a32 HGL.out) (by simp [ocells, HGL.out]) (oneCell_bytes _) ?_; rw [World.setRow_alloc_new]; generalize w3.alloc (.cells (G.map byteV).toArray 22) = w4 at *)
      refine wp_region_any (by kernel_rfl) ?_
      change wpAny _ _ _ _ 6 (Array.replicate 6 false) _ w4.drew
      have HO5 := Lib.hid (HO4.out.trans Only.drew); have HB5 := Lib.hid HB4.out.drew; have HN5 := Lib.hid HN4.out.drew; have HK5 := Lib.hid HK4.out.drew
      clear HO4 HB4 HN4 HK4
      generalize w4.drew = w5 at *
      have hta := (BytesAt.of_range (bs := Ta) (c := vd - (b.length - 32)) (by rw [HTL.out]; exact HC3.out) (rangeAt_here HR3.out HO5.out HG3.out)).mono (S' := fun k => k < w5.heap.size) (fun k hk => by rw [hk]; exact Nat.lt_of_lt_of_le HG3.out HO5.out.size)
      rw [HTL.out] at hta
      have HEQ := Lib.hid (equal_any (HB5.out.whole HGL.out) hta (by rw [HGL.out]; decide) (fun _ h => h))
      clear hta HC3 HR3 HG3
      refine wpAny_take (i := 0) (v := .slice (some ⟨w3.heap.size, 0, none⟩) 32 32) rfl (by kernel_rfl) (by kernel_rfl) (by kernel_rfl) (fun _ _ _ h => h) (Or.inl ⟨by rfl, fun w => by go_simp⟩) ?_
      simp only [Act.put, List.getElem_toArray, List.getElem_cons_zero, List.setIfInBounds_toArray, List.set_cons_zero, List.set_cons_succ]
      refine wpAny_take (i := 1) (v := .slice (some ad) b.length vd) rfl (by kernel_rfl) (by kernel_rfl) (by kernel_rfl) (fun _ _ _ h => h) (Or.inl ⟨by rfl, fun w => by go_simp⟩) ?_
      simp only [Act.put, List.getElem_toArray, List.getElem_cons_succ, List.getElem_cons_zero, List.setIfInBounds_toArray, List.set_cons_zero, List.set_cons_succ]
      refine wpAny_take (i := 2) (v := .int .i64 ((b.length : Int) - 32)) rfl (by kernel_rfl) (by kernel_rfl) (by kernel_rfl) (fun _ _ _ h => h) (Or.inl ⟨by rfl, fun w => by go_simp⟩) ?_
      simp only [Act.put, List.getElem_toArray, List.getElem_cons_succ, List.getElem_cons_zero, List.setIfInBounds_toArray, List.set_cons_zero, List.set_cons_succ]
      refine wpAny_take (i := 3) (v := .slice (some ⟨g3, o3, none⟩) 32 (vd - (b.length - 32))) rfl (by kernel_rfl) (by kernel_rfl) (by kernel_rfl) (fun _ _ _ h => h) (Or.inl ⟨by rfl, fun w => by go_simp⟩) ?_
      simp only [Act.put, List.getElem_toArray, List.getElem_cons_succ, List.getElem_cons_zero, List.setIfInBounds_toArray, List.set_cons_zero, List.set_cons_succ]
      refine wpAny_ready (rs := [4]) (by kernel_rfl) (by simp) (AllReady.cons rfl (fun J hJ => ?_) AllReady.nil)
      go_simp
      refine HEQ.out.mono ?_
      rintro e w6 ⟨rfl, m, rfl⟩
      refine hJ _ _ ?_
      clear hJ J HEQ
      have HO6 := Lib.hid (HO5.out.trans (Only.drewN m)); have HN6 := Lib.hid (HN5.out.drewN m); have HK6 := Lib.hid (HK5.out.drewN m)
      clear HO5 HB5 HN5 HK5
      generalize w5.drewN m = w6 at *
      clear hs1' hs2' hs3 hpt hcell1 hlt hwr
      by_cases hGT : G = Ta
      · rw [show sameB G Ta = true from decide_eq_true hGT]
        have HX := Lib.hid (xor0_any (Se.cipher_len HKL.out) HNL.out (HU.out.here HO6.out HS.out) HFW.out)
        have HCI := Lib.hid (HK6.out.mid (o := 0) (n := 32))
        have HTT : Hid (Se.Takes ks x ctx b) := HTK.out.2 hGT
        have HPN : Hid ((Se.plain ks b).length = Bo.length) := by unfold Hid; rw [HPL.out]; exact Ch.xor_length _ _ _ _
        clear hGT HK6 HTK HU HFW HC HS HF HT
        refine wpAny_take (i := 5) (v := .bool false) rfl (by kernel_rfl) (by kernel_rfl) (by kernel_rfl) (fun _ _ _ h => h) (Or.inl ⟨by rfl, fun w => by go_simp⟩) ?_
        simp only [Act.put, List.getElem_toArray, List.getElem_cons_succ, List.getElem_cons_zero, List.setIfInBounds_toArray, List.set_cons_zero, List.set_cons_succ]
        refine wpAny_done (by kernel_rfl) ?_ _
        go_wp2_with (first
          | (refine wpList_load_mid rfl 22 (.tmp 48) rfl w.heap.size 0 rfl ((Se.cipher ks).map byteV) _ HCI.out Tryd.underlying22 rfl (by simpa using size_a32 (Se.cipher_len HKL.out)) ?_)
          | (refine wpList_load_row rfl 64 (.tmp 11) rfl (w.heap.size + 1) rfl 64 (N.map byteV).toArray (0, 0) _ HN6.out.heap Tryd.underlying64 rfl (size_a12 HNL.out) ?_))
        refine HX.out.mono ?_
        rintro e w7 ⟨ra, rc, rfl, hr7⟩
        have HR7 := Lib.hid (Row.under HO6.out hr7)
        clear hr7 HX HCI
        go_wp2_with fail
        go_ret2
        refine .inl ⟨HTT.out, ra, rc, by rw [HPN.out]; rfl, ?_⟩
        rw [HPN.out, HPL.out]
        exact HR7.out
      · rw [show sameB G Ta = false from decide_eq_false hGT]
        have HTT : Hid (¬ Se.Takes ks x ctx b) := fun h => hGT (HTK.out.1 h)
        clear hGT HK6 HTK HU HFW HC HS HF HT HN6
        refine wpAny_take (i := 5) (v := .bool true) rfl (by kernel_rfl) (by kernel_rfl) (by kernel_rfl) (fun _ _ _ h => h) (Or.inl ⟨by rfl, fun w => by go_simp⟩) ?_
        simp only [Act.put, List.getElem_toArray, List.getElem_cons_succ, List.getElem_cons_zero, List.setIfInBounds_toArray, List.set_cons_zero, List.set_cons_succ]
        refine wpAny_done (by kernel_rfl) ?_ _
        go_wp2_with fail
        go_ret2
        exact .inr ⟨HTT.out, rfl, HO6.out⟩
    · have hne : ¬ (x.toNat : Int) = (kind.toNat : Int) := fun h => hb0 (u8_eq h)
      have HN : Hid (¬ Se.Takes ks kind ctx b) := fun h => by have := h.2.1; rw [hx] at this; exact hb0 (Option.some.inj this)
      clear ho1 hb1 hk hc hb hS hf ht hlen hcell hx hb0
      unfold digV
      rw [show byteV kind = .int .u8 (kind.toNat : Int) from rfl]
      go_enter Tryd.func20, Tryd.ntmps20
      go_wp2
      go_ret2
      exact .inr ⟨HN.out, rfl, HO1.out⟩

end Go.Proofs.YtgdnmbchhfbjoaaDoor
