/- UstarEncodes: each header that fits has the block that the chapter says, others are refused. Conditions: texts within the reach. -/
import Derived.Test.YtemfelonfokcnaaUsAlive
import Derived.Test.YtemfelonfokcnaaUsEncR
import Derived.Test.YtemfelonfokcnaaUsGrown
import Derived.Test.YtemfelonfokcnaaGNum
namespace Go.Proofs.Ytemfelonfokcnaa
open Go.RowKit Go.Sort

/-- What both Encodes answer. -/
structure EncAs (h : Hd) (ev : Value) (fv : Nat) (bs : Us.By) : Prop where
  prog : ∀ W, Calls Try.prog 9 #[hdV h] W fun e w' => ∃ bv, e = .returned (.tuple #[bv, ev]) ∧ BytesAt w' (fun k => k < w'.heap.size) bv bs ∧ Quiet W w'
  ref : ∀ W, Calls Try.prog 10 #[hdV h] W fun e w' => ∃ bv, e = .returned (.tuple #[bv, .int .i64 (fv : Int)]) ∧ BytesAt w' (fun k => k < w'.heap.size) bv bs ∧ Quiet W w'
  num : ∀ W, Calls Try.prog 12 #[ev] W fun e w' => e = .returned (.int .i64 (fv : Int)) ∧ Quiet W w'

theorem enc_as (h : Hd) (hp : h.path.size ≤ 140737488351232) (hk : h.link.size ≤ 140737488351232) : ∃ ev fv bs, EncAs h ev fv bs := by
  cases hf : Us.fits h with
  | false =>
    refine ⟨.iface 47 (.int .i64 14), 14, [], fun W => (encode_no h hp hf W).mono ?_, fun W => (r10encode_no h hp hk hf W).mono ?_, fun W => (num_err 14 W (by decide)).mono ?_⟩
    · rintro e w' ⟨rfl, hq⟩
      exact ⟨_, by rw [errV_pos (by decide)]; rfl, .inl ⟨rfl, rfl⟩, hq⟩
    · rintro e w' ⟨rfl, hq⟩
      exact ⟨_, rfl, .inl ⟨rfl, rfl⟩, hq⟩
    · rintro e w' ⟨rfl, rfl⟩
      exact ⟨rfl, Only.refl _ _⟩
  | true =>
    have hl := Us.enc_len hf
    refine ⟨.nilIface, 0, Us.enc h, fun W => (encode_ok h hp hf W).mono ?_, fun W => (r10encode_ok h hp hk hf W).mono ?_, fun W => (num_nil W).mono ?_⟩
    · rintro e w' ⟨g, rfl, hb, hg, hq⟩
      exact ⟨_, rfl, (blk_row hb hl).mono (fun k hk => by rw [hk]; exact hb.lt), hq⟩
    · rintro e w' ⟨a, c, rfl, hr⟩
      exact ⟨_, rfl, hr.bytes.mono (fun k hk => hk.2), hr.only⟩
    · rintro e w' ⟨rfl, rfl⟩
      exact ⟨rfl, Only.refl _ _⟩

theorem cell_kept {w w' : World} {a : Addr} {v : Value} (h : w.cell? a = some v) (ho : Quiet w w') : w'.cell? a = some v := by
  rw [World.cell?_of_block (w := w) (ho.block _ (World.block_lt_of_cell? w _ h) (fun x => x))]
  exact h

set_option maxRecDepth 100000 in
set_option maxHeartbeats 4000000 in
theorem ustarEncodes_any (h : Hd) (hp : h.path.size ≤ 140737488351232) (hk : h.link.size ≤ 140737488351232) {w : World} :
    Calls Try.prog 3 #[hdV h] w fun e w' => e = .returned (.bool true) ∧ Quiet w w' := by
  have HA := Lib.hid (fun W => alive10_any W)
  obtain ⟨ev, fv, bs, ea⟩ := enc_as h hp hk
  have HEP := Lib.hid ea.prog
  have HER := Lib.hid ea.ref
  have HRP := Lib.hid (fun W => r10path_any h.path hp W)
  have HC1 := Lib.hid (fun w => to_grown (fun W (_ : Quiet w W) => ea.num W))
  have HC2 := Lib.hid (fun w => to_grown (fun W (_ : Quiet w W) => fitsPath_any h.path hp W))
  have HC3 := Lib.hid (fun w => to_grown (fun W (_ : Quiet w W) => fitsLink_any h.link W))
  have HC4 := Lib.hid (fun w => to_grown (fun W (_ : Quiet w W) => (r10link_any h.link hk W).mono (fun e w' h => (⟨h.1, by rw [h.2]; exact Only.refl _ _⟩ : _ ∧ Quiet W w'))))
  have HC5 := Lib.hid (fun w => to_grown (fun W (_ : Quiet w W) => (fitsId_any h.uid W).mono (fun e w' h => (⟨h.1, by rw [h.2]; exact Only.refl _ _⟩ : _ ∧ Quiet W w'))))
  have HC6 := Lib.hid (fun w => to_grown (fun W (_ : Quiet w W) => (r10id_any h.uid W).mono (fun e w' h => (⟨h.1, by rw [h.2]; exact Only.refl _ _⟩ : _ ∧ Quiet W w'))))
  have HC7 := Lib.hid (fun w => to_grown (fun W (_ : Quiet w W) => (fitsTime_any h.time W).mono (fun e w' h => (⟨h.1, by rw [h.2]; exact Only.refl _ _⟩ : _ ∧ Quiet W w'))))
  have HC8 := Lib.hid (fun w => to_grown (fun W (_ : Quiet w W) => (r10time_any h.time W).mono (fun e w' h => (⟨h.1, by rw [h.2]; exact Only.refl _ _⟩ : _ ∧ Quiet W w'))))
  have HB0 := Lib.hid (Blk.new w (hdL h) 23)
  have HQ0 : Hid (Quiet w (w.alloc (.cells (hdL h).toArray 23))) := Only.alloc _
  clear hp hk ea
  obtain ⟨path, mode, uid, gid, size, time, type, link⟩ := h
  unfold hdV at HEP HER ⊢
  simp only at HRP HC2 HC3 HC4 HC5 HC6 HC7 HC8
  generalize Us.okPath path.data.toList = b1 at *
  generalize Us.okLink link.data.toList = b2 at *
  generalize Us.okId uid = b3 at *
  generalize Us.okTime time = b4 at *
  have hmix := mix_orders
  go_enter Try.func3, Try.ntmps3
  go_wp2_with (first
    | (go_at_call 8; refine (HA.out _).mono ?_; rintro e w1 ⟨rfl, hq⟩; have HB1 := Lib.hid (HB0.out.keep hq (fun x => x)); have HQ1 := Lib.hid (HQ0.out.trans hq); obtain ⟨c0, c1, c2, c3, c4, c5, c6, c7, fz⟩ := hd_cells HB1.out; clear hq)
    | (go_at_call 9; refine (HEP.out _).mono ?_; rintro e w2 ⟨bv, rfl, hb, hq⟩; have HB2 := Lib.hid (HB1.out.keep hq (fun x => x)); have HQ2 := Lib.hid (HQ1.out.trans hq); have HBV := Lib.hid hb; obtain ⟨d0, d1, d2, d3, d4, d5, d6, d7, dz⟩ := hd_cells HB2.out; clear hq hb)
    | (go_at_call 10; refine (HER.out _).mono ?_; rintro e w3 ⟨wv, rfl, hb, hq⟩; have HB3 := Lib.hid (HB2.out.keep hq (fun x => x)); have HQ3 := Lib.hid (HQ2.out.trans hq); have HBV3 := Lib.hid (HBV.out.here hq (fun _ h => h)); have HWV := Lib.hid hb; obtain ⟨g0, g1, g2, g3, g4, g5, g6, g7, gz⟩ := hd_cells HB3.out; clear hq hb)
    | (go_at_call 11; refine (HRP.out _).mono ?_; rintro e w4 ⟨pa, pb, rfl, _, hq⟩; have HB4 := Lib.hid (HB3.out.keep hq (fun x => x)); have HQ4 := Lib.hid (HQ3.out.trans hq); have HBV4 := Lib.hid (HBV3.out.here hq (fun _ h => h)); have HWV4 := Lib.hid (HWV.out.here hq (fun _ h => h)); clear hq))
  have t1 : ∀ q os, (convert 25 9 bv).run Try.prog (grow (w4.drewN q) os) = .ok (.string ⟨bs.toArray⟩) (grow (w4.drewN q) os) := fun q os => (HBV4.out.here (only_grow w4 q os) (fun _ h => h)).text
  have t2 : ∀ q os, (convert 25 9 wv).run Try.prog (grow (w4.drewN q) os) = .ok (.string ⟨bs.toArray⟩) (grow (w4.drewN q) os) := fun q os => (HWV4.out.here (only_grow w4 q os) (fun _ h => h)).text
  obtain ⟨y0, _, y2, _, _, y5, _, y7, _⟩ := hd_cells HB4.out
  have f0 : ∀ q os, (grow (w4.drewN q) os).cell? ⟨w.heap.size, 0, none⟩ = some (.string path) := fun q os => cell_kept y0 (only_grow w4 q os)
  have f2 : ∀ q os, (grow (w4.drewN q) os).cell? ⟨w.heap.size, 2, none⟩ = some (.int .i64 uid) := fun q os => cell_kept y2 (only_grow w4 q os)
  have f5 : ∀ q os, (grow (w4.drewN q) os).cell? ⟨w.heap.size, 5, none⟩ = some (.int .i64 time) := fun q os => cell_kept y5 (only_grow w4 q os)
  have f7 : ∀ q os, (grow (w4.drewN q) os).cell? ⟨w.heap.size, 7, none⟩ = some (.string link) := fun q os => cell_kept y7 (only_grow w4 q os)
  have K1 := Lib.hid (HC1.out w4); have K2 := Lib.hid (HC2.out w4); have K3 := Lib.hid (HC3.out w4); have K4 := Lib.hid (HC4.out w4)
  have K5 := Lib.hid (HC5.out w4); have K6 := Lib.hid (HC6.out w4); have K7 := Lib.hid (HC7.out w4); have K8 := Lib.hid (HC8.out w4)
  clear c0 c1 c2 c3 c4 c5 c6 c7 fz d0 d1 d2 d3 d4 d5 d6 d7 dz g0 g1 g2 g3 g4 g5 g6 g7 gz y0 y2 y5 y7 HC1 HC2 HC3 HC4 HC5 HC6 HC7 HC8
  go_quiet_grown (first
    | (go_at_call 12; exact K1.out _ _)
    | (go_at_call 13; exact K2.out _ _)
    | (go_at_call 14; exact K3.out _ _)
    | (go_at_call 15; exact K4.out _ _)
    | (go_at_call 16; exact K5.out _ _)
    | (go_at_call 17; exact K6.out _ _)
    | (go_at_call 18; exact K7.out _ _)
    | (go_at_call 19; exact K8.out _ _))
  go_wp2_with fail
  go_ret
  exact ⟨by simp, HQ4.out.trans (only_grow _ _ _)⟩

end Go.Proofs.Ytemfelonfokcnaa
