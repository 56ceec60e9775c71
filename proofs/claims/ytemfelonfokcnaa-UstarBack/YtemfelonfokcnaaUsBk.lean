/- UstarBack: a block says its header again, and what is taken is encoded as it was. Conditions: texts and rows within the reach. -/
import Derived.Test.YtemfelonfokcnaaUsAlive
import Derived.Test.YtemfelonfokcnaaGApart
namespace Go.Proofs.Ytemfelonfokcnaa
open Go.RowKit

theorem two_apart {w : World} {u0 u1 : Value} {n : Nat} {x0 x1 : List Value} (h0 : w.ownsRow 0 5 1 u0 n x0) (h1 : w.ownsRow 0 5 1 u1 n x1) {s0 s1 : Nat} (l0 : ∀ g, u0.ownBlock = some g → s0 ≤ g ∧ g < s1) (l1 : ∀ g, u1.ownBlock = some g → s1 ≤ g) (h01 : s0 ≤ s1) (hn : n ≤ 1048576) :
    Calls Try.prog 24 #[.slice (some ⟨w.heap.size, 0, none⟩) 2 2] (w.alloc (.cells #[u0, u1] 25)) fun e w' => e = .returned (.bool true) ∧ Only (fun q => s0 ≤ q) (w.alloc (.cells #[u0, u1] 25)) w' := by
  have hG := Blk.new w [u0, u1] 25
  have hr : Rows1 (w.alloc (.cells #[u0, u1] 25)) w.heap.size [(u0, n), (u1, n)] 0 := by
    refine ⟨fun i hi => ?_, fun i hi => ?_, hG.lt⟩
    · match i, hi with
      | 0, _ => exact ⟨_, h0.alloc _, fun h => by omega⟩
      | 1, _ => exact ⟨_, h1.alloc _, fun h => by omega⟩
    · match i, hi with
      | 0, _ => exact hG.cell 0
      | 1, _ => exact hG.cell 1
  have hdis : Dis w.heap.size [(u0, n), (u1, n)] := by
    refine ⟨fun i j hi hj hne g e1 e2 => ?_, fun i hi h => ?_, fun i hi => ?_⟩
    · match i, j, hi, hj, hne, e1, e2 with
      | 0, 1, _, _, _, e1, e2 => have a := l0 g e1; have b := l1 g e2; omega
      | 1, 0, _, _, _, e1, e2 => have a := l0 g e2; have b := l1 g e1; omega
      | 0, 0, _, _, hne, _, _ => exact hne rfl
      | 1, 1, _, _, hne, _, _ => exact hne rfl
    · match i, hi, h with
      | 0, _, h => have a := (h0.lt _ h).2; omega
      | 1, _, h => have a := (h1.lt _ h).2; omega
    · match i, hi with
      | 0, _ => exact hn
      | 1, _ => exact hn
  refine (apart_any (c := 2) hr hdis (by simp)).mono ?_
  rintro e w' ⟨rfl, ho⟩
  refine ⟨rfl, ho.mono ?_⟩
  rintro q _ ⟨i, hi, h⟩
  match i, hi, h with
  | 0, _, h => exact (l0 q h).1
  | 1, _, h => have := l1 q h; omega

theorem own_of_blk {w : World} {g : Nat} {l : Us.By} (hb : Blk w g (l.map byteV) 5) (hl : l.length = 512) : w.ownsRow 0 5 1 (.slice (some ⟨g, 0, none⟩) 512 512) 512 (l.map byteV) := by
  refine ⟨by simp [hl], .inr ⟨g, 512, (l.map byteV).toArray, rfl, Nat.zero_le _, hb, Nat.le_refl _, ?_, by simp [hl], by simp [hl, List.take_of_length_le]⟩⟩
  unfold maxLen; omega

set_option maxRecDepth 100000 in
set_option maxHeartbeats 4000000 in
theorem back_any (h : Hd) (hp : h.path.size ≤ 140737488351232) {w : World} {S : Nat → Prop} {v : Value} {bs : List UInt8} (hv : BytesAt w S v bs) (hS : ∀ k, S k → k < w.heap.size) (hl : bs.length ≤ 140737488351232) :
    Calls Try.prog 5 #[hdV h, v] w fun e w' => e = .returned (.bool true) ∧ Only (fun q => w.heap.size ≤ q) w w' := by
  have HA := Lib.hid (fun W => alive10_any W)
  have HB0 := Lib.hid (Blk.new w (hdL h) 23)
  have HQ0 : Hid (Quiet w (w.alloc (.cells (hdL h).toArray 23))) := Only.alloc _
  obtain ⟨va, vc, rfl⟩ := hv.shape
  have HV : Hid (∀ W, Only (fun q => w.heap.size ≤ q) w W → BytesAt W S (.slice va bs.length vc) bs) := fun W ho => hv.only ho hS (fun k hk e => by have := hS k hk; omega)
  have HD2 : Hid (∀ W, Only (fun q => w.heap.size ≤ q) w W → Calls Try.prog 21 #[.slice va bs.length vc] W fun e w' => e = .returned (.tuple #[hdV (Us.decH bs), errV (Us.decE bs)]) ∧ Quiet W w') := fun W ho =>
    decode_any (HV.out W ho) (fun k hk => Nat.lt_of_lt_of_le (hS k hk) ho.size) hl
  have HT : Hid (∀ W, Quiet w W → Only (fun q => w.heap.size ≤ q) w W) := fun W ho => ho.mono (fun _ _ x => x.elim)
  have hq0 := fun w => eql_hd hd0 hd0 w
  rw [hdEq_self] at hq0
  change ∀ w : World, (binOp .eql 23 (.agg #[.string ⟨#[]⟩, .int .i64 0, .int .i64 0, .int .i64 0, .int .i64 0, .int .i64 0, .int .u8 0, .string ⟨#[]⟩]) (.agg #[.string ⟨#[]⟩, .int .i64 0, .int .i64 0, .int .i64 0, .int .i64 0, .int .i64 0, .int .u8 0, .string ⟨#[]⟩])).run Try.prog w = .ok (.bool true) w at hq0
  have n14 := neq_err14; have n0 := neq_err0; have e14 : ∀ w : World, (binOp .eql 27 (.iface 47 (.int .i64 14)) (.iface 47 (.int .i64 14))).run Try.prog w = .ok (.bool true) w := fun w => (by kernel_rfl)
  have e0 : ∀ w : World, (binOp .eql 27 .nilIface .nilIface).run Try.prog w = .ok (.bool true) w := fun w => (by kernel_rfl)
  have e1 : ∀ w : World, (binOp .eql 27 (.iface 47 (.int .i64 14)) .nilIface).run Try.prog w = .ok (.bool false) w := fun w => (by kernel_rfl)
  clear hS hl hv
  have hdcase : (Us.decH bs = hd0 ∧ Us.decE bs = 14) ∨ ∃ G, Us.decH bs = G ∧ Us.decE bs = 0 ∧ Us.fits G = true ∧ Us.enc G = bs := by
    cases hd : Us.dec bs with
    | none => exact .inl (Us.dec_no hd)
    | some G =>
      obtain ⟨e1, e2⟩ := Us.dec_yes hd
      exact .inr ⟨G, e1, e2, (Us.dec_some.1 hd).1, (Us.dec_some.1 hd).2⟩
  obtain ⟨path, mode, uid, gid, size, time, type, link⟩ := h
  cases hf : Us.fits ⟨path, mode, uid, gid, size, time, type, link⟩ with
  | false =>
    have HE := Lib.hid (fun W => encode_no _ hp hf W)
    rw [errV_pos (by decide)] at HE
    clear hp hf
    rcases hdcase with ⟨q1, q2⟩ | ⟨G, q1, q2, q3, q4⟩
    · rw [q1, q2, errV_pos (by decide)] at HD2
      change Hid (∀ W, _ → Calls _ _ _ W fun e w' => e = .returned (.tuple #[.agg #[.string ⟨#[]⟩, .int .i64 0, .int .i64 0, .int .i64 0, .int .i64 0, .int .i64 0, .int .u8 0, .string ⟨#[]⟩], .iface 47 (.int .i64 14)]) ∧ _) at HD2
      clear q1 q2
      unfold hdV at HE ⊢
      go_enter Try.func5, Try.ntmps5
      go_wp2_with (first
        | (go_at_call 21; (with_reducible refine (HD2.out _ HW.out).mono ?_); rintro e w6 ⟨rfl, hq⟩; have HF := Lib.hid (HW.out.trans ((hq.trans (Only.alloc (.cells #[.string ⟨#[]⟩, .int .i64 0, .int .i64 0, .int .i64 0, .int .i64 0, .int .i64 0, .int .u8 0, .string ⟨#[]⟩] 23))).mono (fun _ _ x => x.elim))); obtain ⟨g0, g1, g2, g3, g4, g5, g6, g7, gz⟩ := cells8 (Blk.new w6 [.string ⟨#[]⟩, .int .i64 0, .int .i64 0, .int .i64 0, .int .i64 0, .int .i64 0, .int .u8 0, .string ⟨#[]⟩] 23); clear hq)
        | (go_at_call 9; (with_reducible refine (HE.out _).mono ?_); rintro e w2 ⟨rfl, hq⟩; have HW := Lib.hid (HT.out _ (HQ1.out.trans hq)); clear hq)
        | (go_at_call 8; refine (HA.out _).mono ?_; rintro e w1 ⟨rfl, hq⟩; have HB1 := Lib.hid (HB0.out.keep hq (fun x => x)); have HQ1 := Lib.hid (HQ0.out.trans hq); obtain ⟨c0, c1, c2, c3, c4, c5, c6, c7, fz⟩ := hd_cells HB1.out; clear hq))
      go_ret
      exact ⟨rfl, HF.out⟩
    · rw [q1, q2, errV_zero] at HD2
      have hgp : G.path.size ≤ 140737488351232 := by rw [← Us.says_P ⟨q3, q4⟩]; exact Us.seemP_path bs
      have HEG := Lib.hid (fun W => encode_ok G hgp q3 W)
      have hlg := Us.enc_len q3
      rw [q4] at HEG hlg
      rw [hlg] at HD2 HV ⊢
      have HLG := Lib.hid hlg
      clear q1 q2 q3 q4 hgp hlg
      obtain ⟨gp, gm, gu, gg, gs, gt, gy, gl⟩ := G
      unfold hdV at HE HD2 HEG ⊢
      go_enter Try.func5, Try.ntmps5
      go_wp2_with (first
        | (go_at_call 21; (with_reducible refine (HD2.out _ HW.out).mono ?_); rintro e w6 ⟨rfl, hq⟩; have HW6 := Lib.hid (HW.out.trans ((hq.trans (Only.alloc (.cells #[.string gp, .int .i64 gm, .int .i64 gu, .int .i64 gg, .int .i64 gs, .int .i64 gt, .int .u8 (gy.toNat : Int), .string gl] 23))).mono (fun _ _ x => x.elim))); obtain ⟨g0, g1, g2, g3, g4, g5, g6, g7, gz⟩ := cells8 (Blk.new w6 [.string gp, .int .i64 gm, .int .i64 gu, .int .i64 gg, .int .i64 gs, .int .i64 gt, .int .u8 (gy.toNat : Int), .string gl] 23); clear hq)
        | (go_at_call 9; (with_reducible refine (HEG.out _).mono ?_); rintro e w7 ⟨gz', rfl, hb, hg, hq⟩; have HF := Lib.hid (HW6.out.trans (hq.mono (fun _ _ x => x.elim))); have t1 := (blk_row hb HLG.out).text; have t2 := (HV.out _ HF.out).text; clear hq hb hg)
        | (go_at_call 9; (with_reducible refine (HE.out _).mono ?_); rintro e w2 ⟨rfl, hq⟩; have HW := Lib.hid (HT.out _ (HQ1.out.trans hq)); clear hq)
        | (go_at_call 8; refine (HA.out _).mono ?_; rintro e w1 ⟨rfl, hq⟩; have HB1 := Lib.hid (HB0.out.keep hq (fun x => x)); have HQ1 := Lib.hid (HQ0.out.trans hq); obtain ⟨c0, c1, c2, c3, c4, c5, c6, c7, fz⟩ := hd_cells HB1.out; clear hq))
      go_ret
      exact ⟨rfl, HF.out⟩
  | true =>
    have HE := Lib.hid (fun W => encode_ok _ hp hf W)
    have HL := Lib.hid (Us.enc_len hf)
    have HDX := Lib.hid (Us.dec_yes (Us.dec_some.2 ⟨hf, rfl⟩))
    have hqh := fun w => neq_hd ⟨path, mode, uid, gid, size, time, type, link⟩ ⟨path, mode, uid, gid, size, time, type, link⟩ w
    rw [hdEq_self] at hqh
    generalize Us.enc ⟨path, mode, uid, gid, size, time, type, link⟩ = E at *
    clear hp hf
    rcases hdcase with ⟨q1, q2⟩ | ⟨G, q1, q2, q3, q4⟩
    · rw [q1, q2, errV_pos (by decide)] at HD2
      change Hid (∀ W, _ → Calls _ _ _ W fun e w' => e = .returned (.tuple #[.agg #[.string ⟨#[]⟩, .int .i64 0, .int .i64 0, .int .i64 0, .int .i64 0, .int .i64 0, .int .u8 0, .string ⟨#[]⟩], .iface 47 (.int .i64 14)]) ∧ _) at HD2
      clear q1 q2
      unfold hdV at HE hqh ⊢
      go_enter Try.func5, Try.ntmps5
      go_wp2_with (first
        | (go_at_call 21; (with_reducible refine (HD2.out _ HW.out).mono ?_); rintro e w6 ⟨rfl, hq⟩; have HF := Lib.hid (HW.out.trans ((hq.trans (Only.alloc (.cells #[.string ⟨#[]⟩, .int .i64 0, .int .i64 0, .int .i64 0, .int .i64 0, .int .i64 0, .int .u8 0, .string ⟨#[]⟩] 23))).mono (fun _ _ x => x.elim))); obtain ⟨g0, g1, g2, g3, g4, g5, g6, g7, gz⟩ := cells8 (Blk.new w6 [.string ⟨#[]⟩, .int .i64 0, .int .i64 0, .int .i64 0, .int .i64 0, .int .i64 0, .int .u8 0, .string ⟨#[]⟩] 23); clear hq)
        | (go_at_call 21; (with_reducible refine DX.out.mono ?_); rintro e w3 ⟨rfl, hq⟩; have HQ3 := Lib.hid ((HQ2.out.trans hq).trans (Only.alloc (.cells #[.string path, .int .i64 mode, .int .i64 uid, .int .i64 gid, .int .i64 size, .int .i64 time, .int .u8 (type.toNat : Int), .string link] 23))); have HK3 := Lib.hid ((HK2.out.keep hq (fun x => x)).alloc (.cells #[.string path, .int .i64 mode, .int .i64 uid, .int .i64 gid, .int .i64 size, .int .i64 time, .int .u8 (type.toNat : Int), .string link] 23)); have HB3 := Lib.hid ((HB2.out.keep hq (fun x => x)).alloc (.cells #[.string path, .int .i64 mode, .int .i64 uid, .int .i64 gid, .int .i64 size, .int .i64 time, .int .u8 (type.toNat : Int), .string link] 23)); obtain ⟨d0, d1, d2, d3, d4, d5, d6, d7, dz⟩ := hd_cells HB3.out; obtain ⟨f0, f1, f2, f3, f4, f5, f6, f7, ffz⟩ := cells8 (Blk.new w3 [.string path, .int .i64 mode, .int .i64 uid, .int .i64 gid, .int .i64 size, .int .i64 time, .int .u8 (type.toNat : Int), .string link] 23); have HS3 : Hid (gx < (w3.alloc (.cells #[.string path, .int .i64 mode, .int .i64 uid, .int .i64 gid, .int .i64 size, .int .i64 time, .int .u8 (type.toNat : Int), .string link] 23)).heap.size) := HK3.out.lt; clear hq)
        | (go_at_call 24; (with_reducible refine AP.out.mono ?_); rintro e w5 ⟨rfl, hq⟩; have HW := Lib.hid ((HT.out _ (HQ4.out.trans (Only.alloc _))).trans (hq.mono (fun q _ e => by (have h1 := HX0.out; have h2 : gx ≤ q := e; omega)))); clear hq)
        | (go_at_call 9; (with_reducible refine (HE.out _).mono ?_); rintro e w4 ⟨gyb, rfl, hb, hg, hq⟩; have hs3 := HS3.out; have HQ4 := Lib.hid (HQ3.out.trans hq); have AP := Lib.hid (two_apart (own_of_blk (HK3.out.keep hq (fun x => x)) HL.out) (own_of_blk hb HL.out) (s0 := gx) (s1 := gx + 1) (fun g' e' => by (have e2 : gx = g' := Option.some.inj e'; omega)) (fun g' e' => by (have e2 : gyb = g' := Option.some.inj e'; omega)) (Nat.le_succ _) (by decide)); clear hq hb hg hs3)
        | (go_at_call 9; (with_reducible refine (HE.out _).mono ?_); rintro e w2 ⟨gx, rfl, hb, hg, hq⟩; have HQ2 := Lib.hid (HQ1.out.trans hq); have HX0 : Hid (w.heap.size ≤ gx) := Nat.le_trans HQ1.out.size hg; have HK2 := Lib.hid hb; have HB2 := Lib.hid (HB1.out.keep hq (fun x => x)); have DX := Lib.hid (decode_any (w := w2) (blk_row hb HL.out) (fun k hk => by (rw [hk]; exact hb.lt)) (by (rw [HL.out]; decide))); rw [HDX.out.1, HDX.out.2, errV_zero] at DX; change Hid (Calls _ _ _ _ fun e w' => e = .returned (.tuple #[.agg #[.string path, .int .i64 mode, .int .i64 uid, .int .i64 gid, .int .i64 size, .int .i64 time, .int .u8 (type.toNat : Int), .string link], .nilIface]) ∧ _) at DX; clear hq hb hg)
        | (go_at_call 8; refine (HA.out _).mono ?_; rintro e w1 ⟨rfl, hq⟩; have HB1 := Lib.hid (HB0.out.keep hq (fun x => x)); have HQ1 := Lib.hid (HQ0.out.trans hq); obtain ⟨c0, c1, c2, c3, c4, c5, c6, c7, fz⟩ := hd_cells HB1.out; clear hq))
      go_ret
      exact ⟨rfl, HF.out⟩
    · rw [q1, q2, errV_zero] at HD2
      have hgp : G.path.size ≤ 140737488351232 := by rw [← Us.says_P ⟨q3, q4⟩]; exact Us.seemP_path bs
      have HEG := Lib.hid (fun W => encode_ok G hgp q3 W)
      have hlg := Us.enc_len q3
      rw [q4] at HEG hlg
      rw [hlg] at HD2 HV ⊢
      have HLG := Lib.hid hlg
      clear q1 q2 q3 q4 hgp hlg
      obtain ⟨gp, gm, gu, gg, gs, gt, gy, gl⟩ := G
      unfold hdV at HE HD2 HEG hqh ⊢
      go_enter Try.func5, Try.ntmps5
      go_wp2_with (first
        | (go_at_call 21; (with_reducible refine (HD2.out _ HW.out).mono ?_); rintro e w6 ⟨rfl, hq⟩; have HW6 := Lib.hid (HW.out.trans ((hq.trans (Only.alloc (.cells #[.string gp, .int .i64 gm, .int .i64 gu, .int .i64 gg, .int .i64 gs, .int .i64 gt, .int .u8 (gy.toNat : Int), .string gl] 23))).mono (fun _ _ x => x.elim))); obtain ⟨g0, g1, g2, g3, g4, g5, g6, g7, gz⟩ := cells8 (Blk.new w6 [.string gp, .int .i64 gm, .int .i64 gu, .int .i64 gg, .int .i64 gs, .int .i64 gt, .int .u8 (gy.toNat : Int), .string gl] 23); clear hq)
        | (go_at_call 9; (with_reducible refine (HEG.out _).mono ?_); rintro e w7 ⟨gz', rfl, hb, hg, hq⟩; have HF := Lib.hid (HW6.out.trans (hq.mono (fun _ _ x => x.elim))); have t1 := (blk_row hb HLG.out).text; have t2 := (HV.out _ HF.out).text; clear hq hb hg)
        | (go_at_call 21; (with_reducible refine DX.out.mono ?_); rintro e w3 ⟨rfl, hq⟩; have HQ3 := Lib.hid ((HQ2.out.trans hq).trans (Only.alloc (.cells #[.string path, .int .i64 mode, .int .i64 uid, .int .i64 gid, .int .i64 size, .int .i64 time, .int .u8 (type.toNat : Int), .string link] 23))); have HK3 := Lib.hid ((HK2.out.keep hq (fun x => x)).alloc (.cells #[.string path, .int .i64 mode, .int .i64 uid, .int .i64 gid, .int .i64 size, .int .i64 time, .int .u8 (type.toNat : Int), .string link] 23)); have HB3 := Lib.hid ((HB2.out.keep hq (fun x => x)).alloc (.cells #[.string path, .int .i64 mode, .int .i64 uid, .int .i64 gid, .int .i64 size, .int .i64 time, .int .u8 (type.toNat : Int), .string link] 23)); obtain ⟨d0, d1, d2, d3, d4, d5, d6, d7, dz⟩ := hd_cells HB3.out; obtain ⟨f0, f1, f2, f3, f4, f5, f6, f7, ffz⟩ := cells8 (Blk.new w3 [.string path, .int .i64 mode, .int .i64 uid, .int .i64 gid, .int .i64 size, .int .i64 time, .int .u8 (type.toNat : Int), .string link] 23); have HS3 : Hid (gx < (w3.alloc (.cells #[.string path, .int .i64 mode, .int .i64 uid, .int .i64 gid, .int .i64 size, .int .i64 time, .int .u8 (type.toNat : Int), .string link] 23)).heap.size) := HK3.out.lt; clear hq)
        | (go_at_call 24; (with_reducible refine AP.out.mono ?_); rintro e w5 ⟨rfl, hq⟩; have HW := Lib.hid ((HT.out _ (HQ4.out.trans (Only.alloc _))).trans (hq.mono (fun q _ e => by (have h1 := HX0.out; have h2 : gx ≤ q := e; omega)))); clear hq)
        | (go_at_call 9; (with_reducible refine (HE.out _).mono ?_); rintro e w4 ⟨gyb, rfl, hb, hg, hq⟩; have hs3 := HS3.out; have HQ4 := Lib.hid (HQ3.out.trans hq); have AP := Lib.hid (two_apart (own_of_blk (HK3.out.keep hq (fun x => x)) HL.out) (own_of_blk hb HL.out) (s0 := gx) (s1 := gx + 1) (fun g' e' => by (have e2 : gx = g' := Option.some.inj e'; omega)) (fun g' e' => by (have e2 : gyb = g' := Option.some.inj e'; omega)) (Nat.le_succ _) (by decide)); clear hq hb hg hs3)
        | (go_at_call 9; (with_reducible refine (HE.out _).mono ?_); rintro e w2 ⟨gx, rfl, hb, hg, hq⟩; have HQ2 := Lib.hid (HQ1.out.trans hq); have HX0 : Hid (w.heap.size ≤ gx) := Nat.le_trans HQ1.out.size hg; have HK2 := Lib.hid hb; have HB2 := Lib.hid (HB1.out.keep hq (fun x => x)); have DX := Lib.hid (decode_any (w := w2) (blk_row hb HL.out) (fun k hk => by (rw [hk]; exact hb.lt)) (by (rw [HL.out]; decide))); rw [HDX.out.1, HDX.out.2, errV_zero] at DX; change Hid (Calls _ _ _ _ fun e w' => e = .returned (.tuple #[.agg #[.string path, .int .i64 mode, .int .i64 uid, .int .i64 gid, .int .i64 size, .int .i64 time, .int .u8 (type.toNat : Int), .string link], .nilIface]) ∧ _) at DX; clear hq hb hg)
        | (go_at_call 8; refine (HA.out _).mono ?_; rintro e w1 ⟨rfl, hq⟩; have HB1 := Lib.hid (HB0.out.keep hq (fun x => x)); have HQ1 := Lib.hid (HQ0.out.trans hq); obtain ⟨c0, c1, c2, c3, c4, c5, c6, c7, fz⟩ := hd_cells HB1.out; clear hq))
      go_ret
      exact ⟨rfl, HF.out⟩

theorem ustarBack_any (h : Hd) (hp : h.path.size ≤ 140737488351232) {w : World} {S : Nat → Prop} {v : Value} {bs : List UInt8} (hv : BytesAt w S v bs) (hS : ∀ k, S k → k < w.heap.size) (hl : bs.length ≤ 140737488351232) :
    Calls Try.prog 5 #[hdV h, v] w fun e w' => e = .returned (.bool true) ∧ Quiet w w' := by
  refine (back_any h hp hv hS hl).mono ?_
  rintro e w' ⟨he, ho⟩
  exact ⟨he, ho.mono (fun k hk e => by omega)⟩

end Go.Proofs.Ytemfelonfokcnaa
