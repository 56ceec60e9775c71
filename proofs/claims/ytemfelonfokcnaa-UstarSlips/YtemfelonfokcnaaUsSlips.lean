/- UstarSlips: a block with one byte changed is refused, or says another header. Conditions: texts within the reach. -/
import Derived.Test.YtemfelonfokcnaaUsAlive
namespace Go.Proofs.Ytemfelonfokcnaa
open Go.RowKit

namespace Us
theorem xor_ne {x d : UInt8} (h : d ≠ 0) : x ^^^ d ≠ x := by
  intro e
  apply h
  have : x ^^^ (x ^^^ d) = x ^^^ x := by rw [e]
  rw [← UInt8.xor_assoc, UInt8.xor_self, UInt8.zero_xor] at this
  exact this
/-- What is said of a block with one byte changed. -/
theorem slip {h : Hd} (hf : fits h = true) {i : Nat} (hi : i < 512) {d : UInt8} (hd : d ≠ 0) :
    decE ((enc h).set i ((enc h).getD i 0 ^^^ d)) = 14 ∨ decE ((enc h).set i ((enc h).getD i 0 ^^^ d)) = 0 ∧ hdEq (decH ((enc h).set i ((enc h).getD i 0 ^^^ d))) h = false := by
  cases hdec : dec ((enc h).set i ((enc h).getD i 0 ^^^ d)) with
  | none => exact .inl (dec_no hdec).2
  | some g =>
    obtain ⟨e1, e2⟩ := dec_yes hdec
    refine .inr ⟨e2, ?_⟩
    rw [e1]
    apply hdEq_ne
    rintro rfl
    have hs := (dec_some.1 hdec).2
    have hl := enc_len hf
    have h1 := congrArg (fun l : By => l[i]?) hs
    simp only [List.getElem?_set_self (show i < (enc g).length by omega)] at h1
    rw [List.getElem?_eq_getElem (by omega)] at h1
    have h2 := Option.some.inj h1
    have h3 : (enc g).getD i 0 = (enc g)[i]'(by omega) := by simp [List.getD, show i < (enc g).length by omega]
    rw [h3] at h2
    exact xor_ne hd h2.symm
end Us

theorem eql_err14 : ∀ w : World, (binOp .eql 27 (.iface 47 (.int .i64 14)) (.iface 47 (.int .i64 14))).run Try.prog w = .ok (.bool true) w := fun w => by kernel_rfl
theorem eql_nil14 : ∀ w : World, (binOp .eql 27 .nilIface (.iface 47 (.int .i64 14))).run Try.prog w = .ok (.bool false) w := fun w => by kernel_rfl
theorem eql_err0 : ∀ w : World, (binOp .eql 27 .nilIface .nilIface).run Try.prog w = .ok (.bool true) w := fun w => by kernel_rfl

set_option maxRecDepth 100000 in
set_option maxHeartbeats 2000000 in
theorem ustarSlips_any (h : Hd) (hp : h.path.size ≤ 140737488351232) (a : Int) (d : UInt8) {w : World} :
    Calls Try.prog 6 #[hdV h, .int .i64 a, .int .u8 (d.toNat : Int)] w fun e w' => e = .returned (.bool true) ∧ Quiet w w' := by
  have HA := Lib.hid (fun W => alive10_any W)
  have HB0 := Lib.hid (Blk.new w (hdL h) 23)
  have HQ0 : Hid (Quiet w (w.alloc (.cells (hdL h).toArray 23))) := Only.alloc _
  obtain ⟨m, hm⟩ : ∃ m : Nat, IntKind.u64.wrap a = (m : Int) := ⟨(IntKind.u64.wrap a).toNat, by have := (IntKind.wrap_u64 a); omega⟩
  obtain ⟨H, hH⟩ : ∃ H, H = h := ⟨_, rfl⟩
  cases hf : Us.fits h with
  | false =>
    have HE := Lib.hid (fun W => encode_no h hp hf W)
    rw [errV_pos (by decide)] at HE
    have hne := neq_err14
    clear hp hf
    obtain ⟨path, mode, uid, gid, size, time, type, link⟩ := h
    unfold hdV at HE ⊢
    go_enter Try.func6, Try.ntmps6
    go_wp2_with (first
      | (go_at_call 8; refine (HA.out _).mono ?_; rintro e w1 ⟨rfl, hq⟩; have HB1 := Lib.hid (HB0.out.keep hq (fun x => x)); have HQ1 := Lib.hid (HQ0.out.trans hq); obtain ⟨c0, c1, c2, c3, c4, c5, c6, c7, fz⟩ := hd_cells HB1.out; clear hq)
      | (go_at_call 9; refine (HE.out _).mono ?_; rintro e w2 ⟨rfl, hq⟩; have HQ2 := Lib.hid (HQ1.out.trans hq); clear hq))
    go_ret
    exact ⟨rfl, HQ2.out⟩
  | true =>
    have HE := Lib.hid (fun W => encode_ok h hp hf W)
    have hne := neq_err0
    by_cases hd : d = 0
    · subst hd
      clear hp hf
      obtain ⟨path, mode, uid, gid, size, time, type, link⟩ := h
      unfold hdV at HE ⊢
      change Calls _ _ #[_, _, .int .u8 0] _ _
      go_enter Try.func6, Try.ntmps6
      go_wp2_with (first
        | (go_at_call 8; refine (HA.out _).mono ?_; rintro e w1 ⟨rfl, hq⟩; have HB1 := Lib.hid (HB0.out.keep hq (fun x => x)); have HQ1 := Lib.hid (HQ0.out.trans hq); obtain ⟨c0, c1, c2, c3, c4, c5, c6, c7, fz⟩ := hd_cells HB1.out; clear hq)
        | (go_at_call 9; refine (HE.out _).mono ?_; rintro e w2 ⟨g, rfl, hb, hg, hq⟩; have HQ2 := Lib.hid (HQ1.out.trans hq); clear hq hb hg))
      go_ret
      exact ⟨rfl, HQ2.out⟩
    · have hkl : m % 512 < 512 := Nat.mod_lt _ (by decide)
      have hx : (m : Int).tmod 512 = ((m % 512 : Nat) : Int) := by rw [Int.tmod_eq_emod_of_nonneg (by omega)]; omega
      have hslip := Us.slip hf hkl hd
      have HL := Lib.hid (Us.enc_len hf)
      have hd0 : d.toNat ≠ 0 := fun e => hd (by rw [← UInt8.toNat_inj]; exact e)
      clear hp hf hd
      obtain ⟨E, hE⟩ : ∃ E, Us.enc h = E := ⟨_, rfl⟩
      rw [hE] at HE HL hslip
      clear hE
      obtain ⟨k, hk⟩ : ∃ k, m % 512 = k := ⟨_, rfl⟩
      rw [hk] at hx hkl hslip
      have hxx := bits_xor_u8 (E.getD k 0) d
      obtain ⟨y, hy⟩ : ∃ y, E.getD k 0 = y := ⟨_, rfl⟩
      have HGET : Hid (E[k]? = some y) := by
        unfold Hid; rw [← hy, List.getElem?_eq_getElem (by rw [HL.out]; exact hkl)]; simp [List.getD, show k < E.length by rw [HL.out]; exact hkl]
      rw [hy] at hslip hxx
      have HD : Hid (∀ W, ∀ g, Blk W g ((E.set k (y ^^^ d)).map byteV) 5 → Calls Try.prog 21 #[.slice (some ⟨g, 0, none⟩) 512 512] W fun e w' => e = .returned (.tuple #[hdV (Us.decH (E.set k (y ^^^ d))), errV (Us.decE (E.set k (y ^^^ d)))]) ∧ Quiet W w') := fun W g hb =>
        decode_any (blk_row hb (by rw [List.length_set]; exact HL.out)) (fun q hq => by rw [hq]; exact hb.lt) (by rw [List.length_set, HL.out]; decide)
      clear hy hk
      have hput : ∀ W g, Blk W g (E.map byteV) 5 → Blk (W.setCell ⟨g, k, none⟩ (.int .u8 ((y ^^^ d).toNat : Int))) g ((E.set k (y ^^^ d)).map byteV) 5 := fun W g hb => by
        have := hb.set k (byteV (y ^^^ d))
        rw [← List.map_set] at this
        exact this
      have HPUT := Lib.hid hput
      obtain ⟨path, mode, uid, gid, size, time, type, link⟩ := h
      have hdi : ¬ ((d.toNat : Int) = 0) := by omega
      generalize E.set k (y ^^^ d) = L at *
      generalize (y ^^^ d).toNat = z at *
      generalize hG : Us.decH L = G at *
      generalize Us.decE L = er at *
      clear hput hH H hG
      obtain ⟨gp, gm, gu, gg, gs, gt, gy, gl⟩ := G
      have e14 := eql_err14; have e0 := eql_nil14; have e00 := eql_err0
      have k1 : (0 : Int) ≤ (k : Int) := by omega
      have k2 : (k : Int) < 512 := by omega
      rcases hslip with rfl | ⟨rfl, hne2⟩
      · rw [errV_pos (by decide)] at HD
        unfold hdV at HE HD ⊢
        go_enter Try.func6, Try.ntmps6
        go_wp2_with (first
          | (go_at_call 8; refine (HA.out _).mono ?_; rintro e w1 ⟨rfl, hq⟩; have HB1 := Lib.hid (HB0.out.keep hq (fun x => x)); have HQ1 := Lib.hid (HQ0.out.trans hq); obtain ⟨c0, c1, c2, c3, c4, c5, c6, c7, fz⟩ := hd_cells HB1.out; clear hq)
          | (go_at_call 9; refine (HE.out _).mono ?_; rintro e w2 ⟨g, rfl, hb, hg, hq⟩; have HQ2 := Lib.hid (HQ1.out.trans hq); have HLT : Hid (w.heap.size < g) := Nat.lt_of_lt_of_le HB1.out.lt hg; have HK2 := Lib.hid hb; have HB2 := Lib.hid (HB1.out.keep hq (fun x => x)); have cx : w2.cell? ⟨g, k, none⟩ = some (.int .u8 (y.toNat : Int)) := (by rw [hb.cell, List.getElem?_map, HGET.out]; rfl); have fx := hb.frozen k; clear hq hb hg)
          | (go_at_call 21; refine (HD.out _ _ (HPUT.out _ _ HK2.out)).mono ?_; rintro e w3 ⟨rfl, hq⟩; have HO3 : Hid (Quiet w w3) := HQ2.out.andThen ((Only.setCell ⟨g, k, none⟩ (.int .u8 (z : Int))).trans (hq.mono (fun _ _ x => x.elim))) (fun q hq' e => by have h1 := HLT.out; have e2 : q = g := e; omega); clear hq))
        go_ret
        exact ⟨rfl, HO3.out.trans (Only.alloc _)⟩
      · rw [errV_zero] at HD
        have hqq := fun w => neq_hd ⟨gp, gm, gu, gg, gs, gt, gy, gl⟩ ⟨path, mode, uid, gid, size, time, type, link⟩ w
        rw [hne2] at hqq
        clear hne2
        unfold hdV at HE HD hqq ⊢
        go_enter Try.func6, Try.ntmps6
        go_wp2_with (first
          | (go_at_call 8; refine (HA.out _).mono ?_; rintro e w1 ⟨rfl, hq⟩; have HB1 := Lib.hid (HB0.out.keep hq (fun x => x)); have HQ1 := Lib.hid (HQ0.out.trans hq); obtain ⟨c0, c1, c2, c3, c4, c5, c6, c7, fz⟩ := hd_cells HB1.out; clear hq)
          | (go_at_call 9; refine (HE.out _).mono ?_; rintro e w2 ⟨g, rfl, hb, hg, hq⟩; have HQ2 := Lib.hid (HQ1.out.trans hq); have HLT : Hid (w.heap.size < g) := Nat.lt_of_lt_of_le HB1.out.lt hg; have HK2 := Lib.hid hb; have HB2 := Lib.hid (HB1.out.keep hq (fun x => x)); have cx : w2.cell? ⟨g, k, none⟩ = some (.int .u8 (y.toNat : Int)) := (by rw [hb.cell, List.getElem?_map, HGET.out]; rfl); have fx := hb.frozen k; clear hq hb hg)
          | (go_at_call 21; refine (HD.out _ _ (HPUT.out _ _ HK2.out)).mono ?_; rintro e w3 ⟨rfl, hq⟩; have HO3 : Hid (Quiet w w3) := HQ2.out.andThen ((Only.setCell ⟨g, k, none⟩ (.int .u8 (z : Int))).trans (hq.mono (fun _ _ x => x.elim))) (fun q hq' e => by have h1 := HLT.out; have e2 : q = g := e; omega); obtain ⟨d0, d1, d2, d3, d4, d5, d6, d7, dz⟩ := hd_cells ((HB2.out.keep ((Only.setCell ⟨g, k, none⟩ (.int .u8 (z : Int))).trans (hq.mono (fun _ _ x => x.elim))) (fun e => by have h1 := HLT.out; have e2 : w.heap.size = g := e; omega)).alloc (.cells #[.string gp, .int .i64 gm, .int .i64 gu, .int .i64 gg, .int .i64 gs, .int .i64 gt, .int .u8 (gy.toNat : Int), .string gl] 23)); clear hq))
        go_ret
        exact ⟨rfl, HO3.out.trans (Only.alloc _)⟩

end Go.Proofs.Ytemfelonfokcnaa
