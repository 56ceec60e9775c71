/- The fixed fact of every statement of layer 10. Conditions: none. -/
import Derived.Test.YtemfelonfokcnaaUsEq
namespace Go.Proofs.Ytemfelonfokcnaa
open Go.RowKit

namespace Us
def exH : Hd := ⟨⟨#[97]⟩, 420, 0, 0, 0, 0, 48, ⟨#[]⟩⟩
theorem ex_fits : fits exH = true := by decide +kernel
theorem ex_mode : cut (enc exH) 100 8 = [48, 48, 48, 48, 54, 52, 52, 0] := by decide +kernel
theorem ex_sum : cut (enc exH) 148 8 = [48, 48, 55, 51, 51, 54, 0, 32] := by decide +kernel
theorem ex_dec : dec (enc exH) = some exH := dec_some.2 ⟨ex_fits, rfl⟩
end Us

theorem cells8 {w : World} {g : Nat} {a0 a1 a2 a3 a4 a5 a6 a7 : Value} {t : TypeId} (h : Blk w g [a0, a1, a2, a3, a4, a5, a6, a7] t) :
    w.cell? ⟨g, 0, none⟩ = some a0 ∧ w.cell? ⟨g, 1, none⟩ = some a1 ∧ w.cell? ⟨g, 2, none⟩ = some a2 ∧ w.cell? ⟨g, 3, none⟩ = some a3 ∧ w.cell? ⟨g, 4, none⟩ = some a4 ∧ w.cell? ⟨g, 5, none⟩ = some a5 ∧
      w.cell? ⟨g, 6, none⟩ = some a6 ∧ w.cell? ⟨g, 7, none⟩ = some a7 ∧ ∀ o, w.frozen? ⟨g, o, none⟩ = false :=
  ⟨h.cell 0, h.cell 1, h.cell 2, h.cell 3, h.cell 4, h.cell 5, h.cell 6, h.cell 7, fun o => h.frozen o⟩

theorem cut_text {w : World} {g o n : Nat} {l : Us.By} (hb : Blk w g (l.map byteV) 5) (hl : l.length = 512) (ho : o + n ≤ 512) :
    (convert 25 9 (.slice (some ⟨g, o, none⟩) n (512 - o))).run Try.prog w = .ok (.string (Us.str (Us.cut l o n))) w := by
  have hc : (Us.cut l o n).length = n := by unfold Us.cut; rw [List.length_take, List.length_drop]; omega
  have h : BytesAt w (fun k => k = g) (.slice (some ⟨g, o, none⟩) (Us.cut l o n).length (512 - o)) (Us.cut l o n) :=
    BytesAt.of_block (o := o) (c := 512 - o) hb.heap (by omega) (fun j x hx => by
      have hj := (List.getElem?_eq_some_iff.1 hx).1
      unfold Us.cut at hx
      rw [List.getElem?_take, if_pos (by omega), List.getElem?_drop] at hx
      rw [List.getElem?_map, hx]; rfl)
  rw [hc] at h
  exact h.text

set_option maxRecDepth 100000 in
set_option maxHeartbeats 2000000 in
theorem alive10_any (w : World) : Calls Try.prog 8 #[] w fun e w' => e = .returned (.bool true) ∧ Quiet w w' := by
  have HE := Lib.hid (fun W => encode_ok Us.exH (by decide) Us.ex_fits W)
  have HL := Lib.hid (Us.enc_len Us.ex_fits)
  have HD := Lib.hid (Us.dec_yes Us.ex_dec)
  have HM := Lib.hid Us.ex_mode
  have HS := Lib.hid Us.ex_sum
  obtain ⟨E, hE⟩ : ∃ E, Us.enc Us.exH = E := ⟨_, rfl⟩
  rw [hE] at HE HL HD HM HS
  clear hE
  have hq := fun w => eql_hd Us.exH Us.exH w
  rw [hdEq_self] at hq
  change Hid (∀ W, Calls _ _ #[.agg #[.string ⟨#[97]⟩, .int .i64 420, .int .i64 0, .int .i64 0, .int .i64 0, .int .i64 0, .int .u8 48, .string ⟨#[]⟩]] W _) at HE
  have HSL1 : Hid (∀ (g : Nat) (W : World), (Instr.slice 25 (.slice (some ⟨g, 0, none⟩) 512 512) (some (.int .i64 100)) (some (.int .i64 108)) none).run Try.prog W = .ok (.slice (some ⟨g, 100, none⟩) 8 412) W) := fun g W => by
    have := slice_oh (g := g) (o := 0) (n := 512) (c := 512) (l := 100) (h := 108) (by omega) (by omega) (by omega) W
    exact this
  have HSL2 : Hid (∀ (g : Nat) (W : World), (Instr.slice 25 (.slice (some ⟨g, 0, none⟩) 512 512) (some (.int .i64 148)) (some (.int .i64 156)) none).run Try.prog W = .ok (.slice (some ⟨g, 148, none⟩) 8 364) W) := fun g W => by
    have := slice_oh (g := g) (o := 0) (n := 512) (c := 512) (l := 148) (h := 156) (by omega) (by omega) (by omega) W
    exact this
  have HVX : Hid (hdV Us.exH = .agg #[.string ⟨#[97]⟩, .int .i64 420, .int .i64 0, .int .i64 0, .int .i64 0, .int .i64 0, .int .u8 48, .string ⟨#[]⟩]) := rfl
  have hne := neq_err0
  have heq : ∀ w : World, (binOp .eql 27 .nilIface .nilIface).run Try.prog w = .ok (.bool true) w := fun w => by kernel_rfl
  change ∀ w : World, (binOp .eql 23 (.agg #[.string ⟨#[97]⟩, .int .i64 420, .int .i64 0, .int .i64 0, .int .i64 0, .int .i64 0, .int .u8 48, .string ⟨#[]⟩]) (.agg #[.string ⟨#[97]⟩, .int .i64 420, .int .i64 0, .int .i64 0, .int .i64 0, .int .i64 0, .int .u8 48, .string ⟨#[]⟩])).run Try.prog w = .ok (.bool true) w at hq
  go_enter Try.func8, Try.ntmps8
  go_wp2_with (first
    | (go_at_call 9; refine (HE.out _).mono ?_; rintro e w1 ⟨g, rfl, hb, hg, hq1⟩; have HB1 := Lib.hid hb; have HQ1 := Lib.hid hq1; have HDC := Lib.hid (decode_any (w := w1) (blk_row hb HL.out) (fun k hk => by rw [hk]; exact hb.lt) (by rw [HL.out]; decide)); rw [HD.out.1, HD.out.2, HVX.out, errV_zero] at HDC; have s1 := HSL1.out g; have s2 := HSL2.out g; clear hb hg hq1)
    | (go_at_call 21; refine HDC.out.mono ?_; rintro e w2 ⟨rfl, hq2⟩; have HB2 := Lib.hid ((HB1.out.keep hq2 (fun x => x)).alloc (.cells #[.string ⟨#[97]⟩, .int .i64 420, .int .i64 0, .int .i64 0, .int .i64 0, .int .i64 0, .int .u8 48, .string ⟨#[]⟩] 23)); have HQ2 := Lib.hid ((HQ1.out.trans hq2).trans (Only.alloc (.cells #[.string ⟨#[97]⟩, .int .i64 420, .int .i64 0, .int .i64 0, .int .i64 0, .int .i64 0, .int .u8 48, .string ⟨#[]⟩] 23))); have t1 := cut_text HB2.out HL.out (o := 100) (n := 8) (by decide); have t2 := cut_text HB2.out HL.out (o := 148) (n := 8) (by decide); rw [HM.out] at t1; rw [HS.out] at t2; rw [show Us.str [48, 48, 48, 48, 54, 52, 52, 0] = ⟨#[48, 48, 48, 48, 54, 52, 52, 0]⟩ from rfl] at t1; rw [show Us.str [48, 48, 55, 51, 51, 54, 0, 32] = ⟨#[48, 48, 55, 51, 51, 54, 0, 32]⟩ from rfl] at t2; obtain ⟨c0, c1, c2, c3, c4, c5, c6, c7, fz⟩ := cells8 (Blk.new w2 [.string ⟨#[97]⟩, .int .i64 420, .int .i64 0, .int .i64 0, .int .i64 0, .int .i64 0, .int .u8 48, .string ⟨#[]⟩] 23); clear hq2))
  go_ret
  exact ⟨rfl, HQ2.out⟩

end Go.Proofs.Ytemfelonfokcnaa
