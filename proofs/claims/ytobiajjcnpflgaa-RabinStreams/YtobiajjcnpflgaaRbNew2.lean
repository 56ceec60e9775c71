/- rabin.New. Conditions: none. -/
import Derived.Test.YtobiajjcnpflgaaRbCheck
namespace Go.Proofs.Ytobiajjcnpflgaa
open Go.RowKit

def Rb.Cfg.set (c : Rb.Cfg) : Set7 := ⟨c.p, (c.win : Int), (c.lo : Int), (c.hi : Int), (c.bits : Int)⟩

namespace Rb
theorem good_cfg {s : Set7} (h64 : s.P < 18446744073709551616) (h : good s = true) : ∃ c : Cfg, c.Ok ∧ c.set = s := by
  rw [good_as] at h
  unfold ga gc at h
  simp only [Bool.and_eq_true, decide_eq_true_eq] at h
  obtain ⟨⟨h1, h2, h3, h4, h5, h6, h7⟩, ⟨h8, h9, h10⟩, h11⟩ := h
  obtain ⟨P, W, L, H, B⟩ := s
  simp only at *
  have h0 : P ≠ 0 := by rintro rfl; unfold dg at h1; rw [Gf.len_zero] at h1; omega
  have ht := (Gf.len_top h0 h64).2
  refine ⟨⟨P, Lib.bitLen P - 1, W.toNat, L.toNat, H.toNat, B.toNat⟩, ⟨Gf.irr_true.1 h11, ht, ?_, ?_, ?_, ?_, ?_, ?_, ?_, ?_, ?_⟩, ?_⟩
  all_goals unfold dg at h1 h2 h9
  all_goals first | (simp only; omega) | skip
  unfold Cfg.set
  simp only [Set7.mk.injEq, true_and]
  refine ⟨?_, ?_, ?_, ?_⟩ <;> omega
theorem Cfg.Ok.good {c : Cfg} (h : c.Ok) : Rb.good c.set = true := by
  rw [good_as]
  have e : dg c.p = (c.d : Int) := by unfold dg; rw [Gf.len_of h.top h.p64]; omega
  unfold ga gc Cfg.set
  simp only [Bool.and_eq_true, decide_eq_true_eq, e]
  have := h.d8; have := h.d55; have := h.w1; have := h.w64; have := h.wlo; have := h.lohi; have := h.hi16; have := h.bd; have := h.b20
  exact ⟨⟨by omega, by omega, by omega, by omega, by omega, by omega, by omega⟩, ⟨by omega, by omega, by omega⟩, Gf.irr_of h.irr⟩
end Rb

theorem step_built7 {ops : Array Oper} {o : Oper} {a : Act} {w : World} {K : Act → World → Prop} {Q : Exit → Act → World → Prop} {E : Prop} (hw : Region.wanted o (yielded ops a.tmps) = true) (t : TypeId) (parts : Array (Nat × Operand)) (ho : o.op = .build t parts)
    (ps : List (Nat × Value)) (hps : (parts.map fun (i, x) => (i, a.eval x)).toList = ps) (cells : Array Value) (hb : Try.prog.built t ps = some cells) (h : K (a.put o.dst (.agg cells)) w) : if Region.wanted o (yielded ops a.tmps) = true then Oper.wp Try.prog o a w K Q else E := by
  rw [if_pos hw]
  refine wp_build t parts ho ?_ ?_
  · rw [hps, hb]; rfl
  · rw [hps, hb]; exact h

theorem ccells_as (c : Rb.Cfg) : rcells c ++ [Value.int .i64 (c.lo : Int), Value.int .i64 (c.hi : Int), Value.int .u64 ((2 ^ c.bits - 1 : Nat) : Int), Value.slice none 0 0] = kcells c.p c.d 0 ++ cpost c (.slice none 0 0) := by
  unfold rcells cpost
  simp

set_option maxRecDepth 100000 in
set_option maxHeartbeats 1000000 in
theorem newBad_any {s : Set7} (h64 : s.P < 18446744073709551616) (hg : Rb.good s = false) (w : World) :
    Calls Try.prog 22 #[setV s] w fun e w' => e = .returned (.tuple #[.pointer none, .iface 43 (.int .i64 11)]) ∧ Quiet w w' := by
  have HC := Lib.hid (fun W => check_any s h64 W)
  rw [hg] at HC
  unfold setV at HC ⊢
  go_enter Try.func22, Try.ntmps22
  go_wp2_with fail
  refine (HC.out _).mono ?_
  rintro e w1 ⟨rfl, hq⟩
  have HQ := Lib.hid ((Only.alloc _).trans hq)
  clear hq
  unfold errV
  go_wp2_with fail
  go_ret2
  exact ⟨rfl, HQ.out⟩

set_option maxRecDepth 100000 in
set_option maxHeartbeats 1000000 in
theorem new7_any {c : Rb.Cfg} (hc : c.Ok) (w : World) :
    Calls Try.prog 22 #[setV c.set] w fun e w' => ∃ g, e = .returned (.tuple #[.pointer (some ⟨g, 0, none⟩), .nilIface]) ∧ w.heap.size ≤ g ∧ ChAt w' g c (c.fw []) (.slice none 0 0) ∧ Quiet w w' := by
  have HC := Lib.hid (fun W => check_any c.set hc.p64 W)
  rw [hc.good] at HC
  have HNR := Lib.hid (fun W => newRoller_any hc W)
  have HBU := Lib.hid (built_chunker (rcells c) (.int .i64 (c.lo : Int)) (.int .i64 (c.hi : Int)) (.int .u64 ((2 ^ c.bits - 1 : Nat) : Int)) (rcells_len c) rfl rfl rfl)
  have HCH : Hid (∀ w5 : World, ChAt (w5.alloc (.cells (rcells c ++ [Value.int .i64 (c.lo : Int), Value.int .i64 (c.hi : Int), Value.int .u64 ((2 ^ c.bits - 1 : Nat) : Int), Value.slice none 0 0]).toArray 78)) w5.heap.size c (c.fw []) (.slice none 0 0)) := fun w5 => by
    rw [hc.fw_nil]
    exact ⟨by rw [ccells_as]; exact Blk.new _ _ _, hc.top, hc.d8, by have := hc.d55; omega, Nat.two_pow_pos _, hc.p64⟩
  have hb20 := hc.b20
  have hO64 : (2 : Nat) ^ c.bits < 18446744073709551616 := by
    have h2 : (2 : Nat) ^ c.bits ≤ 2 ^ 63 := Nat.pow_le_pow_right (by omega) (by omega)
    omega
  have hO0 := Nat.two_pow_pos c.bits
  have hpi : (2 : Int) ^ c.bits = ((2 ^ c.bits : Nat) : Int) := (Int.natCast_pow 2 c.bits).symm
  unfold setV Rb.Cfg.set at HC
  unfold setV Rb.Cfg.set
  simp only at HC ⊢
  generalize (rcells c ++ [Value.int .i64 (c.lo : Int), Value.int .i64 (c.hi : Int), Value.int .u64 ((2 ^ c.bits - 1 : Nat) : Int), Value.slice none 0 0]).toArray = CC at *
  generalize (rcells c).toArray = RR at *
  generalize (2 : Nat) ^ c.bits = O at *
  have hOi : (O : Int) - 1 = ((O - 1 : Nat) : Int) := by omega
  have HB0 : Hid (Blk (w.alloc (.cells #[.int .u64 (c.p : Int), .int .i64 (c.win : Int), .int .i64 (c.lo : Int), .int .i64 (c.hi : Int), .int .i64 (c.bits : Int)] 24)) w.heap.size (setL c.set) 24) := Blk.new w (setL c.set) 24
  go_enter Try.func22, Try.ntmps22
  go_wp2_with fail
  refine (HC.out _).mono ?_
  rintro e w1 ⟨rfl, hq⟩
  have HQ := Lib.hid ((Only.alloc _).trans hq)
  have HB1 := Lib.hid (HB0.out.keep hq (fun x => x))
  clear hq
  unfold errV
  go_wp2_with fail
  have hS : ∀ W, Only (fun _ => False) w1 W → SetAt W w.heap.size c.set := fun W ho => SetAt.of_blk (HB1.out.keep ho (fun x => x))
  have c0 : ∀ W, Only (fun _ => False) w1 W → W.cell? ⟨w.heap.size, 0, none⟩ = some (.int .u64 (c.p : Int)) := fun W ho => (hS W ho).c0
  have c1 : ∀ W, Only (fun _ => False) w1 W → W.cell? ⟨w.heap.size, 1, none⟩ = some (.int .i64 (c.win : Int)) := fun W ho => (hS W ho).c1
  have c2 : ∀ W, Only (fun _ => False) w1 W → W.cell? ⟨w.heap.size, 2, none⟩ = some (.int .i64 (c.lo : Int)) := fun W ho => (hS W ho).c2
  have c3 : ∀ W, Only (fun _ => False) w1 W → W.cell? ⟨w.heap.size, 3, none⟩ = some (.int .i64 (c.hi : Int)) := fun W ho => (hS W ho).c3
  have c4 : ∀ W, Only (fun _ => False) w1 W → W.cell? ⟨w.heap.size, 4, none⟩ = some (.int .i64 (c.bits : Int)) := fun W ho => (hS W ho).c4
  have HD : Hid (Only (fun _ => False) w1 w1.drew) := Only.drew
  clear hS HB0
  have wO : IntKind.u64.wrap (O : Int) = (O : Int) := wrap_u64_nat O hO64
  have wO1 : IntKind.u64.wrap ((O - 1 : Nat) : Int) = ((O - 1 : Nat) : Int) := wrap_u64_nat _ (by omega)
  refine wp_region_held_drew (S := fun W => Only (fun _ => False) w1 W) (by kernel_rfl) Only.drew (fun hHeld => ?_)
  refine wpAnyH_take (i := 0) (v := .pointer (some ⟨w.heap.size, 0, none⟩)) rfl (by kernel_rfl) (by kernel_rfl) (by kernel_rfl) (fun _ _ _ h => h) (Or.inl ⟨by rfl, fun W hSw => by go_simp⟩) hHeld ?_
  try simp only [Act.put, List.getElem_toArray, List.getElem_cons_zero, List.setIfInBounds_toArray, List.set_cons_zero, List.set_cons_succ]
  refine wpAnyH_take (i := 1) (v := (.int .u64 (c.p : Int))) rfl (by kernel_rfl) (by kernel_rfl) (by kernel_rfl) (fun _ _ _ h => h) (Or.inl ⟨by rfl, fun W hSw => by have z := c0 W hSw; go_simp⟩) hHeld ?_
  try simp only [Act.put, List.getElem_toArray, List.getElem_cons_succ, List.getElem_cons_zero, List.setIfInBounds_toArray, List.set_cons_zero, List.set_cons_succ]
  refine wpAnyH_take (i := 2) (v := .pointer (some ⟨w.heap.size, 1, none⟩)) rfl (by kernel_rfl) (by kernel_rfl) (by kernel_rfl) (fun _ _ _ h => h) (Or.inl ⟨by rfl, fun W hSw => by go_simp⟩) hHeld ?_
  try simp only [Act.put, List.getElem_toArray, List.getElem_cons_succ, List.getElem_cons_zero, List.setIfInBounds_toArray, List.set_cons_zero, List.set_cons_succ]
  refine wpAnyH_take (i := 3) (v := (.int .i64 (c.win : Int))) rfl (by kernel_rfl) (by kernel_rfl) (by kernel_rfl) (fun _ _ _ h => h) (Or.inl ⟨by rfl, fun W hSw => by have z := c1 W hSw; go_simp⟩) hHeld ?_
  try simp only [Act.put, List.getElem_toArray, List.getElem_cons_succ, List.getElem_cons_zero, List.setIfInBounds_toArray, List.set_cons_zero, List.set_cons_succ]
  refine wpAnyH_take (i := 5) (v := .pointer (some ⟨w.heap.size, 2, none⟩)) rfl (by kernel_rfl) (by kernel_rfl) (by kernel_rfl) (fun _ _ _ h => h) (Or.inl ⟨by rfl, fun W hSw => by go_simp⟩) hHeld ?_
  try simp only [Act.put, List.getElem_toArray, List.getElem_cons_succ, List.getElem_cons_zero, List.setIfInBounds_toArray, List.set_cons_zero, List.set_cons_succ]
  refine wpAnyH_take (i := 6) (v := (.int .i64 (c.lo : Int))) rfl (by kernel_rfl) (by kernel_rfl) (by kernel_rfl) (fun _ _ _ h => h) (Or.inl ⟨by rfl, fun W hSw => by have z := c2 W hSw; go_simp⟩) hHeld ?_
  try simp only [Act.put, List.getElem_toArray, List.getElem_cons_succ, List.getElem_cons_zero, List.setIfInBounds_toArray, List.set_cons_zero, List.set_cons_succ]
  refine wpAnyH_take (i := 7) (v := .pointer (some ⟨w.heap.size, 3, none⟩)) rfl (by kernel_rfl) (by kernel_rfl) (by kernel_rfl) (fun _ _ _ h => h) (Or.inl ⟨by rfl, fun W hSw => by go_simp⟩) hHeld ?_
  try simp only [Act.put, List.getElem_toArray, List.getElem_cons_succ, List.getElem_cons_zero, List.setIfInBounds_toArray, List.set_cons_zero, List.set_cons_succ]
  refine wpAnyH_take (i := 8) (v := (.int .i64 (c.hi : Int))) rfl (by kernel_rfl) (by kernel_rfl) (by kernel_rfl) (fun _ _ _ h => h) (Or.inl ⟨by rfl, fun W hSw => by have z := c3 W hSw; go_simp⟩) hHeld ?_
  try simp only [Act.put, List.getElem_toArray, List.getElem_cons_succ, List.getElem_cons_zero, List.setIfInBounds_toArray, List.set_cons_zero, List.set_cons_succ]
  refine wpAnyH_take (i := 9) (v := .pointer (some ⟨w.heap.size, 4, none⟩)) rfl (by kernel_rfl) (by kernel_rfl) (by kernel_rfl) (fun _ _ _ h => h) (Or.inl ⟨by rfl, fun W hSw => by go_simp⟩) hHeld ?_
  try simp only [Act.put, List.getElem_toArray, List.getElem_cons_succ, List.getElem_cons_zero, List.setIfInBounds_toArray, List.set_cons_zero, List.set_cons_succ]
  refine wpAnyH_take (i := 10) (v := (.int .i64 (c.bits : Int))) rfl (by kernel_rfl) (by kernel_rfl) (by kernel_rfl) (fun _ _ _ h => h) (Or.inl ⟨by rfl, fun W hSw => by have z := c4 W hSw; go_simp⟩) hHeld ?_
  try simp only [Act.put, List.getElem_toArray, List.getElem_cons_succ, List.getElem_cons_zero, List.setIfInBounds_toArray, List.set_cons_zero, List.set_cons_succ]
  refine wpAnyH_take (i := 11) (v := .int .u64 (O : Int)) rfl (by kernel_rfl) (by kernel_rfl) (by kernel_rfl) (fun _ _ _ h => h) (Or.inl ⟨by rfl, fun W hSw => by go_simp⟩) hHeld ?_
  try simp only [Act.put, List.getElem_toArray, List.getElem_cons_succ, List.getElem_cons_zero, List.setIfInBounds_toArray, List.set_cons_zero, List.set_cons_succ]
  refine wpAnyH_take (i := 12) (v := .int .u64 ((O - 1 : Nat) : Int)) rfl (by kernel_rfl) (by kernel_rfl) (by kernel_rfl) (fun _ _ _ h => h) (Or.inl ⟨by rfl, fun W hSw => by go_simp⟩) hHeld ?_
  try simp only [Act.put, List.getElem_toArray, List.getElem_cons_succ, List.getElem_cons_zero, List.setIfInBounds_toArray, List.set_cons_zero, List.set_cons_succ]
  refine wpAnyH_ready (rs := [4]) (by kernel_rfl) (by simp) (AllReadyH.cons rfl (fun J hJ => ?_) AllReadyH.nil)
  go_simp
  refine (HNR.out _).mono ?_
  rintro e w5 ⟨rfl, hq⟩
  have HQ5 : Hid (Only (fun _ => False) w1 w5) := HD.out.trans hq
  clear hq
  refine hJ.out _ _ HQ5.out (fun hHeld => ?_)
  clear hJ J
  try simp only [Act.put, List.getElem_toArray, List.getElem_cons_succ, List.getElem_cons_zero, List.setIfInBounds_toArray, List.set_cons_zero, List.set_cons_succ]
  refine wpAnyH_ready (rs := [13]) (by kernel_rfl) (by simp) (AllReadyH.cons rfl (fun J hJ => ?_) AllReadyH.nil)
  refine step_built7 (by rfl) 78 _ rfl [(0, .agg RR), (1, .int .i64 (c.lo : Int)), (2, .int .i64 (c.hi : Int)), (3, .int .u64 ((O - 1 : Nat) : Int))] (by simp [go_sem]) _ HBU.out ?_
  refine hJ.out _ _ hHeld (fun hHeld => ?_)
  clear hJ J
  try simp only [Act.put, List.getElem_toArray, List.getElem_cons_succ, List.getElem_cons_zero, List.setIfInBounds_toArray, List.set_cons_zero, List.set_cons_succ]
  refine wpAnyH_ready (rs := [14]) (by kernel_rfl) (by simp) (AllReadyH.cons rfl (fun J hJ => ?_) AllReadyH.nil)
  go_simp
  have HQ6 : Hid (Only (fun _ => False) w1 (w5.alloc (.cells CC 78))) := HQ5.out.trans (Only.alloc _)
  refine hJ.out _ _ HQ6.out (fun hHeld => ?_)
  clear hJ J
  try simp only [Act.put, List.getElem_toArray, List.getElem_cons_succ, List.getElem_cons_zero, List.setIfInBounds_toArray, List.set_cons_zero, List.set_cons_succ]
  refine wpAnyH_ready (rs := [15]) (by kernel_rfl) (by simp) (AllReadyH.cons rfl (fun J hJ => ?_) AllReadyH.nil)
  go_simp
  refine hJ.out _ _ HQ6.out (fun hHeld => ?_)
  clear hJ J
  try simp only [Act.put, List.getElem_toArray, List.getElem_cons_succ, List.getElem_cons_zero, List.setIfInBounds_toArray, List.set_cons_zero, List.set_cons_succ]
  refine wpAnyH_ready (rs := [16]) (by kernel_rfl) (by simp) (AllReadyH.cons rfl (fun J hJ => ?_) AllReadyH.nil)
  go_simp
  refine hJ.out _ _ HQ6.out (fun hHeld => ?_)
  clear hJ J
  try simp only [Act.put, List.getElem_toArray, List.getElem_cons_succ, List.getElem_cons_zero, List.setIfInBounds_toArray, List.set_cons_zero, List.set_cons_succ]
  refine wpAnyH_done (by kernel_rfl) ?_ _
  go_wp2_with fail
  go_ret2
  exact ⟨_, rfl, (HQ.out.trans HQ5.out).size, HCH.out w5, HQ.out.trans HQ6.out⟩

end Go.Proofs.Ytobiajjcnpflgaa
