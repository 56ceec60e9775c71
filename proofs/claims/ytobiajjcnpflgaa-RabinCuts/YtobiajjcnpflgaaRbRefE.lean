/- The document's Ends. Conditions: chunks of Max bytes at most. -/
import Derived.Test.YtobiajjcnpflgaaRbRefP
import Derived.Test.YtobiajjcnpflgaaRbCut
namespace Go.Proofs.Ytobiajjcnpflgaa
open Go.RowKit

theorem slice_l7 {a : Option Addr} {n cap m : Nat} (h : m ≤ n) (_ : n ≤ cap) : ∃ a', (m < cap → a' = a.map (·.add m)) ∧ ∀ w : World, (Instr.slice 25 (.slice a n cap) (some (.int .i64 (m : Int))) none none).run Try.prog w = .ok (.slice a' (n - m) (cap - m)) w := by
  refine ⟨if cap = m then a else a.map (·.add m), fun hlt => by rw [if_neg (by omega)], fun w => ?_⟩
  rw [run_slice_l (ht := by kernel_rfl) (h0 := by omega) (h1 := by omega)]
  have hsz : (sizeOf (Try.prog.elem 25)).run Try.prog w = .ok 1 w := by kernel_rfl
  rw [hsz]
  simp [Result.andThen, sliced]

theorem BytesAt.capLe {w : World} {S : Nat → Prop} {a : Option Addr} {n c : Nat} {bs : List UInt8} (h : BytesAt w S (.slice a n c) bs) : n ≤ c := by
  rcases h with ⟨e, rfl⟩ | ⟨ad, c', e, hcap, _⟩
  · obtain ⟨_, rfl, rfl⟩ := Value.slice.inj e; exact Nat.le_refl _
  · obtain ⟨_, rfl, rfl⟩ := Value.slice.inj e; exact hcap

theorem Rb.ends_two {c : Rb.Cfg} {l : List UInt8} (h1 : c.lo ≤ l.length) (h2 : l.length ≤ c.hi) (h3 : l.length ≠ c.hi) : c.ends l = decide (c.fw l &&& (2 ^ c.bits - 1) = 2 ^ c.bits - 1) := by
  rw [Rb.ends_mark h1 (by omega)]; rfl

set_option maxRecDepth 100000 in
set_option maxHeartbeats 1000000 in
theorem r7ends_any {c : Rb.Cfg} (hc : c.Ok) {w : World} {S : Nat → Prop} {v : Value} {l : List UInt8} (hv : BytesAt w S v l) (hS : ∀ k, S k → k < w.heap.size) (hl : l.length ≤ c.hi) :
    Calls Try.prog 31 #[setV c.set, v] w fun e w' => e = .returned (.bool (c.ends l)) ∧ Quiet w w' := by
  have hlohi := hc.lohi
  have hhi := hc.hi16
  have hwlo := hc.wlo
  have hw1 := hc.w1
  have hb20 := hc.b20
  have HB0 : Hid (Blk (w.alloc (.cells #[.int .u64 (c.p : Int), .int .i64 (c.win : Int), .int .i64 (c.lo : Int), .int .i64 (c.hi : Int), .int .i64 (c.bits : Int)] 24)) w.heap.size (setL c.set) 24) := Blk.new w (setL c.set) 24
  have HQ0 : Hid (Quiet w (w.alloc (.cells #[.int .u64 (c.p : Int), .int .i64 (c.win : Int), .int .i64 (c.lo : Int), .int .i64 (c.hi : Int), .int .i64 (c.bits : Int)] 24))) := Only.alloc _
  have HV := Lib.hid hv
  have HS := Lib.hid hS
  obtain ⟨va, vc, rfl⟩ := hv.shape
  have hvc := hv.capLe
  clear hv hS
  unfold setV Rb.Cfg.set
  simp only
  by_cases hlo : l.length < c.lo
  · rw [Rb.ends_less hlo]
    have h1 : (l.length : Int) < (c.lo : Int) := by omega
    clear HB0 hc
    go_enter Try.func31, Try.ntmps31
    go_wp2_with fail
    go_ret
    exact ⟨rfl, HQ0.out⟩
  have h1 : ¬ (l.length : Int) < (c.lo : Int) := by omega
  have hO64 := Rb.ones_lt hc
  have hB64 : (2 : Nat) ^ c.bits < 18446744073709551616 := by
    have h2 : (2 : Nat) ^ c.bits ≤ 2 ^ 63 := Nat.pow_le_pow_right (by omega) (by omega)
    omega
  have hB0 := Nat.two_pow_pos c.bits
  have hpi : (2 : Int) ^ c.bits = ((2 ^ c.bits : Nat) : Int) := (Int.natCast_pow 2 c.bits).symm
  by_cases hfull : l.length = c.hi
  · rw [Rb.ends_full hc hfull]
    have h2 : (l.length : Int) = (c.hi : Int) := by omega
    generalize (2 : Nat) ^ c.bits = B at *
    have hOi : (B : Int) - 1 = ((B - 1 : Nat) : Int) := by omega
    have wO : IntKind.u64.wrap (B : Int) = (B : Int) := wrap_u64_nat B hB64
    have wO1 : IntKind.u64.wrap ((B - 1 : Nat) : Int) = ((B - 1 : Nat) : Int) := wrap_u64_nat _ hO64
    obtain ⟨w0, hw0⟩ : ∃ w0, w.alloc (.cells #[.int .u64 (c.p : Int), .int .i64 (c.win : Int), .int .i64 (c.lo : Int), .int .i64 (c.hi : Int), .int .i64 (c.bits : Int)] 24) = w0 := ⟨_, rfl⟩
    rw [hw0] at HB0 HQ0
    have hSA : SetAt w0 w.heap.size c.set := SetAt.of_blk HB0.out
    have c2 : w0.cell? ⟨w.heap.size, 2, none⟩ = some (.int .i64 (c.lo : Int)) := hSA.c2
    have c3 : ∀ n, (w0.drewN n).cell? ⟨w.heap.size, 3, none⟩ = some (.int .i64 (c.hi : Int)) := fun _ => hSA.c3
    have c4 : w0.cell? ⟨w.heap.size, 4, none⟩ = some (.int .i64 (c.bits : Int)) := hSA.c4
    clear hc hSA
    go_enter Try.func31, Try.ntmps31
    go_wp2_with fail
    go_quiet (fail)
    go_wp2
    go_ret
    exact ⟨rfl, HQ0.out.trans (Only.drewN _)⟩
  · have HE := Lib.hid (Rb.ends_two (c := c) (l := l) (by omega) hl hfull)
    have h2 : ((l.length : Int) == (c.hi : Int)) = false := by simp; omega
    obtain ⟨sa, hsa, hsl⟩ := slice_l7 (a := va) (n := l.length) (cap := vc) (m := l.length - c.win) (by omega) hvc
    have hpi2 := HV.out.piece (l := l.length - c.win) (h := l.length) (by omega) (Nat.le_refl _) hsa
    rw [List.take_length] at hpi2
    have hF64 : c.fw l < 18446744073709551616 := Gf.rm_64 _ hc.p64
    have HP : Hid (∀ W, Quiet w W → Calls Try.prog 20 #[.int .u64 (c.p : Int), .slice sa (l.length - (l.length - c.win)) (vc - (l.length - c.win))] W fun e w' => e = .returned (.int .u64 (c.fw l : Int)) ∧ Quiet W w') := fun W hq => by
      have h1 := r7print_any hc.p64 hc.p0 (hpi2.only hq HS.out (fun _ _ x => x)) (fun k hk => Nat.lt_of_lt_of_le (HS.out k hk) hq.size) (by simp; omega)
      exact h1
    have ba := bits_and_u64 (c.fw l) (2 ^ c.bits - 1) hF64 hO64
    generalize (2 : Nat) ^ c.bits = B at *
    have hOi : (B : Int) - 1 = ((B - 1 : Nat) : Int) := by omega
    have wO : IntKind.u64.wrap (B : Int) = (B : Int) := wrap_u64_nat B hB64
    have wO1 : IntKind.u64.wrap ((B - 1 : Nat) : Int) = ((B - 1 : Nat) : Int) := wrap_u64_nat _ hO64
    have hni : (l.length : Int) - (c.win : Int) = ((l.length - c.win : Nat) : Int) := by omega
    have wo : IntKind.i64.wrap ((l.length - c.win : Nat) : Int) = ((l.length - c.win : Nat) : Int) := IntWalk.i64_in _ (by omega)
    generalize l.length - c.win = o at *
    generalize l.length - o = r at *
    generalize c.fw l &&& (B - 1) = M at *
    have heq : ((M : Int) == ((B - 1 : Nat) : Int)) = c.ends l := by
      rw [HE.out]
      by_cases h : M = B - 1
      · subst h; simp
      · have : ¬ (M : Int) = ((B - 1 : Nat) : Int) := by omega
        simp [h, this]
    have HEQ := Lib.hid heq
    clear heq
    obtain ⟨w0, hw0⟩ : ∃ w0, w.alloc (.cells #[.int .u64 (c.p : Int), .int .i64 (c.win : Int), .int .i64 (c.lo : Int), .int .i64 (c.hi : Int), .int .i64 (c.bits : Int)] 24) = w0 := ⟨_, rfl⟩
    rw [hw0] at HB0 HQ0
    have hSA : ∀ W, Only (fun _ => False) w0 W → SetAt W w.heap.size c.set := fun W ho => SetAt.of_blk (HB0.out.keep ho (fun x => x))
    have c0 : ∀ W, Only (fun _ => False) w0 W → W.cell? ⟨w.heap.size, 0, none⟩ = some (.int .u64 (c.p : Int)) := fun W ho => (hSA W ho).c0
    have c1 : ∀ W, Only (fun _ => False) w0 W → W.cell? ⟨w.heap.size, 1, none⟩ = some (.int .i64 (c.win : Int)) := fun W ho => (hSA W ho).c1
    have c2 : w0.cell? ⟨w.heap.size, 2, none⟩ = some (.int .i64 (c.lo : Int)) := (hSA w0 (Only.refl _ _)).c2
    have c3 : ∀ W, Only (fun _ => False) w0 W → W.cell? ⟨w.heap.size, 3, none⟩ = some (.int .i64 (c.hi : Int)) := fun W ho => (hSA W ho).c3
    have c4 : w0.cell? ⟨w.heap.size, 4, none⟩ = some (.int .i64 (c.bits : Int)) := (hSA w0 (Only.refl _ _)).c4
    clear hSA hc HE hsa hpi2
    generalize c.fw l = F at *
    go_enter Try.func31, Try.ntmps31
    go_wp2_with fail
    go_region_held3 (fun W => Only (fun _ => False) w0 W) (first | exact HQ5.out | exact Only.drew) (first | (go_at_call 20; refine (HP.out _ (HQ0.out.trans Only.drew)).mono ?_; rintro e w5 ⟨rfl, hq⟩; have HQ5 : Hid (Only (fun _ => False) w0 w5) := Only.trans Only.drew hq; clear hq))
    rw [HEQ.out]
    go_wp2_with fail
    go_ret
    exact ⟨rfl, HQ0.out.trans HQ5.out⟩

end Go.Proofs.Ytobiajjcnpflgaa
