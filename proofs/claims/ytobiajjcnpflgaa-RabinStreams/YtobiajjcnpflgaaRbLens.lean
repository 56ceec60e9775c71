/- RabinLengths. Conditions: none. -/
import Derived.Test.YtobiajjcnpflgaaRbAlive
namespace Go.Proofs.Ytobiajjcnpflgaa
open Go.RowKit

theorem info_settings : ∀ s : Set7, (Value.agg #[.int .u64 (s.P : Int), .int .i64 s.W, .int .i64 s.L, .int .i64 s.H, .int .i64 s.B]) = setV s := fun _ => rfl

namespace Rb
theorem E_bounds {c : Cfg} (h : c.Ok) (bs : List UInt8) : ∀ i (hi' : i < (cuts c.ends bs).length), 1 ≤ (cuts c.ends bs)[i] ∧ (cuts c.ends bs)[i] ≤ c.hi ∧ (i < (cuts c.ends bs).length - 1 → c.lo ≤ (cuts c.ends bs)[i]) :=
  cuts_bounds (by have := h.w1; have := h.wlo; omega) ends_hi (fun _ hl => ends_full h hl) h.lohi bs
theorem cuts_len {c : Cfg} (bs : List UInt8) : (cuts c.ends bs).length ≤ bs.length + 1 := by
  have h1 := run_len c.ends bs []
  unfold cuts last
  split <;> simp <;> omega
theorem take_sum_next {l : List Nat} {i : Nat} (h : i < l.length) : (l.take (i + 1)).sum = (l.take i).sum + l[i] := by
  rw [List.take_succ_eq_append_getElem h, List.sum_append]; simp
end Rb

/-- A Cut of settings that are not good. -/
theorem IRow.get {w wr : World} {a : Option Addr} {n c i : Nat} {xs : List Nat} (h : IRow w wr (.slice a n c) xs) (hi : i < xs.length) : ∃ g, a = some ⟨g, 0, none⟩ ∧ wr.cell? ⟨g, i, none⟩ = some (.int .i64 (xs[i] : Int)) := by
  rcases h.row.2 with ⟨_, h0⟩ | ⟨q, cap, cur, e, _⟩
  · omega
  · obtain ⟨rfl, _, rfl⟩ := Value.slice.inj e
    exact ⟨q, rfl, by have := h.row.cells (g := q) rfl i (iV xs[i]) (by simp [hi]); rwa [add_lit, Nat.zero_add] at this⟩

set_option maxRecDepth 100000 in
set_option maxHeartbeats 1000000 in
theorem rabinLengths_any {w : World} {s : Set7} (h64 : s.P < 18446744073709551616) {S : Nat → Prop} {v : Value} {bs : List UInt8} (hv : BytesAt w S v bs) (hS : ∀ k, S k → k < w.heap.size) (hlen : bs.length ≤ 140737488351232) :
    Calls Try.prog 6 #[setV s, v] w fun e w' => e = .returned (.bool true) ∧ Quiet w w' := by
  have HA := Lib.hid alive7_any
  have HV := Lib.hid hv
  have HS := Lib.hid hS
  obtain ⟨va, vc, rfl⟩ := hv.shape
  have HB0 : Hid (Blk (w.alloc (.cells #[.int .u64 (s.P : Int), .int .i64 s.W, .int .i64 s.L, .int .i64 s.H, .int .i64 s.B] 24)) w.heap.size (setL s) 24) := Blk.new w (setL s) 24
  have HQ0 : Hid (Quiet w (w.alloc (.cells #[.int .u64 (s.P : Int), .int .i64 s.W, .int .i64 s.L, .int .i64 s.H, .int .i64 s.B] 24))) := Only.alloc _
  unfold setV
  have hg0 := Nat.lt_irrefl 0
  obtain ⟨g, hg⟩ : ∃ g, w.heap.size = g := ⟨_, rfl⟩
  rw [hg] at HB0
  have HG := Lib.hid hg
  clear hv hS
  by_cases hbig : bs.length > 65536
  · have hb : (bs.length : Int) > 65536 := by omega
    go_enter Try.func6, Try.ntmps6
    go_wp2_with fail
    refine (HA.out _).mono ?_
    rintro e w1 ⟨rfl, hq⟩
    have HQ1 := Lib.hid (HQ0.out.trans hq)
    clear hq
    go_wp2_with fail
    go_ret
    exact ⟨rfl, HQ1.out⟩
  have hb : ¬ (bs.length : Int) > 65536 := by omega
  have hb2 : bs.length ≤ 65536 := by omega
  rcases hgd : Rb.good s with _ | _
  · have HC := Lib.hid (fun v W => cutBad_any h64 hgd v W)
    have HK := Lib.hid (fun W => check_any s h64 W)
    rw [hgd] at HK
    unfold setV at HC HK
    go_enter Try.func6, Try.ntmps6
    go_wp2_with fail
    refine (HA.out _).mono ?_
    rintro e w1 ⟨rfl, hq⟩
    have HQ1 := Lib.hid (HQ0.out.trans hq)
    have HB1 := Lib.hid (HB0.out.keep hq (fun x => x))
    clear hq HQ0 HB0
    obtain ⟨c0, c1, c2, c3, c4⟩ := SetAt.of_blk HB1.out
    go_wp2_with fail
    refine (HC.out _ _).mono ?_
    rintro e w2 ⟨rfl, hq⟩
    have HQ2 := Lib.hid (HQ1.out.trans hq)
    have HB2 := Lib.hid (HB1.out.keep hq (fun x => x))
    clear hq c0 c1 c2 c3 c4
    obtain ⟨c0, c1, c2, c3, c4⟩ := SetAt.of_blk HB2.out
    go_wp2_with fail
    refine (HK.out _).mono ?_
    rintro e w3 ⟨rfl, hq⟩
    have HQ3 := Lib.hid (HQ2.out.trans hq)
    clear hq c0 c1 c2 c3 c4
    unfold errV
    go_wp2_with fail
    go_ret
    exact ⟨rfl, HQ3.out⟩
  · obtain ⟨c, hc, rfl⟩ := Rb.good_cfg h64 hgd
    have HC := Lib.hid (fun W v bs S hv hS hl => cut7_any hc (w := W) (S := S) (v := v) (bs := bs) hv hS hl)
    have HE := Lib.hid (Rb.E_bounds hc bs)
    have HSUM := Lib.hid (Rb.cuts_sum c.ends bs)
    have hn := Rb.cuts_len (c := c) bs
    have hhi := hc.hi16
    have hlohi := hc.lohi
    unfold setV at HC
    unfold Rb.Cfg.set at *
    simp only at HC
    go_enter Try.func6, Try.ntmps6
    go_wp2_with fail
    refine (HA.out _).mono ?_
    rintro e w1 ⟨rfl, hq⟩
    have HQ1 := Lib.hid (HQ0.out.trans hq)
    have HB1 := Lib.hid (HB0.out.keep hq (fun x => x))
    clear hq HQ0 HB0
    obtain ⟨c0, c1, c2, c3, c4⟩ := SetAt.of_blk HB1.out
    have HC1 := Lib.hid (HC.out w1 _ _ _ (HV.out.only HQ1.out HS.out (fun _ _ x => x)) (fun k hk => Nat.lt_of_lt_of_le (HS.out k hk) HQ1.out.size) (by omega))
    go_wp2_with fail
    refine HC1.out.mono ?_
    rintro e w2 ⟨ca, ck, rfl, hrow⟩
    have HB2 := Lib.hid (HB1.out.keep hrow.only (fun x => x))
    have HQ2 := Lib.hid (HQ1.out.trans hrow.only)
    have HROW := Lib.hid hrow
    clear hrow c0 c1 c2 c3 c4 HC1 HC hc
    generalize Rb.cuts c.ends bs = xs at *
    obtain ⟨c0, c1, c2, c3, c4⟩ := SetAt.of_blk HB2.out
    simp only at c2 c3
    clear c0 c1 c4
    go_wp2_with fail
    go_loop [7, 33] (fun sv iv => ∃ i : Nat, i ≤ xs.length ∧ iv = .int .i64 (i : Int) ∧ sv = .int .i64 ((xs.take i).sum : Int)) (fun _ iv => xs.length - (intOf iv).toNat)
    case atStart => exact ⟨0, Nat.zero_le _, rfl, rfl⟩
    case round =>
      obtain ⟨i, hi, rfl, rfl⟩ := hrel
      by_cases hlt : i < xs.length
      · obtain ⟨q, rfl, hcell⟩ := HROW.out.get hlt
        obtain ⟨b1, b2, b3⟩ := HE.out i hlt
        have HN := Lib.hid (Rb.take_sum_next hlt)
        have hle := Rb.take_sum_le xs (i + 1)
        rw [HN.out, HSUM.out] at hle
        generalize xs[i] = x at *
        obtain ⟨y, hy⟩ : ∃ y, (xs.take i).sum = y := ⟨_, rfl⟩
        rw [hy] at HN hle
        rw [hy]
        clear hy
        have pz : 0 ≤ (i : Int) := by omega
        have mz : (i : Int) < (xs.length : Int) := by omega
        have n1 : ¬ (x : Int) < 1 := by omega
        have n2 : ¬ (x : Int) > (c.hi : Int) := by omega
        clear b1 b2
        by_cases hx : (x : Int) < (c.lo : Int)
        · have n3 : ¬ (i : Int) < (xs.length : Int) - 1 := by
            intro h
            have := b3 (by omega)
            omega
          clear b3
          go_wp2_with fail
          go_round
          case rel => exact ⟨i + 1, by omega, by go_num, by rw [HN.out]; go_num⟩
          case measure => simp [intOf]; omega
        · clear b3
          go_wp2_with fail
          go_round
          case rel => exact ⟨i + 1, by omega, by go_num, by rw [HN.out]; go_num⟩
          case measure => simp [intOf]; omega
      · obtain rfl : i = xs.length := by omega
        rw [List.take_length, HSUM.out]
        go_wp2_with fail
        go_ret
        exact ⟨rfl, HQ2.out⟩

end Go.Proofs.Ytobiajjcnpflgaa
