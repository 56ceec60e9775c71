/- RabinCuts. Conditions: rows within the reach. -/
import Derived.Test.YtobiajjcnpflgaaRbRefC
import Derived.Test.YtobiajjcnpflgaaRbLens
import Derived.Test.YtobiajjcnpflgaaGNum
namespace Go.Proofs.Ytobiajjcnpflgaa
open Go.RowKit

theorem Rb.cuts_63 {c : Rb.Cfg} (h : c.Ok) (bs : List UInt8) : ∀ x ∈ Rb.cuts c.ends bs, x < 9223372036854775808 := fun x hx => by
  obtain ⟨i, hi, rfl⟩ := List.getElem_of_mem hx
  have h1 := (Rb.E_bounds h bs i hi).2.1
  have := h.hi16
  omega
theorem ints_none (w : World) : IntsAt w (fun _ => True) (.slice none 0 0) [] := ⟨none, 0, rfl, Nat.le_refl _, fun i hi => absurd hi (by simp)⟩

set_option maxRecDepth 100000 in
set_option maxHeartbeats 1000000 in
theorem rabinCuts_any {w : World} {s : Set7} (h64 : s.P < 18446744073709551616) {S : Nat → Prop} {v : Value} {bs : List UInt8} (hv : BytesAt w S v bs) (hS : ∀ k, S k → k < w.heap.size) (hlen : bs.length ≤ 140737488351232) :
    Calls Try.prog 3 #[setV s, v] w fun e w' => e = .returned (.bool true) ∧ Quiet w w' := by
  have HA := Lib.hid alive7_any
  have HL := Lib.hid (fun W a n c => @large7_any W a n c)
  have HV : Hid (∀ W, Quiet w W → BytesAt W (fun k => k < W.heap.size) v bs) := fun W hq => hv.here hq hS
  obtain ⟨va, vc, rfl⟩ := hv.shape
  have HB0 : Hid (Blk (w.alloc (.cells #[.int .u64 (s.P : Int), .int .i64 s.W, .int .i64 s.L, .int .i64 s.H, .int .i64 s.B] 24)) w.heap.size (setL s) 24) := Blk.new w (setL s) 24
  have HQ0 : Hid (Quiet w (w.alloc (.cells #[.int .u64 (s.P : Int), .int .i64 s.W, .int .i64 s.L, .int .i64 s.H, .int .i64 s.B] 24))) := Only.alloc _
  unfold setV
  obtain ⟨g, hg⟩ : ∃ g, w.heap.size = g := ⟨_, rfl⟩
  rw [hg] at HB0
  clear hv hS
  by_cases hbig : 1500 < bs.length
  · go_enter Try.func3, Try.ntmps3
    go_wp2_with fail
    refine (HA.out _).mono ?_
    rintro e w1 ⟨rfl, hq⟩
    have HQ1 := Lib.hid (HQ0.out.trans hq)
    clear hq
    go_wp2_with fail
    refine (HL.out _ _ _ _).mono ?_; rintro e w2 ⟨rfl, rfl⟩
    rw [decide_eq_true hbig]
    go_wp2_with fail
    go_ret
    exact ⟨rfl, HQ1.out⟩
  have HCP : Hid (∀ W, Quiet w W → Calls Try.prog 12 #[.slice va bs.length vc] W fun e w' => ∃ g c, e = .returned (.slice (some ⟨g, 0, none⟩) bs.length c) ∧ CopyAt w' g c bs ∧ W.heap.size ≤ g ∧ Only (fun _ => False) W w') := fun W hq => copy_any (HV.out W hq) (fun _ h => h) (by omega)
  have HKP : Hid (∀ W g c, Quiet w W → CopyAt W g c bs → Calls Try.prog 18 #[.slice (some ⟨g, 0, none⟩) bs.length c, .slice va bs.length vc] W fun e w' => e = .returned (.bool true) ∧ W = w') := fun W g c hq hc => kept_any hc (HV.out W hq) (by omega)
  rcases hgd : Rb.good s with _ | _
  · have HC := Lib.hid (fun v W => cutBad_any h64 hgd v W)
    have HR := Lib.hid (fun v W => r7cutBad_any h64 hgd v W)
    have HK := Lib.hid (fun W => check_any s h64 W)
    have HN := Lib.hid (fun W => num_err 11 W (by decide))
    have HI := Lib.hid (fun W => ints_same (ints_none W) (ints_none W) (by simp))
    rw [hgd] at HK
    unfold setV at HC HK HR
    unfold errV at HK
    simp only [Bool.false_eq_true, ↓reduceIte, Nat.reduceEqDiff] at HK
    go_enter Try.func3, Try.ntmps3
    go_wp2_with fail
    refine (HA.out _).mono ?_
    rintro e w1 ⟨rfl, hq⟩
    have HQ1 := Lib.hid (HQ0.out.trans hq)
    have HB1 := Lib.hid (HB0.out.keep hq (fun x => x))
    clear hq
    go_wp2_with fail
    refine (HL.out _ _ _ _).mono ?_; rintro e w2 ⟨rfl, rfl⟩
    rw [decide_eq_false hbig]
    go_wp2_with fail
    refine (HCP.out _ HQ1.out).mono ?_
    rintro e w2 ⟨cg, cc, rfl, hcp, hcg, hq⟩
    have HQ2 := Lib.hid (HQ1.out.trans hq)
    have HB2 := Lib.hid (HB1.out.keep hq (fun x => x))
    have HCP2 := Lib.hid hcp
    clear hq hcp HQ0 HB0
    obtain ⟨c0, c1, c2, c3, c4⟩ := SetAt.of_blk HB2.out
    go_wp2_with fail
    refine (HC.out _ _).mono ?_
    rintro e w3 ⟨rfl, hq⟩
    have HQ3 := Lib.hid (HQ2.out.trans hq)
    have HB3 := Lib.hid (HB2.out.keep hq (fun x => x))
    have HCP3 := Lib.hid (HCP2.out.only hq (fun x => x))
    clear hq c0 c1 c2 c3 c4
    obtain ⟨c0, c1, c2, c3, c4⟩ := SetAt.of_blk HB3.out
    go_wp2_with fail
    refine (HR.out _ _).mono ?_
    rintro e w4 ⟨rfl, hq⟩
    have HQ4 := Lib.hid (HQ3.out.trans hq)
    have HB4 := Lib.hid (HB3.out.keep hq (fun x => x))
    have HCP4 := Lib.hid (HCP3.out.only hq (fun x => x))
    clear hq c0 c1 c2 c3 c4
    go_wp2_with fail
    refine (HI.out _).mono ?_
    rintro e w5 ⟨rfl, hq⟩
    have HQ5 := Lib.hid (HQ4.out.trans hq)
    have HB5 := Lib.hid (HB4.out.keep hq (fun x => x))
    have HCP5 := Lib.hid (HCP4.out.only hq (fun x => x))
    clear hq
    go_wp2_with fail
    refine (HN.out _).mono ?_
    rintro e w6 ⟨rfl, rfl⟩
    obtain ⟨c0, c1, c2, c3, c4⟩ := SetAt.of_blk HB5.out
    go_wp2_with fail
    refine (HK.out _).mono ?_
    rintro e w6 ⟨rfl, hq⟩
    have HQ6 := Lib.hid (HQ5.out.trans hq)
    have HCP6 := Lib.hid (HCP5.out.only hq (fun x => x))
    clear hq c0 c1 c2 c3 c4
    go_wp2_with fail
    refine (HN.out _).mono ?_
    rintro e w7 ⟨rfl, rfl⟩
    go_wp2_with fail
    refine (HKP.out _ _ _ HQ6.out HCP6.out).mono ?_
    rintro e w7 ⟨rfl, rfl⟩
    go_wp2_with fail
    go_ret
    exact ⟨rfl, HQ6.out⟩
  · obtain ⟨c, hc, rfl⟩ := Rb.good_cfg h64 hgd
    have HC := Lib.hid (fun W v bs S hv hS hl => cut7_any hc (w := W) (S := S) (v := v) (bs := bs) hv hS hl)
    have HR := Lib.hid (fun W v bs S hv hS hl => r7cut_any hc (w := W) (S := S) (v := v) (bs := bs) hv hS hl)
    have HK := Lib.hid (fun W => check_any c.set h64 W)
    rw [hgd] at HK
    have HN := Lib.hid num_nil
    have H63 := Lib.hid (Rb.cuts_63 hc bs)
    have HLN := Rb.cuts_len (c := c) bs
    unfold setV at HC HK HR
    unfold errV at HK
    simp only [↓reduceIte] at HK
    unfold Rb.Cfg.set at *
    simp only at HC HR HK
    clear hc
    go_enter Try.func3, Try.ntmps3
    go_wp2_with fail
    refine (HA.out _).mono ?_
    rintro e w1 ⟨rfl, hq⟩
    have HQ1 := Lib.hid (HQ0.out.trans hq)
    have HB1 := Lib.hid (HB0.out.keep hq (fun x => x))
    clear hq
    go_wp2_with fail
    refine (HL.out _ _ _ _).mono ?_; rintro e w2 ⟨rfl, rfl⟩
    rw [decide_eq_false hbig]
    go_wp2_with fail
    refine (HCP.out _ HQ1.out).mono ?_
    rintro e w2 ⟨cg, cc, rfl, hcp, hcg, hq⟩
    have HQ2 := Lib.hid (HQ1.out.trans hq)
    have HB2 := Lib.hid (HB1.out.keep hq (fun x => x))
    have HCP2 := Lib.hid hcp
    clear hq hcp HQ0 HB0
    obtain ⟨c0, c1, c2, c3, c4⟩ := SetAt.of_blk HB2.out
    have HC2 := Lib.hid (HC.out w2 _ _ _ HCP2.out.bytes (fun k hk => by subst hk; exact HCP2.out.lt) (by omega))
    go_wp2_with fail
    refine HC2.out.mono ?_
    rintro e w3 ⟨ca, ck, rfl, hrow⟩
    have HROW := Lib.hid hrow
    have HQ3 := Lib.hid (HQ2.out.trans hrow.only)
    have HB3 := Lib.hid (HB2.out.keep hrow.only (fun x => x))
    have HCP3 := Lib.hid (HCP2.out.only hrow.only (fun x => x))
    clear hrow c0 c1 c2 c3 c4 HC2
    obtain ⟨c0, c1, c2, c3, c4⟩ := SetAt.of_blk HB3.out
    have HR3 := Lib.hid (HR.out w3 _ _ _ (HV.out w3 HQ3.out) (fun _ h => h) (by omega))
    clear HC HR
    generalize Rb.cuts c.ends bs = xs at *
    go_wp2_with fail
    refine HR3.out.mono ?_
    rintro e w4 ⟨da, dk, rfl, hrow⟩
    have HQ4 := Lib.hid (HQ3.out.trans hrow.only)
    have HB4 := Lib.hid (HB3.out.keep hrow.only (fun x => x))
    have HCP4 := Lib.hid (HCP3.out.only hrow.only (fun x => x))
    have HI4 := Lib.hid (ints_same ((HROW.out.kept hrow.only).ints H63.out) (hrow.ints H63.out) (by omega))
    clear hrow c0 c1 c2 c3 c4 HR3
    go_wp2_with fail
    refine HI4.out.mono ?_
    rintro e w5 ⟨rfl, hq⟩
    have HQ5 := Lib.hid (HQ4.out.trans hq)
    have HB5 := Lib.hid (HB4.out.keep hq (fun x => x))
    have HCP5 := Lib.hid (HCP4.out.only hq (fun x => x))
    clear hq
    go_wp2_with fail
    refine (HN.out _).mono ?_
    rintro e w6 ⟨rfl, rfl⟩
    obtain ⟨c0, c1, c2, c3, c4⟩ := SetAt.of_blk HB5.out
    go_wp2_with fail
    refine (HK.out _).mono ?_
    rintro e w6 ⟨rfl, hq⟩
    have HQ6 := Lib.hid (HQ5.out.trans hq)
    have HCP6 := Lib.hid (HCP5.out.only hq (fun x => x))
    clear hq c0 c1 c2 c3 c4
    go_wp2_with fail
    refine (HN.out _).mono ?_
    rintro e w7 ⟨rfl, rfl⟩
    go_wp2_with fail
    refine (HKP.out _ _ _ HQ6.out HCP6.out).mono ?_
    rintro e w7 ⟨rfl, rfl⟩
    go_wp2_with fail
    go_ret
    exact ⟨rfl, HQ6.out⟩

end Go.Proofs.Ytobiajjcnpflgaa
