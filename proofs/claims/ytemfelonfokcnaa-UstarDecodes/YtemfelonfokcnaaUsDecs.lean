/- UstarDecodes: of any bytes just the blocks of headers are taken, and what they say. Conditions: rows within the reach. -/
import Derived.Test.YtemfelonfokcnaaUsDecR
import Derived.Test.YtemfelonfokcnaaUsAlive
import Derived.Test.YtemfelonfokcnaaGNum
namespace Go.Proofs.Ytemfelonfokcnaa
open Go.RowKit

set_option maxRecDepth 100000 in
set_option maxHeartbeats 2000000 in
theorem r10decode_any {w : World} {S : Nat → Prop} {v : Value} {bs : List UInt8} (hv : BytesAt w S v bs) (hS : ∀ k, S k → k < w.heap.size) (_hb : bs.length ≤ 140737488351232) :
    Calls Try.prog 22 #[v] w fun e w' => e = .returned (.tuple #[hdV (Us.decH bs), .int .i64 (Us.decE bs : Int)]) ∧ Quiet w w' := by
  by_cases h5 : bs.length = 512
  · exact r10decode_512 hv hS h5
  · obtain ⟨va, vc, rfl⟩ := hv.shape
    obtain ⟨e1, e2⟩ := Us.dec_no (Us.dec_P (fun h => h5 (Us.says_len h)))
    have HH1 := Lib.hid e1; have HH2 := Lib.hid e2
    have h6 : ¬ ((bs.length : Int) = 512) := by omega
    have HB : Hid (Blk (w.alloc (.cells (hdL hd0).toArray 23)) w.heap.size (hdL hd0) 23) := Blk.new w _ _
    have HQ0 : Hid (Quiet w (w.alloc (.cells (hdL hd0).toArray 23))) := Only.alloc _
    obtain ⟨d0, d1, d2, d3, d4, d5, d6, d7, dz⟩ := hd_cells HB.out
    clear hv hS e1 e2 h5
    go_enter Try.func22, Try.ntmps22
    go_wp2
    refine bodyPost_ret (v := .tuple #[hdV hd0, .int .i64 14]) ?_ rfl ⟨by rw [HH1.out, HH2.out]; rfl, HQ0.out⟩
    refine results_row_tmp (p := 2) (u := 3) (ty := 23) rfl _ _ w.heap.size _ ?_ (load_hd HB.out)
    rfl

set_option maxRecDepth 100000 in
set_option maxHeartbeats 2000000 in
theorem ustarDecodes_any {w : World} {S : Nat → Prop} {v : Value} {bs : List UInt8} (hv : BytesAt w S v bs) (hS : ∀ k, S k → k < w.heap.size) (hl : bs.length ≤ 140737488351232) :
    Calls Try.prog 4 #[v] w fun e w' => e = .returned (.bool true) ∧ Quiet w w' := by
  have HA := Lib.hid (fun W => alive10_any W)
  obtain ⟨va, vc, rfl⟩ := hv.shape
  have HV : Hid (∀ W, Quiet w W → BytesAt W S (.slice va bs.length vc) bs) := fun W ho => hv.only ho hS (fun _ _ x => x)
  have HLT : Hid (∀ W, Quiet w W → ∀ k, S k → k < W.heap.size) := fun W ho k hk => Nat.lt_of_lt_of_le (hS k hk) ho.size
  have HCP : Hid (∀ W, Quiet w W → Calls Try.prog 20 #[.slice va bs.length vc] W fun e w' => ∃ g c, e = .returned (.slice (some ⟨g, 0, none⟩) bs.length c) ∧ CopyAt w' g c bs ∧ W.heap.size ≤ g ∧ Quiet W w') := fun W ho => copy_any (HV.out W ho) (HLT.out W ho) (by omega)
  have HD1 : Hid (∀ W g c, CopyAt W g c bs → Calls Try.prog 21 #[.slice (some ⟨g, 0, none⟩) bs.length c] W fun e w' => e = .returned (.tuple #[hdV (Us.decH bs), errV (Us.decE bs)]) ∧ Quiet W w') := fun W g c hc =>
    decode_any hc.bytes (fun k hk => by rw [hk]; exact hc.lt) hl
  have HD2 : Hid (∀ W, Quiet w W → Calls Try.prog 22 #[.slice va bs.length vc] W fun e w' => e = .returned (.tuple #[hdV (Us.decH bs), .int .i64 (Us.decE bs : Int)]) ∧ Quiet W w') := fun W ho => r10decode_any (HV.out W ho) (HLT.out W ho) hl
  have HKE : Hid (∀ W g c, Quiet w W → CopyAt W g c bs → Calls Try.prog 23 #[.slice (some ⟨g, 0, none⟩) bs.length c, .slice va bs.length vc] W fun e w' => e = .returned (.bool true) ∧ W = w') := fun W g c ho hc => kept_any hc (HV.out W ho) (by omega)
  have hn : Us.decE bs = 0 ∨ Us.decE bs = 14 := by
    unfold Us.decE
    split
    · exact .inl rfl
    · exact .inr rfl
  have HNU : Hid (∀ W, Calls Try.prog 12 #[errV (Us.decE bs)] W fun e w' => e = .returned (.int .i64 (Us.decE bs : Int)) ∧ W = w') := fun W => by
    rcases hn with e | e
    · rw [e]; exact num_nil W
    · rw [e, errV_pos (by decide)]; exact num_err 14 W (by decide)
  generalize Us.decE bs = n at *
  generalize Us.decH bs = G at *
  have hqq := fun w => eql_hd G G w
  rw [hdEq_self] at hqq
  obtain ⟨gp, gm, gu, gg, gs, gt, gy, gl⟩ := G
  unfold hdV at HD1 HD2 hqq
  generalize errV n = ev at *
  clear hv hS hl hn
  go_enter Try.func4, Try.ntmps4
  go_wp2_with (first
    | (go_at_call 8; refine (HA.out _).mono ?_; rintro e w1 ⟨rfl, hq⟩; have HQ1 := Lib.hid hq; clear hq)
    | (go_at_call 20; refine (HCP.out _ HQ1.out).mono ?_; rintro e w2 ⟨g, c, rfl, hc, hg, hq⟩; have HQ2 := Lib.hid (HQ1.out.trans hq); have HC2 := Lib.hid hc; clear hq hc hg)
    | (go_at_call 21; refine (HD1.out _ _ _ HC2.out).mono ?_; rintro e w3 ⟨rfl, hq⟩; have HQ3 := Lib.hid ((HQ2.out.trans hq).trans (Only.alloc (.cells #[.string gp, .int .i64 gm, .int .i64 gu, .int .i64 gg, .int .i64 gs, .int .i64 gt, .int .u8 (gy.toNat : Int), .string gl] 23))); have HC3 := Lib.hid (HC2.out.only (hq.trans (Only.alloc (.cells #[.string gp, .int .i64 gm, .int .i64 gu, .int .i64 gg, .int .i64 gs, .int .i64 gt, .int .u8 (gy.toNat : Int), .string gl] 23))) (fun x => x)); have HK3 := Lib.hid (Blk.new w3 [.string gp, .int .i64 gm, .int .i64 gu, .int .i64 gg, .int .i64 gs, .int .i64 gt, .int .u8 (gy.toNat : Int), .string gl] 23); clear hq)
    | (go_at_call 22; refine (HD2.out _ HQ3.out).mono ?_; rintro e w4 ⟨rfl, hq⟩; have HQ4 := Lib.hid ((HQ3.out.trans hq).trans (Only.alloc (.cells #[.string gp, .int .i64 gm, .int .i64 gu, .int .i64 gg, .int .i64 gs, .int .i64 gt, .int .u8 (gy.toNat : Int), .string gl] 23))); have HC4 := Lib.hid (HC3.out.only (hq.trans (Only.alloc (.cells #[.string gp, .int .i64 gm, .int .i64 gu, .int .i64 gg, .int .i64 gs, .int .i64 gt, .int .u8 (gy.toNat : Int), .string gl] 23))) (fun x => x)); obtain ⟨c0, c1, c2, c3, c4, c5, c6, c7, fz⟩ := cells8 ((HK3.out.keep hq (fun x => x)).alloc (.cells #[.string gp, .int .i64 gm, .int .i64 gu, .int .i64 gg, .int .i64 gs, .int .i64 gt, .int .u8 (gy.toNat : Int), .string gl] 23)); obtain ⟨d0, d1, d2, d3, d4, d5, d6, d7, dz⟩ := cells8 (Blk.new w4 [.string gp, .int .i64 gm, .int .i64 gu, .int .i64 gg, .int .i64 gs, .int .i64 gt, .int .u8 (gy.toNat : Int), .string gl] 23); clear hq)
    | (go_at_call 12; refine (HNU.out _).mono ?_; rintro e w5 ⟨rfl, rfl⟩)
    | (go_at_call 23; refine (HKE.out _ _ _ HQ4.out HC4.out).mono ?_; rintro e w6 ⟨rfl, rfl⟩))
  go_ret
  exact ⟨rfl, HQ4.out⟩

end Go.Proofs.Ytemfelonfokcnaa
