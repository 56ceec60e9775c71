/- The document's Cut. Conditions: data within the reach. -/
import Derived.Test.YtobiajjcnpflgaaRbRefE
namespace Go.Proofs.Ytobiajjcnpflgaa
open Go.RowKit

theorem IRow.back {w w1 wr : World} {ov : Value} {xs : List Nat} (h : IRow w1 wr ov xs) (hq : Quiet w w1) : IRow w wr ov xs :=
  ⟨h.row, fun q e => Nat.le_trans hq.size (h.own q e), hq.trans h.only⟩

namespace Rb
/-- What the document's Cut has behind i bytes. -/
noncomputable def doc (E : List UInt8 → Bool) (bs : List UInt8) (i : Nat) : List Nat := if i = bs.length then cuts E bs else (run E [] (bs.take i)).1
theorem doc_start (E : List UInt8 → Bool) (bs : List UInt8) : doc E bs 0 = [] := by
  unfold doc
  split
  · rename_i h
    have : bs = [] := List.eq_nil_of_length_eq_zero h.symm
    subst this
    simp [cuts, run_nil, last]
  · simp [run_nil]
theorem doc_at {E : List UInt8 → Bool} {bs : List UInt8} {i : Nat} (h : i < bs.length) : doc E bs i = (run E [] (bs.take i)).1 := by unfold doc; rw [if_neg (by omega)]
theorem doc_end (E : List UInt8 → Bool) (bs : List UInt8) : doc E bs bs.length = cuts E bs := by unfold doc; rw [if_pos rfl]
theorem last_some {l : List UInt8} {b : UInt8} : last (l ++ [b]) = [l.length + 1] := by unfold last; simp
/-- A chunk ends behind byte i. -/
theorem doc_yes {E : List UInt8 → Bool} {bs : List UInt8} {i : Nat} (h : i < bs.length) (he : E ((run E [] (bs.take i)).2 ++ [bs[i]]) = true) :
    doc E bs (i + 1) = (run E [] (bs.take i)).1 ++ [(run E [] (bs.take i)).2.length + 1] ∧ (run E [] (bs.take (i + 1))).1.sum = (run E [] (bs.take i)).1.sum + ((run E [] (bs.take i)).2.length + 1) := by
  have e := run_snoc_end he
  rw [← take_snoc h] at e
  refine ⟨?_, by rw [e]; simp⟩
  unfold doc
  split
  · rename_i h1
    unfold cuts
    rw [h1, List.take_length] at e
    rw [e]
    simp [last]
  · rw [e]
/-- None ends there, and it is not the last byte. -/
theorem doc_no {E : List UInt8 → Bool} {bs : List UInt8} {i : Nat} (h : i < bs.length) (h1 : i + 1 ≠ bs.length) (he : E ((run E [] (bs.take i)).2 ++ [bs[i]]) = false) :
    doc E bs (i + 1) = (run E [] (bs.take i)).1 ∧ (run E [] (bs.take (i + 1))).1.sum = (run E [] (bs.take i)).1.sum := by
  have e := run_snoc_on (a := bs.take i) (b := bs[i]) (E := E) (by rw [he]; simp)
  rw [← take_snoc h] at e
  refine ⟨?_, by rw [e]⟩
  unfold doc
  rw [if_neg h1, e]
/-- None ends there, and it is the last byte. -/
theorem doc_last {E : List UInt8 → Bool} {bs : List UInt8} {i : Nat} (h : i < bs.length) (h1 : i + 1 = bs.length) (he : E ((run E [] (bs.take i)).2 ++ [bs[i]]) = false) :
    doc E bs (i + 1) = (run E [] (bs.take i)).1 ++ [(run E [] (bs.take i)).2.length + 1] := by
  have e := run_snoc_on (a := bs.take i) (b := bs[i]) (E := E) (by rw [he]; simp)
  rw [← take_snoc h, h1, List.take_length] at e
  unfold doc
  rw [if_pos h1]
  unfold cuts
  rw [e, last_some]
end Rb

set_option maxRecDepth 100000 in
set_option maxHeartbeats 1000000 in
theorem r7cutBad_any {s : Set7} (h64 : s.P < 18446744073709551616) (hg : Rb.good s = false) (v : Value) (w : World) :
    Calls Try.prog 14 #[setV s, v] w fun e w' => e = .returned (.tuple #[.slice none 0 0, .int .i64 11]) ∧ Quiet w w' := by
  have HN := Lib.hid (fun W => r7check_any s h64 W)
  rw [hg] at HN
  unfold setV at HN ⊢
  go_enter Try.func14, Try.ntmps14
  go_wp2_with fail
  refine (HN.out _).mono ?_
  rintro e w1 ⟨rfl, hq⟩
  have HQ := Lib.hid ((Only.alloc _).trans hq)
  clear hq
  go_wp2_with fail
  go_ret2
  exact ⟨rfl, HQ.out⟩

set_option maxRecDepth 100000 in
set_option maxHeartbeats 1000000 in
theorem r7cut_any {c : Rb.Cfg} (hc : c.Ok) {w : World} {S : Nat → Prop} {v : Value} {bs : List UInt8} (hv : BytesAt w S v bs) (hS : ∀ k, S k → k < w.heap.size) (hlen : bs.length ≤ 1099511627775) :
    Calls Try.prog 14 #[setV c.set, v] w fun e w' => ∃ a k, e = .returned (.tuple #[.slice a (Rb.cuts c.ends bs).length k, .int .i64 0]) ∧ IRow w w' (.slice a (Rb.cuts c.ends bs).length k) (Rb.cuts c.ends bs) := by
  have HK := Lib.hid (fun W => r7check_any c.set hc.p64 W)
  rw [hc.good] at HK
  have HB0 : Hid (Blk (w.alloc (.cells #[.int .u64 (c.p : Int), .int .i64 (c.win : Int), .int .i64 (c.lo : Int), .int .i64 (c.hi : Int), .int .i64 (c.bits : Int)] 24)) w.heap.size (setL c.set) 24) := Blk.new w (setL c.set) 24
  have HV := Lib.hid hv
  have HS := Lib.hid hS
  have HEN := Lib.hid (fun W T v l h1 h2 h3 => r7ends_any hc (w := W) (S := T) (v := v) (l := l) h1 h2 h3)
  have HAT := Lib.hid (fun i hi => Rb.cut_at hc bs (i := i) hi)
  have HPC := Lib.hid (fun i hi => Rb.cut_piece hc bs (i := i) hi)
  have HRL := Lib.hid (fun i => Rb.run_len c.ends (bs.take i) [])
  have HDE := Lib.hid (Rb.doc_end c.ends bs)
  have HDS := Lib.hid (Rb.doc_start c.ends bs)
  obtain ⟨va, vc, rfl⟩ := hv.shape
  have hvc := hv.capLe
  have hhi := hc.hi16
  unfold setV Rb.Cfg.set at HK HEN
  unfold setV Rb.Cfg.set
  simp only at HK HEN ⊢
  clear hv hS hc
  go_enter Try.func14, Try.ntmps14
  go_wp2_with fail
  refine (HK.out _).mono ?_
  rintro e w1 ⟨rfl, hq⟩
  have HB1 := Lib.hid (HB0.out.keep hq (fun x => x))
  have HQ1 : Hid (Quiet w w1) := (Only.alloc _).trans hq
  have hg1 : w.heap.size < w1.heap.size := HB1.out.lt
  clear hq HB0 HK
  go_wp2_with fail
  go_loopw [7, 8, 9] (fun s7 s8 s9 wr => ∃ i fr : Nat, i ≤ bs.length ∧ s9 = .int .i64 (i : Int) ∧ s8 = .int .i64 (fr : Int) ∧ (i < bs.length → fr = (Rb.run c.ends [] (bs.take i)).1.sum) ∧ ∃ oa oc, s7 = .slice oa (Rb.doc c.ends bs i).length oc ∧ IRow w1 wr (.slice oa (Rb.doc c.ends bs i).length oc) (Rb.doc c.ends bs i)) (fun _ _ s9 _ => bs.length - (intOf s9).toNat)
  case atStart => exact ⟨0, 0, Nat.zero_le _, rfl, rfl, fun _ => by simp [Rb.run_nil], none, 0, by rw [HDS.out]; rfl, by rw [HDS.out]; exact IRow.nil w1⟩
  case round =>
    obtain ⟨i, fr, hi, rfl, rfl, hfr, oa, oc, rfl, hrow⟩ := hrel
    by_cases hlt : i < bs.length
    · have HD := Lib.hid (Rb.doc_at (E := c.ends) hlt)
      have hfe := hfr hlt
      clear hfr
      rw [HD.out] at hrow
      rw [HD.out]
      obtain ⟨h1, h2, _⟩ := HAT.out i hi
      have HP := Lib.hid (HPC.out i hlt)
      have HYES := Lib.hid (Rb.doc_yes (E := c.ends) hlt)
      have HNO := Lib.hid (Rb.doc_no (E := c.ends) hlt)
      have HLAST := Lib.hid (Rb.doc_last (E := c.ends) hlt)
      have HLEN := Lib.hid (HRL.out i)
      rw [List.length_take] at HLEN
      generalize (Rb.run c.ends [] (bs.take i)).1 = rs at *
      generalize (Rb.run c.ends [] (bs.take i)).2 = q at *
      generalize bs[i] = b at *
      rw [← hfe] at h1 HP HYES HNO
      have HROW := Lib.hid hrow
      have HQW : Hid (Quiet w wr) := HQ1.out.trans hrow.only
      have HSET : Hid (∀ W, Only (fun _ => False) wr W → SetAt W w.heap.size ⟨c.p, (c.win : Int), (c.lo : Int), (c.hi : Int), (c.bits : Int)⟩) := fun W ho => SetAt.of_blk (HB1.out.keep (hrow.only.trans ho) (fun x => x))
      obtain ⟨sa, hsa, hsl⟩ := slice_lh (a := va) (n := bs.length) (cap := vc) (l := fr) (h := i + 1) (by omega) (by omega)
      have hpi := (HV.out.only HQW.out HS.out (fun _ _ x => x)).piece (l := fr) (h := i + 1) (by omega) (by omega) hsa
      rw [HP.out] at hpi
      have HENd : Hid (∀ W, Quiet wr W → Calls Try.prog 31 #[.agg #[.int .u64 (c.p : Int), .int .i64 (c.win : Int), .int .i64 (c.lo : Int), .int .i64 (c.hi : Int), .int .i64 (c.bits : Int)], .slice sa (i + 1 - fr) (vc - fr)] W fun e w' => e = .returned (.bool (c.ends (q ++ [b]))) ∧ Quiet W w') := fun W ho =>
        HEN.out W _ _ _ (hpi.only ho (fun k hk => Nat.lt_of_lt_of_le (HS.out k hk) HQW.out.size) (fun _ _ x => x)) (fun k hk => Nat.lt_of_lt_of_le (HS.out k hk) (HQW.out.trans ho).size) (by simp; omega)
      have hsl' : ∀ w : World, (Instr.slice 25 (.slice va bs.length vc) (some (.int .i64 (fr : Int))) (some (.int .i64 ((i : Int) + 1))) none).run Try.prog w = .ok (.slice sa (i + 1 - fr) (vc - fr)) w := hsl
      have c0 : ∀ W, Only (fun _ => False) wr W → W.cell? ⟨w.heap.size, 0, none⟩ = some (.int .u64 (c.p : Int)) := fun W ho => (HSET.out W ho).c0
      have c1 : ∀ W, Only (fun _ => False) wr W → W.cell? ⟨w.heap.size, 1, none⟩ = some (.int .i64 (c.win : Int)) := fun W ho => (HSET.out W ho).c1
      have c2 : ∀ W, Only (fun _ => False) wr W → W.cell? ⟨w.heap.size, 2, none⟩ = some (.int .i64 (c.lo : Int)) := fun W ho => (HSET.out W ho).c2
      have c3 : ∀ W, Only (fun _ => False) wr W → W.cell? ⟨w.heap.size, 3, none⟩ = some (.int .i64 (c.hi : Int)) := fun W ho => (HSET.out W ho).c3
      have c4 : ∀ W, Only (fun _ => False) wr W → W.cell? ⟨w.heap.size, 4, none⟩ = some (.int .i64 (c.bits : Int)) := fun W ho => (HSET.out W ho).c4
      have wi : IntKind.i64.wrap ((i : Int) + 1) = (i : Int) + 1 := IntWalk.i64_in _ (by omega)
      have wl : IntKind.i64.wrap ((bs.length : Int) - 1) = (bs.length : Int) - 1 := IntWalk.i64_in _ (by omega)
      have hx : (i : Int) + 1 - (fr : Int) = ((q.length + 1 : Nat) : Int) := by omega
      have hx63 : q.length + 1 < 9223372036854775808 := by omega
      clear hrow hpi hsa hsl HP hfe HPC HAT HRL HEN HDE HDS HD
      rcases hE : c.ends (q ++ [b]) with _ | _
      · rw [hE] at HENd HNO HLAST
        clear HYES
        by_cases hl1 : i + 1 = bs.length
        · have HD1 := Lib.hid (HLAST.out hl1 rfl)
          clear HNO HLAST
          have hli : (i : Int) = (bs.length : Int) - 1 := by omega
          have heq : ((i : Int) == (bs.length : Int) - 1) = true := by simpa using hli
          have HL1 := Lib.hid hl1
          clear hl1 hli
          go_wp2_with fail
          refine wp_region_held_drew (S := fun W => Only (fun _ => False) wr W) (by kernel_rfl) Only.drew (fun hHeld => ?_)
          refine wpAnyH_take (i := 0) (v := .agg #[.int .u64 (c.p : Int), .int .i64 (c.win : Int), .int .i64 (c.lo : Int), .int .i64 (c.hi : Int), .int .i64 (c.bits : Int)]) rfl (by kernel_rfl) (by kernel_rfl) (by kernel_rfl) (fun _ _ _ h => h) (Or.inl ⟨by rfl, fun W hSw => by have z0 := c0 W hSw; have z1 := c1 W hSw; have z2 := c2 W hSw; have z3 := c3 W hSw; have z4 := c4 W hSw; go_simp⟩) hHeld ?_
          try simp only [Act.put, List.getElem_toArray, List.getElem_cons_zero, List.setIfInBounds_toArray, List.set_cons_zero, List.set_cons_succ]
          refine wpAnyH_take (i := 1) (v := .slice va bs.length vc) rfl (by kernel_rfl) (by kernel_rfl) (by kernel_rfl) (fun _ _ _ h => h) (Or.inl ⟨by rfl, fun W hSw => by go_simp⟩) hHeld ?_
          try simp only [Act.put, List.getElem_toArray, List.getElem_cons_succ, List.getElem_cons_zero, List.setIfInBounds_toArray, List.set_cons_zero, List.set_cons_succ]
          refine wpAnyH_take (i := 2) (v := .int .i64 (fr : Int)) rfl (by kernel_rfl) (by kernel_rfl) (by kernel_rfl) (fun _ _ _ h => h) (Or.inl ⟨by rfl, fun W hSw => by go_simp⟩) hHeld ?_
          try simp only [Act.put, List.getElem_toArray, List.getElem_cons_succ, List.getElem_cons_zero, List.setIfInBounds_toArray, List.set_cons_zero, List.set_cons_succ]
          refine wpAnyH_take (i := 3) (v := .int .i64 (i : Int)) rfl (by kernel_rfl) (by kernel_rfl) (by kernel_rfl) (fun _ _ _ h => h) (Or.inl ⟨by rfl, fun W hSw => by go_simp⟩) hHeld ?_
          try simp only [Act.put, List.getElem_toArray, List.getElem_cons_succ, List.getElem_cons_zero, List.setIfInBounds_toArray, List.set_cons_zero, List.set_cons_succ]
          refine wpAnyH_take (i := 4) (v := .int .i64 ((i : Int) + 1)) rfl (by kernel_rfl) (by kernel_rfl) (by kernel_rfl) (fun _ _ _ h => h) (Or.inl ⟨by rfl, fun W hSw => by go_simp⟩) hHeld ?_
          try simp only [Act.put, List.getElem_toArray, List.getElem_cons_succ, List.getElem_cons_zero, List.setIfInBounds_toArray, List.set_cons_zero, List.set_cons_succ]
          refine wpAnyH_take (i := 5) (v := .slice sa (i + 1 - fr) (vc - fr)) rfl (by kernel_rfl) (by kernel_rfl) (by kernel_rfl) (fun _ _ _ h => h) (Or.inl ⟨by rfl, fun W hSw => by go_simp⟩) hHeld ?_
          try simp only [Act.put, List.getElem_toArray, List.getElem_cons_succ, List.getElem_cons_zero, List.setIfInBounds_toArray, List.set_cons_zero, List.set_cons_succ]
          refine wpAnyH_ready (rs := [6]) (by kernel_rfl) (by simp) (AllReadyH.cons rfl (fun J hJ => ?_) AllReadyH.nil)
          go_simp
          refine (HENd.out _ Only.drew).mono ?_
          rintro e w5 ⟨rfl, hq⟩
          have HQ5 : Hid (Quiet wr w5) := Only.trans Only.drew hq
          clear hq
          refine hJ.out _ _ HQ5.out (fun hHeld => ?_)
          clear hJ J
          refine wpAnyH_take (i := 7) (v := .bool false) rfl (by kernel_rfl) (by kernel_rfl) (by kernel_rfl) (fun _ _ _ h => h) (Or.inl ⟨by rfl, fun W hSw => by go_simp⟩) hHeld ?_
          try simp only [Act.put, List.getElem_toArray, List.getElem_cons_succ, List.getElem_cons_zero, List.setIfInBounds_toArray, List.set_cons_zero, List.set_cons_succ]
          refine wpAnyH_take (i := 8) (v := .int .i64 (i : Int)) rfl (by kernel_rfl) (by kernel_rfl) (by kernel_rfl) (fun _ _ _ h => h) (Or.inl ⟨by rfl, fun W hSw => by go_simp⟩) hHeld ?_
          try simp only [Act.put, List.getElem_toArray, List.getElem_cons_succ, List.getElem_cons_zero, List.setIfInBounds_toArray, List.set_cons_zero, List.set_cons_succ]
          refine wpAnyH_take (i := 9) (v := .slice va bs.length vc) rfl (by kernel_rfl) (by kernel_rfl) (by kernel_rfl) (fun _ _ _ h => h) (Or.inl ⟨by rfl, fun W hSw => by go_simp⟩) hHeld ?_
          try simp only [Act.put, List.getElem_toArray, List.getElem_cons_succ, List.getElem_cons_zero, List.setIfInBounds_toArray, List.set_cons_zero, List.set_cons_succ]
          refine wpAnyH_take (i := 10) (v := .int .i64 (bs.length : Int)) rfl (by kernel_rfl) (by kernel_rfl) (by kernel_rfl) (fun _ _ _ h => h) (Or.inl ⟨by rfl, fun W hSw => by go_simp⟩) hHeld ?_
          try simp only [Act.put, List.getElem_toArray, List.getElem_cons_succ, List.getElem_cons_zero, List.setIfInBounds_toArray, List.set_cons_zero, List.set_cons_succ]
          refine wpAnyH_take (i := 11) (v := .int .i64 ((bs.length : Int) - 1)) rfl (by kernel_rfl) (by kernel_rfl) (by kernel_rfl) (fun _ _ _ h => h) (Or.inl ⟨by rfl, fun W hSw => by go_simp⟩) hHeld ?_
          try simp only [Act.put, List.getElem_toArray, List.getElem_cons_succ, List.getElem_cons_zero, List.setIfInBounds_toArray, List.set_cons_zero, List.set_cons_succ]
          refine wpAnyH_take (i := 12) (v := .bool true) rfl (by kernel_rfl) (by kernel_rfl) (by kernel_rfl) (fun _ _ _ h => h) (Or.inl ⟨by rfl, fun W hSw => by go_simp⟩) hHeld ?_
          try simp only [Act.put, List.getElem_toArray, List.getElem_cons_succ, List.getElem_cons_zero, List.setIfInBounds_toArray, List.set_cons_zero, List.set_cons_succ]
          refine wpAnyH_take (i := 13) (v := .bool true) rfl (by kernel_rfl) (by kernel_rfl) (by kernel_rfl) (fun _ _ _ h => h) (Or.inl ⟨by rfl, fun W hSw => by go_simp⟩) hHeld ?_
          try simp only [Act.put, List.getElem_toArray, List.getElem_cons_succ, List.getElem_cons_zero, List.setIfInBounds_toArray, List.set_cons_zero, List.set_cons_succ]
          refine wpAnyH_done (by kernel_rfl) ?_ _
          generalize q.length + 1 = x at *
          go_wp2_with (at_builtin; refine wpList_append_ints _ rfl _ _ rfl (.slice oa rs.length oc) (.slice (some ⟨w5.heap.size, 0, none⟩) 1 1) rs.length (rs.map iV) rfl rfl (HROW.out.keep (HQ5.out.trans (Only.alloc _))) (one_int w5 hx63) (by have := HLEN.out; simp; omega) ?_; intro a1 k1 w6 hr6 hg6 hat6; have HROW6 := Lib.hid (HROW.out.app (ys := [x]) (HQ5.out.trans (Only.alloc _)) rfl hr6 hg6 hat6); clear hr6 hg6 hat6)
          exact ⟨⟨i + 1, i + 1, by omega, by go_num, by go_num, fun h => by have := HL1.out; omega, a1, k1, by rw [HD1.out]; simp, by rw [HD1.out, List.length_append]; exact HROW6.out⟩, by simp [intOf]; omega⟩
        · obtain ⟨d1, d2⟩ := HNO.out hl1 rfl
          have HD1 := Lib.hid d1
          have HD2 := Lib.hid d2
          clear HNO HLAST d1 d2
          have heq : ((i : Int) == (bs.length : Int) - 1) = false := by simp; omega
          clear hl1
          go_wp2_with fail
          refine wp_region_held_drew (S := fun W => Only (fun _ => False) wr W) (by kernel_rfl) Only.drew (fun hHeld => ?_)
          refine wpAnyH_take (i := 0) (v := .agg #[.int .u64 (c.p : Int), .int .i64 (c.win : Int), .int .i64 (c.lo : Int), .int .i64 (c.hi : Int), .int .i64 (c.bits : Int)]) rfl (by kernel_rfl) (by kernel_rfl) (by kernel_rfl) (fun _ _ _ h => h) (Or.inl ⟨by rfl, fun W hSw => by have z0 := c0 W hSw; have z1 := c1 W hSw; have z2 := c2 W hSw; have z3 := c3 W hSw; have z4 := c4 W hSw; go_simp⟩) hHeld ?_
          try simp only [Act.put, List.getElem_toArray, List.getElem_cons_zero, List.setIfInBounds_toArray, List.set_cons_zero, List.set_cons_succ]
          refine wpAnyH_take (i := 1) (v := .slice va bs.length vc) rfl (by kernel_rfl) (by kernel_rfl) (by kernel_rfl) (fun _ _ _ h => h) (Or.inl ⟨by rfl, fun W hSw => by go_simp⟩) hHeld ?_
          try simp only [Act.put, List.getElem_toArray, List.getElem_cons_succ, List.getElem_cons_zero, List.setIfInBounds_toArray, List.set_cons_zero, List.set_cons_succ]
          refine wpAnyH_take (i := 2) (v := .int .i64 (fr : Int)) rfl (by kernel_rfl) (by kernel_rfl) (by kernel_rfl) (fun _ _ _ h => h) (Or.inl ⟨by rfl, fun W hSw => by go_simp⟩) hHeld ?_
          try simp only [Act.put, List.getElem_toArray, List.getElem_cons_succ, List.getElem_cons_zero, List.setIfInBounds_toArray, List.set_cons_zero, List.set_cons_succ]
          refine wpAnyH_take (i := 3) (v := .int .i64 (i : Int)) rfl (by kernel_rfl) (by kernel_rfl) (by kernel_rfl) (fun _ _ _ h => h) (Or.inl ⟨by rfl, fun W hSw => by go_simp⟩) hHeld ?_
          try simp only [Act.put, List.getElem_toArray, List.getElem_cons_succ, List.getElem_cons_zero, List.setIfInBounds_toArray, List.set_cons_zero, List.set_cons_succ]
          refine wpAnyH_take (i := 4) (v := .int .i64 ((i : Int) + 1)) rfl (by kernel_rfl) (by kernel_rfl) (by kernel_rfl) (fun _ _ _ h => h) (Or.inl ⟨by rfl, fun W hSw => by go_simp⟩) hHeld ?_
          try simp only [Act.put, List.getElem_toArray, List.getElem_cons_succ, List.getElem_cons_zero, List.setIfInBounds_toArray, List.set_cons_zero, List.set_cons_succ]
          refine wpAnyH_take (i := 5) (v := .slice sa (i + 1 - fr) (vc - fr)) rfl (by kernel_rfl) (by kernel_rfl) (by kernel_rfl) (fun _ _ _ h => h) (Or.inl ⟨by rfl, fun W hSw => by go_simp⟩) hHeld ?_
          try simp only [Act.put, List.getElem_toArray, List.getElem_cons_succ, List.getElem_cons_zero, List.setIfInBounds_toArray, List.set_cons_zero, List.set_cons_succ]
          refine wpAnyH_ready (rs := [6]) (by kernel_rfl) (by simp) (AllReadyH.cons rfl (fun J hJ => ?_) AllReadyH.nil)
          go_simp
          refine (HENd.out _ Only.drew).mono ?_
          rintro e w5 ⟨rfl, hq⟩
          have HQ5 : Hid (Quiet wr w5) := Only.trans Only.drew hq
          clear hq
          refine hJ.out _ _ HQ5.out (fun hHeld => ?_)
          clear hJ J
          refine wpAnyH_take (i := 7) (v := .bool false) rfl (by kernel_rfl) (by kernel_rfl) (by kernel_rfl) (fun _ _ _ h => h) (Or.inl ⟨by rfl, fun W hSw => by go_simp⟩) hHeld ?_
          try simp only [Act.put, List.getElem_toArray, List.getElem_cons_succ, List.getElem_cons_zero, List.setIfInBounds_toArray, List.set_cons_zero, List.set_cons_succ]
          refine wpAnyH_take (i := 8) (v := .int .i64 (i : Int)) rfl (by kernel_rfl) (by kernel_rfl) (by kernel_rfl) (fun _ _ _ h => h) (Or.inl ⟨by rfl, fun W hSw => by go_simp⟩) hHeld ?_
          try simp only [Act.put, List.getElem_toArray, List.getElem_cons_succ, List.getElem_cons_zero, List.setIfInBounds_toArray, List.set_cons_zero, List.set_cons_succ]
          refine wpAnyH_take (i := 9) (v := .slice va bs.length vc) rfl (by kernel_rfl) (by kernel_rfl) (by kernel_rfl) (fun _ _ _ h => h) (Or.inl ⟨by rfl, fun W hSw => by go_simp⟩) hHeld ?_
          try simp only [Act.put, List.getElem_toArray, List.getElem_cons_succ, List.getElem_cons_zero, List.setIfInBounds_toArray, List.set_cons_zero, List.set_cons_succ]
          refine wpAnyH_take (i := 10) (v := .int .i64 (bs.length : Int)) rfl (by kernel_rfl) (by kernel_rfl) (by kernel_rfl) (fun _ _ _ h => h) (Or.inl ⟨by rfl, fun W hSw => by go_simp⟩) hHeld ?_
          try simp only [Act.put, List.getElem_toArray, List.getElem_cons_succ, List.getElem_cons_zero, List.setIfInBounds_toArray, List.set_cons_zero, List.set_cons_succ]
          refine wpAnyH_take (i := 11) (v := .int .i64 ((bs.length : Int) - 1)) rfl (by kernel_rfl) (by kernel_rfl) (by kernel_rfl) (fun _ _ _ h => h) (Or.inl ⟨by rfl, fun W hSw => by go_simp⟩) hHeld ?_
          try simp only [Act.put, List.getElem_toArray, List.getElem_cons_succ, List.getElem_cons_zero, List.setIfInBounds_toArray, List.set_cons_zero, List.set_cons_succ]
          refine wpAnyH_take (i := 12) (v := .bool false) rfl (by kernel_rfl) (by kernel_rfl) (by kernel_rfl) (fun _ _ _ h => h) (Or.inl ⟨by rfl, fun W hSw => by go_simp⟩) hHeld ?_
          try simp only [Act.put, List.getElem_toArray, List.getElem_cons_succ, List.getElem_cons_zero, List.setIfInBounds_toArray, List.set_cons_zero, List.set_cons_succ]
          refine wpAnyH_take (i := 13) (v := .bool false) rfl (by kernel_rfl) (by kernel_rfl) (by kernel_rfl) (fun _ _ _ h => h) (Or.inl ⟨by rfl, fun W hSw => by go_simp⟩) hHeld ?_
          try simp only [Act.put, List.getElem_toArray, List.getElem_cons_succ, List.getElem_cons_zero, List.setIfInBounds_toArray, List.set_cons_zero, List.set_cons_succ]
          refine wpAnyH_done (by kernel_rfl) ?_ _
          have HROW5 := Lib.hid (HROW.out.kept HQ5.out)
          go_wp2_with fail
          exact ⟨⟨i + 1, fr, by omega, by go_num, rfl, fun _ => by rw [HD2.out], oa, oc, by rw [HD1.out], by rw [HD1.out]; exact HROW5.out⟩, by simp [intOf]; omega⟩
      · rw [hE] at HENd HYES
        obtain ⟨d1, d2⟩ := HYES.out rfl
        have HD1 := Lib.hid d1
        have HD2 := Lib.hid d2
        clear HYES HNO HLAST d1 d2
        go_wp2_with fail
        refine wp_region_held_drew (S := fun W => Only (fun _ => False) wr W) (by kernel_rfl) Only.drew (fun hHeld => ?_)
        refine wpAnyH_take (i := 0) (v := .agg #[.int .u64 (c.p : Int), .int .i64 (c.win : Int), .int .i64 (c.lo : Int), .int .i64 (c.hi : Int), .int .i64 (c.bits : Int)]) rfl (by kernel_rfl) (by kernel_rfl) (by kernel_rfl) (fun _ _ _ h => h) (Or.inl ⟨by rfl, fun W hSw => by have z0 := c0 W hSw; have z1 := c1 W hSw; have z2 := c2 W hSw; have z3 := c3 W hSw; have z4 := c4 W hSw; go_simp⟩) hHeld ?_
        simp only [Act.put, List.getElem_toArray, List.getElem_cons_zero, List.setIfInBounds_toArray, List.set_cons_zero, List.set_cons_succ]
        refine wpAnyH_take (i := 1) (v := .slice va bs.length vc) rfl (by kernel_rfl) (by kernel_rfl) (by kernel_rfl) (fun _ _ _ h => h) (Or.inl ⟨by rfl, fun W hSw => by go_simp⟩) hHeld ?_
        simp only [Act.put, List.getElem_toArray, List.getElem_cons_succ, List.getElem_cons_zero, List.setIfInBounds_toArray, List.set_cons_zero, List.set_cons_succ]
        refine wpAnyH_take (i := 2) (v := .int .i64 (fr : Int)) rfl (by kernel_rfl) (by kernel_rfl) (by kernel_rfl) (fun _ _ _ h => h) (Or.inl ⟨by rfl, fun W hSw => by go_simp⟩) hHeld ?_
        simp only [Act.put, List.getElem_toArray, List.getElem_cons_succ, List.getElem_cons_zero, List.setIfInBounds_toArray, List.set_cons_zero, List.set_cons_succ]
        refine wpAnyH_take (i := 3) (v := .int .i64 (i : Int)) rfl (by kernel_rfl) (by kernel_rfl) (by kernel_rfl) (fun _ _ _ h => h) (Or.inl ⟨by rfl, fun W hSw => by go_simp⟩) hHeld ?_
        simp only [Act.put, List.getElem_toArray, List.getElem_cons_succ, List.getElem_cons_zero, List.setIfInBounds_toArray, List.set_cons_zero, List.set_cons_succ]
        refine wpAnyH_take (i := 4) (v := .int .i64 ((i : Int) + 1)) rfl (by kernel_rfl) (by kernel_rfl) (by kernel_rfl) (fun _ _ _ h => h) (Or.inl ⟨by rfl, fun W hSw => by go_simp⟩) hHeld ?_
        simp only [Act.put, List.getElem_toArray, List.getElem_cons_succ, List.getElem_cons_zero, List.setIfInBounds_toArray, List.set_cons_zero, List.set_cons_succ]
        refine wpAnyH_take (i := 5) (v := .slice sa (i + 1 - fr) (vc - fr)) rfl (by kernel_rfl) (by kernel_rfl) (by kernel_rfl) (fun _ _ _ h => h) (Or.inl ⟨by rfl, fun W hSw => by go_simp⟩) hHeld ?_
        simp only [Act.put, List.getElem_toArray, List.getElem_cons_succ, List.getElem_cons_zero, List.setIfInBounds_toArray, List.set_cons_zero, List.set_cons_succ]
        refine wpAnyH_ready (rs := [6]) (by kernel_rfl) (by simp) (AllReadyH.cons rfl (fun J hJ => ?_) AllReadyH.nil)
        go_simp
        refine (HENd.out _ Only.drew).mono ?_
        rintro e w5 ⟨rfl, hq⟩
        have HQ5 : Hid (Quiet wr w5) := Only.trans Only.drew hq
        clear hq
        refine hJ.out _ _ HQ5.out (fun hHeld => ?_)
        clear hJ J
        refine wpAnyH_take (i := 7) (v := .bool true) rfl (by kernel_rfl) (by kernel_rfl) (by kernel_rfl) (fun _ _ _ h => h) (Or.inl ⟨by rfl, fun W hSw => by go_simp⟩) hHeld ?_
        simp only [Act.put, List.getElem_toArray, List.getElem_cons_succ, List.getElem_cons_zero, List.setIfInBounds_toArray, List.set_cons_zero, List.set_cons_succ]
        refine wpAnyH_take (i := 8) (v := undef) rfl (by kernel_rfl) (by kernel_rfl) (by kernel_rfl) (fun _ _ _ h => h) (Or.inr ⟨by rfl, rfl⟩) hHeld ?_
        simp only [Act.put, List.getElem_toArray, List.getElem_cons_succ, List.getElem_cons_zero, List.setIfInBounds_toArray, List.set_cons_zero, List.set_cons_succ]
        refine wpAnyH_take (i := 9) (v := undef) rfl (by kernel_rfl) (by kernel_rfl) (by kernel_rfl) (fun _ _ _ h => h) (Or.inr ⟨by rfl, rfl⟩) hHeld ?_
        simp only [Act.put, List.getElem_toArray, List.getElem_cons_succ, List.getElem_cons_zero, List.setIfInBounds_toArray, List.set_cons_zero, List.set_cons_succ]
        refine wpAnyH_take (i := 10) (v := undef) rfl (by kernel_rfl) (by kernel_rfl) (by kernel_rfl) (fun _ _ _ h => h) (Or.inr ⟨by rfl, rfl⟩) hHeld ?_
        simp only [Act.put, List.getElem_toArray, List.getElem_cons_succ, List.getElem_cons_zero, List.setIfInBounds_toArray, List.set_cons_zero, List.set_cons_succ]
        refine wpAnyH_take (i := 11) (v := undef) rfl (by kernel_rfl) (by kernel_rfl) (by kernel_rfl) (fun _ _ _ h => h) (Or.inr ⟨by rfl, rfl⟩) hHeld ?_
        simp only [Act.put, List.getElem_toArray, List.getElem_cons_succ, List.getElem_cons_zero, List.setIfInBounds_toArray, List.set_cons_zero, List.set_cons_succ]
        refine wpAnyH_take (i := 12) (v := undef) rfl (by kernel_rfl) (by kernel_rfl) (by kernel_rfl) (fun _ _ _ h => h) (Or.inr ⟨by rfl, rfl⟩) hHeld ?_
        simp only [Act.put, List.getElem_toArray, List.getElem_cons_succ, List.getElem_cons_zero, List.setIfInBounds_toArray, List.set_cons_zero, List.set_cons_succ]
        refine wpAnyH_take (i := 13) (v := .bool true) rfl (by kernel_rfl) (by kernel_rfl) (by kernel_rfl) (fun _ _ _ h => h) (Or.inl ⟨by rfl, fun W hSw => by go_simp⟩) hHeld ?_
        simp only [Act.put, List.getElem_toArray, List.getElem_cons_succ, List.getElem_cons_zero, List.setIfInBounds_toArray, List.set_cons_zero, List.set_cons_succ]
        refine wpAnyH_done (by kernel_rfl) ?_ _
        generalize q.length + 1 = x at *
        go_wp2_with (at_builtin; refine wpList_append_ints _ rfl _ _ rfl (.slice oa rs.length oc) (.slice (some ⟨w5.heap.size, 0, none⟩) 1 1) rs.length (rs.map iV) rfl rfl (HROW.out.keep (HQ5.out.trans (Only.alloc _))) (one_int w5 hx63) (by have := HLEN.out; simp; omega) ?_; intro a1 k1 w6 hr6 hg6 hat6; have HROW6 := Lib.hid (HROW.out.app (ys := [x]) (HQ5.out.trans (Only.alloc _)) rfl hr6 hg6 hat6); clear hr6 hg6 hat6)
        exact ⟨⟨i + 1, i + 1, by omega, by go_num, by go_num, fun _ => by rw [HD2.out]; omega, a1, k1, by rw [HD1.out]; simp, by rw [HD1.out, List.length_append]; exact HROW6.out⟩, by simp [intOf]; omega⟩
    · obtain rfl : i = bs.length := by omega
      rw [HDE.out] at hrow
      rw [HDE.out]
      have HROW := Lib.hid (hrow.back HQ1.out)
      clear hrow hfr
      go_wp2_with fail
      go_ret2
      exact ⟨_, _, rfl, HROW.out⟩

end Go.Proofs.Ytobiajjcnpflgaa
