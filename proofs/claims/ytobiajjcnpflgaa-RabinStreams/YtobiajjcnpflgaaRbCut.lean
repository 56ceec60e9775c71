/- rabin.Cut. Conditions: data within the reach. -/
import Derived.Test.YtobiajjcnpflgaaRbNew2
import Derived.Test.YtobiajjcnpflgaaRbInts
namespace Go.Proofs.Ytobiajjcnpflgaa
open Go.RowKit

theorem slice_lh {a : Option Addr} {n cap l h : Nat} (hlh : l ≤ h) (hc : h ≤ cap) : ∃ a', (l < cap → a' = a.map (·.add l)) ∧ ∀ w : World, (Instr.slice 25 (.slice a n cap) (some (.int .i64 (l : Int))) (some (.int .i64 (h : Int))) none).run Try.prog w = .ok (.slice a' (h - l) (cap - l)) w := by
  refine ⟨if cap = l then a else a.map (·.add l), fun hlt => by rw [if_neg (by omega)], fun w => ?_⟩
  rw [run_slice_lh (ht := by kernel_rfl) (h0 := by omega) (h1 := by omega) (h2 := by omega)]
  have hsz : (sizeOf (Try.prog.elem 25)).run Try.prog w = .ok 1 w := by kernel_rfl
  rw [hsz]
  simp [Result.andThen, sliced]

theorem BytesAt.piece {w : World} {S : Nat → Prop} {a a' : Option Addr} {n cap l h : Nat} {bs : List UInt8} (hv : BytesAt w S (.slice a n cap) bs) (hlh : l < h) (hh : h ≤ bs.length) (ha : l < cap → a' = a.map (·.add l)) :
    BytesAt w S (.slice a' (h - l) (cap - l)) ((bs.take h).drop l) := by
  rcases hv with ⟨_, rfl⟩ | ⟨ad, c, e, hcap, hS, hcell⟩
  · simp at hh; omega
  obtain ⟨rfl, rfl, rfl⟩ := Value.slice.inj e
  have ha := ha (by omega)
  subst ha
  have hl : ((bs.take h).drop l).length = h - l := by simp; omega
  refine .inr ⟨ad.add l, cap - l, by rw [hl]; rfl, by rw [hl]; omega, fun _ => by rw [add_block]; exact hS (by rintro rfl; simp at hh; omega), fun j x hx => ?_⟩
  rw [add_add]
  refine hcell (l + j) x ?_
  rw [List.getElem?_drop, List.getElem?_take] at hx
  split at hx
  · exact hx
  · cases hx

theorem IRow.turn {w wr w1 : World} {T : Nat → Prop} {ov : Value} {xs : List Nat} (h : IRow w wr ov xs) (ho : Only T wr w1) (hT : ∀ k, T k → w.heap.size ≤ k ∧ ov.ownBlock ≠ some k) : IRow w w1 ov xs :=
  ⟨ownsRow_keep h.row (fun q hq => ho.block q (h.row.lt q hq).2 (fun x => (hT q x).2 hq)), h.own, h.only.andThen ho (fun k hk e => by have := (hT k e).1; omega)⟩

/-- Where a cut stands behind i bytes. -/
structure CutAt (w wr : World) (g : Nat) (c : Rb.Cfg) (rs : List Nat) (q : List UInt8) (ov : Value) : Prop where
  ch : ChAt wr g c (c.fw q) (.slice none 0 0)
  gw : w.heap.size ≤ g
  row : IRow w wr ov rs
  gr : ov.ownBlock ≠ some g

theorem CutAt.ends {w wr w1 : World} {g : Nat} {c : Rb.Cfg} {rs : List Nat} {q q' : List UInt8} {ov : Value} (h : CutAt w wr g c rs q ov) (hc : ChAt w1 g c (c.fw q') (.slice none 0 0)) (ho : Only (fun k => k = g) wr w1) : CutAt w w1 g c rs q' ov :=
  ⟨hc, h.gw, h.row.turn ho (fun k hk => by subst hk; exact ⟨h.gw, h.gr⟩), h.gr⟩
theorem CutAt.app {w wr w1 w2 : World} {g : Nat} {c : Rb.Cfg} {rs : List Nat} {q : List UInt8} {ov : Value} {x : Nat} {a : Option Addr} {k : Nat} (h : CutAt w wr g c rs q ov) (ho : Quiet wr w1) (hr : w2.ownsRow 0 3 1 (.slice a (rs.length + 1) k) (rs.length + 1) (rs.map iV ++ [x].map iV)) (hg : w1.grownBy w2 ov.ownBlock) (hat : (Value.slice a (rs.length + 1) k).ownBlock = ov.ownBlock ∨ (Value.slice a (rs.length + 1) k).ownBlock = some w1.heap.size) :
    CutAt w w2 g c (rs ++ [x]) q (.slice a (rs.length + 1) k) := by
  have hlt := (TakeAt.blk h.ch).lt
  have hz := ho.size
  refine ⟨(h.ch.keep ho (fun x => x)).keep (Only.of_grown hg) (fun e => h.gr e.symm), h.gw, h.row.app (ys := [x]) ho rfl hr hg hat, fun e => ?_⟩
  rcases hat with e1 | e1
  · exact h.gr (by rw [← e1]; exact e)
  · rw [e] at e1
    have := Option.some.inj e1
    omega

namespace Rb
theorem ends_hi {c : Cfg} (l : List UInt8) (h : c.ends l = true) : c.lo ≤ l.length ∧ l.length ≤ c.hi := by
  unfold Cfg.ends at h
  simp only [Bool.and_eq_true, decide_eq_true_eq] at h
  exact ⟨h.1, h.2.1⟩
theorem take_snoc {bs : List UInt8} {i : Nat} (h : i < bs.length) : bs.take (i + 1) = bs.take i ++ [bs[i]] := (List.take_append_getElem h).symm
theorem run_len (E : List UInt8 → Bool) : ∀ (a pre : List UInt8), (run E pre a).1.length ≤ a.length
  | [], pre => by rw [run_nil]; simp
  | x :: a, pre => by
    by_cases h : E (pre ++ [x]) = true
    · rw [run_end _ h]; have := run_len E a []; simp; omega
    · rw [run_on _ h]; have := run_len E a (pre ++ [x]); simp; omega
theorem Cfg.Ok.hi0 {c : Cfg} (h : c.Ok) : 0 < c.hi := by have := h.w1; have := h.wlo; have := h.lohi; omega
/-- What the cut has behind i bytes: the piece at hand, and its place. -/
theorem cut_at {c : Cfg} (h : c.Ok) (bs : List UInt8) {i : Nat} (hi : i ≤ bs.length) : (run c.ends [] (bs.take i)).1.sum + (run c.ends [] (bs.take i)).2.length = i ∧ (run c.ends [] (bs.take i)).2.length < c.hi ∧ (run c.ends [] (bs.take i)).2 = (bs.take i).drop (run c.ends [] (bs.take i)).1.sum := by
  have h1 := run_sum c.ends (bs.take i) []
  have h2 := run_short (E := c.ends) (hi := c.hi) (fun l hl => ends_full h hl) (bs.take i) [] h.hi0
  refine ⟨?_, h2, run_left _ _⟩
  simp only [List.length_nil, List.length_take] at h1
  omega
theorem cut_piece {c : Cfg} (h : c.Ok) (bs : List UInt8) {i : Nat} (hi : i < bs.length) : (bs.take (i + 1)).drop (run c.ends [] (bs.take i)).1.sum = (run c.ends [] (bs.take i)).2 ++ [bs[i]] := by
  obtain ⟨h1, h2, h3⟩ := cut_at h bs (i := i) (by omega)
  rw [take_snoc hi, List.drop_append_of_le_length (by rw [List.length_take]; omega), ← h3]
end Rb

set_option maxRecDepth 100000 in
set_option maxHeartbeats 1000000 in
theorem cutBad_any {s : Set7} (h64 : s.P < 18446744073709551616) (hg : Rb.good s = false) (v : Value) (w : World) :
    Calls Try.prog 13 #[setV s, v] w fun e w' => e = .returned (.tuple #[.slice none 0 0, .iface 43 (.int .i64 11)]) ∧ Quiet w w' := by
  have HN := Lib.hid (fun W => newBad_any h64 hg W)
  unfold setV at HN ⊢
  go_enter Try.func13, Try.ntmps13
  go_wp2_with fail
  refine (HN.out _).mono ?_
  rintro e w1 ⟨rfl, hq⟩
  have HQ := Lib.hid ((Only.alloc _).trans hq)
  clear hq
  go_wp2_with fail
  go_ret2
  exact ⟨rfl, HQ.out⟩

set_option maxRecDepth 100000 in
set_option maxHeartbeats 1000000 in
theorem cut7_any {c : Rb.Cfg} (hc : c.Ok) {w : World} {S : Nat → Prop} {v : Value} {bs : List UInt8} (hv : BytesAt w S v bs) (hS : ∀ k, S k → k < w.heap.size) (hlen : bs.length ≤ 1099511627775) :
    Calls Try.prog 13 #[setV c.set, v] w fun e w' => ∃ a k, e = .returned (.tuple #[.slice a (Rb.cuts c.ends bs).length k, .nilIface]) ∧ IRow w w' (.slice a (Rb.cuts c.ends bs).length k) (Rb.cuts c.ends bs) := by
  have HN := Lib.hid (fun W => new7_any hc W)
  have HV := Lib.hid hv
  have HS := Lib.hid hS
  have HC := Lib.hid hc
  have HAT := Lib.hid (fun i hi => Rb.cut_at hc bs (i := i) hi)
  have HPC := Lib.hid (fun i hi => Rb.cut_piece hc bs (i := i) hi)
  obtain ⟨va, vc, rfl⟩ := hv.shape
  have hvc : bs.length ≤ vc := by
    rcases hv with ⟨h1, h2⟩ | ⟨ad, c', h1, h2, _⟩
    · subst h2; simp
    · have := (Value.slice.inj h1).2.2; omega
  clear hv hS hc
  unfold setV at HN ⊢
  go_enter Try.func13, Try.ntmps13
  go_wp2_with fail
  refine (HN.out _).mono ?_
  rintro e w1 ⟨g, rfl, hgw, hch, hq⟩
  have HQ := Lib.hid ((Only.alloc _).trans hq)
  rw [World.size_alloc] at hgw
  have HST : Hid (CutAt w w1 g c [] [] (.slice none 0 0)) := ⟨hch, by omega, ⟨⟨rfl, .inl ⟨rfl, rfl⟩⟩, fun _ h => (by cases h), HQ.out⟩, fun h => by cases h⟩
  clear hq hch HN
  go_wp2_with fail
  go_loopw [8, 9, 22] (fun s8 s9 s22 wr => ∃ i : Nat, i ≤ bs.length ∧ s22 = .int .i64 (i : Int) ∧ s9 = .int .i64 ((Rb.run c.ends [] (bs.take i)).1.sum : Int) ∧ CutAt w wr g c (Rb.run c.ends [] (bs.take i)).1 (Rb.run c.ends [] (bs.take i)).2 s8) (fun _ _ s22 _ => bs.length - (intOf s22).toNat)
  case atStart => exact ⟨0, Nat.zero_le _, rfl, by simp [Rb.run_nil], by simpa [Rb.run_nil] using HST.out⟩
  case round =>
    clear HST HQ
    obtain ⟨i, hi, rfl, rfl, hcu⟩ := hrel
    have HCU := Lib.hid hcu
    obtain ⟨oa, oc, rfl⟩ := hcu.row.shape
    clear hcu
    by_cases hlt : i < bs.length
    · obtain ⟨h1, h2, h3⟩ := HAT.out i hi
      have HP := Lib.hid (HPC.out i hlt)
      have HE1 : Hid (c.ends ((Rb.run c.ends [] (bs.take i)).2 ++ [bs[i]]) = true → Rb.run c.ends [] (bs.take (i + 1)) = ((Rb.run c.ends [] (bs.take i)).1 ++ [(Rb.run c.ends [] (bs.take i)).2.length + 1], [])) := fun h => by
        rw [Rb.take_snoc hlt]; exact Rb.run_snoc_end h
      have HE0 : Hid (c.ends ((Rb.run c.ends [] (bs.take i)).2 ++ [bs[i]]) = false → Rb.run c.ends [] (bs.take (i + 1)) = ((Rb.run c.ends [] (bs.take i)).1, (Rb.run c.ends [] (bs.take i)).2 ++ [bs[i]])) := fun h => by
        rw [Rb.take_snoc hlt]; exact Rb.run_snoc_on (by rw [h]; simp)
      have HLEN : Hid ((Rb.run c.ends [] (bs.take i)).1.length ≤ i) := Nat.le_trans (Rb.run_len _ _ _) (by simp; omega)
      clear h3
      generalize (Rb.run c.ends [] (bs.take i)).1 = rs at *
      generalize (Rb.run c.ends [] (bs.take i)).2 = q at *
      generalize bs[i] = b at *
      obtain ⟨fr, hfr⟩ : ∃ fr, rs.sum = fr := ⟨_, rfl⟩
      rw [hfr] at HP h1
      rw [hfr]
      have HFR := Lib.hid hfr
      obtain ⟨sa, hsa, hsl⟩ := slice_lh (a := va) (n := bs.length) (cap := vc) (l := fr) (h := i + 1) (by omega) (by omega)
      have hvr := HV.out.only HCU.out.row.only HS.out (fun _ _ x => x)
      have hpi := hvr.piece (l := fr) (h := i + 1) (by omega) (by omega) hsa
      rw [HP.out] at hpi
      have HEN := Lib.hid (ends_any HC.out HCU.out.ch hpi (fun k hk => ⟨Nat.lt_of_lt_of_le (HS.out k hk) HCU.out.row.only.size, fun e => by have := HS.out k hk; have := HCU.out.gw; omega⟩) h2)
      have hsl' : ∀ w : World, (Instr.slice 25 (.slice va bs.length vc) (some (.int .i64 (fr : Int))) (some (.int .i64 ((i : Int) + 1))) none).run Try.prog w = .ok (.slice sa (i + 1 - fr) (vc - fr)) w := hsl
      clear hvr hpi hsa hfr HP hsl
      rcases hE : c.ends (q ++ [b]) with _ | _
      · rw [hE, Rb.Cfg.next_on hE] at HEN
        have HR := Lib.hid (HE0.out hE)
        clear HE0 HE1
        go_wp2_with fail
        refine HEN.out.mono ?_
        rintro e w2 ⟨rfl, hch, ho⟩
        have HCU2 := Lib.hid (HCU.out.ends hch ho)
        clear hch ho
        go_wp2_with fail
        exact ⟨⟨i + 1, by omega, by go_num, by rw [HR.out, HFR.out], by rw [HR.out]; exact HCU2.out⟩, by simp [intOf]; omega⟩
      · rw [hE, Rb.Cfg.next_end hE] at HEN
        have HR := Lib.hid (HE1.out hE)
        have hx : (i : Int) + 1 - (fr : Int) = ((q.length + 1 : Nat) : Int) := by omega
        have hx63 : q.length + 1 < 9223372036854775808 := by omega
        have HSUM : Hid (((rs ++ [q.length + 1]).sum : Nat) = i + 1) := by unfold Hid; rw [List.sum_append, HFR.out]; simp; omega
        clear HE0 HE1
        generalize q.length + 1 = x at *
        go_wp2_with fail
        refine HEN.out.mono ?_
        rintro e w2 ⟨rfl, hch, ho⟩
        have HCU2 := Lib.hid (HCU.out.ends hch ho)
        clear hch ho
        go_wp2_with (at_builtin; refine wpList_append_ints _ rfl _ _ rfl (.slice oa rs.length oc) (.slice (some ⟨w2.heap.size, 0, none⟩) 1 1) rs.length (rs.map iV) rfl rfl (HCU2.out.row.keep (Only.alloc _)) (one_int w2 hx63) (by have := HLEN.out; simp; omega) ?_; intro a1 k1 w3 hr3 hg3 hat3; have HCU3 := Lib.hid (HCU2.out.app (Only.alloc _) hr3 hg3 hat3); clear hr3 hg3 hat3)
        exact ⟨⟨i + 1, by omega, by go_num, by rw [HR.out, HSUM.out]; go_num, by rw [HR.out]; exact HCU3.out⟩, by simp [intOf]; omega⟩
    · obtain rfl : i = bs.length := by omega
      obtain ⟨h1, h2, _⟩ := HAT.out bs.length (Nat.le_refl _)
      have HLEN : Hid ((Rb.run c.ends [] (bs.take bs.length)).1.length ≤ bs.length) := Nat.le_trans (Rb.run_len _ _ _) (by simp)
      have HCUTS : Hid (Rb.cuts c.ends bs = (Rb.run c.ends [] (bs.take bs.length)).1 ++ Rb.last (Rb.run c.ends [] (bs.take bs.length)).2) := by rw [List.take_length]; rfl
      generalize (Rb.run c.ends [] (bs.take bs.length)).1 = rs at *
      generalize (Rb.run c.ends [] (bs.take bs.length)).2 = q at *
      obtain ⟨fr, hfr⟩ : ∃ fr, rs.sum = fr := ⟨_, rfl⟩
      rw [hfr] at h1
      rw [hfr]
      have HH := Lib.hid h2
      clear hfr h2 HAT HPC
      by_cases hq : q = []
      · subst hq
        have hfr : ¬ (fr : Int) < (bs.length : Int) := by simp at h1; omega
        go_wp2_with fail
        go_ret2
        rw [HCUTS.out, show Rb.last [] = [] from rfl, List.append_nil]
        exact ⟨_, _, rfl, HCU.out.row⟩
      · have hpos := List.length_pos_iff.2 hq
        have e : Rb.last q = [q.length] := by unfold Rb.last; rw [if_neg hq]
        rw [e] at HCUTS
        have hx : (bs.length : Int) - (fr : Int) = (q.length : Int) := by omega
        have hfl : (fr : Int) < (bs.length : Int) := by omega
        have hx63 : q.length < 9223372036854775808 := by have := HC.out.hi16; have := HH.out; omega
        clear e h1 hpos
        generalize q.length = x at *
        go_wp2_with (at_builtin; refine wpList_append_ints _ rfl _ _ rfl (.slice oa rs.length oc) (.slice (some ⟨wr.heap.size, 0, none⟩) 1 1) rs.length (rs.map iV) rfl rfl (HCU.out.row.keep (Only.alloc _)) (one_int wr hx63) (by have := HLEN.out; simp; omega) ?_; intro a1 k1 w3 hr3 hg3 hat3; have HCU3 := Lib.hid (HCU.out.app (Only.alloc _) hr3 hg3 hat3); clear hr3 hg3 hat3)
        go_ret2
        rw [HCUTS.out, List.length_append]
        exact ⟨_, _, rfl, HCU3.out.row⟩

end Go.Proofs.Ytobiajjcnpflgaa
