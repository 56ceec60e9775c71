/- RabinMeeting. Conditions: rows within the reach. -/
import Derived.Test.YtobiajjcnpflgaaRbLens
import Derived.Test.YtobiajjcnpflgaaRbPrts
import Derived.Test.YtobiajjcnpflgaaRbRls
import Derived.Test.YtobiajjcnpflgaaRbArgs
namespace Go.Proofs.Ytobiajjcnpflgaa
open Go.RowKit

/-- What Cut answers: an error, or the cuts. -/
def CutIs (o : Option Rb.Cfg) (w w' : World) (a : Option Addr) (n k : Nat) (ev : Value) (bs : List UInt8) : Prop :=
  match o with
  | none => ev = .iface 43 (.int .i64 11)
  | some c => ev = .nilIface ∧ n = (Rb.cuts c.ends bs).length ∧ IRow w w' (.slice a n k) (Rb.cuts c.ends bs)

theorem cut_both {s : Set7} (h64 : s.P < 18446744073709551616) : ∃ o : Option Rb.Cfg, (∀ c, o = some c → c.Ok) ∧ ∀ (w : World) (S : Nat → Prop) (v : Value) (bs : List UInt8), BytesAt w S v bs → (∀ k, S k → k < w.heap.size) → bs.length ≤ 1099511627775 →
    Calls Try.prog 13 #[setV s, v] w fun e w' => ∃ a n k ev, e = .returned (.tuple #[.slice a n k, ev]) ∧ Quiet w w' ∧ CutIs o w w' a n k ev bs := by
  rcases hgd : Rb.good s with _ | _
  · refine ⟨none, fun c h => (by cases h), fun w S v bs hv hS hl => (cutBad_any h64 hgd v w).mono ?_⟩
    rintro e w' ⟨rfl, hq⟩
    exact ⟨_, _, _, _, rfl, hq, rfl⟩
  · obtain ⟨c, hc, rfl⟩ := Rb.good_cfg h64 hgd
    refine ⟨some c, fun c' h => (by cases h; exact hc), fun w S v bs hv hS hl => (cut7_any hc hv hS hl).mono ?_⟩
    rintro e w' ⟨a, k, rfl, hr⟩
    exact ⟨_, _, _, _, rfl, hr.only, rfl, rfl, hr⟩

/-- behind: the number of the chunk that begins at a place. -/
def Beh (xs : List Nat) (place : Nat) (r : Int) : Prop := r < 0 ∨ ∃ p : Nat, r = (p : Int) ∧ p < xs.length ∧ (xs.take p).sum = place

set_option maxRecDepth 100000 in
set_option maxHeartbeats 1000000 in
theorem behind_any {w w0 : World} {a : Option Addr} {n k place : Nat} {xs : List Nat} (h : IRow w0 w (.slice a n k) xs) (hn : n = xs.length) (hs : xs.sum ≤ 1099511627775) (hl : n ≤ 1099511627775) :
    Calls Try.prog 42 #[.slice a n k, .int .i64 (place : Int)] w fun e w' => ∃ r : Int, e = .returned (.int .i64 r) ∧ Beh xs place r ∧ w = w' := by
  subst hn
  have HROW := Lib.hid h
  clear h
  have HLE := Lib.hid (fun i => Rb.take_sum_le xs i)
  go_enter Try.func42, Try.ntmps42
  go_wp2_with fail
  go_loop [5, 10] (fun sv iv => ∃ i : Nat, i ≤ xs.length ∧ iv = .int .i64 (i : Int) ∧ sv = .int .i64 ((xs.take i).sum : Int)) (fun _ iv => xs.length - (intOf iv).toNat)
  case atStart => exact ⟨0, Nat.zero_le _, rfl, rfl⟩
  case round =>
    obtain ⟨i, hi, rfl, rfl⟩ := hrel
    by_cases hlt : i < xs.length
    · obtain ⟨q, rfl, hcell⟩ := HROW.out.get hlt
      have HN := Lib.hid (Rb.take_sum_next hlt)
      have hle := HLE.out (i + 1)
      rw [HN.out] at hle
      generalize xs[i] = x at *
      obtain ⟨y, hy⟩ : ∃ y, (xs.take i).sum = y := ⟨_, rfl⟩
      have HY := Lib.hid hy
      rw [hy] at HN hle
      rw [hy]
      clear hy
      have pz : 0 ≤ (i : Int) := by omega
      have mz : (i : Int) < (xs.length : Int) := by omega
      by_cases hyp : y = place
      · have HYP := Lib.hid hyp
        have e1 : ((y : Int) == (place : Int)) = true := by simp [hyp]
        have HLT := Lib.hid hlt
        clear hyp
        go_wp2_with fail
        go_ret
        exact ⟨_, rfl, .inr ⟨i, rfl, HLT.out, by rw [HY.out, HYP.out]⟩, rfl⟩
      · have e1 : ((y : Int) == (place : Int)) = false := by simp; omega
        have HLT := Lib.hid hlt
        clear hyp
        go_wp2_with fail
        go_round
        case rel => exact ⟨i + 1, by have := HLT.out; omega, by go_num, by rw [HN.out]; go_num⟩
        case measure => have := HLT.out; simp [intOf]; omega
    · go_wp2_with fail
      go_ret
      exact ⟨_, rfl, .inl (by decide), rfl⟩

theorem slice_l_ints {a : Option Addr} {n cap m : Nat} (h : m ≤ n) (_ : n ≤ cap) : ∃ a', (m < cap → a' = a.map (·.add m)) ∧ ∀ w : World, (Instr.slice 29 (.slice a n cap) (some (.int .i64 (m : Int))) none none).run Try.prog w = .ok (.slice a' (n - m) (cap - m)) w := by
  refine ⟨if cap = m then a else a.map (·.add m), fun hlt => by rw [if_neg (by omega)], fun w => ?_⟩
  rw [run_slice_l (ht := by kernel_rfl) (h0 := by omega) (h1 := by omega)]
  have hsz : (sizeOf (Try.prog.elem 29)).run Try.prog w = .ok 1 w := by kernel_rfl
  rw [hsz]
  simp [Result.andThen, sliced]
theorem IntsAt.drop {w : World} {S : Nat → Prop} {a a' : Option Addr} {n c p : Nat} {xs : List Nat} (h : IntsAt w S (.slice a n c) xs) (hp : p < xs.length) (ha : p < c → a' = a.map (·.add p)) : n = xs.length ∧ IntsAt w S (.slice a' (n - p) (c - p)) (xs.drop p) := by
  obtain ⟨a0, c0, e, hc, h2⟩ := h
  obtain ⟨rfl, rfl, rfl⟩ := Value.slice.inj e
  refine ⟨rfl, a', c - p, by simp, by simp; omega, fun i hi => ?_⟩
  rw [List.length_drop] at hi
  obtain ⟨ad, e1, e2, e3, e4⟩ := h2 (p + i) (by omega)
  subst e1
  refine ⟨ad.add p, by rw [ha (by omega)]; rfl, by rw [add_block]; exact e2, ?_, ?_⟩
  · rw [add_add]; simpa using e3
  · simpa using e4
theorem Rb.meets {c : Rb.Cfg} (h : c.Ok) (a b : List UInt8) {p : Nat} (hp : p < (Rb.cuts c.ends (a ++ b)).length) (hs : ((Rb.cuts c.ends (a ++ b)).take p).sum = a.length) : (Rb.cuts c.ends (a ++ b)).drop p = Rb.cuts c.ends b :=
  Rb.meet (fun x hx => by obtain ⟨i, hi, rfl⟩ := List.getElem_of_mem hx; exact (Rb.E_bounds h _ i hi).1) hp hs
theorem Rb.cuts_63' {c : Rb.Cfg} (h : c.Ok) (bs : List UInt8) : ∀ x ∈ Rb.cuts c.ends bs, x < 9223372036854775808 := fun x hx => by
  obtain ⟨i, hi, rfl⟩ := List.getElem_of_mem hx
  have h1 := (Rb.E_bounds h bs i hi).2.1
  have := h.hi16
  omega

set_option maxRecDepth 100000 in
set_option maxHeartbeats 2000000 in
theorem meets_any {w : World} {s : Set7} (h64 : s.P < 18446744073709551616) {Sa Sb Se : Nat → Prop} {v u z : Value} {xa xb xe : List UInt8} (hv : BytesAt w Sa v xa) (hSa : ∀ k, Sa k → k < w.heap.size) (_ : xa.length ≤ 140737488351232)
    (hu : BytesAt w Sb u xb) (hSb : ∀ k, Sb k → k < w.heap.size) (_ : xb.length ≤ 140737488351232) (hz : BytesAt w Se z xe) (hSe : ∀ k, Se k → k < w.heap.size) (_ : xe.length ≤ 140737488351232) :
    Calls Try.prog 29 #[setV s, v, u, z] w fun e w' => e = .returned (.bool true) ∧ Quiet w w' := by
  have HA := Lib.hid alive7_any
  have HVA : Hid (∀ W, Quiet w W → BytesAt W (fun k => k < W.heap.size) v xa) := fun W hq => hv.here hq hSa
  have HVB : Hid (∀ W, Quiet w W → BytesAt W (fun k => k < W.heap.size) u xb) := fun W hq => hu.here hq hSb
  have HE : Hid (∀ W, Quiet w W → BytesAt W (fun k => k < W.heap.size) z xe) := fun W hq => hz.here hq hSe
  obtain ⟨va, vc, rfl⟩ := hv.shape
  obtain ⟨ua, uc, rfl⟩ := hu.shape
  obtain ⟨ea, ec, rfl⟩ := hz.shape
  have HB0 : Hid (Blk (w.alloc (.cells #[.int .u64 (s.P : Int), .int .i64 s.W, .int .i64 s.L, .int .i64 s.H, .int .i64 s.B] 24)) w.heap.size (setL s) 24) := Blk.new w (setL s) 24
  have HQ0 : Hid (Quiet w (w.alloc (.cells #[.int .u64 (s.P : Int), .int .i64 s.W, .int .i64 s.L, .int .i64 s.H, .int .i64 s.B] 24))) := Only.alloc _
  clear hv hSa hu hSb hz hSe
  unfold setV
  by_cases ha : xa.length > 16384
  · have ha' : (xa.length : Int) > 16384 := by omega
    go_enter Try.func29, Try.ntmps29
    go_wp2_with fail
    refine (HA.out _).mono ?_
    rintro e w1 ⟨rfl, hq⟩
    have HQ1 := Lib.hid (HQ0.out.trans hq)
    clear hq
    go_wp2_with fail
    go_ret
    exact ⟨rfl, HQ1.out⟩
  have ha' : ¬ (xa.length : Int) > 16384 := by omega
  by_cases hb : xb.length > 16384
  · have hb' : (xb.length : Int) > 16384 := by omega
    go_enter Try.func29, Try.ntmps29
    go_wp2_with fail
    refine (HA.out _).mono ?_
    rintro e w1 ⟨rfl, hq⟩
    have HQ1 := Lib.hid (HQ0.out.trans hq)
    clear hq
    go_wp2_with fail
    go_ret
    exact ⟨rfl, HQ1.out⟩
  have hb' : ¬ (xb.length : Int) > 16384 := by omega
  by_cases he : xe.length > 16384
  · have he' : (xe.length : Int) > 16384 := by omega
    go_enter Try.func29, Try.ntmps29
    go_wp2_with fail
    refine (HA.out _).mono ?_
    rintro e w1 ⟨rfl, hq⟩
    have HQ1 := Lib.hid (HQ0.out.trans hq)
    clear hq
    go_wp2_with fail
    go_ret
    exact ⟨rfl, HQ1.out⟩
  have he' : ¬ (xe.length : Int) > 16384 := by omega
  obtain ⟨o, hok, hC⟩ := cut_both h64
  have HOK := Lib.hid hok
  have HC := Lib.hid hC
  unfold setV at HC
  clear hok hC
  obtain ⟨g, hg⟩ : ∃ g, w.heap.size = g := ⟨_, rfl⟩
  rw [hg] at HB0
  go_enter Try.func29, Try.ntmps29
  go_wp2_with fail
  refine (HA.out _).mono ?_
  rintro e w1 ⟨rfl, hq⟩
  have HQ1 := Lib.hid (HQ0.out.trans hq)
  have HB1 := Lib.hid (HB0.out.keep hq (fun x => x))
  clear hq HQ0 HB0
  go_wp2_with fail
  have hSET : ∀ W, Only (fun _ => False) w1 W → SetAt W g s := fun W ho => SetAt.of_blk (HB1.out.keep ho (fun x => x))
  have c0 : ∀ W, Only (fun _ => False) w1 W → W.cell? ⟨g, 0, none⟩ = some (.int .u64 (s.P : Int)) := fun W ho => (hSET W ho).c0
  have c1 : ∀ W, Only (fun _ => False) w1 W → W.cell? ⟨g, 1, none⟩ = some (.int .i64 s.W) := fun W ho => (hSET W ho).c1
  have c2 : ∀ W, Only (fun _ => False) w1 W → W.cell? ⟨g, 2, none⟩ = some (.int .i64 s.L) := fun W ho => (hSET W ho).c2
  have c3 : ∀ W, Only (fun _ => False) w1 W → W.cell? ⟨g, 3, none⟩ = some (.int .i64 s.H) := fun W ho => (hSET W ho).c3
  have c4 : ∀ W, Only (fun _ => False) w1 W → W.cell? ⟨g, 4, none⟩ = some (.int .i64 s.B) := fun W ho => (hSET W ho).c4
  have HD1 : Hid (Quiet w1 w1.drew) := Only.drew
  clear hSET
  refine wp_region_held_drew (S := fun W => Only (fun _ => False) w1 W) (by kernel_rfl) Only.drew (fun hHeld => ?_)
  generalize w1.drew = wd1 at *
  refine wpAnyH_take (i := 0) (v := .agg #[.int .u64 (s.P : Int), .int .i64 s.W, .int .i64 s.L, .int .i64 s.H, .int .i64 s.B]) rfl (by kernel_rfl) (by kernel_rfl) (by kernel_rfl) (fun _ _ _ h => h) (Or.inl ⟨by rfl, fun W hSw => by have z0 := c0 W hSw; have z1 := c1 W hSw; have z2 := c2 W hSw; have z3 := c3 W hSw; have z4 := c4 W hSw; go_simp⟩) hHeld ?_
  try simp only [Act.put, List.getElem_toArray, List.getElem_cons_zero, List.setIfInBounds_toArray, List.set_cons_zero, List.set_cons_succ]
  refine wpAnyH_take (i := 2) (v := .slice va xa.length vc) rfl (by kernel_rfl) (by kernel_rfl) (by kernel_rfl) (fun _ _ _ h => h) (Or.inl ⟨by rfl, fun W hSw => by go_simp⟩) hHeld ?_
  try simp only [Act.put, List.getElem_toArray, List.getElem_cons_succ, List.getElem_cons_zero, List.setIfInBounds_toArray, List.set_cons_zero, List.set_cons_succ]
  refine wpAnyH_take (i := 4) (v := .slice ea xe.length ec) rfl (by kernel_rfl) (by kernel_rfl) (by kernel_rfl) (fun _ _ _ h => h) (Or.inl ⟨by rfl, fun W hSw => by go_simp⟩) hHeld ?_
  try simp only [Act.put, List.getElem_toArray, List.getElem_cons_succ, List.getElem_cons_zero, List.setIfInBounds_toArray, List.set_cons_zero, List.set_cons_succ]
  have HR1 := Lib.hid (Row.start HD1.out)
  refine wpAnyH_ready (rs := [1]) (by kernel_rfl) (by simp) (AllReadyH.cons rfl (fun J hJ => ?_) AllReadyH.nil)
  go_simp
  refine hJ.out _ _ HR1.out.only (fun hHeld => ?_)
  clear hJ J
  try simp only [Act.put, List.getElem_toArray, List.getElem_cons_succ, List.getElem_cons_zero, List.setIfInBounds_toArray, List.set_cons_zero, List.set_cons_succ]
  have HXV1 := Lib.hid (HVA.out _ (HQ1.out.trans HR1.out.only))
  refine wpAnyH_ready (rs := [3]) (by kernel_rfl) (by simp) (AllReadyH.cons rfl (fun J hJ => ?_) AllReadyH.nil)
  refine step_append_bytes (by rfl) _ _ (by rfl) (.slice (some ⟨wd1.heap.size, 0, none⟩) 0 0) (.slice va xa.length vc) 0 [] rfl rfl HR1.out.row HXV1.out (by omega) ?_
  intro a11 k11 w16 hr6 hg6 hat6
  have HRa1 := Lib.hid (HR1.out.app (Only.refl _ _) rfl hr6 hg6 hat6)
  rw [List.length_nil, Nat.zero_add, List.nil_append] at HRa1
  clear hr6 hg6 hat6
  rw [Nat.zero_add]
  refine hJ.out _ _ HRa1.out.only (fun hHeld => ?_)
  clear hJ J
  try simp only [Act.put, List.getElem_toArray, List.getElem_cons_succ, List.getElem_cons_zero, List.setIfInBounds_toArray, List.set_cons_zero, List.set_cons_succ]
  have HXE1 := Lib.hid (HE.out _ (HQ1.out.trans HRa1.out.only))
  refine wpAnyH_ready (rs := [5]) (by kernel_rfl) (by simp) (AllReadyH.cons rfl (fun J hJ => ?_) AllReadyH.nil)
  refine step_append_bytes (by rfl) _ _ (by rfl) (.slice a11 xa.length k11) (.slice ea xe.length ec) xa.length (xa.map byteV) rfl rfl HRa1.out.row HXE1.out (by omega) ?_
  intro a12 k12 w17 hr7 hg7 hat7
  have HRb1 := Lib.hid (HRa1.out.app (Only.refl _ _) rfl hr7 hg7 hat7)
  clear hr7 hg7 hat7
  refine hJ.out _ _ HRb1.out.only (fun hHeld => ?_)
  clear hJ J
  try simp only [Act.put, List.getElem_toArray, List.getElem_cons_succ, List.getElem_cons_zero, List.setIfInBounds_toArray, List.set_cons_zero, List.set_cons_succ]
  have HC1 := Lib.hid (HC.out w17 _ _ _ HRb1.out.bytes (fun _ h => h) (by rw [List.length_append]; omega))
  refine wpAnyH_ready (rs := [6]) (by kernel_rfl) (by simp) (AllReadyH.cons rfl (fun J hJ => ?_) AllReadyH.nil)
  go_simp
  refine HC1.out.mono ?_
  rintro e w2 ⟨a1, n1, k1, ev1, rfl, hq, his⟩
  have HIS1 := Lib.hid his
  have HO1 := Lib.hid (HRb1.out.only.trans hq)
  clear hq his
  refine hJ.out _ _ HO1.out (fun hHeld => ?_)
  clear hJ J
  try simp only [Act.put, List.getElem_toArray, List.getElem_cons_succ, List.getElem_cons_zero, List.setIfInBounds_toArray, List.set_cons_zero, List.set_cons_succ]
  refine wpAnyH_take (i := 7) (v := .tuple #[.slice a1 n1 k1, ev1]) rfl (by kernel_rfl) (by kernel_rfl) (by kernel_rfl) (fun _ _ _ h => h) (Or.inl ⟨by rfl, fun W hSw => by go_simp⟩) hHeld ?_
  try simp only [Act.put, List.getElem_toArray, List.getElem_cons_succ, List.getElem_cons_zero, List.setIfInBounds_toArray, List.set_cons_zero, List.set_cons_succ]
  refine wpAnyH_take (i := 8) (v := .slice a1 n1 k1) rfl (by kernel_rfl) (by kernel_rfl) (by kernel_rfl) (fun _ _ _ h => h) (Or.inl ⟨by rfl, fun W hSw => by go_simp⟩) hHeld ?_
  try simp only [Act.put, List.getElem_toArray, List.getElem_cons_succ, List.getElem_cons_zero, List.setIfInBounds_toArray, List.set_cons_zero, List.set_cons_succ]
  refine wpAnyH_take (i := 9) (v := ev1) rfl (by kernel_rfl) (by kernel_rfl) (by kernel_rfl) (fun _ _ _ h => h) (Or.inl ⟨by rfl, fun W hSw => by go_simp⟩) hHeld ?_
  try simp only [Act.put, List.getElem_toArray, List.getElem_cons_succ, List.getElem_cons_zero, List.setIfInBounds_toArray, List.set_cons_zero, List.set_cons_succ]
  refine wpAnyH_ready (rs := [10]) (by kernel_rfl) (by simp) (AllReadyH.cons rfl (fun J hJ => ?_) AllReadyH.nil)
  go_simp
  refine hJ.out _ _ HO1.out (fun hHeld => ?_)
  clear hJ J
  try simp only [Act.put, List.getElem_toArray, List.getElem_cons_succ, List.getElem_cons_zero, List.setIfInBounds_toArray, List.set_cons_zero, List.set_cons_succ]
  refine wpAnyH_ready (rs := [11]) (by kernel_rfl) (by simp) (AllReadyH.cons rfl (fun J hJ => ?_) AllReadyH.nil)
  go_simp
  refine hJ.out _ _ HO1.out (fun hHeld => ?_)
  clear hJ J
  try simp only [Act.put, List.getElem_toArray, List.getElem_cons_succ, List.getElem_cons_zero, List.setIfInBounds_toArray, List.set_cons_zero, List.set_cons_succ]
  refine wpAnyH_done (by kernel_rfl) ?_ _
  have HQ2 := Lib.hid (HQ1.out.trans HO1.out)
  have HB2 := Lib.hid (HB1.out.keep HO1.out (fun x => x))
  clear c0 c1 c2 c3 c4 hHeld HC1 HR1 HRa1 HRb1 HXV1 HXE1 HD1
  go_wp2_with fail
  have hSET : ∀ W, Only (fun _ => False) w2 W → SetAt W g s := fun W ho => SetAt.of_blk (HB2.out.keep ho (fun x => x))
  have c0 : ∀ W, Only (fun _ => False) w2 W → W.cell? ⟨g, 0, none⟩ = some (.int .u64 (s.P : Int)) := fun W ho => (hSET W ho).c0
  have c1 : ∀ W, Only (fun _ => False) w2 W → W.cell? ⟨g, 1, none⟩ = some (.int .i64 s.W) := fun W ho => (hSET W ho).c1
  have c2 : ∀ W, Only (fun _ => False) w2 W → W.cell? ⟨g, 2, none⟩ = some (.int .i64 s.L) := fun W ho => (hSET W ho).c2
  have c3 : ∀ W, Only (fun _ => False) w2 W → W.cell? ⟨g, 3, none⟩ = some (.int .i64 s.H) := fun W ho => (hSET W ho).c3
  have c4 : ∀ W, Only (fun _ => False) w2 W → W.cell? ⟨g, 4, none⟩ = some (.int .i64 s.B) := fun W ho => (hSET W ho).c4
  have HD2 : Hid (Quiet w2 w2.drew) := Only.drew
  clear hSET
  refine wp_region_held_drew (S := fun W => Only (fun _ => False) w2 W) (by kernel_rfl) Only.drew (fun hHeld => ?_)
  generalize w2.drew = wd2 at *
  refine wpAnyH_take (i := 0) (v := .agg #[.int .u64 (s.P : Int), .int .i64 s.W, .int .i64 s.L, .int .i64 s.H, .int .i64 s.B]) rfl (by kernel_rfl) (by kernel_rfl) (by kernel_rfl) (fun _ _ _ h => h) (Or.inl ⟨by rfl, fun W hSw => by have z0 := c0 W hSw; have z1 := c1 W hSw; have z2 := c2 W hSw; have z3 := c3 W hSw; have z4 := c4 W hSw; go_simp⟩) hHeld ?_
  try simp only [Act.put, List.getElem_toArray, List.getElem_cons_zero, List.setIfInBounds_toArray, List.set_cons_zero, List.set_cons_succ]
  refine wpAnyH_take (i := 2) (v := .slice ua xb.length uc) rfl (by kernel_rfl) (by kernel_rfl) (by kernel_rfl) (fun _ _ _ h => h) (Or.inl ⟨by rfl, fun W hSw => by go_simp⟩) hHeld ?_
  try simp only [Act.put, List.getElem_toArray, List.getElem_cons_succ, List.getElem_cons_zero, List.setIfInBounds_toArray, List.set_cons_zero, List.set_cons_succ]
  refine wpAnyH_take (i := 4) (v := .slice ea xe.length ec) rfl (by kernel_rfl) (by kernel_rfl) (by kernel_rfl) (fun _ _ _ h => h) (Or.inl ⟨by rfl, fun W hSw => by go_simp⟩) hHeld ?_
  try simp only [Act.put, List.getElem_toArray, List.getElem_cons_succ, List.getElem_cons_zero, List.setIfInBounds_toArray, List.set_cons_zero, List.set_cons_succ]
  have HR2 := Lib.hid (Row.start HD2.out)
  refine wpAnyH_ready (rs := [1]) (by kernel_rfl) (by simp) (AllReadyH.cons rfl (fun J hJ => ?_) AllReadyH.nil)
  go_simp
  refine hJ.out _ _ HR2.out.only (fun hHeld => ?_)
  clear hJ J
  try simp only [Act.put, List.getElem_toArray, List.getElem_cons_succ, List.getElem_cons_zero, List.setIfInBounds_toArray, List.set_cons_zero, List.set_cons_succ]
  have HXV2 := Lib.hid (HVB.out _ (HQ2.out.trans HR2.out.only))
  refine wpAnyH_ready (rs := [3]) (by kernel_rfl) (by simp) (AllReadyH.cons rfl (fun J hJ => ?_) AllReadyH.nil)
  refine step_append_bytes (by rfl) _ _ (by rfl) (.slice (some ⟨wd2.heap.size, 0, none⟩) 0 0) (.slice ua xb.length uc) 0 [] rfl rfl HR2.out.row HXV2.out (by omega) ?_
  intro a21 k21 w26 hr6 hg6 hat6
  have HRa2 := Lib.hid (HR2.out.app (Only.refl _ _) rfl hr6 hg6 hat6)
  rw [List.length_nil, Nat.zero_add, List.nil_append] at HRa2
  clear hr6 hg6 hat6
  rw [Nat.zero_add]
  refine hJ.out _ _ HRa2.out.only (fun hHeld => ?_)
  clear hJ J
  try simp only [Act.put, List.getElem_toArray, List.getElem_cons_succ, List.getElem_cons_zero, List.setIfInBounds_toArray, List.set_cons_zero, List.set_cons_succ]
  have HXE2 := Lib.hid (HE.out _ (HQ2.out.trans HRa2.out.only))
  refine wpAnyH_ready (rs := [5]) (by kernel_rfl) (by simp) (AllReadyH.cons rfl (fun J hJ => ?_) AllReadyH.nil)
  refine step_append_bytes (by rfl) _ _ (by rfl) (.slice a21 xb.length k21) (.slice ea xe.length ec) xb.length (xb.map byteV) rfl rfl HRa2.out.row HXE2.out (by omega) ?_
  intro a22 k22 w27 hr7 hg7 hat7
  have HRb2 := Lib.hid (HRa2.out.app (Only.refl _ _) rfl hr7 hg7 hat7)
  clear hr7 hg7 hat7
  refine hJ.out _ _ HRb2.out.only (fun hHeld => ?_)
  clear hJ J
  try simp only [Act.put, List.getElem_toArray, List.getElem_cons_succ, List.getElem_cons_zero, List.setIfInBounds_toArray, List.set_cons_zero, List.set_cons_succ]
  have HC2 := Lib.hid (HC.out w27 _ _ _ HRb2.out.bytes (fun _ h => h) (by rw [List.length_append]; omega))
  refine wpAnyH_ready (rs := [6]) (by kernel_rfl) (by simp) (AllReadyH.cons rfl (fun J hJ => ?_) AllReadyH.nil)
  go_simp
  refine HC2.out.mono ?_
  rintro e w3 ⟨a2, n2, k2, ev2, rfl, hq, his⟩
  have HIS2 := Lib.hid his
  have HO2 := Lib.hid (HRb2.out.only.trans hq)
  clear hq his
  refine hJ.out _ _ HO2.out (fun hHeld => ?_)
  clear hJ J
  try simp only [Act.put, List.getElem_toArray, List.getElem_cons_succ, List.getElem_cons_zero, List.setIfInBounds_toArray, List.set_cons_zero, List.set_cons_succ]
  refine wpAnyH_take (i := 7) (v := .tuple #[.slice a2 n2 k2, ev2]) rfl (by kernel_rfl) (by kernel_rfl) (by kernel_rfl) (fun _ _ _ h => h) (Or.inl ⟨by rfl, fun W hSw => by go_simp⟩) hHeld ?_
  try simp only [Act.put, List.getElem_toArray, List.getElem_cons_succ, List.getElem_cons_zero, List.setIfInBounds_toArray, List.set_cons_zero, List.set_cons_succ]
  refine wpAnyH_take (i := 8) (v := .slice a2 n2 k2) rfl (by kernel_rfl) (by kernel_rfl) (by kernel_rfl) (fun _ _ _ h => h) (Or.inl ⟨by rfl, fun W hSw => by go_simp⟩) hHeld ?_
  try simp only [Act.put, List.getElem_toArray, List.getElem_cons_succ, List.getElem_cons_zero, List.setIfInBounds_toArray, List.set_cons_zero, List.set_cons_succ]
  refine wpAnyH_take (i := 9) (v := ev2) rfl (by kernel_rfl) (by kernel_rfl) (by kernel_rfl) (fun _ _ _ h => h) (Or.inl ⟨by rfl, fun W hSw => by go_simp⟩) hHeld ?_
  try simp only [Act.put, List.getElem_toArray, List.getElem_cons_succ, List.getElem_cons_zero, List.setIfInBounds_toArray, List.set_cons_zero, List.set_cons_succ]
  refine wpAnyH_ready (rs := [10]) (by kernel_rfl) (by simp) (AllReadyH.cons rfl (fun J hJ => ?_) AllReadyH.nil)
  go_simp
  refine hJ.out _ _ HO2.out (fun hHeld => ?_)
  clear hJ J
  try simp only [Act.put, List.getElem_toArray, List.getElem_cons_succ, List.getElem_cons_zero, List.setIfInBounds_toArray, List.set_cons_zero, List.set_cons_succ]
  refine wpAnyH_ready (rs := [11]) (by kernel_rfl) (by simp) (AllReadyH.cons rfl (fun J hJ => ?_) AllReadyH.nil)
  go_simp
  refine hJ.out _ _ HO2.out (fun hHeld => ?_)
  clear hJ J
  try simp only [Act.put, List.getElem_toArray, List.getElem_cons_succ, List.getElem_cons_zero, List.setIfInBounds_toArray, List.set_cons_zero, List.set_cons_succ]
  refine wpAnyH_done (by kernel_rfl) ?_ _
  have HQ3 := Lib.hid (HQ2.out.trans HO2.out)
  have HB3 := Lib.hid (HB2.out.keep HO2.out (fun x => x))
  clear c0 c1 c2 c3 c4 hHeld HC2 HR2 HRa2 HRb2 HXV2 HXE2 HD2
  have hO2 := HO2.out
  rcases o with _ | c
  · obtain rfl : ev1 = .iface 43 (.int .i64 11) := HIS1.out
    obtain rfl : ev2 = .iface 43 (.int .i64 11) := HIS2.out
    go_wp2_with fail
    go_ret
    exact ⟨rfl, HQ3.out⟩
  have hc := HOK.out c rfl
  obtain ⟨rfl, hn1, hr1⟩ : ev1 = .nilIface ∧ n1 = (Rb.cuts c.ends (xa ++ xe)).length ∧ IRow w17 w2 (.slice a1 n1 k1) (Rb.cuts c.ends (xa ++ xe)) := HIS1.out
  obtain ⟨rfl, hn2, hr2⟩ : ev2 = .nilIface ∧ n2 = (Rb.cuts c.ends (xb ++ xe)).length ∧ IRow w27 w3 (.slice a2 n2 k2) (Rb.cuts c.ends (xb ++ xe)) := HIS2.out
  have hr1 := hr1.kept hO2
  have hl1 := Rb.cuts_len (c := c) (xa ++ xe)
  have hl2 := Rb.cuts_len (c := c) (xb ++ xe)
  have hs1 := Rb.cuts_sum c.ends (xa ++ xe)
  have hs2 := Rb.cuts_sum c.ends (xb ++ xe)
  rw [List.length_append] at hl1 hl2 hs1 hs2
  have HBE1 := Lib.hid (behind_any (place := xa.length) hr1 hn1 (by omega) (by omega))
  have HBE2 := Lib.hid (behind_any (place := xb.length) hr2 hn2 (by omega) (by omega))
  have HI1 := Lib.hid (hr1.ints (Rb.cuts_63' hc _))
  have HI2 := Lib.hid (hr2.ints (Rb.cuts_63' hc _))
  have HM1 := Lib.hid (fun p h1 h2 => Rb.meets hc xa xe (p := p) h1 h2)
  have HM2 := Lib.hid (fun p h1 h2 => Rb.meets hc xb xe (p := p) h1 h2)
  have hl3 := Rb.cuts_len (c := c) xe
  have hc1 : n1 ≤ k1 := by have h := hr1.row; rw [← hn1] at h; exact row_cap h
  have hc2 : n2 ≤ k2 := by have h := hr2.row; rw [← hn2] at h; exact row_cap h
  generalize Rb.cuts c.ends (xa ++ xe) = ys at *
  generalize Rb.cuts c.ends (xb ++ xe) = zs at *
  generalize Rb.cuts c.ends xe = es at *
  have HN1 := Lib.hid hn1
  have HN2 := Lib.hid hn2
  have hb1 : n1 ≤ 65536 := by omega
  have hb2 : n2 ≤ 65536 := by omega
  clear hr1 hr2 hs1 hs2 hc HIS1 HIS2 hn1 hn2 hl1 hl2 HC HOK
  go_wp2_with fail
  refine HBE1.out.mono ?_
  rintro e w4 ⟨r1, rfl, hb1', rfl⟩
  have HBB1 := Lib.hid hb1'
  clear hb1'
  go_wp2_with fail
  refine HBE2.out.mono ?_
  rintro e w4 ⟨r2, rfl, hb2', rfl⟩
  have HBB2 := Lib.hid hb2'
  clear hb2'
  by_cases hr1 : r1 < 0
  · go_wp2_with fail
    go_ret
    exact ⟨rfl, HQ3.out⟩
  by_cases hr2 : r2 < 0
  · go_wp2_with fail
    go_ret
    exact ⟨rfl, HQ3.out⟩
  obtain ⟨p, rfl, hp1, hp2⟩ := HBB1.out.resolve_left hr1
  obtain ⟨q, rfl, hq1, hq2⟩ := HBB2.out.resolve_left hr2
  have hpn : p < n1 := by have := HN1.out; omega
  have hqn : q < n2 := by have := HN2.out; omega
  obtain ⟨b1, hb1', hsl1⟩ := slice_l_ints (a := a1) (n := n1) (cap := k1) (m := p) (by omega) hc1
  obtain ⟨b2, hb2', hsl2⟩ := slice_l_ints (a := a2) (n := n2) (cap := k2) (m := q) (by omega) hc2
  have hd1 := (HI1.out.drop hp1 hb1').2
  have hd2 := (HI2.out.drop hq1 hb2').2
  rw [HM1.out p hp1 hp2] at hd1
  rw [HM2.out q hq1 hq2] at hd2
  have HSM := Lib.hid (ints_same (w := w3.drew) (hd1.kept (fun _ _ => rfl) (fun _ h => h)) (hd2.kept (fun _ _ => rfl) (fun _ h => h)) (by omega))
  clear hd1 hd2 hp1 hq1 hp2 hq2 hb1' hb2' HI1 HI2 HBB1 HBB2
  go_wp2_with fail
  go_region_held3 (fun W => Only (fun _ => False) w3 W) (first | exact HO5.out | exact Only.drew) (first | (go_at_call 15; refine HSM.out.mono ?_; rintro e w5 ⟨rfl, hq⟩; have HO5 : Hid (Only (fun _ => False) w3 w5) := Only.trans Only.drew hq; clear hq))
  go_wp2_with fail
  go_ret
  exact ⟨rfl, HQ3.out.trans HO5.out⟩

set_option maxRecDepth 100000 in
theorem rabinMeeting_any {w : World} {s : Set7} (h64 : s.P < 18446744073709551616) {Sa : Nat → Prop} {v u z : Value} {xa xb xe : List UInt8} (hv : BytesAt w Sa v xa) (hu : BytesAt w Sa u xb) (hz : BytesAt w Sa z xe) (hS : ∀ k, Sa k → k < w.heap.size)
    (h1 : xa.length ≤ 140737488351232) (h2 : xb.length ≤ 140737488351232) (h3 : xe.length ≤ 140737488351232) : Calls Try.prog 7 #[rowsV s v u z] w fun e w' => e = .returned (.bool true) ∧ Quiet w w' := by
  have HM : Hid (∀ W, Quiet w W → Calls Try.prog 29 #[setV s, v, u, z] W fun e w' => e = .returned (.bool true) ∧ Quiet W w') := fun W hq =>
    meets_any h64 (hv.here hq hS) (fun _ h => h) h1 (hu.here hq hS) (fun _ h => h) h2 (hz.here hq hS) (fun _ h => h) h3
  obtain ⟨va, vc, rfl⟩ := hv.shape
  obtain ⟨ua, uc, rfl⟩ := hu.shape
  obtain ⟨ea, ec, rfl⟩ := hz.shape
  unfold setV at HM
  unfold rowsV
  clear hv hu hz hS
  go_enter Try.func7, Try.ntmps7
  go_wp2_with fail
  refine (HM.out _ (Only.alloc _)).mono ?_
  rintro e w1 ⟨rfl, hq⟩
  have HQ1 := Lib.hid ((Only.alloc _).trans hq)
  clear hq
  go_wp2_with fail
  go_ret
  exact ⟨rfl, HQ1.out⟩

end Go.Proofs.Ytobiajjcnpflgaa
