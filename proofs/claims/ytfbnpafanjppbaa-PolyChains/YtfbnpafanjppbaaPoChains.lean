/- PolyChains. Conditions: rows within the reach. -/
import Derived.Test.YtfbnpafanjppbaaPoAlive
import Derived.Test.YtfbnpafanjppbaaPoRow
import Derived.Test.YtfbnpafanjppbaaGNum
namespace Go.Proofs.Ytfbnpafanjppbaa
open Go.RowKit

theorem slice_hn {a : Option Addr} {n cap m : Nat} (h : m ≤ cap) (w : World) : (Instr.slice 35 (.slice a n cap) none (some (.int .i64 (m : Int))) none).run Try.prog w = .ok (.slice a m cap) w := by
  rw [run_slice_h (ht := by kernel_rfl) (h0 := by omega) (h2 := by omega)]
  have hsz : (sizeOf (Try.prog.elem 35)).run Try.prog w = .ok 1 w := by kernel_rfl
  rw [hsz]
  cases a <;> simp [Result.andThen, sliced, Addr.add]

/-- Behind the row: what was appended, and the row ahead of it. -/
theorem row_parts {w wr : World} {a : Option Addr} {n c : Nat} {xs : List Nat} (h : NRow w wr (.slice a (n + 1) c) (xs ++ [77])) (hn : xs.length = n) (hx : ∀ x ∈ xs, x < 18446744073709551616) :
    ∃ g, a = some ⟨g, 0, none⟩ ∧ n + 1 ≤ c ∧ w.heap.size ≤ g ∧ g < wr.heap.size ∧ wr.cell? ⟨g, n, none⟩ = some (.int .u64 77) ∧ NumsAt wr (fun k => k = g) (.slice a n c) xs := by
  subst hn
  have hl : (xs ++ [77]).length = xs.length + 1 := by simp
  have hrow := h.row
  rw [hl] at hrow
  have hc := row_cap hrow
  rcases hrow.2 with ⟨_, e0⟩ | ⟨g, cap, cur, e, _, hg, _⟩
  · omega
  · obtain ⟨rfl, _, rfl⟩ := Value.slice.inj e
    have hown := h.own g rfl
    have hcell := hrow.cells (g := g) rfl
    refine ⟨g, rfl, hc, hown, lt_of_heap hg, ?_, ?_⟩
    · have := hcell xs.length (numV 77) (by rw [List.getElem?_map]; simp)
      simpa [numV, add_lit] using this
    · refine ⟨_, _, rfl, by omega, fun i hi => ⟨⟨g, 0, none⟩, rfl, rfl, ?_, hx _ (List.getElem_mem hi)⟩⟩
      have := hcell i (numV xs[i]) (by rw [List.getElem?_map, List.getElem?_append_left hi, List.getElem?_eq_getElem hi]; rfl)
      simpa [numV, add_lit] using this

theorem one_num (w : World) : NumsIn (w.alloc (.cells #[.int .u64 77] 22)) (fun k => k = w.heap.size) (.slice (some ⟨w.heap.size, 0, none⟩) 1 1) [77] := by
  refine ⟨⟨_, 1, rfl, by simp, fun i hi => ⟨⟨w.heap.size, 0, none⟩, rfl, rfl, ?_, ?_⟩⟩, .inr ⟨_, _, rfl⟩⟩
  · rw [add_lit, cell_of (heap_alloc_self _ _)]
    have hi' : i < 1 := hi
    obtain rfl : i = 0 := by omega
    rfl
  · have hi' : i < 1 := hi
    obtain rfl : i = 0 := by omega
    show 77 < 18446744073709551616
    decide

theorem power_zero (n : Int) (w : World) : Calls Try.prog 19 #[.int .i64 n, .int .u64 0] w fun e w' => e = .returned (.tuple #[.int .u64 0, .iface 32 (.int .i64 27)]) ∧ w = w' := by
  go_enter Try.func19, Try.ntmps19
  go_wp2
  go_ret2
  exact ⟨rfl, rfl⟩
theorem power_neg {m : Nat} {n : Int} (hm : m ≠ 0) (hn : n < 0) (w : World) : Calls Try.prog 19 #[.int .i64 n, .int .u64 (m : Int)] w fun e w' => e = .returned (.tuple #[.int .u64 0, .iface 32 (.int .i64 7)]) ∧ w = w' := by
  have h0 : ¬ (m : Int) = 0 := by omega
  go_enter Try.func19, Try.ntmps19
  go_wp2
  go_ret2
  exact ⟨rfl, rfl⟩
theorem r6power_zero (n : Int) (w : World) : Calls Try.prog 20 #[.int .i64 n, .int .u64 0] w fun e w' => e = .returned (.tuple #[.int .u64 0, .int .i64 27]) ∧ w = w' := by
  go_enter Try.func20, Try.ntmps20
  go_wp2
  go_ret2
  exact ⟨rfl, rfl⟩
theorem r6power_neg {m : Nat} {n : Int} (hm : m ≠ 0) (hn : n < 0) (w : World) : Calls Try.prog 20 #[.int .i64 n, .int .u64 (m : Int)] w fun e w' => e = .returned (.tuple #[.int .u64 0, .int .i64 7]) ∧ w = w' := by
  have h0 : ¬ (m : Int) = 0 := by omega
  go_enter Try.func20, Try.ntmps20
  go_wp2
  go_ret2
  exact ⟨rfl, rfl⟩

/-- What two calls answer alike: a word, an error and its number. -/
def AnsweredAlike (w : World) (f g : Nat) (us vs : Array Value) : Prop := ∃ (r k : Nat) (ev : Value), r < 18446744073709551616 ∧ (ev = .nilIface ∧ k = 0 ∨ k ≠ 0 ∧ ev = .iface 32 (.int .i64 (k : Int))) ∧ k < 100 ∧
  (∀ W, Quiet w W → Calls Try.prog f us W fun e w' => e = .returned (.tuple #[.int .u64 (r : Int), ev]) ∧ Quiet W w') ∧ (∀ W, Quiet w W → Calls Try.prog g vs W fun e w' => e = .returned (.tuple #[.int .u64 (r : Int), .int .i64 (k : Int)]) ∧ Quiet W w')

theorem still {w w' : World} (h : w = w') : Quiet w w' := by subst h; exact Only.refl _ _

theorem mulmod_alike {w : World} {S T : Nat → Prop} {v u : Value} {xs : List Nat} {m : Nat} (hv : NumsAt w S v xs) (hu : NumsAt w T u xs) (hS : ∀ k, S k → k < w.heap.size) (hT : ∀ k, T k → k < w.heap.size) (hn : xs.length ≤ 140737488355328) (h64 : m < 18446744073709551616) :
    AnsweredAlike w 17 18 #[.int .u64 (m : Int), v] #[.int .u64 (m : Int), u] := by
  by_cases hm : m = 0
  · subst hm
    exact ⟨0, 27, _, by omega, .inr ⟨by omega, rfl⟩, by omega, fun W _ => (mulmod_zero v W).mono fun e w' ⟨a, b⟩ => ⟨a, still b⟩, fun W _ => (r6mulmod_zero u W).mono fun e w' ⟨a, b⟩ => ⟨a, still b⟩⟩
  · exact ⟨_, 0, _, Gf.rm_64 _ h64, .inl ⟨rfl, rfl⟩, by omega, fun W hq => mulmod_any (hv.quiet hq hS) (fun k hk => Nat.lt_of_lt_of_le (hS k hk) hq.size) hn h64 hm, fun W hq => r6mulmod_any (hu.quiet hq hT) (fun k hk => Nat.lt_of_lt_of_le (hT k hk) hq.size) hn h64 hm⟩
theorem power_alike {w : World} {m : Nat} {n : Int} (h64 : m < 18446744073709551616) (hn : -9223372036854775808 ≤ n ∧ n ≤ 9223372036854775807) :
    AnsweredAlike w 19 20 #[.int .i64 n, .int .u64 (m : Int)] #[.int .i64 n, .int .u64 (m : Int)] := by
  by_cases hm : m = 0
  · subst hm
    exact ⟨0, 27, _, by omega, .inr ⟨by omega, rfl⟩, by omega, fun W _ => (power_zero n W).mono fun e w' ⟨a, b⟩ => ⟨a, still b⟩, fun W _ => (r6power_zero n W).mono fun e w' ⟨a, b⟩ => ⟨a, still b⟩⟩
  · by_cases h0 : n < 0
    · exact ⟨0, 7, _, by omega, .inr ⟨by omega, rfl⟩, by omega, fun W _ => (power_neg hm h0 W).mono fun e w' ⟨a, b⟩ => ⟨a, still b⟩, fun W _ => (r6power_neg hm h0 W).mono fun e w' ⟨a, b⟩ => ⟨a, still b⟩⟩
    · obtain ⟨k, rfl⟩ : ∃ k : Nat, n = (k : Int) := ⟨n.toNat, by omega⟩
      exact ⟨_, 0, _, Gf.rm_64 _ h64, .inl ⟨rfl, rfl⟩, by omega, fun W _ => power_any h64 hm (by omega) W, fun W _ => r6power_any h64 hm (by omega) W⟩
theorem num_of {ev : Value} {k : Nat} (h : ev = .nilIface ∧ k = 0 ∨ k ≠ 0 ∧ ev = .iface 32 (.int .i64 (k : Int))) (w : World) : Calls Try.prog 21 #[ev] w fun e w' => e = .returned (.int .i64 (k : Int)) ∧ w = w' := by
  rcases h with ⟨rfl, rfl⟩ | ⟨h1, rfl⟩
  · exact num_nil w
  · exact num_err k w h1

set_option maxRecDepth 100000 in
set_option maxHeartbeats 4000000 in
theorem polyChains_any {w : World} {v : Value} {xs : List Nat} {m : Nat} {n : Int} (h64 : m < 18446744073709551616) (hv : NumsIn w (fun k => k < w.heap.size) v xs) (hl : xs.length ≤ 140737488355328) (hn : -9223372036854775808 ≤ n ∧ n ≤ 9223372036854775807) :
    Calls Try.prog 4 #[.int .u64 (m : Int), v, .int .i64 n] w fun e w' => e = .returned (.bool true) ∧ Quiet w w' := by
  have HA := Lib.hid alive6_any
  have HV := Lib.hid hv
  obtain ⟨va, vc, rfl, hvc, _⟩ := hv.1
  clear hv
  by_cases hbig : 200 < xs.length
  · have c1 : (xs.length : Int) > 200 := by omega
    go_enter Try.func4, Try.ntmps4
    go_wp2_with fail
    refine (HA.out _).mono ?_; rintro e w1 ⟨rfl, hq⟩; have HQ1 := Lib.hid hq; clear hq
    go_wp2_with fail
    go_ret
    exact ⟨rfl, HQ1.out⟩
  · have c1 : ¬ (xs.length : Int) > 200 := by omega
    have hx64 : ∀ x ∈ xs, x < 18446744073709551616 := fun x hx => by
      obtain ⟨i, hi, rfl⟩ := List.mem_iff_getElem.1 hx
      exact HV.out.1.lt i hi
    have HX := Lib.hid hx64
    clear hx64
    go_enter Try.func4, Try.ntmps4
    go_wp2_with fail
    refine (HA.out _).mono ?_; rintro e w1 ⟨rfl, hq⟩; have HQ1 := Lib.hid hq; clear hq
    obtain ⟨Z, hmk, hrow⟩ := make_room xs.length (by omega) w1
    have HROW := Lib.hid hrow
    clear hrow
    have HIN : Hid (NumsIn (w1.alloc (.cells Z 22)) (fun k => k < w.heap.size) (.slice va xs.length vc) xs) := HV.out.kept (fun k hk => (HQ1.out.trans (Only.alloc _)).block k hk (fun x => x)) (fun _ h => h)
    have HL1 : Hid (0 + xs.length ≤ 1000000) := Lib.hid (by omega)
    have HL2 : Hid (xs.length + 1 ≤ 1000000) := Lib.hid (by omega)
    go_wp2_with (at_builtin; first
      | (refine wpList_append_nums _ rfl _ _ rfl (.slice a2 xs.length c2) (.slice (some ⟨w2.heap.size, 0, none⟩) 1 1) xs.length (xs.map numV) rfl rfl (HR2.out _) (one_num w2) HL2.out ?_; intro a3 c3 w3 hr3 hg3 hat3; have HN3 := Lib.hid (HN2.out.app (ys := [77]) (Only.alloc _) (by simp) hr3 hg3 hat3); clear hr3 hg3 hat3; obtain ⟨g, rfl, hc3, hg1, hg2, hcell77, hnums⟩ := row_parts HN3.out (by simp) (by simpa using HX.out); have HNU : Hid (NumsAt w3 (fun k => k = g) (.slice (some ⟨g, 0, none⟩) xs.length c3) xs) := hnums; have hsl := fun W => slice_hn (a := some ⟨g, 0, none⟩) (n := xs.length + 1) (cap := c3) (m := xs.length) (by omega) W; clear hnums)
      | (refine wpList_append_nums _ rfl _ _ rfl (.slice (some ⟨w1.heap.size, 0, none⟩) 0 (xs.length + 1)) (.slice va xs.length vc) 0 [] rfl rfl HROW.out.row HIN.out HL1.out ?_; intro a2 c2 w2 hr2 hg2 hat2; simp only [Nat.zero_add, List.nil_append] at hr2 hg2 hat2; have HN2 := Lib.hid (HROW.out.app (ys := xs) (Only.refl _ _) (by simp) hr2 hg2 hat2); have HR2 : Hid (∀ x, (w2.alloc x).ownsRow 0 22 1 (.slice a2 xs.length c2) xs.length (xs.map numV)) := (fun x => hr2.alloc x); clear hr2 hg2 hat2))
    have HQ3 : Hid (Quiet w w3) := HQ1.out.trans HN3.out.only
    have HV3 : Hid (NumsAt w3 (fun k => k < w.heap.size) (.slice va xs.length vc) xs) := HV.out.1.kept (fun k hk => HQ3.out.block k hk (fun x => x)) (fun _ h => h)
    have HG3 : Hid (g < w3.heap.size) := hg2
    clear hg1 hg2
    obtain ⟨r1, k1, ev1, hr1, hev1, hk1, hF1, hG1⟩ := mulmod_alike HNU.out HV3.out (fun k hk => by subst hk; exact HG3.out) (fun k hk => Nat.lt_of_lt_of_le hk HQ3.out.size) hl h64
    obtain ⟨r2, k2, ev2, hr2, hev2, hk2, hF2, hG2⟩ := power_alike (w := w3) h64 hn
    have HF1 := Lib.hid hF1; have HG1 := Lib.hid hG1; have HF2 := Lib.hid hF2; have HG2 := Lib.hid hG2
    have HE1 := Lib.hid (num_of hev1); have HE2 := Lib.hid (num_of hev2)
    clear hF1 hG1 hF2 hG2 hev1 hev2 hsl HIN HROW HN2 HR2 hmk
    have hsl2 : ∀ W, (Instr.slice 35 (.slice (some ⟨g, 0, none⟩) xs.length c3) none (some (.int .i64 ((xs.length : Int) + 1))) none).run Try.prog W = .ok (.slice (some ⟨g, 0, none⟩) (xs.length + 1) c3) W := fun W => by
      have := slice_hn (a := some ⟨g, 0, none⟩) (n := xs.length) (cap := c3) (m := xs.length + 1) hc3 W
      simpa using this
    have HC77 := Lib.hid hcell77
    clear hcell77
    refine (HF1.out w3 (Only.refl _ _)).mono ?_; rintro e w4 ⟨rfl, hq⟩; have HQ4 := Lib.hid hq; clear hq
    go_wp2_with fail
    refine (HG1.out w4 HQ4.out).mono ?_; rintro e w5 ⟨rfl, hq⟩; have HQ5 : Hid (Quiet w3 w5) := HQ4.out.trans hq; clear hq
    go_wp2_with fail
    refine (HF2.out w5 HQ5.out).mono ?_; rintro e w6 ⟨rfl, hq⟩; have HQ6 : Hid (Quiet w3 w6) := HQ5.out.trans hq; clear hq
    go_wp2_with fail
    refine (HG2.out w6 HQ6.out).mono ?_; rintro e w7 ⟨rfl, hq⟩; have HQ7 : Hid (Quiet w3 w7) := HQ6.out.trans hq; clear hq
    have hc77 : w7.cell? ⟨g, xs.length, none⟩ = some (.int .u64 77) := by
      rw [World.cell?_of_block (w := w3) (HQ7.out.block g HG3.out (fun x => x))]; exact HC77.out
    go_wp2_with fail
    refine (HE1.out _).mono ?_; rintro e w8 ⟨rfl, rfl⟩
    go_wp2_with fail
    refine (HE2.out _).mono ?_; rintro e w8 ⟨rfl, rfl⟩
    go_wp2_with fail
    have HGC : Hid (∀ (a b : Nat) (W : World), a < 18446744073709551616 → b < 18446744073709551616 → Calls Try.prog 22 #[.int .u64 (a : Int), .int .u64 (b : Int)] W (Word W (Gf.gc a b))) := fun a b W ha hb => r6gcd_any ha hb W
    clear hc77
    go_loopw [16, 92] (fun sv iv wr => ∃ i s : Nat, i ≤ xs.length ∧ iv = .int .i64 i ∧ sv = .int .u64 (s : Int) ∧ s < 18446744073709551616 ∧ s = Gf.gs (xs.take i) ∧ Quiet w3 wr) (fun _ iv _ => xs.length - (intOf iv).toNat)
    case atStart => exact ⟨0, 0, Nat.zero_le _, rfl, rfl, by omega, by simp [Gf.gs], HQ7.out⟩
    case round =>
      obtain ⟨i, s, hi, rfl, rfl, hs, he, hq⟩ := hrel
      have HE := Lib.hid he
      have HQ := Lib.hid hq
      clear he hq
      by_cases hlt : i < xs.length
      · obtain ⟨ad, rfl, _, hcell, hx⟩ := (HV3.out.quiet HQ.out (fun k hk => Nat.lt_of_lt_of_le hk HQ3.out.size)).cell i hlt
        obtain ⟨ad2, hg0, _, hcell2, _⟩ := (HNU.out.quiet HQ.out (fun k hk => by subst hk; exact HG3.out)).cell i hlt
        obtain rfl := Option.some.inj hg0
        rw [add_lit, Nat.zero_add] at hcell2
        have HN := Lib.hid (Gf.gs_next hlt)
        have hG := Gf.gc_64 hs hx
        have HGX := Lib.hid (fun W => HGC.out s xs[i] W hs hx)
        generalize hGG : Gf.gc s xs[i] = G at *
        generalize hxx : xs[i] = x at *
        have HGG := Lib.hid hGG
        clear hGG
        have pz : 0 ≤ (i : Int) := by omega
        have mz : (i : Int) < (xs.length : Int) := by omega
        clear hg0
        go_wp2_with fail
        go_region
        go_wp2_with fail
        refine (HGX.out _).mono ?_; rintro e w9 ⟨rfl, hq⟩; have HQ9 : Hid (Quiet w3 w9) := (HQ.out.trans Only.drew).trans hq; clear hq
        go_wp2_with fail
        go_roundw
        case rel => exact ⟨i + 1, G, by omega, by go_num, rfl, hG, by rw [HN.out, ← HE.out, HGG.out], HQ9.out⟩
        case measure => simp [intOf]; omega
      · have e : xs.take i = xs := List.take_of_length_le (by omega)
        rw [e] at HE
        have HGF := Lib.hid (gcd_any (HNU.out.quiet HQ.out (fun k hk => by subst hk; exact HG3.out)) (fun k hk => by subst hk; exact Nat.lt_of_lt_of_le HG3.out HQ.out.size) hl)
        have he2 : Gf.gs xs = s := HE.out.symm
        rw [he2] at HGF
        clear he2
        go_wp2_with fail
        refine HGF.out.mono ?_; rintro e w9 ⟨rfl, hq⟩; have HQ9 := Lib.hid hq; clear hq
        go_wp2_with fail
        go_ret
        exact ⟨rfl, (HQ3.out.trans HQ.out).trans HQ9.out⟩

end Go.Proofs.Ytfbnpafanjppbaa
