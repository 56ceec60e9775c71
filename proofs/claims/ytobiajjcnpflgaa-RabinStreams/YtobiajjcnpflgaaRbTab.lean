/- rabin.products: the remainders of each byte's product. Conditions: none. -/
import Derived.Test.YtobiajjcnpflgaaRbPure
import Derived.Test.YtobiajjcnpflgaaPoIrr
import Derived.Deep.RegionHeld3
namespace Go.Proofs.Ytobiajjcnpflgaa
open Go.RowKit

namespace Rb
/-- The remainder of i times f. -/
noncomputable def tb (p f i : Nat) : Nat := Gf.rm p (Gf.mul i f)
theorem rm_xor {p : Nat} (hp : p ≠ 0) (a b : Nat) : Gf.rm p (a ^^^ b) = Gf.rm p a ^^^ Gf.rm p b := by
  obtain ⟨d, hd⟩ := Gf.top_some hp
  refine Gf.rm_of hp ⟨(Gf.cg_rm hp _).xor (Gf.cg_rm hp _), fun d' hd' => ?_⟩
  rw [Gf.top_one hd' hd]
  exact Nat.xor_lt_two_pow (Gf.rm_lt _ hd) (Gf.rm_lt _ hd)
theorem tb_sum {p f a b i : Nat} (hp : p ≠ 0) (h : a ^^^ b = i) : tb p f a ^^^ tb p f b = tb p f i := by
  subst h
  unfold tb
  rw [Gf.mul_comm (a ^^^ b) f, Gf.mul_xor_right, rm_xor hp, Gf.mul_comm f a, Gf.mul_comm f b]
theorem tb_pd (p f i : Nat) : Gf.rm p (Gf.pd [i, f]) = tb p f i := by
  show Gf.rm p (Gf.mul (Gf.mul 1 i) f) = _
  rw [Gf.one_mul]; rfl
theorem tb_64 {p : Nat} (h : p < 18446744073709551616) (f i : Nat) : tb p f i < 18446744073709551616 := Gf.rm_64 _ h

/-- The lowest bit. -/
def low (i : Nat) : Nat := (bits .and .i64 (i : Int) (-(i : Int))).toNat
theorem low_all : ∀ i : Fin 256, bits .and .i64 (i.val : Int) (-(i.val : Int)) = (low i.val : Int) ∧ low i.val ≤ i.val ∧ (low i.val ≠ i.val → low i.val < i.val ∧ 1 ≤ low i.val ∧ low i.val ^^^ (i.val - low i.val) = i.val) := by decide +kernel

def uV (x : Nat) : Value := .int .u64 (x : Int)
/-- The table of which the first n are worked out. -/
noncomputable def tcells (p f n : Nat) : List Value := (List.range n).map (fun i => uV (tb p f i)) ++ List.replicate (256 - n) (.int .u64 0)
noncomputable def tab (p f : Nat) : List Value := (List.range 256).map (fun i => uV (tb p f i))
def zeros (n : Nat) : List Value := List.replicate n (.int .u64 0)
theorem tcells_none (p f : Nat) : tcells p f 0 = zeros 256 := rfl
theorem tcells_all (p f : Nat) : tcells p f 256 = tab p f := by unfold tcells tab; simp
theorem tcells_len {p f n : Nat} (h : n ≤ 256) : (tcells p f n).length = 256 := by unfold tcells; simp; omega
theorem tab_len (p f : Nat) : (tab p f).length = 256 := by unfold tab; simp
theorem zeros_len (n : Nat) : (zeros n).length = n := by unfold zeros; simp
theorem tcells_get {p f n j : Nat} (h : j < n) : (tcells p f n)[j]? = some (.int .u64 (tb p f j : Int)) := by
  unfold tcells
  rw [List.getElem?_append_left (by simpa using h)]
  simp [h, uV]
theorem tab_get {p f j : Nat} (h : j < 256) : (tab p f)[j]? = some (.int .u64 (tb p f j : Int)) := by
  unfold tab
  simp [h, uV]
theorem tcells_zero {p f n : Nat} (h : n < 256) : (tcells p f n)[n]? = some (.int .u64 0) := by
  unfold tcells
  rw [List.getElem?_append_right (by simp), List.length_map, List.length_range, Nat.sub_self, List.getElem?_replicate, if_pos (by omega)]
theorem tcells_set {p f n : Nat} (h : n < 256) : (tcells p f n).set n (.int .u64 (tb p f n : Int)) = tcells p f (n + 1) := by
  unfold tcells
  rw [List.set_append_right _ _ (by simp), List.range_succ]
  obtain ⟨k, hk⟩ : ∃ k, 256 - n = k + 1 := ⟨256 - n - 1, by omega⟩
  rw [hk, show 256 - (n + 1) = k by omega]
  simp [List.replicate_succ, uV]
end Rb

theorem oneCell_tab (p f : Nat) : (Rb.tab p f).toArray.all (·.oneCell') = true := by
  simp [Rb.tab, Rb.uV, Value.oneCell']

theorem zero_table : (∀ w, (zeroValue 66).run Try.prog w = .ok (.agg (Rb.zeros 256).toArray) w) ∧ (Try.prog.info? 66).map (·.size) = some 256 :=
  zero_of_info (v := .agg (Rb.zeros 256).toArray) (n := 256) (by kernel_rfl)

/-- What the loop of products keeps. -/
structure Prod (w wr : World) (p f n : Nat) : Prop where
  res : Blk wr w.heap.size (Rb.zeros 256) 66
  now : Blk wr (w.heap.size + 1) (Rb.tcells p f n) 66
  only : Quiet w wr

theorem Prod.keep {w wr w' : World} {p f n : Nat} (h : Prod w wr p f n) (hq : Quiet wr w') : Prod w w' p f n := ⟨h.res.keep hq (fun x => x), h.now.keep hq (fun x => x), h.only.trans hq⟩
theorem Prod.next {w wr : World} {p f n : Nat} (h : Prod w wr p f n) (hn : n < 256) : Prod w (wr.setCell ⟨w.heap.size + 1, n, none⟩ (.int .u64 (Rb.tb p f n : Int))) p f (n + 1) := by
  refine ⟨h.res.setNe _ _ (by show _ ≠ w.heap.size + 1; omega), ?_, h.only.andThen (Only.setCell ⟨w.heap.size + 1, n, none⟩ _) (fun k hk e => by simp at e; omega)⟩
  have := h.now.set n (.int .u64 (Rb.tb p f n : Int))
  rwa [Rb.tcells_set hn] at this

set_option maxRecDepth 100000 in
set_option maxHeartbeats 1000000 in
theorem products_any {p f : Nat} (h64 : p < 18446744073709551616) (hf : f < 18446744073709551616) (hp : p ≠ 0) (w : World) :
    Calls Try.prog 48 #[.int .u64 (p : Int), .int .u64 (f : Int)] w fun e w' => e = .returned (.agg (Rb.tab p f).toArray) ∧ Quiet w w' := by
  have hz := zero_table.1
  have HM : Hid (∀ (i : Nat) (W : World), i < 256 → Calls Try.prog 55 #[.int .u64 (p : Int), .slice (some ⟨W.heap.size, 0, none⟩) 2 2] (W.alloc (.cells #[.int .u64 (i : Int), .int .u64 (f : Int)] 22)) fun e w' => e = .returned (.tuple #[.int .u64 (Rb.tb p f i : Int), .nilIface]) ∧ Quiet W w') := fun i W hi => by
    have h1 := mulmod_any (m := p) (nums_two W (x := i) (y := f) (by omega) hf) (fun k hk => by subst hk; exact lt_of_heap (heap_alloc_self _ _)) (by simp) h64 hp
    rw [Rb.tb_pd] at h1
    exact h1.mono fun e w' ⟨a, b⟩ => ⟨a, (Only.alloc _).trans b⟩
  have HS : Hid (∀ (x y : Nat) (W : World), x < 18446744073709551616 → y < 18446744073709551616 → Calls Try.prog 47 #[.slice (some ⟨W.heap.size, 0, none⟩) 2 2] (W.alloc (.cells #[.int .u64 (x : Int), .int .u64 (y : Int)] 22)) fun e w' => e = .returned (.int .u64 ((x ^^^ y : Nat) : Int)) ∧ (W.alloc (.cells #[.int .u64 (x : Int), .int .u64 (y : Int)] 22)) = w') := fun x y W hx hy => by
    have := sum_any (nums_two W hx hy) (by simp)
    rwa [Gf.sm_two] at this
  have H64 : Hid (∀ i, Rb.tb p f i < 18446744073709551616) := fun i => Rb.tb_64 h64 f i
  have HSUM : Hid (∀ a b i, a ^^^ b = i → Rb.tb p f a ^^^ Rb.tb p f b = Rb.tb p f i) := fun a b i h => Rb.tb_sum hp h
  have HP0 : Hid (Prod w ((w.alloc (.cells (Rb.zeros 256).toArray 66)).alloc (.cells (Rb.zeros 256).toArray 66)) p f 0) :=
    ⟨(Blk.new w _ _).alloc _, by rw [Rb.tcells_none]; exact Blk.new1 _ _ _ _, (Only.alloc _).trans (Only.alloc _)⟩
  obtain ⟨Z, hZ⟩ : ∃ Z, (Rb.zeros 256).toArray = Z := ⟨_, rfl⟩
  rw [hZ] at hz HP0
  have HZ := Lib.hid hZ
  clear hZ
  obtain ⟨A, hA⟩ : ∃ A, (Rb.tab p f).toArray = A := ⟨_, rfl⟩
  rw [hA]
  have HA := Lib.hid hA
  clear hA
  go_enter Try.func48, Try.ntmps48
  go_wp2
  clear hz
  generalize (w.alloc (.cells Z 66)).alloc (.cells Z 66) = w1 at *
  go_loopw [8] (fun iv wr => ∃ i : Nat, i ≤ 256 ∧ iv = .int .i64 i ∧ Prod w wr p f i) (fun iv _ => 256 - (intOf iv).toNat)
  case atStart => exact ⟨0, Nat.zero_le _, rfl, HP0.out⟩
  case round =>
    clear HP0
    obtain ⟨i, hi, rfl, hpr⟩ := hrel
    have HPR := Lib.hid hpr
    clear hpr
    by_cases hlt : i < 256
    · obtain ⟨b1, b2, b3⟩ := Rb.low_all ⟨i, hlt⟩
      simp only at b1 b2 b3
      have pz : 0 ≤ (i : Int) := by omega
      have mz : (i : Int) < 256 := by omega
      by_cases hl : Rb.low i = i
      · rw [hl] at b1
        have HM1 := Lib.hid (fun W => HM.out i W hlt)
        have wi : IntKind.u64.wrap (i : Int) = (i : Int) := by rw [IntKind.wrap_u64]; omega
        clear b2 b3 HM
        go_wp2_with fail
        refine (HM1.out _).mono ?_
        rintro e w2 ⟨rfl, hq⟩
        have HPR2 := Lib.hid (HPR.out.keep hq)
        have c1 : w2.cell? ⟨w.heap.size + 1, i, none⟩ = some (.int .u64 0) := by rw [HPR2.out.now.cell]; exact Rb.tcells_zero hlt
        have f1 := HPR2.out.now.frozen i
        have HPR3 := Lib.hid (HPR2.out.next hlt)
        clear hq
        go_wp2_with fail
        exact ⟨⟨i + 1, by omega, by go_num, HPR3.out⟩, by simp [intOf]; omega⟩
      · obtain ⟨b4, b5, b6⟩ := b3 hl
        have HX := Lib.hid (HSUM.out _ _ _ b6)
        obtain ⟨j, hj⟩ : ∃ j, i - Rb.low i = j := ⟨_, rfl⟩
        rw [hj] at HX
        have hl' : ¬ (i : Int) = (Rb.low i : Int) := by omega
        have hji : (i : Int) - (Rb.low i : Int) = (j : Int) := by omega
        have hjlt : j < i := by omega
        generalize Rb.low i = l at *
        have c1 : wr.cell? ⟨w.heap.size + 1, l, none⟩ = some (.int .u64 (Rb.tb p f l : Int)) := by rw [HPR.out.now.cell]; exact Rb.tcells_get b4
        have c2 : wr.cell? ⟨w.heap.size + 1, j, none⟩ = some (.int .u64 (Rb.tb p f j : Int)) := by rw [HPR.out.now.cell]; exact Rb.tcells_get hjlt
        have HS1 := Lib.hid (fun W => HS.out _ _ W (H64.out l) (H64.out j))
        rw [HX.out] at HS1
        have p1 : 0 ≤ (l : Int) := by omega
        have m1 : (l : Int) < 256 := by omega
        have p2 : 0 ≤ (j : Int) := by omega
        have m2 : (j : Int) < 256 := by omega
        have wj : IntKind.i64.wrap (j : Int) = (j : Int) := IntWalk.i64_in _ (by omega)
        have HPR2 : Hid (∀ w2, wr.drew.alloc (.cells #[.int .u64 (Rb.tb p f l : Int), .int .u64 (Rb.tb p f j : Int)] 22) = w2 → Prod w w2 p f i) := fun w2 h => by subst h; exact HPR.out.keep (Only.drew.trans (Only.alloc _))
        have HC : Hid (∀ w2, Prod w w2 p f i → (w2.cell? ⟨w.heap.size + 1, l, none⟩ = some (.int .u64 (Rb.tb p f l : Int)) ∧ w2.cell? ⟨w.heap.size + 1, j, none⟩ = some (.int .u64 (Rb.tb p f j : Int))) ∧ w2.cell? ⟨w.heap.size + 1, i, none⟩ = some (.int .u64 0) ∧ w2.frozen? ⟨w.heap.size + 1, i, none⟩ = false) := fun w2 h =>
          ⟨⟨by rw [h.now.cell]; exact Rb.tcells_get b4, by rw [h.now.cell]; exact Rb.tcells_get hjlt⟩, by rw [h.now.cell]; exact Rb.tcells_zero hlt, h.now.frozen i⟩
        have HC' : Hid (∀ w2, Prod w w2 p f (i + 1) → (w2.cell? ⟨w.heap.size + 1, l, none⟩ = some (.int .u64 (Rb.tb p f l : Int)) ∧ w2.cell? ⟨w.heap.size + 1, j, none⟩ = some (.int .u64 (Rb.tb p f j : Int)))) := fun w2 h =>
          ⟨by rw [h.now.cell]; exact Rb.tcells_get (by omega), by rw [h.now.cell]; exact Rb.tcells_get (by omega)⟩
        have HNX : Hid (∀ w2, Prod w w2 p f i → Prod w (w2.setCell ⟨w.heap.size + 1, i, none⟩ (.int .u64 (Rb.tb p f i : Int))) p f (i + 1)) := fun w2 h => h.next hlt
        have q1 : Hid (wr.drew.cell? ⟨w.heap.size + 1, l, none⟩ = some (.int .u64 (Rb.tb p f l : Int)) ∧ wr.drew.cell? ⟨w.heap.size + 1, j, none⟩ = some (.int .u64 (Rb.tb p f j : Int))) := ⟨c1, c2⟩
        have q2 := Lib.hid (HC.out _ (HPR2.out _ rfl)).1
        clear b2 b3 b5 b6 hj HX hl HM HS HSUM H64 c1 c2
        generalize Rb.tb p f l = x at *
        generalize Rb.tb p f j = y at *
        go_wp2_with fail
        go_region_held3 (fun W => W.cell? ⟨w.heap.size + 1, l, none⟩ = some (.int .u64 (x : Int)) ∧ W.cell? ⟨w.heap.size + 1, j, none⟩ = some (.int .u64 (y : Int))) (first | exact q1.out | exact q2.out | exact q3.out | exact q4.out)
          (first | (go_simp; go_at_call 47; refine (HS1.out wr.drew).mono ?_; rintro e w2 ⟨rfl, hw2⟩; have HP2 := Lib.hid (HPR2.out w2 hw2); have q3 := Lib.hid (HC.out w2 HP2.out).1; have c3 := (HC.out w2 HP2.out).2.1; have f3 := (HC.out w2 HP2.out).2.2; have HTB := Lib.hid (HNX.out w2 HP2.out); have q4 := Lib.hid (HC'.out _ HTB.out); clear hw2))
        go_wp2_with fail
        exact ⟨⟨i + 1, by omega, by go_num, HTB.out⟩, by simp [intOf]; omega⟩
    · obtain rfl : i = 256 := by omega
      have HPR := HPR.out
      have hb := HPR.now
      rw [Rb.tcells_all] at hb
      have HROW := Lib.hid hb.heap
      have HRES := Lib.hid HPR.res.heap
      have HFIN : Hid ((wr.setRow w.heap.size (Rb.tab p f).toArray).heap[w.heap.size]? = some (.cells (Rb.tab p f).toArray 66 (0, 0)) ∧ Quiet w (wr.setRow w.heap.size (Rb.tab p f).toArray)) :=
        ⟨HPR.res.row _, HPR.only.andThen (Only.setRow _ _) (fun k hk e => by omega)⟩
      have hsz : (Try.prog.info? 66).map (·.size) = some (Rb.tab p f).toArray.size := by rw [zero_table.2]; simp [Rb.tab_len]
      have hwz : (Rb.zeros 256).toArray.size = (Rb.tab p f).toArray.size := by simp [Rb.tab_len, Rb.zeros_len]
      have HSZ := Lib.hid hsz; have HWZ := Lib.hid hwz; have HONE := Lib.hid (oneCell_tab p f)
      rw [HZ.out] at HRES HWZ
      rw [HA.out] at HROW HFIN HSZ HWZ HONE
      clear hb hsz hwz HPR HM HS HSUM H64
      rw [show ((256 : Nat) : Int) = 256 from rfl]
      go_wp2_with (first
        | (refine wpList_load_row rfl 66 (.tmp 5) rfl (w.heap.size + 1) rfl 66 A (0, 0) _ HROW.out Try.underlying66 rfl HSZ.out ?_)
        | (refine wpList_store_row rfl 66 (.tmp 4) (.tmp 42) rfl w.heap.size A rfl rfl 66 Z HRES.out HSZ.out HWZ.out HONE.out ?_))
      exact bodyPost_ret (v := .agg A) (results_cell_row rfl _ _ w.heap.size 66 A (0, 0) _ rfl HFIN.out.1 Try.underlying66 rfl HSZ.out) rfl ⟨rfl, HFIN.out.2⟩

end Go.Proofs.Ytobiajjcnpflgaa
