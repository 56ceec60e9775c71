/- (*roller).roll, (*Chunker).ends. Conditions: none. -/
import Derived.Test.YtobiajjcnpflgaaRbTake
import Derived.Test.YtobiajjcnpflgaaGRow
import Derived.StillTailTactics
namespace Go.Proofs.Ytobiajjcnpflgaa
open Go.RowKit

namespace Rb
/-- The last n of a row. -/
def wind (n : Nat) (l : List UInt8) : List UInt8 := l.drop (l.length - n)
theorem wind_small {n : Nat} {l : List UInt8} (h : l.length ≤ n) : wind n l = l := by
  unfold wind; rw [show l.length - n = 0 by omega]; rfl
theorem wind_nil (n : Nat) : wind n [] = [] := by simp [wind]
theorem wind_len {n : Nat} {l : List UInt8} (h : n ≤ l.length) : (wind n l).length = n := by
  unfold wind; rw [List.length_drop]; omega

/-- Settings, as numbers. -/
structure Cfg where
  p : Nat
  d : Nat
  win : Nat
  lo : Nat
  hi : Nat
  bits : Nat
structure Cfg.Ok (c : Cfg) : Prop where
  irr : Gf.Irr c.p
  top : Gf.Top c.d c.p
  d8 : 8 ≤ c.d
  d55 : c.d ≤ 55
  w1 : 1 ≤ c.win
  w64 : c.win ≤ 64
  wlo : c.win ≤ c.lo
  lohi : c.lo ≤ c.hi
  hi16 : c.hi ≤ 65536
  bd : c.bits ≤ c.d
  b20 : c.bits ≤ 20
theorem Cfg.Ok.p0 {c : Cfg} (h : c.Ok) : c.p ≠ 0 := by have := Gf.top_pos h.top; omega
theorem Cfg.Ok.p64 {c : Cfg} (h : c.Ok) : c.p < 18446744073709551616 := by
  have h1 := h.top.2
  have h2 : (2 : Nat) ^ (c.d + 1) ≤ 2 ^ 64 := Nat.pow_le_pow_right (by omega) (by have := h.d55; omega)
  omega

/-- What stands for the first byte of a window. -/
noncomputable def Cfg.first (c : Cfg) : Nat := Gf.rm c.p (Gf.pw 2 (8 * (c.win - 1)))
theorem pw_two_mul (x k : Nat) : Gf.mul x (Gf.pw 2 k) = x * 2 ^ k := by rw [Gf.pw_two, Gf.mul_shift]
theorem Cfg.Ok.gone {c : Cfg} (h : c.Ok) (x : Nat) : tb c.p c.first x = Gf.rm c.p (x * 256 ^ (c.win - 1)) := by
  unfold tb Cfg.first
  rw [p256, ← pw_two_mul, Gf.mul_comm x, Gf.rm_mul h.p0, Gf.mul_comm x]

/-- The window's fingerprint. -/
noncomputable def Cfg.fw (c : Cfg) (l : List UInt8) : Nat := fp c.p (wind c.win l)
theorem Cfg.Ok.fw_nil {c : Cfg} (h : c.Ok) : c.fw [] = 0 := by unfold Cfg.fw; rw [wind_nil, fp_nil h.p0]
theorem Cfg.Ok.fw_lt {c : Cfg} (h : c.Ok) (l : List UInt8) : c.fw l < 2 ^ c.d := Gf.rm_lt _ h.top
theorem Cfg.Ok.fw_grow {c : Cfg} (h : c.Ok) {l : List UInt8} (b : UInt8) (hl : l.length < c.win) : Gf.rm c.p ((c.fw l * 256) ^^^ b.toNat) = c.fw (l ++ [b]) := by
  unfold Cfg.fw
  rw [wind_small (by omega), wind_small (by simp; omega), fp_snoc h.p0]
theorem Cfg.Ok.fw_roll {c : Cfg} (h : c.Ok) {l : List UInt8} (b : UInt8) (hl : c.win ≤ l.length) : Gf.rm c.p (((c.fw l ^^^ tb c.p c.first ((l ++ [b]).getD (l.length - c.win) 0).toNat) * 256) ^^^ b.toNat) = c.fw (l ++ [b]) := by
  have hw := h.w1
  have hlt : l.length - c.win < l.length := by omega
  have e1 : wind c.win l = l[l.length - c.win] :: l.drop (l.length - c.win + 1) := by unfold wind; exact List.drop_eq_getElem_cons hlt
  have e2 : wind c.win (l ++ [b]) = l.drop (l.length - c.win + 1) ++ [b] := by
    unfold wind
    rw [List.length_append, List.length_singleton, show l.length + 1 - c.win = l.length - c.win + 1 by omega, List.drop_append_of_le_length (by omega)]
  have e3 : (l ++ [b]).getD (l.length - c.win) 0 = l[l.length - c.win] := by
    rw [List.getD_eq_getElem?_getD, List.getElem?_append_left hlt, List.getElem?_eq_getElem hlt]; rfl
  have e4 : (l.drop (l.length - c.win + 1)).length = c.win - 1 := by rw [List.length_drop]; omega
  unfold Cfg.fw
  rw [e3, h.gone, e1, e2, fp_roll h.p0 l[l.length - c.win] b, e4]

/-- Does a chunk end? -/
def ones (n x : Nat) : Bool := decide (x &&& (2 ^ n - 1) = 2 ^ n - 1)
noncomputable def Cfg.ends (c : Cfg) (l : List UInt8) : Bool := decide (c.lo ≤ l.length) && (decide (l.length ≤ c.hi) && (decide (l.length = c.hi) || ones c.bits (c.fw l)))
end Rb

noncomputable def cpost (c : Rb.Cfg) (lv : Value) : List Value := .int .i64 (c.win : Int) :: (Rb.tab c.p c.first ++ [.int .i64 (c.lo : Int), .int .i64 (c.hi : Int), .int .u64 ((2 ^ c.bits - 1 : Nat) : Int), lv])

/-- A Chunker in block g: r is the fingerprint, lv what is left. -/
def ChAt (w : World) (g : Nat) (c : Rb.Cfg) (r : Nat) (lv : Value) : Prop := TakeAt w g 78 c.p c.d r (cpost c lv)

theorem kcells_len (p d r : Nat) : (kcells p d r).length = 259 := by simp [kcells, Rb.tab_len]
theorem ChAt.at {w : World} {g : Nat} {c : Rb.Cfg} {r : Nat} {lv : Value} (h : ChAt w g c r lv) (j : Nat) : w.cell? ⟨g, 259 + j, none⟩ = (cpost c lv)[j]? := by
  rw [TakeAt.blk h |>.cell, List.getElem?_append_right (by rw [kcells_len]; omega), kcells_len, Nat.add_sub_cancel_left]
theorem ChAt.win {w : World} {g : Nat} {c : Rb.Cfg} {r : Nat} {lv : Value} (h : ChAt w g c r lv) : w.cell? ⟨g, 259, none⟩ = some (.int .i64 (c.win : Int)) := h.at 0
theorem ChAt.gone {w : World} {g : Nat} {c : Rb.Cfg} {r : Nat} {lv : Value} (h : ChAt w g c r lv) {j : Nat} (hj : j < 256) : w.cell? ⟨g, 260 + j, none⟩ = some (.int .u64 (Rb.tb c.p c.first j : Int)) := by
  have := h.at (1 + j)
  rw [show 259 + (1 + j) = 260 + j by omega] at this
  rw [this, Nat.add_comm 1 j]
  show (Rb.tab c.p c.first ++ _)[j]? = _
  rw [List.getElem?_append_left (by rw [Rb.tab_len]; exact hj)]
  exact Rb.tab_get hj
theorem cpost_tail (c : Rb.Cfg) (lv : Value) (j : Nat) : (cpost c lv)[257 + j]? = [Value.int .i64 (c.lo : Int), .int .i64 (c.hi : Int), .int .u64 ((2 ^ c.bits - 1 : Nat) : Int), lv][j]? := by
  rw [show 257 + j = (256 + j) + 1 by omega]
  show (Rb.tab c.p c.first ++ _)[256 + j]? = _
  rw [List.getElem?_append_right (by rw [Rb.tab_len]; omega), Rb.tab_len, Nat.add_sub_cancel_left]
theorem ChAt.lo {w : World} {g : Nat} {c : Rb.Cfg} {r : Nat} {lv : Value} (h : ChAt w g c r lv) : w.cell? ⟨g, 516, none⟩ = some (.int .i64 (c.lo : Int)) := (h.at 257).trans (cpost_tail c lv 0)
theorem ChAt.hi {w : World} {g : Nat} {c : Rb.Cfg} {r : Nat} {lv : Value} (h : ChAt w g c r lv) : w.cell? ⟨g, 517, none⟩ = some (.int .i64 (c.hi : Int)) := (h.at 258).trans (cpost_tail c lv 1)
theorem ChAt.ones {w : World} {g : Nat} {c : Rb.Cfg} {r : Nat} {lv : Value} (h : ChAt w g c r lv) : w.cell? ⟨g, 518, none⟩ = some (.int .u64 ((2 ^ c.bits - 1 : Nat) : Int)) := (h.at 259).trans (cpost_tail c lv 2)
theorem ChAt.left {w : World} {g : Nat} {c : Rb.Cfg} {r : Nat} {lv : Value} (h : ChAt w g c r lv) : w.cell? ⟨g, 519, none⟩ = some lv := (h.at 260).trans (cpost_tail c lv 3)
theorem ChAt.keep {w w' : World} {S : Nat → Prop} {g : Nat} {c : Rb.Cfg} {r : Nat} {lv : Value} (h : ChAt w g c r lv) (ho : Only S w w') (hn : ¬ S g) : ChAt w' g c r lv := TakeAt.keep h ho hn
theorem ChAt.set {w : World} {g : Nat} {c : Rb.Cfg} {r : Nat} {lv : Value} (h : ChAt w g c r lv) {r' : Nat} (hr : r' < 2 ^ c.d) : ChAt (w.setCell ⟨g, 0, none⟩ (.int .u64 (r' : Int))) g c r' lv := TakeAt.set h hr

set_option maxRecDepth 100000 in
set_option maxHeartbeats 1000000 in
theorem roll_any {w : World} {g : Nat} {c : Rb.Cfg} {lv : Value} {l : List UInt8} {b : UInt8} {S : Nat → Prop} {v : Value} (hc : c.Ok) (h : ChAt w g c (c.fw l) lv) (hv : BytesAt w S v (l ++ [b])) (hS : ∀ k, S k → k < w.heap.size ∧ k ≠ g) (hl : l.length < 140737488355328) :
    Calls Try.prog 43 #[.pointer (some ⟨g, 0, none⟩), v] w fun e w' => e = .returned (.tuple #[]) ∧ ChAt w' g c (c.fw (l ++ [b])) lv ∧ Only (fun k => k = g) w w' := by
  obtain ⟨va, vc, rfl⟩ := hv.shape
  rcases hv with ⟨h1, h2⟩ | ⟨ad, vc', h1, hcap, hsb, hcell⟩
  · simp at h2
  obtain ⟨rfl, _, rfl⟩ := Value.slice.inj h1
  have hlen : (l ++ [b]).length = l.length + 1 := by simp
  have hS := hS _ (hsb (by simp))
  have HCELL : Hid (∀ w5, Only (fun k => k = g) w w5 → ∀ j, j < l.length + 1 → w5.cell? (ad.add j) = some (.int .u8 (((l ++ [b]).getD j 0).toNat : Int))) := fun w5 ho j hj => by
    rw [World.cell?_of_block (w := w) (by rw [add_block]; exact ho.block _ hS.1 hS.2)]
    rw [hcell j ((l ++ [b]).getD j 0) (by rw [List.getD_eq_getElem?_getD, List.getElem?_eq_getElem (by rw [hlen]; exact hj)]; rfl)]
    rfl
  have hbl : (l ++ [b]).getD l.length 0 = b := by simp
  rw [hlen]
  clear h1 hcap hsb hcell hlen
  have H := Lib.hid h
  have c1 := h.win
  have w1 := hc.w1
  have w64 := hc.w64
  have HW := Lib.hid hc
  clear h hc
  by_cases hlt : l.length < c.win
  · have HG := Lib.hid (HW.out.fw_grow b hlt)
    have hneg : ¬ (l.length : Int) - (c.win : Int) ≥ 0 := by omega
    have HT := Lib.hid (fun w5 (h : ChAt w5 g c (c.fw l) lv) => take7_any h b)
    have c2 := HCELL.out w (Only.refl _ _) l.length (by omega)
    rw [hbl] at c2
    generalize l.length = n at *
    generalize b.toNat = x at *
    have p1 : 0 ≤ (n : Int) := by omega
    have m1 : (n : Int) < (n : Int) + 1 := by omega
    have c2d : w.drew.cell? (ad.add n) = some (.int .u8 (x : Int)) := c2
    go_enter Try.func43, Try.ntmps43
    go_wp2
    go_still_tail 7, (by kernel_rfl)
    change wpList _ _ _ _ _ w.drew
    have H5 := Lib.hid (H.out.keep (w' := w.drew) Only.drew (fun x => x))
    have HO : Hid (Only (fun k => k = g) w w.drew) := Only.drew.mono (fun _ _ x => x.elim)
    clear c1 c2 c2d
    generalize w.drew = w5 at *
    go_wp2_with fail
    refine (HT.out w5 H5.out).mono ?_
    rintro e w6 ⟨rfl, h6, ho6⟩
    rw [HG.out] at h6
    have H6 := Lib.hid h6
    have HO6 := Lib.hid ho6
    clear h6 ho6
    go_wp2_with fail
    go_end0
    exact ⟨rfl, H6.out, HO.out.trans HO6.out⟩
  · have HG := Lib.hid (HW.out.fw_roll b (show c.win ≤ l.length by omega))
    obtain ⟨k, hk⟩ : ∃ k, l.length - c.win = k := ⟨_, rfl⟩
    have hki : (l.length : Int) - (c.win : Int) = (k : Int) := by omega
    have hkn : k < l.length := by omega
    rw [hk] at HG
    have hx := ((l ++ [b]).getD k 0).toNat_lt
    have c2 := HCELL.out w (Only.refl _ _) k (by omega)
    have c5 := HCELL.out
    have HC5 : Hid (∀ w5, Only (fun k => k = g) w w5 → w5.cell? (ad.add l.length) = some (.int .u8 (b.toNat : Int))) := fun w5 ho => by
      have := HCELL.out w5 ho l.length (by omega)
      rwa [hbl] at this
    generalize ((l ++ [b]).getD k 0).toNat = y at *
    have c3 := H.out.gone (j := y) hx
    have c4 := TakeAt.r H.out
    have f4 := TakeAt.blk H.out |>.frozen 0
    have htb : Rb.tb c.p c.first y < 2 ^ c.d := Gf.rm_lt _ HW.out.top
    have hfw := HW.out.fw_lt l
    have hle : (2 : Nat) ^ c.d ≤ 2 ^ 64 := Nat.pow_le_pow_right (by omega) (by have := HW.out.d55; omega)
    have HX2 := Lib.hid (Nat.xor_lt_two_pow hfw htb)
    have hx1 := bits_xor_u64 (c.fw l) (Rb.tb c.p c.first y) (by omega) (by omega)
    have HSET := Lib.hid (H.out.set HX2.out)
    have HT := Lib.hid (fun w5 r (h : ChAt w5 g c r lv) => take7_any h b)
    clear hle htb hfw hbl HCELL c5
    generalize Rb.tb c.p c.first y = z at *
    generalize c.fw l = r at *
    generalize r ^^^ z = R at *
    generalize l.length = n at *
    generalize b.toNat = x at *
    have p0 : (k : Int) ≥ 0 := by omega
    have pk : 0 ≤ (k : Int) := by omega
    have mk : (k : Int) < (n : Int) + 1 := by omega
    have wk : IntKind.i64.wrap (k : Int) = (k : Int) := IntWalk.i64_in _ (by omega)
    have py : 0 ≤ (y : Int) := by omega
    have my : (y : Int) < 256 := by omega
    have p1 : 0 ≤ (n : Int) := by omega
    have m1 : (n : Int) < (n : Int) + 1 := by omega
    clear hk hx
    go_enter Try.func43, Try.ntmps43
    go_wp2
    go_region
    have HO5 : Hid (Only (fun k => k = g) w ((w.setCell ⟨g, 0, none⟩ (.int .u64 (R : Int))).drew)) := (Only.setCell ⟨g, 0, none⟩ _).trans (Only.drew.mono (fun _ _ x => x.elim))
    have H5 := Lib.hid (HSET.out.keep (w' := (w.setCell ⟨g, 0, none⟩ (.int .u64 (R : Int))).drew) Only.drew (fun x => x))
    clear HSET c2 c3 c4 f4 c1
    generalize (w.setCell ⟨g, 0, none⟩ (.int .u64 (R : Int))).drew = w5 at *
    have c6 := HC5.out w5 HO5.out
    have c6d : w5.drew.cell? (ad.add n) = some (.int .u8 (x : Int)) := c6
    go_wp2
    go_still_tail 7, (by kernel_rfl)
    change wpList _ _ _ _ _ w5.drew
    have H6 := Lib.hid (H5.out.keep (w' := w5.drew) Only.drew (fun x => x))
    have HO6 : Hid (Only (fun k => k = g) w w5.drew) := HO5.out.trans (Only.drew.mono (fun _ _ x => x.elim))
    clear c6 c6d H5 HO5
    generalize w5.drew = w6 at *
    go_wp2_with fail
    refine (HT.out w6 R H6.out).mono ?_
    rintro e w7 ⟨rfl, h7, ho7⟩
    rw [HG.out] at h7
    have H7 := Lib.hid h7
    have HO7 := Lib.hid ho7
    clear h7 ho7
    go_wp2_with fail
    go_end0
    exact ⟨rfl, H7.out, HO6.out.trans HO7.out⟩

namespace Rb
theorem ones_lt {c : Cfg} (h : c.Ok) : 2 ^ c.bits - 1 < 18446744073709551616 := by
  have h2 : (2 : Nat) ^ c.bits ≤ 2 ^ 64 := Nat.pow_le_pow_right (by omega) (by have := h.b20; omega)
  omega
noncomputable def Cfg.next (c : Cfg) (l : List UInt8) : List UInt8 := if c.ends l = true then [] else l
theorem Cfg.next_end {c : Cfg} {l : List UInt8} (h : c.ends l = true) : c.next l = [] := by unfold Cfg.next; rw [if_pos h]
theorem Cfg.next_on {c : Cfg} {l : List UInt8} (h : c.ends l = false) : c.next l = l := by unfold Cfg.next; rw [if_neg (by rw [h]; simp)]
theorem ends_less {c : Cfg} {l : List UInt8} (h : l.length < c.lo) : c.ends l = false := by unfold Cfg.ends; simp; omega
theorem ends_full {c : Cfg} (hc : c.Ok) {l : List UInt8} (h : l.length = c.hi) : c.ends l = true := by have := hc.lohi; unfold Cfg.ends; simp; omega
theorem ends_mark {c : Cfg} {l : List UInt8} (h1 : c.lo ≤ l.length) (h2 : l.length < c.hi) : c.ends l = ones c.bits (c.fw l) := by
  unfold Cfg.ends
  have e : ¬ l.length = c.hi := by omega
  simp [h1, e]
  intro; omega
end Rb

set_option maxRecDepth 100000 in
set_option maxHeartbeats 1000000 in
theorem ends_any {w : World} {g : Nat} {c : Rb.Cfg} {lv : Value} {l : List UInt8} {b : UInt8} {S : Nat → Prop} {v : Value} (hc : c.Ok) (h : ChAt w g c (c.fw l) lv) (hv : BytesAt w S v (l ++ [b])) (hS : ∀ k, S k → k < w.heap.size ∧ k ≠ g) (hl : l.length < c.hi) :
    Calls Try.prog 30 #[.pointer (some ⟨g, 0, none⟩), v] w fun e w' => e = .returned (.bool (c.ends (l ++ [b]))) ∧ ChAt w' g c (c.fw (c.next (l ++ [b]))) lv ∧ Only (fun k => k = g) w w' := by
  have HR := Lib.hid (roll_any hc h hv hS (by have := hc.hi16; omega))
  obtain ⟨va, vc, hsh⟩ := hv.shape
  have hlen : (l ++ [b]).length = l.length + 1 := by simp
  rw [hlen] at hsh
  subst hsh
  have HN0 : Hid (∀ w5, ChAt w5 g c (c.fw (l ++ [b])) lv → Calls Try.prog 41 #[.pointer (some ⟨g, 0, none⟩)] w5 fun e w' => e = .returned (.tuple #[]) ∧ ChAt w' g c (c.fw []) lv ∧ Only (fun k => k = g) w5 w') := fun w5 h5 => by
    rw [hc.fw_nil]; exact restart_any h5
  have HLESS := Lib.hid (@Rb.ends_less c (l ++ [b]))
  have HFULL := Lib.hid (@Rb.ends_full c hc (l ++ [b]))
  have HMARK := Lib.hid (@Rb.ends_mark c (l ++ [b]))
  rw [hlen] at HLESS HFULL HMARK
  have hlohi := hc.lohi
  have hhi := hc.hi16
  have hr64 : c.fw (l ++ [b]) < 18446744073709551616 := by
    have := hc.fw_lt (l ++ [b])
    have hle : (2 : Nat) ^ c.d ≤ 2 ^ 64 := Nat.pow_le_pow_right (by omega) (by have := hc.d55; omega)
    omega
  have ba := bits_and_u64 (c.fw (l ++ [b])) (2 ^ c.bits - 1) hr64 (Rb.ones_lt hc)
  have HND := Lib.hid (@Rb.Cfg.next_end c (l ++ [b]))
  have HNO := Lib.hid (@Rb.Cfg.next_on c (l ++ [b]))
  unfold Rb.ones at HMARK
  obtain ⟨M, hM⟩ : ∃ M, c.fw (l ++ [b]) &&& (2 ^ c.bits - 1) = M := ⟨_, rfl⟩
  rw [hM] at ba HMARK
  have HC8 : Hid (∀ w5, ChAt w5 g c (c.fw (l ++ [b])) lv → w5.cell? ⟨g, 0, none⟩ = some (.int .u64 (c.fw (l ++ [b]) : Int)) ∧ w5.cell? ⟨g, 516, none⟩ = some (.int .i64 (c.lo : Int)) ∧ w5.cell? ⟨g, 517, none⟩ = some (.int .i64 (c.hi : Int)) ∧ w5.cell? ⟨g, 518, none⟩ = some (.int .u64 ((2 ^ c.bits - 1 : Nat) : Int))) := fun w5 h5 => ⟨TakeAt.r h5, h5.lo, h5.hi, h5.ones⟩
  generalize 2 ^ c.bits - 1 = O at *
  clear h hc hv hS hM hlen
  generalize l.length = n at *
  generalize l ++ [b] = L at *
  go_enter Try.func30, Try.ntmps30
  go_wp2_with fail
  refine HR.out.mono ?_
  rintro e w1 ⟨rfl, h1, ho1⟩
  have H1 := Lib.hid h1
  have HO1 := Lib.hid ho1
  obtain ⟨c1, c2, c3, c4⟩ := HC8.out w1 h1
  clear h1 ho1 HR
  by_cases hlo : n + 1 < c.lo
  · have HE := HLESS.out hlo
    have d1 : decide ((n : Int) + 1 ≥ (c.lo : Int)) = false := by simp; omega
    have g2 : (n : Int) + 1 < (c.hi : Int) := by omega
    go_wp2
    go_quiet (fail)
    have HQ := Lib.hid (Only.drewN (w := w1) nq)
    have H2 := Lib.hid (H1.out.keep HQ.out (fun x => x))
    clear c1 c2 c3 c4
    obtain ⟨c1, c2, c3, c4⟩ := HC8.out _ H2.out
    generalize w1.drewN nq = w2 at *
    go_wp2
    go_ret
    exact ⟨by rw [HE]; rfl, by rw [HNO.out HE]; exact H2.out, HO1.out.trans (HQ.out.mono (fun _ _ x => x.elim))⟩
  · have d1 : (n : Int) + 1 ≥ (c.lo : Int) := by omega
    have HMK := Lib.hid (fun h => HMARK.out (by omega) h)
    by_cases hMO : M = O
    · have e1 : (M : Int) = (O : Int) := by omega
      have HE : c.ends L = true := by
        rcases Nat.lt_or_ge (n + 1) c.hi with hlt | hge
        · rw [HMK.out hlt]; simp [hMO]
        · exact HFULL.out (by omega)
      subst hMO
      go_wp2
      go_quiet (fail)
      have HQ := Lib.hid (Only.drewN (w := w1) nq)
      have H2 := Lib.hid (H1.out.keep HQ.out (fun x => x))
      clear c1 c2 c3 c4
      generalize w1.drewN nq = w2 at *
      have HN2 := Lib.hid (HN0.out w2 H2.out)
      go_wp2_with fail
      refine HN2.out.mono ?_
      rintro e w3 ⟨rfl, h3, ho3⟩
      have H3 := Lib.hid h3
      have HO3 := Lib.hid ho3
      clear h3 ho3
      go_wp2_with fail
      go_ret
      exact ⟨by rw [HE]; rfl, by rw [HND.out HE]; exact H3.out, (HO1.out.trans (HQ.out.mono (fun _ _ x => x.elim))).trans HO3.out⟩
    · have e1 : ((M : Int) == (O : Int)) = false := by simp; omega
      go_wp2
      go_quiet (fail)
      have HQ := Lib.hid (Only.drewN (w := w1) nq)
      have H2 := Lib.hid (H1.out.keep HQ.out (fun x => x))
      clear c1 c2 c3 c4
      obtain ⟨c1, c2, c3, c4⟩ := HC8.out _ H2.out
      generalize w1.drewN nq = w2 at *
      rcases Nat.lt_or_ge (n + 1) c.hi with hlt | hge
      · have HE : c.ends L = false := by rw [HMK.out hlt]; simp [hMO]
        have g2 : (n : Int) + 1 < (c.hi : Int) := by omega
        go_wp2
        go_ret
        exact ⟨by rw [HE]; rfl, by rw [HNO.out HE]; exact H2.out, HO1.out.trans (HQ.out.mono (fun _ _ x => x.elim))⟩
      · have HE : c.ends L = true := HFULL.out (by omega)
        have g2 : ¬ (n : Int) + 1 < (c.hi : Int) := by omega
        have HN2 := Lib.hid (HN0.out w2 H2.out)
        go_wp2_with fail
        refine HN2.out.mono ?_
        rintro e w3 ⟨rfl, h3, ho3⟩
        have H3 := Lib.hid h3
        have HO3 := Lib.hid ho3
        clear h3 ho3
        go_wp2_with fail
        go_ret
        exact ⟨by rw [HE]; rfl, by rw [HND.out HE]; exact H3.out, (HO1.out.trans (HQ.out.mono (fun _ _ x => x.elim))).trans HO3.out⟩

end Go.Proofs.Ytobiajjcnpflgaa
