/- The document's own Var, Num, ReadNum. Conditions: none. -/
import Derived.Test.YtnomgcbkaggmhaaWiNum
namespace Go.Proofs.Ytnomgcbkaggmhaa
open Go.RowKit

set_option maxRecDepth 100000 in
set_option maxHeartbeats 1000000 in
theorem r4Var_any {w : World} {n : Nat} (hn : n < 9223372036854775808) :
    Calls Try.prog 19 #[.int .i64 (n : Int)] w fun e w' => ∃ a c, e = .returned (.slice a (Wi.var n).length c) ∧ Row w w' (.slice a (Wi.var n).length c) (Wi.var n) := by
  have hvl : (Wi.var n).length ≤ 9 := Wi.var_length 8 n (by simpa using hn)
  obtain ⟨R, hR⟩ : ∃ R, R = Wi.var n := ⟨_, rfl⟩
  rw [← hR] at hvl ⊢
  have HRl := Lib.hid hvl
  have HREL : Hid (R = [] ++ Wi.var n) := hR
  clear hvl hR
  go_enter Try.func19, Try.ntmps19
  go_wp2
  go_loopw [0, 3] (fun iv ov wr => ∃ (m : Nat) (ys : List UInt8), iv = .int .i64 m ∧ m < 9223372036854775808 ∧ Row w wr ov ys ∧ R = ys ++ Wi.var m) (fun iv _ _ => (intOf iv).toNat)
  case atStart => exact ⟨n, [], rfl, hn, Row.nil w, HREL.out⟩
  case round =>
    obtain ⟨m, ys, rfl, hm, hr, he⟩ := hrel
    obtain ⟨ra, rc, rfl⟩ := hr.shape
    have HR := Lib.hid hr
    have HE := Lib.hid he
    have HROW : Hid (∀ x, (wr.alloc x).ownsRow 0 5 1 (.slice ra ys.length rc) ys.length (ys.map byteV)) := fun x => hr.row.alloc x
    have HYL : Hid (ys.length + 1 ≤ 140737488355328) := by
      have := Wi.var_pos m; rw [he, List.length_append] at HRl; have := HRl.out; unfold Hid; omega
    have h0 : (m : Int) ≥ 0 := by omega
    clear hr he
    by_cases hlt : m < 128
    · have hq : (m : Int) / 128 = 0 := by omega
      have hz : ((m : Int) / 128 == 0) = true := by simp; omega
      have hd : (m : Int) % 128 = (m : Int) := by omega
      have HSRC : Hid (BytesAt (wr.alloc (.cells #[.int .u8 (m : Int)] 5)) (fun k => k = wr.heap.size) (.slice (some ⟨wr.heap.size, 0, none⟩) 1 1) [UInt8.ofNat m]) := one_byte_of (by unfold byteV; rw [byte_of_nat]; congr 1; omega)
      go_wp2_with (at_builtin; refine wpList_append_bytes _ rfl _ _ rfl (.slice ra ys.length rc) (.slice (some ⟨wr.heap.size, 0, none⟩) 1 1) ys.length (ys.map byteV) rfl rfl (HROW.out _) HSRC.out HYL.out ?_; intro a1 c1 w1 hr1 hg1 hat1; have HN := Lib.hid (HR.out.app (Only.alloc _) rfl hr1 hg1 hat1); clear hr1 hg1 hat1)
      go_ret
      have e : R = ys ++ [UInt8.ofNat m] := by rw [HE.out, Wi.var_small hlt]
      refine ⟨a1, c1, ?_, ?_⟩
      · rw [e]; simp
      · rw [e]; simpa using HN.out
    · obtain ⟨q, hq⟩ : ∃ q, m / 128 = q := ⟨_, rfl⟩
      obtain ⟨d, hd⟩ : ∃ d, m % 128 = d := ⟨_, rfl⟩
      have hq' : (m : Int) / 128 = (q : Int) := by omega
      have hd' : (m : Int) % 128 = (d : Int) := by omega
      have hz : ((q : Int) == 0) = false := by simp; omega
      have HSRC : Hid (BytesAt (wr.alloc (.cells #[.int .u8 ((d : Int) + 128)] 5)) (fun k => k = wr.heap.size) (.slice (some ⟨wr.heap.size, 0, none⟩) 1 1) [UInt8.ofNat (m % 128 + 128)]) := one_byte_of (by unfold byteV; rw [byte_of_nat]; congr 1; omega)
      have hd128 : d < 128 := by omega
      go_wp2_with (at_builtin; refine wpList_append_bytes _ rfl _ _ rfl (.slice ra ys.length rc) (.slice (some ⟨wr.heap.size, 0, none⟩) 1 1) ys.length (ys.map byteV) rfl rfl (HROW.out _) HSRC.out HYL.out ?_; intro a1 c1 w1 hr1 hg1 hat1; have HN := Lib.hid (HR.out.app (Only.alloc _) rfl hr1 hg1 hat1); clear hr1 hg1 hat1)
      refine ⟨⟨q, ys ++ [UInt8.ofNat (m % 128 + 128)], rfl, by omega, HN.out, ?_⟩, by simp [intOf]; omega⟩
      rw [HE.out, Wi.var_big (by omega), hq]; simp

theorem r4Var_neg {w : World} {n : Int} (hn : n < 0) : Calls Try.prog 19 #[.int .i64 n] w fun e w' => e = .returned (.slice none 0 0) ∧ w' = w := by
  have h : ¬ n ≥ 0 := by omega
  clear hn
  go_enter Try.func19, Try.ntmps19
  go_wp2
  go_loopw [0] (fun iv wr => iv = .int .i64 n ∧ wr = w) (fun _ _ => 0)
  case atStart => exact ⟨rfl, rfl⟩
  case round =>
    obtain ⟨rfl, rfl⟩ := hrel
    go_wp2
    go_ret
    exact ⟨rfl, rfl⟩

/-- The row from its end on. -/
def lastCells (n : Int) (j : Nat) : List Value := List.replicate (8 - j) (byteV 0) ++ ((Wi.num n).drop (8 - j)).map byteV
theorem lastCells_zero (n : Int) : lastCells n 0 = ocells 8 [] := by simp [lastCells, ocells, Wi.num_len]
theorem lastCells_all (n : Int) : lastCells n 8 = (Wi.num n).map byteV := by simp [lastCells]
theorem lastCells_set (n : Int) {j : Nat} (h : j < 8) : (lastCells n j).set (7 - j) (byteV (UInt8.ofNat ((n / 256 ^ j) % 256).toNat)) = lastCells n (j + 1) := by
  unfold lastCells
  rw [show 8 - j = (7 - j) + 1 by omega, List.replicate_succ', List.append_assoc, show 8 - (j + 1) = 7 - j by omega, List.set_append_right _ _ (by simp)]
  simp only [List.length_replicate, Nat.sub_self, List.cons_append, List.nil_append, List.set_cons_zero]
  congr 1
  have hl : 7 - j < (Wi.num n).length := by rw [Wi.num_len]; omega
  rw [List.drop_eq_getElem_cons hl, List.map_cons]
  congr 1
  have := Wi.num_get n (i := 7 - j) (by omega)
  rw [List.getElem?_eq_getElem hl, show 7 - (7 - j) = j by omega] at this
  rw [Option.some.inj this]
theorem lastCells_get (n : Int) {j : Nat} (h : j < 8) : (lastCells n j)[7 - j]? = some (.int .u8 0) := by
  unfold lastCells
  rw [List.getElem?_append_left (by simp; omega)]
  simp [List.getElem?_replicate, byteV]
  omega

theorem low_byte (n : Int) {j : Nat} (h : j < 8) : n % 18446744073709551616 / 256 ^ j % 256 = n / 256 ^ j % 256 := by
  match j, h with
  | 0, _ => simp
  | 1, _ => simp; omega
  | 2, _ => simp; omega
  | 3, _ => simp; omega
  | 4, _ => simp; omega
  | 5, _ => simp; omega
  | 6, _ => simp; omega
  | 7, _ => simp; omega

set_option maxRecDepth 100000 in
set_option maxHeartbeats 1000000 in
theorem r4Num_any {w : World} {n : Int} :
    Calls Try.prog 21 #[.int .i64 n] w fun e w' => ∃ a c, e = .returned (.slice a 8 c) ∧ Row w w' (.slice a 8 c) (Wi.num n) := by
  have hmk := make_8
  have HB0 : Hid (Blk (w.alloc (.cells (ocells 8 []).toArray 5)) w.heap.size (lastCells n 0) 5) := by rw [lastCells_zero]; exact Blk.new w (ocells 8 []) 5
  obtain ⟨Z, hZ⟩ : ∃ Z, (ocells 8 []).toArray = Z := ⟨_, rfl⟩
  rw [hZ] at HB0
  simp only [hZ] at hmk
  clear hZ
  go_enter Try.func21, Try.ntmps21
  go_wp2
  go_loopw [4, 5] (fun xv iv wr => ∃ (j : Nat) (i X : Int), j ≤ 8 ∧ i = 7 - (j : Int) ∧ iv = .int .i64 i ∧ xv = .int .u64 X ∧ X = n % 18446744073709551616 / 256 ^ j ∧ Blk wr w.heap.size (lastCells n j) 5 ∧ Only (fun _ => False) w wr) (fun _ iv _ => (intOf iv + 1).toNat)
  case atStart => exact ⟨0, 7, _, Nat.zero_le _, rfl, rfl, rfl, by rw [IntKind.wrap_u64]; simp, HB0.out, Only.alloc _⟩
  case round =>
    obtain ⟨j, i, X, hj, hi, rfl, rfl, hX, hb, ho⟩ := hrel
    by_cases hlt : j < 8
    · have f1 := hb.frozen (7 - j)
      have c1 : wr.cell? ⟨w.heap.size, 7 - j, none⟩ = some (.int .u8 0) := by rw [hb.cell]; exact lastCells_get n hlt
      have HB := Lib.hid hb
      have HO := Lib.hid ho
      have hx0 : 0 ≤ X := by rw [hX]; exact Int.ediv_nonneg (by omega) (by exact Int.pow_nonneg (by omega))
      have HX := Lib.hid hX
      clear hb ho hX
      obtain ⟨p, hp⟩ : ∃ p : Nat, p = 7 - j := ⟨_, rfl⟩
      have hip : i = (p : Int) := by omega
      have hp8 : p < 8 := by omega
      have hx1 : X ≤ 18446744073709551615 := by
        rw [HX.out]
        refine Int.le_trans (Int.ediv_le_self _ (by omega)) (by omega)
      have HP := Lib.hid hp
      subst hip
      rw [← hp] at f1 c1
      have HIJ := Lib.hid hi
      clear hp hi
      go_wp2
      have e0 : Value.int .u8 (X % 256) = byteV (UInt8.ofNat ((n / 256 ^ j) % 256).toNat) := by
        unfold byteV
        rw [u8_low, HX.out, low_byte n hlt]
      have hs := HB.out.set p (byteV (UInt8.ofNat ((n / 256 ^ j) % 256).toNat))
      rw [HP.out, lastCells_set n hlt, ← HP.out] at hs
      rw [e0]
      have hij := HIJ.out
      refine ⟨⟨j + 1, _, _, by omega, ?_, rfl, rfl, ?_, hs, HO.out.andThen (Only.setCell ⟨w.heap.size, p, none⟩ _) (fun k hk e => by simp at e; omega)⟩, by simp [intOf]⟩
      · rw [hij]; omega
      · rw [HX.out, Int.pow_succ, Int.ediv_ediv_of_nonneg (Int.pow_nonneg (by omega))]
    · have hj8 : j = 8 := by omega
      rw [hj8, lastCells_all] at hb
      have HR := Lib.hid (Row.of_blk hb (Wi.num_len n) ho (by omega))
      clear hb ho hX
      have hi1 : i = -1 := by omega
      subst hi1
      go_wp2
      go_ret
      exact ⟨_, _, rfl, HR.out⟩

set_option maxRecDepth 100000 in
set_option maxHeartbeats 1000000 in
theorem r4ReadNum_any {w : World} {S : Nat → Prop} {v : Value} {bs : List UInt8} (hv : BytesAt w S v bs) (hl : bs.length = 8) :
    Calls Try.prog 15 #[v] w fun e w' => w' = w ∧ e = .returned (.tuple #[.int .i64 (wrap64 (Wi.be bs : Int)), .int .i64 0]) := by
  obtain ⟨va, vc, rfl⟩ := hv.shape
  have HV := Lib.hid hv
  clear hv
  rw [hl]
  go_enter Try.func15, Try.ntmps15
  go_wp2
  go_loopw [4, 5] (fun nv iv wr => ∃ i B : Nat, nv = .int .u64 (B : Int) ∧ B = Wi.be (bs.take i) ∧ iv = .int .i64 i ∧ i ≤ 8 ∧ wr = w) (fun _ iv _ => 8 - (intOf iv).toNat)
  case atStart => exact ⟨0, 0, rfl, rfl, rfl, Nat.zero_le _, rfl⟩
  case round =>
    obtain ⟨i, B, rfl, hB, rfl, hi, rfl⟩ := hrel
    by_cases hlt : i < 8
    · obtain ⟨ad, rfl, hc⟩ := HV.out.byte (i := i) (by omega)
      have pz : 0 ≤ (i : Int) := by omega
      have mz : (i : Int) < 8 := by omega
      have hX := Wi.be_lt bs i (by omega)
      have hP := Nat.pow_le_pow_right (n := 256) (by omega) (show i ≤ 7 by omega)
      have hBl : B < 72057594037927936 := by rw [hB]; exact Nat.lt_of_lt_of_le hX (by simpa using hP)
      have HB : Hid (B * 256 + (bs.getD i 0).toNat = Wi.be (bs.take (i + 1))) := by rw [Hid, Wi.be_succ bs (by omega), hB]
      have hcl := (bs.getD i 0).toNat_lt
      clear hX hP hB
      generalize (bs.getD i 0).toNat = c at *
      go_wp2
      exact ⟨⟨i + 1, B * 256 + c, by simp, HB.out, by go_num, by omega, trivial⟩, by simp [intOf]; omega⟩
    · have hi8 : i = 8 := by omega
      have HB : Hid (B = Wi.be bs) := by rw [Hid, hB, hi8, ← hl, Wi.be_all]
      clear hB
      go_wp2
      go_ret2
      exact ⟨rfl, by rw [HB.out]; rfl⟩

theorem r4ReadNum_err {w : World} {a : Option Addr} {n c : Nat} (hl : n ≠ 8) :
    Calls Try.prog 15 #[.slice a n c] w fun e w' => w' = w ∧ e = .returned (.tuple #[.int .i64 0, .int .i64 9]) := by
  have h : ((n : Int) == 8) = false := by simp; omega
  clear hl
  go_enter Try.func15, Try.ntmps15
  go_wp2
  go_ret2
  exact ⟨rfl, rfl⟩

end Go.Proofs.Ytnomgcbkaggmhaa
