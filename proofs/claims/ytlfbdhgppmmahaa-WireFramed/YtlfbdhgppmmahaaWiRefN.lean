/- The document's own Var, Num, ReadNum. Conditions: none. -/
import Derived.Test.YtlfbdhgppmmahaaWiNum
namespace Go.Proofs.Ytlfbdhgppmmahaa
open Go.RowKit

set_option maxRecDepth 100000 in
set_option maxHeartbeats 1000000 in
theorem r4Var_any {w : World} {n : Nat} (hn : n < 9223372036854775808) :
    Calls Try.prog 24 #[.int .i64 (n : Int)] w fun e w' => ∃ a c, e = .returned (.slice a (Wi.var n).length c) ∧ Row w w' (.slice a (Wi.var n).length c) (Wi.var n) := by
  have hvl : (Wi.var n).length ≤ 9 := Wi.var_length 8 n (by simpa using hn)
  obtain ⟨R, hR⟩ : ∃ R, R = Wi.var n := ⟨_, rfl⟩
  rw [← hR] at hvl ⊢
  have HRl := Lib.hid hvl
  have HREL : Hid (R = [] ++ Wi.var n) := hR
  clear hvl hR
  go_enter Try.func24, Try.ntmps24
  go_wp2
  go_loopw [0, 3] (fun iv ov wr => ∃ (m : Nat) (ys : List UInt8), iv = .int .i64 m ∧ m < 9223372036854775808 ∧ Row w wr ov ys ∧ R = ys ++ Wi.var m) (fun iv _ _ => (intOf iv).toNat)
  case atStart => exact ⟨n, [], rfl, hn, Row.nil w, HREL.out⟩
  case round =>
    obtain ⟨m, ys, rfl, hm, hr, he⟩ := hrel
    obtain ⟨ra, rc, rfl⟩ := hr.shape
    have HR := Lib.hid hr
    have HE := Lib.hid he
    have HROW : Hid (∀ x, (wr.alloc x).ownsRow 0 5 1 (.slice ra ys.length rc) ys.length (ys.map byteV)) := fun x => hr.row.alloc x
    have HYL : Hid (ys.length + 1 ≤ 140737488355328) := by
      have := Wi.var_pos m; rw [he, List.length_append] at HRl; have := HRl.out; unfold Hid; omega
    have h0 : (m : Int) ≥ 0 := by omega
    clear hr he
    by_cases hlt : m < 128
    · have hq : (m : Int) / 128 = 0 := by omega
      have hz : ((m : Int) / 128 == 0) = true := by simp; omega
      have hd : (m : Int) % 128 = (m : Int) := by omega
      have HSRC : Hid (BytesAt (wr.alloc (.cells #[.int .u8 (m : Int)] 5)) (fun k => k = wr.heap.size) (.slice (some ⟨wr.heap.size, 0, none⟩) 1 1) [UInt8.ofNat m]) := one_byte_of (by unfold byteV; rw [byte_of_nat]; congr 1; omega)
      go_wp2_with (at_builtin; refine wpList_append_bytes _ rfl _ _ rfl (.slice ra ys.length rc) (.slice (some ⟨wr.heap.size, 0, none⟩) 1 1) ys.length (ys.map byteV) rfl rfl (HROW.out _) HSRC.out HYL.out ?_; intro a1 c1 w1 hr1 hg1 hat1; have HN := Lib.hid (HR.out.app (Only.alloc _) rfl hr1 hg1 hat1); clear hr1 hg1 hat1)
      go_ret
      have e : R = ys ++ [UInt8.ofNat m] := by rw [HE.out, Wi.var_small hlt]
      refine ⟨a1, c1, ?_, ?_⟩
      · rw [e]; simp
      · rw [e]; simpa using HN.out
    · obtain ⟨q, hq⟩ : ∃ q, m / 128 = q := ⟨_, rfl⟩
      obtain ⟨d, hd⟩ : ∃ d, m % 128 = d := ⟨_, rfl⟩
      have hq' : (m : Int) / 128 = (q : Int) := by omega
      have hd' : (m : Int) % 128 = (d : Int) := by omega
      have hz : ((q : Int) == 0) = false := by simp; omega
      have HSRC : Hid (BytesAt (wr.alloc (.cells #[.int .u8 ((d : Int) + 128)] 5)) (fun k => k = wr.heap.size) (.slice (some ⟨wr.heap.size, 0, none⟩) 1 1) [UInt8.ofNat (m % 128 + 128)]) := one_byte_of (by unfold byteV; rw [byte_of_nat]; congr 1; omega)
      have hd128 : d < 128 := by omega
      go_wp2_with (at_builtin; refine wpList_append_bytes _ rfl _ _ rfl (.slice ra ys.length rc) (.slice (some ⟨wr.heap.size, 0, none⟩) 1 1) ys.length (ys.map byteV) rfl rfl (HROW.out _) HSRC.out HYL.out ?_; intro a1 c1 w1 hr1 hg1 hat1; have HN := Lib.hid (HR.out.app (Only.alloc _) rfl hr1 hg1 hat1); clear hr1 hg1 hat1)
      refine ⟨⟨q, ys ++ [UInt8.ofNat (m % 128 + 128)], rfl, by omega, HN.out, ?_⟩, by simp [intOf]; omega⟩
      rw [HE.out, Wi.var_big (by omega), hq]; simp

theorem r4Var_neg {w : World} {n : Int} (hn : n < 0) : Calls Try.prog 24 #[.int .i64 n] w fun e w' => e = .returned (.slice none 0 0) ∧ w' = w := by
  have h : ¬ n ≥ 0 := by omega
  clear hn
  go_enter Try.func24, Try.ntmps24
  go_wp2
  go_loopw [0] (fun iv wr => iv = .int .i64 n ∧ wr = w) (fun _ _ => 0)
  case atStart => exact ⟨rfl, rfl⟩
  case round =>
    obtain ⟨rfl, rfl⟩ := hrel
    go_wp2
    go_ret
    exact ⟨rfl, rfl⟩

/-- The row from its end on. -/
def lastCells (n : Int) (j : Nat) : List Value := List.replicate (8 - j) (byteV 0) ++ ((Wi.num n).drop (8 - j)).map byteV
theorem lastCells_zero (n : Int) : lastCells n 0 = ocells 8 [] := by simp [lastCells, ocells, Wi.num_len]
theorem lastCells_all (n : Int) : lastCells n 8 = (Wi.num n).map byteV := by simp [lastCells]
theorem lastCells_set (n : Int) {j : Nat} (h : j < 8) : (lastCells n j).set (7 - j) (byteV (UInt8.ofNat ((n / 256 ^ j) % 256).toNat)) = lastCells n (j + 1) := by
  unfold lastCells
  rw [show 8 - j = (7 - j) + 1 by omega, List.replicate_succ', List.append_assoc, show 8 - (j + 1) = 7 - j by omega, List.set_append_right _ _ (by simp)]
  simp only [List.length_replicate, Nat.sub_self, List.cons_append, List.nil_append, List.set_cons_zero]
  congr 1
  have hl : 7 - j < (Wi.num n).length := by rw [Wi.num_len]; omega
  rw [List.drop_eq_getElem_cons hl, List.map_cons]
  congr 1
  have := Wi.num_get n (i := 7 - j) (by omega)
  rw [List.getElem?_eq_getElem hl, show 7 - (7 - j) = j by omega] at this
  rw [Option.some.inj this]
theorem lastCells_get (n : Int) {j : Nat} (h : j < 8) : (lastCells n j)[7 - j]? = some (.int .u8 0) := by
  unfold lastCells
  rw [List.getElem?_append_left (by simp; omega)]
  simp [List.getElem?_replicate, byteV]
  omega

theorem low_byte (n : Int) {j : Nat} (h : j < 8) : n % 18446744073709551616 / 256 ^ j % 256 = n / 256 ^ j % 256 := by
  match j, h with
  | 0, _ => simp
  | 1, _ => simp; omega
  | 2, _ => simp; omega
  | 3, _ => simp; omega
  | 4, _ => simp; omega
  | 5, _ => simp; omega
  | 6, _ => simp; omega
  | 7, _ => simp; omega

end Go.Proofs.Ytlfbdhgppmmahaa
