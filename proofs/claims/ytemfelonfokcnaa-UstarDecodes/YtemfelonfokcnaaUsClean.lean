/- ustar.ascii, FitsLink; plain, Link of the document. Conditions: none. -/
import Derived.Test.YtemfelonfokcnaaUsOct
namespace Go.Proofs.Ytemfelonfokcnaa
open Go.RowKit

abbrev Quiet (w w' : World) : Prop := Only (fun _ => False) w w'

theorem Only.iter (w : World) (s : ByteArray) (pos : Nat) : Only (fun _ => False) w (w.iter s pos) := Only.alloc _

namespace Us
theorem clean_succ {l : By} {i : Nat} (h : i < l.length) : clean (l.take (i + 1)) = (clean (l.take i) && cleanB l[i]) := by
  rw [List.take_succ_eq_append_getElem h]
  unfold clean
  rw [List.all_append]
  simp
theorem not_clean {l : By} {i : Nat} (h : i < l.length) (hb : cleanB l[i] = false) : clean l = false := by
  unfold clean
  rw [List.all_eq_false]
  exact ⟨l[i], List.getElem_mem h, by simp [hb]⟩
theorem get_size {s : ByteArray} {i : Nat} (h : i < s.size) : s.data.toList[i]'(by simpa using h) = s[i]'h := rfl
end Us

set_option maxRecDepth 1000000 in
theorem ascii_any (s : ByteArray) (w : World) :
    Calls Try.prog 34 #[.string s] w fun e w' => e = .returned (.bool (Us.clean s.data.toList)) ∧ Quiet w w' := by
  go_enter Try.func34, Try.ntmps34
  go_wp2
  go_loopw [4] (fun _ w' => ∃ pos : Nat, pos ≤ s.size ∧ w' = w.iter s pos ∧ Us.clean (s.data.toList.take pos) = true) (fun _ w' => s.size - w'.iterPos w.heap.size)
  case atStart => exact ⟨0, Nat.zero_le _, rfl, rfl⟩
  case round =>
    obtain ⟨pos, hle, rfl, hc⟩ := hrel
    by_cases hp : pos < s.size
    · have hl : pos < s.data.toList.length := by simpa using hp
      have hg := Us.get_size hp
      have hsucc := Us.clean_succ hl
      have hnot := @Us.not_clean _ _ hl
      rw [hg] at hsucc hnot
      by_cases ha : (s[pos]'hp).toNat < 128
      · have hnx : ∀ ty, (Instr.next (.pointer (some ⟨w.heap.size, 0, none⟩)) true ty).run Try.prog (w.iter s pos) = _ := fun ty => run_next_ascii w s pos ty hp ha
        generalize s[pos] = b at *
        by_cases h0 : 1 ≤ b.toNat
        · have hb : Us.cleanB b = true := by unfold Us.cleanB; simp; omega
          rw [hc, hb] at hsucc
          have HS : Hid (Us.clean (s.data.toList.take (pos + 1)) = true) := hsucc
          clear hsucc hnot hc hl hg
          generalize b.toNat = x at *
          go_wp2
          go_roundw
          case rel => exact ⟨pos + 1, by omega, rfl, HS.out⟩
          case measure => simp; omega
        · have hb : Us.cleanB b = false := by unfold Us.cleanB; simp; omega
          have hx : b.toNat = 0 := by omega
          rw [hx] at hnx
          have HN := Lib.hid (hnot hb)
          clear hsucc hnot hc hl hg
          go_wp2
          go_ret
          rw [HN.out]
          exact ⟨rfl, Only.iter _ _ _⟩
      · have hh := decode_high s pos hp (by omega)
        have hnx : ∀ ty, (Instr.next (.pointer (some ⟨w.heap.size, 0, none⟩)) true ty).run Try.prog (w.iter s pos) = _ := fun ty => run_next_any w s pos ty hp
        have hb : Us.cleanB (s[pos]'hp) = false := by unfold Us.cleanB; simp; omega
        have HN := Lib.hid (hnot hb)
        obtain ⟨h1, _⟩ := hh
        generalize (Utf8.decode s pos).1 = x at *
        generalize (Utf8.decode s pos).2 = y at *
        have hx : (127 : Int) < (x : Int) := by omega
        have hx2 : (1 : Int) ≤ (x : Int) := by omega
        clear hsucc hnot hc hl hg ha hb
        go_wp2
        go_ret
        rw [HN.out]
        exact ⟨rfl, Only.iter _ _ _⟩
    · have hnx : ∀ ty, (Instr.next (.pointer (some ⟨w.heap.size, 0, none⟩)) true ty).run Try.prog (w.iter s pos) = _ := fun ty => run_next_end w s pos ty hp
      rw [List.take_of_length_le (by simp; omega)] at hc
      have HC := Lib.hid hc
      clear hc
      go_wp2
      go_ret
      rw [HC.out]
      exact ⟨rfl, Only.iter _ _ _⟩

set_option maxRecDepth 1000000 in
theorem plain_any (s : ByteArray) (hs : s.size ≤ 140737488351232) (w : World) :
    Calls Try.prog 33 #[.string s] w fun e w' => e = .returned (.bool (Us.clean s.data.toList)) ∧ w' = w := by
  go_enter Try.func33, Try.ntmps33
  go_wp2
  go_loopw [3] (fun iv w' => ∃ i : Nat, i ≤ s.size ∧ iv = .int .i64 i ∧ w' = w ∧ Us.clean (s.data.toList.take i) = true) (fun iv _ => s.size - (intOf iv).toNat)
  case atStart => exact ⟨0, Nat.zero_le _, rfl, rfl, rfl⟩
  case round =>
    obtain ⟨i, hle, rfl, hw, hc⟩ := hrel
    subst hw
    by_cases hp : i < s.size
    · have hl : i < s.data.toList.length := by simpa using hp
      have hg := Us.get_size hp
      have hsucc := Us.clean_succ hl
      have hnot := @Us.not_clean _ _ hl
      rw [hg] at hsucc hnot
      have hix : ∀ w : World, (Instr.index 9 (.string s) (.int .i64 (i : Int))).run Try.prog w = .ok (.int .u8 ((s[i]'hp).toNat : Int)) w := fun w => by
        rw [run_index_string (P := Try.prog) w 9 s .i64 (i : Int) Try.underlying9, dif_pos ⟨by omega, by omega⟩]
        rfl
      generalize s[i] = b at *
      clear hl hg
      by_cases h0 : 1 ≤ b.toNat
      · by_cases h1 : b.toNat ≤ 127
        · have hb : Us.cleanB b = true := by unfold Us.cleanB; simp; omega
          rw [hc, hb] at hsucc
          have HS : Hid (Us.clean (s.data.toList.take (i + 1)) = true) := hsucc
          clear hsucc hnot hc
          generalize b.toNat = x at *
          go_wp2
          go_roundw
          case rel => exact ⟨i + 1, by omega, by go_num, trivial, HS.out⟩
          case measure => simp [intOf]; omega
        · have hb : Us.cleanB b = false := by unfold Us.cleanB; simp; omega
          have HN := Lib.hid (hnot hb)
          clear hsucc hnot hc
          generalize b.toNat = x at *
          go_wp2
          go_ret
          rw [HN.out]
          exact ⟨rfl, rfl⟩
      · have hb : Us.cleanB b = false := by unfold Us.cleanB; simp; omega
        have hx : b.toNat = 0 := by omega
        rw [hx] at hix
        have HN := Lib.hid (hnot hb)
        clear hsucc hnot hc
        go_wp2
        go_ret
        rw [HN.out]
        exact ⟨rfl, rfl⟩
    · rw [List.take_of_length_le (by simp; omega)] at hc
      have HC := Lib.hid hc
      clear hc
      go_wp2
      go_ret
      rw [HC.out]
      exact ⟨rfl, rfl⟩


theorem fitsLink_any (s : ByteArray) (w : World) :
    Calls Try.prog 14 #[.string s] w fun e w' => e = .returned (.bool (Us.okLink s.data.toList)) ∧ Quiet w w' := by
  have H := Lib.hid (fun W => ascii_any s W)
  have hsz : s.data.toList.length = s.size := by simp
  unfold Us.okLink
  generalize Us.clean s.data.toList = c at *
  rw [hsz]
  by_cases h0 : s.size = 0
  · have e : s = ⟨#[]⟩ := by
      apply ByteArray.ext
      apply Array.eq_empty_of_size_eq_zero
      exact h0
    subst e
    go_enter Try.func14, Try.ntmps14
    go_wp2
    go_ret
    exact ⟨rfl, Only.refl _ _⟩
  · have hne1 : ¬ s.toList = [] := by
      rw [ByteArray.toList_eq]
      intro e
      rw [e] at hsz
      exact h0 hsz.symm
    have hne2 : s.toList.isEmpty = false := by
      cases h : s.toList with
      | nil => exact (hne1 h).elim
      | cons a b => rfl
    by_cases h1 : s.size ≤ 100
    · have e : (decide (1 ≤ s.size) && (decide (s.size ≤ 100) && c)) = c := by simp [h1]; omega
      rw [e]
      go_enter Try.func14, Try.ntmps14
      go_wp2_with (go_at_call 34; refine (H.out _).mono ?_; rintro e w' ⟨rfl, hq⟩; have HQ := Lib.hid hq; clear hq)
      go_ret
      exact ⟨rfl, HQ.out⟩
    · have e : (decide (1 ≤ s.size) && (decide (s.size ≤ 100) && c)) = false := by simp [h1]
      rw [e]
      go_enter Try.func14, Try.ntmps14
      go_wp2
      go_ret
      exact ⟨rfl, Only.refl _ _⟩

theorem r10link_any (s : ByteArray) (hs : s.size ≤ 140737488351232) (w : World) :
    Calls Try.prog 15 #[.string s] w fun e w' => e = .returned (.bool (Us.okLink s.data.toList)) ∧ w' = w := by
  have H := Lib.hid (fun W => plain_any s hs W)
  have hsz : s.data.toList.length = s.size := by simp
  unfold Us.okLink
  generalize Us.clean s.data.toList = c at *
  rw [hsz]
  by_cases h0 : 1 ≤ s.size
  · by_cases h1 : s.size ≤ 100
    · have e : (decide (1 ≤ s.size) && (decide (s.size ≤ 100) && c)) = c := by simp [h0, h1]
      rw [e]
      go_enter Try.func15, Try.ntmps15
      go_wp2_with (go_at_call 33; refine (H.out _).mono ?_; rintro e w' ⟨rfl, rfl⟩)
      go_ret
      exact ⟨rfl, rfl⟩
    · have e : (decide (1 ≤ s.size) && (decide (s.size ≤ 100) && c)) = false := by simp [h1]
      rw [e]
      go_enter Try.func15, Try.ntmps15
      go_wp2
      go_ret
      exact ⟨rfl, rfl⟩
  · have e : (decide (1 ≤ s.size) && (decide (s.size ≤ 100) && c)) = false := by simp [h0]
    rw [e]
    go_enter Try.func15, Try.ntmps15
    go_wp2
    go_ret
    exact ⟨rfl, rfl⟩

end Go.Proofs.Ytemfelonfokcnaa
