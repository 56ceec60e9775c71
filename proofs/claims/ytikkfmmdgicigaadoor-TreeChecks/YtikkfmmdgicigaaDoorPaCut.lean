/- strings.Cut at a slash, strings.Contains, Index at one byte; a text's first slash. Conditions: none. -/
import Derived.Test.YtikkfmmdgicigaaDoorPaPure
import Derived.Test.YtikkfmmdgicigaaDoorGMem
import Derived.Test.YtikkfmmdgicigaaDoorLay8
import Derived.RegionTactic
import Derived.BigRegion
import Derived.BigQuiet
import Derived.StillTailTactics
namespace Go.Proofs.YtikkfmmdgicigaaDoor
open Go.RowKit

/-- Nothing old has turned. -/
abbrev Quiet (w w' : World) : Prop := Only (fun _ => False) w w'

namespace Pt
theorem index_split : ∀ (l : List UInt8) (c : UInt8), (Lib.indexByte l c = -1 ∧ c ∉ l) ∨ ∃ i : Nat, Lib.indexByte l c = (i : Int) ∧ i < l.length ∧ l = l.take i ++ c :: l.drop (i + 1) ∧ c ∉ l.take i
  | [], c => .inl ⟨rfl, by simp⟩
  | b :: l, c => by
    by_cases hb : b = c
    · subst hb
      exact .inr ⟨0, by simp [Lib.indexByte], by simp, by simp, by simp⟩
    · have hne : c ≠ b := fun e => hb e.symm
      rcases index_split l c with ⟨h1, h2⟩ | ⟨i, h1, h2, h3, h4⟩
      · exact .inl ⟨by simp [Lib.indexByte, hb, h1], by simp [hne, h2]⟩
      · have e : ((i : Int) == -1) = false := by rw [beq_eq_false_iff_ne]; omega
        refine .inr ⟨i + 1, by simp [Lib.indexByte, hb, h1, e], by simp; omega, ?_, ?_⟩
        · rw [List.take_succ_cons, List.drop_succ_cons, List.cons_append, ← h3]
        · rw [List.take_succ_cons]
          simp [hne, h4]
end Pt

theorem Quiet.drewN (w : World) (n : Nat) : Quiet w (w.drewN n) := ⟨rfl, rfl, rfl, by rw [heap_drewN]; exact Nat.le_refl _, fun k _ _ => by rw [heap_drewN]⟩

/-- What a, b, f are of s, cut at its first slash. -/
def Cuts (s a b : ByteArray) (f : Bool) : Prop :=
  (47 ∉ s.data.toList ∧ f = false ∧ a = s ∧ b = ByteArray.empty) ∨
  (f = true ∧ s.data.toList = a.data.toList ++ 47 :: b.data.toList ∧ 47 ∉ a.data.toList)

set_option maxRecDepth 100000 in
theorem slCut_is (s : ByteArray) (hs : s.size ≤ 9223372036854775806) :
    ∃ a b f, Cuts s a b f ∧ ∀ w, Calls Tryd.prog 99 #[.string s, .string ⟨#[47]⟩] w fun e w' => e = .returned (.tuple #[.string a, .string b, .bool f]) ∧ ∃ n, w' = w.drewN n := by
  have HI : Hid (∀ W, Calls Tryd.prog 112 #[.string s, .string ⟨#[47]⟩] W fun e w' => e = .returned (.int .i64 (Lib.indexByte s.data.toList 47)) ∧ w' = W) := fun W => Any.stringslite_Index_one Tryd.lays219 s 47 W
  rcases Pt.index_split s.data.toList 47 with ⟨h1, h2⟩ | ⟨i, h1, h2, h3, h4⟩
  · rw [h1] at HI
    refine ⟨s, ByteArray.empty, false, .inl ⟨h2, rfl, rfl, rfl⟩, fun w => ?_⟩
    clear h1 h2
    go_enter Tryd.func99, Tryd.ntmps99
    go_wp2_with (go_at_call 112; refine (HI.out _).mono ?_; rintro e w' ⟨rfl, rfl⟩)
    go_ret3
    exact ⟨rfl, 0, rfl⟩
  · rw [h1] at HI
    have hi : i < s.size := by simpa using h2
    refine ⟨s.extract 0 i, s.extract (i + 1) s.size, true, .inr ⟨rfl, ?_, ?_⟩, fun w => ?_⟩
    · rw [Lib.extract_data, Lib.extract_data, List.take_of_length_le (l := List.drop (i + 1) s.data.toList) (by rw [List.length_drop, ← Lib.size_eq]; exact Nat.le_refl _)]
      simpa using h3
    · rw [Lib.extract_data]
      simpa using h4
    · clear h1 h2 h3 h4
      have c1 : (0 : Int) ≤ ↑i := by omega
      have c2 : (↑i : Int) ≤ ↑s.size := by omega
      have c3 : (0 : Int) ≤ ↑i + 1 := by omega
      have c4 : (↑i + 1 : Int) ≤ ↑s.size := by omega
      go_enter Tryd.func99, Tryd.ntmps99
      go_wp2_with (go_at_call 112; refine (HI.out _).mono ?_; rintro e w' ⟨rfl, rfl⟩)
      go_region
      go_wp2
      go_ret3
      exact ⟨rfl, 1, rfl⟩

theorem cut_is (s : ByteArray) (hs : s.size ≤ 9223372036854775806) :
    ∃ a b f, Cuts s a b f ∧ ∀ w, Calls Tryd.prog 74 #[.string s, .string ⟨#[47]⟩] w fun e w' => e = .returned (.tuple #[.string a, .string b, .bool f]) ∧ ∃ n, w' = w.drewN n := by
  obtain ⟨a, b, f, hc, h⟩ := slCut_is s hs
  refine ⟨a, b, f, hc, fun w => ?_⟩
  have H := Lib.hid h
  clear h hc
  go_enter Tryd.func74, Tryd.ntmps74
  go_wp2_with (go_at_call 99; refine (H.out _).mono ?_; rintro e w' ⟨rfl, n, rfl⟩)
  go_ret3
  exact ⟨rfl, n, rfl⟩

theorem sContains_any (s : ByteArray) (w : World) :
    Calls Tryd.prog 114 #[.string s, .string ⟨#[47]⟩] w fun e w' => e = .returned (.bool (decide (0 ≤ Lib.indexByte s.data.toList 47))) ∧ w' = w := by
  have HI : Hid (∀ W, Calls Tryd.prog 112 #[.string s, .string ⟨#[47]⟩] W fun e w' => e = .returned (.int .i64 (Lib.indexByte s.data.toList 47)) ∧ w' = W) := fun W => Any.stringslite_Index_one Tryd.lays219 s 47 W
  generalize Lib.indexByte s.data.toList 47 = i at *
  have HS : Hid (∀ W, Calls Tryd.prog 121 #[.string s, .string ⟨#[47]⟩] W fun e w' => e = .returned (.int .i64 i) ∧ w' = W) := fun W => by
    go_enter Tryd.func121, Tryd.ntmps121
    go_wp2_with (go_at_call 112; refine (HI.out _).mono ?_; rintro e w' ⟨rfl, rfl⟩)
    go_ret
    exact ⟨rfl, rfl⟩
  go_enter Tryd.func114, Tryd.ntmps114
  go_wp2_with (go_at_call 121; refine (HS.out _).mono ?_; rintro e w' ⟨rfl, rfl⟩)
  go_ret
  exact ⟨rfl, rfl⟩

theorem sIndexByte_any (s : ByteArray) (w : World) :
    Calls Tryd.prog 106 #[.string s, .int .u8 0] w fun e w' => e = .returned (.int .i64 (Lib.indexByte s.data.toList 0)) ∧ w' = w :=
  Any.strings_IndexByte Tryd.lays137 s 0 w

theorem sCompare_any (a b : ByteArray) (w : World) :
    Calls Tryd.prog 75 #[.string a, .string b] w fun e w' => e = .returned (.int .i64 (Lib.compareBytes a.data.toList b.data.toList)) ∧ w' = w :=
  Any.strings_Compare Tryd.lays106 a b w

theorem sHasPrefix_any (a b : ByteArray) (w : World) :
    Calls Tryd.prog 78 #[.string a, .string b] w fun e w' => e = .returned (.bool (Lib.hasPrefix a.data.toList b.data.toList)) ∧ w' = w :=
  Any.strings_HasPrefix Tryd.lays99 a b w

theorem sTrimPrefix_any (a b : ByteArray) (w : World) :
    Calls Tryd.prog 64 #[.string a, .string b] w fun e w' => e = .returned (.string ⟨(Lib.trimPrefix a.data.toList b.data.toList).toArray⟩) ∧ w' = w :=
  Any.strings_TrimPrefix Tryd.lays101 a b w

theorem sLastIndex_any (s : ByteArray) (hs : s.size < 4611686018427387904) (w : World) :
    Calls Tryd.prog 66 #[.string s, .string ⟨#[47]⟩] w fun e w' => e = .returned (.int .i64 (Lib.lastIndexByte s 47)) ∧ w' = w :=
  Any.strings_LastIndex_one Tryd.lays148 s ⟨#[47]⟩ rfl hs w

end Go.Proofs.YtikkfmmdgicigaaDoor
