/- ustar.parted, FitsPath; Path of the document. Conditions: texts within the reach. -/
import Derived.Test.YtemfelonfokcnaaUsText
import Derived.Shelf.Strings.Search2
import Derived.RegionTactic
namespace Go.Proofs.Ytemfelonfokcnaa
open Go.RowKit

namespace Us
theorem index_47 : ∀ l : By, (Lib.indexByte l 47 = -1 ∧ ∀ j : Nat, l[j]? ≠ some 47) ∨ ∃ i : Nat, Lib.indexByte l 47 = (i : Int) ∧ l[i]? = some 47 ∧ ∀ j : Nat, j < i → l[j]? ≠ some 47
  | [] => .inl ⟨rfl, fun j => by simp⟩
  | b :: l => by
    by_cases hb : b = 47
    · subst hb
      exact .inr ⟨0, by simp [Lib.indexByte], by simp, fun j h => by omega⟩
    · rcases index_47 l with ⟨h1, h2⟩ | ⟨i, h1, h2, h3⟩
      · refine .inl ⟨by simp [Lib.indexByte, hb, h1], fun j => ?_⟩
        cases j with
        | zero => simpa using hb
        | succ j => simpa using h2 j
      · have e : ((i : Int) == -1) = false := by rw [beq_eq_false_iff_ne]; omega
        refine .inr ⟨i + 1, by simp [Lib.indexByte, hb, h1, e], by simpa using h2, fun j hj => ?_⟩
        cases j with
        | zero => simpa using hb
        | succ j => simpa using h3 j (by omega)

/-- Where the / is looked for. -/
def fst (n : Nat) : Nat := max 1 (n - 101)
def bhd (n : Nat) : Nat := min 156 (n - 1)
theorem isSpot_in {l : By} {i : Nat} : isSpot l i = true ↔ l[i]? = some 47 ∧ fst l.length ≤ i ∧ i < bhd l.length := by
  rw [isSpot_iff]
  unfold fst bhd
  constructor
  · rintro ⟨h1, h2, h3, h4, h5⟩
    exact ⟨h1, by omega, by omega⟩
  · rintro ⟨h1, h2, h3⟩
    exact ⟨h1, by omega, by omega, by omega, by omega⟩
theorem piece_get (l : By) (a b j : Nat) : ((l.drop a).take (b - a))[j]? = if a + j < b then l[a + j]? else none := by
  rw [List.getElem?_take, List.getElem?_drop]
  by_cases h : a + j < b
  · rw [if_pos h, if_pos (by omega)]
  · rw [if_neg h, if_neg (by omega)]
theorem spot_piece {l : By} : (Lib.indexByte ((l.drop (fst l.length)).take (bhd l.length - fst l.length)) 47 = -1 ∧ spot l = none) ∨
    ∃ i : Nat, Lib.indexByte ((l.drop (fst l.length)).take (bhd l.length - fst l.length)) 47 = (i : Int) ∧ spot l = some (fst l.length + i) := by
  rcases index_47 ((l.drop (fst l.length)).take (bhd l.length - fst l.length)) with ⟨h1, h2⟩ | ⟨i, h1, h2, h3⟩
  · refine .inl ⟨h1, spot_no fun j => ?_⟩
    cases hs : isSpot l j with
    | false => rfl
    | true =>
      obtain ⟨e1, e2, e3⟩ := isSpot_in.1 hs
      have := h2 (j - fst l.length)
      rw [piece_get, if_pos (by omega), show fst l.length + (j - fst l.length) = j by omega] at this
      exact (this e1).elim
  · refine .inr ⟨i, h1, ?_⟩
    rw [piece_get] at h2
    split at h2
    · refine spot_at (isSpot_in.2 ⟨h2, by omega, by assumption⟩) fun j hj => ?_
      cases hs : isSpot l j with
      | false => rfl
      | true =>
        obtain ⟨e1, e2, e3⟩ := isSpot_in.1 hs
        have := h3 (j - fst l.length) (by omega)
        rw [piece_get, if_pos (by omega), show fst l.length + (j - fst l.length) = j by omega] at this
        exact (this e1).elim
    · cases h2
theorem spot_long {l : By} (h : 256 < l.length) : spot l = none := spot_no fun j => by
  cases hs : isSpot l j with
  | false => rfl
  | true =>
    obtain ⟨e1, e2, e3, e4, e5⟩ := isSpot_iff.1 hs
    omega
end Us

/-- What parts a path. -/
def PartedTo (l : Us.By) (a b : ByteArray) : Prop := ∀ q nm, Us.parted l = some (q, nm) → a.data.toList = q ∧ b.data.toList = nm

/-- What the document's Path parts. -/
def PathTo (l : Us.By) (a b : ByteArray) : Prop := Us.okPath l = true → PartedTo l a b

theorem sIndex_any (s : ByteArray) (w : World) : Calls Try.prog 40 #[.string s, .string ⟨#[47]⟩] w fun e w' => e = .returned (.int .i64 (Lib.indexByte s.data.toList 47)) ∧ w' = w := by
  have HI : Hid (∀ W, Calls Try.prog 44 #[.string s, .string ⟨#[47]⟩] W fun e w' => e = .returned (.int .i64 (Lib.indexByte s.data.toList 47)) ∧ w' = W) := fun W => Any.stringslite_Index_one Try.lays219 s 47 W
  generalize Lib.indexByte s.data.toList 47 = i at *
  go_enter Try.func40, Try.ntmps40
  go_wp2_with (go_at_call 44; refine (HI.out _).mono ?_; rintro e w' ⟨rfl, rfl⟩)
  go_ret
  exact ⟨rfl, rfl⟩

set_option maxRecDepth 100000 in
theorem parted_any (s : ByteArray) (hs : s.size ≤ 140737488351232) (w : World) :
    Calls Try.prog 26 #[.string s] w fun e w' => ∃ a b, e = .returned (.tuple #[.string a, .string b, .bool (Us.parted s.data.toList).isSome]) ∧ PartedTo s.data.toList a b ∧ Quiet w w' := by
  have hsz : s.data.toList.length = s.size := by simp
  by_cases h1 : s.size ≤ 100
  · by_cases h0 : s.size = 0
    · have e : s = ⟨#[]⟩ := by
        apply ByteArray.ext
        apply Array.eq_empty_of_size_eq_zero
        exact h0
      subst e
      have hP : (Us.parted (ByteArray.mk #[]).data.toList).isSome = false := rfl
      have HP : Hid (PartedTo (ByteArray.mk #[]).data.toList ⟨#[]⟩ ⟨#[]⟩) := fun q nm h => by cases h
      rw [hP]
      clear hP
      go_enter Try.func26, Try.ntmps26
      go_wp2
      go_ret3
      exact ⟨_, _, rfl, HP.out, Only.refl _ _⟩
    · have hne0 : s.data.toList ≠ [] := by
        intro e
        rw [e] at hsz
        exact h0 hsz.symm
      have hne1 : ¬ s.toList = [] := by rw [ByteArray.toList_eq]; exact hne0
      have hne2 : s.toList.isEmpty = false := by
        cases h : s.toList with
        | nil => exact (hne1 h).elim
        | cons a b => rfl
      have hP : Us.parted s.data.toList = some ([], s.data.toList) := by
        unfold Us.parted
        rw [if_pos (by omega), if_neg hne0]
      have HP : Hid (PartedTo s.data.toList ⟨#[]⟩ s) := fun q nm h => by
        rw [hP] at h
        cases h
        exact ⟨rfl, rfl⟩
      rw [hP]
      clear hne0 hP
      go_enter Try.func26, Try.ntmps26
      go_wp2
      go_ret3
      exact ⟨_, _, rfl, HP.out, Only.refl _ _⟩
  · by_cases h2 : s.size ≤ 256
    · have hF : Us.fst s.size ≤ Us.bhd s.size := by unfold Us.fst Us.bhd; omega
      have hF1 : Us.fst s.size ≤ 155 := by unfold Us.fst; omega
      have hB : Us.bhd s.size ≤ s.size := by unfold Us.bhd; omega
      have hmax : ∀ (t : Array TypeId) (q : TypeId) (W : World), (Builtin.max_ t q #[.int .i64 1, .int .i64 ((s.size : Int) - 100 - 1)]).run Try.prog W = .ok (.int .i64 (Us.fst s.size : Int)) W := fun t q W => by
        rw [run_max_int2]
        congr 2
        unfold Us.fst
        split <;> omega
      have hmin : ∀ (t : Array TypeId) (q : TypeId) (W : World), (Builtin.min_ t q #[.int .i64 156, .int .i64 ((s.size : Int) - 1)]).run Try.prog W = .ok (.int .i64 (Us.bhd s.size : Int)) W := fun t q W => by
        rw [run_min_int2]
        congr 2
        unfold Us.bhd
        split <;> omega
      have HI := Lib.hid (fun W => sIndex_any (s.extract (Us.fst s.size) (Us.bhd s.size)) W)
      have hsp := @Us.spot_piece s.data.toList
      rw [Lib.extract_data] at HI
      rw [hsz] at hsp
      have hpt : Us.parted s.data.toList = (Us.spot s.data.toList).map fun i => (s.data.toList.take i, s.data.toList.drop (i + 1)) := by
        unfold Us.parted
        rw [if_neg (by omega)]
      have c1 : (0 : Int) ≤ (Us.fst s.size : Int) := by omega
      have c2 : (Us.fst s.size : Int) ≤ (Us.bhd s.size : Int) := by omega
      have c3 : (Us.bhd s.size : Int) ≤ (s.size : Int) := by omega
      have hi : ∀ i, Us.spot s.data.toList = some i → i + 1 < s.size := fun i h => by
        have := Us.isSpot_iff.1 (Us.spot_some h).1
        omega
      rcases hsp with ⟨q1, q2⟩ | ⟨i, q1, q2⟩
      · rw [q1] at HI
        rw [q2] at hpt
        have HP : Hid (PartedTo s.data.toList ⟨#[]⟩ ⟨#[]⟩) := fun q nm h => by rw [hpt] at h; cases h
        rw [hpt]
        clear q1 q2 hpt hi hF hF1 hB
        generalize Us.fst s.size = F at *
        generalize Us.bhd s.size = B at *
        go_enter Try.func26, Try.ntmps26
        go_wp2_with (go_at_call 40; refine (HI.out _).mono ?_; rintro e w' ⟨rfl, rfl⟩)
        go_ret3
        exact ⟨_, _, rfl, HP.out, Only.refl _ _⟩
      · have hii := hi _ q2
        rw [q1] at HI
        rw [q2] at hpt
        have HP : Hid (PartedTo s.data.toList (s.extract 0 (i + Us.fst s.size)) (s.extract (i + Us.fst s.size + 1) s.size)) := by
          rw [Nat.add_comm i]
          intro q nm h
          rw [hpt] at h
          rw [Lib.extract_data, Lib.extract_data, List.take_of_length_le (l := List.drop (Us.fst s.size + i + 1) s.data.toList) (by rw [List.length_drop, hsz]; exact Nat.le_refl _)]
          cases h
          exact ⟨rfl, rfl⟩
        rw [hpt]
        clear q1 q2 hpt hi hF hB
        generalize Us.fst s.size = F at *
        generalize Us.bhd s.size = B at *
        have c4 : (0 : Int) ≤ (i : Int) := by omega
        have c5 : (0 : Int) ≤ (i : Int) + (F : Int) := by omega
        have c6 : (i : Int) + (F : Int) ≤ (s.size : Int) := by omega
        have c7 : (0 : Int) ≤ (i : Int) + (F : Int) + 1 := by omega
        have c8 : (i : Int) + (F : Int) + 1 ≤ (s.size : Int) := by omega
        go_enter Try.func26, Try.ntmps26
        go_wp2_with (go_at_call 40; refine (HI.out _).mono ?_; rintro e w' ⟨rfl, rfl⟩)
        go_region
        go_wp2
        go_ret3
        exact ⟨_, _, rfl, HP.out, Only.drewN 1⟩
    · have hpt : Us.parted s.data.toList = none := by
        unfold Us.parted
        rw [if_neg (by omega), Us.spot_long (by omega)]
        rfl
      have HP : Hid (PartedTo s.data.toList ⟨#[]⟩ ⟨#[]⟩) := fun q nm h => by rw [hpt] at h; cases h
      rw [hpt]
      clear hpt
      go_enter Try.func26, Try.ntmps26
      go_wp2
      go_ret3
      exact ⟨_, _, rfl, HP.out, Only.refl _ _⟩

theorem fitsPath_any (s : ByteArray) (hs : s.size ≤ 140737488351232) (w : World) :
    Calls Try.prog 13 #[.string s] w fun e w' => e = .returned (.bool (Us.okPath s.data.toList)) ∧ Quiet w w' := by
  have HP := Lib.hid (fun W => parted_any s hs W)
  have HA := Lib.hid (fun W => ascii_any s W)
  unfold Us.okPath
  generalize Us.clean s.data.toList = C at *
  cases hp : (Us.parted s.data.toList).isSome
  · rw [hp] at HP
    clear hp
    go_enter Try.func13, Try.ntmps13
    go_wp2_with (go_at_call 26; refine (HP.out _).mono ?_; rintro e w1 ⟨a, b, rfl, hp, hq⟩; have HQ := Lib.hid hq; clear hp hq)
    go_ret
    exact ⟨rfl, HQ.out⟩
  · rw [hp] at HP
    clear hp
    go_enter Try.func13, Try.ntmps13
    go_wp2_with (first | (go_at_call 26; refine (HP.out _).mono ?_; rintro e w1 ⟨a, b, rfl, hp, hq⟩; have HQ := Lib.hid hq; clear hp hq) | (go_at_call 34; refine (HA.out _).mono ?_; rintro e w2 ⟨rfl, hq2⟩; have HQ2 := Lib.hid (HQ.out.trans hq2); clear hq2))
    go_ret
    exact ⟨rfl, HQ2.out⟩

set_option maxRecDepth 100000 in
set_option maxHeartbeats 1000000 in
theorem r10path_any (s : ByteArray) (hs : s.size ≤ 140737488351232) (w : World) :
    Calls Try.prog 11 #[.string s] w fun e w' => ∃ a b, e = .returned (.tuple #[.string a, .string b, .bool (Us.okPath s.data.toList)]) ∧ PathTo s.data.toList a b ∧ Quiet w w' := by
  have hsz : s.data.toList.length = s.size := by simp
  have HC := Lib.hid (fun W => plain_any s hs W)
  cases hc : Us.clean s.data.toList with
  | false =>
    rw [hc] at HC
    have hK : Us.okPath s.data.toList = false := by unfold Us.okPath; rw [hc, Bool.and_false]
    have HP : Hid (PathTo s.data.toList ⟨#[]⟩ ⟨#[]⟩) := fun h => by rw [hK] at h; cases h
    rw [hK]
    clear hc hK
    by_cases h0 : 1 ≤ s.size
    · go_enter Try.func11, Try.ntmps11
      go_wp2_with (go_at_call 33; refine (HC.out _).mono ?_; rintro e w' ⟨rfl, rfl⟩)
      go_ret3
      exact ⟨_, _, rfl, HP.out, Only.refl _ _⟩
    · go_enter Try.func11, Try.ntmps11
      go_wp2
      go_ret3
      exact ⟨_, _, rfl, HP.out, Only.refl _ _⟩
  | true =>
    rw [hc] at HC
    have hK : Us.okPath s.data.toList = (Us.parted s.data.toList).isSome := by unfold Us.okPath; rw [hc, Bool.and_true]
    rw [hK]
    clear hK hc
    by_cases h0 : 1 ≤ s.size
    · have hne0 : s.data.toList ≠ [] := by
        intro e
        rw [e] at hsz
        have : s.size = 0 := hsz.symm
        omega
      by_cases h1 : s.size ≤ 100
      · have hP : Us.parted s.data.toList = some ([], s.data.toList) := by
          unfold Us.parted
          rw [if_pos (by omega), if_neg hne0]
        have HP : Hid (PathTo s.data.toList ⟨#[]⟩ s) := fun _ q nm h => by
          rw [hP] at h
          cases h
          exact ⟨rfl, rfl⟩
        rw [hP]
        change Calls Try.prog 11 #[.string s] w fun e w' => ∃ a b, e = .returned (.tuple #[.string a, .string b, .bool true]) ∧ PathTo s.data.toList a b ∧ Quiet w w'
        clear hP hne0
        go_enter Try.func11, Try.ntmps11
        go_wp2_with (go_at_call 33; refine (HC.out _).mono ?_; rintro e w' ⟨rfl, rfl⟩)
        go_ret3
        exact ⟨_, _, rfl, HP.out, Only.refl _ _⟩
      · have hpt : Us.parted s.data.toList = (Us.spot s.data.toList).map fun i => (s.data.toList.take i, s.data.toList.drop (i + 1)) := by
          unfold Us.parted
          rw [if_neg (by omega)]
        have HPT := Lib.hid hpt
        clear hpt hne0
        obtain ⟨P, hP⟩ : ∃ P, (Us.parted s.data.toList).isSome = P := ⟨_, rfl⟩
        rw [hP]
        have HPP := Lib.hid hP
        clear hP
        go_enter Try.func11, Try.ntmps11
        go_wp2_with (go_at_call 33; refine (HC.out _).mono ?_; rintro e w0 ⟨rfl, rfl⟩)
        go_loopw [5] (fun iv w' => ∃ i : Nat, 1 ≤ i ∧ i ≤ s.size ∧ iv = .int .i64 (i : Int) ∧ w' = w0 ∧ ∀ j, j < i → Us.isSpot s.data.toList j = false) (fun iv _ => s.size - (intOf iv).toNat)
        case atStart => exact ⟨1, Nat.le_refl _, h0, rfl, rfl, fun j hj => by
          cases hsp : Us.isSpot s.data.toList j with
          | false => rfl
          | true =>
            have := Us.isSpot_iff.1 hsp
            omega⟩
        case round =>
          obtain ⟨i, hi1, hi2, rfl, hw, hno⟩ := hrel
          subst hw
          by_cases hlt : i + 1 < s.size
          · have hl : i < s.data.toList.length := by omega
            have hget : s.data.toList[i]? = some (s[i]'(by omega)) := by rw [List.getElem?_eq_getElem hl]; rfl
            have hix : ∀ w : World, (Instr.index 9 (.string s) (.int .i64 (i : Int))).run Try.prog w = .ok (.int .u8 ((s[i]'(by omega)).toNat : Int)) w := fun w => by
              rw [run_index_string (P := Try.prog) w 9 s .i64 (i : Int) Try.underlying9, dif_pos ⟨by omega, by omega⟩]
              rfl
            have hiff := @Us.isSpot_iff s.data.toList i
            rw [hget, hsz] at hiff
            generalize (s[i]'(by omega)) = b at *
            have HNO := Lib.hid hno
            have HIF := Lib.hid hiff
            have hb := b.toNat_lt
            clear hget hl hno hiff
            have HNX : Hid (Us.isSpot s.data.toList i = false → ∀ j, j < i + 1 → Us.isSpot s.data.toList j = false) := fun h j hj => by
              by_cases hji : j < i
              · exact HNO.out j hji
              · rw [show j = i by omega]; exact h
            by_cases h47 : b.toNat = 47
            · have hb47 : b = 47 := by rw [← UInt8.toNat_inj]; exact h47
              subst hb47
              by_cases h155 : i ≤ 155
              · by_cases h101 : s.size ≤ i + 101
                · have hsp : Us.isSpot s.data.toList i = true := HIF.out.2 ⟨rfl, hi1, h155, hlt, h101⟩
                  have hspot := Us.spot_at hsp HNO.out
                  have hpt := HPT.out
                  rw [hspot] at hpt
                  have HF : Hid (PathTo s.data.toList (s.extract 0 i) (s.extract (i + 1) s.size)) := fun _ q nm h => by
                    rw [hpt] at h
                    rw [Lib.extract_data, Lib.extract_data, List.take_of_length_le (l := List.drop (i + 1) s.data.toList) (by rw [List.length_drop, hsz]; exact Nat.le_refl _)]
                    cases h
                    exact ⟨rfl, rfl⟩
                  have hP : P = true := by rw [← HPP.out, hpt]; rfl
                  subst hP
                  have e1 : ((47 : UInt8).toNat : Int) = 47 := rfl
                  rw [e1] at hix
                  have c1 : (0 : Int) ≤ (i : Int) := by omega
                  have c2 : (i : Int) ≤ (s.size : Int) := by omega
                  have c3 : (0 : Int) ≤ (i : Int) + 1 := by omega
                  have c4 : (i : Int) + 1 ≤ (s.size : Int) := by omega
                  clear hspot hpt hsp
                  go_wp2
                  go_region
                  go_wp2
                  go_ret3
                  exact ⟨_, _, rfl, HF.out, Only.drewN 1⟩
                · have hsp : Us.isSpot s.data.toList i = false := by
                    cases h : Us.isSpot s.data.toList i with
                    | false => rfl
                    | true => exact (h101 (HIF.out.1 h).2.2.2.2).elim
                  have HN := Lib.hid (HNX.out hsp)
                  have e1 : ((47 : UInt8).toNat : Int) = 47 := rfl
                  rw [e1] at hix
                  clear hsp
                  go_wp2
                  go_roundw
                  case rel => exact ⟨i + 1, by omega, by omega, by go_num, trivial, HN.out⟩
                  case measure => simp [intOf]; omega
              · have hsp : Us.isSpot s.data.toList i = false := by
                  cases h : Us.isSpot s.data.toList i with
                  | false => rfl
                  | true => exact (h155 (HIF.out.1 h).2.2.1).elim
                have HN := Lib.hid (HNX.out hsp)
                have e1 : ((47 : UInt8).toNat : Int) = 47 := rfl
                rw [e1] at hix
                clear hsp
                go_wp2
                go_roundw
                case rel => exact ⟨i + 1, by omega, by omega, by go_num, trivial, HN.out⟩
                case measure => simp [intOf]; omega
            · have hsp : Us.isSpot s.data.toList i = false := by
                cases h : Us.isSpot s.data.toList i with
                | false => rfl
                | true =>
                  have := (HIF.out.1 h).1
                  exact (h47 (by rw [Option.some.inj this]; rfl)).elim
              have HN := Lib.hid (HNX.out hsp)
              clear hsp HIF
              generalize b.toNat = y at *
              go_wp2
              go_roundw
              case rel => exact ⟨i + 1, by omega, by omega, by go_num, trivial, HN.out⟩
              case measure => simp [intOf]; omega
          · have hP : P = false := by
              rw [← HPP.out, HPT.out]
              have : Us.spot s.data.toList = none := Us.spot_no fun j => by
                by_cases hj : j < i
                · exact hno j hj
                · cases h : Us.isSpot s.data.toList j with
                  | false => rfl
                  | true =>
                    have := Us.isSpot_iff.1 h
                    omega
              rw [this]
              rfl
            have HP : Hid (PathTo s.data.toList ⟨#[]⟩ ⟨#[]⟩) := fun h => by
              unfold Us.okPath at h
              rw [HPP.out, hP] at h
              cases h
            subst hP
            clear hno
            go_wp2
            go_ret3
            exact ⟨_, _, rfl, HP.out, Only.refl _ _⟩
    · have e : s.data.toList = [] := by
        apply List.eq_nil_of_length_eq_zero
        omega
      have hP : (Us.parted s.data.toList).isSome = false := by rw [e]; rfl
      have HP : Hid (PathTo s.data.toList ⟨#[]⟩ ⟨#[]⟩) := fun h => by
        have := hP
        unfold Us.okPath at h
        rw [this] at h
        cases h
      rw [hP]
      clear hP e
      go_enter Try.func11, Try.ntmps11
      go_wp2
      go_ret3
      exact ⟨_, _, rfl, HP.out, Only.refl _ _⟩

end Go.Proofs.Ytemfelonfokcnaa
