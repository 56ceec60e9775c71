/- Names, and the small readers of a disk. Conditions: a name is no longer than Go's own limit. -/
import Derived.Test.YthjabfhfkikalaaW2
namespace Go.Proofs.Ythjabfhfkikalaa
open Go.RowKit

theorem take_snoc (s : ByteArray) (k : Nat) (h : k < s.size) : s.data.toList.take (k + 1) = s.data.toList.take k ++ [s[k]] := by
  rw [List.take_succ_eq_append_getElem (by simpa using h)]; rfl

theorem goodB_iff (c : UInt8) : Dm.goodB c = true ↔ 33 ≤ (c.toNat : Int) ∧ (c.toNat : Int) ≤ 126 ∧ (c.toNat : Int) ≠ 47 := by
  have e : c = 47 ↔ c.toNat = 47 := ⟨fun h => by rw [h]; rfl, fun h => UInt8.toNat_inj.1 (by rw [h]; rfl)⟩
  simp [Dm.goodB, UInt8.le_iff_toNat_le, e]
  omega

theorem good_false_of {s : ByteArray} {k : Nat} (h : k < s.size) (hb : Dm.goodB s[k] = false) : Dm.good s.data.toList = false := by
  have : s.data.toList.all Dm.goodB = false := by
    rw [List.all_eq_false]
    exact ⟨s[k], by have : s[k] = s.data.toList[k]'(by simpa using h) := rfl
                    rw [this]; exact List.getElem_mem _, by simp [hb]⟩
  simp [Dm.good, this]

theorem good_true_of {s : ByteArray} (h1 : 1 ≤ s.size) (h2 : s.size ≤ 64) (ha : s.data.toList.all Dm.goodB = true) : Dm.good s.data.toList = true := by
  have e : s.data.toList.length = s.size := by simp
  unfold Dm.good
  rw [e, ha]
  simp [h1, h2]

set_option maxHeartbeats 400000 in
theorem goodName_any (s : ByteArray) (w : World) :
    Calls Try.prog 59 #[.string s] w fun e w' => e = .returned (.bool (Dm.good s.data.toList)) ∧ w = w' := by
  by_cases h1 : 1 ≤ s.size
  · by_cases h2 : s.size ≤ 64
    · have HT : Hid (s.data.toList.all Dm.goodB = true → Dm.good s.data.toList = true) := good_true_of h1 h2
      go_enter Try.func59, Try.ntmps59
      go_wp2
      go_loop [15] (fun i => ∃ k : Nat, k ≤ s.size ∧ i = .int .i64 k ∧ (s.data.toList.take k).all Dm.goodB = true) (fun i => s.size - (intOf i).toNat)
      case atStart => exact ⟨0, Nat.zero_le _, rfl, rfl⟩
      case round =>
        obtain ⟨k, hk, rfl, hall⟩ := hrel
        have HA := Lib.hid hall; clear hall
        by_cases hlt : k < s.size
        · have HB : Hid (Dm.goodB s[k] = true ↔ 33 ≤ (s[k].toNat : Int) ∧ (s[k].toNat : Int) ≤ 126 ∧ (s[k].toNat : Int) ≠ 47) := goodB_iff _
          have HF : Hid (Dm.goodB s[k] = false → Dm.good s.data.toList = false) := good_false_of hlt
          have HS : Hid (s.data.toList.take (k + 1) = s.data.toList.take k ++ [s[k]]) := take_snoc s k hlt
          by_cases ha : 33 ≤ (s[k].toNat : Int)
          · by_cases hb : (s[k].toNat : Int) ≤ 126
            · by_cases hc : (s[k].toNat : Int) = 47
              · have hc' : ((s[k].toNat : Int) == 47) = true := by simp [hc]
                have HG : Hid (Dm.good s.data.toList = false) := HF.out (by rw [← Bool.not_eq_true, HB.out]; simp [hc])
                clear hc
                go_wp2
                go_ret
                exact ⟨by rw [HG.out]; rfl, rfl⟩
              · have hc' : ((s[k].toNat : Int) == 47) = false := by simp [hc]
                have HG : Hid (Dm.goodB s[k] = true) := HB.out.2 ⟨ha, hb, hc⟩
                clear hc
                go_wp2
                go_round
                case rel => exact ⟨k + 1, by omega, by go_num, by rw [HS.out, List.all_append, HA.out]; simp [HG.out]⟩
                case measure => simp [intOf]; omega
            · have HG : Hid (Dm.good s.data.toList = false) := HF.out (by rw [← Bool.not_eq_true, HB.out]; omega)
              go_wp2
              go_ret
              exact ⟨by rw [HG.out]; rfl, rfl⟩
          · have HG : Hid (Dm.good s.data.toList = false) := HF.out (by rw [← Bool.not_eq_true, HB.out]; omega)
            go_wp2
            go_ret
            exact ⟨by rw [HG.out]; rfl, rfl⟩
        · have HG : Hid (Dm.good s.data.toList = true) := HT.out (by have := HA.out; rwa [List.take_of_length_le (by simp; omega)] at this)
          go_wp2
          go_ret
          exact ⟨by rw [HG.out]; rfl, rfl⟩
    · have HG : Hid (Dm.good s.data.toList = false) := by unfold Hid Dm.good; simp; omega
      go_enter Try.func59, Try.ntmps59
      go_wp2
      go_ret
      exact ⟨by rw [HG.out]; rfl, rfl⟩
  · have HG : Hid (Dm.good s.data.toList = false) := by unfold Hid Dm.good; simp; omega
    go_enter Try.func59, Try.ntmps59
    go_wp2
    go_ret
    exact ⟨by rw [HG.out]; rfl, rfl⟩

set_option maxHeartbeats 400000 in
theorem ready_nil (v : Value) (w : World) : Calls Try.prog 45 #[.pointer none, v] w fun e w' => e = .returned (errV 28) ∧ w = w' := by
  go_enter Try.func45, Try.ntmps45
  go_wp2
  go_ret
  exact ⟨rfl, rfl⟩

set_option maxHeartbeats 400000 in
theorem ready_down (b : Nat) (v : Value) (w : World) (h1 : w.cell? ⟨b, 1, none⟩ = some (.bool true)) : Calls Try.prog 45 #[.pointer (some ⟨b, 0, none⟩), v] w fun e w' => e = .returned (errV 1) ∧ w = w' := by
  go_enter Try.func45, Try.ntmps45
  go_wp2
  go_ret
  exact ⟨rfl, rfl⟩

set_option maxHeartbeats 400000 in
theorem ready_none (b : Nat) (w : World) (h1 : w.cell? ⟨b, 1, none⟩ = some (.bool false)) : Calls Try.prog 45 #[.pointer (some ⟨b, 0, none⟩), .slice none 0 0] w fun e w' => e = .returned (errV 0) ∧ w = w' := by
  go_enter Try.func45, Try.ntmps45
  go_wp2
  go_loop [18] (fun i => i = .int .i64 0) (fun _ => 0)
  case atStart => rfl
  case round =>
    subst hrel
    go_wp2
    go_ret
    exact ⟨rfl, rfl⟩

def goods (ns : List ByteArray) : Bool := ns.all fun s => Dm.good s.data.toList
def nameErr (ns : List ByteArray) : Nat := if goods ns then 0 else 6

set_option maxHeartbeats 400000 in
theorem ready_some (b g cap : Nat) (ns : List ByteArray) (w : World) (h1 : w.cell? ⟨b, 1, none⟩ = some (.bool false))
    (hn : ns.length < 1000) (hc : ∀ i (h : i < ns.length), w.cell? ⟨g, i, none⟩ = some (.string ns[i])) :
    Calls Try.prog 45 #[.pointer (some ⟨b, 0, none⟩), .slice (some ⟨g, 0, none⟩) ns.length cap] w fun e w' => e = .returned (errV (nameErr ns)) ∧ w = w' := by
  have HC := Lib.hid hc; clear hc
  go_enter Try.func45, Try.ntmps45
  go_wp2
  go_loop [18] (fun i => ∃ k : Nat, k ≤ ns.length ∧ i = .int .i64 k ∧ goods (ns.take k) = true) (fun i => ns.length - (intOf i).toNat)
  case atStart => exact ⟨0, Nat.zero_le _, rfl, rfl⟩
  case round =>
    obtain ⟨k, hk, rfl, hall⟩ := hrel
    have HA := Lib.hid hall; clear hall
    by_cases hlt : k < ns.length
    · have hcell := HC.out k hlt
      have HG : Hid (Dm.good ns[k].data.toList = true → goods (ns.take (k + 1)) = true) := fun h => by
        have := HA.out
        unfold goods at this ⊢
        rw [List.take_succ_eq_append_getElem hlt, List.all_append, this]; simp [h]
      have HN : Hid (Dm.good ns[k].data.toList = false → goods ns = false) := fun h => by
        unfold goods
        rw [List.all_eq_false]
        exact ⟨ns[k], List.getElem_mem _, by simp [h]⟩
      cases hgd : Dm.good ns[k].data.toList
      · have HE : Hid (nameErr ns = 6) := by unfold Hid nameErr; rw [HN.out hgd]; rfl
        go_wp2_with (go_at_call 59; refine (goodName_any _ _).mono ?_; rintro e w' ⟨rfl, rfl⟩)
        go_ret
        exact ⟨by rw [HE.out]; rfl, rfl⟩
      · have HE := Lib.hid (HG.out hgd)
        go_wp2_with (go_at_call 59; refine (goodName_any _ _).mono ?_; rintro e w' ⟨rfl, rfl⟩)
        go_round
        case rel => exact ⟨k + 1, by omega, by go_num, HE.out⟩
        case measure => simp [intOf]; omega
    · have HE : Hid (nameErr ns = 0) := by
        have := HA.out
        rw [List.take_of_length_le (by omega)] at this
        unfold Hid nameErr; rw [this]; rfl
      go_wp2
      go_ret
      exact ⟨by rw [HE.out]; rfl, rfl⟩

end Go.Proofs.Ythjabfhfkikalaa
