/- The document's Text, Pieces, Part. Conditions: texts within the reach. -/
import Derived.Test.YtikkfmmdgicigaaDoorPaUtf
import Derived.Test.YtikkfmmdgicigaaDoorPaTx
namespace Go.Proofs.YtikkfmmdgicigaaDoor
open Go.RowKit

theorem at_zero {s : ByteArray} {k : Nat} (h : Pt.at' s.data.toList k = 0) (hk : k < s.size) : Pt.txt s.data.toList 0 = Pt.txt s.data.toList 0 ∧ (0 : UInt8) ∈ s.data.toList := by
  refine ⟨rfl, ?_⟩
  have hl : k < s.data.toList.length := by rw [← Lib.size_eq]; exact hk
  unfold Pt.at' at h
  rw [List.getD, List.getElem?_eq_getElem hl] at h
  have : s.data.toList[k] = 0 := UInt8.toNat_inj.1 h
  rw [← this]
  exact List.getElem_mem _

theorem no_zero {s : ByteArray} (h : ∀ j, j < s.size → Pt.at' s.data.toList j ≠ 0) : (0 : UInt8) ∉ s.data.toList := by
  intro hm
  obtain ⟨j, hj, he⟩ := List.getElem_of_mem hm
  refine h j (by rw [Lib.size_eq]; exact hj) ?_
  unfold Pt.at'
  rw [List.getD, List.getElem?_eq_getElem hj, he]
  rfl

set_option maxRecDepth 100000 in
set_option maxHeartbeats 2000000 in
theorem r8text_any (s : ByteArray) (hs : s.size ≤ 140737488351232) (m : Int) (w : World) :
    Calls Tryd.prog 70 #[.string s, .int .i64 m] w fun e w' => e = .returned (.bool (Pt.txt s.data.toList m)) ∧ w' = w := by
  have HV := Lib.hid (utf_any s (by omega))
  have hls : s.data.toList.length = s.size := (Lib.size_eq s).symm
  by_cases c1 : 1 ≤ s.size
  · by_cases c2 : (s.size : Int) ≤ m
    · have hne : s.data.toList ≠ [] := fun e => by rw [e] at hls; simp at hls; omega
      have HT : Hid (Pt.txt s.data.toList m = (Lib.validD s.data.toList && decide (Lib.indexByte s.data.toList 0 < 0))) := by
        unfold Hid Pt.txt
        rw [beq_eq_false_iff_ne.2 hne, decide_eq_true (by rw [hls]; exact c2), Bool.not_false, Bool.true_and, Bool.true_and]
      have z1 : ¬ (s.size : Int) < 1 := by omega
      have z2 : ¬ (s.size : Int) > m := by omega
      clear hne
      go_enter Tryd.func70, Tryd.ntmps70
      go_wp2
      go_loop [5] (fun kv => ∃ k : Nat, k ≤ s.size ∧ kv = .int .i64 (k : Int) ∧ Hid (∀ j, j < k → Pt.at' s.data.toList j ≠ 0)) (fun kv => s.size - (intOf kv).toNat)
      case atStart => exact ⟨0, Nat.zero_le _, rfl, fun j hj => by omega⟩
      case round =>
        obtain ⟨k, hk, rfl, hall⟩ := hrel
        by_cases hlt : k < s.size
        · have hx := at_get hlt
          have hk0 : (0 : Int) ≤ (k : Int) := by omega
          have hk1 : (k : Int) < (s.size : Int) := by omega
          have HZ : Hid (Pt.at' s.data.toList k = 0 → Pt.txt s.data.toList m = false) := fun h => by
            rw [HT.out, decide_eq_false (fun h2 => Pt.index_mem.1 h2 (at_zero h hlt).2), Bool.and_false]
          have HN : Hid (∀ j, j < k + 1 → Pt.at' s.data.toList k ≠ 0 → Pt.at' s.data.toList j ≠ 0) := fun j hj h0 => by
            rcases Nat.lt_or_ge j k with h | h
            · exact hall.out j h
            · obtain rfl : j = k := by omega
              exact h0
          generalize Pt.at' s.data.toList k = d at *
          by_cases hd : d = 0
          · have HF := Lib.hid (HZ.out hd)
            have hdi : (d : Int) = 0 := by omega
            clear HN HZ
            go_wp2
            go_ret
            exact ⟨by rw [HF.out]; rfl, rfl⟩
          · have hdi : ((d : Int) == 0) = false := by rw [beq_eq_false_iff_ne]; omega
            have HF := Lib.hid (fun j hj => HN.out j hj hd)
            clear HN HZ hd
            go_wp2
            go_round
            case rel => exact ⟨k + 1, by omega, by go_num, HF⟩
            case measure => simp [intOf]; omega
        · obtain rfl : k = s.size := by omega
          have HF : Hid (Pt.txt s.data.toList m = Lib.validD s.data.toList) := by
            unfold Hid
            rw [HT.out, decide_eq_true (Pt.index_mem.2 (no_zero hall.out)), Bool.and_true]
          clear hall HT
          go_wp2_with (go_at_call 88; refine (HV.out _).mono ?_; rintro e w1 ⟨rfl, rfl⟩)
          go_ret
          exact ⟨by rw [HF.out]; rfl, rfl⟩
    · have HF : Hid (Pt.txt s.data.toList m = false) := by
        unfold Hid Pt.txt
        rw [decide_eq_false (by rw [hls]; exact c2), Bool.false_and, Bool.and_false]
      have z1 : ¬ (s.size : Int) < 1 := by omega
      have z2 : (s.size : Int) > m := by omega
      go_enter Tryd.func70, Tryd.ntmps70
      go_wp2
      go_ret
      exact ⟨by rw [HF.out]; rfl, rfl⟩
  · have HF : Hid (Pt.txt s.data.toList m = false) := by
      have hne : s.data.toList = [] := List.eq_nil_of_length_eq_zero (by omega)
      unfold Hid Pt.txt
      rw [hne]
      rfl
    have z1 : (s.size : Int) < 1 := by omega
    go_enter Tryd.func70, Tryd.ntmps70
    go_wp2
    go_ret
    exact ⟨by rw [HF.out]; rfl, rfl⟩

end Go.Proofs.YtikkfmmdgicigaaDoor
