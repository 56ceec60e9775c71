/- The document's utf and Text. Conditions: none. -/
import Derived.Test.YtikkfmmdgicigaaDoorPaUtfL
import Derived.Test.YtikkfmmdgicigaaDoorPaText
namespace Go.Proofs.YtikkfmmdgicigaaDoor
open Go.RowKit

theorem at_get {s : ByteArray} {i : Nat} (h : i < s.size) : (s[i]).toNat = Pt.at' s.data.toList i := by
  unfold Pt.at'
  have hl : i < s.data.toList.length := by rw [← Lib.size_eq]; exact h
  rw [List.getD, List.getElem?_eq_getElem hl]
  rfl

/-- The bytes that have been looked at may stand there. -/
def okTo (s : ByteArray) (i lo hi k : Nat) : Prop := ∀ j, 1 ≤ j → j < k → Pt.okAt s.data.toList i lo hi j

set_option maxRecDepth 100000 in
set_option maxHeartbeats 16000000 in
theorem utf_any (s : ByteArray) (hs : s.size ≤ 9223372036854775000) (w : World) :
    Calls Tryd.prog 88 #[.string s] w fun e w' => e = .returned (.bool (Lib.validD s.data.toList)) ∧ w' = w := by
  have hls : s.data.toList.length = s.size := (Lib.size_eq s).symm
  go_enter Tryd.func88, Tryd.ntmps88
  go_wp2
  go_loop [3] (fun iv => ∃ i : Nat, i ≤ s.size ∧ iv = .int .i64 (i : Int) ∧ Hid (Lib.validD s.data.toList = Lib.validD (s.data.toList.drop i))) (fun iv => s.size - (intOf iv).toNat)
  case atStart => exact ⟨0, Nat.zero_le _, rfl, rfl⟩
  case round =>
    obtain ⟨i, hi, rfl, hval⟩ := hrel
    by_cases hlt : i < s.size
    · have hi0 : (0 : Int) ≤ (i : Int) := by omega
      have hi1 : (i : Int) < (s.size : Int) := by omega
      have hll : i < s.data.toList.length := by omega
      have hx := at_get hlt
      obtain ⟨c, hc⟩ : ∃ c, Pt.at' s.data.toList i = c := ⟨_, rfl⟩
      rw [hc] at hx
      have hc256 : c < 256 := by rw [← hx]; exact (s[i]).toNat_lt
      have A0 := Lib.hid (fun h => Pt.utf_ascii hll (h : Pt.at' s.data.toList i < 128))
      have N0 := Lib.hid (fun h => Pt.cls_none hll (h : (128 ≤ Pt.at' s.data.toList i ∧ Pt.at' s.data.toList i < 194) ∨ 245 ≤ Pt.at' s.data.toList i))
      have C2 := Lib.hid (fun h g => Pt.cls_2 hll (h : 194 ≤ Pt.at' s.data.toList i) (g : Pt.at' s.data.toList i ≤ 223))
      have C3a := Lib.hid (fun h => Pt.cls_3a hll (h : Pt.at' s.data.toList i = 224))
      have C3b := Lib.hid (fun h g k => Pt.cls_3b hll (h : 225 ≤ Pt.at' s.data.toList i) (g : Pt.at' s.data.toList i ≤ 239) (k : Pt.at' s.data.toList i ≠ 237))
      have C3c := Lib.hid (fun h => Pt.cls_3c hll (h : Pt.at' s.data.toList i = 237))
      have C4a := Lib.hid (fun h => Pt.cls_4a hll (h : Pt.at' s.data.toList i = 240))
      have C4b := Lib.hid (fun h g => Pt.cls_4b hll (h : 241 ≤ Pt.at' s.data.toList i) (g : Pt.at' s.data.toList i ≤ 243))
      have C4c := Lib.hid (fun h => Pt.cls_4c hll (h : Pt.at' s.data.toList i = 244))
      rw [hc] at A0 N0 C2 C3a C3b C3c C4a C4b C4c
      clear hc
      by_cases b0 : c < 128
      · have z0 : (c : Int) < 128 := by omega
        have HS := Lib.hid (A0.out b0)
        clear A0 N0 C2 C3a C3b C3c C4a C4b C4c
        go_wp2
        go_loop [8] (fun kv => kv = .int .i64 1) (fun _ => 0)
        case atStart => rfl
        case round =>
          subst hrel
          go_wp2
          go_round
          case rel => exact ⟨i + 1, by omega, by go_num, hval.out.trans HS.out⟩
          case measure => simp [intOf]; omega
      by_cases b1 : c < 194 ∨ 245 ≤ c
      · have HS := Lib.hid (N0.out (by omega))
        have z0 : ¬ (c : Int) < 128 := by omega
        clear A0 N0 C2 C3a C3b C3c C4a C4b C4c
        rcases b1 with b1 | b1
        · have z1 : (c : Int) < 194 := by omega
          go_wp2
          go_ret
          exact ⟨by rw [hval.out, HS.out]; rfl, rfl⟩
        · have z1 : (c : Int) > 244 := by omega
          go_wp2
          go_ret
          exact ⟨by rw [hval.out, HS.out]; rfl, rfl⟩
      by_cases b2 : c ≤ 223
      · have HS := Lib.hid (C2.out (by omega) (by omega))
        have z0 : ¬ (c : Int) < 128 := by omega
        have z1 : (c : Int) ≥ 194 := by omega
        have z2 : (c : Int) ≤ 223 := by omega
        clear A0 N0 C2 C3a C3b C3c C4a C4b C4c
        by_cases hroom : i + 2 ≤ s.size
        · have hr1 : ¬ (i : Int) + 2 > (s.size : Int) := by omega
          go_wp2
          go_loop [6, 7, 8] (fun lv hv kv => ∃ k : Nat, 1 ≤ k ∧ k ≤ 2 ∧ kv = .int .i64 (k : Int) ∧ lv = .int .u8 ((if k = 1 then 128 else 128 : Nat) : Int) ∧ hv = .int .u8 ((if k = 1 then 191 else 191 : Nat) : Int) ∧ Hid (okTo s i 128 191 k)) (fun _ _ kv => 2 - (intOf kv).toNat)
          case atStart => exact ⟨1, by omega, by omega, rfl, rfl, rfl, fun j h1 h2 => by omega⟩
          case round =>
            obtain ⟨k, hk1, hk2, rfl, rfl, rfl, hok⟩ := hrel
            by_cases hk : k < 2
            · have hki : i + k < s.size := by omega
              have hx2 := at_get hki
              have HO : Hid (Pt.okAt s.data.toList i 128 191 k ↔ (if k = 1 then 128 else 128) ≤ Pt.at' s.data.toList (i + k) ∧ Pt.at' s.data.toList (i + k) ≤ (if k = 1 then 191 else 191)) := Iff.rfl
              generalize (if k = 1 then 128 else 128 : Nat) = lz at *
              generalize (if k = 1 then 191 else 191 : Nat) = hz at *
              generalize Pt.at' s.data.toList (i + k) = d at *
              have hq1 : (k : Int) < 2 := by omega
              have hq2 : (i : Int) + (k : Int) < (s.size : Int) := by omega
              have hq3 : (0 : Int) ≤ (i : Int) + (k : Int) := by omega
              have hq4 : ((i : Int) + (k : Int)).toNat = i + k := by omega
              by_cases d1 : d < lz
              · have y1 : (d : Int) < (lz : Int) := by omega
                have HB := Lib.hid (HS.out.bad k hk1 hk (fun h => by have := HO.out.1 h; omega))
                go_wp2
                go_ret
                exact ⟨by rw [hval.out, HB.out]; rfl, rfl⟩
              · have y1 : ¬ (d : Int) < (lz : Int) := by omega
                by_cases d2 : hz < d
                · have y2 : (d : Int) > (hz : Int) := by omega
                  have HB := Lib.hid (HS.out.bad k hk1 hk (fun h => by have := HO.out.1 h; omega))
                  go_wp2
                  go_ret
                  exact ⟨by rw [hval.out, HB.out]; rfl, rfl⟩
                · have y2 : ¬ (d : Int) > (hz : Int) := by omega
                  have HOK := Lib.hid (HO.out.2 ⟨by omega, by omega⟩)
                  go_wp2
                  go_round
                  case rel =>
                    refine ⟨k + 1, by omega, by omega, by go_num, by rw [if_neg (by omega)]; rfl, by rw [if_neg (by omega)]; rfl, fun j h1 h2 => ?_⟩
                    rcases Nat.lt_or_ge j k with h3 | h3
                    · exact hok.out j h1 h3
                    · obtain rfl : j = k := by omega
                      exact HOK.out
                  case measure => simp [intOf]; omega
            · obtain rfl : k = 2 := by omega
              have HF := Lib.hid (HS.out.fin (by omega) hok.out)
              go_wp2
              go_round
              case rel => exact ⟨i + 2, by omega, by go_num, hval.out.trans HF.out⟩
              case measure => simp [intOf]; omega
        · have hr1 : (i : Int) + 2 > (s.size : Int) := by omega
          have HB := Lib.hid (HS.out.short (by omega))
          go_wp2
          go_ret
          exact ⟨by rw [hval.out, HB.out]; rfl, rfl⟩
      by_cases b3 : c = 224
      · have HS := Lib.hid (C3a.out b3)
        have z0 : ¬ (c : Int) < 128 := by omega
        have z1 : (c : Int) = 224 := by omega
        clear A0 N0 C2 C3a C3b C3c C4a C4b C4c
        by_cases hroom : i + 3 ≤ s.size
        · have hr1 : ¬ (i : Int) + 3 > (s.size : Int) := by omega
          go_wp2
          go_loop [6, 7, 8] (fun lv hv kv => ∃ k : Nat, 1 ≤ k ∧ k ≤ 3 ∧ kv = .int .i64 (k : Int) ∧ lv = .int .u8 ((if k = 1 then 160 else 128 : Nat) : Int) ∧ hv = .int .u8 ((if k = 1 then 191 else 191 : Nat) : Int) ∧ Hid (okTo s i 160 191 k)) (fun _ _ kv => 3 - (intOf kv).toNat)
          case atStart => exact ⟨1, by omega, by omega, rfl, rfl, rfl, fun j h1 h2 => by omega⟩
          case round =>
            obtain ⟨k, hk1, hk2, rfl, rfl, rfl, hok⟩ := hrel
            by_cases hk : k < 3
            · have hki : i + k < s.size := by omega
              have hx2 := at_get hki
              have HO : Hid (Pt.okAt s.data.toList i 160 191 k ↔ (if k = 1 then 160 else 128) ≤ Pt.at' s.data.toList (i + k) ∧ Pt.at' s.data.toList (i + k) ≤ (if k = 1 then 191 else 191)) := Iff.rfl
              generalize (if k = 1 then 160 else 128 : Nat) = lz at *
              generalize (if k = 1 then 191 else 191 : Nat) = hz at *
              generalize Pt.at' s.data.toList (i + k) = d at *
              have hq1 : (k : Int) < 3 := by omega
              have hq2 : (i : Int) + (k : Int) < (s.size : Int) := by omega
              have hq3 : (0 : Int) ≤ (i : Int) + (k : Int) := by omega
              have hq4 : ((i : Int) + (k : Int)).toNat = i + k := by omega
              by_cases d1 : d < lz
              · have y1 : (d : Int) < (lz : Int) := by omega
                have HB := Lib.hid (HS.out.bad k hk1 hk (fun h => by have := HO.out.1 h; omega))
                go_wp2
                go_ret
                exact ⟨by rw [hval.out, HB.out]; rfl, rfl⟩
              · have y1 : ¬ (d : Int) < (lz : Int) := by omega
                by_cases d2 : hz < d
                · have y2 : (d : Int) > (hz : Int) := by omega
                  have HB := Lib.hid (HS.out.bad k hk1 hk (fun h => by have := HO.out.1 h; omega))
                  go_wp2
                  go_ret
                  exact ⟨by rw [hval.out, HB.out]; rfl, rfl⟩
                · have y2 : ¬ (d : Int) > (hz : Int) := by omega
                  have HOK := Lib.hid (HO.out.2 ⟨by omega, by omega⟩)
                  go_wp2
                  go_round
                  case rel =>
                    refine ⟨k + 1, by omega, by omega, by go_num, by rw [if_neg (by omega)]; rfl, by rw [if_neg (by omega)]; rfl, fun j h1 h2 => ?_⟩
                    rcases Nat.lt_or_ge j k with h3 | h3
                    · exact hok.out j h1 h3
                    · obtain rfl : j = k := by omega
                      exact HOK.out
                  case measure => simp [intOf]; omega
            · obtain rfl : k = 3 := by omega
              have HF := Lib.hid (HS.out.fin (by omega) hok.out)
              go_wp2
              go_round
              case rel => exact ⟨i + 3, by omega, by go_num, hval.out.trans HF.out⟩
              case measure => simp [intOf]; omega
        · have hr1 : (i : Int) + 3 > (s.size : Int) := by omega
          have HB := Lib.hid (HS.out.short (by omega))
          go_wp2
          go_ret
          exact ⟨by rw [hval.out, HB.out]; rfl, rfl⟩
      by_cases b4 : c = 237
      · have HS := Lib.hid (C3c.out b4)
        have z0 : ¬ (c : Int) < 128 := by omega
        have z1 : (c : Int) = 237 := by omega
        clear A0 N0 C2 C3a C3b C3c C4a C4b C4c
        by_cases hroom : i + 3 ≤ s.size
        · have hr1 : ¬ (i : Int) + 3 > (s.size : Int) := by omega
          go_wp2
          go_loop [6, 7, 8] (fun lv hv kv => ∃ k : Nat, 1 ≤ k ∧ k ≤ 3 ∧ kv = .int .i64 (k : Int) ∧ lv = .int .u8 ((if k = 1 then 128 else 128 : Nat) : Int) ∧ hv = .int .u8 ((if k = 1 then 159 else 191 : Nat) : Int) ∧ Hid (okTo s i 128 159 k)) (fun _ _ kv => 3 - (intOf kv).toNat)
          case atStart => exact ⟨1, by omega, by omega, rfl, rfl, rfl, fun j h1 h2 => by omega⟩
          case round =>
            obtain ⟨k, hk1, hk2, rfl, rfl, rfl, hok⟩ := hrel
            by_cases hk : k < 3
            · have hki : i + k < s.size := by omega
              have hx2 := at_get hki
              have HO : Hid (Pt.okAt s.data.toList i 128 159 k ↔ (if k = 1 then 128 else 128) ≤ Pt.at' s.data.toList (i + k) ∧ Pt.at' s.data.toList (i + k) ≤ (if k = 1 then 159 else 191)) := Iff.rfl
              generalize (if k = 1 then 128 else 128 : Nat) = lz at *
              generalize (if k = 1 then 159 else 191 : Nat) = hz at *
              generalize Pt.at' s.data.toList (i + k) = d at *
              have hq1 : (k : Int) < 3 := by omega
              have hq2 : (i : Int) + (k : Int) < (s.size : Int) := by omega
              have hq3 : (0 : Int) ≤ (i : Int) + (k : Int) := by omega
              have hq4 : ((i : Int) + (k : Int)).toNat = i + k := by omega
              by_cases d1 : d < lz
              · have y1 : (d : Int) < (lz : Int) := by omega
                have HB := Lib.hid (HS.out.bad k hk1 hk (fun h => by have := HO.out.1 h; omega))
                go_wp2
                go_ret
                exact ⟨by rw [hval.out, HB.out]; rfl, rfl⟩
              · have y1 : ¬ (d : Int) < (lz : Int) := by omega
                by_cases d2 : hz < d
                · have y2 : (d : Int) > (hz : Int) := by omega
                  have HB := Lib.hid (HS.out.bad k hk1 hk (fun h => by have := HO.out.1 h; omega))
                  go_wp2
                  go_ret
                  exact ⟨by rw [hval.out, HB.out]; rfl, rfl⟩
                · have y2 : ¬ (d : Int) > (hz : Int) := by omega
                  have HOK := Lib.hid (HO.out.2 ⟨by omega, by omega⟩)
                  go_wp2
                  go_round
                  case rel =>
                    refine ⟨k + 1, by omega, by omega, by go_num, by rw [if_neg (by omega)]; rfl, by rw [if_neg (by omega)]; rfl, fun j h1 h2 => ?_⟩
                    rcases Nat.lt_or_ge j k with h3 | h3
                    · exact hok.out j h1 h3
                    · obtain rfl : j = k := by omega
                      exact HOK.out
                  case measure => simp [intOf]; omega
            · obtain rfl : k = 3 := by omega
              have HF := Lib.hid (HS.out.fin (by omega) hok.out)
              go_wp2
              go_round
              case rel => exact ⟨i + 3, by omega, by go_num, hval.out.trans HF.out⟩
              case measure => simp [intOf]; omega
        · have hr1 : (i : Int) + 3 > (s.size : Int) := by omega
          have HB := Lib.hid (HS.out.short (by omega))
          go_wp2
          go_ret
          exact ⟨by rw [hval.out, HB.out]; rfl, rfl⟩
      by_cases b5 : c ≤ 239
      · have HS := Lib.hid (C3b.out (by omega) (by omega) b4)
        have z0 : ¬ (c : Int) < 128 := by omega
        have z1 : (c : Int) > 224 := by omega
        have z2 : (c : Int) ≤ 239 := by omega
        have z3 : ((c : Int) == 224) = false := by rw [beq_eq_false_iff_ne]; omega
        have z4 : ((c : Int) == 237) = false := by rw [beq_eq_false_iff_ne]; omega
        clear A0 N0 C2 C3a C3b C3c C4a C4b C4c
        by_cases hroom : i + 3 ≤ s.size
        · have hr1 : ¬ (i : Int) + 3 > (s.size : Int) := by omega
          go_wp2
          go_loop [6, 7, 8] (fun lv hv kv => ∃ k : Nat, 1 ≤ k ∧ k ≤ 3 ∧ kv = .int .i64 (k : Int) ∧ lv = .int .u8 ((if k = 1 then 128 else 128 : Nat) : Int) ∧ hv = .int .u8 ((if k = 1 then 191 else 191 : Nat) : Int) ∧ Hid (okTo s i 128 191 k)) (fun _ _ kv => 3 - (intOf kv).toNat)
          case atStart => exact ⟨1, by omega, by omega, rfl, rfl, rfl, fun j h1 h2 => by omega⟩
          case round =>
            obtain ⟨k, hk1, hk2, rfl, rfl, rfl, hok⟩ := hrel
            by_cases hk : k < 3
            · have hki : i + k < s.size := by omega
              have hx2 := at_get hki
              have HO : Hid (Pt.okAt s.data.toList i 128 191 k ↔ (if k = 1 then 128 else 128) ≤ Pt.at' s.data.toList (i + k) ∧ Pt.at' s.data.toList (i + k) ≤ (if k = 1 then 191 else 191)) := Iff.rfl
              generalize (if k = 1 then 128 else 128 : Nat) = lz at *
              generalize (if k = 1 then 191 else 191 : Nat) = hz at *
              generalize Pt.at' s.data.toList (i + k) = d at *
              have hq1 : (k : Int) < 3 := by omega
              have hq2 : (i : Int) + (k : Int) < (s.size : Int) := by omega
              have hq3 : (0 : Int) ≤ (i : Int) + (k : Int) := by omega
              have hq4 : ((i : Int) + (k : Int)).toNat = i + k := by omega
              by_cases d1 : d < lz
              · have y1 : (d : Int) < (lz : Int) := by omega
                have HB := Lib.hid (HS.out.bad k hk1 hk (fun h => by have := HO.out.1 h; omega))
                go_wp2
                go_ret
                exact ⟨by rw [hval.out, HB.out]; rfl, rfl⟩
              · have y1 : ¬ (d : Int) < (lz : Int) := by omega
                by_cases d2 : hz < d
                · have y2 : (d : Int) > (hz : Int) := by omega
                  have HB := Lib.hid (HS.out.bad k hk1 hk (fun h => by have := HO.out.1 h; omega))
                  go_wp2
                  go_ret
                  exact ⟨by rw [hval.out, HB.out]; rfl, rfl⟩
                · have y2 : ¬ (d : Int) > (hz : Int) := by omega
                  have HOK := Lib.hid (HO.out.2 ⟨by omega, by omega⟩)
                  go_wp2
                  go_round
                  case rel =>
                    refine ⟨k + 1, by omega, by omega, by go_num, by rw [if_neg (by omega)]; rfl, by rw [if_neg (by omega)]; rfl, fun j h1 h2 => ?_⟩
                    rcases Nat.lt_or_ge j k with h3 | h3
                    · exact hok.out j h1 h3
                    · obtain rfl : j = k := by omega
                      exact HOK.out
                  case measure => simp [intOf]; omega
            · obtain rfl : k = 3 := by omega
              have HF := Lib.hid (HS.out.fin (by omega) hok.out)
              go_wp2
              go_round
              case rel => exact ⟨i + 3, by omega, by go_num, hval.out.trans HF.out⟩
              case measure => simp [intOf]; omega
        · have hr1 : (i : Int) + 3 > (s.size : Int) := by omega
          have HB := Lib.hid (HS.out.short (by omega))
          go_wp2
          go_ret
          exact ⟨by rw [hval.out, HB.out]; rfl, rfl⟩
      by_cases b6 : c = 240
      · have HS := Lib.hid (C4a.out b6)
        have z0 : ¬ (c : Int) < 128 := by omega
        have z1 : (c : Int) = 240 := by omega
        clear A0 N0 C2 C3a C3b C3c C4a C4b C4c
        by_cases hroom : i + 4 ≤ s.size
        · have hr1 : ¬ (i : Int) + 4 > (s.size : Int) := by omega
          go_wp2
          go_loop [6, 7, 8] (fun lv hv kv => ∃ k : Nat, 1 ≤ k ∧ k ≤ 4 ∧ kv = .int .i64 (k : Int) ∧ lv = .int .u8 ((if k = 1 then 144 else 128 : Nat) : Int) ∧ hv = .int .u8 ((if k = 1 then 191 else 191 : Nat) : Int) ∧ Hid (okTo s i 144 191 k)) (fun _ _ kv => 4 - (intOf kv).toNat)
          case atStart => exact ⟨1, by omega, by omega, rfl, rfl, rfl, fun j h1 h2 => by omega⟩
          case round =>
            obtain ⟨k, hk1, hk2, rfl, rfl, rfl, hok⟩ := hrel
            by_cases hk : k < 4
            · have hki : i + k < s.size := by omega
              have hx2 := at_get hki
              have HO : Hid (Pt.okAt s.data.toList i 144 191 k ↔ (if k = 1 then 144 else 128) ≤ Pt.at' s.data.toList (i + k) ∧ Pt.at' s.data.toList (i + k) ≤ (if k = 1 then 191 else 191)) := Iff.rfl
              generalize (if k = 1 then 144 else 128 : Nat) = lz at *
              generalize (if k = 1 then 191 else 191 : Nat) = hz at *
              generalize Pt.at' s.data.toList (i + k) = d at *
              have hq1 : (k : Int) < 4 := by omega
              have hq2 : (i : Int) + (k : Int) < (s.size : Int) := by omega
              have hq3 : (0 : Int) ≤ (i : Int) + (k : Int) := by omega
              have hq4 : ((i : Int) + (k : Int)).toNat = i + k := by omega
              by_cases d1 : d < lz
              · have y1 : (d : Int) < (lz : Int) := by omega
                have HB := Lib.hid (HS.out.bad k hk1 hk (fun h => by have := HO.out.1 h; omega))
                go_wp2
                go_ret
                exact ⟨by rw [hval.out, HB.out]; rfl, rfl⟩
              · have y1 : ¬ (d : Int) < (lz : Int) := by omega
                by_cases d2 : hz < d
                · have y2 : (d : Int) > (hz : Int) := by omega
                  have HB := Lib.hid (HS.out.bad k hk1 hk (fun h => by have := HO.out.1 h; omega))
                  go_wp2
                  go_ret
                  exact ⟨by rw [hval.out, HB.out]; rfl, rfl⟩
                · have y2 : ¬ (d : Int) > (hz : Int) := by omega
                  have HOK := Lib.hid (HO.out.2 ⟨by omega, by omega⟩)
                  go_wp2
                  go_round
                  case rel =>
                    refine ⟨k + 1, by omega, by omega, by go_num, by rw [if_neg (by omega)]; rfl, by rw [if_neg (by omega)]; rfl, fun j h1 h2 => ?_⟩
                    rcases Nat.lt_or_ge j k with h3 | h3
                    · exact hok.out j h1 h3
                    · obtain rfl : j = k := by omega
                      exact HOK.out
                  case measure => simp [intOf]; omega
            · obtain rfl : k = 4 := by omega
              have HF := Lib.hid (HS.out.fin (by omega) hok.out)
              go_wp2
              go_round
              case rel => exact ⟨i + 4, by omega, by go_num, hval.out.trans HF.out⟩
              case measure => simp [intOf]; omega
        · have hr1 : (i : Int) + 4 > (s.size : Int) := by omega
          have HB := Lib.hid (HS.out.short (by omega))
          go_wp2
          go_ret
          exact ⟨by rw [hval.out, HB.out]; rfl, rfl⟩
      by_cases b7 : c = 244
      · have HS := Lib.hid (C4c.out b7)
        have z0 : ¬ (c : Int) < 128 := by omega
        have z1 : (c : Int) = 244 := by omega
        clear A0 N0 C2 C3a C3b C3c C4a C4b C4c
        by_cases hroom : i + 4 ≤ s.size
        · have hr1 : ¬ (i : Int) + 4 > (s.size : Int) := by omega
          go_wp2
          go_loop [6, 7, 8] (fun lv hv kv => ∃ k : Nat, 1 ≤ k ∧ k ≤ 4 ∧ kv = .int .i64 (k : Int) ∧ lv = .int .u8 ((if k = 1 then 128 else 128 : Nat) : Int) ∧ hv = .int .u8 ((if k = 1 then 143 else 191 : Nat) : Int) ∧ Hid (okTo s i 128 143 k)) (fun _ _ kv => 4 - (intOf kv).toNat)
          case atStart => exact ⟨1, by omega, by omega, rfl, rfl, rfl, fun j h1 h2 => by omega⟩
          case round =>
            obtain ⟨k, hk1, hk2, rfl, rfl, rfl, hok⟩ := hrel
            by_cases hk : k < 4
            · have hki : i + k < s.size := by omega
              have hx2 := at_get hki
              have HO : Hid (Pt.okAt s.data.toList i 128 143 k ↔ (if k = 1 then 128 else 128) ≤ Pt.at' s.data.toList (i + k) ∧ Pt.at' s.data.toList (i + k) ≤ (if k = 1 then 143 else 191)) := Iff.rfl
              generalize (if k = 1 then 128 else 128 : Nat) = lz at *
              generalize (if k = 1 then 143 else 191 : Nat) = hz at *
              generalize Pt.at' s.data.toList (i + k) = d at *
              have hq1 : (k : Int) < 4 := by omega
              have hq2 : (i : Int) + (k : Int) < (s.size : Int) := by omega
              have hq3 : (0 : Int) ≤ (i : Int) + (k : Int) := by omega
              have hq4 : ((i : Int) + (k : Int)).toNat = i + k := by omega
              by_cases d1 : d < lz
              · have y1 : (d : Int) < (lz : Int) := by omega
                have HB := Lib.hid (HS.out.bad k hk1 hk (fun h => by have := HO.out.1 h; omega))
                go_wp2
                go_ret
                exact ⟨by rw [hval.out, HB.out]; rfl, rfl⟩
              · have y1 : ¬ (d : Int) < (lz : Int) := by omega
                by_cases d2 : hz < d
                · have y2 : (d : Int) > (hz : Int) := by omega
                  have HB := Lib.hid (HS.out.bad k hk1 hk (fun h => by have := HO.out.1 h; omega))
                  go_wp2
                  go_ret
                  exact ⟨by rw [hval.out, HB.out]; rfl, rfl⟩
                · have y2 : ¬ (d : Int) > (hz : Int) := by omega
                  have HOK := Lib.hid (HO.out.2 ⟨by omega, by omega⟩)
                  go_wp2
                  go_round
                  case rel =>
                    refine ⟨k + 1, by omega, by omega, by go_num, by rw [if_neg (by omega)]; rfl, by rw [if_neg (by omega)]; rfl, fun j h1 h2 => ?_⟩
                    rcases Nat.lt_or_ge j k with h3 | h3
                    · exact hok.out j h1 h3
                    · obtain rfl : j = k := by omega
                      exact HOK.out
                  case measure => simp [intOf]; omega
            · obtain rfl : k = 4 := by omega
              have HF := Lib.hid (HS.out.fin (by omega) hok.out)
              go_wp2
              go_round
              case rel => exact ⟨i + 4, by omega, by go_num, hval.out.trans HF.out⟩
              case measure => simp [intOf]; omega
        · have hr1 : (i : Int) + 4 > (s.size : Int) := by omega
          have HB := Lib.hid (HS.out.short (by omega))
          go_wp2
          go_ret
          exact ⟨by rw [hval.out, HB.out]; rfl, rfl⟩
      have HS := Lib.hid (C4b.out (by omega) (by omega))
      have z0 : ¬ (c : Int) < 128 := by omega
      have z1 : (c : Int) > 240 := by omega
      have z2 : (c : Int) < 244 := by omega
      have z3 : ((c : Int) == 240) = false := by rw [beq_eq_false_iff_ne]; omega
      have z4 : ((c : Int) == 244) = false := by rw [beq_eq_false_iff_ne]; omega
      clear A0 N0 C2 C3a C3b C3c C4a C4b C4c
      by_cases hroom : i + 4 ≤ s.size
      · have hr1 : ¬ (i : Int) + 4 > (s.size : Int) := by omega
        go_wp2
        go_loop [6, 7, 8] (fun lv hv kv => ∃ k : Nat, 1 ≤ k ∧ k ≤ 4 ∧ kv = .int .i64 (k : Int) ∧ lv = .int .u8 ((if k = 1 then 128 else 128 : Nat) : Int) ∧ hv = .int .u8 ((if k = 1 then 191 else 191 : Nat) : Int) ∧ Hid (okTo s i 128 191 k)) (fun _ _ kv => 4 - (intOf kv).toNat)
        case atStart => exact ⟨1, by omega, by omega, rfl, rfl, rfl, fun j h1 h2 => by omega⟩
        case round =>
          obtain ⟨k, hk1, hk2, rfl, rfl, rfl, hok⟩ := hrel
          by_cases hk : k < 4
          · have hki : i + k < s.size := by omega
            have hx2 := at_get hki
            have HO : Hid (Pt.okAt s.data.toList i 128 191 k ↔ (if k = 1 then 128 else 128) ≤ Pt.at' s.data.toList (i + k) ∧ Pt.at' s.data.toList (i + k) ≤ (if k = 1 then 191 else 191)) := Iff.rfl
            generalize (if k = 1 then 128 else 128 : Nat) = lz at *
            generalize (if k = 1 then 191 else 191 : Nat) = hz at *
            generalize Pt.at' s.data.toList (i + k) = d at *
            have hq1 : (k : Int) < 4 := by omega
            have hq2 : (i : Int) + (k : Int) < (s.size : Int) := by omega
            have hq3 : (0 : Int) ≤ (i : Int) + (k : Int) := by omega
            have hq4 : ((i : Int) + (k : Int)).toNat = i + k := by omega
            by_cases d1 : d < lz
            · have y1 : (d : Int) < (lz : Int) := by omega
              have HB := Lib.hid (HS.out.bad k hk1 hk (fun h => by have := HO.out.1 h; omega))
              go_wp2
              go_ret
              exact ⟨by rw [hval.out, HB.out]; rfl, rfl⟩
            · have y1 : ¬ (d : Int) < (lz : Int) := by omega
              by_cases d2 : hz < d
              · have y2 : (d : Int) > (hz : Int) := by omega
                have HB := Lib.hid (HS.out.bad k hk1 hk (fun h => by have := HO.out.1 h; omega))
                go_wp2
                go_ret
                exact ⟨by rw [hval.out, HB.out]; rfl, rfl⟩
              · have y2 : ¬ (d : Int) > (hz : Int) := by omega
                have HOK := Lib.hid (HO.out.2 ⟨by omega, by omega⟩)
                go_wp2
                go_round
                case rel =>
                  refine ⟨k + 1, by omega, by omega, by go_num, by rw [if_neg (by omega)]; rfl, by rw [if_neg (by omega)]; rfl, fun j h1 h2 => ?_⟩
                  rcases Nat.lt_or_ge j k with h3 | h3
                  · exact hok.out j h1 h3
                  · obtain rfl : j = k := by omega
                    exact HOK.out
                case measure => simp [intOf]; omega
          · obtain rfl : k = 4 := by omega
            have HF := Lib.hid (HS.out.fin (by omega) hok.out)
            go_wp2
            go_round
            case rel => exact ⟨i + 4, by omega, by go_num, hval.out.trans HF.out⟩
            case measure => simp [intOf]; omega
      · have hr1 : (i : Int) + 4 > (s.size : Int) := by omega
        have HB := Lib.hid (HS.out.short (by omega))
        go_wp2
        go_ret
        exact ⟨by rw [hval.out, HB.out]; rfl, rfl⟩
    · obtain rfl : i = s.size := by omega
      have HE : Hid (Lib.validD s.data.toList = true) := by
        have := hval.out
        rw [List.drop_of_length_le (by omega)] at this
        exact this.trans rfl
      go_wp2
      go_ret
      exact ⟨by rw [HE.out]; rfl, rfl⟩

end Go.Proofs.YtikkfmmdgicigaaDoor
