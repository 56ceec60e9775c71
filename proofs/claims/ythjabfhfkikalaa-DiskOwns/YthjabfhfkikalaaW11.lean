/- fits, Append. Conditions: counts far from an int's end; names no longer than Go's own limit. -/
import Derived.Test.YthjabfhfkikalaaRange
import Derived.Deep.RegionWith
import Derived.IntWalk
namespace Go.Proofs.Ythjabfhfkikalaa
open Go.RowKit Go.Maps Go.WideMaps

/-- Parts as a slice of slices: the i-th is p[i]. -/
def PartsAt (w : World) (v : Value) (ls : List Nat) : Prop :=
  (v = .slice none 0 0 ∧ ls = []) ∨ ∃ g cap, v = .slice (some ⟨g, 0, none⟩) ls.length cap ∧ ∀ i n, ls[i]? = some n → ∃ a c, w.cell? ⟨g, i, none⟩ = some (.slice a n c)

def lenAt (w : World) (B : Nat) : Nat := match w.cell? ⟨B, 0, none⟩ with | some (.slice _ n _) => n | _ => 0

theorem St_used_le {s : Dm.St} (hwf : s.WF) : s.used ≤ 4096 * 140737488355328 := by
  unfold Dm.St.used
  refine Nat.le_trans (sum_le (fun i => (s.dataOf i).length) 140737488355328 s.dir fun p hp => ?_) (Nat.mul_le_mul_right _ hwf.dir.len)
  have hi := hwf.dir.id p hp
  have hf : s.files[p.2]? = some s.files[p.2] := List.getElem?_eq_getElem hi
  have := (hwf.fil _ (List.getElem_mem hi)).len
  simpa [Dm.St.dataOf, hf] using this

theorem used_rep {w : World} {b : Nat} {ρ : Roles} {L : Lay} {s : Dm.St} (h : Rep w b ρ L s) (hwf : s.WF) :
    Calls Try.prog 56 #[.map (some L.dir)] w fun e w' => e = .returned (.int .i64 (s.used : Nat)) ∧ Only (fun _ => False) w w' := by
  have hsum : ∀ ln : Nat → Nat, (∀ p ∈ s.dir, ln (blkOf L.fls p.2) = (s.dataOf p.2).length) → ((phys L.fls s.dir).map fun p => ln p.2).sum = s.used := by
    intro ln hl
    unfold phys Dm.St.used
    rw [List.map_map]
    congr 1
    exact List.map_congr_left hl
  have key : ∀ p ∈ s.dir, ∃ a n cap, w.cell? ⟨blkOf L.fls p.2, 0, none⟩ = some (.slice a n cap) ∧ n = (s.dataOf p.2).length ∧ n ≤ 140737488355328 := by
    intro p hp
    have hi := hwf.dir.id p hp
    obtain ⟨f, hf⟩ : ∃ f, s.files[p.2]? = some f := ⟨_, List.getElem?_eq_getElem hi⟩
    obtain ⟨fl, h1, h2⟩ := h.files p.2 f hf
    obtain ⟨a, cap, hv⟩ := row_shape h2.row
    refine ⟨a, f.data.length, cap, ?_, by simp [Dm.St.dataOf, hf], (hwf.fil f (List.mem_of_getElem? hf)).len⟩
    rw [blkOf_some h1, cell_of h2.blk, hv]; rfl
  -- the length that a block's slice has
  have := used_any h.dir (lenAt w) ?_ ?_ (by rw [length_phys]; exact hwf.dir.len)
  · rw [hsum (lenAt w)] at this
    · exact this
    · intro p hp
      obtain ⟨a, n, cap, h1, h2, _⟩ := key p hp
      simp only [lenAt, h1]
      exact h2
  · intro q hq
    obtain ⟨p, hp, rfl⟩ := List.mem_map.1 hq
    obtain ⟨a, n, cap, h1, h2, _⟩ := key p hp
    exact ⟨a, cap, by simp only [lenAt, h1]⟩
  · intro q hq
    obtain ⟨p, hp, rfl⟩ := List.mem_map.1 hq
    obtain ⟨a, n, cap, h1, h2, h3⟩ := key p hp
    simp only [lenAt, h1]
    exact h3

theorem take_sum {ls : List Nat} {k : Nat} (h : k < ls.length) : (ls.take (k + 1)).sum = (ls.take k).sum + ls[k] := by
  rw [List.take_succ_eq_append_getElem h, List.sum_append]; rfl
theorem take_sum_le (ls : List Nat) (k : Nat) : (ls.take k).sum ≤ ls.sum := by
  have h := congrArg List.sum (List.take_append_drop k ls)
  rw [List.sum_append] at h
  omega

set_option maxRecDepth 100000 in
set_option maxHeartbeats 1000000 in
theorem fits_some {w : World} {b : Nat} {ρ : Roles} {L : Lay} {s : Dm.St} (h : Rep w b ρ L s) (hwf : s.WF) (g cap : Nat) (ls : List Nat) (hg : g < w.heap.size) (hls : ls.length < 2 ^ 32) (hlb : ∀ n ∈ ls, n ≤ 140737488355328) (hc : ∀ i n, ls[i]? = some n → ∃ a c, w.cell? ⟨g, i, none⟩ = some (.slice a n c)) :
    Calls Try.prog 49 #[.pointer (some ⟨b, 0, none⟩), .slice (some ⟨g, 0, none⟩) ls.length cap] w fun e w' => e = .returned (.bool (decide (s.used + ls.sum ≤ s.size))) ∧ Only (fun _ => False) w w' := by
  have hu := used_rep (w := w.drew) (h.only_none Only.drew) hwf
  have hc5 := h.blk.c5
  have hc6 := h.blk.c6
  have hbl := h.blk.lt
  have hus : s.used ≤ 4096 * 140737488355328 := St_used_le hwf
  have hsz := hwf.size
  have HC := Lib.hid hc
  have HLB := Lib.hid hlb
  generalize s.used = us at *
  generalize s.size = sz at *
  clear h hwf hc hlb
  have hsz' : (sz : Int) ≤ 67108864 := by omega
  have hus' : (us : Int) ≤ 4096 * 140737488355328 := by omega
  have hwr : IntKind.i64.wrap ((sz : Int) - us) = (sz : Int) - us := IntWalk.i64_in _ (by omega)
  go_enter Try.func49, Try.ntmps49
  go_wp2
  go_region_with (first | (go_at_call 56; refine hu.mono ?_; rintro e w1 ⟨rfl, ho⟩; have hx := ho.block b hbl (fun h => h); have hc5' := (World.cell?_of_block (a := ⟨b, 5, none⟩) (w := w.drew) hx).trans hc5; have HO := Lib.hid ho; clear ho hx))
  all_goals
    clear hwr hc5' hu
    go_wp2
    go_loopw [5, 20] (fun r i w' => ∃ (k : Nat) (room : Int), w' = w1 ∧ k ≤ ls.length ∧ i = .int .i64 k ∧ r = .int .i64 room ∧ room = (sz : Int) - us - (ls.take k).sum ∧ room ≤ 67108864 ∧ -576460752303423488 ≤ room) (fun _ i _ => ls.length - (intOf i).toNat)
    case atStart => exact ⟨0, _, rfl, Nat.zero_le _, rfl, rfl, by simp, by omega, by omega⟩
    case round =>
      obtain ⟨k, room, rfl, hk, rfl, rfl, hrm, hr1, hr2⟩ := hrel
      have HRM := Lib.hid hrm; clear hrm
      by_cases hlt : k < ls.length
      · obtain ⟨a, c, hcell⟩ := HC.out k ls[k] (List.getElem?_eq_getElem hlt)
        have hle := HLB.out ls[k] (List.getElem_mem hlt)
        have hcell' : wr.cell? ⟨g, k, none⟩ = some (.slice a ls[k] c) := by
          rw [World.cell?_of_block (w := w.drew) (HO.out.block g hg (fun h => h))]; exact hcell
        have hts : (ls.take (k + 1)).sum = (ls.take k).sum + ls[k] := take_sum hlt
        have hsum : (ls.take (k + 1)).sum ≤ ls.sum := take_sum_le _ _
        have HTS := Lib.hid hts; have HSUM := Lib.hid hsum
        generalize ls[k] = x at *
        clear hcell hts hsum
        by_cases hgt : room < (x : Int)
        · have HE : Hid (decide (us + ls.sum ≤ sz) = false) := by
            have := HRM.out; have := HTS.out; have := HSUM.out
            unfold Hid; simp; omega
          go_wp2
          go_ret
          exact ⟨by rw [HE.out]; rfl, Only.drew.trans HO.out⟩
        · have hge : (x : Int) ≤ room := by omega
          have hxi : (x : Int) ≤ 140737488355328 := by omega
          go_wp2
          go_roundw
          case rel => exact ⟨k + 1, room - x, trivial, by omega, by go_num, rfl, by have := HRM.out; have := HTS.out; omega, by omega, by omega⟩
          case measure => simp [intOf]; omega
      · have HE : Hid (decide (us + ls.sum ≤ sz) = decide (0 ≤ room)) := by
          have := HRM.out
          rw [List.take_of_length_le (by omega)] at this
          unfold Hid
          rw [decide_eq_decide]
          omega
        go_wp2
        go_ret
        exact ⟨by rw [HE.out]; rfl, Only.drew.trans HO.out⟩

end Go.Proofs.Ythjabfhfkikalaa
