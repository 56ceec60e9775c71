/- The law ShaNone: a nil Hasher, a nil Keyed; Derive answers new memory. Conditions: a row within the reach. -/
import Derived.Test.YtdgaojibfpafnaaDoorSApart
import Derived.Test.YtdgaojibfpafnaaDoorSSame
namespace Go.Proofs.YtdgaojibfpafnaaDoor
open Go.RowKit

def zeros32 : List UInt8 := List.replicate 32 0

theorem hWrite_nil (v : Value) (w : World) : Calls Tryd.prog 24 #[.pointer none, v] w fun e w' => e = .returned (.tuple #[]) ∧ w = w' := by
  go_enter Tryd.func24, Tryd.ntmps24
  go_wp2
  refine bodyPost_ret (results_none rfl _ _ _) rfl ?_
  exact ⟨rfl, rfl⟩
theorem kWrite_nil (v : Value) (w : World) : Calls Tryd.prog 25 #[.pointer none, v] w fun e w' => e = .returned (.tuple #[]) ∧ w = w' := by
  go_enter Tryd.func25, Tryd.ntmps25
  go_wp2
  refine bodyPost_ret (results_none rfl _ _ _) rfl ?_
  exact ⟨rfl, rfl⟩
theorem hLen_nil (w : World) : Calls Tryd.prog 26 #[.pointer none] w fun e w' => e = .returned (.int .i64 0) ∧ w = w' := by
  go_enter Tryd.func26, Tryd.ntmps26
  go_wp2
  go_ret
  exact ⟨rfl, rfl⟩
theorem kLen_nil (w : World) : Calls Tryd.prog 27 #[.pointer none] w fun e w' => e = .returned (.int .i64 0) ∧ w = w' := by
  go_enter Tryd.func27, Tryd.ntmps27
  go_wp2
  go_ret
  exact ⟨rfl, rfl⟩

theorem built_zeros : Tryd.prog.built 26 [] = some (zeros32.map byteV).toArray := by kernel_rfl

set_option maxRecDepth 100000 in
theorem hSum_nil (w : World) : Calls Tryd.prog 28 #[.pointer none] w fun e w' => e = .returned (digV zeros32) ∧ Only (fun _ => False) w w' := by
  go_enter Tryd.func28, Tryd.ntmps28
  go_wp2_with (first
    | (refine wpList_build_as rfl 26 #[] rfl [] (by simp [go_sem]) (zeros32.map byteV).toArray built_zeros ?_)
    | (refine wpList_store_row rfl 26 (.tmp 2) (.tmp 6) rfl w.heap.size (zeros32.map byteV).toArray rfl rfl 26 (ocells 32 []).toArray (heap_alloc_last _ _) (size_a32 rfl) rfl (oneCell_bytes _) ?_; rw [World.setRow_alloc_new]))
  exact bodyPost_ret (v := digV zeros32) (results_cell_row rfl _ _ w.heap.size 26 _ (0, 0) _ rfl (heap_alloc_last _ _) Tryd.underlying26 rfl (size_a32 rfl)) rfl ⟨rfl, Only.alloc _⟩

set_option maxRecDepth 100000 in
theorem kSum_nil (w : World) : Calls Tryd.prog 29 #[.pointer none] w fun e w' => e = .returned (digV zeros32) ∧ Only (fun _ => False) w w' := by
  go_enter Tryd.func29, Tryd.ntmps29
  go_wp2_with (first
    | (refine wpList_build_as rfl 26 #[] rfl [] (by simp [go_sem]) (zeros32.map byteV).toArray built_zeros ?_)
    | (refine wpList_store_row rfl 26 (.tmp 2) (.tmp 7) rfl w.heap.size (zeros32.map byteV).toArray rfl rfl 26 (ocells 32 []).toArray (heap_alloc_last _ _) (size_a32 rfl) rfl (oneCell_bytes _) ?_; rw [World.setRow_alloc_new]))
  exact bodyPost_ret (v := digV zeros32) (results_cell_row rfl _ _ w.heap.size 26 _ (0, 0) _ rfl (heap_alloc_last _ _) Tryd.underlying26 rfl (size_a32 rfl)) rfl ⟨rfl, Only.alloc _⟩

theorem zeros_neq (w : World) : (binOp .neq 26 (digV zeros32) (.agg #[.int .u8 0, .int .u8 0, .int .u8 0, .int .u8 0, .int .u8 0, .int .u8 0, .int .u8 0, .int .u8 0, .int .u8 0, .int .u8 0, .int .u8 0, .int .u8 0, .int .u8 0, .int .u8 0, .int .u8 0, .int .u8 0, .int .u8 0, .int .u8 0, .int .u8 0, .int .u8 0, .int .u8 0, .int .u8 0, .int .u8 0, .int .u8 0, .int .u8 0, .int .u8 0, .int .u8 0, .int .u8 0, .int .u8 0, .int .u8 0, .int .u8 0, .int .u8 0])).run Tryd.prog w = .ok (.bool false) w := dig_neq (D := zeros32) rfl w

set_option maxRecDepth 100000 in
set_option maxHeartbeats 2000000 in
theorem shaNone_any {w : World} {S : Nat → Prop} {v : Value} {x : List UInt8} (hv : BytesAt w S v x) (hx : x.length ≤ 140737488355328) (hS : ∀ k, S k → k < w.heap.size) (hf : Fst w) (ht : Tab w) :
    Calls Tryd.prog 8 #[v] w fun e w' => e = .returned (.bool true) ∧ Only (fun _ => False) w w' := by
  have HAL := Lib.hid (alive_any hf ht)
  have HV := Lib.hid hv; have HS := Lib.hid hS; have HF := Lib.hid hf; have HT := Lib.hid ht
  obtain ⟨va, vc, rfl⟩ := hv.shape
  have hzn := zeros_neq
  have hgd := dig_guard
  have HLG : Hid (∀ w1, Only (fun _ => False) w w1 → Calls Tryd.prog 10 #[.slice (some ⟨w1.heap.size, 0, none⟩) 1 1] (w1.alloc (.cells #[.slice va x.length vc] 22)) fun e w' => e = .returned (.bool (decide (65536 < x.length))) ∧ w1.alloc (.cells #[.slice va x.length vc] 22) = w') := by
    intro w1 ho
    have h := large_any (one_part (hv.only ho hS (fun _ _ x => x)) (fun k hk => Nat.lt_of_lt_of_le (hS k hk) ho.size)) (by simpa using hx) (by simp)
    have e : tot [x] = x.length := by simp [tot]
    rw [e] at h
    exact h
  clear hv hS hf ht
  by_cases hbig : 65536 < x.length
  · have hd : decide (65536 < x.length) = true := decide_eq_true hbig
    rw [hd] at HLG
    clear hd
    go_enter Tryd.func8, Tryd.ntmps8
    go_wp2_with (first
      | (go_at_call 9; refine HAL.out.mono ?_; rintro e w1 ⟨rfl, ho1⟩; have HO1 := Lib.hid ho1; have HLW := Lib.hid (HLG.out w1 ho1); clear ho1)
      | (go_at_call 10; refine HLW.out.mono ?_; rintro e w' ⟨rfl, rfl⟩))
    go_ret
    exact ⟨rfl, HO1.out.trans (Only.alloc _)⟩
  · have hd : decide (65536 < x.length) = false := decide_eq_false hbig
    rw [hd] at HLG
    clear hd
    have HDER : Hid (∀ w1, Only (fun _ => False) w w1 → Calls Tryd.prog 17 #[.slice va x.length vc, .slice va x.length vc, .slice va x.length vc, .int .i64 40] w1 fun e w' => ∃ a c, e = .returned (.tuple #[.slice a 40 c, .nilIface]) ∧ w'.ownsRow 0 5 1 (.slice a 40 c) 40 ((derived x x x 40).map byteV) ∧ (∀ q, (Value.slice a 40 c).ownBlock = some q → w1.heap.size ≤ q) ∧ Only (fun _ => False) w1 w') := by
      intro w1 ho
      have hv1 := HV.out.only ho HS.out (fun _ _ x => x)
      exact derive_any (n := 40) hv1 hv1 hv1 (fun k hk => Nat.lt_of_lt_of_le (HS.out k hk) ho.size) (by omega) (by omega) (by omega) (by omega) (HF.out.only ho (fun x => x)) (HT.out.only ho (fun x => x))
    go_enter Tryd.func8, Tryd.ntmps8
    go_wp2_with (first
      | (go_at_call 9; refine HAL.out.mono ?_; rintro e w1 ⟨rfl, ho1⟩; have HO1 := Lib.hid ho1; have HLW := Lib.hid (HLG.out w1 ho1); clear ho1)
      | (go_at_call 10; refine HLW.out.mono ?_; rintro e w' ⟨rfl, rfl⟩)
      | (go_at_call 24; refine (hWrite_nil _ _).mono ?_; rintro e w' ⟨rfl, rfl⟩)
      | (go_at_call 25; refine (kWrite_nil _ _).mono ?_; rintro e w' ⟨rfl, rfl⟩)
      | (go_at_call 26; refine (hLen_nil _).mono ?_; rintro e w' ⟨rfl, rfl⟩)
      | (go_at_call 27; refine (kLen_nil _).mono ?_; rintro e w' ⟨rfl, rfl⟩)
      | (go_at_call 28; refine (hSum_nil _).mono ?_; rintro e w2 ⟨rfl, ho2⟩; have HO2 := Lib.hid ((((HO1.out.trans (Only.alloc _)).trans (Only.alloc _)).trans (Only.alloc _)).trans ho2); clear ho2)
      | (go_at_call 29; refine (kSum_nil _).mono ?_; rintro e w3 ⟨rfl, ho3⟩; have HO3 := Lib.hid (HO2.out.trans ho3); have HDW := Lib.hid (HDER.out w3 (HO2.out.trans ho3)); clear ho3))
    refine HDW.out.mono ?_
    rintro e w4 ⟨a4, c4, rfl, hr4, hn4, ho4⟩
    have ho4' := HO3.out.trans ho4
    have HO4 := Lib.hid ho4'; have HR4 := Lib.hid hr4; have HN4 := Lib.hid hn4
    have HDW4 := Lib.hid (HDER.out w4 ho4')
    clear hr4 hn4 ho4 ho4' hzn hgd
    go_wp2_with fail
    refine HDW4.out.mono ?_
    rintro e w5 ⟨a5, c5, rfl, hr5, hn5, ho5⟩
    have hr4 := ownsRow_keep HR4.out (w' := w5) (fun q hq => ho5.block q (HR4.out.lt q hq).2 (fun x => x))
    have ht4 : (convert 22 9 (.slice a4 40 c4)).run Tryd.prog w5 = .ok (.string ⟨(derived x x x 40).toArray⟩) w5 := (BytesAt.of_row hr4).text
    have ht5 : (convert 22 9 (.slice a5 40 c5)).run Tryd.prog w5 = .ok (.string ⟨(derived x x x 40).toArray⟩) w5 := (BytesAt.of_row hr5).text
    have hG := Blk.new w5 [.slice a4 40 c4, .slice a5 40 c5] 22
    have hr : Rows1 (w5.alloc (.cells #[.slice a4 40 c4, .slice a5 40 c5] 22)) w5.heap.size [(.slice a4 40 c4, 40), (.slice a5 40 c5, 40)] 0 := by
      refine ⟨fun i hi => ?_, fun i hi => ?_, hG.lt⟩
      · match i, hi with
        | 0, _ => exact ⟨_, hr4.alloc _, fun h => by omega⟩
        | 1, _ => exact ⟨_, hr5.alloc _, fun h => by omega⟩
      · match i, hi with
        | 0, _ => exact hG.cell 0
        | 1, _ => exact hG.cell 1
    have hdis : Dis w5.heap.size [(.slice a4 40 c4, 40), (.slice a5 40 c5, 40)] := by
      have l4 : ∀ g, (Value.slice a4 40 c4).ownBlock = some g → g < w4.heap.size := fun g hg => (HR4.out.lt g hg).2
      have l5 : ∀ g, (Value.slice a5 40 c5).ownBlock = some g → w4.heap.size ≤ g ∧ g < w5.heap.size := fun g hg => ⟨hn5 g hg, (hr5.lt g hg).2⟩
      have l4' : ∀ g, (Value.slice a4 40 c4).ownBlock = some g → g < w5.heap.size := fun g hg => (hr4.lt g hg).2
      refine ⟨fun i j hi hj hne g h1 h2 => ?_, fun i hi h => ?_, fun i hi => ?_⟩
      · match i, j, hi, hj, hne, h1, h2 with
        | 0, 1, _, _, _, h1, h2 => have a := l4 g h1; have b := (l5 g h2).1; omega
        | 1, 0, _, _, _, h1, h2 => have a := l4 g h2; have b := (l5 g h1).1; omega
        | 0, 0, _, _, hne, _, _ => exact hne rfl
        | 1, 1, _, _, hne, _, _ => exact hne rfl
      · match i, hi, h with
        | 0, _, h => have a := l4' _ h; omega
        | 1, _, h => have a := (l5 _ h).2; omega
      · match i, hi with
        | 0, _ => exact (by decide : 40 ≤ 1048576)
        | 1, _ => exact (by decide : 40 ≤ 1048576)
    have hap := apart_any (c := 2) hr hdis (by simp)
    have HAP := Lib.hid (show Calls Tryd.prog 32 #[.slice (some ⟨w5.heap.size, 0, none⟩) 2 2] (w5.alloc (.cells #[.slice a4 40 c4, .slice a5 40 c5] 22)) _ from hap)
    have hz3 := HO3.out.size
    have hz4 := HO4.out.size
    have HNA : Hid (∀ q, (∃ i, ∃ (h : i < [((Value.slice a4 40 c4), 40), (Value.slice a5 40 c5, 40)].length), [((Value.slice a4 40 c4), 40), (Value.slice a5 40 c5, 40)][i].1.ownBlock = some q) → w.heap.size ≤ q) := by
      rintro q ⟨i, hi, h⟩
      match i, hi, h with
      | 0, _, h => have := HN4.out q h; omega
      | 1, _, h => have := hn5 q h; omega
    have HO5 := Lib.hid (HO4.out.trans ho5)
    clear hr4 hr5 hn5 ho5 hG hr hdis hap hz3 hz4
    go_wp2_with (go_at_call 32; refine HAP.out.mono ?_; rintro e w6 ⟨rfl, ho6⟩; have HO6 := Lib.hid ho6; clear ho6)
    go_ret
    exact ⟨rfl, (HO5.out.trans (Only.alloc _)).andThen HO6.out (fun k hk h => by have := HNA.out k h; omega)⟩

end Go.Proofs.YtdgaojibfpafnaaDoor
