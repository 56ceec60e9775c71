/- newTaker, newRoller. Conditions: none. -/
import Derived.Test.YtobiajjcnpflgaaRbRoll
namespace Go.Proofs.Ytobiajjcnpflgaa
open Go.RowKit

theorem fold_set7 (off : Nat) : ∀ (vs : List Value) (k : Nat) (cells : Array Value), off + k + vs.length ≤ cells.size →
    ((vs.zipIdx k).foldl (fun (cs : Array Value) (p : Value × Nat) => cs.setIfInBounds (off + p.2) p.1) cells).toList = cells.toList.take (off + k) ++ vs ++ cells.toList.drop (off + k + vs.length)
  | [], k, cells, _ => by simp
  | v :: vs, k, cells, h => by
    rw [List.zipIdx_cons, List.foldl_cons, fold_set7 off vs (k + 1) _ (by simp at h ⊢; omega)]
    simp only [Array.toList_setIfInBounds, List.length_cons] at h ⊢
    have hlt : off + k < cells.toList.length := by simp; omega
    rw [List.drop_set, if_pos (by omega), show off + (k + 1) = off + k + 1 by omega, List.take_succ_eq_append_getElem (by simpa using hlt), List.take_set_of_le (Nat.le_refl _)]
    simp [show off + k + 1 + vs.length = off + k + (vs.length + 1) by omega]

/-- One field of a struct that is built. -/
theorem fill_field {place : Nat → Option (Nat × Nat)} {cells cs : List Value} {i off : Nat} {V : Value} {rest : List (Nat × Value)} (hV : V.cells = cs.toArray) (hp : place i = some (off, cs.length)) (h : off + cs.length ≤ cells.length) :
    Instr.fill place cells.toArray ((i, V) :: rest) = Instr.fill place (cells.take off ++ cs ++ cells.drop (off + cs.length)).toArray rest := by
  have hsz : V.cells.size = cs.length := by rw [hV]; simp
  have e := fold_set7 off cs 0 cells.toArray (by simpa using h)
  have e2 : V.cells.zipIdx.foldl (fun cs (c, j) => cs.setIfInBounds (off + j) c) cells.toArray = (cells.take off ++ cs ++ cells.drop (off + cs.length)).toArray := by
    apply Array.toList_inj.1
    simp only [Nat.add_zero] at e
    rw [← e, hV]
    have e3 : List.mapIdx (fun i a => (a, i)) cs = cs.zipIdx := by
      apply List.ext_getElem?
      intro k
      simp [List.getElem?_mapIdx, List.getElem?_zipIdx]
    simp [Array.zipIdx, e3]
  rw [Instr.fill, hp]
  simp only [hsz]
  rw [if_neg (by simp; omega), e2]

def zTaker : List Value := .int .u64 0 :: .int .i64 0 :: .int .u64 0 :: Rb.zeros 256
def zRoller : List Value := zTaker ++ (.int .i64 0 :: Rb.zeros 256)
def zChunker : List Value := zRoller ++ [.int .i64 0, .int .i64 0, .int .u64 0, .slice none 0 0]
theorem built_taker_as (parts : List (Nat × Value)) : Try.prog.built 68 parts = Instr.fill (#[(0, 1), (1, 1), (2, 1), (3, 256)][·]?) zTaker.toArray parts := by kernel_rfl
theorem built_roller_as (parts : List (Nat × Value)) : Try.prog.built 75 parts = Instr.fill (#[(0, 259), (259, 1), (260, 256)][·]?) zRoller.toArray parts := by kernel_rfl
theorem built_chunker_as (parts : List (Nat × Value)) : Try.prog.built 78 parts = Instr.fill (#[(0, 516), (516, 1), (517, 1), (518, 1), (519, 1)][·]?) zChunker.toArray parts := by kernel_rfl
theorem zero_taker : (∀ w, (zeroValue 68).run Try.prog w = .ok (.agg zTaker.toArray) w) ∧ (Try.prog.info? 68).map (·.size) = some 259 :=
  zero_of_info (v := .agg zTaker.toArray) (n := 259) (by kernel_rfl)
theorem zero_roller : (∀ w, (zeroValue 75).run Try.prog w = .ok (.agg zRoller.toArray) w) ∧ (Try.prog.info? 75).map (·.size) = some 516 :=
  zero_of_info (v := .agg zRoller.toArray) (n := 516) (by kernel_rfl)

theorem zTaker_len : zTaker.length = 259 := by simp [zTaker, Rb.zeros_len]
theorem zRoller_len : zRoller.length = 516 := by simp [zRoller, zTaker_len, Rb.zeros_len]
theorem fill_done (place : Nat → Option (Nat × Nat)) (cells : List Value) : Instr.fill place cells.toArray [] = some cells.toArray := by unfold Instr.fill; rfl

theorem built_taker (a b : Value) (T : List Value) (ha : a.cells = #[a]) (hb : b.cells = #[b]) (hT : T.length = 256) :
    Try.prog.built 68 [(1, a), (2, b), (3, .agg T.toArray)] = some (.int .u64 0 :: a :: b :: T).toArray := by
  rw [built_taker_as]
  rw [fill_field (cs := [a]) (off := 1) ha rfl (by simp [zTaker, Rb.zeros_len])]
  rw [fill_field (cs := [b]) (off := 2) hb rfl (by simp [zTaker, Rb.zeros_len])]
  rw [fill_field (cs := T) (off := 3) rfl (by rw [hT]; rfl) (by simp [zTaker, Rb.zeros_len, hT])]
  rw [fill_done]
  simp [zTaker, Rb.zeros_len, hT]

theorem built_roller (K T : List Value) (a : Value) (hK : K.length = 259) (ha : a.cells = #[a]) (hT : T.length = 256) :
    Try.prog.built 75 [(0, .agg K.toArray), (1, a), (2, .agg T.toArray)] = some (K ++ a :: T).toArray := by
  rw [built_roller_as]
  rw [fill_field (cs := K) (off := 0) rfl (by rw [hK]; rfl) (by rw [zRoller_len, hK]; omega)]
  have e1 : zRoller.take 0 ++ K ++ zRoller.drop (0 + K.length) = K ++ (.int .i64 0 :: Rb.zeros 256) := by
    rw [hK]
    show [] ++ K ++ (zTaker ++ _).drop 259 = _
    rw [List.drop_append_of_le_length (by rw [zTaker_len]; omega), List.drop_of_length_le (by rw [zTaker_len]; omega)]
    simp
  rw [e1, fill_field (cs := [a]) (off := 259) ha rfl (by simp [hK, Rb.zeros_len])]
  have e2 : (K ++ (.int .i64 0 :: Rb.zeros 256)).take 259 ++ [a] ++ (K ++ (.int .i64 0 :: Rb.zeros 256)).drop (259 + [a].length) = K ++ a :: Rb.zeros 256 := by
    rw [List.take_append_of_le_length (by omega), List.take_of_length_le (by omega), List.drop_append, List.drop_of_length_le (by simp; omega), hK]
    simp
  rw [e2, fill_field (cs := T) (off := 260) rfl (by rw [hT]; rfl) (by simp [hK, hT, Rb.zeros_len]), fill_done]
  congr 2
  rw [hT, List.take_append, List.take_of_length_le (by omega), List.drop_of_length_le (by simp [hK, Rb.zeros_len]), hK]
  simp

theorem built_chunker (R : List Value) (a b c : Value) (hR : R.length = 516) (ha : a.cells = #[a]) (hb : b.cells = #[b]) (hc : c.cells = #[c]) :
    Try.prog.built 78 [(0, .agg R.toArray), (1, a), (2, b), (3, c)] = some (R ++ [a, b, c, .slice none 0 0]).toArray := by
  rw [built_chunker_as]
  rw [fill_field (cs := R) (off := 0) rfl (by rw [hR]; rfl) (by simp [zChunker, zRoller_len, hR])]
  have e1 : zChunker.take 0 ++ R ++ zChunker.drop (0 + R.length) = R ++ [.int .i64 0, .int .i64 0, .int .u64 0, .slice none 0 0] := by
    rw [hR]
    show [] ++ R ++ (zRoller ++ _).drop 516 = _
    rw [List.drop_append_of_le_length (by rw [zRoller_len]; omega), List.drop_of_length_le (by rw [zRoller_len]; omega)]
    simp
  rw [e1, fill_field (cs := [a]) (off := 516) ha rfl (by simp [hR])]
  rw [List.take_append_of_le_length (by omega), List.take_of_length_le (by omega), List.drop_append, List.drop_of_length_le (by simp; omega), hR]
  simp only [List.length_singleton, Nat.reduceAdd, Nat.reduceSub, List.drop_succ_cons, List.drop_zero, List.nil_append]
  rw [fill_field (cs := [b]) (off := 517) hb rfl (by simp [hR])]
  rw [List.append_assoc R, List.take_append, List.take_of_length_le (by omega), List.drop_append, List.drop_of_length_le (by simp; omega), hR]
  simp only [List.length_singleton, Nat.reduceAdd, Nat.reduceSub, List.drop_succ_cons, List.drop_zero, List.nil_append, List.cons_append, List.take_succ_cons, List.take_zero, List.append_assoc]
  rw [fill_field (cs := [c]) (off := 518) hc rfl (by simp [hR])]
  rw [List.take_append, List.take_of_length_le (by omega), List.drop_append, List.drop_of_length_le (by simp; omega), hR]
  simp only [List.length_singleton, Nat.reduceAdd, Nat.reduceSub, List.drop_succ_cons, List.drop_zero, List.nil_append, List.cons_append, List.take_succ_cons, List.take_zero, List.append_assoc]
  rw [fill_done]

theorem kcells_one (p d r : Nat) : (kcells p d r).toArray.all (·.oneCell') = true := by
  have := oneCell_tab p (2 ^ d)
  simp [kcells, Value.oneCell'] at this ⊢
  exact this
theorem kcells_as (p d : Nat) : kcells p d 0 = .int .u64 0 :: .int .i64 ((d - 8 : Nat) : Int) :: .int .u64 ((2 ^ d - 1 : Nat) : Int) :: Rb.tab p (2 ^ d) := rfl

set_option maxRecDepth 100000 in
set_option maxHeartbeats 1000000 in
theorem newTaker_any {p d : Nat} (hd : Gf.Top d p) (h8 : 8 ≤ d) (h63 : d ≤ 63) (h64 : p < 18446744073709551616) (w : World) :
    Calls Try.prog 34 #[.int .u64 (p : Int)] w fun e w' => e = .returned (.agg (kcells p d 0).toArray) ∧ Quiet w w' := by
  have HD : Hid (∀ W, Calls Try.prog 32 #[.int .u64 (p : Int)] W fun e w' => e = .returned (.int .i64 (d : Int)) ∧ W = w') := fun W => by
    have := deg_any h64 W
    rw [Gf.len_of hd h64] at this
    simpa using this
  have hp0 : p ≠ 0 := by have := Gf.top_pos hd; omega
  have hB64 : (2 : Nat) ^ d < 18446744073709551616 := by
    have : (2 : Nat) ^ d ≤ 2 ^ 63 := Nat.pow_le_pow_right (by omega) h63
    omega
  have hB0 := Nat.two_pow_pos d
  have HP := Lib.hid (fun W => products_any (f := 2 ^ d) h64 hB64 hp0 W)
  have HBU := Lib.hid (built_taker (.int .i64 ((d - 8 : Nat) : Int)) (.int .u64 ((2 ^ d - 1 : Nat) : Int)) (Rb.tab p (2 ^ d)) rfl rfl (Rb.tab_len _ _))
  rw [← kcells_as] at HBU
  have hz := zero_taker.1
  have HSZ : Hid ((Try.prog.info? 68).map (·.size) = some (kcells p d 0).toArray.size) := by rw [zero_taker.2]; simp [kcells_len, Hid]
  have HWZ : Hid (zTaker.toArray.size = (kcells p d 0).toArray.size) := by simp [kcells_len, zTaker_len, Hid]
  have HONE := Lib.hid (kcells_one p d 0)
  have hpi : (2 : Int) ^ d = ((2 ^ d : Nat) : Int) := (Int.natCast_pow 2 d).symm
  obtain ⟨K, hK⟩ : ∃ K, (kcells p d 0).toArray = K := ⟨_, rfl⟩
  rw [hK] at HBU HSZ HWZ HONE ⊢
  obtain ⟨Z, hZ⟩ : ∃ Z, zTaker.toArray = Z := ⟨_, rfl⟩
  rw [hZ] at hz HWZ
  obtain ⟨T, hT⟩ : ∃ T, d - 8 = T := ⟨_, rfl⟩
  rw [hT] at HBU
  have hTi : (d : Int) - 8 = (T : Int) := by omega
  generalize Rb.tab p (2 ^ d) = TT at *
  generalize hB : (2 : Nat) ^ d = B at *
  have hBi : (B : Int) - 1 = ((B - 1 : Nat) : Int) := by omega
  clear hK hZ hd hT hB
  go_enter Try.func34, Try.ntmps34
  go_wp2_with fail
  refine (HD.out _).mono ?_
  rintro e w1 ⟨rfl, rfl⟩
  go_wp2_with fail
  refine (HP.out _).mono ?_
  rintro e w2 ⟨rfl, hq⟩
  have HB := Lib.hid (hq.keep (heap_alloc_self w _) (fun x => x))
  have HO := Lib.hid ((Only.alloc _).trans hq)
  have HFIN : Hid ((w2.setRow w.heap.size K).heap[w.heap.size]? = some (.cells K 68 (0, 0)) ∧ Quiet w (w2.setRow w.heap.size K)) :=
    ⟨setRow_heap w2 _ _ _ _ _ HB.out, HO.out.andThen (Only.setRow _ _) (fun k hk e => by omega)⟩
  clear hq
  go_wp2_with (first
    | (refine wpList_build_as rfl 68 #[(1, .tmp 10), (2, .tmp 12), (3, .tmp 15)] rfl [(1, .int .i64 (T : Int)), (2, .int .u64 ((B - 1 : Nat) : Int)), (3, .agg TT.toArray)] (by simp [go_sem]) _ HBU.out ?_)
    | (refine wpList_store_row rfl 68 (.tmp 2) (.tmp 16) rfl w.heap.size K rfl rfl 68 Z HB.out HSZ.out HWZ.out HONE.out ?_))
  exact bodyPost_ret (v := .agg K) (results_cell_row rfl _ _ w.heap.size 68 K (0, 0) _ rfl HFIN.out.1 Try.underlying68 rfl HSZ.out) rfl ⟨rfl, HFIN.out.2⟩

/-- A roller's cells. -/
noncomputable def rcells (c : Rb.Cfg) : List Value := kcells c.p c.d 0 ++ (.int .i64 (c.win : Int) :: Rb.tab c.p c.first)
theorem rcells_len (c : Rb.Cfg) : (rcells c).length = 516 := by simp [rcells, kcells_len, Rb.tab_len]
theorem rcells_one (c : Rb.Cfg) : (rcells c).toArray.all (·.oneCell') = true := by
  have h1 := oneCell_tab c.p c.first
  have h2 := kcells_one c.p c.d 0
  simp only [List.all_toArray] at h1 h2 ⊢
  unfold rcells
  rw [List.all_append, h2, List.all_cons, h1]
  rfl

set_option maxRecDepth 100000 in
set_option maxHeartbeats 1000000 in
theorem newRoller_any {c : Rb.Cfg} (hc : c.Ok) (w : World) :
    Calls Try.prog 38 #[.int .u64 (c.p : Int), .int .i64 (c.win : Int)] w fun e w' => e = .returned (.agg (rcells c).toArray) ∧ Quiet w w' := by
  have w1 := hc.w1
  have w64 := hc.w64
  have HPW := Lib.hid (fun W => power_any (n := 8 * (c.win - 1)) hc.p64 hc.p0 (by omega) W)
  have HNT := Lib.hid (fun W => newTaker_any hc.top hc.d8 (by have := hc.d55; omega) hc.p64 W)
  have HP := Lib.hid (fun W => products_any (f := c.first) hc.p64 (Gf.rm_64 _ hc.p64) hc.p0 W)
  have HBU := Lib.hid (built_roller (kcells c.p c.d 0) (Rb.tab c.p c.first) (.int .i64 (c.win : Int)) (kcells_len _ _ _) rfl (Rb.tab_len _ _))
  have hz := zero_roller.1
  have HSZ : Hid ((Try.prog.info? 75).map (·.size) = some (rcells c).toArray.size) := by rw [zero_roller.2]; simp [rcells_len, Hid]
  have HWZ : Hid (zRoller.toArray.size = (rcells c).toArray.size) := by simp [rcells_len, zRoller_len, Hid]
  have HONE := Lib.hid (rcells_one c)
  change Hid (Try.prog.built 75 _ = some (rcells c).toArray) at HBU
  change Hid (∀ W, Calls _ _ _ W fun e w' => e = .returned (.tuple #[.int .u64 (c.first : Int), .nilIface]) ∧ Quiet W w') at HPW
  obtain ⟨N, hN⟩ : ∃ N, 8 * (c.win - 1) = N := ⟨_, rfl⟩
  have hNi : 8 * ((c.win : Int) - 1) = (N : Int) := by omega
  rw [hN] at HPW
  generalize (rcells c).toArray = R at *
  obtain ⟨Z, hZ⟩ : ∃ Z, zRoller.toArray = Z := ⟨_, rfl⟩
  rw [hZ] at hz HWZ
  generalize Rb.tab c.p c.first = TT at *
  generalize kcells c.p c.d 0 = KK at *
  generalize c.first = F at *
  generalize c.p = p at *
  generalize c.win = q at *
  clear hZ hN hc
  go_enter Try.func38, Try.ntmps38
  go_wp2_with fail
  refine (HPW.out _).mono ?_
  rintro e w2 ⟨rfl, hq⟩
  have HB := Lib.hid (hq.keep (heap_alloc_self w _) (fun x => x))
  have HO := Lib.hid ((Only.alloc _).trans hq)
  clear hq
  go_wp2_with fail
  refine (HNT.out _).mono ?_
  rintro e w3 ⟨rfl, hq⟩
  have HB3 := Lib.hid (hq.keep HB.out (fun x => x))
  have HO3 := Lib.hid (HO.out.trans hq)
  clear hq
  go_wp2_with fail
  refine (HP.out _).mono ?_
  rintro e w4 ⟨rfl, hq⟩
  have HB4 := Lib.hid (hq.keep HB3.out (fun x => x))
  have HO4 := Lib.hid (HO3.out.trans hq)
  clear hq
  have HFIN : Hid ((w4.setRow w.heap.size R).heap[w.heap.size]? = some (.cells R 75 (0, 0)) ∧ Quiet w (w4.setRow w.heap.size R)) :=
    ⟨setRow_heap w4 _ _ _ _ _ HB4.out, HO4.out.andThen (Only.setRow _ _) (fun k hk e => by omega)⟩
  go_wp2_with (first
    | (refine wpList_build_as rfl 75 #[(0, .tmp 16), (1, .tmp 17), (2, .tmp 20)] rfl [(0, .agg KK.toArray), (1, .int .i64 (q : Int)), (2, .agg TT.toArray)] (by simp [go_sem]) _ HBU.out ?_)
    | (refine wpList_store_row rfl 75 (.tmp 4) (.tmp 21) rfl w.heap.size R rfl rfl 75 Z HB4.out HSZ.out HWZ.out HONE.out ?_))
  exact bodyPost_ret (v := .agg R) (results_cell_row rfl _ _ w.heap.size 75 R (0, 0) _ rfl HFIN.out.1 Try.underlying75 rfl HSZ.out) rfl ⟨rfl, HFIN.out.2⟩

end Go.Proofs.Ytobiajjcnpflgaa
