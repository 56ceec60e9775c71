/- (*state).mix: a block is taken into the state. Conditions: none. -/
import Derived.Test.YtgdnmbchhfbjoaaDoorHSpread
namespace Go.Proofs.YtgdnmbchhfbjoaaDoor
open Go.RowKit

/-- The words of a state as cells. -/
def hscells (s : Sh.V8) : List Value := s.list.map wordV

/-- The table of the rounds' words. -/
def Tab (w : World) : Prop := ∀ j, j < 64 → w.cell? ⟨1, j, none⟩ = some (.int .u32 (Sh.ks.getD j 0))

theorem Tab.only {w w' : World} {S : Nat → Prop} (h : Tab w) (ho : Only S w w') (hn : ¬ S 1) : Tab w' := fun j hj => by
  have h1 := h j hj
  rw [World.cell?_of_block (w := w) (ho.block 1 (World.block_lt_of_cell? w _ h1) hn)]
  exact h1

/-- The first i words of xs, those of ys added. -/
def part8 (xs ys : List Int) (i : Nat) : List Int := (List.zipWith (fun x y => Sh.low (x + y)) xs ys).take i ++ xs.drop i

theorem part8_len {xs ys : List Int} (h : xs.length = ys.length) (i : Nat) : (part8 xs ys i).length = xs.length := by
  simp [part8, h]; omega
theorem part8_get {xs ys : List Int} (h : xs.length = ys.length) {i : Nat} (hi : i < xs.length) : (part8 xs ys i)[i]? = some (xs.getD i 0) := by
  unfold part8
  rw [List.getElem?_append_right (by simp; omega)]
  have e : i - ((List.zipWith (fun x y => Sh.low (x + y)) xs ys).take i).length = 0 := by simp; omega
  rw [e]
  simp [hi]
theorem part8_set {xs ys : List Int} (h : xs.length = ys.length) {i : Nat} (hi : i < xs.length) : (part8 xs ys i).set i (Sh.low (xs.getD i 0 + ys.getD i 0)) = part8 xs ys (i + 1) := by
  unfold part8
  have hl : ((List.zipWith (fun x y => Sh.low (x + y)) xs ys).take i).length = i := by simp; omega
  have hy : i < ys.length := by omega
  rw [List.set_append_right _ _ (by omega), hl, Nat.sub_self, List.take_succ_eq_append_getElem (by simp; omega)]
  simp [hi, hy]
  rw [List.drop_eq_getElem_cons hi]
  rfl
theorem part8_all (s v : Sh.V8) : part8 s.list v.list 8 = (Sh.add8 s v).list := by
  simp [part8, Sh.V8.list, Sh.add8]

theorem index8_0 (a b c d e f g h : Int) (w : World) : (Instr.index 102 (.agg #[.int .u32 a, .int .u32 b, .int .u32 c, .int .u32 d, .int .u32 e, .int .u32 f, .int .u32 g, .int .u32 h]) (.int .i64 0)).run Tryd.prog w = .ok (.int .u32 a) w := by kernel_rfl
theorem index8_1 (a b c d e f g h : Int) (w : World) : (Instr.index 102 (.agg #[.int .u32 a, .int .u32 b, .int .u32 c, .int .u32 d, .int .u32 e, .int .u32 f, .int .u32 g, .int .u32 h]) (.int .i64 1)).run Tryd.prog w = .ok (.int .u32 b) w := by kernel_rfl
theorem index8_2 (a b c d e f g h : Int) (w : World) : (Instr.index 102 (.agg #[.int .u32 a, .int .u32 b, .int .u32 c, .int .u32 d, .int .u32 e, .int .u32 f, .int .u32 g, .int .u32 h]) (.int .i64 2)).run Tryd.prog w = .ok (.int .u32 c) w := by kernel_rfl
theorem index8_3 (a b c d e f g h : Int) (w : World) : (Instr.index 102 (.agg #[.int .u32 a, .int .u32 b, .int .u32 c, .int .u32 d, .int .u32 e, .int .u32 f, .int .u32 g, .int .u32 h]) (.int .i64 3)).run Tryd.prog w = .ok (.int .u32 d) w := by kernel_rfl
theorem index8_4 (a b c d e f g h : Int) (w : World) : (Instr.index 102 (.agg #[.int .u32 a, .int .u32 b, .int .u32 c, .int .u32 d, .int .u32 e, .int .u32 f, .int .u32 g, .int .u32 h]) (.int .i64 4)).run Tryd.prog w = .ok (.int .u32 e) w := by kernel_rfl
theorem index8_5 (a b c d e f g h : Int) (w : World) : (Instr.index 102 (.agg #[.int .u32 a, .int .u32 b, .int .u32 c, .int .u32 d, .int .u32 e, .int .u32 f, .int .u32 g, .int .u32 h]) (.int .i64 5)).run Tryd.prog w = .ok (.int .u32 f) w := by kernel_rfl
theorem index8_6 (a b c d e f g h : Int) (w : World) : (Instr.index 102 (.agg #[.int .u32 a, .int .u32 b, .int .u32 c, .int .u32 d, .int .u32 e, .int .u32 f, .int .u32 g, .int .u32 h]) (.int .i64 6)).run Tryd.prog w = .ok (.int .u32 g) w := by kernel_rfl
theorem index8_7 (a b c d e f g h : Int) (w : World) : (Instr.index 102 (.agg #[.int .u32 a, .int .u32 b, .int .u32 c, .int .u32 d, .int .u32 e, .int .u32 f, .int .u32 g, .int .u32 h]) (.int .i64 7)).run Tryd.prog w = .ok (.int .u32 h) w := by kernel_rfl
theorem index8 (v : Sh.V8) : ∀ i : Nat, i < 8 → ∀ w : World, (Instr.index 102 (.agg #[.int .u32 v.a, .int .u32 v.b, .int .u32 v.c, .int .u32 v.d, .int .u32 v.e, .int .u32 v.f, .int .u32 v.g, .int .u32 v.h]) (.int .i64 (i : Int))).run Tryd.prog w = .ok (.int .u32 (v.list.getD i 0)) w
  | 0, _, w => index8_0 _ _ _ _ _ _ _ _ w
  | 1, _, w => index8_1 _ _ _ _ _ _ _ _ w
  | 2, _, w => index8_2 _ _ _ _ _ _ _ _ w
  | 3, _, w => index8_3 _ _ _ _ _ _ _ _ w
  | 4, _, w => index8_4 _ _ _ _ _ _ _ _ w
  | 5, _, w => index8_5 _ _ _ _ _ _ _ _ w
  | 6, _, w => index8_6 _ _ _ _ _ _ _ _ w
  | 7, _, w => index8_7 _ _ _ _ _ _ _ _ w

set_option maxRecDepth 100000 in
set_option maxHeartbeats 2000000 in
theorem mix_any {w : World} {b o b2 o2 : Nat} {s : Sh.V8} {blk : List UInt8} {L : List Value} {ty : TypeId} (hblk : Blk w b L ty) (hs : ∀ j v, (hscells s)[j]? = some v → L[o + j]? = some v) (hr : w.rangeAt b2 o2 (blk.map byteV)) (hl : blk.length = 64) (htab : Tab w) :
    Calls Tryd.prog 74 #[.pointer (some ⟨b, o, none⟩), .pointer (some ⟨b2, o2, none⟩)] w fun e w' => e = .returned (.tuple #[]) ∧ Blk w' b (splice L o (hscells (Sh.compress s blk))) ty ∧ Only (fun k => k = b) w w' := by
  have HSP := Lib.hid (spread_any hr hl)
  have HBLK := Lib.hid hblk
  have HTAB := Lib.hid htab
  have HONE := Lib.hid (oneCell_words (Sh.sched blk))
  have esz : ((Sh.sched blk).map wordV).toArray.size = 64 := by simp [sched_len]
  have HSZ := Lib.hid (show (Tryd.prog.info? 101).map (·.size) = some ((Sh.sched blk).map wordV).toArray.size by rw [esz]; kernel_rfl)
  have hwz : (wcells []).toArray.size = ((Sh.sched blk).map wordV).toArray.size := by
    rw [esz]; simp [wcells]
  have HWZ := Lib.hid hwz
  obtain ⟨A, hA⟩ : ∃ A, ((Sh.sched blk).map wordV).toArray = A := ⟨_, rfl⟩
  have HA := Lib.hid hA
  rw [hA] at HSP HONE HSZ HWZ
  clear hblk htab hr hl esz hwz hA
  go_enter Tryd.func74, Tryd.ntmps74
  go_wp2_with (first
    | (go_at_call 78; refine HSP.out.mono ?_; rintro e w1 ⟨rfl, ho1⟩; have HO1 := Lib.hid ho1; clear ho1)
    | (refine wpList_store_row rfl 101 (.tmp 4) (.tmp 21) rfl w1.heap.size A rfl rfl 101 (wcells []).toArray (heap_alloc_last _ _) HSZ.out HWZ.out HONE.out ?_))
  generalize hw2 : ((w1.alloc _).setRow w1.heap.size A) = w2
  have e2 : w2 = w1.alloc (.cells A 101) := by rw [← hw2]; exact World.setRow_alloc_new _ _ _ _
  have hA2 : w2.heap[w1.heap.size]? = some (.cells A 101 (0, 0)) := by rw [e2]; exact heap_alloc_last _ _
  have ho2 : Only (fun _ => False) w w2 := by rw [e2]; exact HO1.out.trans (Only.alloc _)
  clear hw2 e2
  have hb2 := HBLK.out.keep ho2 (fun x => x)
  have ht2 := HTAB.out.only ho2 (fun x => x)
  have hz2 : w.heap.size ≤ w1.heap.size := HO1.out.size
  have hbl := HBLK.out.lt
  have HO2 := Lib.hid ho2; have HB2 := Lib.hid hb2; have HT2 := Lib.hid ht2; have HA2 := Lib.hid hA2
  have c0 : w2.cell? ⟨b, o, none⟩ = some (.int .u32 s.a) := by rw [hb2.cell]; exact hs 0 _ rfl
  have c1 : w2.cell? ⟨b, o + 1, none⟩ = some (.int .u32 s.b) := by rw [hb2.cell]; exact hs 1 _ rfl
  have c2 : w2.cell? ⟨b, o + 2, none⟩ = some (.int .u32 s.c) := by rw [hb2.cell]; exact hs 2 _ rfl
  have c3 : w2.cell? ⟨b, o + 3, none⟩ = some (.int .u32 s.d) := by rw [hb2.cell]; exact hs 3 _ rfl
  have c4 : w2.cell? ⟨b, o + 4, none⟩ = some (.int .u32 s.e) := by rw [hb2.cell]; exact hs 4 _ rfl
  have c5 : w2.cell? ⟨b, o + 5, none⟩ = some (.int .u32 s.f) := by rw [hb2.cell]; exact hs 5 _ rfl
  have c6 : w2.cell? ⟨b, o + 6, none⟩ = some (.int .u32 s.g) := by rw [hb2.cell]; exact hs 6 _ rfl
  have c7 : w2.cell? ⟨b, o + 7, none⟩ = some (.int .u32 s.h) := by rw [hb2.cell]; exact hs 7 _ rfl
  have HS := Lib.hid hs
  clear hs ho2 hb2 ht2 hA2
  go_wp2
  go_quiet (fail)
  have HO3 : Hid (Only (fun _ => False) w2 (w2.drewN nq)) := ⟨rfl, rfl, rfl, Nat.le_refl _, fun _ _ _ => rfl⟩
  clear c0 c1 c2 c3 c4 c5 c6 c7
  generalize w2.drewN nq = w3 at *
  go_wp2
  go_loopw [5, 6, 7, 8, 9, 10, 11, 12, 54] (fun va vb vc vd ve vf vg vh iv wr => ∃ (t : Nat) (v : Sh.V8), t ≤ 64 ∧ v = Sh.rnds Sh.ks (Sh.sched blk) s t ∧ va = .int .u32 v.a ∧ vb = .int .u32 v.b ∧ vc = .int .u32 v.c ∧ vd = .int .u32 v.d ∧ ve = .int .u32 v.e ∧ vf = .int .u32 v.f ∧ vg = .int .u32 v.g ∧ vh = .int .u32 v.h ∧ iv = .int .i64 t ∧ Only (fun _ => False) w2 wr) (fun _ _ _ _ _ _ _ _ iv _ => 64 - (intOf iv).toNat)
  case atStart => exact ⟨0, s, Nat.zero_le _, rfl, rfl, rfl, rfl, rfl, rfl, rfl, rfl, rfl, rfl, HO3.out⟩
  case round =>
    obtain ⟨t, v, ht, hv, rfl, rfl, rfl, rfl, rfl, rfl, rfl, rfl, rfl, ho⟩ := hrel
    have hlk : w1.heap.size < w2.heap.size := lt_of_heap HA2.out
    by_cases hlt : t < 64
    · have ck : wr.cell? ⟨1, t, none⟩ = some (.int .u32 (Sh.ks.getD t 0)) := (HT2.out.only ho (fun x => x)) t hlt
      have cw : wr.cell? ⟨w1.heap.size, t, none⟩ = some (.int .u32 ((Sh.sched blk).getD t 0)) := by
        rw [cell_of (ho.keep HA2.out (fun x => x)), ← HA.out]
        simp [sched_len, hlt, wordV]
      have HV : Hid (Sh.rnds Sh.ks (Sh.sched blk) s (t + 1) = Sh.rnd (Sh.ks.getD t 0) ((Sh.sched blk).getD t 0) v) := by rw [hv]; rfl
      have HO := Lib.hid ho
      have pz : 0 ≤ (t : Int) := by omega
      have mz : (t : Int) < 64 := by omega
      clear hv ho hlk
      generalize Sh.ks.getD t 0 = kt at *
      generalize (Sh.sched blk).getD t 0 = wt at *
      obtain ⟨a, bb, c, d, e, f, g, h⟩ := v
      go_wp2_with (go_at_call 79; refine (rotr_any _ _ (by decide) _).mono ?_; rintro e w' ⟨rfl, rfl⟩)
      go_quiet (fail)
      go_wp2_with (go_at_call 79; refine (rotr_any _ _ (by decide) _).mono ?_; rintro e w' ⟨rfl, rfl⟩)
      go_roundw
      case rel =>
        refine ⟨t + 1, Sh.rnd kt wt ⟨a, bb, c, d, e, f, g, h⟩, by omega, HV.out.symm, ?_⟩
        exact ⟨rfl, rfl, rfl, rfl, rfl, rfl, rfl, rfl, by go_num, HO.out.trans ⟨rfl, rfl, rfl, Nat.le_refl _, fun _ _ _ => rfl⟩⟩
      case measure => simp [intOf]; omega
    · obtain rfl : t = 64 := by omega
      have HV : Hid (Sh.add8 s v = Sh.compress s blk) := by rw [hv]; rfl
      have how : Only (fun k => k = b) w wr := (HO2.out.trans ho).mono (fun _ _ x => x.elim)
      have hbw := HB2.out.keep ho (fun x => x)
      have h8 : (hscells s).length = 8 := rfl
      have hle : o + 8 ≤ L.length := by
        have := HS.out 7 _ rfl
        have := (List.getElem?_eq_some_iff.1 this).1
        omega
      have hsp : splice L o (hscells s) = L := splice_self HS.out (by omega)
      rw [← hsp] at hbw
      have HBW := Lib.hid hbw
      have HOW := Lib.hid how
      have hxs : s.list.length = v.list.length := rfl
      have hix := index8 v
      have HIX := Lib.hid hix
      clear hv hlk ho how hbw hsp hxs hix
      rw [show ((64 : Nat) : Int) = 64 from rfl]
      go_wp2
      go_loopw [128] (fun iv wr => ∃ i : Nat, i ≤ 8 ∧ iv = .int .i64 i ∧ Blk wr b (splice L o ((part8 s.list v.list i).map wordV)) ty ∧ Only (fun k => k = b) w wr) (fun iv _ => 8 - (intOf iv).toNat)
      case atStart => exact ⟨0, Nat.zero_le _, rfl, HBW.out, HOW.out⟩
      case round =>
        obtain ⟨i, hi, rfl, hbk, how⟩ := hrel
        by_cases hlt : i < 8
        · have hp : (part8 s.list v.list i).length = 8 := part8_len (show s.list.length = v.list.length from rfl) i
          have cw : wr.cell? ⟨b, o + i, none⟩ = some (.int .u32 (s.list.getD i 0)) := by
            rw [hbk.cell, splice_get (by rw [List.length_map, hp]; omega) (by rw [List.length_map, hp]; omega), List.getElem?_map, part8_get (xs := s.list) (ys := v.list) rfl hlt]
            rfl
          have cf : wr.frozen? ⟨b, o + i, none⟩ = false := hbk.frozen _
          have hset : Blk (wr.drew.setCell ⟨b, o + i, none⟩ (.int .u32 (Sh.low (s.list.getD i 0 + v.list.getD i 0)))) b (splice L o ((part8 s.list v.list (i + 1)).map wordV)) ty := by
            have := hbk.drew.set (o + i) (wordV (Sh.low (s.list.getD i 0 + v.list.getD i 0)))
            rw [splice_set (by rw [List.length_map, hp]; omega) (by rw [List.length_map, hp]; omega), ← List.map_set, part8_set (xs := s.list) (ys := v.list) rfl hlt] at this
            exact this
          have hos : Only (fun k => k = b) w (wr.drew.setCell ⟨b, o + i, none⟩ (.int .u32 (Sh.low (s.list.getD i 0 + v.list.getD i 0)))) :=
            (how.trans (Only.drew.mono (fun _ _ x => x.elim))).trans (Only.setCell ⟨b, o + i, none⟩ _)
          have HSET := Lib.hid hset; have HOS := Lib.hid hos
          have hix := HIX.out i hlt
          have pz : 0 ≤ (i : Int) := by omega
          have mz : (i : Int) < 8 := by omega
          clear hset hos hbk how hp
          unfold Sh.low at HSET HOS
          generalize s.list.getD i 0 = x at *
          generalize v.list.getD i 0 = y at *
          go_wp2
          go_still_tail 9, (by kernel_rfl)
          change wpList _ _ _ _ _ wr.drew
          have cw' : wr.drew.cell? ⟨b, o + i, none⟩ = some (.int .u32 x) := cw
          have cf' : wr.drew.frozen? ⟨b, o + i, none⟩ = false := cf
          clear cw cf
          generalize wr.drew = w5 at *
          go_wp2
          go_roundw
          case rel => exact ⟨i + 1, by omega, by go_num, HSET.out, HOS.out⟩
          case measure => simp [intOf]; omega
        · obtain rfl : i = 8 := by omega
          rw [part8_all, HV.out] at hbk
          have HBK := Lib.hid hbk; have HOW' := Lib.hid how
          clear hbk how
          go_wp2
          go_end0
          exact ⟨rfl, HBK.out, HOW'.out⟩

end Go.Proofs.YtgdnmbchhfbjoaaDoor
