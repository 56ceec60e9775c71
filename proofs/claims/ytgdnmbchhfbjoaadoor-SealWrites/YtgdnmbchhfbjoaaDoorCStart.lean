/- chacha.start: what every block of a key and a nonce begins as. Conditions: the key has 32 bytes, the nonce 12. -/
import Derived.Test.YtgdnmbchhfbjoaaDoorCWord
namespace Go.Proofs.YtgdnmbchhfbjoaaDoor
open Go.RowKit

/-- Sixteen words, of which the first are ws. -/
def zpad (ws : List Int) : List Int := ws ++ List.replicate (16 - ws.length) 0

theorem zpad_set (ws : List Int) (v : Int) (h : ws.length < 16) : (zpad ws).set ws.length v = zpad (ws ++ [v]) := by
  unfold zpad
  rw [List.set_append_right _ _ (Nat.le_refl _)]
  simp only [Nat.sub_self, List.append_assoc, List.length_append, List.length_cons, List.length_nil]
  congr 1
  obtain ⟨k, hk⟩ : ∃ k, 16 - ws.length = k + 1 := ⟨15 - ws.length, by omega⟩
  rw [hk, show 16 - (ws.length + (0 + 1)) = k by omega]
  simp [List.replicate_succ]
theorem zpad_length {ws : List Int} (h : ws.length ≤ 16) : (zpad ws).length = 16 := by simp [zpad]; omega
theorem zpad_zero (ws : List Int) (h : ws.length < 16) : zpad (ws ++ [0]) = zpad ws := by
  rw [← zpad_set ws 0 h]
  unfold zpad
  rw [List.set_append_right _ _ (Nat.le_refl _), Nat.sub_self]
  obtain ⟨k, hk⟩ : ∃ k, 16 - ws.length = k + 1 := ⟨15 - ws.length, by omega⟩
  rw [hk]
  simp [List.replicate_succ]
theorem zpad_full {ws : List Int} (h : ws.length = 16) : zpad ws = ws := by simp [zpad, h]

/-- The words as far as i of the key's are laid. -/
def keyed (key : List UInt8) (i : Nat) : List Int := Ch.four ++ (List.range i).map (Ch.wordAt key)
/-- The words as far as i of the nonce's are laid. -/
def nonced (key nonce : List UInt8) (i : Nat) : List Int := keyed key 8 ++ (0 :: (List.range i).map (Ch.wordAt nonce))

theorem keyed_length (key : List UInt8) (i : Nat) : (keyed key i).length = 4 + i := by simp [keyed, Ch.four]; omega
theorem nonced_length (key nonce : List UInt8) (i : Nat) : (nonced key nonce i).length = 13 + i := by simp [nonced, keyed_length]; omega
theorem keyed_succ (key : List UInt8) (i : Nat) : keyed key (i + 1) = keyed key i ++ [Ch.wordAt key i] := by simp [keyed, List.range_succ]
theorem nonced_succ (key nonce : List UInt8) (i : Nat) : nonced key nonce (i + 1) = nonced key nonce i ++ [Ch.wordAt nonce i] := by simp [nonced, List.range_succ]
theorem nonced_zero (key nonce : List UInt8) : zpad (nonced key nonce 0) = zpad (keyed key 8) := by
  have := zpad_zero (keyed key 8) (by rw [keyed_length]; omega)
  simpa [nonced] using this
theorem nonced_all (key nonce : List UInt8) : zpad (nonced key nonce 3) = Ch.start key nonce 0 := by
  rw [zpad_full (nonced_length _ _ _)]
  simp [nonced, keyed, Ch.start]

/-- What the loops of start keep. -/
structure Sta (w wr : World) (key nonce : List UInt8) (ws : List Int) : Prop where
  kb : Blk wr w.heap.size (key.map byteV) 22
  nb : Blk wr (w.heap.size + 1) (nonce.map byteV) 64
  rb : Blk wr (w.heap.size + 1 + 1) ((zpad []).map wordV) 94
  row : WordsAt wr (w.heap.size + 1 + 1 + 1) (zpad ws) 94
  only : Only (fun _ => False) w wr

theorem Sta.drewN {w wr : World} {key nonce : List UInt8} {ws : List Int} (h : Sta w wr key nonce ws) (n : Nat) : Sta w (wr.drewN n) key nonce ws :=
  ⟨h.kb.drewN n, h.nb.drewN n, h.rb.drewN n, h.row.drewN n, h.only.andThen (Only.drewN n) (fun _ _ x => x)⟩
theorem Sta.step {w wr : World} {key nonce : List UInt8} {ws : List Int} (h : Sta w wr key nonce ws) {t : Nat} (ht : ws.length = t) (hl : t < 16) (v : Int) : Sta w (wr.setCell ⟨w.heap.size + 1 + 1 + 1, t, none⟩ (.int .u32 v)) key nonce (ws ++ [v]) := by
  subst ht
  refine ⟨h.kb.setNe _ _ (by show _ ≠ w.heap.size + 1 + 1 + 1; omega), h.nb.setNe _ _ (by show _ ≠ w.heap.size + 1 + 1 + 1; omega), h.rb.setNe _ _ (by show _ ≠ w.heap.size + 1 + 1 + 1; omega), ?_, h.only.andThen (Only.setCell ⟨w.heap.size + 1 + 1 + 1, ws.length, none⟩ _) (fun k hk e => by simp at e; omega)⟩
  have := h.row.set ws.length v
  rwa [zpad_set _ _ hl] at this

theorem byte_cell {w : World} {g : Nat} {bs : List UInt8} {t : TypeId} (h : Blk w g (bs.map byteV) t) {j : Nat} (hj : j < bs.length) : w.cell? ⟨g, j, none⟩ = some (byteV (bs.getD j 0)) := by
  rw [h.cell]; simp [hj]

theorem word_in {w : World} {g n : Nat} {bs : List UInt8} {t : TypeId} (h : Blk w g (bs.map byteV) t) (hn : bs.length = n) {i : Nat} (hi : 4 * i + 3 < n) :
    Calls Tryd.prog 70 #[.slice (some ⟨g, 4 * i, none⟩) (n - 4 * i) (n - 4 * i)] w fun e w' => e = .returned (.int .u32 (Ch.wordAt bs i)) ∧ ∃ m, w' = w.drewN m :=
  word_any (byte_cell h (by omega)) (byte_cell h (by omega)) (byte_cell h (by omega)) (byte_cell h (by omega)) (by omega)

theorem slice_key (g i : Nat) (hi : i < 8) (w : World) : (Instr.sliceAt 22 (.pointer (some ⟨g, 0, none⟩)) (some (.int .i64 (4 * (i : Int)))) none none).run Tryd.prog w = .ok (.slice (some ⟨g, 4 * i, none⟩) (32 - 4 * i) (32 - 4 * i)) w := by
  rw [run_sliceAt_array_l (ht := by kernel_rfl) (h0 := by omega) (h1 := by rw [show Tryd.prog.arrayLen 22 = 32 by kernel_rfl]; omega)]
  have hsz : (sizeOf (Tryd.prog.elem 22)).run Tryd.prog w = .ok 1 w := by kernel_rfl
  rw [hsz, show Tryd.prog.arrayLen 22 = 32 by kernel_rfl, show (4 * (i : Int)).toNat = 4 * i by omega]
  have h32 : ¬ 32 = 4 * i := by omega
  simp only [Result.andThen, slicedAt, h32, if_false, Nat.mul_one, add_lit, Nat.zero_add]
theorem slice_nonce (g i : Nat) (hi : i < 3) (w : World) : (Instr.sliceAt 64 (.pointer (some ⟨g, 0, none⟩)) (some (.int .i64 (4 * (i : Int)))) none none).run Tryd.prog w = .ok (.slice (some ⟨g, 4 * i, none⟩) (12 - 4 * i) (12 - 4 * i)) w := by
  rw [run_sliceAt_array_l (ht := by kernel_rfl) (h0 := by omega) (h1 := by rw [show Tryd.prog.arrayLen 64 = 12 by kernel_rfl]; omega)]
  have hsz : (sizeOf (Tryd.prog.elem 64)).run Tryd.prog w = .ok 1 w := by kernel_rfl
  rw [hsz, show Tryd.prog.arrayLen 64 = 12 by kernel_rfl, show (4 * (i : Int)).toNat = 4 * i by omega]
  have h32 : ¬ 12 = 4 * i := by omega
  simp only [Result.andThen, slicedAt, h32, if_false, Nat.mul_one, add_lit, Nat.zero_add]

/-- Words as a value. -/
def wordsV (ws : List Int) : Value := .agg (ws.map wordV).toArray
theorem size_words {ws : List Int} (h : ws.length = 16) : (Tryd.prog.info? 94).map (·.size) = some (ws.map wordV).toArray.size := by
  have e : (ws.map wordV).toArray.size = 16 := by simp [h]
  have e2 : (Tryd.prog.info? 94).map (·.size) = some 16 := by kernel_rfl
  rw [e, e2]

set_option maxRecDepth 100000 in
set_option maxHeartbeats 1000000 in
theorem start_any {w : World} {key nonce : List UInt8} (hk : key.length = 32) (hn : nonce.length = 12) :
    Calls Tryd.prog 58 #[digV key, digV nonce] w fun e w' => e = .returned (wordsV (Ch.start key nonce 0)) ∧ Only (fun _ => False) w w' := by
  have HK := Lib.hid hk; have HN := Lib.hid hn
  clear hk hn
  unfold digV wordsV
  go_enter Tryd.func58, Tryd.ntmps58
  go_wp2
  have HST : Hid (Sta w ((((w.alloc (.cells (key.map byteV).toArray 22)).alloc (.cells (nonce.map byteV).toArray 64)).alloc (.cells ((zpad []).map wordV).toArray 94)).alloc (.cells ((zpad (keyed key 0)).map wordV).toArray 94)) key nonce (keyed key 0)) := by
    refine ⟨(((Blk.new _ _ _).alloc _).alloc _).alloc _, ?_, ?_, ⟨?_, zpad_length (by rw [keyed_length]; omega)⟩, (((Only.alloc _).trans (Only.alloc _)).trans (Only.alloc _)).trans (Only.alloc _)⟩
    · have := Blk.new (w.alloc (.cells (key.map byteV).toArray 22)) (nonce.map byteV) 64
      rw [World.size_alloc] at this
      exact (this.alloc _).alloc _
    · have := Blk.new ((w.alloc (.cells (key.map byteV).toArray 22)).alloc (.cells (nonce.map byteV).toArray 64)) ((zpad []).map wordV) 94
      rw [World.size_alloc, World.size_alloc] at this
      exact this.alloc _
    · have := Blk.new (((w.alloc (.cells (key.map byteV).toArray 22)).alloc (.cells (nonce.map byteV).toArray 64)).alloc (.cells ((zpad []).map wordV).toArray 94)) ((zpad (keyed key 0)).map wordV) 94
      rw [World.size_alloc, World.size_alloc, World.size_alloc] at this
      exact this
  go_loopw [9] (fun iv wr => ∃ i : Nat, i ≤ 8 ∧ iv = .int .i64 i ∧ Sta w wr key nonce (keyed key i)) (fun iv _ => 8 - (intOf iv).toNat)
  case atStart => exact ⟨0, Nat.zero_le _, rfl, HST.out⟩
  case round =>
    obtain ⟨i, hi, rfl, hs⟩ := hrel
    by_cases hlt : i < 8
    · have HWD := Lib.hid (word_in hs.kb HK.out (i := i) (by omega))
      have hsl := slice_key w.heap.size i hlt
      have HNX : Hid (∀ m, (wr.drewN m).frozen? ⟨w.heap.size + 1 + 1 + 1, 4 + i, none⟩ = false ∧ (wr.drewN m).cell? ⟨w.heap.size + 1 + 1 + 1, 4 + i, none⟩ = some (.int .u32 ((zpad (keyed key i)).getD (4 + i) 0)) ∧ Sta w ((wr.drewN m).setCell ⟨w.heap.size + 1 + 1 + 1, 4 + i, none⟩ (.int .u32 (Ch.wordAt key i))) key nonce (keyed key (i + 1))) := by
        intro m
        have h1 := hs.drewN m
        refine ⟨h1.row.blk.frozen _, h1.row.cell (by omega), ?_⟩
        rw [keyed_succ]
        exact h1.step (by rw [keyed_length]) (by omega) _
      have w0 : IntKind.i64.wrap (4 * (i : Int)) = 4 * (i : Int) := IntWalk.i64_in _ (by omega)
      have w1 : IntKind.i64.wrap (4 + (i : Int)) = 4 + (i : Int) := IntWalk.i64_in _ (by omega)
      have m1 : 4 + (i : Int) < 16 := by omega
      have p1 : 0 ≤ 4 + (i : Int) := by omega
      have n1 : (4 + (i : Int)).toNat = 4 + i := by omega
      clear hs
      go_wp2_with (go_at_call 70; refine HWD.out.mono ?_; rintro e w' ⟨rfl, m, rfl⟩; obtain ⟨hf, hc, hn⟩ := HNX.out m; have HN2 := Lib.hid hn; clear hn; generalize wr.drewN m = w5 at *)
      go_roundw
      case rel => exact ⟨i + 1, by omega, by go_num, HN2.out⟩
      case measure => simp [intOf]; omega
    · obtain rfl : i = 8 := by omega
      have HS : Hid (Sta w wr key nonce (nonced key nonce 0)) := ⟨hs.kb, hs.nb, hs.rb, by rw [nonced_zero]; exact hs.row, hs.only⟩
      clear hs
      rw [show ((8 : Nat) : Int) = 8 from rfl]
      go_wp2
      go_loopw [20] (fun iv w6 => ∃ i : Nat, i ≤ 3 ∧ iv = .int .i64 i ∧ Sta w w6 key nonce (nonced key nonce i)) (fun iv _ => 3 - (intOf iv).toNat)
      case atStart => exact ⟨0, Nat.zero_le _, rfl, HS.out⟩
      case round =>
        obtain ⟨i, hi, rfl, hs⟩ := hrel
        by_cases hlt : i < 3
        · have HWD := Lib.hid (word_in hs.nb HN.out (i := i) (by omega))
          have hsl := slice_nonce (w.heap.size + 1) i hlt
          have HNX : Hid (∀ m, (wr.drewN m).frozen? ⟨w.heap.size + 1 + 1 + 1, 13 + i, none⟩ = false ∧ (wr.drewN m).cell? ⟨w.heap.size + 1 + 1 + 1, 13 + i, none⟩ = some (.int .u32 ((zpad (nonced key nonce i)).getD (13 + i) 0)) ∧ Sta w ((wr.drewN m).setCell ⟨w.heap.size + 1 + 1 + 1, 13 + i, none⟩ (.int .u32 (Ch.wordAt nonce i))) key nonce (nonced key nonce (i + 1))) := by
            intro m
            have h1 := hs.drewN m
            refine ⟨h1.row.blk.frozen _, h1.row.cell (by omega), ?_⟩
            rw [nonced_succ]
            exact h1.step (by rw [nonced_length]) (by omega) _
          have w0 : IntKind.i64.wrap (4 * (i : Int)) = 4 * (i : Int) := IntWalk.i64_in _ (by omega)
          have w1 : IntKind.i64.wrap (13 + (i : Int)) = 13 + (i : Int) := IntWalk.i64_in _ (by omega)
          have m1 : 13 + (i : Int) < 16 := by omega
          have p1 : 0 ≤ 13 + (i : Int) := by omega
          have n1 : (13 + (i : Int)).toNat = 13 + i := by omega
          clear hs HS
          go_wp2_with (go_at_call 70; refine HWD.out.mono ?_; rintro e w' ⟨rfl, m, rfl⟩; obtain ⟨hf, hc, hn⟩ := HNX.out m; have HN2 := Lib.hid hn; clear hn; generalize wr.drewN m = w5 at *)
          go_roundw
          case rel => exact ⟨i + 1, by omega, by go_num, HN2.out⟩
          case measure => simp [intOf]; omega
        · obtain rfl : i = 3 := by omega
          have hrow := hs.row.blk
          rw [nonced_all] at hrow
          have hres := hs.rb
          have HROW := Lib.hid hrow.heap
          have HRES := Lib.hid hres.heap
          have HFIN : Hid ((wr.setRow (w.heap.size + 1 + 1) ((Ch.start key nonce 0).map wordV).toArray).heap[w.heap.size + 1 + 1]? = some (.cells ((Ch.start key nonce 0).map wordV).toArray 94 (0, 0)) ∧ Only (fun _ => False) w (wr.setRow (w.heap.size + 1 + 1) ((Ch.start key nonce 0).map wordV).toArray)) :=
            ⟨hres.row _, hs.only.andThen (Only.setRow _ _) (fun k hk e => by omega)⟩
          have hsz := size_words (Ch.start_length key nonce 0)
          have hwz : ((zpad []).map wordV).toArray.size = ((Ch.start key nonce 0).map wordV).toArray.size := by simp [Ch.start_length, zpad]
          have HSZ := Lib.hid hsz; have HWZ := Lib.hid hwz; have HONE := Lib.hid (oneCell_words (Ch.start key nonce 0))
          clear hrow hres hsz hwz HS hs
          generalize hA : ((Ch.start key nonce 0).map wordV).toArray = A at *
          generalize ((zpad []).map wordV).toArray = Z at *
          go_wp2_with (first
            | (refine wpList_load_row rfl 94 (.tmp 5) rfl (w.heap.size + 1 + 1 + 1) rfl 94 A (0, 0) _ HROW.out Tryd.underlying94 rfl HSZ.out ?_)
            | (refine wpList_store_row rfl 94 (.tmp 4) (.tmp 31) rfl (w.heap.size + 1 + 1) A rfl rfl 94 Z HRES.out HSZ.out HWZ.out HONE.out ?_))
          exact bodyPost_ret (v := .agg A) (results_cell_row rfl _ _ (w.heap.size + 1 + 1) 94 A (0, 0) _ rfl HFIN.out.1 Tryd.underlying94 rfl HSZ.out) rfl ⟨by rw [hA], HFIN.out.2⟩

end Go.Proofs.YtgdnmbchhfbjoaaDoor
