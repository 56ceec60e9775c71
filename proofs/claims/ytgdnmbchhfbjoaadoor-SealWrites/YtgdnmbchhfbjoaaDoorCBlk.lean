/- (*words).block: the block of a counter; chacha.Block. Conditions: none. -/
import Derived.Test.YtgdnmbchhfbjoaaDoorCStart
namespace Go.Proofs.YtgdnmbchhfbjoaaDoor
open Go.RowKit

theorem size_a64 {bs : List UInt8} (h : bs.length = 64) : (Tryd.prog.info? 86).map (·.size) = some (bs.map byteV).toArray.size := by
  have e : (bs.map byteV).toArray.size = 64 := by simp [h]
  have e2 : (Tryd.prog.info? 86).map (·.size) = some 64 := by kernel_rfl
  rw [e, e2]

theorem size_a32 {bs : List UInt8} (h : bs.length = 32) : (Tryd.prog.info? 22).map (·.size) = some (bs.map byteV).toArray.size := by
  have e : (bs.map byteV).toArray.size = 32 := by simp [h]
  have e2 : (Tryd.prog.info? 22).map (·.size) = some 32 := by kernel_rfl
  rw [e, e2]
theorem size_a12 {bs : List UInt8} (h : bs.length = 12) : (Tryd.prog.info? 64).map (·.size) = some (bs.map byteV).toArray.size := by
  have e : (bs.map byteV).toArray.size = 12 := by simp [h]
  have e2 : (Tryd.prog.info? 64).map (·.size) = some 12 := by kernel_rfl
  rw [e, e2]

theorem WordsAt.range {w : World} {b : Nat} {ws : List Int} {ty : TypeId} (h : WordsAt w b ws ty) : w.rangeAt b 0 (ws.map wordV) := h.blk.range fun j v hv => by rw [Nat.zero_add]; exact hv

/-- A key and a nonce that were boxed. -/
structure KN (w wr : World) (key nonce : List UInt8) : Prop where
  kb : Blk wr w.heap.size (key.map byteV) 22
  nb : Blk wr (w.heap.size + 1) (nonce.map byteV) 64
  only : Only (fun _ => False) w wr
theorem KN.new (w : World) (key nonce : List UInt8) : KN w ((w.alloc (.cells (key.map byteV).toArray 22)).alloc (.cells (nonce.map byteV).toArray 64)) key nonce := by
  have := Blk.new (w.alloc (.cells (key.map byteV).toArray 22)) (nonce.map byteV) 64
  rw [World.size_alloc] at this
  exact ⟨(Blk.new _ _ _).alloc _, this, (Only.alloc _).trans (Only.alloc _)⟩
theorem KN.keep {w wr w' : World} {key nonce : List UInt8} {S : Nat → Prop} (h : KN w wr key nonce) (ho : Only S wr w') (hs : ∀ k, S k → w.heap.size + 1 < k) : KN w w' key nonce :=
  ⟨h.kb.keep ho (fun x => by have := hs _ x; omega), h.nb.keep ho (fun x => by have := hs _ x; omega), h.only.andThen ho (fun k hk e => by have := hs _ e; omega)⟩
theorem KN.alloc {w wr : World} {key nonce : List UInt8} (h : KN w wr key nonce) {x : Obj} : KN w (wr.alloc x) key nonce := h.keep (Only.alloc x) (fun _ x => x.elim)

/-- What the loops of block keep: the result, the words at first, the words mixed. -/
structure Mix (w wr : World) (fs ms : List Int) : Prop where
  res : Blk wr w.heap.size (ocells 64 []) 86
  fst : WordsAt wr (w.heap.size + 1) fs 94
  mix : WordsAt wr (w.heap.size + 1 + 1) ms 94
  only : Only (fun _ => False) w wr

theorem zero_words : (∀ w, (zeroValue 94).run Tryd.prog w = .ok (wordsV (zpad [])) w) ∧ (Tryd.prog.info? 94).map (·.size) = some 16 :=
  zero_of_info (v := wordsV (zpad [])) (n := 16) (by kernel_rfl)

theorem Mix.keep {w wr w' : World} {fs ms : List Int} {S : Nat → Prop} (h : Mix w wr fs ms) (ho : Only S wr w') (hs : ∀ k, S k → w.heap.size + 1 + 1 < k) : Mix w w' fs ms :=
  ⟨h.res.keep ho (fun x => by have := hs _ x; omega), h.fst.keep ho (fun x => by have := hs _ x; omega), h.mix.keep ho (fun x => by have := hs _ x; omega), h.only.andThen ho (fun k hk e => by have := hs _ e; omega)⟩

theorem out_step {w : World} {g j n : Nat} {bs : List UInt8} {t : TypeId} (h : Blk w g (ocells n (bs.take j)) t) (hl : bs.length = n) (hj : j < n) {v : Int} (hv : byteV (bs.getD j 0) = .int .u8 v) :
    w.cell? ⟨g, j, none⟩ = some (.int .u8 0) ∧ w.frozen? ⟨g, j, none⟩ = false ∧ Blk (w.setCell ⟨g, j, none⟩ (.int .u8 v)) g (ocells n (bs.take (j + 1))) t := by
  have hlen : (bs.take j).length = j := by simp; omega
  refine ⟨by rw [h.cell]; exact ocells_zero (by omega) hj, h.frozen j, ?_⟩
  have := h.set j (byteV (bs.getD j 0))
  have e := ocells_set (n := n) (bs.take j) (bs.getD j 0) (by omega)
  rw [hlen] at e
  rw [e] at this
  have e2 : bs.take (j + 1) = bs.take j ++ [bs.getD j 0] := by
    rw [List.take_succ_eq_append_getElem (by omega)]
    simp [hl, hj]
  rw [← e2] at this
  rwa [hv] at this

theorem out_byte (ms fs : List Int) {i r : Nat} (hi : i < 16) (hr : r < 4) : byteV ((Ch.out (Ch.sums ms fs)).getD (4 * i + r) 0) = .int .u8 (Ch.low (ms.getD i 0 + fs.getD i 0) / 2 ^ (8 * r) % 256) := by
  have e1 : (4 * i + r) / 4 = i := by omega
  have e2 : (4 * i + r) % 4 = r := by omega
  have e3 : (Ch.sums ms fs).getD i 0 = Ch.low (ms.getD i 0 + fs.getD i 0) := by simp [Ch.sums, hi]
  have e : (Ch.out (Ch.sums ms fs)).getD (4 * i + r) 0 = Ch.byteAt (Ch.sums ms fs) (4 * i + r) := by
    have : 4 * i + r < 64 := by omega
    simp [Ch.out, this]
  rw [e]
  unfold byteV Ch.byteAt
  rw [u8_low, e1, e2, e3]

/-- V is the block of the words fs. -/
structure IsBlk (V : Value) (fs : List Int) : Prop where
  eq : digV (Ch.blockOf fs) = V

set_option maxRecDepth 100000 in
set_option maxHeartbeats 1000000 in
theorem block_any {w : World} {b o : Nat} {ws : List Int} (hb : w.rangeAt b o (ws.map wordV)) (hl : ws.length = 16) (c : Int) :
    Calls Tryd.prog 71 #[.pointer (some ⟨b, o, none⟩), .int .u32 c] w fun e w' => e = .returned (digV (Ch.blockOf (ws.set 12 c))) ∧ Only (fun _ => False) w w' := by
  have HB := Lib.hid hb; have HL := Lib.hid hl
  have hsz := size_words hl
  have hsz' : (Tryd.prog.info? 94).map (·.size) = some (ws.map wordV).length := by simpa using hsz
  have hzz : ((zpad []).map wordV).toArray.size = (ws.map wordV).toArray.size := by simp [zpad, hl]
  have hrg : (w.alloc (.cells (ocells 64 []).toArray 86)).rangeAt b o (ws.map wordV) := World.rangeAt_alloc hb _
  have HSZ := Lib.hid hsz; have HSZ' := Lib.hid hsz'; have HZZ := Lib.hid hzz; have HRG := Lib.hid hrg
  clear hb hl hsz hsz' hzz hrg
  obtain ⟨fs, hfs⟩ : ∃ fs, ws.set 12 c = fs := ⟨_, rfl⟩
  rw [hfs]
  have HFS := Lib.hid hfs
  clear hfs
  obtain ⟨V, hV⟩ : ∃ V, digV (Ch.blockOf fs) = V := ⟨_, rfl⟩
  have HVV : IsBlk V fs := ⟨hV⟩
  rw [hV]
  clear hV
  go_enter Tryd.func71, Tryd.ntmps71
  go_wp2_with (first
    | (refine wpList_load_mid rfl 94 (.tmp 11) rfl b o rfl (ws.map wordV) _ HRG.out Tryd.underlying94 rfl HSZ'.out ?_)
    | (refine wpList_store_row rfl 94 (.tmp 5) (.tmp 12) rfl (w.heap.size + 1) (ws.map wordV).toArray rfl rfl 94 ((zpad []).map wordV).toArray (Blk.new1 _ _ _ _) HSZ.out HZZ.out (oneCell_words _) ?_
       generalize hw2 : (((w.alloc _).alloc _).setRow (w.heap.size + 1) _) = w2
       have hb2 : WordsAt w2 (w.heap.size + 1) ws 94 := ⟨by rw [← hw2]; exact (Blk.new1 w _ ((zpad []).map wordV) 94).row _, HL.out⟩
       have hr2 : Blk w2 w.heap.size (ocells 64 []) 86 := by
         rw [← hw2]; exact ((Blk.new w (ocells 64 []) 86).alloc _).rowNe _ (by omega)
       have ho2 : Only (fun _ => False) w w2 := by
         rw [← hw2]; exact ((Only.alloc _).trans (Only.alloc _)).andThen (Only.setRow _ _) (fun k hk e => by omega)
       have hz2 : w2.heap.size = w.heap.size + 1 + 1 := by rw [← hw2]; simp
       have c12 := hb2.cell (i := 12) (by decide)
       have f12 := hb2.blk.frozen 12
       have h3 := hb2.set 12 c
       rw [HFS.out] at h3
       have hr3 : Blk (w2.setCell ⟨w.heap.size + 1, 12, none⟩ (.int .u32 c)) w.heap.size (ocells 64 []) 86 := hr2.setNe _ _ (by show _ ≠ w.heap.size + 1; omega)
       have ho3 : Only (fun _ => False) w (w2.setCell ⟨w.heap.size + 1, 12, none⟩ (.int .u32 c)) := ho2.andThen (Only.setCell ⟨w.heap.size + 1, 12, none⟩ _) (fun k hk e => by simp at e; omega)
       have hz3 : (w2.setCell ⟨w.heap.size + 1, 12, none⟩ (.int .u32 c)).heap.size = w.heap.size + 1 + 1 := by rw [← hz2]; simp
       have H3 := Lib.hid h3; have HR3 := Lib.hid hr3; have HO3 := Lib.hid ho3; have HZ3 := Lib.hid hz3
       clear hb2 hr2 ho2 hz2 h3 hr3 ho3 hw2 hz3)
    | (refine wpList_load_row rfl 94 (.tmp 5) rfl (w.heap.size + 1) rfl 94 (fs.map wordV).toArray (0, 0) _ H3.out.blk.heap Tryd.underlying94 rfl (size_words H3.out.len) ?_
       generalize w2.setCell ⟨w.heap.size + 1, 12, none⟩ (.int .u32 c) = w3 at *)
    | (rw [HZ3.out]
       refine wpList_store_row rfl 94 (.tmp 6) (.tmp 15) rfl (w.heap.size + 1 + 1) (fs.map wordV).toArray rfl rfl 94 ((zpad []).map wordV).toArray (by have := heap_alloc_last w3 (.cells ((zpad []).map wordV).toArray 94); rw [HZ3.out] at this; exact this) (size_words H3.out.len) (by simp [zpad, H3.out.len]) (oneCell_words _) ?_
       generalize hw4 : ((w3.alloc _).setRow (w.heap.size + 1 + 1) (fs.map wordV).toArray) = w4
       have hm4 : Mix w w4 fs fs := by
         have ho : Only (fun k => k = w.heap.size + 1 + 1) w3 w4 := by rw [← hw4]; exact ((Only.alloc _).mono (fun _ _ x => x.elim)).trans (Only.setRow _ _)
         have hnew := Blk.new w3 ((zpad []).map wordV) 94
         rw [HZ3.out] at hnew
         refine ⟨HR3.out.keep ho (by omega), H3.out.keep ho (by omega), ⟨by rw [← hw4]; exact hnew.row _, H3.out.len⟩, HO3.out.andThen ho (fun k hk e => by omega)⟩
       have HM4 := Lib.hid hm4
       clear hm4 hw4 HR3 HO3 H3 HRG))
  go_loopw [16] (fun iv wr => ∃ i : Nat, i ≤ 10 ∧ iv = .int .i64 i ∧ Mix w wr fs (Ch.rounds i fs)) (fun iv _ => 10 - (intOf iv).toNat)
  case atStart => exact ⟨0, Nat.zero_le _, rfl, HM4.out⟩
  case round =>
    obtain ⟨i, hi, rfl, hs⟩ := hrel
    by_cases hlt : i < 10
    · have HRD := Lib.hid (round_any hs.mix)
      have HNX : Hid (∀ w', WordsAt w' (w.heap.size + 1 + 1) (Ch.round (Ch.rounds i fs)) 94 → Only (fun k => k = w.heap.size + 1 + 1) wr w' → Mix w w' fs (Ch.rounds (i + 1) fs)) := fun w' h1 h2 =>
        ⟨hs.res.keep h2 (by omega), hs.fst.keep h2 (by omega), h1, hs.only.andThen h2 (fun k hk e => by omega)⟩
      clear hs HM4
      go_wp2_with (go_at_call 77; refine HRD.out.mono ?_; rintro e w' ⟨rfl, h1, h2⟩; have HN2 := Lib.hid (HNX.out w' h1 h2); clear h1 h2)
      go_roundw
      case rel => exact ⟨i + 1, by omega, by go_num, HN2.out⟩
      case measure => simp [intOf]; omega
    · obtain rfl : i = 10 := by omega
      obtain ⟨ms, hms⟩ : ∃ ms, Ch.rounds 10 fs = ms := ⟨_, rfl⟩
      rw [hms] at hs
      have HMS := Lib.hid hms
      have HS := Lib.hid hs
      clear hs HM4 hms
      rw [show ((10 : Nat) : Int) = 10 from rfl]
      go_wp2
      generalize hw5 : wr.alloc _ = w5
      obtain ⟨bs, hbs⟩ : ∃ bs, Ch.out (Ch.sums ms fs) = bs := ⟨_, rfl⟩
      have hol : bs.length = 64 := by rw [← hbs]; exact Ch.out_length _
      have HBS := Lib.hid hbs; have HOL := Lib.hid hol
      clear hbs hol
      have hs5 : Mix w w5 fs ms := by rw [← hw5]; exact HS.out.keep (Only.alloc _) (fun _ x => x.elim)
      have hb5 : Blk w5 wr.heap.size (ocells 64 (bs.take (4 * 0))) 86 := by rw [← hw5]; exact Blk.new wr (ocells 64 []) 86
      have hg5 : w.heap.size + 1 + 1 < wr.heap.size := HS.out.mix.blk.lt
      have HS5 := Lib.hid hs5; have HB5 := Lib.hid hb5
      clear hs5 hb5 hw5 HS
      generalize wr.heap.size = g at *
      go_loopw [20] (fun iv w6 => ∃ i : Nat, i ≤ 16 ∧ iv = .int .i64 i ∧ Mix w w6 fs ms ∧ Blk w6 g (ocells 64 (bs.take (4 * i))) 86) (fun iv _ => 16 - (intOf iv).toNat)
      case atStart => exact ⟨0, Nat.zero_le _, rfl, HS5.out, HB5.out⟩
      case round =>
        obtain ⟨i, hi, rfl, hs, hb⟩ := hrel
        by_cases hlt : i < 16
        · have c1 := hs.fst.cell hlt
          have c2 := hs.mix.cell hlt
          have HS := Lib.hid hs; have HB := Lib.hid hb
          have HY := Lib.hid (fun r => out_byte ms fs (i := i) (r := r) hlt)
          rw [HBS.out] at HY
          have pz : 0 ≤ (i : Int) := by omega
          have mz : (i : Int) < 16 := by omega
          clear hs hb HS5 HB5
          generalize ms.getD i 0 = x1 at *
          generalize fs.getD i 0 = x2 at *
          go_wp2
          go_quiet (fail)
          have hb7 := HB.out.drewN nq
          have HS7 : Hid (Mix w (wr.drewN nq) fs ms) := HS.out.keep (Only.drewN nq) (fun _ x => x.elim)
          unfold Ch.low at HY
          clear c1 c2 HB HS
          generalize wr.drewN nq = w7 at *
          generalize (x1 + x2) % 4294967296 = x at *
          have hol := HOL.out
          have y0 : byteV (bs.getD (4 * i) 0) = .int .u8 (x % 256) := by have := HY.out 0 (by decide); simpa using this
          have y1 : byteV (bs.getD (4 * i + 1) 0) = .int .u8 (x / 256 % 256) := HY.out 1 (by decide)
          have y2 : byteV (bs.getD (4 * i + 2) 0) = .int .u8 (x / 65536 % 256) := HY.out 2 (by decide)
          have y3 : byteV (bs.getD (4 * i + 3) 0) = .int .u8 (x / 16777216 % 256) := HY.out 3 (by decide)
          obtain ⟨d0, f0, hb8⟩ := out_step hb7 hol (by omega) y0
          obtain ⟨d1, f1, hb9⟩ := out_step hb8 hol (by omega) y1
          obtain ⟨d2, f2, hb10⟩ := out_step hb9 hol (by omega) y2
          obtain ⟨d3, f3, hb11⟩ := out_step hb10 hol (by omega) y3
          have e4 : 4 * i + 1 + 1 + 1 + 1 = 4 * (i + 1) := by omega
          rw [e4] at hb11
          have HB11 := Lib.hid hb11
          have HM11 : Hid (Mix w ((((w7.setCell ⟨g, 4 * i, none⟩ (.int .u8 (x % 256))).setCell ⟨g, 4 * i + 1, none⟩ (.int .u8 (x / 256 % 256))).setCell ⟨g, 4 * i + 2, none⟩ (.int .u8 (x / 65536 % 256))).setCell ⟨g, 4 * i + 3, none⟩ (.int .u8 (x / 16777216 % 256))) fs ms) :=
            HS7.out.keep (((((Only.setCell ⟨g, 4 * i, none⟩ _).trans (Only.setCell ⟨g, 4 * i + 1, none⟩ _)).trans (Only.setCell ⟨g, 4 * i + 2, none⟩ _)).trans (Only.setCell ⟨g, 4 * i + 3, none⟩ _))) (fun k e => by simp at e; omega)
          clear hb7 hb8 hb9 hb10 hb11 y0 y1 y2 y3 hol HY HS7 e4
          have w0 : IntKind.i64.wrap (4 * (i : Int)) = 4 * (i : Int) := IntWalk.i64_in _ (by omega)
          have w1 : IntKind.i64.wrap (4 * (i : Int) + 1) = 4 * (i : Int) + 1 := IntWalk.i64_in _ (by omega)
          have w2 : IntKind.i64.wrap (4 * (i : Int) + 2) = 4 * (i : Int) + 2 := IntWalk.i64_in _ (by omega)
          have w3 : IntKind.i64.wrap (4 * (i : Int) + 3) = 4 * (i : Int) + 3 := IntWalk.i64_in _ (by omega)
          have n0 : (4 * (i : Int)).toNat = 4 * i := by omega
          have n1 : (4 * (i : Int) + 1).toNat = 4 * i + 1 := by omega
          have n2 : (4 * (i : Int) + 2).toNat = 4 * i + 2 := by omega
          have n3 : (4 * (i : Int) + 3).toNat = 4 * i + 3 := by omega
          have p0 : 0 ≤ 4 * (i : Int) := by omega
          have p1 : 0 ≤ 4 * (i : Int) + 1 := by omega
          have p2 : 0 ≤ 4 * (i : Int) + 2 := by omega
          have p3 : 0 ≤ 4 * (i : Int) + 3 := by omega
          have m0 : 4 * (i : Int) < 64 := by omega
          have m1 : 4 * (i : Int) + 1 < 64 := by omega
          have m2 : 4 * (i : Int) + 2 < 64 := by omega
          have m3 : 4 * (i : Int) + 3 < 64 := by omega
          go_wp2
          go_roundw
          case rel => exact ⟨i + 1, by omega, by go_num, HM11.out, HB11.out⟩
          case measure => simp [intOf]; omega
        · have e64 : bs.take (4 * i) = bs := List.take_of_length_le (by have := HOL.out; omega)
          rw [e64, ocells_full HOL.out] at hb
          have HROW := Lib.hid hb.heap
          have HRES := Lib.hid hs.res.heap
          have HFIN : Hid ((wr.setRow w.heap.size (bs.map byteV).toArray).heap[w.heap.size]? = some (.cells (bs.map byteV).toArray 86 (0, 0)) ∧ Only (fun _ => False) w (wr.setRow w.heap.size (bs.map byteV).toArray)) :=
            ⟨hs.res.row _, hs.only.andThen (Only.setRow _ _) (fun k hk e => by omega)⟩
          have hsz := size_a64 HOL.out
          have hwz : (ocells 64 []).toArray.size = (bs.map byteV).toArray.size := by simp [ocells, HOL.out]
          have HSZ8 := Lib.hid hsz; have HWZ := Lib.hid hwz; have HONE := Lib.hid (oneCell_bytes bs)
          have hv : digV (Ch.blockOf fs) = .agg (bs.map byteV).toArray := by
            unfold digV Ch.blockOf
            rw [HMS.out, HBS.out]
          rw [HVV.eq] at hv
          clear hb hs hsz hwz e64 HS5 HB5 HMS HBS HOL HFS HZ3 HL HB
          generalize (bs.map byteV).toArray = A at *
          generalize (ocells 64 []).toArray = Z at *
          go_wp2_with (first
            | (refine wpList_load_row rfl 86 (.tmp 7) rfl g rfl 86 A (0, 0) _ HROW.out Tryd.underlying86 rfl HSZ8.out ?_)
            | (refine wpList_store_row rfl 86 (.tmp 4) (.tmp 57) rfl w.heap.size A rfl rfl 86 Z HRES.out HSZ8.out HWZ.out HONE.out ?_))
          exact bodyPost_ret (v := .agg A) (results_cell_row rfl _ _ w.heap.size 86 A (0, 0) _ rfl HFIN.out.1 Tryd.underlying86 rfl HSZ8.out) rfl ⟨by rw [hv], HFIN.out.2⟩

/-- A block's words, at their counter. -/
theorem start_set (key nonce : List UInt8) (c : Int) : (Ch.start key nonce 0).set 12 c = Ch.start key nonce c := by
  simp [Ch.start, Ch.four, List.range_succ]

end Go.Proofs.YtgdnmbchhfbjoaaDoor
