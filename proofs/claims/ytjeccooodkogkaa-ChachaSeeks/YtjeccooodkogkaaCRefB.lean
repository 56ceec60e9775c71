/- The document's own Block. Conditions: the key has 32 bytes, the nonce 12. -/
import Derived.Test.YtjeccooodkogkaaCRef
import Derived.Test.YtjeccooodkogkaaCRefP
namespace Go.Proofs.Ytjeccooodkogkaa
open Go.RowKit

theorem r3four {w : World} {b : Nat} {ws : List Int} {ty : TypeId} (h : WordsAt w b ws ty) (i j k l : Nat) (hf : Four i j k l) {Q : Ending → World → Prop} (hq : ∀ w', WordsAt w' b (Ch.quart i j k l ws) ty → Only (fun k => k = b) w w' → Q (.returned (.tuple #[])) w') :
    Calls Try.prog 24 #[.pointer (some ⟨b, 0, none⟩), .int .i64 i, .int .i64 j, .int .i64 k, .int .i64 l] w Q :=
  (r3round_any h hf).mono fun _ w' ⟨he, h1, h2⟩ => by subst he; exact hq w' h1 h2

theorem built_words : Try.prog.built 55 [] = some ((zpad []).map wordV).toArray := by kernel_rfl
theorem zero_a16w : (∀ w, (zeroValue 55).run Try.prog w = .ok (.agg ((zpad []).map wordV).toArray) w) ∧ (Try.prog.info? 55).map (·.size) = some 16 :=
  zero_of_info (v := .agg ((zpad []).map wordV).toArray) (n := 16) (by kernel_rfl)
theorem built_out : Try.prog.built 26 [] = some (ocells 64 []).toArray := by kernel_rfl
theorem zero_a64b : (∀ w, (zeroValue 26).run Try.prog w = .ok (.agg (ocells 64 []).toArray) w) ∧ (Try.prog.info? 26).map (·.size) = some 64 :=
  zero_of_info (v := .agg (ocells 64 []).toArray) (n := 64) (by kernel_rfl)
theorem size_a16w {ws : List Int} (h : ws.length = 16) : (Try.prog.info? 55).map (·.size) = some (ws.map wordV).toArray.size := by
  have e : (ws.map wordV).toArray.size = 16 := by simp [h]
  rw [e]
  exact zero_a16w.2

theorem setRow_alloc3 (w : World) (a b c : Obj) (Z : Array Value) (t : TypeId) : ((((w.alloc a).alloc b).alloc c).alloc (.cells Z t)).setRow (w.heap.size + 1 + 1 + 1) Z = (((w.alloc a).alloc b).alloc c).alloc (.cells Z t) := by
  have := World.setRow_alloc_new (((w.alloc a).alloc b).alloc c) Z Z t
  rwa [World.size_alloc, World.size_alloc, World.size_alloc] at this

theorem shl_small {y r : Nat} (hy : y < 2 ^ 8) (hr : r < 4) : IntKind.u32.wrap ((y : Int) * 2 ^ (8 * r)) = (y : Int) * 2 ^ (8 * r) := by
  rw [IntKind.wrap_u32]
  match r, hr with
  | 0, _ => simp; omega
  | 1, _ => simp; omega
  | 2, _ => simp; omega
  | 3, _ => simp; omega

/-- The words fs are those of the block. -/
structure IsOut (key nonce : List UInt8) (c : Nat) (fs : List Int) : Prop where
  eq : Ch.block key nonce c = Ch.blockOf fs
/-- The words ms are fs behind ten rounds. -/
structure IsRnd (fs ms : List Int) : Prop where
  eq : Ch.rounds 10 fs = ms

/-- The words ms are fs behind i rounds. -/
structure IsNext (fs : List Int) (i : Nat) (ms : List Int) : Prop where
  eq : Ch.rounds (i + 1) fs = Ch.round ms

structure Bytes64 (ms fs : List Int) (bs : List UInt8) : Prop where
  eq : Ch.out (Ch.sums ms fs) = bs
structure IsVal (A : Array Value) (key nonce : List UInt8) (c : Nat) : Prop where
  eq : ((Ch.block key nonce c).map byteV).toArray = A

/-- Rows of noughts. -/
structure Zeros (Z16 : Array Value) : Prop where
  e16 : ((zpad []).map wordV).toArray = Z16

/-- What the document's Block keeps: the key, the nonce, the result; its words. -/
structure Rb (w wr : World) (key nonce : List UInt8) (ws : List Int) : Prop where
  kn : KN w wr key nonce
  res : Blk wr (w.heap.size + 1 + 1) (ocells 64 []) 26
  row : WordsAt wr (w.heap.size + 1 + 1 + 1) ws 55

theorem Rb.keep {w wr w' : World} {key nonce : List UInt8} {ws : List Int} {S : Nat → Prop} (h : Rb w wr key nonce ws) (ho : Only S wr w') (hs : ∀ k, S k → w.heap.size + 1 + 1 + 1 < k) : Rb w w' key nonce ws :=
  ⟨h.kn.keep ho (fun k x => by have := hs _ x; omega), h.res.keep ho (fun x => by have := hs _ x; omega), h.row.keep ho (fun x => by have := hs _ x; omega)⟩
theorem Rb.set {w wr : World} {key nonce : List UInt8} {ws : List Int} (h : Rb w wr key nonce ws) (i : Nat) (v : Int) : Rb w (wr.setCell ⟨w.heap.size + 1 + 1 + 1, i, none⟩ (.int .u32 v)) key nonce (ws.set i v) :=
  ⟨h.kn.keep (Only.setCell ⟨w.heap.size + 1 + 1 + 1, i, none⟩ _) (fun k e => by simp at e; omega), h.res.setNe _ _ (by show _ ≠ w.heap.size + 1 + 1 + 1; omega), h.row.set i v⟩

set_option maxRecDepth 100000 in
set_option maxHeartbeats 4000000 in
theorem r3Block_any {w : World} {key nonce : List UInt8} (hk : key.length = 32) (hn : nonce.length = 12) (c : Nat) :
    Calls Try.prog 11 #[digV key, .int .u32 c, digV nonce] w fun e w' => e = .returned (digV (Ch.block key nonce c)) ∧ Only (fun _ => False) w w' := by
  have HK := Lib.hid hk; have HN := Lib.hid hn
  have hz16 := zero_a16w.1
  have HB16 := Lib.hid built_words
  have HB64 := Lib.hid built_out
  have HSZ16 := Lib.hid (size_a16w (ws := zpad []) (zpad_length (by decide)))
  have HONE16 := Lib.hid (oneCell_words (zpad []))
  have HR0 : Hid (∀ w1, w1 = (((w.alloc (.cells (key.map byteV).toArray 22)).alloc (.cells (nonce.map byteV).toArray 24)).alloc (.cells (ocells 64 []).toArray 26)).alloc (.cells ((zpad []).map wordV).toArray 55) → Rb w w1 key nonce (zpad [])) := by
    intro w1 e
    subst e
    have h2 := Blk.new ((w.alloc (.cells (key.map byteV).toArray 22)).alloc (.cells (nonce.map byteV).toArray 24)) (ocells 64 []) 26
    have h3 := Blk.new (((w.alloc (.cells (key.map byteV).toArray 22)).alloc (.cells (nonce.map byteV).toArray 24)).alloc (.cells (ocells 64 []).toArray 26)) ((zpad []).map wordV) 55
    rw [World.size_alloc, World.size_alloc] at h2
    rw [World.size_alloc, World.size_alloc, World.size_alloc] at h3
    exact ⟨(KN.new w key nonce).alloc.alloc, h2.alloc _, ⟨h3, zpad_length (by decide)⟩⟩
  clear hk hn
  obtain ⟨Z16, hZ16⟩ : ∃ Z, ((zpad []).map wordV).toArray = Z := ⟨_, rfl⟩
  rw [hZ16] at hz16 HB16 HSZ16 HONE16 HR0
  have HZ : Zeros Z16 := ⟨hZ16⟩
  clear hZ16
  unfold digV
  go_enter Try.func11, Try.ntmps11
  go_wp2_with (first
    | (refine wpList_build_as rfl 55 #[] rfl [] (by simp [go_sem]) Z16 HB16.out ?_)
    | (refine wpList_store_row rfl 55 (.tmp 7) (.tmp 15) rfl (w.heap.size + 1 + 1 + 1) Z16 rfl rfl 55 Z16 (by have := heap_alloc_last (((w.alloc (.cells (key.map byteV).toArray 22)).alloc (.cells (nonce.map byteV).toArray 24)).alloc (.cells (ocells 64 []).toArray 26)) (.cells Z16 55); rw [World.size_alloc, World.size_alloc, World.size_alloc] at this; exact this) HSZ16.out rfl HONE16.out ?_
       rw [setRow_alloc3]
       generalize hw1 : World.alloc _ _ = w1
       have h0 := HR0.out w1 hw1.symm
       have H0 := Lib.hid h0
       clear hw1
       have d0 := h0.row.cell (i := 0) (by decide); have f0 := h0.row.blk.frozen 0
       have h1 := h0.set 0 1634760805
       have d1 := h1.row.cell (i := 1) (by decide); have f1 := h1.row.blk.frozen 1
       have h2 := h1.set 1 857760878
       have d2 := h2.row.cell (i := 2) (by decide); have f2 := h2.row.blk.frozen 2
       have h3 := h2.set 2 2036477234
       have d3 := h3.row.cell (i := 3) (by decide); have f3 := h3.row.blk.frozen 3
       have h4 := h3.set 3 1797285236
       have d4 := h4.row.cell (i := 12) (by decide); have f4 := h4.row.blk.frozen 12
       have h5 := h4.set 12 (c : Int)
       rw [← start_none] at h5
       have H5 := Lib.hid h5
       clear h0 h1 h2 h3 h4 h5 HB16 HSZ16 HONE16 HR0 hz16))
  clear d0 d1 d2 d3 d4 f0 f1 f2 f3 f4 H0
  generalize World.setCell (World.setCell _ _ _) _ (.int .u32 (c : Int)) = w2 at *
  go_loopw [8] (fun iv wr => ∃ i : Nat, i ≤ 32 ∧ iv = .int .i64 i ∧ Rb w wr key nonce (Ch.start (key.take i) [] c)) (fun iv _ => 32 - (intOf iv).toNat)
  case atStart => exact ⟨0, Nat.zero_le _, rfl, H5.out⟩
  case round =>
    obtain ⟨i, hi, rfl, hs⟩ := hrel
    by_cases hlt : i < 32
    · obtain ⟨t, ht⟩ : ∃ t, i / 4 = t := ⟨_, rfl⟩
      obtain ⟨r, hr⟩ : ∃ r, i % 4 = r := ⟨_, rfl⟩
      have c1 : wr.cell? ⟨w.heap.size + 1 + 1 + 1, 4 + t, none⟩ = some (.int .u32 (Ch.wordAt (key.take i) t)) := by
        rw [hs.row.cell (by omega), start_key_get _ _ _ (by omega)]
      have c2 : wr.cell? ⟨w.heap.size, i, none⟩ = some (.int .u8 ((key.getD i 0).toNat : Int)) := byte_cell hs.kn.kb (by rw [HK.out]; exact hlt)
      have f1 : wr.drew.frozen? ⟨w.heap.size + 1 + 1 + 1, 4 + t, none⟩ = false := hs.row.blk.drew.frozen _
      have z1 : wr.drew.cell? ⟨w.heap.size + 1 + 1 + 1, 4 + t, none⟩ = some (.int .u32 (Ch.wordAt (key.take i) t)) := c1
      have hnx : Rb w (wr.drew.setCell ⟨w.heap.size + 1 + 1 + 1, 4 + t, none⟩ (.int .u32 (bits .or .u32 (Ch.wordAt (key.take i) t) (((key.getD i 0).toNat : Int) * 2 ^ (8 * r))))) key nonce (Ch.start (key.take (i + 1)) [] c) := by
        rw [← ht, ← hr, wordAt_or, ← start_key key [] c hlt]
        exact (hs.keep Only.drew (fun _ x => x.elim)).set _ _
      have HNX := Lib.hid hnx
      have kq := (key.getD i 0).toNat_lt
      clear hs hnx H5
      generalize Ch.wordAt (key.take i) t = x at *
      generalize (key.getD i 0).toNat = y at *
      have it : (i : Int) / 4 = (t : Int) := by omega
      have ir : (i : Int) % 4 = (r : Int) := by omega
      have it' : (i : Int).tdiv 4 = (t : Int) := by rw [Int.tdiv_eq_ediv_of_nonneg (by omega)]; exact it
      have ir' : (i : Int).tmod 4 = (r : Int) := by rw [Int.tmod_eq_emod_of_nonneg (by omega)]; exact ir
      have hr4 : r < 4 := by omega
      have ht8 : t < 8 := by omega
      have w4 : IntKind.i64.wrap (4 + (t : Int)) = 4 + (t : Int) := IntWalk.i64_in _ (by omega)
      have wt : IntKind.i64.wrap (t : Int) = (t : Int) := IntWalk.i64_in _ (by omega)
      have wr1 : IntKind.i64.wrap (r : Int) = (r : Int) := IntWalk.i64_in _ (by omega)
      have wr2 : IntKind.u64.wrap (r : Int) = (r : Int) := by rw [IntKind.wrap_u64]; omega
      have wr3 : IntKind.u64.wrap (8 * (r : Int)) = 8 * (r : Int) := by rw [IntKind.wrap_u64]; omega
      have nr : (8 * (r : Int)).toNat = 8 * r := by omega
      have n4 : (4 + (t : Int)).toNat = 4 + t := by omega
      have p4 : 0 ≤ 4 + (t : Int) := by omega
      have m4 : 4 + (t : Int) < 16 := by omega
      have pi : 0 ≤ (i : Int) := by omega
      have mi : (i : Int) < 32 := by omega
      have wy : IntKind.u32.wrap (y : Int) = (y : Int) := by rw [IntKind.wrap_u32]; omega
      have wsh := shl_small kq hr4
      clear ht hr kq
      go_wp2
      go_still_tail 19, (by kernel_rfl)
      change wpList _ _ _ _ _ wr.drew
      clear c1 c2
      generalize wr.drew = w5 at *
      go_wp2
      go_roundw
      case rel => exact ⟨i + 1, by omega, by go_num, HNX.out⟩
      case measure => simp [intOf]; omega
    · obtain rfl : i = 32 := by omega
      rw [List.take_of_length_le (by rw [HK.out]; omega)] at hs
      have HS : Hid (Rb w wr key nonce (Ch.start key (nonce.take 0) c)) := by rw [List.take_zero]; exact hs
      clear hs H5
      rw [show ((32 : Nat) : Int) = 32 from rfl]
      go_wp2
      go_loopw [9] (fun iv w6 => ∃ i : Nat, i ≤ 12 ∧ iv = .int .i64 i ∧ Rb w w6 key nonce (Ch.start key (nonce.take i) c)) (fun iv _ => 12 - (intOf iv).toNat)
      case atStart => exact ⟨0, Nat.zero_le _, rfl, HS.out⟩
      case round =>
        obtain ⟨i, hi, rfl, hs⟩ := hrel
        by_cases hlt : i < 12
        · obtain ⟨t, ht⟩ : ∃ t, i / 4 = t := ⟨_, rfl⟩
          obtain ⟨r, hr⟩ : ∃ r, i % 4 = r := ⟨_, rfl⟩
          have c1 : wr.cell? ⟨w.heap.size + 1 + 1 + 1, 13 + t, none⟩ = some (.int .u32 (Ch.wordAt (nonce.take i) t)) := by
            rw [hs.row.cell (by omega), start_nonce_get _ _ _ (by omega)]
          have c2 : wr.cell? ⟨w.heap.size + 1, i, none⟩ = some (.int .u8 ((nonce.getD i 0).toNat : Int)) := byte_cell hs.kn.nb (by rw [HN.out]; exact hlt)
          have f1 : wr.drew.frozen? ⟨w.heap.size + 1 + 1 + 1, 13 + t, none⟩ = false := hs.row.blk.drew.frozen _
          have z1 : wr.drew.cell? ⟨w.heap.size + 1 + 1 + 1, 13 + t, none⟩ = some (.int .u32 (Ch.wordAt (nonce.take i) t)) := c1
          have hnx : Rb w (wr.drew.setCell ⟨w.heap.size + 1 + 1 + 1, 13 + t, none⟩ (.int .u32 (bits .or .u32 (Ch.wordAt (nonce.take i) t) (((nonce.getD i 0).toNat : Int) * 2 ^ (8 * r))))) key nonce (Ch.start key (nonce.take (i + 1)) c) := by
            rw [← ht, ← hr, wordAt_or, ← start_nonce key nonce c hlt]
            exact (hs.keep Only.drew (fun _ x => x.elim)).set _ _
          have HNX := Lib.hid hnx
          have kq := (nonce.getD i 0).toNat_lt
          clear hs hnx HS
          generalize Ch.wordAt (nonce.take i) t = x at *
          generalize (nonce.getD i 0).toNat = y at *
          have it : (i : Int) / 4 = (t : Int) := by omega
          have ir : (i : Int) % 4 = (r : Int) := by omega
          have it' : (i : Int).tdiv 4 = (t : Int) := by rw [Int.tdiv_eq_ediv_of_nonneg (by omega)]; exact it
          have ir' : (i : Int).tmod 4 = (r : Int) := by rw [Int.tmod_eq_emod_of_nonneg (by omega)]; exact ir
          have hr4 : r < 4 := by omega
          have ht8 : t < 3 := by omega
          have w4 : IntKind.i64.wrap (13 + (t : Int)) = 13 + (t : Int) := IntWalk.i64_in _ (by omega)
          have wt : IntKind.i64.wrap (t : Int) = (t : Int) := IntWalk.i64_in _ (by omega)
          have wr1 : IntKind.i64.wrap (r : Int) = (r : Int) := IntWalk.i64_in _ (by omega)
          have wr2 : IntKind.u64.wrap (r : Int) = (r : Int) := by rw [IntKind.wrap_u64]; omega
          have wr3 : IntKind.u64.wrap (8 * (r : Int)) = 8 * (r : Int) := by rw [IntKind.wrap_u64]; omega
          have nr : (8 * (r : Int)).toNat = 8 * r := by omega
          have n4 : (13 + (t : Int)).toNat = 13 + t := by omega
          have p4 : 0 ≤ 13 + (t : Int) := by omega
          have m4 : 13 + (t : Int) < 16 := by omega
          have pi : 0 ≤ (i : Int) := by omega
          have mi : (i : Int) < 12 := by omega
          have wy : IntKind.u32.wrap (y : Int) = (y : Int) := by rw [IntKind.wrap_u32]; omega
          have wsh := shl_small kq hr4
          clear ht hr kq
          go_wp2
          go_still_tail 19, (by kernel_rfl)
          change wpList _ _ _ _ _ wr.drew
          clear c1 c2
          generalize wr.drew = w5 at *
          go_wp2
          go_roundw
          case rel => exact ⟨i + 1, by omega, by go_num, HNX.out⟩
          case measure => simp [intOf]; omega
        · obtain rfl : i = 12 := by omega
          rw [List.take_of_length_le (by rw [HN.out]; omega)] at hs
          have HLN := Lib.hid (Ch.start_length key nonce c)
          have HIS : IsOut key nonce c (Ch.start key nonce c) := ⟨rfl⟩
          generalize Ch.start key nonce c = fs at *
          have HROW := Lib.hid hs.row.blk.heap
          have HRB := Lib.hid hs
          have HSZ := Lib.hid (size_a16w HLN.out); have HONE := Lib.hid (oneCell_words fs)
          have hwz : ((zpad []).map wordV).toArray.size = (fs.map wordV).toArray.size := by simp [zpad, HLN.out]
          have HWZ := Lib.hid hwz
          clear hs HS hwz
          rw [show ((12 : Nat) : Int) = 12 from rfl]
          go_wp2_with (first
            | (refine wpList_load_row rfl 55 (.tmp 7) rfl (w.heap.size + 1 + 1 + 1) rfl 55 (fs.map wordV).toArray (0, 0) _ HROW.out Try.underlying55 rfl HSZ.out ?_)
            | (refine wpList_store_row rfl 55 (.tmp 10) (.tmp 68) rfl wr.heap.size (fs.map wordV).toArray rfl rfl 55 ((zpad []).map wordV).toArray (heap_alloc_last _ _) HSZ.out HWZ.out HONE.out ?_
               rw [World.setRow_alloc_new]
               have hy7 : WordsAt (wr.alloc (.cells (fs.map wordV).toArray 55)) wr.heap.size fs 55 := ⟨Blk.new _ _ _, HLN.out⟩
               have hr7 := HRB.out.keep (Only.alloc (.cells (fs.map wordV).toArray 55)) (fun _ x => x.elim)
               have hg7 : w.heap.size + 1 + 1 + 1 < wr.heap.size := HRB.out.row.blk.lt
               have HY7 := Lib.hid hy7; have HR7 := Lib.hid hr7
               clear hy7 hr7 HROW HRB HSZ HONE HWZ
               generalize wr.alloc (.cells (fs.map wordV).toArray 55) = w7 at *
               generalize wr.heap.size = g at *))
          go_loopw [11] (fun iv w6 => ∃ i : Nat, i ≤ 10 ∧ iv = .int .i64 i ∧ Rb w w6 key nonce fs ∧ WordsAt w6 g (Ch.rounds i fs) 55) (fun iv _ => 10 - (intOf iv).toNat)
          case atStart => exact ⟨0, Nat.zero_le _, rfl, HR7.out, HY7.out⟩
          case round =>
            obtain ⟨i, hi, rfl, hs, hy⟩ := hrel
            by_cases hlt : i < 10
            · have HX := Lib.hid hy; have HS := Lib.hid hs
              have HEQ : IsNext fs i (Ch.rounds i fs) := ⟨rfl⟩
              clear hs hy HR7 HY7
              generalize Ch.rounds i fs = ms at *
              go_wp2_with fail
              refine r3four HX.out 0 4 8 12 (by constructor <;> decide) fun x1 h1 o1 => ?_
              have H1 := Lib.hid h1; have O1 := Lib.hid (o1)
              clear h1 o1 HX
              go_wp2_with fail
              refine r3four H1.out 1 5 9 13 (by constructor <;> decide) fun x2 h2 o2 => ?_
              have H2 := Lib.hid h2; have O2 := Lib.hid (O1.out.trans o2)
              clear h2 o2 H1 O1
              go_wp2_with fail
              refine r3four H2.out 2 6 10 14 (by constructor <;> decide) fun x3 h3 o3 => ?_
              have H3 := Lib.hid h3; have O3 := Lib.hid (O2.out.trans o3)
              clear h3 o3 H2 O2
              go_wp2_with fail
              refine r3four H3.out 3 7 11 15 (by constructor <;> decide) fun x4 h4 o4 => ?_
              have H4 := Lib.hid h4; have O4 := Lib.hid (O3.out.trans o4)
              clear h4 o4 H3 O3
              go_wp2_with fail
              refine r3four H4.out 0 5 10 15 (by constructor <;> decide) fun x5 h5 o5 => ?_
              have H5 := Lib.hid h5; have O5 := Lib.hid (O4.out.trans o5)
              clear h5 o5 H4 O4
              go_wp2_with fail
              refine r3four H5.out 1 6 11 12 (by constructor <;> decide) fun x6 h6 o6 => ?_
              have H6 := Lib.hid h6; have O6 := Lib.hid (O5.out.trans o6)
              clear h6 o6 H5 O5
              go_wp2_with fail
              refine r3four H6.out 2 7 8 13 (by constructor <;> decide) fun x7 h7 o7 => ?_
              have H7 := Lib.hid h7; have O7 := Lib.hid (O6.out.trans o7)
              clear h7 o7 H6 O6
              go_wp2_with fail
              refine r3four H7.out 3 4 9 14 (by constructor <;> decide) fun x8 h8 o8 => ?_
              have H8 := Lib.hid h8; have O8 := Lib.hid (O7.out.trans o8)
              clear h8 o8 H7 O7
              go_wp2_with fail
              go_roundw
              case rel =>
                refine ⟨i + 1, by omega, by go_num, HS.out.keep O8.out (fun k e => by omega), ?_⟩
                rw [HEQ.eq]
                exact H8.out
              case measure => simp [intOf]; omega
            · obtain rfl : i = 10 := by omega
              have HMS : IsRnd fs (Ch.rounds 10 fs) := ⟨rfl⟩
              generalize Ch.rounds 10 fs = ms at *
              have HS := Lib.hid hs; have HYY := Lib.hid hy
              have HSZ := Lib.hid (show (Try.prog.info? 26).map (·.size) = some (ocells 64 []).toArray.size by kernel_rfl)
              have HONE := Lib.hid (show (ocells 64 []).toArray.all (·.oneCell') = true by simp [ocells, byteV, Value.oneCell'])
              clear hs hy HR7 HY7
              rw [show ((10 : Nat) : Int) = 10 from rfl]
              go_wp2_with (first
                | (refine wpList_build_as rfl 26 #[] rfl [] (by simp [go_sem]) (ocells 64 []).toArray HB64.out ?_)
                | (refine wpList_store_row rfl 26 (.tmp 12) (.tmp 81) rfl wr.heap.size (ocells 64 []).toArray rfl rfl 26 (ocells 64 []).toArray (heap_alloc_last _ _) HSZ.out rfl HONE.out ?_
                   rw [World.setRow_alloc_new]
                   have hy9 := HYY.out.keep (Only.alloc (.cells (ocells 64 []).toArray 26)) (fun x => x)
                   have hr9 := HS.out.keep (Only.alloc (.cells (ocells 64 []).toArray 26)) (fun _ x => x.elim)
                   have hb9 := Blk.new wr (ocells 64 []) 26
                   have hg9 : g < wr.heap.size := HYY.out.blk.lt
                   have HY9 := Lib.hid hy9; have HR9 := Lib.hid hr9; have HB9 := Lib.hid hb9
                   clear hy9 hr9 hb9 HYY HS HSZ HONE HB64
                   generalize wr.alloc (.cells (ocells 64 []).toArray 26) = w9 at *
                   generalize wr.heap.size = g9 at *))
              have hol : (Ch.out (Ch.sums ms fs)).length = 64 := Ch.out_length _
              have HBY : Bytes64 ms fs (Ch.out (Ch.sums ms fs)) := ⟨rfl⟩
              have HB9' : Hid (Blk w9 g9 (ocells 64 ((Ch.out (Ch.sums ms fs)).take 0)) 26) := HB9.out
              generalize Ch.out (Ch.sums ms fs) = bs at *
              have HOL := Lib.hid hol
              clear hol HB9
              go_loopw [13] (fun iv w6 => ∃ i : Nat, i ≤ 64 ∧ iv = .int .i64 i ∧ Rb w w6 key nonce fs ∧ WordsAt w6 g ms 55 ∧ Blk w6 g9 (ocells 64 (bs.take i)) 26) (fun iv _ => 64 - (intOf iv).toNat)
              case atStart => exact ⟨0, Nat.zero_le _, rfl, HR9.out, HY9.out, HB9'.out⟩
              case round =>
                obtain ⟨i, hi, rfl, hs, hy, hb⟩ := hrel
                by_cases hlt : i < 64
                · obtain ⟨t, ht⟩ : ∃ t, i / 4 = t := ⟨_, rfl⟩
                  obtain ⟨r, hr⟩ : ∃ r, i % 4 = r := ⟨_, rfl⟩
                  have c1 : wr.cell? ⟨w.heap.size + 1 + 1 + 1, t, none⟩ = some (.int .u32 (fs.getD t 0)) := hs.row.cell (by omega)
                  have c2 : wr.cell? ⟨g, t, none⟩ = some (.int .u32 (ms.getD t 0)) := hy.cell (by omega)
                  have hby : byteV (bs.getD i 0) = .int .u8 ((fs.getD t 0 + ms.getD t 0) % 4294967296 / 2 ^ (8 * r) % 256) := by
                    have := out_byte ms fs (i := t) (r := r) (by omega) (by omega)
                    rw [HBY.eq, show 4 * t + r = i by omega] at this
                    rw [this, Int.add_comm]
                    rfl
                  have HNX : Hid (∀ n, (wr.drewN n).cell? ⟨g9, i, none⟩ = some (.int .u8 0) ∧ (wr.drewN n).frozen? ⟨g9, i, none⟩ = false ∧ (Rb w ((wr.drewN n).setCell ⟨g9, i, none⟩ (.int .u8 ((fs.getD t 0 + ms.getD t 0) % 4294967296 / 2 ^ (8 * r) % 256))) key nonce fs ∧ WordsAt ((wr.drewN n).setCell ⟨g9, i, none⟩ (.int .u8 ((fs.getD t 0 + ms.getD t 0) % 4294967296 / 2 ^ (8 * r) % 256))) g ms 55 ∧ Blk ((wr.drewN n).setCell ⟨g9, i, none⟩ (.int .u8 ((fs.getD t 0 + ms.getD t 0) % 4294967296 / 2 ^ (8 * r) % 256))) g9 (ocells 64 (bs.take (i + 1))) 26)) := by
                    intro n
                    obtain ⟨d1, d2, d3⟩ := out_step (hb.drewN n) HOL.out hlt hby
                    refine ⟨d1, d2, (hs.keep (Only.drewN n) (fun _ x => x.elim)).keep (Only.setCell ⟨g9, i, none⟩ _) (fun k e => by simp at e; omega), (hy.drewN n).keep (Only.setCell ⟨g9, i, none⟩ _) (by simp; omega), d3⟩
                  have it : (i : Int) / 4 = (t : Int) := by omega
                  have ir : (i : Int) % 4 = (r : Int) := by omega
                  have it' : (i : Int).tdiv 4 = (t : Int) := by rw [Int.tdiv_eq_ediv_of_nonneg (by omega)]; exact it
                  have ir' : (i : Int).tmod 4 = (r : Int) := by rw [Int.tmod_eq_emod_of_nonneg (by omega)]; exact ir
                  have wt : IntKind.i64.wrap (t : Int) = (t : Int) := IntWalk.i64_in _ (by omega)
                  have wr1 : IntKind.i64.wrap (r : Int) = (r : Int) := IntWalk.i64_in _ (by omega)
                  have wr2 : IntKind.u64.wrap (r : Int) = (r : Int) := by rw [IntKind.wrap_u64]; omega
                  have wr3 : IntKind.u64.wrap (8 * (r : Int)) = 8 * (r : Int) := by rw [IntKind.wrap_u64]; omega
                  have nr : (8 * (r : Int)).toNat = 8 * r := by omega
                  have pi : 0 ≤ (i : Int) := by omega
                  have mi : (i : Int) < 64 := by omega
                  have pt : 0 ≤ (t : Int) := by omega
                  have mt : (t : Int) < 16 := by omega
                  have hr4 : r < 4 := by omega
                  clear hs hy hb hby ht hr HR9 HY9 HB9'
                  generalize fs.getD t 0 = x at *
                  generalize ms.getD t 0 = y at *
                  go_wp2
                  go_quiet (fail)
                  obtain ⟨d1, d2, hn9⟩ := HNX.out nq
                  have HN9 := Lib.hid hn9
                  clear c1 c2 HNX hn9
                  generalize (x + y) % 4294967296 = z at *
                  generalize wr.drewN nq = w5 at *
                  go_wp2
                  go_roundw
                  case rel => exact ⟨i + 1, by omega, by go_num, HN9.out⟩
                  case measure => simp [intOf]; omega
                · have e64 : bs.take i = bs := List.take_of_length_le (by have := HOL.out; omega)
                  rw [e64, ocells_full HOL.out] at hb
                  have HROW := Lib.hid hb.heap
                  have HRES := Lib.hid hs.res.heap
                  have HFIN : Hid ((wr.setRow (w.heap.size + 1 + 1) (bs.map byteV).toArray).heap[w.heap.size + 1 + 1]? = some (.cells (bs.map byteV).toArray 26 (0, 0)) ∧ Only (fun _ => False) w (wr.setRow (w.heap.size + 1 + 1) (bs.map byteV).toArray)) :=
                    ⟨hs.res.row _, hs.kn.only.andThen (Only.setRow _ _) (fun k hk e => by omega)⟩
                  have hwz : (ocells 64 []).toArray.size = (bs.map byteV).toArray.size := by simp [ocells, HOL.out]
                  have HSZ8 := Lib.hid (size_a64 HOL.out); have HWZ := Lib.hid hwz; have HONE := Lib.hid (oneCell_bytes bs)
                  have HV : IsVal (bs.map byteV).toArray key nonce c := ⟨by rw [HIS.eq]; unfold Ch.blockOf; rw [HMS.eq, HBY.eq]⟩
                  clear hb hs hy hwz e64 HR9 HY9 HB9' HOL
                  generalize (bs.map byteV).toArray = A at *
                  generalize (ocells 64 []).toArray = Z at *
                  go_wp2_with (first
                    | (refine wpList_load_row rfl 26 (.tmp 12) rfl g9 rfl 26 A (0, 0) _ HROW.out Try.underlying26 rfl HSZ8.out ?_)
                    | (refine wpList_store_row rfl 26 (.tmp 6) (.tmp 104) rfl (w.heap.size + 1 + 1) A rfl rfl 26 Z HRES.out HSZ8.out HWZ.out HONE.out ?_))
                  exact bodyPost_ret (v := .agg A) (results_cell_row rfl _ _ (w.heap.size + 1 + 1) 26 A (0, 0) _ rfl HFIN.out.1 Try.underlying26 rfl HSZ8.out) rfl ⟨by rw [HV.eq], HFIN.out.2⟩

end Go.Proofs.Ytjeccooodkogkaa
