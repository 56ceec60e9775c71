/- lay, masked: a key as a block. Conditions: a key is below 2^39 bytes. -/
import Derived.Test.YtgdnmbchhfbjoaaDoorGMem
import Derived.Test.YtgdnmbchhfbjoaaDoorHHash
import Derived.Deep.OwnRows
namespace Go.Proofs.YtgdnmbchhfbjoaaDoor
open Go.RowKit

/-- copy, of bytes that lie somewhere, into a block that is known whole. -/
theorem wpList_copy_bytes {w : World} {ops : Array Oper} {rest : List Oper} {o : Oper} {a : Act} {Q : Exit → Act → World → Prop} (hgd : o.guard = none) (d s : Operand)
    (ho : o.op = .call { callee := .builtin .copy, args := #[d, s], argTypes := #[23, 23] }) (g off dLen dCap : Nat) (v : Value) (hd : a.eval d = .slice (some ⟨g, off, none⟩) dLen dCap) (hs : a.eval s = v)
    {S : Nat → Prop} {bs : List UInt8} (hsrc : BytesAt w S v bs) {L : List Value} {t : TypeId} (hg : Blk w g L t) (hfit : off + dLen ≤ L.length)
    (h : ∀ w', Blk w' g (splice L off ((bs.take dLen).map byteV)) t → Only (fun k => k = g) w w' → wpList Tryd.prog ops Q rest (a.put o.dst (goInt ((bs.take dLen).map byteV).length)) w') :
    wpList Tryd.prog ops Q (o :: rest) a w := by
  rcases hsrc with ⟨rfl, rfl⟩ | ⟨ad, c, rfl, hc, hS, hcell⟩
  · refine wpList_copy_nothing hgd d s 23 23 ho 5 Tryd.underlying23 size_u8 _ none dLen dCap 0 0 hd hs (Nat.zero_min _) ?_
    have := h w (by simpa [splice] using hg) (Only.refl _ _)
    simpa using this
  · by_cases h0 : Nat.min bs.length dLen = 0
    · refine wpList_copy_nothing hgd d s 23 23 ho 5 Tryd.underlying23 size_u8 _ (some ad) dLen dCap bs.length c hd hs h0 ?_
      have e : bs.take dLen = [] := List.eq_nil_of_length_eq_zero (by
        rw [List.length_take, Nat.min_comm]; exact h0)
      have := h w (by simpa [splice, e] using hg) (Only.refl _ _)
      simpa [e] using this
    · refine wpList_copy_own hgd d s 23 23 ho 5 Tryd.underlying23 size_u8 g off dLen dCap ad bs.length c hd hs L.toArray t hg.heap ((bs.take dLen).map byteV) (by rw [List.length_map, List.length_take, Nat.min_comm]) (by
        intro j u hu
        rw [List.getElem?_map, Option.map_eq_some_iff] at hu
        obtain ⟨x, hx, rfl⟩ := hu
        rw [List.getElem?_take] at hx
        split at hx
        · exact hcell j x hx
        · cases hx) (by simp; omega) (by
        intro u hu
        obtain ⟨x, _, rfl⟩ := List.mem_map.1 hu
        rfl) ?_
      refine h _ ?_ (Only.setRow g _)
      have := hg.row (splice L off ((bs.take dLen).map byteV))
      simpa [splice] using this

theorem laid_len {key : List UInt8} : (Sh.laid key).length = 64 := by
  unfold Sh.laid
  split
  · simp [sum_len]
  · simp; omega

/-- One row as a list of parts. -/
theorem one_part {w : World} {S : Nat → Prop} {v : Value} {bs : List UInt8} (hv : BytesAt w S v bs) (hS : ∀ k, S k → k < w.heap.size) :
    PartsAt (w.alloc (.cells #[v] 23)) (fun k => k < (w.alloc (.cells #[v] 23)).heap.size) (.slice (some ⟨w.heap.size, 0, none⟩) 1 1) [bs] := by
  refine ⟨some ⟨w.heap.size, 0, none⟩, 1, rfl, Nat.le_refl _, fun i hi => ?_⟩
  match i, hi with
  | 0, _ =>
    refine ⟨_, v, rfl, by simp, ?_, hv.kept (fun k hk => Below.heap_alloc _ _ _ (hS k hk)) (fun k hk => by have := hS k hk; simp; omega)⟩
    rw [add_lit]
    exact (Blk.new w [v] 23).cell 0

theorem size_block {bs : List UInt8} (h : bs.length = 64) : (Tryd.prog.info? 107).map (·.size) = some (bs.map byteV).toArray.size := by
  have e : (bs.map byteV).toArray.size = 64 := by simp [h]
  have e2 : (Tryd.prog.info? 107).map (·.size) = some 64 := by kernel_rfl
  rw [e, e2]

theorem splice_short (key : List UInt8) (h : key.length ≤ 64) : splice (ocells 64 []) 0 ((key.take 64).map byteV) = (key ++ List.replicate (64 - key.length) 0).map byteV := by
  unfold splice ocells
  rw [List.take_of_length_le h]
  simp only [List.map_nil, List.nil_append, List.length_nil, Nat.sub_zero, List.take_zero, Nat.zero_add, List.drop_replicate, List.length_map, List.map_append, List.map_replicate]

theorem slice_all_block (g : Nat) (w1 : World) : (Instr.sliceAt 107 (.pointer (some ⟨g, 0, none⟩)) none none none).run Tryd.prog w1 = .ok (.slice (some ⟨g, 0, none⟩) 64 64) w1 := by
  rw [run_sliceAt_array_all (ht := by kernel_rfl)]
  have hsz : (sizeOf (Tryd.prog.elem 107)).run Tryd.prog w1 = .ok 1 w1 := by kernel_rfl
  rw [hsz, show Tryd.prog.arrayLen 107 = 64 by kernel_rfl]
  simp [Result.andThen, slicedAt, Addr.add]
theorem slice_all_32 (g : Nat) (w1 : World) : (Instr.sliceAt 22 (.pointer (some ⟨g, 0, none⟩)) none none none).run Tryd.prog w1 = .ok (.slice (some ⟨g, 0, none⟩) 32 32) w1 := by
  rw [run_sliceAt_array_all (ht := by kernel_rfl)]
  have hsz : (sizeOf (Tryd.prog.elem 22)).run Tryd.prog w1 = .ok 1 w1 := by kernel_rfl
  rw [hsz, show Tryd.prog.arrayLen 22 = 32 by kernel_rfl]
  simp [Result.andThen, slicedAt, Addr.add]

/-- A digest in a block of its own, sliced. -/
theorem dig_bytes {w : World} {g : Nat} {bs : List UInt8} (h : Blk w g (bs.map byteV) 22) (hl : bs.length = 32) : BytesAt w (fun k => k = g) (.slice (some ⟨g, 0, none⟩) 32 32) bs := by
  have := BytesAt.of_block (o := 0) (c := 32) (bs := bs) h.heap (by omega) (fun j x hx => by rw [Nat.zero_add, List.getElem?_map, hx]; rfl)
  rwa [hl] at this

set_option maxRecDepth 100000 in
set_option maxHeartbeats 1000000 in
theorem lay_any {w : World} {S : Nat → Prop} {v : Value} {key : List UInt8} (hv : BytesAt w S v key) (hS : ∀ k, S k → k < w.heap.size) (hlen : key.length ≤ 549755813888) (hf : Fst w) (ht : Tab w) :
    Calls Tryd.prog 64 #[v] w fun e w' => e = .returned (.agg ((Sh.laid key).map byteV).toArray) ∧ Only (fun _ => False) w w' := by
  obtain ⟨va, vc, rfl⟩ := hv.shape
  have hZ : ∀ g w1, (Instr.sliceAt 107 (.pointer (some ⟨g, 0, none⟩)) none none none).run Tryd.prog w1 = .ok (.slice (some ⟨g, 0, none⟩) 64 64) w1 := slice_all_block
  have hY : ∀ g w1, (Instr.sliceAt 22 (.pointer (some ⟨g, 0, none⟩)) none none none).run Tryd.prog w1 = .ok (.slice (some ⟨g, 0, none⟩) 32 32) w1 := slice_all_32
  by_cases h64 : key.length ≤ 64
  · have hb1 : Blk ((w.alloc (.cells (ocells 64 []).toArray 107)).alloc (.cells (ocells 64 []).toArray 107)) (w.heap.size + 1) (ocells 64 []) 107 := Blk.new1 _ _ _ _
    have hb0 : Blk ((w.alloc (.cells (ocells 64 []).toArray 107)).alloc (.cells (ocells 64 []).toArray 107)) w.heap.size (ocells 64 []) 107 := (Blk.new _ _ _).alloc _
    have ho2 : Only (fun _ => False) w ((w.alloc (.cells (ocells 64 []).toArray 107)).alloc (.cells (ocells 64 []).toArray 107)) := (Only.alloc _).trans (Only.alloc _)
    have hv2 := hv.only ho2 hS (fun _ _ x => x)
    have e0 : splice (ocells 64 []) 0 ((key.take 64).map byteV) = (Sh.laid key).map byteV := by
      rw [splice_short key h64]
      unfold Sh.laid
      simp [show ¬ 64 < key.length by omega]
    have HB1 := Lib.hid hb1; have HB0 := Lib.hid hb0; have HO2 := Lib.hid ho2; have HV2 := Lib.hid hv2; have HE := Lib.hid e0
    have hge : ¬ (64 : Int) < (key.length : Int) := by omega
    have HSZ := Lib.hid (size_block (laid_len (key := key)))
    have HONE := Lib.hid (oneCell_bytes (Sh.laid key))
    clear hb1 hb0 ho2 hv2 e0 hv hS hf ht
    go_enter Tryd.func64, Tryd.ntmps64
    go_wp2_with (first
      | (refine wpList_copy_bytes rfl (.tmp 12) (.tmp 13) rfl (w.heap.size + 1) 0 64 64 (.slice va key.length vc) rfl rfl HV2.out HB1.out (by simp [ocells]) ?_; intro w3 hb3 ho3; rw [HE.out] at hb3; have HB3 := Lib.hid hb3; have HO3 := Lib.hid (HO2.out.andThen ho3 (fun k hk e => by omega)); have HC3 := Lib.hid (HB0.out.keep ho3 (by omega)); clear hb3 ho3)
      | (refine wpList_load_row rfl 107 (.tmp 3) rfl (w.heap.size + 1) rfl 107 ((Sh.laid key).map byteV).toArray (0, 0) _ HB3.out.heap Tryd.underlying107 rfl HSZ.out ?_)
      | (refine wpList_store_row rfl 107 (.tmp 2) (.tmp 15) rfl w.heap.size ((Sh.laid key).map byteV).toArray rfl rfl 107 (ocells 64 []).toArray HC3.out.heap HSZ.out (by simp [laid_len, ocells]) HONE.out ?_))
    have hfin := (HC3.out.row ((Sh.laid key).map byteV)).heap
    exact bodyPost_ret (v := .agg ((Sh.laid key).map byteV).toArray) (results_cell_row rfl _ _ w.heap.size 107 _ (0, 0) _ rfl hfin Tryd.underlying107 rfl HSZ.out) rfl ⟨rfl, HO3.out.andThen (Only.setRow _ _) (fun k hk e => by omega)⟩
  · have hd := sum_len key
    have ho2 : Only (fun _ => False) w ((w.alloc (.cells (ocells 64 []).toArray 107)).alloc (.cells (ocells 64 []).toArray 107)) := (Only.alloc _).trans (Only.alloc _)
    have hb1 : Blk ((w.alloc (.cells (ocells 64 []).toArray 107)).alloc (.cells (ocells 64 []).toArray 107)) (w.heap.size + 1) (ocells 64 []) 107 := Blk.new1 _ _ _ _
    have hb0 : Blk ((w.alloc (.cells (ocells 64 []).toArray 107)).alloc (.cells (ocells 64 []).toArray 107)) w.heap.size (ocells 64 []) 107 := (Blk.new _ _ _).alloc _
    have hz2 : ((w.alloc (.cells (ocells 64 []).toArray 107)).alloc (.cells (ocells 64 []).toArray 107)).heap.size = w.heap.size + 1 + 1 := by simp
    have hv2 := hv.only ho2 hS (fun _ _ x => x)
    have e0 : splice (ocells 64 []) 0 (((Sh.sum key).take 64).map byteV) = (Sh.laid key).map byteV := by
      rw [splice_short _ (by omega)]
      unfold Sh.laid
      simp [show 64 < key.length by omega]
    have hlt : (64 : Int) < (key.length : Int) := by omega
    have HB1 := Lib.hid hb1; have HB0 := Lib.hid hb0; have HO2 := Lib.hid ho2; have HE := Lib.hid e0; have HD := Lib.hid hd; have HZ2 := Lib.hid hz2
    have HSZ := Lib.hid (size_block (laid_len (key := key)))
    have HONE := Lib.hid (oneCell_bytes (Sh.laid key))
    have hp := one_part hv2 (fun k hk => Nat.lt_of_lt_of_le (hS k hk) ho2.size)
    have hsum := sSum_any hp (fun _ h => h) (by simpa using hlen) (by simp) ((hf.only ho2 (fun x => x)).alloc _) ((ht.only ho2 (fun x => x)).alloc _)
    rw [List.flatten_cons, List.flatten_nil, List.append_nil, hz2] at hsum
    have HSUM := Lib.hid hsum
    clear hb1 hb0 ho2 hv2 e0 hv hS hf ht hd hz2 hp hsum
    go_enter Tryd.func64, Tryd.ntmps64
    go_wp2_with (first
      | (go_at_call 73; refine HSUM.out.mono ?_; rintro e w3 ⟨rfl, ho3⟩; have ho3' := (HO2.out.trans (Only.alloc _)).trans ho3; have HO3 := Lib.hid ho3'; have HB13 := Lib.hid ((HB1.out.alloc _).keep ho3 (fun x => x)); have HB03 := Lib.hid ((HB0.out.alloc _).keep ho3 (fun x => x)); have hz3 : w.heap.size + 1 < w3.heap.size := HB13.out.lt; have HZ3 := Lib.hid hz3; clear ho3 ho3' hz3)
      | (refine wpList_store_row rfl 22 (.tmp 4) (.tmp 10) rfl w3.heap.size ((Sh.sum key).map byteV).toArray rfl rfl 22 (ocells 32 []).toArray (heap_alloc_last _ _) (hsize_a32 HD.out) (by simp [HD.out, ocells]) (oneCell_bytes _) ?_; rw [World.setRow_alloc_new]; have HV4 := Lib.hid (dig_bytes (Blk.new w3 ((Sh.sum key).map byteV) 22) HD.out); have HB14 := Lib.hid (HB13.out.alloc (.cells ((Sh.sum key).map byteV).toArray 22)); have HB04 := Lib.hid (HB03.out.alloc (.cells ((Sh.sum key).map byteV).toArray 22)); have HO4 := Lib.hid (HO3.out.trans (Only.alloc (.cells ((Sh.sum key).map byteV).toArray 22))); generalize w3.alloc (.cells ((Sh.sum key).map byteV).toArray 22) = w4 at *)
      | (refine wpList_copy_bytes rfl (.tmp 12) (.tmp 13) rfl (w.heap.size + 1) 0 64 64 (.slice (some ⟨w3.heap.size, 0, none⟩) 32 32) rfl rfl HV4.out HB14.out (by simp [ocells]) ?_; intro w5 hb5 ho5; rw [HE.out] at hb5; have HB5 := Lib.hid hb5; have HO5 := Lib.hid (HO4.out.andThen ho5 (fun k hk e => by omega)); have HC5 := Lib.hid (HB04.out.keep ho5 (by omega)); clear hb5 ho5)
      | (refine wpList_load_row rfl 107 (.tmp 3) rfl (w.heap.size + 1) rfl 107 ((Sh.laid key).map byteV).toArray (0, 0) _ HB5.out.heap Tryd.underlying107 rfl HSZ.out ?_)
      | (refine wpList_store_row rfl 107 (.tmp 2) (.tmp 15) rfl w.heap.size ((Sh.laid key).map byteV).toArray rfl rfl 107 (ocells 64 []).toArray HC5.out.heap HSZ.out (by simp [laid_len, ocells]) HONE.out ?_))
    have hfin := (HC5.out.row ((Sh.laid key).map byteV)).heap
    exact bodyPost_ret (v := .agg ((Sh.laid key).map byteV).toArray) (results_cell_row rfl _ _ w.heap.size 107 _ (0, 0) _ rfl hfin Tryd.underlying107 rfl HSZ.out) rfl ⟨rfl, HO5.out.andThen (Only.setRow _ _) (fun k hk e => by omega)⟩

theorem make64 (w : World) : (Instr.makeSlice 23 (.int .i64 64) (.int .i64 64)).run Tryd.prog w = .ok (.slice (some ⟨w.heap.size, 0, none⟩) 64 64) (w.alloc (.cells (ocells 64 []).toArray 5)) := by
  have h := run_make_row' (P := Tryd.prog) 23 5 (.int .u8 0) 1 Tryd.underlying23 info_u8 rfl .i64 .i64 64 (by decide) (by decide) w
  have e : madeCells #[.int .u8 0] 64 = (ocells 64 []).toArray := by kernel_rfl
  rw [e] at h
  exact h

theorem masked_len (key : List UInt8) (x : UInt8) : (Sh.masked key x).length = 64 := by simp [Sh.masked, laid_len]

set_option maxRecDepth 100000 in
set_option maxHeartbeats 1000000 in
theorem masked_any {w : World} {b o : Nat} {l : List UInt8} {x : UInt8} (hr : w.rangeAt b o (l.map byteV)) (hl : l.length = 64) :
    Calls Tryd.prog 67 #[.pointer (some ⟨b, o, none⟩), .int .u8 (x.toNat : Int)] w fun e w' => e = .returned (.slice (some ⟨w.heap.size, 0, none⟩) 64 64) ∧ Blk w' w.heap.size ((l.map (· ^^^ x)).map byteV) 5 ∧ Only (fun _ => False) w w' := by
  have HR := Lib.hid hr; have HL := Lib.hid hl
  have hmk := make64
  have hst := Blk.new w (ocells 64 []) 5
  have HST := Lib.hid hst
  have HOA : Hid (Only (fun _ => False) w (w.alloc (.cells (ocells 64 []).toArray 5))) := Only.alloc _
  clear hr hl hst
  generalize hZ : (ocells 64 []).toArray = Z at *
  have HZ := Lib.hid hZ
  clear hZ
  go_enter Tryd.func67, Tryd.ntmps67
  go_wp2
  go_loopw [8] (fun iv wr => ∃ i : Nat, i ≤ 64 ∧ iv = .int .i64 i ∧ Blk wr w.heap.size (ocells 64 ((l.map (· ^^^ x)).take i)) 5 ∧ Only (fun _ => False) w wr) (fun iv _ => 64 - (intOf iv).toNat)
  case atStart => exact ⟨0, Nat.zero_le _, rfl, HST.out, HOA.out⟩
  case round =>
    obtain ⟨i, hi, rfl, hbk, ho⟩ := hrel
    have hlen : ((l.map (· ^^^ x)).take i).length = i := by have := HL.out; simp; omega
    by_cases hlt : i < 64
    · have hil : i < l.length := by rw [HL.out]; exact hlt
      have hc : wr.cell? ⟨b, o + i, none⟩ = some (.int .u8 ((l.getD i 0).toNat : Int)) := range_byte (rangeAt_only HR.out ho (fun x => x)) hil
      have hz : wr.cell? ⟨w.heap.size, i, none⟩ = some (.int .u8 0) := by rw [hbk.cell]; exact ocells_zero (by omega) hlt
      have hf := hbk.frozen i
      have HNX : Hid (Blk (wr.setCell ⟨w.heap.size, i, none⟩ (byteV (l.getD i 0 ^^^ x))) w.heap.size (ocells 64 ((l.map (· ^^^ x)).take (i + 1))) 5) := by
        have := hbk.set i (byteV (l.getD i 0 ^^^ x))
        have e := ocells_set (n := 64) ((l.map (· ^^^ x)).take i) (l.getD i 0 ^^^ x) (by omega)
        rw [hlen] at e
        rw [e] at this
        rw [List.take_succ_eq_append_getElem (by simpa using hil)]
        exact Lib.hid (by simpa [hil] using this)
      have HON : Hid (∀ v, Only (fun _ => False) w (wr.setCell ⟨w.heap.size, i, none⟩ v)) := fun v =>
        ho.andThen (Only.setCell ⟨w.heap.size, i, none⟩ _) (fun k hk e => by simp at e; omega)
      clear hbk ho hlen hil hmk
      generalize l.getD i 0 = c at *
      go_wp2
      refine ⟨⟨i + 1, by omega, by go_num, ?_, HON.out _⟩, by simp [intOf]; omega⟩
      rw [bits_xor_u8]
      exact HNX.out
    · obtain rfl : i = 64 := by omega
      have e : (l.map (· ^^^ x)).take 64 = l.map (· ^^^ x) := List.take_of_length_le (by rw [List.length_map, HL.out]; omega)
      rw [e, ocells_full (by rw [List.length_map, HL.out])] at hbk
      have HBK := Lib.hid hbk; have HO := Lib.hid ho
      clear hbk ho hlen e hmk
      go_wp2
      go_ret
      exact ⟨rfl, HBK.out, HO.out⟩

end Go.Proofs.YtgdnmbchhfbjoaaDoor
