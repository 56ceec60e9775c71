/- New, Write, Sum of a Hasher; sha.Sum. Conditions: what is written is below 2^39 bytes. -/
import Derived.Test.YtgdnmbchhfbjoaaDoorGParts
import Derived.Test.YtgdnmbchhfbjoaaDoorHFill
namespace Go.Proofs.YtgdnmbchhfbjoaaDoor
open Go.RowKit

theorem Tab.lt {w : World} (h : Tab w) : 1 < w.heap.size := World.block_lt_of_cell? w _ (h 0 (by omega))

def noRest : List UInt8 := List.replicate 64 0
def zero8 : Sh.V8 := ⟨0, 0, 0, 0, 0, 0, 0, 0⟩

theorem zeroHasher : (∀ w, (zeroValue 111).run Tryd.prog w = .ok (.agg (hcells zero8 noRest 0).toArray) w) ∧ (Tryd.prog.info? 111).map (·.size) = some 73 :=
  zero_of_info (v := .agg (hcells zero8 noRest 0).toArray) (n := 73) (by kernel_rfl)

theorem oneCell_hash (s : Sh.V8) (r : List UInt8) (n : Nat) : (hcells s r n).toArray.all (·.oneCell') = true := by
  simp [hcells, hscells, wordV, byteV, Value.oneCell']

theorem sum_eq (m : List UInt8) : Sh.sum m = Sh.out (Sh.after (m ++ Sh.pad m.length) ((m ++ Sh.pad m.length).length / 64)) := by
  unfold Sh.sum
  rw [List.length_append, pad_len, Nat.add_assoc]

theorem sum_len (m : List UInt8) : (Sh.sum m).length = 32 := out_len _

theorem hsize_a32 {bs : List UInt8} (h : bs.length = 32) : (Tryd.prog.info? 22).map (·.size) = some (bs.map byteV).toArray.size := by
  have e : (bs.map byteV).toArray.size = 32 := by simp [h]
  have e2 : (Tryd.prog.info? 22).map (·.size) = some 32 := by kernel_rfl
  rw [e, e2]

theorem HashAt.range {w : World} {b o : Nat} {pre post : List Value} {ty : TypeId} {m : List UInt8} {s : Sh.V8} {r : List UInt8} (h : HashAt w b o pre post ty m s r) : w.rangeAt b o (hcells s r m.length) := by
  refine h.blk.range fun j v hv => ?_
  have hj := (List.getElem?_eq_some_iff.1 hv).1
  have := h.off
  rw [List.getElem?_append_right (by omega), show o + j - pre.length = j by omega, List.getElem?_append_left hj]
  exact hv

set_option maxRecDepth 100000 in
set_option maxHeartbeats 1000000 in
theorem hSum_any {w : World} {b o : Nat} {pre post : List Value} {ty : TypeId} {m : List UInt8} {s : Sh.V8} {r : List UInt8} (h : HashAt w b o pre post ty m s r) (hlen : m.length ≤ 549755813888) (ht : Tab w) :
    Calls Tryd.prog 69 #[.pointer (some ⟨b, o, none⟩)] w fun e w' => e = .returned (digV (Sh.sum m)) ∧ Only (fun _ => False) w w' := by
  have hz := zeroHasher.1
  have H := Lib.hid h; have HT := Lib.hid ht; have HL := Lib.hid hlen
  have hrg : (w.alloc (.cells (ocells 32 []).toArray 22)).rangeAt b o (hcells s r m.length) := World.rangeAt_alloc h.range _
  have HRG := Lib.hid hrg
  have hn : (hcells s r m.length).toArray.size = 73 := by simp [hcells_len h.took.len]
  have hn' : (hcells s r m.length).length = 73 := hcells_len h.took.len
  have hsz : (Tryd.prog.info? 111).map (·.size) = some (hcells s r m.length).toArray.size := by rw [hn]; exact zeroHasher.2
  have hsz' : (Tryd.prog.info? 111).map (·.size) = some (hcells s r m.length).length := by rw [hn']; exact zeroHasher.2
  have hzz : (hcells zero8 noRest 0).toArray.size = (hcells s r m.length).toArray.size := by rw [hn]; rfl
  have HSZ := Lib.hid hsz; have HSZ' := Lib.hid hsz'; have HZZ := Lib.hid hzz
  have HTOOK := Lib.hid h.took
  clear h ht hlen hrg hn hn' hsz hsz' hzz
  generalize hcells zero8 noRest 0 = Z at *
  go_enter Tryd.func69, Tryd.ntmps69
  go_wp2_with (first
    | (refine wpList_load_mid rfl 111 (.tmp 8) rfl b o rfl (hcells s r m.length) _ HRG.out Tryd.underlying111 rfl HSZ'.out ?_)
    | (refine wpList_store_row rfl 111 (.tmp 3) (.tmp 9) rfl (w.heap.size + 1) (hcells s r m.length).toArray rfl rfl 111 Z.toArray (Blk.new1 _ _ _ _) HSZ.out HZZ.out (oneCell_hash _ _ _) ?_))
  generalize hw2 : (((w.alloc _).alloc _).setRow (w.heap.size + 1) _) = w2
  have hb2 : Blk w2 (w.heap.size + 1) (hcells s r m.length) 111 := by
    rw [← hw2]; exact (Blk.new1 w _ Z 111).row _
  have hr2 : Blk w2 w.heap.size (ocells 32 []) 22 := by
    rw [← hw2]; exact ((Blk.new w (ocells 32 []) 22).alloc _).rowNe _ (by omega)
  have ho2 : Only (fun _ => False) w w2 := by
    rw [← hw2]; exact ((Only.alloc _).trans (Only.alloc _)).andThen (Only.setRow _ _) (fun k hk e => by omega)
  have hh2 : HashAt w2 (w.heap.size + 1) 0 [] [] 111 m s r := ⟨by simpa using hb2, rfl, HTOOK.out⟩
  refine (fill_any hh2 HL.out (HT.out.only ho2 (fun x => x)) (by have := HT.out.lt; omega)).mono ?_
  rintro e w3 ⟨rfl, ⟨s3, r3, hh3⟩, ho3⟩
  have hby := bytes_any (w := w3) (b := w.heap.size + 1) (o := 0) (s := s3) (hh3.blk.range fun j v hv => by
    have := hcells_state (r := r3) (n := (m ++ Sh.pad m.length).length) hv
    rw [Nat.zero_add, List.nil_append, List.append_nil]
    exact this)
  have e3 : Sh.out s3 = Sh.sum m := by rw [sum_eq, hh3.took.state]
  rw [e3] at hby
  have hr3 := hr2.keep ho3 (by omega)
  have ho3' : Only (fun _ => False) w w3 := ho2.andThen ho3 (fun k hk e => by omega)
  have HBY := Lib.hid hby; have HR3 := Lib.hid hr3; have HO3 := Lib.hid ho3'
  clear hw2 hb2 hr2 ho2 hh2 hh3 ho3 hby e3 hr3 ho3' hz
  go_wp2_with (first
    | (go_at_call 76; refine HBY.out.mono ?_; rintro e w4 ⟨rfl, ho4⟩; have HR4 := Lib.hid ((HR3.out.keep ho4 (fun x => x)).heap); have HO4 := Lib.hid (HO3.out.trans ho4); clear ho4)
    | (refine wpList_store_row rfl 22 (.tmp 2) (.tmp 12) rfl w.heap.size ((Sh.sum m).map byteV).toArray rfl rfl 22 (ocells 32 []).toArray HR4.out (hsize_a32 (sum_len m)) (by simp [sum_len, ocells]) (oneCell_bytes _) ?_))
  have hfin : (w4.setRow w.heap.size ((Sh.sum m).map byteV).toArray).heap[w.heap.size]? = some (.cells ((Sh.sum m).map byteV).toArray 22 (0, 0)) := Blk.row (L := ocells 32 []) HR4.out _
  refine bodyPost_ret (v := digV (Sh.sum m)) (results_cell_row rfl _ _ w.heap.size 22 _ (0, 0) _ rfl hfin Tryd.underlying22 rfl (hsize_a32 (sum_len m))) rfl ⟨rfl, HO4.out.andThen (Only.setRow _ _) (fun k hk e => by omega)⟩

/-- The first state's words. -/
def Fst (w : World) : Prop := w.rangeAt 0 0 (hscells Sh.h0)
theorem Fst.only {w w' : World} {S : Nat → Prop} (h : Fst w) (ho : Only S w w') (hn : ¬ S 0) : Fst w' := rangeAt_only h ho hn
theorem Fst.alloc {w : World} (h : Fst w) (x : Obj) : Fst (w.alloc x) := h.only (Only.alloc x) (fun x => x)
theorem Tab.alloc {w : World} (h : Tab w) (x : Obj) : Tab (w.alloc x) := h.only (Only.alloc x) (fun x => x)

theorem built_new : Tryd.prog.built 111 [(0, .agg (hscells Sh.h0).toArray)] = some (hcells Sh.h0 noRest 0).toArray := by kernel_rfl

theorem took_none : Took [] Sh.h0 noRest := ⟨rfl, rfl, rfl⟩

set_option maxRecDepth 100000 in
set_option maxHeartbeats 1000000 in
theorem hnew_any {w : World} (hf : Fst w) :
    Calls Tryd.prog 65 #[] w fun e w' => e = .returned (.pointer (some ⟨w.heap.size, 0, none⟩)) ∧ HashAt w' w.heap.size 0 [] [] 111 [] Sh.h0 noRest ∧ Only (fun _ => False) w w' := by
  have HF := Lib.hid hf
  clear hf
  have hsz : (Tryd.prog.info? 109).map (·.size) = some (hscells Sh.h0).length := by kernel_rfl
  go_enter Tryd.func65, Tryd.ntmps65
  go_wp2_with (refine wpList_load_mid rfl 109 (.global 0) rfl 0 0 rfl (hscells Sh.h0) _ HF.out Tryd.underlying109 rfl hsz ?_; refine wpList_build_as rfl 111 #[(0, .tmp 1)] rfl [(0, .agg (hscells Sh.h0).toArray)] (by simp [go_sem]) (hcells Sh.h0 noRest 0).toArray built_new ?_)
  go_ret
  refine ⟨rfl, ⟨?_, rfl, took_none⟩, Only.alloc _⟩
  exact Blk.new w (hcells Sh.h0 noRest 0) 111

set_option maxRecDepth 100000 in
set_option maxHeartbeats 1000000 in
theorem hWrite_any {w : World} {b o : Nat} {pre post : List Value} {ty : TypeId} {m : List UInt8} {s : Sh.V8} {r : List UInt8} (h : HashAt w b o pre post ty m s r) {S : Nat → Prop} {v : Value} {ps : List (List UInt8)} (hv : PartsAt w S v ps) (hS : ∀ k, S k → k < w.heap.size ∧ k ≠ b) (hlen : m.length + ps.flatten.length ≤ 1099511627776) (hn : ps.length ≤ 1048576) (ht : Tab w) (h1 : b ≠ 1) :
    Calls Tryd.prog 68 #[.pointer (some ⟨b, o, none⟩), v] w fun e w' => e = .returned (.tuple #[]) ∧ (∃ s' r', HashAt w' b o pre post ty (m ++ ps.flatten) s' r') ∧ Only (fun k => k = b) w w' := by
  obtain ⟨va, vc, rfl, hcp, hat⟩ := id hv
  have H := Lib.hid h; have HV := Lib.hid hv; have HAT := Lib.hid hat; have HS := Lib.hid hS; have HL := Lib.hid hlen; have HT := Lib.hid ht
  clear h hv hat hS hlen ht
  go_enter Tryd.func68, Tryd.ntmps68
  go_wp2
  go_loopw [10] (fun iv wr => ∃ (i : Nat) (s' : Sh.V8) (r' : List UInt8), i ≤ ps.length ∧ iv = .int .i64 i ∧ HashAt wr b o pre post ty (m ++ (ps.take i).flatten) s' r' ∧ Only (fun k => k = b) w wr) (fun iv _ => ps.length - (intOf iv).toNat)
  case atStart => exact ⟨0, s, r, Nat.zero_le _, rfl, by simpa using H.out, Only.refl _ _⟩
  case round =>
    obtain ⟨i, s', r', hi, rfl, hh, ho⟩ := hrel
    by_cases hlt : i < ps.length
    · obtain ⟨ad, u, rfl, hsb, hcell, hby⟩ := HAT.out i hlt
      have hsb' := HS.out _ hsb
      have c1 : wr.cell? (ad.add i) = some u := by
        rw [World.cell?_of_block (w := w) (by rw [add_block]; exact ho.block _ hsb'.1 hsb'.2)]
        exact hcell
      have hby' : BytesAt wr S u ps[i] := hby.only ho (fun k hk => (HS.out k hk).1) (fun k hk => (HS.out k hk).2)
      have hfl := flatten_take_succ hlt
      have hle := flatten_take_le ps (i + 1)
      have htk := take_any hh hby' (fun k hk => ⟨Nat.lt_of_lt_of_le (HS.out k hk).1 ho.size, (HS.out k hk).2⟩) (by
        have := HL.out
        rw [List.length_append, Nat.add_assoc, ← List.length_append, ← hfl]
        omega) (HT.out.only ho (Ne.symm h1)) h1
      rw [List.append_assoc, ← hfl] at htk
      have HTK := Lib.hid htk; have HO := Lib.hid ho
      obtain ⟨ua, uc, rfl⟩ := hby.shape
      have pz : 0 ≤ (i : Int) := by omega
      have mz : (i : Int) < (ps.length : Int) := by omega
      clear hh ho hcell hby hby' hfl hle htk hsb hsb'
      generalize ps[i].length = lu at *
      go_wp2_with (go_at_call 66; refine HTK.out.mono ?_; rintro e w9 ⟨rfl, hh9, ho9⟩; have HH9 := Lib.hid hh9; have HO9 := Lib.hid ho9; clear hh9 ho9)
      obtain ⟨s9, r9, h9⟩ := HH9.out
      exact ⟨⟨i + 1, s9, r9, by omega, by go_num, h9, HO.out.trans HO9.out⟩, by simp [intOf]; omega⟩
    · have e : ps.take i = ps := List.take_of_length_le (by omega)
      rw [e] at hh
      have HH := Lib.hid hh; have HO := Lib.hid ho
      clear hh ho e
      go_wp2
      go_end0
      exact ⟨rfl, ⟨s', r', HH.out⟩, HO.out⟩

theorem sSum_lt {w : World} (hf : Fst w) : 0 < w.heap.size := World.block_lt_of_cell? w _ (hf 0 _ rfl)

set_option maxRecDepth 100000 in
set_option maxHeartbeats 1000000 in
theorem sSum_any {w : World} {S : Nat → Prop} {v : Value} {ps : List (List UInt8)} (hv : PartsAt w S v ps) (hS : ∀ k, S k → k < w.heap.size) (hlen : ps.flatten.length ≤ 549755813888) (hn : ps.length ≤ 1048576) (hf : Fst w) (ht : Tab w) :
    Calls Tryd.prog 73 #[v] w fun e w' => e = .returned (digV (Sh.sum ps.flatten)) ∧ Only (fun _ => False) w w' := by
  have HV := Lib.hid hv; have HS := Lib.hid hS; have HL := Lib.hid hlen; have HT := Lib.hid ht; have HF := Lib.hid hf
  have h2 := ht.lt
  obtain ⟨va, vc, rfl, _, _⟩ := hv
  clear hS hlen ht hf
  have hb0 : Blk (w.alloc (.cells (ocells 32 []).toArray 22)) w.heap.size (ocells 32 []) 22 := Blk.new _ _ _
  have HB0 := Lib.hid hb0
  have HN := Lib.hid (hnew_any (HF.out.alloc (.cells (ocells 32 []).toArray 22)))
  have HOA : Hid (Only (fun _ => False) w (w.alloc (.cells (ocells 32 []).toArray 22))) := Only.alloc _
  have hz1 : (w.alloc (.cells (ocells 32 []).toArray 22)).heap.size = w.heap.size + 1 := by simp
  have HZ1 := Lib.hid hz1
  clear hb0 hz1
  go_enter Tryd.func73, Tryd.ntmps73
  go_wp2_with fail
  change Calls Tryd.prog 65 #[] (w.alloc (.cells (ocells 32 []).toArray 22)) _
  generalize w.alloc (.cells (ocells 32 []).toArray 22) = w1 at *
  refine HN.out.mono ?_
  rintro e w2 ⟨rfl, hh2, ho2⟩
  rw [HZ1.out] at hh2
  rw [HZ1.out]
  have hr2 := HB0.out.keep ho2 (fun x => x)
  have ho2' := HOA.out.trans ho2
  have hw := hWrite_any hh2 (HV.out.only ho2' HS.out (fun _ _ x => x)) (fun k hk => ⟨Nat.lt_of_lt_of_le (HS.out k hk) ho2'.size, by have := HS.out k hk; omega⟩) (by have := HL.out; rw [List.length_nil]; omega) hn (HT.out.only ho2' (fun x => x)) (by omega)
  rw [List.nil_append] at hw
  have HW := Lib.hid hw; have HR2 := Lib.hid hr2; have HO2 := Lib.hid ho2'
  clear hh2 ho2 hr2 ho2' hw
  go_wp2_with fail
  refine HW.out.mono ?_
  rintro e w3 ⟨rfl, ⟨s3, r3, hh3⟩, ho3⟩
  have hr3 := HR2.out.keep ho3 (by omega)
  have ho3' : Only (fun _ => False) w w3 := HO2.out.andThen ho3 (fun k hk e => by omega)
  have HSUM := Lib.hid (hSum_any hh3 HL.out (HT.out.only ho3' (fun x => x)))
  have HR3 := Lib.hid hr3; have HO3 := Lib.hid ho3'
  clear hh3 ho3 hr3 ho3'
  go_wp2_with (first
    | (go_at_call 69; refine HSUM.out.mono ?_; rintro e w4 ⟨rfl, ho4⟩; have HR4 := Lib.hid ((HR3.out.keep ho4 (fun x => x)).heap); have HO4 := Lib.hid (HO3.out.trans ho4); clear ho4)
    | (refine wpList_store_row rfl 22 (.tmp 2) (.tmp 9) rfl w.heap.size ((Sh.sum ps.flatten).map byteV).toArray rfl rfl 22 (ocells 32 []).toArray HR4.out (hsize_a32 (sum_len _)) (by simp [sum_len, ocells]) (oneCell_bytes _) ?_))
  have hfin : (w4.setRow w.heap.size ((Sh.sum ps.flatten).map byteV).toArray).heap[w.heap.size]? = some (.cells ((Sh.sum ps.flatten).map byteV).toArray 22 (0, 0)) := Blk.row (L := ocells 32 []) HR4.out _
  refine bodyPost_ret (v := digV (Sh.sum ps.flatten)) (results_cell_row rfl _ _ w.heap.size 22 _ (0, 0) _ rfl hfin Tryd.underlying22 rfl (hsize_a32 (sum_len _))) rfl ⟨rfl, HO4.out.andThen (Only.setRow _ _) (fun k hk e => by omega)⟩

end Go.Proofs.YtgdnmbchhfbjoaaDoor
