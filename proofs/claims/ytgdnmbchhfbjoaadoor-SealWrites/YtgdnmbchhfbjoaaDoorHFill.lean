/- (*Hasher).fill: what was written is filled up. Conditions: what was written is below 2^39 bytes. -/
import Derived.Test.YtgdnmbchhfbjoaaDoorGMem
import Derived.Test.YtgdnmbchhfbjoaaDoorHTake
namespace Go.Proofs.YtgdnmbchhfbjoaaDoor
open Go.RowKit

/-- The tail as far as i bytes of the length are laid. -/
def tailed (n i : Nat) : List UInt8 := 128 :: (List.replicate (Sh.noughts n) 0 ++ (Sh.be8 (n * 8)).take i)

theorem be8_len (n : Nat) : (Sh.be8 n).length = 8 := by simp [Sh.be8]
theorem tailed_len {n i : Nat} (h : i ≤ 8) : (tailed n i).length = 1 + Sh.noughts n + i := by
  simp [tailed, be8_len]; omega
theorem tailed_all (n : Nat) : tailed n 8 = Sh.pad n := by
  unfold tailed Sh.pad
  rw [List.take_of_length_le (by rw [be8_len]; omega)]
theorem noughts_lt (n : Nat) : Sh.noughts n < 64 := by unfold Sh.noughts; omega
theorem pad_len (n : Nat) : (Sh.pad n).length = 9 + Sh.noughts n := by
  rw [← tailed_all, tailed_len (by omega)]; omega
theorem tailed_succ {n i : Nat} (h : i < 8) : tailed n (i + 1) = tailed n i ++ [UInt8.ofNat (n * 8 / 2 ^ (8 * (7 - i)))] := by
  unfold tailed
  rw [List.take_succ_eq_append_getElem (by rw [be8_len]; omega)]
  simp [Sh.be8]
theorem zero72 : (∀ w, (zeroValue 128).run Tryd.prog w = .ok (.agg (ocells 72 []).toArray) w) ∧ (Tryd.prog.info? 128).map (·.size) = some 72 :=
  zero_of_info (v := .agg (ocells 72 []).toArray) (n := 72) (by kernel_rfl)

theorem ocells_tail0 (n : Nat) : (ocells 72 []).set 0 (byteV 128) = ocells 72 (tailed n 0) := by
  have h := noughts_lt n
  unfold ocells tailed
  simp only [List.map_nil, List.nil_append, List.length_nil, Nat.sub_zero, List.take_zero, List.append_nil, List.map_cons, List.map_replicate, List.cons_append, List.length_cons, List.length_replicate, List.replicate_append_replicate]
  rw [show (72 : Nat) = 71 + 1 from rfl, List.replicate_succ, List.set_cons_zero]
  congr 2
  omega

set_option maxRecDepth 100000 in
set_option maxHeartbeats 1000000 in
theorem fill_any {w : World} {b o : Nat} {pre post : List Value} {ty : TypeId} {m : List UInt8} {s : Sh.V8} {r : List UInt8} (h : HashAt w b o pre post ty m s r) (hlen : m.length ≤ 549755813888) (ht : Tab w) (h1 : b ≠ 1) :
    Calls Tryd.prog 75 #[.pointer (some ⟨b, o, none⟩)] w fun e w' => e = .returned (.tuple #[]) ∧ (∃ s' r', HashAt w' b o pre post ty (m ++ Sh.pad m.length) s' r') ∧ Only (fun k => k = b) w w' := by
  obtain ⟨q, hq⟩ : ∃ q, m.length = q := ⟨_, rfl⟩
  have hbk := h.blk
  have hbl := hbk.lt
  rw [hq] at hbk
  have cn : w.cell? ⟨b, o + 72, none⟩ = some (.int .i64 (q : Int)) := by
    have hoff := h.off
    have hl := h.took.len
    rw [hbk.cell, List.getElem?_append_right (by omega), hoff, show o + 72 - o = 72 by omega, List.getElem?_append_left (by rw [hcells_len hl]; omega)]
    exact hcells_num hl
  have H := Lib.hid h; have HT := Lib.hid ht; have HQ := Lib.hid hq
  rw [hq] at hlen
  obtain ⟨z, hz⟩ : ∃ z, Sh.noughts q = z := ⟨_, rfl⟩
  have hz64 : z < 64 := by rw [← hz]; exact noughts_lt q
  have hrem : ((119 - ((q : Int) % 64)) % 64) = (z : Int) := by
    rw [← hz]; unfold Sh.noughts; omega
  have HZ := Lib.hid hz
  have hz77 := zero72.1
  obtain ⟨Z, hZ⟩ : ∃ Z, (ocells 72 []).toArray = Z := ⟨_, rfl⟩
  rw [hZ] at hz77
  have HZ0 := Lib.hid hZ
  have c0 : (w.alloc (.cells Z 128)).cell? ⟨w.heap.size, 0, none⟩ = some (.int .u8 0) := by
    rw [← hZ]; exact (Blk.new w (ocells 72 []) 128).cell 0
  clear hbk h ht hz hq hZ
  go_enter Tryd.func75, Tryd.ntmps75
  go_wp2
  rw [hrem]
  have hst : Blk (w.alloc (.cells (Z.setIfInBounds 0 (.int .u8 128)) 128)) w.heap.size (ocells 72 (tailed q 0)) 128 := by
    rw [← ocells_tail0, ← HZ0.out]
    have := Blk.new w ((ocells 72 []).set 0 (byteV 128)) 128
    simpa [byteV] using this
  have HST := Lib.hid hst
  have HOA : Hid (Only (fun _ => False) w (w.alloc (.cells (Z.setIfInBounds 0 (.int .u8 128)) 128))) := Only.alloc _
  clear hst hz77 c0 hrem
  generalize w.alloc (.cells (Z.setIfInBounds 0 (.int .u8 128)) 128) = w0 at *
  go_loopw [20] (fun iv wr => ∃ i : Nat, i ≤ 8 ∧ iv = .int .i64 i ∧ Blk wr w.heap.size (ocells 72 (tailed q i)) 128 ∧ Only (fun _ => False) w wr) (fun iv _ => 8 - (intOf iv).toNat)
  case atStart => exact ⟨0, Nat.zero_le _, rfl, HST.out, HOA.out⟩
  case round =>
    obtain ⟨i, hi, rfl, hbk, ho⟩ := hrel
    have hlen := tailed_len (n := q) hi
    rw [HZ.out] at hlen
    by_cases hlt : i < 8
    · have cz : wr.cell? ⟨w.heap.size, 1 + z + i, none⟩ = some (.int .u8 0) := by
        rw [hbk.cell]; exact ocells_zero (by omega) (by omega)
      have cf := hbk.frozen (1 + z + i)
      have HNX : Hid (Blk (wr.setCell ⟨w.heap.size, 1 + z + i, none⟩ (byteV (UInt8.ofNat (q * 8 / 2 ^ (8 * (7 - i)))))) w.heap.size (ocells 72 (tailed q (i + 1))) 128) := by
        have := hbk.set (1 + z + i) (byteV (UInt8.ofNat (q * 8 / 2 ^ (8 * (7 - i)))))
        rw [← hlen, ocells_set _ _ (by omega), ← tailed_succ hlt] at this
        rw [← hlen]
        exact this
      have HON : Hid (∀ v, Only (fun _ => False) w (wr.setCell ⟨w.heap.size, 1 + z + i, none⟩ v)) := fun v =>
        ho.andThen (Only.setCell ⟨w.heap.size, 1 + z + i, none⟩ _) (fun k hk e => by simp at e; omega)
      clear hbk ho hlen
      go_wp2
      refine ⟨⟨i + 1, by omega, by go_num, ?_, HON.out _⟩, by simp [intOf]; omega⟩
      have e : byteV (UInt8.ofNat (q * 8 / 2 ^ (8 * (7 - i)))) = .int .u8 ((q : Int) * 8 / 2 ^ (8 * (7 - i)) % 256) := by
        unfold byteV
        rw [byte_of_nat]
        simp
      rw [← e]
      exact HNX.out
    · obtain rfl : i = 8 := by omega
      rw [tailed_all] at hbk
      have hpl := pad_len q
      rw [HZ.out] at hpl
      have hH : HashAt wr b o pre post ty m s r := ⟨H.out.blk.keep ho (fun x => x), H.out.off, H.out.took⟩
      have hB : BytesAt wr (fun k => k = w.heap.size) (.slice (some ⟨w.heap.size, 0, none⟩) (Sh.pad q).length 72) (Sh.pad q) :=
        BytesAt.of_block hbk.heap (by omega) (fun j x hx => by
          have hj := (List.getElem?_eq_some_iff.1 hx).1
          unfold ocells
          rw [Nat.zero_add, List.getElem?_append_left (by simpa using hj), List.getElem?_map, hx]
          rfl)
      have htk := take_any hH hB (fun k hk => by subst hk; exact ⟨hbk.lt, by omega⟩) (by rw [HQ.out]; omega) (HT.out.only ho (fun x => x)) h1
      rw [hpl, show 9 + z = 1 + z + 8 by omega] at htk
      have hsl : ∀ w1 : World, (Instr.sliceAt 128 (.pointer (some ⟨w.heap.size, 0, none⟩)) none (some (.int .i64 (1 + (z : Int) + 8))) none).run Tryd.prog w1 = .ok (.slice (some ⟨w.heap.size, 0, none⟩) (1 + z + 8) 72) w1 := fun w1 => by
        rw [run_sliceAt_array_h (ht := by kernel_rfl) (h0 := by omega) (h2 := by rw [show Tryd.prog.arrayLen 128 = 72 by kernel_rfl]; omega)]
        have hsz : (sizeOf (Tryd.prog.elem 128)).run Tryd.prog w1 = .ok 1 w1 := by kernel_rfl
        rw [hsz, show Tryd.prog.arrayLen 128 = 72 by kernel_rfl, show (1 + (z : Int) + 8).toNat = 1 + z + 8 by omega]
        simp [Result.andThen, slicedAt, Addr.add]
      have HTK := Lib.hid htk; have HO := Lib.hid ho
      clear hbk ho hlen hpl hH hB htk
      go_wp2_with (go_at_call 66; refine HTK.out.mono ?_; rintro e w9 ⟨rfl, hh9, ho9⟩; have HH9 := Lib.hid hh9; have HO9 := Lib.hid ho9; clear hh9 ho9)
      go_end0
      rw [HQ.out]
      exact ⟨rfl, HH9.out, (HO.out.mono (fun _ _ x => x.elim)).trans HO9.out⟩

end Go.Proofs.YtgdnmbchhfbjoaaDoor
