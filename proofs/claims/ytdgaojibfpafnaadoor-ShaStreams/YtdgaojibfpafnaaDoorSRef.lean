/- The document's own rows: what is appended to; filled. Conditions: rows below 2^40 bytes. -/
import Derived.Test.YtdgaojibfpafnaaDoorSAlive
namespace Go.Proofs.YtdgaojibfpafnaaDoor
open Go.RowKit

/-- A row that the call itself has made, and holds bs. -/
structure Row (w wr : World) (ov : Value) (bs : List UInt8) : Prop where
  row : wr.ownsRow 0 5 1 ov bs.length (bs.map byteV)
  own : ∀ q, ov.ownBlock = some q → w.heap.size ≤ q
  only : Only (fun _ => False) w wr

theorem Row.app {w wr w1 w2 : World} {ov : Value} {bs y : List UInt8} {a : Option Addr} {n c : Nat} (h : Row w wr ov bs) (ho : Only (fun _ => False) wr w1) (hn : n = bs.length + y.length) (hr : w2.ownsRow 0 5 1 (.slice a n c) n (bs.map byteV ++ y.map byteV)) (hg : w1.grownBy w2 ov.ownBlock) (hat : (Value.slice a n c).ownBlock = ov.ownBlock ∨ (Value.slice a n c).ownBlock = some w1.heap.size) :
    Row w w2 (.slice a n c) (bs ++ y) := by
  subst hn
  have hz := ho.size
  have hz0 := h.only.size
  refine ⟨by rw [List.length_append, List.map_append]; exact hr, fun q hq => ?_, ?_⟩
  · rcases hat with e | e
    · exact h.own q (by rw [← e]; exact hq)
    · rw [hq] at e
      have e1 : q = w1.heap.size := Option.some.inj e
      omega
  · refine (h.only.trans ho).andThen ((Only.of_grown hg).mono (S' := fun q => some q = ov.ownBlock) (fun q _ h => h)) (fun k hk e => ?_)
    have := h.own k e.symm
    omega

theorem Row.shape {w wr : World} {ov : Value} {bs : List UInt8} (h : Row w wr ov bs) : ∃ a c, ov = .slice a bs.length c := row_shape h.row
theorem Row.keep {w wr w1 : World} {ov : Value} {bs : List UInt8} (h : Row w wr ov bs) (ho : Only (fun _ => False) wr w1) : w1.ownsRow 0 5 1 ov bs.length (bs.map byteV) :=
  ownsRow_keep h.row (fun q hq => ho.block q (h.row.lt q hq).2 (fun x => x))
theorem Row.kept {w wr w1 : World} {ov : Value} {bs : List UInt8} (h : Row w wr ov bs) (ho : Only (fun _ => False) wr w1) : Row w w1 ov bs := ⟨h.keep ho, h.own, h.only.trans ho⟩
theorem Row.bytes {w wr : World} {ov : Value} {bs : List UInt8} (h : Row w wr ov bs) : BytesAt wr (fun k => k < wr.heap.size) ov bs :=
  (BytesAt.of_row h.row).mono (fun k hk => (h.row.lt k hk).2)

theorem one_byte (w : World) (b : UInt8) : BytesAt (w.alloc (.cells #[byteV b] 5)) (fun k => k = w.heap.size) (.slice (some ⟨w.heap.size, 0, none⟩) 1 1) [b] :=
  BytesAt.of_block (o := 0) (c := 1) (bs := [b]) (Blk.new w [byteV b] 5).heap (Nat.le_refl _) (fun j x hx => by
    match j, hx with
    | 0, hx => cases hx; rfl)

/-- The row of filled as far as k noughts are laid. -/
def noughted (m : List UInt8) (k : Nat) : List UInt8 := m ++ (128 :: List.replicate k 0)
theorem noughted_len (m : List UInt8) (k : Nat) : (noughted m k).length = m.length + 1 + k := by simp [noughted]; omega
theorem noughted_succ (m : List UInt8) (k : Nat) : noughted m (k + 1) = noughted m k ++ [0] := by
  simp [noughted, List.replicate_succ']
theorem noughted_tail (m : List UInt8) (i : Nat) : m ++ tailed m.length i = noughted m (Sh.noughts m.length) ++ (Sh.be8 (m.length * 8)).take i := by
  simp [noughted, tailed]

set_option maxRecDepth 100000 in
set_option maxHeartbeats 1000000 in
theorem filled_any {w : World} {S : Nat → Prop} {v : Value} {m : List UInt8} (hv : BytesAt w S v m) (hS : ∀ k, S k → k < w.heap.size) (hlen : m.length ≤ 1099511627776) :
    Calls Tryd.prog 33 #[v] w fun e w' => ∃ a c, e = .returned (.slice a (m ++ Sh.pad m.length).length c) ∧ Row w w' (.slice a (m ++ Sh.pad m.length).length c) (m ++ Sh.pad m.length) := by
  obtain ⟨va, vc, rfl⟩ := hv.shape
  have hb0 : (w.alloc (.cells #[] 5)).ownsRow 0 5 1 (.slice (some ⟨w.heap.size, 0, none⟩) 0 0) 0 [] := World.ownsRow_made w #[] 0 (Nat.zero_le _) (Nat.zero_le _) rfl
  have hsrc := hv.only (Only.alloc (w := w) (.cells #[] 5)) hS (fun _ _ x => x)
  have HB := Lib.hid hb0; have HSRC := Lib.hid hsrc; have HL := Lib.hid hlen
  have hli : (m.length : Int) ≤ 1099511627776 := by omega
  obtain ⟨z, hz⟩ : ∃ z, Sh.noughts m.length = z := ⟨_, rfl⟩
  have hz64 : z < 64 := by rw [← hz]; exact noughts_lt _
  have hzm : (m.length + 1 + z) % 64 = 56 := by rw [← hz]; unfold Sh.noughts; omega
  have HZ := Lib.hid hz
  clear hv hS hb0 hsrc hlen hz
  go_enter Tryd.func33, Tryd.ntmps33
  go_wp2_with (first
    | (at_builtin; refine wpList_append_bytes _ rfl _ _ rfl (.slice (some ⟨w.heap.size, 0, none⟩) 0 0) (.slice va m.length vc) 0 [] rfl rfl HB.out HSRC.out (by have := HL.out; omega) ?_; intro a1 c1 w1 hr1 hg1 hat1; have h1 : Row w w1 (.slice a1 (0 + m.length) c1) ([] ++ m) := Row.app (wr := w.alloc (.cells #[] 5)) (ov := .slice (some ⟨w.heap.size, 0, none⟩) 0 0) ⟨HB.out, fun q hq => by have : w.heap.size = q := Option.some.inj hq; omega, Only.alloc _⟩ (Only.refl _ _) (by simp) hr1 hg1 hat1; rw [Nat.zero_add, List.nil_append] at h1; have H1 := Lib.hid h1; have HR1 := Lib.hid (h1.keep (Only.alloc (.cells #[byteV 128] 5))); clear hr1 hg1 hat1 h1)
    | (at_builtin; refine wpList_append_bytes _ rfl _ _ rfl (.slice a1 m.length c1) (.slice (some ⟨w1.heap.size, 0, none⟩) 1 1) m.length (m.map byteV) rfl rfl HR1.out (one_byte w1 128) (by have := HL.out; simp; omega) ?_; intro a2 c2 w2 hr2 hg2 hat2; have H2 := Lib.hid (Row.app H1.out (Only.alloc (.cells #[byteV 128] 5)) rfl hr2 hg2 hat2); clear hr2 hg2 hat2))
  have HST : Hid (Row w w2 (.slice a2 (m.length + 1) c2) (noughted m 0)) := H2.out
  clear H2 H1 HR1 HB HSRC
  go_loopw [3] (fun ov wr => ∃ k : Nat, k ≤ z ∧ Row w wr ov (noughted m k)) (fun ov _ => match ov with | .slice _ n _ => m.length + 1 + z - n | _ => 0)
  case atStart => exact ⟨0, Nat.zero_le _, HST.out⟩
  case round =>
    obtain ⟨k, hk, hr⟩ := hrel
    obtain ⟨oa, oc, rfl⟩ := hr.shape
    rw [noughted_len] at *
    by_cases hlt : k < z
    · have hne : (((m.length : Int) + 1 + (k : Int)) % 64 != 56) = true := by simp; omega
      have HR := Lib.hid hr
      have HK := Lib.hid (hr.keep (Only.alloc (.cells #[byteV 0] 5)))
      clear hr hzm
      go_wp2_with (at_builtin; refine wpList_append_bytes _ rfl _ _ rfl (.slice oa (m.length + 1 + k) oc) (.slice (some ⟨wr.heap.size, 0, none⟩) 1 1) (m.length + 1 + k) ((noughted m k).map byteV) rfl rfl (by have := HK.out; rw [noughted_len] at this; exact this) (one_byte wr 0) (by have := HL.out; simp; omega) ?_; intro a3 c3 w3 hr3 hg3 hat3; have h3 := Row.app (n := m.length + 1 + k + 1) HR.out (Only.alloc (.cells #[byteV 0] 5)) (by rw [noughted_len]; rfl) hr3 hg3 hat3; rw [← noughted_succ] at h3; have H3 := Lib.hid h3; clear hr3 hg3 hat3 h3)
      exact ⟨⟨k + 1, by omega, H3.out⟩, by simp; omega⟩
    · obtain rfl : k = z := by omega
      have hne : (((m.length : Int) + 1 + (k : Int)) % 64 != 56) = false := by simp; omega
      have e0 := noughted_tail m 0
      rw [HZ.out, List.take_zero, List.append_nil] at e0
      have HST2 : Hid (Row w wr (.slice oa (m.length + 1 + k) oc) (m ++ tailed m.length 0)) := by rw [e0]; exact hr
      clear hr hzm e0
      go_wp2
      clear hne
      go_loopw [3, 5] (fun ov iv wr => ∃ i : Nat, i ≤ 8 ∧ iv = .int .i64 i ∧ Row w wr ov (m ++ tailed m.length i)) (fun _ iv _ => 8 - (intOf iv).toNat)
      case atStart => exact ⟨0, Nat.zero_le _, rfl, HST2.out⟩
      case round =>
        obtain ⟨i, hi, rfl, hr⟩ := hrel
        obtain ⟨oa, oc, rfl⟩ := hr.shape
        have hlen : (m ++ tailed m.length i).length = m.length + (1 + k + i) := by rw [List.length_append, tailed_len hi, HZ.out]
        by_cases hlt : i < 8
        · have hrow := hr.keep (Only.alloc (.cells #[.int .u8 ((m.length : Int) * 8 / 2 ^ (56 - 8 * i) % 256)] 5))
          rw [hlen] at hrow
          rw [hlen]
          have e : byteV (UInt8.ofNat (m.length * 8 / 2 ^ (8 * (7 - i)))) = .int .u8 ((m.length : Int) * 8 / 2 ^ (56 - 8 * i) % 256) := by
            unfold byteV
            rw [byte_of_nat, show 8 * (7 - i) = 56 - 8 * i by omega]
            simp
          have hsr := one_byte wr (UInt8.ofNat (m.length * 8 / 2 ^ (8 * (7 - i))))
          rw [e] at hsr
          have HSR := Lib.hid hsr; have HROW := Lib.hid hrow; have HR := Lib.hid hr; have HTS := Lib.hid (tailed_succ (n := m.length) hlt)
          have HLEN := Lib.hid hlen
          clear hr hrow hsr e hlen
          go_wp2_with (at_builtin; refine wpList_append_bytes _ rfl _ _ rfl (.slice oa (m.length + (1 + k + i)) oc) (.slice (some ⟨wr.heap.size, 0, none⟩) 1 1) (m.length + (1 + k + i)) ((m ++ tailed m.length i).map byteV) rfl rfl HROW.out HSR.out (by have := HL.out; simp; omega) ?_; intro a3 c3 w3 hr3 hg3 hat3; have hro := HR.out; rw [HLEN.out] at hro; have h3 := Row.app (n := m.length + (1 + k + i) + 1) hro (Only.alloc (.cells #[.int .u8 ((m.length : Int) * 8 / 2 ^ (56 - 8 * i) % 256)] 5)) (by rw [HLEN.out]; rfl) hr3 hg3 hat3; rw [List.append_assoc, ← HTS.out] at h3; have H3 := Lib.hid h3; clear hr3 hg3 hat3 h3 hro)
          exact ⟨⟨i + 1, by omega, by go_num, H3.out⟩, by simp [intOf]; omega⟩
        · obtain rfl : i = 8 := by omega
          rw [tailed_all] at hr ⊢
          have HR := Lib.hid hr
          clear hr hlen
          go_wp2
          go_ret
          exact ⟨oa, oc, rfl, HR.out⟩

end Go.Proofs.YtdgaojibfpafnaaDoor
