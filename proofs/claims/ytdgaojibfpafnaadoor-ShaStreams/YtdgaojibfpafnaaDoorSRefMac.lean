/- The document's own HMAC: amphoraref02.Mac. Conditions: key and message are below 2^38 bytes. -/
import Derived.Test.YtdgaojibfpafnaaDoorSParts
import Derived.Test.YtdgaojibfpafnaaDoorSRefSum
namespace Go.Proofs.YtdgaojibfpafnaaDoor
open Go.RowKit

/-- The key, or its digest. -/
def keyOf (key : List UInt8) : List UInt8 := if 64 < key.length then Sh.sum key else key
theorem keyOf_len (key : List UInt8) : (keyOf key).length ≤ 64 := by
  unfold keyOf
  split
  · rw [sum_len]; decide
  · omega
theorem laid_keyOf (key : List UInt8) : Sh.laid key = keyOf key ++ List.replicate (64 - (keyOf key).length) 0 := rfl
theorem laid_getD (key : List UInt8) (i : Nat) : (Sh.laid key).getD i 0 = (keyOf key).getD i 0 := by
  rw [laid_keyOf, List.getD_eq_getElem?_getD, List.getD_eq_getElem?_getD]
  by_cases h : i < (keyOf key).length
  · rw [List.getElem?_append_left h]
  · rw [List.getElem?_append_right (by omega), List.getElem?_eq_none (l := keyOf key) (by omega), List.getElem?_replicate]
    split <;> rfl

/-- A block that is known whole, as an owned row. -/
theorem Blk.owns {w : World} {g : Nat} {bs : List UInt8} (h : Blk w g (bs.map byteV) 5) (hl : bs.length = 64) : w.ownsRow 0 5 1 (.slice (some ⟨g, 0, none⟩) 64 64) 64 (bs.map byteV) :=
  ⟨by simp [hl], .inr ⟨g, 64, (bs.map byteV).toArray, rfl, Nat.zero_le _, h.heap, Nat.le_refl _, by unfold maxLen; decide, by simp [hl], by rw [Nat.mul_one]; exact List.take_of_length_le (by simp [hl])⟩⟩
theorem Blk.bytes64 {w : World} {g : Nat} {bs : List UInt8} (h : Blk w g (bs.map byteV) 5) (hl : bs.length = 64) : BytesAt w (fun k => k = g) (.slice (some ⟨g, 0, none⟩) 64 64) bs := by
  have := BytesAt.of_block (o := 0) (c := 64) (bs := bs) h.heap (by omega) (fun j x hx => by rw [Nat.zero_add, List.getElem?_map, hx]; rfl)
  rwa [hl] at this

/-- A row that is filled with masked bytes, one more. -/
theorem mask_next {wr : World} {g i : Nat} {key : List UInt8} {x : UInt8} (hb : Blk wr g (ocells 64 ((Sh.masked key x).take i)) 5) (hi : i < 64) :
    Blk (wr.setCell ⟨g, i, none⟩ (byteV ((keyOf key).getD i 0 ^^^ x))) g (ocells 64 ((Sh.masked key x).take (i + 1))) 5 := by
  have hlen : ((Sh.masked key x).take i).length = i := by rw [List.length_take, masked_len]; omega
  have := hb.set i (byteV ((keyOf key).getD i 0 ^^^ x))
  have e := ocells_set (n := 64) ((Sh.masked key x).take i) ((keyOf key).getD i 0 ^^^ x) (by omega)
  rw [hlen] at e
  rw [e] at this
  rw [List.take_succ_eq_append_getElem (by rw [masked_len]; exact hi)]
  have hil : i < (Sh.laid key).length := by rw [laid_len]; exact hi
  have e2 : (Sh.masked key x)[i]'(by rw [masked_len]; exact hi) = (keyOf key).getD i 0 ^^^ x := by
    rw [← laid_getD]
    simp [Sh.masked, hil]
  rw [e2]
  exact this

/-- What the loop over the key's bytes keeps. -/
structure MacIn (w wr : World) (r g1 g2 : Nat) (key : List UInt8) (s0 : Value) (i : Nat) : Prop where
  res : Blk wr r (ocells 32 []) 26
  ins : Blk wr g1 (ocells 64 ((Sh.masked key 0x36).take i)) 5
  outs : Blk wr g2 (ocells 64 ((Sh.masked key 0x5c).take i)) 5
  key : BytesAt wr (fun k => k < g1) s0 (keyOf key)
  only : Only (fun _ => False) w wr

/-- What the loop over the parts keeps. -/
structure MacMid (w wr : World) (r g2 : Nat) (key : List UInt8) (mv : Value) (bs : List UInt8) : Prop where
  res : Blk wr r (ocells 32 []) 26
  row : Row w wr mv bs
  outs : Blk wr g2 ((Sh.masked key 0x5c).map byteV) 5
  ne : mv.ownBlock ≠ some g2
  far : ∀ q, mv.ownBlock = some q → r < q

theorem MacMid.app {w wr w2 : World} {r g2 : Nat} {key bs y : List UInt8} {ov : Value} {a : Option Addr} {n c : Nat} (h : MacMid w wr r g2 key ov bs) (hn : n = bs.length + y.length) (hr : w2.ownsRow 0 5 1 (.slice a n c) n (bs.map byteV ++ y.map byteV)) (hg : wr.grownBy w2 ov.ownBlock) (hat : (Value.slice a n c).ownBlock = ov.ownBlock ∨ (Value.slice a n c).ownBlock = some wr.heap.size) :
    MacMid w w2 r g2 key (.slice a n c) (bs ++ y) := by
  have ho : Only (fun k => some k = ov.ownBlock) wr w2 := Only.of_grown hg
  refine ⟨h.res.keep ho (fun e => by have := h.far r e.symm; omega), h.row.app (Only.refl _ _) hn hr hg hat, h.outs.keep ho (fun e => h.ne e.symm), fun e => ?_, fun q hq => ?_⟩
  · rcases hat with h1 | h1
    · exact h.ne (h1.symm.trans e)
    · rw [e] at h1
      have := Option.some.inj h1
      have := h.outs.lt
      omega
  · rcases hat with h1 | h1
    · exact h.far q (h1.symm.trans hq)
    · rw [hq] at h1
      have := Option.some.inj h1
      have := h.res.lt
      omega

set_option maxRecDepth 100000 in
set_option maxHeartbeats 2000000 in
theorem rMac_any {w : World} {S : Nat → Prop} {vk v : Value} {key : List UInt8} {ps : List (List UInt8)} (hk : BytesAt w S vk key) (hv : PartsAt w S v ps) (hS : ∀ k, S k → k < w.heap.size) (hkl : key.length ≤ 274877906944) (hlen : ps.flatten.length ≤ 274877906944) (hn : ps.length ≤ 1048576) :
    Calls Tryd.prog 15 #[vk, v] w fun e w' => e = .returned (digV (Sh.mac key ps.flatten)) ∧ Only (fun _ => False) w w' := by
  obtain ⟨va, vc, rfl, hcp, hat⟩ := id hv
  obtain ⟨ka, kc, rfl⟩ := hk.shape
  have HK := Lib.hid hk; have HV := Lib.hid hv; have HS := Lib.hid hS; have HL := Lib.hid hlen; have HKL := Lib.hid hkl; have HAT := Lib.hid hat
  have ho1 : Only (fun _ => False) w (w.alloc (.cells (ocells 32 []).toArray 26)) := Only.alloc _
  have hr1 : Blk (w.alloc (.cells (ocells 32 []).toArray 26)) w.heap.size (ocells 32 []) 26 := Blk.new _ _ _
  have hz1 : (w.alloc (.cells (ocells 32 []).toArray 26)).heap.size = w.heap.size + 1 := by simp
  have HO1 := Lib.hid ho1; have HR1 := Lib.hid hr1; have HZ1 := Lib.hid hz1
  clear hk hv hS hkl hlen hat ho1 hr1 hz1
  go_enter Tryd.func15, Tryd.ntmps15
  go_upto_if 14 with (fail)
  change Code.wp _ _ _ _ (w.alloc (.cells (ocells 32 []).toArray 26))
  generalize w.alloc (.cells (ocells 32 []).toArray 26) = w1 at *
  go_cut [0] (fun s0 wx => BytesAt wx (fun k => k < wx.heap.size) s0 (keyOf key) ∧ Only (fun _ => False) w1 wx)
  case first =>
    by_cases h64 : 64 < key.length
    · have h64i : (64 : Int) < (key.length : Int) := by omega
      have hk1 := HK.out.only HO1.out HS.out (fun _ _ x => x)
      have hp := one_part hk1 (fun k hk => Nat.lt_of_lt_of_le (HS.out k hk) HO1.out.size)
      have hsum := rSum_any hp (fun _ h => h) (by have := HKL.out; simp; omega) (by simp)
      rw [List.flatten_cons, List.flatten_nil, List.append_nil] at hsum
      have e : keyOf key = Sh.sum key := by unfold keyOf; rw [if_pos h64]
      have HE := Lib.hid e; have HSUM := Lib.hid hsum; have HD := Lib.hid (sum_len key)
      have hY : ∀ g w1, (Instr.sliceAt 26 (.pointer (some ⟨g, 0, none⟩)) none none none).run Tryd.prog w1 = .ok (.slice (some ⟨g, 0, none⟩) 32 32) w1 := slice_all_32
      clear hk1 hp hsum e h64
      go_wp2_with (first
        | (go_at_call 13; refine HSUM.out.mono ?_; rintro e w3 ⟨rfl, ho3⟩; have HO3 := Lib.hid ((Only.alloc (w := w1) (.cells #[.slice ka key.length kc] 22)).trans ho3); clear ho3)
        | (refine wpList_store_row rfl 26 (.tmp 5) (.tmp 17) rfl w3.heap.size ((Sh.sum key).map byteV).toArray rfl rfl 26 (ocells 32 []).toArray (heap_alloc_last _ _) (size_a32 HD.out) (by simp [HD.out, ocells]) (oneCell_bytes _) ?_; rw [World.setRow_alloc_new]; have HV4 := Lib.hid (dig_bytes (Blk.new w3 ((Sh.sum key).map byteV) 26) HD.out); have HO4 := Lib.hid (HO3.out.trans (Only.alloc (.cells ((Sh.sum key).map byteV).toArray 26))); have HLT := Lib.hid ((Blk.new w3 ((Sh.sum key).map byteV) 26).lt); generalize w3.alloc (.cells ((Sh.sum key).map byteV).toArray 26) = w4 at *))
      go_meet
      exact ⟨by rw [HE.out]; exact HV4.out.mono (fun k hk => by subst hk; exact HLT.out), HO4.out⟩
    · have h64i : ¬ (64 : Int) < (key.length : Int) := by omega
      have e : keyOf key = key := by unfold keyOf; rw [if_neg h64]
      have HE := Lib.hid e
      have HK1 := Lib.hid ((HK.out.only HO1.out HS.out (fun _ _ x => x)).mono (S' := fun k => k < w1.heap.size) (fun k hk => Nat.lt_of_lt_of_le (HS.out k hk) HO1.out.size))
      clear e h64
      go_wp2_with fail
      go_meet
      exact ⟨by rw [HE.out]; exact HK1.out, Only.refl _ _⟩
  case rest =>
    obtain ⟨hk2, ho2⟩ := hcut
    obtain ⟨w2, hw2⟩ : ∃ q, q = wc := ⟨_, rfl⟩
    subst hw2
    obtain ⟨ua, uc, rfl⟩ := hk2.shape
    have hkl := keyOf_len key
    have hmk := make64
    have hst : MacIn w ((w2.alloc (.cells (ocells 64 []).toArray 5)).alloc (.cells (ocells 64 []).toArray 5)) w.heap.size w2.heap.size (w2.heap.size + 1) key (.slice ua (keyOf key).length uc) 0 := by
      have ho : Only (fun _ => False) w2 ((w2.alloc (.cells (ocells 64 []).toArray 5)).alloc (.cells (ocells 64 []).toArray 5)) := (Only.alloc _).trans (Only.alloc _)
      refine ⟨(HR1.out.keep ho2 (fun x => x)).keep ho (fun x => x), (Blk.new _ _ _).alloc _, Blk.new1 _ _ _ _, hk2.only ho (fun _ h => h) (fun _ _ x => x), (HO1.out.trans ho2).trans ho⟩
    have HST := Lib.hid hst
    have HGZ : Hid (w.heap.size + 1 ≤ w2.heap.size) := by have := ho2.size; have := HZ1.out; exact Lib.hid (by omega)
    clear hk2 ho2 hst HR1 HZ1 HO1 HK
    generalize (ocells 64 []).toArray = Z at *
    go_wp2
    go_loopw [8] (fun iv wr => ∃ i : Nat, i ≤ 64 ∧ iv = .int .i64 i ∧ MacIn w wr w.heap.size w2.heap.size (w2.heap.size + 1) key (.slice ua (keyOf key).length uc) i) (fun iv _ => 64 - (intOf iv).toNat)
    case atStart => exact ⟨0, Nat.zero_le _, rfl, HST.out⟩
    case round =>
      obtain ⟨i, hi, rfl, hm⟩ := hrel
      by_cases hlt : i < 64
      · have hl36 : ((Sh.masked key 0x36).take i).length = i := by rw [List.length_take, masked_len]; omega
        have hl5c : ((Sh.masked key 0x5c).take i).length = i := by rw [List.length_take, masked_len]; omega
        have z1 : wr.cell? ⟨w2.heap.size, i, none⟩ = some (.int .u8 0) := by rw [hm.ins.cell]; exact ocells_zero (by omega) hlt
        have z2 : wr.cell? ⟨w2.heap.size + 1, i, none⟩ = some (.int .u8 0) := by rw [hm.outs.cell]; exact ocells_zero (by omega) hlt
        have f1 := hm.ins.frozen i
        have f2 := hm.outs.frozen i
        have HNX : Hid (MacIn w ((wr.setCell ⟨w2.heap.size, i, none⟩ (byteV ((keyOf key).getD i 0 ^^^ 0x36))).setCell ⟨w2.heap.size + 1, i, none⟩ (byteV ((keyOf key).getD i 0 ^^^ 0x5c))) w.heap.size w2.heap.size (w2.heap.size + 1) key (.slice ua (keyOf key).length uc) (i + 1)) := by
          have hz := HGZ.out
          have o1 : Only (fun k => k = w2.heap.size) wr (wr.setCell ⟨w2.heap.size, i, none⟩ (byteV ((keyOf key).getD i 0 ^^^ 0x36))) := Only.setCell ⟨w2.heap.size, i, none⟩ _
          have b1 := mask_next hm.ins hlt
          have b2 := hm.outs.keep o1 (by omega)
          have b3 := hm.res.keep o1 (by omega)
          have k1 := hm.key.only o1 (fun k hk => Nat.lt_trans hk hm.ins.lt) (fun k hk e => by omega)
          have q1 := hm.only.andThen o1 (fun k hk e => by omega)
          generalize wr.setCell ⟨w2.heap.size, i, none⟩ (byteV ((keyOf key).getD i 0 ^^^ 0x36)) = wa at *
          have o2 : Only (fun k => k = w2.heap.size + 1) wa (wa.setCell ⟨w2.heap.size + 1, i, none⟩ (byteV ((keyOf key).getD i 0 ^^^ 0x5c))) := Only.setCell ⟨w2.heap.size + 1, i, none⟩ _
          exact ⟨b3.keep o2 (by omega), b1.keep o2 (by omega), mask_next b2 hlt, k1.only o2 (fun k hk => Nat.lt_trans hk b1.lt) (fun k hk e => by omega), q1.andThen o2 (fun k hk e => by omega)⟩
        have X1 : Hid (bits .xor .u8 (((keyOf key).getD i 0).toNat : Int) 54 = (((keyOf key).getD i 0 ^^^ 0x36).toNat : Int)) := Lib.hid (bits_xor_u8 ((keyOf key).getD i 0) 0x36)
        have X2 : Hid (bits .xor .u8 (((keyOf key).getD i 0).toNat : Int) 92 = (((keyOf key).getD i 0 ^^^ 0x5c).toNat : Int)) := Lib.hid (bits_xor_u8 ((keyOf key).getD i 0) 0x5c)
        have hne : w2.heap.size ≠ w2.heap.size + 1 := by omega
        by_cases hik : i < (keyOf key).length
        · have hki : (i : Int) < ((keyOf key).length : Int) := by omega
          have hg : (keyOf key)[i]? = some ((keyOf key).getD i 0) := by rw [List.getD_eq_getElem?_getD, List.getElem?_eq_getElem hik]; rfl
          rcases hm.key with ⟨_, e0⟩ | ⟨ad, c, ev, _, hS0, hc0⟩
          · rw [e0] at hik; exact absurd hik (by simp)
          · obtain ⟨e1, _, e3⟩ := Value.slice.inj ev
            subst e1 e3
            have c1 := hc0 i _ hg
            unfold byteV at c1
            clear ev hS0 hc0 hg hm hmk hl36 hl5c hik
            generalize (keyOf key).getD i 0 = b at *
            generalize (keyOf key).length = n at *
            go_wp2
            refine ⟨⟨i + 1, by omega, by go_num, ?_⟩, by simp [intOf]; omega⟩
            rw [X1.out, X2.out]
            exact HNX.out
        · have hki : ¬ (i : Int) < ((keyOf key).length : Int) := by omega
          have hg : (keyOf key).getD i 0 = 0 := by rw [List.getD_eq_getElem?_getD, List.getElem?_eq_none (by omega)]; rfl
          rw [hg] at HNX
          clear hg hm hmk hl36 hl5c hik
          generalize (keyOf key).length = n at *
          go_wp2
          refine ⟨⟨i + 1, by omega, by go_num, ?_⟩, by simp [intOf]; omega⟩
          exact HNX.out
      · obtain rfl : i = 64 := by omega
        rw [show ((64 : Nat) : Int) = (64 : Int) from rfl]
        have hres := hm.res
        have hins := hm.ins
        have houts := hm.outs
        rw [List.take_of_length_le (by rw [masked_len]; exact Nat.le_refl _), ocells_full (masked_len _ _)] at hins houts
        have hon := hm.only
        have hz := HGZ.out
        have hst2 : MacMid w wr w.heap.size (w2.heap.size + 1) key (.slice (some ⟨w2.heap.size, 0, none⟩) 64 64) (Sh.masked key 0x36) := by
          have hlw := houts.lt
          refine ⟨hres, ⟨by rw [masked_len]; exact hins.owns (masked_len _ _), fun q hq => ?_, hon⟩, houts, fun h => ?_, fun q hq => ?_⟩
          · have : w2.heap.size = q := Option.some.inj hq
            omega
          · have : w2.heap.size = w2.heap.size + 1 := Option.some.inj h
            omega
          · have : w2.heap.size = q := Option.some.inj hq
            omega
        have HST2 := Lib.hid hst2
        clear hm hres hins houts hon hst2 hmk HST hz
        have HG2 : Hid (w.heap.size + 2 ≤ w2.heap.size + 1) := Lib.hid (by have := HGZ.out; omega)
        generalize w2.heap.size + 1 = g2 at *
        generalize w2.heap.size = g1 at *
        go_wp2
        go_loopw [6, 10] (fun mv iv wq => ∃ i : Nat, i ≤ ps.length ∧ iv = .int .i64 i ∧ MacMid w wq w.heap.size g2 key mv (Sh.masked key 0x36 ++ (ps.take i).flatten)) (fun _ iv _ => ps.length - (intOf iv).toNat)
        case atStart => exact ⟨0, Nat.zero_le _, rfl, by simpa using HST2.out⟩
        case round =>
          obtain ⟨i, hi, rfl, hm⟩ := hrel
          obtain ⟨ma, mc, rfl⟩ := hm.row.shape
          have hfl := flatten_take_le ps i
          by_cases hlt : i < ps.length
          · obtain ⟨ad, u, rfl, hsb, hcell, hby⟩ := HAT.out i hlt
            have how := hm.row.only
            have c1 : wr.cell? (ad.add i) = some u := by
              rw [World.cell?_of_block (w := w) (by rw [add_block]; exact how.block _ (HS.out _ hsb) (fun x => x))]
              exact hcell
            have hb1 := hby.only how HS.out (fun _ _ x => x)
            obtain ⟨ya, yc, rfl⟩ := hby.shape
            have hts := flatten_take_succ hlt
            have hle := flatten_take_le ps (i + 1)
            rw [hts, List.length_append] at hle
            have HB1 := Lib.hid hb1; have HM := Lib.hid hm; have HTS := Lib.hid hts; have HROW := Lib.hid hm.row.row
            have pz : 0 ≤ (i : Int) := by omega
            have mz : (i : Int) < (ps.length : Int) := by omega
            have HLE : Hid ((Sh.masked key 0x36 ++ (ps.take i).flatten).length + ps[i].length ≤ 140737488355328) := by have := HL.out; rw [List.length_append, masked_len]; exact Lib.hid (by omega)
            clear hm hb1 hts hle hcell hby how hfl hsb
            generalize ps[i] = Y at *
            have HEX : Hid ((Sh.masked key 0x36 ++ (ps.take i).flatten) ++ Y = Sh.masked key 0x36 ++ (ps.take (i + 1)).flatten) := by rw [HTS.out, List.append_assoc]; exact Lib.hid rfl
            generalize Sh.masked key 0x36 ++ (ps.take i).flatten = X at *
            go_wp2_with (at_builtin; refine wpList_append_bytes _ rfl _ _ rfl (.slice ma X.length mc) (.slice ya Y.length yc) X.length (X.map byteV) rfl rfl HROW.out HB1.out HLE.out ?_; intro a3 c3 w3 hr3 hg3 hat3; have H3 := Lib.hid (MacMid.app HM.out rfl hr3 hg3 hat3); clear hr3 hg3 hat3)
            have h3 := H3.out
            rw [HEX.out] at h3
            exact ⟨⟨i + 1, by omega, by go_num, h3⟩, by simp [intOf]; omega⟩
          · have e : ps.take i = ps := List.take_of_length_le (by omega)
            rw [e] at hm
            have hp := one_part hm.row.bytes (fun _ h => h)
            have hs1 := rSum_any hp (fun _ h => h) (by have := HL.out; rw [List.flatten_cons, List.flatten_nil, List.append_nil, List.length_append, masked_len]; omega) (by simp)
            rw [List.flatten_cons, List.flatten_nil, List.append_nil] at hs1
            have hY : ∀ g w1, (Instr.sliceAt 26 (.pointer (some ⟨g, 0, none⟩)) none none none).run Tryd.prog w1 = .ok (.slice (some ⟨g, 0, none⟩) 32 32) w1 := slice_all_32
            obtain ⟨I, hI⟩ : ∃ I, Sh.sum (Sh.masked key 0x36 ++ ps.flatten) = I := ⟨_, rfl⟩
            have hIl : I.length = 32 := by rw [← hI]; exact sum_len _
            rw [hI] at hs1
            have HS1 := Lib.hid hs1; have HI := Lib.hid hI; have HIL := Lib.hid hIl; have HM := Lib.hid hm; have HE := Lib.hid e
            obtain ⟨w4, hw4⟩ : ∃ q, q = wr := ⟨_, rfl⟩
            subst hw4
            clear hm hp hs1 hI hIl hfl e
            rw [HE.out]
            generalize (Sh.masked key 0x36 ++ ps.flatten).length = nx at *
            go_wp2_with fail
            refine HS1.out.mono ?_
            rintro e w5 ⟨rfl, ho5⟩
            have ho5' := (Only.alloc (w := w4) (.cells #[.slice ma nx mc] 22)).trans ho5
            have HO5 := Lib.hid ho5'
            clear ho5 ho5' HS1
            go_wp2_with (refine wpList_store_row rfl 26 (.tmp 11) (.tmp 57) rfl w5.heap.size (I.map byteV).toArray rfl rfl 26 (ocells 32 []).toArray (heap_alloc_last _ _) (size_a32 HIL.out) (by simp [HIL.out, ocells]) (oneCell_bytes _) ?_; rw [World.setRow_alloc_new]; have HV6 := Lib.hid (dig_bytes (Blk.new w5 (I.map byteV) 26) HIL.out); have HO6 := Lib.hid (HO5.out.trans (Only.alloc (.cells (I.map byteV).toArray 26))); have HLT := Lib.hid ((Blk.new w5 (I.map byteV) 26).lt); generalize w5.alloc (.cells (I.map byteV).toArray 26) = w6 at *)
            have hmm := HM.out
            have ho6 := HO6.out
            have hob : BytesAt w6 (fun k => k < w6.heap.size) (.slice (some ⟨g2, 0, none⟩) 64 64) (Sh.masked key 0x5c) := by
              have hb := hmm.outs.keep ho6 (fun x => x)
              exact (hb.bytes64 (masked_len _ _)).mono (fun k hk => by subst hk; exact hb.lt)
            have hp2 := new_two hob (HV6.out.mono (fun k hk => by subst hk; exact HLT.out))
            have hs2 := rSum_any hp2 (fun _ h => h) (by rw [List.flatten_cons, List.flatten_cons, List.flatten_nil, List.append_nil, List.length_append, masked_len, HIL.out]; decide) (by simp)
            rw [List.flatten_cons, List.flatten_cons, List.flatten_nil, List.append_nil] at hs2
            have em : Sh.sum (Sh.masked key 0x5c ++ I) = Sh.mac key ps.flatten := by rw [← HI.out]; rfl
            rw [em] at hs2
            have HML := Lib.hid (mac_len key ps.flatten)
            obtain ⟨M, hM⟩ : ∃ M, Sh.mac key ps.flatten = M := ⟨_, rfl⟩
            rw [hM] at hs2 HML
            have HS2 := Lib.hid hs2; have HMM := Lib.hid hM
            have HR6 := Lib.hid ((hmm.res.keep ho6 (fun x => x)).alloc (.cells #[.slice (some ⟨g2, 0, none⟩) 64 64, .slice (some ⟨w5.heap.size, 0, none⟩) 32 32] 22))
            have HOF := Lib.hid ((hmm.row.only.trans ho6).trans (Only.alloc (.cells #[.slice (some ⟨g2, 0, none⟩) 64 64, .slice (some ⟨w5.heap.size, 0, none⟩) 32 32] 22)))
            clear hmm ho6 hob hp2 hs2 em hM hY
            go_wp2_with (first
              | (go_at_call 13; refine HS2.out.mono ?_; rintro e w7 ⟨rfl, ho7⟩; have HR7 := Lib.hid ((HR6.out.keep ho7 (fun x => x)).heap); have HO7 := Lib.hid (HOF.out.trans ho7); clear ho7)
              | (refine wpList_store_row rfl 26 (.tmp 4) (.tmp 61) rfl w.heap.size (M.map byteV).toArray rfl rfl 26 (ocells 32 []).toArray HR7.out (size_a32 HML.out) (by simp [HML.out, ocells]) (oneCell_bytes _) ?_))
            have hfin : (w7.setRow w.heap.size (M.map byteV).toArray).heap[w.heap.size]? = some (.cells (M.map byteV).toArray 26 (0, 0)) := Blk.row (L := ocells 32 []) HR7.out _
            exact bodyPost_ret (v := digV M) (results_cell_row rfl _ _ w.heap.size 26 _ (0, 0) _ rfl hfin Tryd.underlying26 rfl (size_a32 HML.out)) rfl ⟨by rw [HMM.out], HO7.out.andThen (Only.setRow _ _) (fun k hk e => by omega)⟩

end Go.Proofs.YtdgaojibfpafnaaDoor
