/- The document's own HKDF: amphoraref02.Derive. Conditions: salt, secret and info are below 2^37 bytes. -/
import Derived.Test.YtdgaojibfpafnaaDoorSRefMac
namespace Go.Proofs.YtdgaojibfpafnaaDoor
open Go.RowKit

theorem rrange_err {w : World} {vs vk vi : Value} {n : Int} (h : n < 0 ∨ 8160 < n) :
    Calls Tryd.prog 18 #[vs, vk, vi, .int .i64 n] w fun e w' => e = .returned (.tuple #[.slice none 0 0, .int .i64 7]) ∧ w = w' := by
  rcases h with h | h
  · go_enter Tryd.func18, Tryd.ntmps18
    go_wp2
    go_ret2
    exact ⟨rfl, rfl⟩
  · have h' : ¬ n < 0 := by omega
    go_enter Tryd.func18, Tryd.ntmps18
    go_wp2
    go_ret2
    exact ⟨rfl, rfl⟩

theorem laid_zeros : Sh.laid (List.replicate 32 0) = Sh.laid [] := by decide +kernel
theorem mac_zeros (m : List UInt8) : Sh.mac (List.replicate 32 0) m = Sh.mac [] m := by
  unfold Sh.mac Sh.masked
  rw [laid_zeros]

theorem make32 (w : World) : (Instr.makeSlice 22 (.int .i64 32) (.int .i64 32)).run Tryd.prog w = .ok (.slice (some ⟨w.heap.size, 0, none⟩) 32 32) (w.alloc (.cells (ocells 32 []).toArray 5)) := by
  have h := run_make_row' (P := Tryd.prog) 22 5 (.int .u8 0) 1 Tryd.underlying22 info_u8 rfl .i64 .i64 32 (by decide) (by decide) w
  have e : madeCells #[.int .u8 0] 32 = (ocells 32 []).toArray := by kernel_rfl
  rw [e] at h
  exact h
theorem made_bytes (w : World) : BytesAt (w.alloc (.cells (ocells 32 []).toArray 5)) (fun k => k = w.heap.size) (.slice (some ⟨w.heap.size, 0, none⟩) 32 32) (List.replicate 32 0) := by
  have := BytesAt.of_block (o := 0) (c := 32) (bs := List.replicate 32 0) (Blk.new w (ocells 32 []) 5).heap (by decide) (fun j x hx => by
    rw [List.getElem?_replicate] at hx
    split at hx
    · cases hx
      rw [Nat.zero_add]
      exact ocells_zero (Nat.zero_le _) (by assumption)
    · cases hx)
  exact this

theorem no_bytes (w : World) (g : Nat) (S : Nat → Prop) : BytesAt w S (.slice (some ⟨g, 0, none⟩) 0 0) [] := .inr ⟨⟨g, 0, none⟩, 0, rfl, Nat.le_refl _, fun h => absurd rfl h, fun j x hx => by simp at hx⟩

/-- What the loop of the document's Derive keeps. -/
structure RDer (w wr : World) (p info : List UInt8) (gp k : Nat) (ov tv : Value) : Prop where
  row : wr.ownsRow 0 5 1 ov (32 * k) ((Sh.tees p info k).map byteV)
  own : ∀ q, ov.ownBlock = some q → w.heap.size ≤ q ∧ q ≠ gp
  last : BytesAt wr (fun b => w.heap.size ≤ b ∧ b < wr.heap.size ∧ ov.ownBlock ≠ some b) tv (Sh.tee p info k)
  prk : Blk wr gp (p.map byteV) 26
  gp : w.heap.size ≤ gp
  only : Only (fun _ => False) w wr

theorem tee_le (p i : List UInt8) (k : Nat) : (Sh.tee p i k).length ≤ 32 := by
  cases k with
  | zero => simp [Sh.tee]
  | succ k => rw [tee_len]; exact Nat.le_refl _

set_option maxRecDepth 100000 in
set_option maxHeartbeats 2000000 in
theorem rDerive_any {w : World} {S : Nat → Prop} {vs vk vi : Value} {salt secret info : List UInt8} {n : Nat} (hs : BytesAt w S vs salt) (hk : BytesAt w S vk secret) (hi : BytesAt w S vi info) (hS : ∀ k, S k → k < w.heap.size) (h1 : salt.length ≤ 137438953472) (h2 : secret.length ≤ 137438953472) (h3 : info.length ≤ 137438953472) (hn : n ≤ 8160) :
    Calls Tryd.prog 18 #[vs, vk, vi, .int .i64 (n : Int)] w fun e w' => ∃ a c, e = .returned (.tuple #[.slice a n c, .int .i64 0]) ∧ BytesAt w' (fun k => k < w'.heap.size) (.slice a n c) (derived salt secret info n) ∧ Only (fun _ => False) w w' := by
  obtain ⟨sa, sc, rfl⟩ := hs.shape
  obtain ⟨ka, kc, rfl⟩ := hk.shape
  obtain ⟨ia, ic, rfl⟩ := hi.shape
  have HSA := Lib.hid hs; have HK := Lib.hid hk; have HI := Lib.hid hi; have HS := Lib.hid hS; have H1 := Lib.hid h1; have H2 := Lib.hid h2; have H3 := Lib.hid h3
  clear hs hk hi hS h1 h2 h3
  have hnb : ¬ (n : Int) < 0 := by omega
  have hnc : ¬ (8160 : Int) < (n : Int) := by omega
  go_enter Tryd.func18, Tryd.ntmps18
  go_upto_if 23 with (fail)
  go_cut [0] (fun s0 wx => ∃ z : List UInt8, BytesAt wx (fun k => k < wx.heap.size) s0 z ∧ (∀ m, Sh.mac z m = Sh.mac salt m) ∧ z.length ≤ 137438953472 ∧ Only (fun _ => False) w wx)
  case first =>
    by_cases h0 : salt.length = 0
    · have hz : ((salt.length : Int) == 0) = true := by simp [h0]
      have e : salt = [] := List.eq_nil_of_length_eq_zero h0
      subst e
      have hmk := make32
      have HB := Lib.hid (made_bytes w)
      have HLT := Lib.hid ((Blk.new w (ocells 32 []) 5).lt)
      have HO : Hid (Only (fun _ => False) w (w.alloc (.cells (ocells 32 []).toArray 5))) := Lib.hid (Only.alloc _)
      clear h0
      generalize (ocells 32 []).toArray = Z at *
      go_wp2_with fail
      go_meet
      exact ⟨List.replicate 32 0, HB.out.mono (fun k hk => by subst hk; exact HLT.out), mac_zeros, by simp, HO.out⟩
    · have hz : ((salt.length : Int) == 0) = false := beq_eq_false_iff_ne.2 (by omega)
      clear h0
      go_wp2_with fail
      go_meet
      exact ⟨salt, HSA.out.mono HS.out, fun _ => rfl, H1.out, Only.refl _ _⟩
  case rest =>
    obtain ⟨z, hz0, hzm, hzl, ho1⟩ := hcut
    obtain ⟨w1, hw1⟩ : ∃ q, q = wc := ⟨_, rfl⟩
    subst hw1
    obtain ⟨za, zc, rfl⟩ := hz0.shape
    have hk1 := HK.out.here ho1 HS.out
    have hp := one_part hk1 (fun _ h => h)
    have hmac := rMac_any (hz0.here (Only.alloc (.cells #[.slice ka secret.length kc] 22)) (fun _ h => h)) hp (fun _ h => h) (by omega) (by have := H2.out; simp; omega) (by simp)
    rw [List.flatten_cons, List.flatten_nil, List.append_nil, hzm] at hmac
    have HMAC := Lib.hid hmac; have HO1 := Lib.hid ho1
    have HPL := Lib.hid (mac_len salt secret)
    obtain ⟨P, hP⟩ : ∃ P, Sh.mac salt secret = P := ⟨_, rfl⟩
    rw [hP] at HMAC HPL
    have HP := Lib.hid hP
    clear hz0 hzm hzl ho1 hk1 hp hmac hP HSA HK
    generalize z.length = zn at *
    go_wp2_with (first
      | (go_at_call 15; refine HMAC.out.mono ?_; rintro e w2 ⟨rfl, ho2⟩; have HO2 := Lib.hid ((HO1.out.trans (Only.alloc _)).trans ho2); clear ho2)
      | (refine wpList_store_row rfl 26 (.tmp 10) (.tmp 28) rfl w2.heap.size (P.map byteV).toArray rfl rfl 26 (ocells 32 []).toArray (heap_alloc_last _ _) (size_a32 HPL.out) (by simp [HPL.out, ocells]) (oneCell_bytes _) ?_; rw [World.setRow_alloc_new]; have HP3 := Lib.hid (Blk.new w2 (P.map byteV) 26); have HO3 := Lib.hid (HO2.out.trans (Only.alloc (.cells (P.map byteV).toArray 26))); generalize w2.alloc (.cells (P.map byteV).toArray 26) = w3 at *))
    have hst : RDer w (w3.alloc (.cells #[] 5)) P info w2.heap.size 0 (.slice none 0 0) (.slice (some ⟨w3.heap.size, 0, none⟩) 0 0) := by
      exact ⟨World.ownsRow_nil _ _ _ _, (fun q hq => by cases hq), no_bytes _ _ _, HP3.out.alloc _, HO2.out.size, HO3.out.trans (Only.alloc _)⟩
    have HST := Lib.hid hst
    have hY : ∀ g w1, (Instr.sliceAt 26 (.pointer (some ⟨g, 0, none⟩)) none none none).run Tryd.prog w1 = .ok (.slice (some ⟨g, 0, none⟩) 32 32) w1 := slice_all_32
    clear hst HMAC HO2 HO3 HP3 HO1
    generalize w2.heap.size = gp at *
    go_loopw [11, 12, 13] (fun ov tv iv wr => ∃ (k : Nat), 32 * k < n + 32 ∧ iv = .int .i64 ((k : Int) + 1) ∧ RDer w wr P info gp k ov tv) (fun ov _ _ _ => match ov with | .slice _ m _ => n + 32 - m | _ => 0)
    case atStart => exact ⟨0, by omega, rfl, HST.out⟩
    case round =>
      obtain ⟨k, hk, rfl, hd⟩ := hrel
      obtain ⟨oa, oc, rfl⟩ := row_shape hd.row
      obtain ⟨la, lc, rfl⟩ := hd.last.shape
      by_cases hlt : 32 * k < n
      · have hk255 : k + 1 < 256 := by omega
        have hmac := rMac_any (S := fun b => b < ((wr.alloc (.cells #[byteV (UInt8.ofNat (k + 1))] 5)).alloc (.cells #[.slice la (Sh.tee P info k).length lc, .slice ia info.length ic, .slice (some ⟨wr.heap.size, 0, none⟩) 1 1] 22)).heap.size)
          ((dig_bytes ((hd.prk.alloc (.cells #[byteV (UInt8.ofNat (k + 1))] 5)).alloc (.cells #[.slice la (Sh.tee P info k).length lc, .slice ia info.length ic, .slice (some ⟨wr.heap.size, 0, none⟩) 1 1] 22)) HPL.out).mono (fun b hb => by subst hb; exact ((hd.prk.alloc _).alloc _).lt))
          (three_parts (S := fun b => b < wr.heap.size) (hd.last.mono (fun b hb => hb.2.1)) ((HI.out.only hd.only HS.out (fun _ _ x => x)).mono (fun b hb => Nat.lt_of_lt_of_le (HS.out b hb) hd.only.size)) (fun _ h => h) (UInt8.ofNat (k + 1)))
          (fun _ h => h) (by rw [HPL.out]; decide) (by
            have := H3.out
            have hl := tee_le P info k
            simp
            omega) (by simp)
        have efl : [Sh.tee P info k, info, [UInt8.ofNat (k + 1)]].flatten = Sh.tee P info k ++ info ++ [UInt8.ofNat (k + 1)] := by simp
        rw [efl, show Sh.mac P (Sh.tee P info k ++ info ++ [UInt8.ofNat (k + 1)]) = Sh.tee P info (k + 1) from rfl] at hmac
        have hbv : byteV (UInt8.ofNat (k + 1)) = .int .u8 ((k : Int) + 1) := by
          unfold byteV
          rw [show (UInt8.ofNat (k + 1)).toNat = k + 1 by simp; omega]
          rfl
        rw [hbv] at hmac
        have HMAC := Lib.hid hmac
        have HD := Lib.hid hd
        have HROW := Lib.hid hd.row
        have HTL := Lib.hid (tee_len P info k)
        have hti : ((32 * k : Nat) : Int) < (n : Int) := by omega
        obtain ⟨T, hT⟩ : ∃ T, Sh.tee P info (k + 1) = T := ⟨_, rfl⟩
        have HTT := Lib.hid hT
        rw [hT] at HMAC HTL
        clear hd hmac efl hT hbv
        go_wp2_with fail
        refine HMAC.out.mono ?_
        rintro e w5 ⟨rfl, ho5⟩
        have ho5' := ((Only.alloc (w := wr) (.cells #[.int .u8 ((k : Int) + 1)] 5)).trans (Only.alloc _)).trans ho5
        have HO5 := Lib.hid ho5'
        clear ho5 ho5' HMAC
        go_wp2_with (first
          | (refine wpList_store_row rfl 26 (.tmp 14) (.tmp 43) rfl w5.heap.size (T.map byteV).toArray rfl rfl 26 (ocells 32 []).toArray (heap_alloc_last _ _) (size_a32 HTL.out) (by simp [HTL.out, ocells]) (oneCell_bytes _) ?_; rw [World.setRow_alloc_new]; have HT6 := Lib.hid (Blk.new w5 (T.map byteV) 26); have HO6 := Lib.hid (HO5.out.trans (Only.alloc (.cells (T.map byteV).toArray 26))); generalize w5.alloc (.cells (T.map byteV).toArray 26) = w6 at *; have HB := Lib.hid (show (w6.alloc (.cells #[] 5)).ownsRow 0 5 1 (.slice (some ⟨w6.heap.size, 0, none⟩) 0 0) 0 [] from World.ownsRow_made w6 #[] 0 (Nat.zero_le _) (Nat.zero_le _) rfl); have HSRC := Lib.hid (dig_bytes (HT6.out.alloc (.cells #[] 5)) HTL.out))
          | (at_builtin; refine wpList_append_bytes _ rfl _ _ rfl (.slice (some ⟨w6.heap.size, 0, none⟩) 0 0) (.slice (some ⟨w5.heap.size, 0, none⟩) 32 32) 0 [] rfl rfl HB.out HSRC.out (by rw [HTL.out]; decide) ?_; intro a7 c7 w7 hr7 hg7 hat7; have h7 : Row wr w7 (.slice a7 (0 + T.length) c7) ([] ++ T) := Row.app (wr := w6.alloc (.cells #[] 5)) (ov := .slice (some ⟨w6.heap.size, 0, none⟩) 0 0) ⟨HB.out, (fun q hq => by have h1 : w6.heap.size = q := Option.some.inj hq; have h2 := HO6.out.size; omega), HO6.out.trans (Only.alloc _)⟩ (Only.refl _ _) (by simp) hr7 hg7 hat7; rw [Nat.zero_add, List.nil_append] at h7; have H7 := Lib.hid h7; have HROW7 := Lib.hid (ownsRow_keep HROW.out (w' := w7) (fun q hq => h7.only.block q (HROW.out.lt q hq).2 (fun x => x))); have HSRC7 := Lib.hid h7.bytes; clear hr7 hg7 hat7 h7)
          | (at_builtin; refine wpList_append_bytes _ rfl _ _ rfl (.slice oa (32 * k) oc) (.slice a7 T.length c7) (32 * k) ((Sh.tees P info k).map byteV) rfl rfl HROW7.out HSRC7.out (by rw [HTL.out]; omega) ?_; intro a8 c8 w8 hr8 hg8 hat8; have HR8 := Lib.hid hr8; have HG8 := Lib.hid hg8; have HAT8 := Lib.hid hat8; clear hr8 hg8 hat8))
        have hd := HD.out
        have h7 := H7.out
        have hr8 := HR8.out
        have hat8 := HAT8.out
        have ho8 : Only (fun q => (Value.slice oa (32 * k) oc).ownBlock = some q) w7 w8 := (Only.of_grown HG8.out).mono (fun q _ h => h.symm)
        have hz0 := hd.only.size
        have hz7 := h7.only.size
        have hgp := hd.prk.lt
        have e32 : 32 * k + T.length = 32 * (k + 1) := by rw [HTL.out]; omega
        have htl := HTL.out
        rw [e32] at hr8 hat8
        refine ⟨⟨k + 1, by omega, by go_num, ?_⟩, by simp; omega⟩
        rw [e32]
        refine ⟨by rw [show Sh.tees P info (k + 1) = Sh.tees P info k ++ T from by rw [← HTT.out]; rfl, List.map_append]; exact hr8, fun q hq => ?_, ?_, (hd.prk.keep h7.only (fun x => x)).keep ho8 (fun h => (hd.own _ h).2 rfl), hd.gp, (hd.only.trans h7.only).andThen ho8 (fun q hq h => by have := (hd.own q h).1; omega)⟩
        · rcases hat8 with h | h
          · exact hd.own q (h.symm.trans hq)
          · rw [hq] at h
            have h1 : q = w7.heap.size := Option.some.inj h
            exact ⟨by omega, by omega⟩
        · rw [HTT.out]
          have hb := BytesAt.of_row h7.row
          have hlow : ∀ q, (Value.slice a7 T.length c7).ownBlock = some q → wr.heap.size ≤ q ∧ q < w7.heap.size := fun q hq => ⟨h7.own q hq, (h7.row.lt q hq).2⟩
          refine (hb.only ho8 (fun q hq => (hlow q hq).2) (fun q hq h => by have h1 := (HROW.out.lt q h).2; have h2 := (hlow q hq).1; omega)).mono (fun q hq => ⟨by have := (hlow q hq).1; omega, Nat.lt_of_lt_of_le (hlow q hq).2 ho8.size, fun h => ?_⟩)
          have h2 := hlow q hq
          rcases hat8 with h1 | h1
          · have h3 := (HROW.out.lt q (h1.symm.trans h)).2
            omega
          · rw [h] at h1
            have h3 : q = w7.heap.size := Option.some.inj h1
            omega
      · have hsl := slice_h (a := oa) (n := 32 * k) (cap := oc) (m := n) (by have := row_cap hd.row; omega)
        have hb := bytes_pre (k := n) hd.row (tees_len _ _ _) (by omega)
        rw [← HP.out, derived_eq salt secret info n k (by omega)] at hb
        have HBB := Lib.hid hb; have HOD := Lib.hid hd.only
        have hti : ¬ ((32 * k : Nat) : Int) < (n : Int) := by omega
        clear hd hb hY
        go_wp2
        go_ret2
        exact ⟨oa, oc, rfl, HBB.out, HOD.out⟩

end Go.Proofs.YtdgaojibfpafnaaDoor
