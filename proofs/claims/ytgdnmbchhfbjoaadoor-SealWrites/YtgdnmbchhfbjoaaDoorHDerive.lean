/- sha.Derive. Conditions: salt, secret and info are below 2^37 bytes. -/
import Derived.Test.YtgdnmbchhfbjoaaDoorHMac2
namespace Go.Proofs.YtgdnmbchhfbjoaaDoor
open Go.RowKit

theorem mac_len (key m : List UInt8) : (Sh.mac key m).length = 32 := sum_len _
theorem tee_len (p i : List UInt8) (k : Nat) : (Sh.tee p i (k + 1)).length = 32 := mac_len _ _
theorem tees_len (p i : List UInt8) : ∀ k, (Sh.tees p i k).length = 32 * k
  | 0 => rfl
  | k + 1 => by
    unfold Sh.tees
    rw [List.length_append, tees_len p i k, tee_len]
    omega

/-- HKDF. -/
def derived (salt secret info : List UInt8) (n : Nat) : List UInt8 := (Sh.tees (Sh.mac salt secret) info ((n + 31) / 32)).take n

theorem tees_take_succ (p i : List UInt8) (k n : Nat) (h : 32 * k < n) : (Sh.tees p i (k + 1)).take n = Sh.tees p i k ++ (Sh.tee p i (k + 1)).take (n - 32 * k) := by
  show (Sh.tees p i k ++ Sh.tee p i (k + 1)).take n = _
  rw [List.take_append, tees_len, List.take_of_length_le (by rw [tees_len]; omega)]
theorem tees_take_same (p i : List UInt8) (n : Nat) : ∀ k, n ≤ 32 * k → (Sh.tees p i (k + 1)).take n = (Sh.tees p i k).take n := fun k h => by
  show (Sh.tees p i k ++ Sh.tee p i (k + 1)).take n = _
  rw [List.take_append_of_le_length (by rw [tees_len]; exact h)]
theorem tees_take_more (p i : List UInt8) (n : Nat) : ∀ j k, n ≤ 32 * k → (Sh.tees p i (k + j)).take n = (Sh.tees p i k).take n
  | 0, _, _ => rfl
  | j + 1, k, h => by
    rw [← Nat.add_assoc, tees_take_same p i n (k + j) (by omega), tees_take_more p i n j k h]
theorem derived_eq (salt secret info : List UInt8) (n k : Nat) (h : n ≤ 32 * k) : (Sh.tees (Sh.mac salt secret) info k).take n = derived salt secret info n := by
  unfold derived
  by_cases hk : (n + 31) / 32 ≤ k
  · obtain ⟨j, rfl⟩ := Nat.exists_eq_add_of_le hk
    exact tees_take_more _ _ n j _ (by omega)
  · obtain ⟨j, hj⟩ := Nat.exists_eq_add_of_le (show k ≤ (n + 31) / 32 by omega)
    rw [hj]
    exact (tees_take_more _ _ n j _ h).symm
theorem derived_len (salt secret info : List UInt8) (n : Nat) : (derived salt secret info n).length = n := by
  unfold derived
  rw [List.length_take, tees_len]
  omega

/-- What the loop of Derive keeps. -/
structure Der (w wr : World) (p info : List UInt8) (n gp k : Nat) (ov lv : Value) : Prop where
  row : wr.ownsRow 0 5 1 ov (min (32 * k) n) (((Sh.tees p info k).take n).map byteV)
  own : ∀ q, ov.ownBlock = some q → w.heap.size ≤ q ∧ q ≠ gp
  last : BytesAt wr (fun b => w.heap.size ≤ b ∧ b < wr.heap.size ∧ ov.ownBlock ≠ some b) lv (Sh.tee p info k)
  prk : Blk wr gp (p.map byteV) 22
  gp : w.heap.size ≤ gp
  only : Only (fun _ => False) w wr

/-- Three rows as a list of parts: the last of them a byte. -/
theorem three_parts {w : World} {S : Nat → Prop} {v u : Value} {x y : List UInt8} (hv : BytesAt w S v x) (hu : BytesAt w S u y) (hS : ∀ k, S k → k < w.heap.size) (b : UInt8) :
    PartsAt ((w.alloc (.cells #[byteV b] 5)).alloc (.cells #[v, u, .slice (some ⟨w.heap.size, 0, none⟩) 1 1] 23)) (fun k => k < ((w.alloc (.cells #[byteV b] 5)).alloc (.cells #[v, u, .slice (some ⟨w.heap.size, 0, none⟩) 1 1] 23)).heap.size) (.slice (some ⟨w.heap.size + 1, 0, none⟩) 3 3) [x, y, [b]] := by
  have hb := Blk.new1 w (.cells #[byteV b] 5) [v, u, .slice (some ⟨w.heap.size, 0, none⟩) 1 1] 23
  have hc := (Blk.new w [byteV b] 5).alloc (.cells #[v, u, .slice (some ⟨w.heap.size, 0, none⟩) 1 1] 23)
  have ho : Only (fun _ => False) w ((w.alloc (.cells #[byteV b] 5)).alloc (.cells #[v, u, .slice (some ⟨w.heap.size, 0, none⟩) 1 1] 23)) := (Only.alloc _).trans (Only.alloc _)
  have hz : ((w.alloc (.cells #[byteV b] 5)).alloc (.cells #[v, u, .slice (some ⟨w.heap.size, 0, none⟩) 1 1] 23)).heap.size = w.heap.size + 1 + 1 := by simp
  generalize ((w.alloc (.cells #[byteV b] 5)).alloc (.cells #[v, u, .slice (some ⟨w.heap.size, 0, none⟩) 1 1] 23)) = w1 at *
  have hlt : ∀ k, S k → k < w1.heap.size := fun k hk => Nat.lt_of_lt_of_le (hS k hk) ho.size
  refine ⟨some ⟨w.heap.size + 1, 0, none⟩, 3, rfl, Nat.le_refl _, fun i hi => ?_⟩
  match i, hi with
  | 0, _ => exact ⟨_, v, rfl, by show w.heap.size + 1 < _; omega, by rw [add_lit]; exact hb.cell 0, (hv.only ho hS (fun _ _ x => x)).mono hlt⟩
  | 1, _ => exact ⟨_, u, rfl, by show w.heap.size + 1 < _; omega, by rw [add_lit]; exact hb.cell 1, (hu.only ho hS (fun _ _ x => x)).mono hlt⟩
  | 2, _ =>
    refine ⟨_, _, rfl, by show w.heap.size + 1 < _; omega, by rw [add_lit]; exact hb.cell 2, .inr ⟨⟨w.heap.size, 0, none⟩, 1, rfl, Nat.le_refl _, fun _ => by show w.heap.size < _; omega, fun j x hx => ?_⟩⟩
    match j, hx with
    | 0, hx => cases hx; rw [add_lit]; exact hc.cell 0

theorem slice_32_h (g j : Nat) (h : j ≤ 32) (w1 : World) : (Instr.sliceAt 22 (.pointer (some ⟨g, 0, none⟩)) none (some (.int .i64 (j : Int))) none).run Tryd.prog w1 = .ok (.slice (some ⟨g, 0, none⟩) j 32) w1 := by
  rw [run_sliceAt_array_h (ht := by kernel_rfl) (h0 := by omega) (h2 := by rw [show Tryd.prog.arrayLen 22 = 32 by kernel_rfl]; omega)]
  have hsz : (sizeOf (Tryd.prog.elem 22)).run Tryd.prog w1 = .ok 1 w1 := by kernel_rfl
  rw [hsz, show Tryd.prog.arrayLen 22 = 32 by kernel_rfl]
  simp [Result.andThen, slicedAt, Addr.add]

theorem dig_pre {w : World} {g j : Nat} {bs : List UInt8} (h : Blk w g (bs.map byteV) 22) (hl : bs.length = 32) (hj : j ≤ 32) : BytesAt w (fun k => k = g) (.slice (some ⟨g, 0, none⟩) j 32) (bs.take j) := by
  have e : (bs.take j).length = j := by rw [List.length_take, hl]; exact Nat.min_eq_left hj
  have := BytesAt.of_block (o := 0) (c := 32) (bs := bs.take j) h.heap (by omega) (fun i x hx => by
    rw [List.getElem?_take] at hx
    split at hx
    · rw [Nat.zero_add, List.getElem?_map, hx]; rfl
    · cases hx)
  rwa [e] at this

theorem range_err {w : World} {vs vk vi : Value} {n : Int} (h : n < 0 ∨ 8160 < n) :
    Calls Tryd.prog 45 #[vs, vk, vi, .int .i64 n] w fun e w' => e = .returned (.tuple #[.slice none 0 0, .iface 45 (.int .i64 7)]) ∧ w = w' := by
  rcases h with h | h
  · go_enter Tryd.func45, Tryd.ntmps45
    go_wp2
    go_ret2
    exact ⟨rfl, rfl⟩
  · have h' : ¬ n < 0 := by omega
    go_enter Tryd.func45, Tryd.ntmps45
    go_wp2
    go_ret2
    exact ⟨rfl, rfl⟩

set_option maxRecDepth 100000 in
set_option maxHeartbeats 1000000 in
theorem derive_any {w : World} {S : Nat → Prop} {vs vk vi : Value} {salt secret info : List UInt8} {n : Nat} (hs : BytesAt w S vs salt) (hk : BytesAt w S vk secret) (hi : BytesAt w S vi info) (hS : ∀ k, S k → k < w.heap.size) (h1 : salt.length ≤ 137438953472) (h2 : secret.length ≤ 137438953472) (h3 : info.length ≤ 137438953472) (hn : n ≤ 8160) (hf : Fst w) (ht : Tab w) :
    Calls Tryd.prog 45 #[vs, vk, vi, .int .i64 (n : Int)] w fun e w' => ∃ a c, e = .returned (.tuple #[.slice a n c, .nilIface]) ∧ w'.ownsRow 0 5 1 (.slice a n c) n ((derived salt secret info n).map byteV) ∧ (∀ q, (Value.slice a n c).ownBlock = some q → w.heap.size ≤ q) ∧ Only (fun _ => False) w w' := by
  obtain ⟨sa, sc, rfl⟩ := hs.shape
  obtain ⟨ka, kc, rfl⟩ := hk.shape
  obtain ⟨ia, ic, rfl⟩ := hi.shape
  have hp := one_part hk hS
  have ho1 : Only (fun _ => False) w (w.alloc (.cells #[.slice ka secret.length kc] 23)) := Only.alloc _
  have hmac := sMac_any ((hs.only ho1 hS (fun _ _ x => x)).mono (S' := fun k => k < (w.alloc (.cells #[.slice ka secret.length kc] 23)).heap.size) (fun k hk => Nat.lt_of_lt_of_le (hS k hk) ho1.size)) hp (fun _ h => h) (by omega) (by simp; omega) (by simp) (hf.only ho1 (fun x => x)) (ht.only ho1 (fun x => x))
  rw [List.flatten_cons, List.flatten_nil, List.append_nil] at hmac
  have HMAC := Lib.hid hmac; have HO1 := Lib.hid ho1; have HI := Lib.hid hi; have HS := Lib.hid hS; have HF := Lib.hid hf; have HT := Lib.hid ht; have H3 := Lib.hid h3
  have HPL := Lib.hid (mac_len salt secret)
  clear hs hk hi hS hf ht hp ho1 hmac h1 h2 h3
  have hnb : ¬ (n : Int) < 0 := by omega
  have hnc : ¬ (8160 : Int) < (n : Int) := by omega
  obtain ⟨i0, hi0, hz0, hz1, hz2⟩ := info_parts info_u8
  have HB8 : Hid (i0.bytes * n ≤ 281474976710656) := by rw [hz2]; exact Lib.hid (by omega)
  have HBM : Hid (n ≤ maxLen) := by unfold maxLen; exact Lib.hid (by omega)
  go_enter Tryd.func45, Tryd.ntmps45
  go_wp2_with (first
    | (go_at_call 38; refine HMAC.out.mono ?_; rintro e w2 ⟨rfl, ho2⟩; have HO2 := Lib.hid (HO1.out.trans ho2); clear ho2)
    | (refine wpList_store_row rfl 22 (.tmp 10) (.tmp 25) rfl w2.heap.size ((Sh.mac salt secret).map byteV).toArray rfl rfl 22 (ocells 32 []).toArray (heap_alloc_last _ _) (hsize_a32 HPL.out) (by simp [HPL.out, ocells]) (oneCell_bytes _) ?_; rw [World.setRow_alloc_new]; have HP3 := Lib.hid (Blk.new w2 ((Sh.mac salt secret).map byteV) 22); have HO3 := Lib.hid (HO2.out.trans (Only.alloc (.cells ((Sh.mac salt secret).map byteV).toArray 22))); generalize w2.alloc (.cells ((Sh.mac salt secret).map byteV).toArray 22) = w3 at *)
    | (at_make; refine wpList_make_own _ rfl _ _ 23 rfl 0 5 i0 _ 1 Tryd.underlying23 hi0 hz0 hz1 .i64 .i64 _ n rfl rfl (by simp) HB8.out HBM.out (Nat.zero_le _) ?_; intro w4 hr4 hg4; have HR4 := Lib.hid hr4; have HG4 := Lib.hid hg4; clear hr4 hg4))
  have hst : Der w w4 (Sh.mac salt secret) info n w2.heap.size 0 (.slice (some ⟨w3.heap.size, 0, none⟩) 0 n) (.slice none 0 0) := by
    have hz2 := HO2.out.size
    have hz3 := HP3.out.lt
    have ho4 : Only (fun _ => False) w3 w4 := (Only.of_grown HG4.out).mono (fun k _ h => by cases h)
    refine ⟨by simpa [Sh.tees] using HR4.out, fun q hq => ?_, .inl ⟨rfl, rfl⟩, HP3.out.keep ho4 (fun x => x), hz2, HO3.out.trans ho4⟩
    have e : w3.heap.size = q := Option.some.inj hq
    omega
  have HST := Lib.hid hst
  have hY : ∀ g w1, (Instr.sliceAt 22 (.pointer (some ⟨g, 0, none⟩)) none none none).run Tryd.prog w1 = .ok (.slice (some ⟨g, 0, none⟩) 32 32) w1 := slice_all_32
  clear hst HR4 HG4 HMAC HB8 HBM
  go_loopw [11, 12, 13] (fun ov lv iv wr => ∃ (k : Nat), 32 * k < n + 32 ∧ iv = .int .u8 (((k + 1) % 256 : Nat) : Int) ∧ Der w wr (Sh.mac salt secret) info n w2.heap.size k ov lv) (fun ov _ _ _ => match ov with | .slice _ m _ => n - m | _ => 0)
  case atStart => exact ⟨0, by omega, rfl, HST.out⟩
  case round =>
    obtain ⟨k, hk, rfl, hd⟩ := hrel
    obtain ⟨oa, oc, rfl⟩ := row_shape hd.row
    obtain ⟨la, lc, rfl⟩ := hd.last.shape
    by_cases hlt : 32 * k < n
    · have hmin : min (32 * k) n = 32 * k := Nat.min_eq_left (by omega)
      have hrow := hd.row
      rw [hmin, List.take_of_length_le (by rw [tees_len]; omega)] at hrow
      rw [hmin] at hd
      rw [hmin]
      have hk255 : k + 1 < 256 := by omega
      rw [show (((k + 1) % 256 : Nat) : Int) = ((UInt8.ofNat (k + 1)).toNat : Int) by simp]
      have hmac := sMac_any (S := fun b => b < ((wr.alloc (.cells #[byteV (UInt8.ofNat (k + 1))] 5)).alloc (.cells #[.slice la (Sh.tee (Sh.mac salt secret) info k).length lc, .slice ia info.length ic, .slice (some ⟨wr.heap.size, 0, none⟩) 1 1] 23)).heap.size)
        ((dig_bytes ((hd.prk.alloc (.cells #[byteV (UInt8.ofNat (k + 1))] 5)).alloc (.cells #[.slice la (Sh.tee (Sh.mac salt secret) info k).length lc, .slice ia info.length ic, .slice (some ⟨wr.heap.size, 0, none⟩) 1 1] 23)) HPL.out).mono (fun b hb => by subst hb; exact ((hd.prk.alloc _).alloc _).lt))
        (three_parts (S := fun b => b < wr.heap.size) (hd.last.mono (fun b hb => hb.2.1)) ((HI.out.only hd.only HS.out (fun _ _ x => x)).mono (fun b hb => Nat.lt_of_lt_of_le (HS.out b hb) hd.only.size)) (fun _ h => h) (UInt8.ofNat (k + 1)))
        (fun _ h => h) (by rw [HPL.out]; decide) (by
          have := H3.out
          have hl : (Sh.tee (Sh.mac salt secret) info k).length ≤ 32 := by
            cases k with
            | zero => simp [Sh.tee]
            | succ k => rw [tee_len]; exact Nat.le_refl _
          simp
          omega) (by simp) (((HF.out.only hd.only (fun x => x)).alloc _).alloc _) (((HT.out.only hd.only (fun x => x)).alloc _).alloc _)
      have efl : [Sh.tee (Sh.mac salt secret) info k, info, [UInt8.ofNat (k + 1)]].flatten = Sh.tee (Sh.mac salt secret) info k ++ info ++ [UInt8.ofNat (k + 1)] := by simp
      rw [efl, show Sh.mac (Sh.mac salt secret) (Sh.tee (Sh.mac salt secret) info k ++ info ++ [UInt8.ofNat (k + 1)]) = Sh.tee (Sh.mac salt secret) info (k + 1) from rfl] at hmac
      have HMAC := Lib.hid hmac
      have HD := Lib.hid hd
      have HROW := Lib.hid hrow
      have htl := tee_len (Sh.mac salt secret) info k
      obtain ⟨j, hj⟩ : ∃ j, min 32 (n - 32 * k) = j := ⟨_, rfl⟩
      have hj32 : j ≤ 32 := by omega
      have HJ := Lib.hid hj
      have HTL := Lib.hid htl
      have hti : ((32 * k : Nat) : Int) < (n : Int) := by omega
      have HTN := Lib.hid (tees_take_succ (Sh.mac salt secret) info k n hlt)
      obtain ⟨T, hT⟩ : ∃ T, Sh.tee (Sh.mac salt secret) info (k + 1) = T := ⟨_, rfl⟩
      have HTT := Lib.hid hT
      rw [hT] at HMAC HTL HTN
      clear hd hrow hmac efl hmin htl hj hT
      have HTJ : Hid ((T.take j).length = j) := by unfold Hid; rw [List.length_take, HTL.out]; exact Nat.min_eq_left hj32
      unfold byteV at HMAC
      by_cases hA : 32 * (k + 1) ≤ n
      · obtain rfl : j = 32 := by have := HJ.out; omega
        have hcA : ¬ (n : Int) - 32 * (k : Int) < 32 := by omega
        have hsl := fun g w1 => slice_32_h g 32 hj32 w1
        have HJT : Hid (T.take (n - 32 * k) = T.take 32) := by unfold Hid; rw [List.take_of_length_le (by rw [HTL.out]; omega), List.take_of_length_le (by rw [HTL.out]; omega)]
        go_wp2_with (first
          | (go_at_call 38; refine HMAC.out.mono ?_; rintro e w5 ⟨rfl, ho5⟩; have HO5 := Lib.hid (((Only.alloc _).trans (Only.alloc _)).trans ho5); clear ho5)
          | (refine wpList_store_row rfl 22 (.tmp 14) (.tmp 40) rfl w5.heap.size (T.map byteV).toArray rfl rfl 22 (ocells 32 []).toArray (heap_alloc_last _ _) (hsize_a32 HTL.out) (by simp [HTL.out, ocells]) (oneCell_bytes _) ?_; rw [World.setRow_alloc_new]; have HT6 := Lib.hid (Blk.new w5 (T.map byteV) 22); have HO6 := Lib.hid (HO5.out.trans (Only.alloc (.cells (T.map byteV).toArray 22))); have HROW6 := Lib.hid (ownsRow_keep HROW.out (fun q hq => HO6.out.block q (HROW.out.lt q hq).2 (fun x => x))); have HSRC6 := Lib.hid (dig_pre HT6.out HTL.out hj32); generalize w5.alloc (.cells (T.map byteV).toArray 22) = w6 at *)
          | (at_builtin; refine wpList_append_bytes _ rfl _ _ rfl (.slice oa (32 * k) oc) (.slice (some ⟨w5.heap.size, 0, none⟩) 32 32) (32 * k) ((Sh.tees (Sh.mac salt secret) info k).map byteV) rfl rfl HROW6.out HSRC6.out (by rw [HTJ.out]; omega) ?_; intro a7 c7 w7 hr7 hg7 hat7; have HR7 := Lib.hid hr7; have HG7 := Lib.hid hg7; have HAT7 := Lib.hid hat7; clear hr7 hg7 hat7))
        have hd := HD.out
        have hz5 := HO5.out.size
        have hz6 := HT6.out.lt
        have hr7 := HR7.out
        have hg7 := HG7.out
        have hat7 := HAT7.out
        rw [HTJ.out] at hr7 hat7
        rw [show min 32 T.length = 32 by rw [HTL.out]; omega]
        have ho7 : Only (fun q => (Value.slice oa (32 * k) oc).ownBlock = some q) w6 w7 := (Only.of_grown hg7).mono (fun q _ h => h.symm)
        have hnew : ∀ q, (Value.slice a7 (32 * k + 32) c7).ownBlock = some q → (w.heap.size ≤ q ∧ q ≠ w2.heap.size) ∧ q ≠ w5.heap.size := by
          intro q hq
          have hgp := hd.prk.lt
          have hsz := hd.only.size
          rcases hat7 with h | h
          · rw [hq] at h
            have h1 := hd.own q h.symm
            have h2 := (HROW.out.lt q h.symm).2
            exact ⟨h1, by omega⟩
          · rw [hq] at h
            have h1 : q = w6.heap.size := Option.some.inj h
            exact ⟨⟨by omega, by omega⟩, by omega⟩
        have hown5 : ¬ (Value.slice oa (32 * k) oc).ownBlock = some w5.heap.size := fun h => by
          have h2 := (HROW.out.lt _ h).2
          omega
        refine ⟨⟨k + 1, by omega, ?_, ?_⟩, by simp; omega⟩
        · simp
        · have emin : min (32 * (k + 1)) n = 32 * k + 32 := by omega
          refine ⟨?_, fun q hq => (hnew q hq).1, ?_, ?_, hd.gp, ?_⟩
          · rw [emin, HTN.out, show n - 32 * k = n - 32 * k from rfl, List.map_append, HJT.out]
            exact hr7
          · have hl := dig_bytes (HT6.out.keep ho7 hown5) HTL.out
            have hw7 : w5.heap.size < w7.heap.size := Nat.lt_of_lt_of_le hz6 ho7.size
            rw [HTT.out]
            exact hl.mono (fun b hb => by subst hb; exact ⟨Nat.le_trans hd.only.size hz5, hw7, fun h => (hnew _ h).2 rfl⟩)
          · exact (hd.prk.keep HO6.out (fun x => x)).keep ho7 (fun h => (hd.own _ h).2 rfl)
          · exact (hd.only.trans HO6.out).andThen ho7 (fun q hq h => by have := (hd.own q h).1; omega)
      · have hjB : j = n - 32 * k := by have := HJ.out; omega
        have hcB : (n : Int) - 32 * (k : Int) < 32 := by omega
        have hji : (n : Int) - 32 * (k : Int) = (j : Int) := by omega
        have hsl := fun g w1 => slice_32_h g j hj32 w1
        have HJT : Hid (T.take (n - 32 * k) = T.take j) := by unfold Hid; rw [hjB]
        have HJB := Lib.hid hjB
        clear hjB
        go_wp2_with (first
          | (go_at_call 38; refine HMAC.out.mono ?_; rintro e w5 ⟨rfl, ho5⟩; have HO5 := Lib.hid (((Only.alloc _).trans (Only.alloc _)).trans ho5); clear ho5)
          | (refine wpList_store_row rfl 22 (.tmp 14) (.tmp 40) rfl w5.heap.size (T.map byteV).toArray rfl rfl 22 (ocells 32 []).toArray (heap_alloc_last _ _) (hsize_a32 HTL.out) (by simp [HTL.out, ocells]) (oneCell_bytes _) ?_; rw [World.setRow_alloc_new]; have HT6 := Lib.hid (Blk.new w5 (T.map byteV) 22); have HO6 := Lib.hid (HO5.out.trans (Only.alloc (.cells (T.map byteV).toArray 22))); have HROW6 := Lib.hid (ownsRow_keep HROW.out (fun q hq => HO6.out.block q (HROW.out.lt q hq).2 (fun x => x))); have HSRC6 := Lib.hid (dig_pre HT6.out HTL.out hj32); generalize w5.alloc (.cells (T.map byteV).toArray 22) = w6 at *)
          | (at_builtin; refine wpList_append_bytes _ rfl _ _ rfl (.slice oa (32 * k) oc) (.slice (some ⟨w5.heap.size, 0, none⟩) j 32) (32 * k) ((Sh.tees (Sh.mac salt secret) info k).map byteV) rfl rfl HROW6.out HSRC6.out (by rw [HTJ.out]; omega) ?_; intro a7 c7 w7 hr7 hg7 hat7; have HR7 := Lib.hid hr7; have HG7 := Lib.hid hg7; have HAT7 := Lib.hid hat7; clear hr7 hg7 hat7))
        have hjB := HJB.out
        have hd := HD.out
        have hz5 := HO5.out.size
        have hz6 := HT6.out.lt
        have hr7 := HR7.out
        have hg7 := HG7.out
        have hat7 := HAT7.out
        rw [HTJ.out] at hr7 hat7
        rw [show min j T.length = j by rw [HTL.out]; omega]
        have ho7 : Only (fun q => (Value.slice oa (32 * k) oc).ownBlock = some q) w6 w7 := (Only.of_grown hg7).mono (fun q _ h => h.symm)
        have hnew : ∀ q, (Value.slice a7 (32 * k + j) c7).ownBlock = some q → (w.heap.size ≤ q ∧ q ≠ w2.heap.size) ∧ q ≠ w5.heap.size := by
          intro q hq
          have hgp := hd.prk.lt
          have hsz := hd.only.size
          rcases hat7 with h | h
          · rw [hq] at h
            have h1 := hd.own q h.symm
            have h2 := (HROW.out.lt q h.symm).2
            exact ⟨h1, by omega⟩
          · rw [hq] at h
            have h1 : q = w6.heap.size := Option.some.inj h
            exact ⟨⟨by omega, by omega⟩, by omega⟩
        have hown5 : ¬ (Value.slice oa (32 * k) oc).ownBlock = some w5.heap.size := fun h => by
          have h2 := (HROW.out.lt _ h).2
          omega
        refine ⟨⟨k + 1, by omega, ?_, ?_⟩, by simp; omega⟩
        · simp
        · have emin : min (32 * (k + 1)) n = 32 * k + j := by omega
          refine ⟨?_, fun q hq => (hnew q hq).1, ?_, ?_, hd.gp, ?_⟩
          · rw [emin, HTN.out, show n - 32 * k = n - 32 * k from rfl, List.map_append, HJT.out]
            exact hr7
          · have hl := dig_bytes (HT6.out.keep ho7 hown5) HTL.out
            have hw7 : w5.heap.size < w7.heap.size := Nat.lt_of_lt_of_le hz6 ho7.size
            rw [HTT.out]
            exact hl.mono (fun b hb => by subst hb; exact ⟨Nat.le_trans hd.only.size hz5, hw7, fun h => (hnew _ h).2 rfl⟩)
          · exact (hd.prk.keep HO6.out (fun x => x)).keep ho7 (fun h => (hd.own _ h).2 rfl)
          · exact (hd.only.trans HO6.out).andThen ho7 (fun q hq h => by have := (hd.own q h).1; omega)
    · have hmin : min (32 * k) n = n := Nat.min_eq_right (by omega)
      have hrow := hd.row
      have hown := hd.own
      rw [hmin] at hrow hown
      rw [hmin]
      rw [derived_eq salt secret info n k (by omega)] at hrow
      have HROW := Lib.hid hrow; have HOWN := Lib.hid hown; have HOD := Lib.hid hd.only
      clear hd hrow hown hmin hY
      go_wp2
      go_ret2
      exact ⟨oa, oc, rfl, HROW.out, fun q hq => (HOWN.out q hq).1, HOD.out⟩

end Go.Proofs.YtgdnmbchhfbjoaaDoor
