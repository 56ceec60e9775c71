/- The law WireCuts. Conditions: rows within the reach. -/
import Derived.Test.YtnomgcbkaggmhaaWiCutP
import Derived.Test.YtnomgcbkaggmhaaWiSum
import Derived.Test.YtnomgcbkaggmhaaWiFrame
import Derived.Test.YtnomgcbkaggmhaaWiAlive
namespace Go.Proofs.Ytnomgcbkaggmhaa
open Go.RowKit

theorem Row.empty (w : World) : Row w (w.alloc (.cells #[] 5)) (.slice (some ⟨w.heap.size, 0, none⟩) 0 0) [] := by
  refine ⟨World.ownsRow_made w (e := 5) (size := 1) (base := 0) #[] 0 (Nat.zero_le _) (Nat.zero_le _) rfl, fun q hq => ?_, Only.alloc _⟩
  have : w.heap.size = q := Option.some.inj hq
  omega

theorem BytesAt.cap' {w : World} {S : Nat → Prop} {a : Option Addr} {n c : Nat} {bs : List UInt8} (h : BytesAt w S (.slice a n c) bs) : bs.length ≤ c := by
  rcases h with ⟨_, rfl⟩ | ⟨ad, c', e, hc, _⟩
  · simp
  · obtain ⟨rfl, rfl, rfl⟩ := Value.slice.inj e
    exact hc
theorem BytesAt.pre' {w : World} {S : Nat → Prop} {a : Option Addr} {n c k : Nat} {bs : List UInt8} (h : BytesAt w S (.slice a n c) bs) (hk : k ≤ bs.length) : BytesAt w S (.slice a k c) (bs.take k) := by
  rcases h with ⟨e, rfl⟩ | ⟨ad, c', e, hc, h2, h3⟩
  · obtain ⟨rfl, rfl, rfl⟩ := Value.slice.inj e
    have : k = 0 := by simpa using hk
    subst this
    exact .inl ⟨rfl, rfl⟩
  · obtain ⟨rfl, rfl, rfl⟩ := Value.slice.inj e
    have hl : (bs.take k).length = k := by simp; omega
    refine .inr ⟨ad, c, by rw [hl], by omega, fun hne => h2 (fun e => hne (by rw [e]; simp)), fun j x hx => h3 j x ?_⟩
    rw [List.getElem?_take] at hx
    split at hx
    · exact hx
    · cases hx

set_option maxRecDepth 100000 in
set_option maxHeartbeats 4000000 in
theorem wireCuts_any {w : World} {S : Nat → Prop} {v : Value} {fs : List (List UInt8)} (hv : PartsAt w S v fs) (hS : ∀ k, S k → k < w.heap.size) (hpl : (∀ p ∈ fs, p.length ≤ 140737488351232) ∧ fs.length ≤ 140737488355328) {kd : Int} (hk : 0 ≤ kd ∧ kd ≤ 255) {cut : Int} (_hc : -9223372036854775808 ≤ cut ∧ cut ≤ 9223372036854775807) :
    Calls Try.prog 8 #[v, .int .u8 kd, .int .i64 cut] w fun e w' => e = .returned (.bool true) ∧ Only (fun _ => False) w w' := by
  obtain ⟨va, vc, rfl, hcp, -⟩ := id hv
  obtain ⟨x, rfl⟩ : ∃ x : UInt8, kd = (x.toNat : Int) := ⟨UInt8.ofNat kd.toNat, by simp; omega⟩
  have HV := Lib.hid hv; have HS := Lib.hid hS
  have HSUM : Hid (∀ w1, Only (fun _ => False) w w1 → Calls Try.prog 22 #[.slice va fs.length vc, .int .i64 1048576] w1 fun e w' => e = .returned (.int .i64 ((min (tot fs) 1048576 : Nat) : Int)) ∧ w1 = w') := fun w1 ho =>
    numSum_any (most := 1048576) (HV.out.only ho HS.out (fun _ _ x => x)) (fun p hp => Nat.le_trans (hpl.1 p hp) (by decide)) hpl.2 (Nat.le_refl _)
  clear hv hS hcp hk _hc
  by_cases hcnt : (fs.length : Int) > 200
  · clear HSUM HV HS hpl
    go_enter Try.func8, Try.ntmps8
    go_wp2_with (go_at_call 10; refine alive_any.mono ?_; rintro e w1 ⟨rfl, ho1⟩; have HO1 := Lib.hid ho1; clear ho1)
    go_ret
    exact ⟨rfl, HO1.out⟩
  · obtain ⟨T, hT⟩ : ∃ T, min (tot fs) 1048576 = T := ⟨_, rfl⟩
    rw [hT] at HSUM
    by_cases hsum : (T : Int) > 16384
    · clear HV HS hpl hT
      go_enter Try.func8, Try.ntmps8
      go_wp2_with (first
        | (go_at_call 10; refine alive_any.mono ?_; rintro e w1 ⟨rfl, ho1⟩; have HO1 := Lib.hid ho1; clear ho1)
        | (go_at_call 22; refine (HSUM.out _ HO1.out).mono ?_; rintro e w2 ⟨rfl, rfl⟩))
      go_ret
      exact ⟨rfl, HO1.out⟩
    · have hp : Parts fs := ⟨by omega, by omega⟩
      have hlim : ∀ f ∈ fs, f.length ≤ 67108864 := fun f hf => by have := hp.mem hf; omega
      have hPl : Short (Wi.pack fs).length := ⟨by
        have := Wi.pack_len fs (fun f hf => by have := hp.mem hf; omega)
        omega⟩
      have hFl : Short (Wi.frameOf x fs.flatten).length := ⟨by
        have h1 := Wi.var_length 8 (tot fs) (by have := hp.sum; simp; omega)
        rw [frameOf_eq]
        have : fs.flatten.length = tot fs := rfl
        simp only [List.length_append, List.length_cons, List.length_nil, this]
        omega⟩
      have hbl : fs.flatten.length ≤ 67108864 := by have := hp.sum; unfold tot at this; omega
      have HPA1 : Hid (∀ w1, Only (fun _ => False) w w1 → Calls Try.prog 23 #[.slice va fs.length vc] w1 fun e w' => ∃ a c, e = .returned (.slice a (Wi.pack fs).length c) ∧ Row w1 w' (.slice a (Wi.pack fs).length c) (Wi.pack fs)) := fun w1 ho =>
        pack_any (HV.out.only ho HS.out (fun _ _ x => x)) (fun k hk => Nat.lt_of_lt_of_le (HS.out k hk) ho.size) hp
      have HFR : Hid (∀ w1, Only (fun _ => False) w w1 → Calls Try.prog 31 #[.int .u8 (x.toNat : Int), .slice va fs.length vc] w1 fun e w' => ∃ a c, e = .returned (.slice a (Wi.frameOf x fs.flatten).length c) ∧ Row w1 w' (.slice a (Wi.frameOf x fs.flatten).length c) (Wi.frameOf x fs.flatten)) := fun w1 ho =>
        frame_any (HV.out.only ho HS.out (fun _ _ x => x)) (fun k hk => Nat.lt_of_lt_of_le (HS.out k hk) ho.size) hp
      have HUN : Hid (∀ (w1 : World) (v : Value) (bs : List UInt8), BytesAt w1 (fun k => k < w1.heap.size) v bs → Short bs.length → Wi.unpack fs.length bs = none → Calls Try.prog 26 #[v, .int .i64 (fs.length : Int)] w1 fun e w' => e = .returned (.tuple #[.slice none 0 0, .iface 75 (.int .i64 9)]) ∧ Only (fun _ => False) w1 w') := by
        intro w1 v bs hb hs hu
        refine (unpack_any hb (fun _ h => h) hs (by omega)).mono ?_
        rintro e w' (⟨a, c, g, ps, rfl, hd⟩ | ⟨_, rfl, ho⟩)
        · have := hd.eq; rw [hu] at this; cases this
        · exact ⟨rfl, ho⟩
      have HUC : Hid (∀ c, c < (Wi.pack fs).length → Wi.unpack fs.length ((Wi.pack fs).take c) = none) := fun c hc => Wi.unpack_cut hlim hc
      have HUB : Hid (∀ (w1 : World) (v : Value), BytesAt w1 (fun k => k < w1.heap.size) v (Wi.pack fs ++ [0]) → Calls Try.prog 26 #[v, .int .i64 (fs.length : Int)] w1 fun e w' => e = .returned (.tuple #[.slice none 0 0, .iface 75 (.int .i64 9)]) ∧ Only (fun _ => False) w1 w') := fun w1 v hb =>
        HUN.out w1 v _ hb ⟨by
          have h1 := Wi.pack_len fs (fun f hf => by have := hp.mem hf; omega)
          have h2 : tot fs ≤ 16384 := by omega
          simp; omega⟩ (Wi.unpack_more hlim 0)
      have HGC : Hid (∀ (w1 : World) (fa : Option Addr) (n fc c : Nat), c < (Wi.frameOf x fs.flatten).length → BytesAt w1 (fun k => k < w1.heap.size) (.slice fa n fc) (Wi.frameOf x fs.flatten) → Calls Try.prog 30 #[.slice fa c fc] w1 fun e w' => ∃ a c, e = .returned (.tuple #[.slice a 0 c, .int .i64 0]) ∧ Only (fun _ => False) w1 w') := by
        intro w1 fa n fc c hc hb
        refine (frames_any (hb.pre' (k := c) (by omega)) (fun _ h => h) ⟨by have := hFl.le; simp; omega⟩).mono ?_
        rintro e w' ⟨a, c', g, fr, to', rfl, hd⟩
        have he := hd.eq
        rw [Wi.frames_cut hbl hc] at he
        obtain ⟨e1, rfl⟩ := Prod.mk.inj he
        have e2 : fr = [] := List.map_eq_nil_iff.1 e1.symm
        subst e2
        exact ⟨a, c', rfl, hd.lst.only⟩
      have HGA : Hid (∀ (w1 : World) (v : Value), BytesAt w1 (fun k => k < w1.heap.size) v (Wi.frameOf x fs.flatten) → Calls Try.prog 30 #[v] w1 fun e w' => ∃ a c, e = .returned (.tuple #[.slice a 1 c, .int .i64 ((Wi.frameOf x fs.flatten).length : Int)]) ∧ Only (fun _ => False) w1 w') := by
        intro w1 v hb
        refine (frames_any hb (fun _ h => h) hFl).mono ?_
        rintro e w' ⟨a, c', g, fr, to', rfl, hd⟩
        have he := hd.eq
        rw [Wi.frames_one hbl (by omega)] at he
        obtain ⟨e1, rfl⟩ := Prod.mk.inj he
        have e2 : fr.length = 1 := by have := congrArg List.length e1; simpa using this.symm
        rw [e2]
        exact ⟨a, c', rfl, hd.lst.only⟩
      have HPL := Lib.hid hPl
      clear hlim hbl hp hT hPl
      generalize hF : Wi.frameOf x fs.flatten = F at *
      generalize hP : Wi.pack fs = P at *
      have HFL := Lib.hid hFl
      clear hF hP hFl
      go_enter Try.func8, Try.ntmps8
      go_wp2_with (first
        | (go_at_call 10; refine alive_any.mono ?_; rintro e w1 ⟨rfl, ho1⟩; have HO1 := Lib.hid ho1; clear ho1)
        | (go_at_call 22; refine (HSUM.out _ HO1.out).mono ?_; rintro e w2 ⟨rfl, rfl⟩))
      refine (HPA1.out _ HO1.out).mono ?_
      rintro e w2 ⟨pa, pc, rfl, hr2⟩
      have HP2 := Lib.hid hr2.bytes; have HO2 := Lib.hid (HO1.out.trans hr2.only)
      have HUA : Hid (∀ c, c < P.length → Calls Try.prog 26 #[.slice pa c pc, .int .i64 (fs.length : Int)] w2 fun e w' => e = .returned (.tuple #[.slice none 0 0, .iface 75 (.int .i64 9)]) ∧ Only (fun _ => False) w2 w') := fun c hc =>
        HUN.out w2 _ _ (HP2.out.pre' (k := c) (by omega)) ⟨by have := HPL.out.le; simp; omega⟩ (HUC.out c hc)
      clear hr2 HSUM HPA1 HO1 HUC HUN HV HS hpl
      by_cases h0 : cut < 0
      · have h0' : ¬ cut ≥ 0 := by omega
        obtain ⟨w3, hw3⟩ : ∃ q, q = w2 := ⟨_, rfl⟩
        subst hw3
        have HP3 := HP2; have HO3 := HO2
        have HE3 := Lib.hid (Row.empty w3)
        have HPA := Lib.hid (HP3.out.here (Only.alloc (.cells #[] 5)) (fun _ h => h))
        go_wp2_with (first
          | (at_builtin; refine wpList_append_bytes _ rfl _ _ rfl (.slice (some ⟨w3.heap.size, 0, none⟩) 0 0) (.slice pa P.length pc) 0 [] rfl rfl HE3.out.row HPA.out (by have := HPL.out.le; omega) ?_; intro a4 c4 w4 hr4 hg4 hat4; rw [Nat.zero_add] at hr4 hat4; rw [Nat.zero_add]; have HR4 := Lib.hid (HE3.out.app (y := P) (Only.refl _ _) (by simp) hr4 hg4 hat4); have HRA : Hid (∀ y, (w4.alloc y).ownsRow 0 5 1 (.slice a4 P.length c4) P.length (P.map byteV)) := (fun y => HR4.out.row.alloc y); clear hr4 hg4 hat4)
          | (at_builtin; refine wpList_append_bytes _ rfl _ _ rfl (.slice a4 P.length c4) (.slice (some ⟨w4.heap.size, 0, none⟩) 1 1) P.length (P.map byteV) rfl rfl (HRA.out _) (one_byte w4 0) (by have := HPL.out.le; simp; omega) ?_; intro a5 c5 w5 hr5 hg5 hat5; have HR5 := Lib.hid (HR4.out.app (y := [0]) (Only.alloc _) rfl hr5 hg5 hat5); clear hr5 hg5 hat5))
        refine (HUB.out w5 _ HR5.out.bytes).mono ?_
        rintro e w6 ⟨rfl, ho6⟩
        have HO6 := Lib.hid ((HO3.out.trans HR5.out.only).trans ho6)
        clear ho6 HE3 HPA HP3
        go_wp2_with fail
        refine (HFR.out w6 HO6.out).mono ?_
        rintro e w7 ⟨fa, fc, rfl, hr7⟩
        have HO7 := Lib.hid (HO6.out.trans hr7.only); have HP7 := Lib.hid hr7.bytes
        clear hr7
        obtain ⟨w8, hw8⟩ : ∃ q, q = w7 := ⟨_, rfl⟩
        subst hw8
        have HP8 := HP7; have HO8 := HO7
        go_wp2_with fail
        refine (HGA.out w8 _ HP8.out).mono ?_
        rintro e w9 ⟨la, lc, rfl, ho9⟩
        have HO9 := Lib.hid (HO8.out.trans ho9)
        clear ho9
        go_wp2_with fail
        go_ret
        exact ⟨rfl, HO9.out⟩
      · obtain ⟨c, rfl⟩ := Int.eq_ofNat_of_zero_le (show 0 ≤ cut by omega)
        have h0' : (c : Int) ≥ 0 := by omega
        by_cases hcP : c < P.length
        · have gP : (c : Int) < (P.length : Int) := by omega
          by_cases hcF : c < F.length
          · have gF : (c : Int) < (F.length : Int) := by omega
            have hsP := slice_h (a := pa) (n := P.length) (cap := pc) (m := c) (by have := HP2.out.cap'; omega)
            go_wp2_with fail
            refine (HUA.out c hcP).mono ?_
            rintro e w3 ⟨rfl, ho3⟩
            have HP3 := Lib.hid (HP2.out.here ho3 (fun _ h => h)); have HO3 := Lib.hid (HO2.out.trans ho3)
            clear ho3
            have HE3 := Lib.hid (Row.empty w3)
            have HPA := Lib.hid (HP3.out.here (Only.alloc (.cells #[] 5)) (fun _ h => h))
            go_wp2_with (first
              | (at_builtin; refine wpList_append_bytes _ rfl _ _ rfl (.slice (some ⟨w3.heap.size, 0, none⟩) 0 0) (.slice pa P.length pc) 0 [] rfl rfl HE3.out.row HPA.out (by have := HPL.out.le; omega) ?_; intro a4 c4 w4 hr4 hg4 hat4; rw [Nat.zero_add] at hr4 hat4; rw [Nat.zero_add]; have HR4 := Lib.hid (HE3.out.app (y := P) (Only.refl _ _) (by simp) hr4 hg4 hat4); have HRA : Hid (∀ y, (w4.alloc y).ownsRow 0 5 1 (.slice a4 P.length c4) P.length (P.map byteV)) := (fun y => HR4.out.row.alloc y); clear hr4 hg4 hat4)
              | (at_builtin; refine wpList_append_bytes _ rfl _ _ rfl (.slice a4 P.length c4) (.slice (some ⟨w4.heap.size, 0, none⟩) 1 1) P.length (P.map byteV) rfl rfl (HRA.out _) (one_byte w4 0) (by have := HPL.out.le; simp; omega) ?_; intro a5 c5 w5 hr5 hg5 hat5; have HR5 := Lib.hid (HR4.out.app (y := [0]) (Only.alloc _) rfl hr5 hg5 hat5); clear hr5 hg5 hat5))
            refine (HUB.out w5 _ HR5.out.bytes).mono ?_
            rintro e w6 ⟨rfl, ho6⟩
            have HO6 := Lib.hid ((HO3.out.trans HR5.out.only).trans ho6)
            clear ho6 HE3 HPA HP3
            go_wp2_with fail
            refine (HFR.out w6 HO6.out).mono ?_
            rintro e w7 ⟨fa, fc, rfl, hr7⟩
            have HO7 := Lib.hid (HO6.out.trans hr7.only); have HP7 := Lib.hid hr7.bytes
            clear hr7
            have hsF := slice_h (a := fa) (n := F.length) (cap := fc) (m := c) (by have := HP7.out.cap'; omega)
            go_wp2_with fail
            refine (HGC.out w7 _ _ _ c hcF HP7.out).mono ?_
            rintro e w8 ⟨ga, gc, rfl, ho8⟩
            have HP8 := Lib.hid (HP7.out.here ho8 (fun _ h => h)); have HO8 := Lib.hid (HO7.out.trans ho8)
            clear ho8
            go_wp2_with fail
            refine (HGA.out w8 _ HP8.out).mono ?_
            rintro e w9 ⟨la, lc, rfl, ho9⟩
            have HO9 := Lib.hid (HO8.out.trans ho9)
            clear ho9
            go_wp2_with fail
            go_ret
            exact ⟨rfl, HO9.out⟩
          · have gF : ¬ (c : Int) < (F.length : Int) := by omega
            have hsP := slice_h (a := pa) (n := P.length) (cap := pc) (m := c) (by have := HP2.out.cap'; omega)
            go_wp2_with fail
            refine (HUA.out c hcP).mono ?_
            rintro e w3 ⟨rfl, ho3⟩
            have HP3 := Lib.hid (HP2.out.here ho3 (fun _ h => h)); have HO3 := Lib.hid (HO2.out.trans ho3)
            clear ho3
            have HE3 := Lib.hid (Row.empty w3)
            have HPA := Lib.hid (HP3.out.here (Only.alloc (.cells #[] 5)) (fun _ h => h))
            go_wp2_with (first
              | (at_builtin; refine wpList_append_bytes _ rfl _ _ rfl (.slice (some ⟨w3.heap.size, 0, none⟩) 0 0) (.slice pa P.length pc) 0 [] rfl rfl HE3.out.row HPA.out (by have := HPL.out.le; omega) ?_; intro a4 c4 w4 hr4 hg4 hat4; rw [Nat.zero_add] at hr4 hat4; rw [Nat.zero_add]; have HR4 := Lib.hid (HE3.out.app (y := P) (Only.refl _ _) (by simp) hr4 hg4 hat4); have HRA : Hid (∀ y, (w4.alloc y).ownsRow 0 5 1 (.slice a4 P.length c4) P.length (P.map byteV)) := (fun y => HR4.out.row.alloc y); clear hr4 hg4 hat4)
              | (at_builtin; refine wpList_append_bytes _ rfl _ _ rfl (.slice a4 P.length c4) (.slice (some ⟨w4.heap.size, 0, none⟩) 1 1) P.length (P.map byteV) rfl rfl (HRA.out _) (one_byte w4 0) (by have := HPL.out.le; simp; omega) ?_; intro a5 c5 w5 hr5 hg5 hat5; have HR5 := Lib.hid (HR4.out.app (y := [0]) (Only.alloc _) rfl hr5 hg5 hat5); clear hr5 hg5 hat5))
            refine (HUB.out w5 _ HR5.out.bytes).mono ?_
            rintro e w6 ⟨rfl, ho6⟩
            have HO6 := Lib.hid ((HO3.out.trans HR5.out.only).trans ho6)
            clear ho6 HE3 HPA HP3
            go_wp2_with fail
            refine (HFR.out w6 HO6.out).mono ?_
            rintro e w7 ⟨fa, fc, rfl, hr7⟩
            have HO7 := Lib.hid (HO6.out.trans hr7.only); have HP7 := Lib.hid hr7.bytes
            clear hr7
            obtain ⟨w8, hw8⟩ : ∃ q, q = w7 := ⟨_, rfl⟩
            subst hw8
            have HP8 := HP7; have HO8 := HO7
            go_wp2_with fail
            refine (HGA.out w8 _ HP8.out).mono ?_
            rintro e w9 ⟨la, lc, rfl, ho9⟩
            have HO9 := Lib.hid (HO8.out.trans ho9)
            clear ho9
            go_wp2_with fail
            go_ret
            exact ⟨rfl, HO9.out⟩
        · have gP : ¬ (c : Int) < (P.length : Int) := by omega
          by_cases hcF : c < F.length
          · have gF : (c : Int) < (F.length : Int) := by omega
            obtain ⟨w3, hw3⟩ : ∃ q, q = w2 := ⟨_, rfl⟩
            subst hw3
            have HP3 := HP2; have HO3 := HO2
            have HE3 := Lib.hid (Row.empty w3)
            have HPA := Lib.hid (HP3.out.here (Only.alloc (.cells #[] 5)) (fun _ h => h))
            go_wp2_with (first
              | (at_builtin; refine wpList_append_bytes _ rfl _ _ rfl (.slice (some ⟨w3.heap.size, 0, none⟩) 0 0) (.slice pa P.length pc) 0 [] rfl rfl HE3.out.row HPA.out (by have := HPL.out.le; omega) ?_; intro a4 c4 w4 hr4 hg4 hat4; rw [Nat.zero_add] at hr4 hat4; rw [Nat.zero_add]; have HR4 := Lib.hid (HE3.out.app (y := P) (Only.refl _ _) (by simp) hr4 hg4 hat4); have HRA : Hid (∀ y, (w4.alloc y).ownsRow 0 5 1 (.slice a4 P.length c4) P.length (P.map byteV)) := (fun y => HR4.out.row.alloc y); clear hr4 hg4 hat4)
              | (at_builtin; refine wpList_append_bytes _ rfl _ _ rfl (.slice a4 P.length c4) (.slice (some ⟨w4.heap.size, 0, none⟩) 1 1) P.length (P.map byteV) rfl rfl (HRA.out _) (one_byte w4 0) (by have := HPL.out.le; simp; omega) ?_; intro a5 c5 w5 hr5 hg5 hat5; have HR5 := Lib.hid (HR4.out.app (y := [0]) (Only.alloc _) rfl hr5 hg5 hat5); clear hr5 hg5 hat5))
            refine (HUB.out w5 _ HR5.out.bytes).mono ?_
            rintro e w6 ⟨rfl, ho6⟩
            have HO6 := Lib.hid ((HO3.out.trans HR5.out.only).trans ho6)
            clear ho6 HE3 HPA HP3
            go_wp2_with fail
            refine (HFR.out w6 HO6.out).mono ?_
            rintro e w7 ⟨fa, fc, rfl, hr7⟩
            have HO7 := Lib.hid (HO6.out.trans hr7.only); have HP7 := Lib.hid hr7.bytes
            clear hr7
            have hsF := slice_h (a := fa) (n := F.length) (cap := fc) (m := c) (by have := HP7.out.cap'; omega)
            go_wp2_with fail
            refine (HGC.out w7 _ _ _ c hcF HP7.out).mono ?_
            rintro e w8 ⟨ga, gc, rfl, ho8⟩
            have HP8 := Lib.hid (HP7.out.here ho8 (fun _ h => h)); have HO8 := Lib.hid (HO7.out.trans ho8)
            clear ho8
            go_wp2_with fail
            refine (HGA.out w8 _ HP8.out).mono ?_
            rintro e w9 ⟨la, lc, rfl, ho9⟩
            have HO9 := Lib.hid (HO8.out.trans ho9)
            clear ho9
            go_wp2_with fail
            go_ret
            exact ⟨rfl, HO9.out⟩
          · have gF : ¬ (c : Int) < (F.length : Int) := by omega
            obtain ⟨w3, hw3⟩ : ∃ q, q = w2 := ⟨_, rfl⟩
            subst hw3
            have HP3 := HP2; have HO3 := HO2
            have HE3 := Lib.hid (Row.empty w3)
            have HPA := Lib.hid (HP3.out.here (Only.alloc (.cells #[] 5)) (fun _ h => h))
            go_wp2_with (first
              | (at_builtin; refine wpList_append_bytes _ rfl _ _ rfl (.slice (some ⟨w3.heap.size, 0, none⟩) 0 0) (.slice pa P.length pc) 0 [] rfl rfl HE3.out.row HPA.out (by have := HPL.out.le; omega) ?_; intro a4 c4 w4 hr4 hg4 hat4; rw [Nat.zero_add] at hr4 hat4; rw [Nat.zero_add]; have HR4 := Lib.hid (HE3.out.app (y := P) (Only.refl _ _) (by simp) hr4 hg4 hat4); have HRA : Hid (∀ y, (w4.alloc y).ownsRow 0 5 1 (.slice a4 P.length c4) P.length (P.map byteV)) := (fun y => HR4.out.row.alloc y); clear hr4 hg4 hat4)
              | (at_builtin; refine wpList_append_bytes _ rfl _ _ rfl (.slice a4 P.length c4) (.slice (some ⟨w4.heap.size, 0, none⟩) 1 1) P.length (P.map byteV) rfl rfl (HRA.out _) (one_byte w4 0) (by have := HPL.out.le; simp; omega) ?_; intro a5 c5 w5 hr5 hg5 hat5; have HR5 := Lib.hid (HR4.out.app (y := [0]) (Only.alloc _) rfl hr5 hg5 hat5); clear hr5 hg5 hat5))
            refine (HUB.out w5 _ HR5.out.bytes).mono ?_
            rintro e w6 ⟨rfl, ho6⟩
            have HO6 := Lib.hid ((HO3.out.trans HR5.out.only).trans ho6)
            clear ho6 HE3 HPA HP3
            go_wp2_with fail
            refine (HFR.out w6 HO6.out).mono ?_
            rintro e w7 ⟨fa, fc, rfl, hr7⟩
            have HO7 := Lib.hid (HO6.out.trans hr7.only); have HP7 := Lib.hid hr7.bytes
            clear hr7
            obtain ⟨w8, hw8⟩ : ∃ q, q = w7 := ⟨_, rfl⟩
            subst hw8
            have HP8 := HP7; have HO8 := HO7
            go_wp2_with fail
            refine (HGA.out w8 _ HP8.out).mono ?_
            rintro e w9 ⟨la, lc, rfl, ho9⟩
            have HO9 := Lib.hid (HO8.out.trans ho9)
            clear ho9
            go_wp2_with fail
            go_ret
            exact ⟨rfl, HO9.out⟩

end Go.Proofs.Ytnomgcbkaggmhaa
