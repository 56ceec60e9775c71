/- The law ShaStreams: a Hasher and a Keyed say at each moment what Sum and Mac say of all that was written. Conditions: rows within the reach. -/
import Derived.Test.YtdgaojibfpafnaaDoorSStm
import Derived.IntWalk
namespace Go.Proofs.YtdgaojibfpafnaaDoor
open Go.RowKit

set_option maxRecDepth 1000000 in
set_option maxHeartbeats 8000000 in
theorem shaStreams_any {w : World} {S : Nat → Prop} {vk v : Value} {key : List UInt8} {ps : List (List UInt8)} {at_ : Int} (hk : BytesAt w S vk key) (hv : PartsAt w S v ps) (lk : key.length ≤ 140737488355328) (lp : ∀ p ∈ ps, p.length ≤ 140737488355328) (ln : ps.length ≤ 140737488355328) (hS : ∀ k, S k → k < w.heap.size) (hf : Fst w) (ht : Tab w) :
    Calls Tryd.prog 5 #[vk, v, .int .i64 at_] w fun e w' => e = .returned (.bool true) ∧ Only (fun _ => False) w w' := by
  have HAL := Lib.hid (alive_any hf ht)
  obtain ⟨va, vc, rfl, hcp, hat⟩ := id hv
  obtain ⟨ka, kc, rfl⟩ := hk.shape
  have HK := Lib.hid hk; have HV := Lib.hid hv; have HAT := Lib.hid hat; have HS := Lib.hid hS; have HF := Lib.hid hf; have HT := Lib.hid ht
  have HLG : Hid (∀ w1, Only (fun _ => False) w w1 → Calls Tryd.prog 10 #[.slice (some ⟨w1.heap.size, 0, none⟩) 1 1] (w1.alloc (.cells #[.slice ka key.length kc] 22)) fun e w' => e = .returned (.bool (decide (65536 < key.length))) ∧ w1.alloc (.cells #[.slice ka key.length kc] 22) = w') := by
    intro w1 ho
    have h := large_any (one_part (hk.only ho hS (fun _ _ x => x)) (fun k hk => Nat.lt_of_lt_of_le (hS k hk) ho.size)) (by simpa using lk) (by simp)
    have e : tot [key] = key.length := by simp [tot]
    rw [e] at h
    exact h
  have HNS : Hid (∀ w1, Only (fun _ => False) w w1 → Calls Tryd.prog 20 #[.slice va ps.length vc, .int .i64 1048576] w1 fun e w' => e = .returned (.int .i64 ((min (tot ps) 1048576 : Nat) : Int)) ∧ w1 = w') := by
    intro w1 ho
    exact numSum_any (most := 1048576) (hv.only ho hS (fun _ _ x => x)) lp ln (Nat.le_refl _)
  clear hk hv hat hS hf ht
  by_cases hbig : 65536 < key.length
  · have hd : decide (65536 < key.length) = true := decide_eq_true hbig
    rw [hd] at HLG
    clear hd
    go_enter Tryd.func5, Tryd.ntmps5
    go_wp2_with (first
      | (go_at_call 9; refine HAL.out.mono ?_; rintro e w1 ⟨rfl, ho1⟩; have HO1 := Lib.hid ho1; have HLW := Lib.hid (HLG.out w1 ho1); clear ho1)
      | (go_at_call 10; refine HLW.out.mono ?_; rintro e w' ⟨rfl, rfl⟩))
    go_ret
    exact ⟨rfl, HO1.out.trans (Only.alloc _)⟩
  · have hd : decide (65536 < key.length) = false := decide_eq_false hbig
    rw [hd] at HLG
    clear hd
    by_cases h60 : 60 < ps.length
    · have h60i : (60 : Int) < (ps.length : Int) := by omega
      have h60d : decide ((60 : Int) < (ps.length : Int)) = true := decide_eq_true h60i
      go_enter Tryd.func5, Tryd.ntmps5
      go_wp2_with (first
        | (go_at_call 9; refine HAL.out.mono ?_; rintro e w1 ⟨rfl, ho1⟩; have HO1 := Lib.hid ho1; have HLW := Lib.hid (HLG.out w1 ho1); clear ho1)
        | (go_at_call 10; refine HLW.out.mono ?_; rintro e w' ⟨rfl, rfl⟩))
      go_ret
      exact ⟨rfl, HO1.out.trans (Only.alloc _)⟩
    · have h60i : ¬ (60 : Int) < (ps.length : Int) := by omega
      have h60d : decide ((60 : Int) < (ps.length : Int)) = false := decide_eq_false h60i
      by_cases h14 : 16384 < tot ps
      · have h14i : (16384 : Int) < ((min (tot ps) 1048576 : Nat) : Int) := by omega
        have h14d : decide ((16384 : Int) < ((min (tot ps) 1048576 : Nat) : Int)) = true := decide_eq_true h14i
        generalize min (tot ps) 1048576 = mt at *
        go_enter Tryd.func5, Tryd.ntmps5
        go_wp2_with (first
          | (go_at_call 9; refine HAL.out.mono ?_; rintro e w1 ⟨rfl, ho1⟩; have HO1 := Lib.hid (ho1.trans (Only.alloc (.cells #[.slice ka key.length kc] 22))); have HLW := Lib.hid (HLG.out w1 ho1); have HNW := Lib.hid (HNS.out _ (ho1.trans (Only.alloc (.cells #[.slice ka key.length kc] 22)))); clear ho1)
          | (go_at_call 10; refine HLW.out.mono ?_; rintro e w' ⟨rfl, rfl⟩)
          | (go_at_call 20; refine HNW.out.mono ?_; rintro e w' ⟨rfl, rfl⟩))
        go_ret
        exact ⟨rfl, HO1.out⟩
      · have h14i : ¬ (16384 : Int) < ((min (tot ps) 1048576 : Nat) : Int) := by omega
        have h14d : decide ((16384 : Int) < ((min (tot ps) 1048576 : Nat) : Int)) = false := decide_eq_false h14i
        have HTL : Hid (ps.flatten.length ≤ 16384) := Lib.hid (show tot ps ≤ 16384 by omega)
        have HKL : Hid (key.length ≤ 65536) := Lib.hid (by omega)
        have HQK : Hid (key.length ≤ 1048576) := Lib.hid (by omega)
        generalize min (tot ps) 1048576 = mt at *
        go_enter Tryd.func5, Tryd.ntmps5
        go_wp2_with (first
          | (go_at_call 9; refine HAL.out.mono ?_; rintro e w1 ⟨rfl, ho1⟩; have HO1 := Lib.hid (ho1.trans (Only.alloc (.cells #[.slice ka key.length kc] 22))); have HLW := Lib.hid (HLG.out w1 ho1); have HNW := Lib.hid (HNS.out _ (ho1.trans (Only.alloc (.cells #[.slice ka key.length kc] 22)))); clear ho1)
          | (go_at_call 10; refine HLW.out.mono ?_; rintro e w' ⟨rfl, rfl⟩)
          | (go_at_call 20; refine HNW.out.mono ?_; rintro e w' ⟨rfl, rfl⟩))
        refine (copy_any (HK.out.here HO1.out HS.out) (fun _ h => h) HQK.out).mono ?_
        rintro e w2 ⟨g0, d0, rfl, hc0, hg0, ho2⟩
        have ho2' := HO1.out.trans ho2
        have HO2 := Lib.hid ho2'; have HC0 := Lib.hid hc0; have HG0 := Lib.hid (Nat.le_trans HO1.out.size hg0)
        clear hc0 hg0 ho2 ho2' HLW HLG HAL HO1 HNW HNS h14i h14d h14 hbig
        go_wp2_with fail
        refine (new_any (HF.out.only HO2.out (fun x => x))).mono ?_
        rintro e w3 ⟨rfl, hh3, ho3⟩
        have HH3 := Lib.hid hh3; have HO3 := Lib.hid (HO2.out.trans ho3); have HC3 := Lib.hid (HC0.out.only ho3 (fun x => x)); have HLH := Lib.hid (Nat.le_trans HO2.out.size (Nat.le_refl w2.heap.size)); have HNE0 : Hid (g0 < w2.heap.size) := Lib.hid HC0.out.lt
        clear hh3 ho3 HC0
        generalize w2.heap.size = gh at *
        go_wp2_with fail
        refine (newMac_any (HC3.out.bytes) (fun k hk => by subst hk; exact HC3.out.lt) (by have := HKL.out; omega) (HF.out.only HO3.out (fun x => x)) (HT.out.only HO3.out (fun x => x))).mono ?_
        rintro e w4 ⟨gm, rfl, hgm, hk4, ho4⟩
        have HK4 := Lib.hid hk4; have HO4 := Lib.hid (HO3.out.trans ho4); have HC4 := Lib.hid (HC3.out.only ho4 (fun x => x)); have HH4 := Lib.hid (HH3.out.only ho4 (fun x => x)); have HGM : Hid (gh < gm ∧ g0 < gm) := Lib.hid ⟨Nat.lt_of_lt_of_le HH3.out.blk.lt hgm, Nat.lt_of_lt_of_le HC3.out.lt hgm⟩
        clear hk4 ho4 hgm HO3 HC3 HH3
        go_wp2_with fail
        refine (over_any HC4.out.blk HQK.out).mono ?_
        rintro e w5 ⟨rfl, ho5⟩
        have hst : Stm w (w5.alloc (.cells #[] 5)) gh gm key [] [] (.slice (some ⟨w5.heap.size, 0, none⟩) 0 0) [] := by
          have h1 := HGM.out
          have h2 := HNE0.out
          have h3 := HLH.out
          have h4 := HO4.out.size
          have hk5 := HK4.out.only ho5 (by omega)
          have hk5l := hk5.lt
          have hz5 := ho5.size
          refine ⟨⟨_, _, (HH4.out.only ho5 (by omega)).only (Only.alloc _) (fun x => x)⟩, hk5.only (Only.alloc _) (fun x => x), World.ownsRow_made w5 #[] 0 (Nat.zero_le _) (Nat.zero_le _) rfl, fun q hq => ?_, by omega, ⟨by omega, by omega⟩, (HO4.out.andThen ho5 (fun k hk e => by have := HG0.out; omega)).trans (Only.alloc _)⟩
          have : w5.heap.size = q := Option.some.inj hq
          omega
        have HST := Lib.hid hst
        clear ho5 hst HO4 HC4 HH4 HK4 HO2 HG0 HLH HNE0
        go_wp2_with fail
        go_loopw [10, 39] (fun av iv wr => ∃ i : Nat, i ≤ ps.length ∧ iv = .int .i64 i ∧ Stm w wr gh gm key (ps.take i).flatten (ps.take i).flatten av (ps.take i).flatten) (fun _ iv _ => ps.length - (intOf iv).toNat)
        case atStart => exact ⟨0, Nat.zero_le _, rfl, HST.out⟩
        case round =>
          obtain ⟨i, hi, rfl, hs⟩ := hrel
          obtain ⟨ma, mc, rfl⟩ := hs.shape
          obtain ⟨w6, hw6⟩ : ∃ q, q = wr := ⟨_, rfl⟩
          subst hw6
          have hfl := flatten_take_le ps i
          clear HST
          by_cases hlt : i < ps.length
          · obtain ⟨ad, u, rfl, hsb, hcell, hby⟩ := HAT.out i hlt
            have c1 : w6.cell? (ad.add i) = some u := by
              rw [World.cell?_of_block (w := w) (by rw [add_block]; exact hs.only.block _ (HS.out _ hsb) (fun x => x))]
              exact hcell
            obtain ⟨ya, yc, rfl⟩ := hby.shape
            have hts := flatten_take_succ hlt
            have hle := flatten_take_le ps (i + 1)
            rw [hts, List.length_append] at hle
            have hb60 := HTL.out
            have pz : 0 ≤ (i : Int) := by omega
            have mz : (i : Int) < (ps.length : Int) := by omega
            have HLX : Hid ((ps.take i).flatten.length + ps[i].length ≤ 16384) := Lib.hid (by omega)
            have HCP := Lib.hid (copy_any (hby.here hs.only HS.out) (fun _ h => h) (by omega))
            have HY := Lib.hid hby; have HTS := Lib.hid hts; have HSM := Lib.hid hs
            clear hs hby hts hle hcell hsb hfl hb60
            generalize ps[i] = Y at *
            generalize (ps.take i).flatten = X at *
            go_upto_if 48 with (go_at_call 11; refine HCP.out.mono ?_; rintro e w7 ⟨gc, cc, rfl, hc7, hgc, ho7⟩; have HC7 := Lib.hid hc7; have HS7 := Lib.hid (HSM.out.on ho7); have HGF : Hid (w.heap.size ≤ gc ∧ gc ≠ gh ∧ gc ≠ gm ∧ (Value.slice ma X.length mc).ownBlock ≠ some gc) := Lib.hid ⟨Nat.le_trans HSM.out.only.size hgc, (by have := HSM.out.lts.1; omega), (by have := HSM.out.lts.2; omega), fun h => by have := (HSM.out.row.lt gc h).2; omega⟩; clear hc7 hgc ho7)
            clear c1
            go_cut [] (fun wx => Stm w wx gh gm key X (X ++ Y) (.slice ma X.length mc) X ∧ CopyAt wx gc cc Y)
            case first =>
              by_cases hia : (i : Int) = at_
              · have hb : ((i : Int) == at_) = true := by simp [hia]
                have hw0 := (stm_write HS7.out (S := fun _ => False) (v := .slice none 0 0) (ps := []) ⟨none, 0, rfl, Nat.le_refl _, fun i hi => absurd hi (by simp)⟩ (fun _ h => h.elim) (by have := HLX.out; simp; omega) (by have := HLX.out; simp; omega) (by simp) HT.out).1
                rw [List.flatten_nil, List.append_nil] at hw0
                have HW0 := Lib.hid hw0
                have HIA := Lib.hid hia
                clear hw0 hia
                go_upto_region 15 with (go_at_call 24; refine HW0.out.mono ?_; rintro e w8 ⟨rfl, hs8, ho8⟩; have HS8 := Lib.hid hs8; have HC8 := Lib.hid (HC7.out.only ho8 HGF.out.2.1); clear hs8 ho8)
                obtain ⟨J, hJ⟩ : ∃ J, Y.length / 2 = J := ⟨_, rfl⟩
                have hcl : Y.length < cc := by have := row_cap HC8.out; omega
                have hj : J ≤ Y.length := by omega
                have hsl : ∀ w9 : World, (Instr.slice 22 (.slice (some ⟨gc, 0, none⟩) Y.length cc) none (some (.int .i64 (J : Int))) none).run Tryd.prog w9 = .ok (.slice (some ⟨gc, 0, none⟩) J cc) w9 := slice_h (m := J) (by omega)
                have hsr : ∀ w9 : World, (Instr.slice 22 (.slice (some ⟨gc, 0, none⟩) Y.length cc) (some (.int .i64 (J : Int))) none none).run Tryd.prog w9 = .ok (.slice (some ⟨gc, J, none⟩) (Y.length - J) (cc - J)) w9 := slice_l hj hcl
                obtain ⟨hh1, hh2⟩ := HC8.out.halves hj
                have hpn0 := pair_in hh1 hh2 (fun k hk => by subst hk; exact HC8.out.lt)
                have hzd : (w8.alloc (.cells #[.slice (some ⟨gc, 0, none⟩) J cc, .slice (some ⟨gc, J, none⟩) (Y.length - J) (cc - J)] 22)).drew.heap.size = w8.heap.size + 1 := World.size_alloc _ _
                have hpn := hpn0.kept (w' := (w8.alloc (.cells #[.slice (some ⟨gc, 0, none⟩) J cc, .slice (some ⟨gc, J, none⟩) (Y.length - J) (cc - J)] 22)).drew) (fun _ _ => rfl) (fun _ h => h)
                have hw1 := (stm_write ((HS8.out.alloc (.cells #[.slice (some ⟨gc, 0, none⟩) J cc, .slice (some ⟨gc, J, none⟩) (Y.length - J) (cc - J)] 22)).on Only.drew) hpn (fun k hk => by
                  have h1 := HS8.out.lts
                  have h2 := HGF.out
                  have h3 := HC8.out.lt
                  rw [hzd]
                  rcases hk with rfl | rfl
                  · omega
                  · omega) (by have := HLX.out; simp; omega) (by have := HLX.out; simp; omega) (by simp) HT.out).2
                rw [List.flatten_cons, List.flatten_cons, List.flatten_nil, List.append_nil, List.take_append_drop] at hw1
                have HW1 := Lib.hid hw1
                have HCA := Lib.hid ((HC8.out.only (Only.alloc (.cells #[.slice (some ⟨gc, 0, none⟩) J cc, .slice (some ⟨gc, J, none⟩) (Y.length - J) (cc - J)] 22)) (fun x => x)).only Only.drew (fun x => x))
                have hd1 : (Y.length : Int).tdiv 2 = (J : Int) := by rw [Int.tdiv_eq_ediv_of_nonneg (by omega)]; omega
                have hd2 : (Y.length : Int) / 2 = (J : Int) := by omega
                have hd3 : IntKind.i64.wrap (J : Int) = (J : Int) := IntWalk.i64_in _ (by have := HLX.out; omega)
                have HHC := Lib.hid hcl; have HHJ := Lib.hid hj; have HHJ2 := Lib.hid hJ
                clear hw1 hpn hpn0 hzd hh1 hh2 hcl hj HW0 hJ
                go_region_with (go_at_call 25; refine HW1.out.mono ?_; rintro e w9 ⟨rfl, hs9, ho9⟩; have HS9 := Lib.hid hs9; have HC9 := Lib.hid (HCA.out.only ho9 HGF.out.2.2.1); clear hs9 ho9)
                clear hd1 hd2 hd3 hsl hsr
                go_wp2_with fail
                go_meet
                exact ⟨HS9.out, HC9.out⟩
              · have hb : ((i : Int) == at_) = false := by simp [hia]
                have hpn := part_in HC7.out.bytes (fun k hk => by subst hk; exact HC7.out.lt)
                have hw0 := (stm_write (HS7.out.alloc (.cells #[.slice (some ⟨gc, 0, none⟩) Y.length cc] 22)) hpn (fun k hk => by
                  have h1 := HS7.out.lts
                  have h2 := HGF.out
                  have h3 := HC7.out.lt
                  rw [World.size_alloc]
                  rcases hk with rfl | rfl
                  · omega
                  · omega) (by have := HLX.out; simp; omega) (by have := HLX.out; simp; omega) (by simp) HT.out).2
                rw [List.flatten_cons, List.flatten_nil, List.append_nil] at hw0
                have HW0 := Lib.hid hw0
                have HCA := Lib.hid (HC7.out.only (Only.alloc (.cells #[.slice (some ⟨gc, 0, none⟩) Y.length cc] 22)) (fun x => x))
                clear hw0 hpn
                go_wp2_with (go_at_call 25; refine HW0.out.mono ?_; rintro e w8 ⟨rfl, hs8, ho8⟩; have HS8 := Lib.hid hs8; have HC8 := Lib.hid (HCA.out.only ho8 HGF.out.2.2.1); clear hs8 ho8)
                go_meet
                exact ⟨HS8.out, HC8.out⟩
            case rest =>
              obtain ⟨hs8, hc8⟩ := hcut
              obtain ⟨w8, hw8⟩ : ∃ q, q = wc := ⟨_, rfl⟩
              subst hw8
              have hpn := part_in hc8.bytes (fun k hk => by subst hk; exact hc8.lt)
              have hw0 := (stm_write (hs8.alloc (.cells #[.slice (some ⟨gc, 0, none⟩) Y.length cc] 22)) hpn (fun k hk => by
                have h1 := hs8.lts
                have h2 := HGF.out
                have h3 := hc8.lt
                rw [World.size_alloc]
                rcases hk with rfl | rfl
                · omega
                · omega) (by have := HLX.out; simp; omega) (by have := HLX.out; simp; omega) (by simp) HT.out).1
              rw [List.flatten_cons, List.flatten_nil, List.append_nil] at hw0
              have HW0 := Lib.hid hw0
              have HCA := Lib.hid (hc8.only (Only.alloc (.cells #[.slice (some ⟨gc, 0, none⟩) Y.length cc] 22)) (fun x => x))
              clear hw0 hpn hs8 hc8 HC7 HS7 HCP HSM
              have HQY : Hid (Y.length ≤ 1048576) := Lib.hid (by have := HLX.out; omega)
              go_wp2_with fail
              refine HW0.out.mono ?_
              rintro e w9 ⟨rfl, hs9, ho9⟩
              have hc9 := HCA.out.only ho9 HGF.out.2.1
              have hov := over_any hc9.blk HQY.out (c := cc)
              have hkp := kept_any hc9 (HY.out.here hs9.only HS.out) HQY.out
              have HS9 := Lib.hid hs9; have HOV := Lib.hid hov; have HKP := Lib.hid hkp
              clear hs9 ho9 hc9 hov hkp HW0 HCA
              go_wp2_with fail
              refine HKP.out.mono ?_
              rintro e w' ⟨rfl, rfl⟩
              go_wp2_with fail
              refine HOV.out.mono ?_
              rintro e w10 ⟨rfl, ho10⟩
              have hs10 := HS9.out.far ho10 (fun k _ e => by subst e; exact HGF.out)
              have HROW := Lib.hid hs10.row; have HSRC := Lib.hid (HY.out.here hs10.only HS.out); have HS10 := Lib.hid hs10
              have HLA : Hid (X.length + Y.length ≤ 140737488355328) := Lib.hid (by have := HLX.out; omega)
              clear ho10 hs10 HS9 HOV HKP
              go_wp2_with (at_builtin; refine wpList_append_bytes _ rfl _ _ rfl (.slice ma X.length mc) (.slice ya Y.length yc) X.length (X.map byteV) rfl rfl HROW.out HSRC.out HLA.out ?_; intro a3 c3 w11 hr3 hg3 hat3; have HS11 := Lib.hid (HS10.out.app rfl hr3 hg3 hat3); clear hr3 hg3 hat3)
              rw [← List.length_append]
              rw [← List.length_append] at HS11 HLX
              rw [← HTS.out] at HS11 HLX ⊢
              clear HROW HSRC HLA HS10 HTS HY
              generalize hZ : (ps.take (i + 1)).flatten = Z at *
              have HZ := Lib.hid hZ
              clear hZ
              have HQZ : Hid (Z.length ≤ 1048576) := Lib.hid (by have := HLX.out; omega)
              obtain ⟨so1, so2, so3, so4⟩ := stm_own HS11.out HQZ.out HT.out
              obtain ⟨D, hD⟩ : ∃ D, Sh.sum Z = D := ⟨_, rfl⟩
              obtain ⟨M, hM⟩ : ∃ M, Sh.mac key Z = M := ⟨_, rfl⟩
              have hqD := dig_neq (show D.length = 32 by rw [← hD]; exact sum_len _)
              have hqM := dig_neq (show M.length = 32 by rw [← hM]; exact mac_len _ _)
              have hgd2 := dig_guard2
              rw [hD] at so1
              have HL1 := Lib.hid so3; have HL2 := Lib.hid so4; have HSA := Lib.hid so1; have HD := Lib.hid hD; have HM := Lib.hid hM
              clear so1 so2 so3 so4 hD hM HGF
              by_cases h7 : i % 7 = 0
              · have h7a : ((i : Int) % 7 == 0) = true := by simp; omega
                clear h7
                go_wp2_with fail
                refine HL1.out.mono ?_
                rintro e w' ⟨rfl, rfl⟩
                go_wp2_with fail
                refine HL2.out.mono ?_
                rintro e w' ⟨rfl, rfl⟩
                go_wp2_with fail
                refine HSA.out.mono ?_
                rintro e w12 ⟨rfl, ho12⟩
                have hs12 := HS11.out.on ho12
                have hss := (one_sums (HK.out.here hs12.only HS.out) hs12.bytes HQK.out HQZ.out (HF.out.only hs12.only (fun x => x)) (HT.out.only hs12.only (fun x => x))).1
                rw [HD.out] at hss
                have HSS := Lib.hid hss; have HS12 := Lib.hid hs12
                clear ho12 hs12 hss HSA HL1 HL2 HS11
                go_wp2_with fail
                refine HSS.out.mono ?_
                rintro e w13 ⟨rfl, ho13⟩
                have hs13 := HS12.out.on ho13
                have hks := (stm_own hs13 HQZ.out HT.out).2.1
                rw [HM.out] at hks
                have HKS := Lib.hid hks; have HS13 := Lib.hid hs13
                clear ho13 hs13 hks HSS HS12
                go_wp2_with fail
                refine HKS.out.mono ?_
                rintro e w14 ⟨rfl, ho14⟩
                have hs14 := HS13.out.on ho14
                have hmm := (one_sums (HK.out.here hs14.only HS.out) hs14.bytes HQK.out HQZ.out (HF.out.only hs14.only (fun x => x)) (HT.out.only hs14.only (fun x => x))).2.2.1
                rw [HM.out] at hmm
                have HMM := Lib.hid hmm; have HS14 := Lib.hid hs14
                clear ho14 hs14 hmm HKS HS13
                go_wp2_with fail
                refine HMM.out.mono ?_
                rintro e w15 ⟨rfl, ho15⟩
                have HS15 := Lib.hid (HS14.out.on ho15)
                clear ho15 HMM HS14
                go_wp2_with fail
                exact ⟨⟨i + 1, by omega, by go_num, by rw [HZ.out]; exact HS15.out⟩, by simp [intOf]; omega⟩
              · have h7a : ((i : Int) % 7 == 0) = false := by rw [beq_eq_false_iff_ne]; omega
                clear h7
                go_wp2_with fail
                refine HL1.out.mono ?_
                rintro e w' ⟨rfl, rfl⟩
                go_wp2_with fail
                refine HL2.out.mono ?_
                rintro e w' ⟨rfl, rfl⟩
                go_wp2_with fail
                exact ⟨⟨i + 1, by omega, by go_num, by rw [HZ.out]; exact HS11.out⟩, by simp [intOf]; omega⟩
          · have e : ps.take i = ps := List.take_of_length_le (by omega)
            rw [e] at hs ⊢
            have HSP : Hid (∀ w1, Only (fun _ => False) w w1 → (Calls Tryd.prog 12 #[.slice va ps.length vc] w1 fun e w' => e = .returned (digV (Sh.sum ps.flatten)) ∧ Only (fun _ => False) w1 w') ∧ (Calls Tryd.prog 14 #[.slice ka key.length kc, .slice va ps.length vc] w1 fun e w' => e = .returned (digV (Sh.mac key ps.flatten)) ∧ Only (fun _ => False) w1 w')) := by
              intro w1 ho
              have h1 := HTL.out
              have h2 := HKL.out
              have hp := HV.out.only ho HS.out (fun _ _ x => x)
              have hl : ∀ k, S k → k < w1.heap.size := fun k hk => Nat.lt_of_lt_of_le (HS.out k hk) ho.size
              exact ⟨sSum_any hp hl (by omega) (by omega) (HF.out.only ho (fun x => x)) (HT.out.only ho (fun x => x)), sMac_any (HK.out.only ho HS.out (fun _ _ x => x)) hp hl (by omega) (by omega) (by omega) (HF.out.only ho (fun x => x)) (HT.out.only ho (fun x => x))⟩
            clear e hfl
            generalize ps.flatten = Z at *
            have HQZ : Hid (Z.length ≤ 1048576) := Lib.hid (by have := HTL.out; omega)
            obtain ⟨so1, _, _, _⟩ := stm_own hs HQZ.out HT.out
            obtain ⟨D, hD⟩ : ∃ D, Sh.sum Z = D := ⟨_, rfl⟩
            obtain ⟨M, hM⟩ : ∃ M, Sh.mac key Z = M := ⟨_, rfl⟩
            have hqD := dig_eql (show D.length = 32 by rw [← hD]; exact sum_len _)
            have hqM := dig_eql (show M.length = 32 by rw [← hM]; exact mac_len _ _)
            have hgd2 := dig_guard2
            rw [hD] at so1 HSP
            rw [hM] at HSP
            have HSA := Lib.hid so1; have HD := Lib.hid hD; have HM := Lib.hid hM; have HS11 := Lib.hid hs
            clear so1 hD hM hs
            go_wp2_with fail
            refine HSA.out.mono ?_
            rintro e w12 ⟨rfl, ho12⟩
            have hs12 := HS11.out.on ho12
            have hss := (one_sums (HK.out.here hs12.only HS.out) hs12.bytes HQK.out HQZ.out (HF.out.only hs12.only (fun x => x)) (HT.out.only hs12.only (fun x => x))).2.1
            rw [HD.out] at hss
            have HSS := Lib.hid hss; have HS12 := Lib.hid hs12
            clear ho12 hs12 hss HSA HS11
            go_wp2_with fail
            refine HSS.out.mono ?_
            rintro e w13 ⟨rfl, ho13⟩
            have hs13 := HS12.out.on ho13
            have hks := (stm_own hs13 HQZ.out HT.out).2.1
            rw [HM.out] at hks
            have HKS := Lib.hid hks; have HS13 := Lib.hid hs13
            clear ho13 hs13 hks HSS HS12
            go_wp2_with fail
            refine HKS.out.mono ?_
            rintro e w14 ⟨rfl, ho14⟩
            have hs14 := HS13.out.on ho14
            have hmm := (one_sums (HK.out.here hs14.only HS.out) hs14.bytes HQK.out HQZ.out (HF.out.only hs14.only (fun x => x)) (HT.out.only hs14.only (fun x => x))).2.2.2
            rw [HM.out] at hmm
            have HMM := Lib.hid hmm; have HS14 := Lib.hid hs14
            clear ho14 hs14 hmm HKS HS13
            go_wp2_with fail
            refine HMM.out.mono ?_
            rintro e w15 ⟨rfl, ho15⟩
            have hs15 := HS14.out.on ho15
            have hsa := (stm_own hs15 HQZ.out HT.out).1
            rw [HD.out] at hsa
            have HSA := Lib.hid hsa; have HS15 := Lib.hid hs15
            clear ho15 hs15 hsa HMM HS14
            go_wp2_with fail
            refine HSA.out.mono ?_
            rintro e w16 ⟨rfl, ho16⟩
            have hs16 := HS15.out.on ho16
            have HPS := Lib.hid (HSP.out w16 hs16.only).1; have HS16 := Lib.hid hs16
            clear ho16 hs16 HSA HS15
            go_wp2_with fail
            refine HPS.out.mono ?_
            rintro e w17 ⟨rfl, ho17⟩
            have hs17 := HS16.out.on ho17
            have hks := (stm_own hs17 HQZ.out HT.out).2.1
            rw [HM.out] at hks
            have HKS := Lib.hid hks; have HS17 := Lib.hid hs17
            clear ho17 hs17 hks HPS HS16
            go_wp2_with fail
            refine HKS.out.mono ?_
            rintro e w18 ⟨rfl, ho18⟩
            have hs18 := HS17.out.on ho18
            have HPM := Lib.hid (HSP.out w18 hs18.only).2; have HS18 := Lib.hid hs18
            clear ho18 hs18 HKS HS17
            go_wp2_with fail
            refine HPM.out.mono ?_
            rintro e w19 ⟨rfl, ho19⟩
            have HS19 := Lib.hid (HS18.out.on ho19)
            clear ho19 HPM HS18
            go_wp2
            go_ret
            exact ⟨rfl, HS19.out.only⟩

end Go.Proofs.YtdgaojibfpafnaaDoor
