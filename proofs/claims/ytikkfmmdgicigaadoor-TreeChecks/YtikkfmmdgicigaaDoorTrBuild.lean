/- tree.Build. Conditions: of at most 200 entries texts of at most 100000 bytes, rows of at most 1000000. -/
import Derived.Test.YtikkfmmdgicigaaDoorTrBuildL
import Derived.Test.YtikkfmmdgicigaaDoorTrSort
import Derived.Test.YtikkfmmdgicigaaDoorTrCopy
namespace Go.Proofs.YtikkfmmdgicigaaDoor
open Go.RowKit

/-- Small enough to be built. -/
def Bfit (xs : List Ve) : Prop := ∀ x ∈ xs, x.2.path.length ≤ 100000 ∧ x.2.link.length ≤ 100000 ∧ x.2.data.length ≤ 1000000

theorem fit_norm {xs ys : List Ve} (hb : Bfit xs) (h : Tr.normL (ens xs) = some (ens ys)) : (∀ e ∈ ens ys, Pt.good e.path = true) ∧ ∀ x ∈ ys, x.2.path.length ≤ 400 ∧ x.2.link.length ≤ 100000 ∧ x.2.data.length ≤ 1000000 := by
  obtain ⟨h1, h2⟩ := Tr.normL_mem h
  have key : ∀ x ∈ ys, ∃ z ∈ xs, Tr.normE z.2 = some x.2 := fun x hx => by
    obtain ⟨i, hi, e⟩ := List.getElem_of_mem hx
    have hi2 : i < xs.length := by rw [ens_len, ens_len] at h1; omega
    have := h2 i (by rw [ens_len]; exact hi2) (by rw [ens_len]; exact hi)
    rw [ens_at hi2, ens_at hi, e] at this
    exact ⟨xs[i], List.getElem_mem hi2, this⟩
  constructor
  · intro e he
    obtain ⟨x, hx, rfl⟩ := List.mem_map.1 he
    obtain ⟨z, _, hz⟩ := key x hx
    exact (Tr.normE_good hz).1
  · intro x hx
    obtain ⟨z, hzm, hz⟩ := key x hx
    obtain ⟨g1, g2, g3, _⟩ := Tr.normE_good hz
    have hbz := hb z hzm
    refine ⟨Pt.good_len g1, ?_, by rw [g3]; exact hbz.2.2⟩
    rcases g2 with e | e
    · rw [e]; exact hbz.2.1
    · have := Pt.good_len e; omega

theorem full_perm {ys zs : List Ve} {D : List (List UInt8)} (hd : Tr.Dist (ens ys)) (hm : Tr.MInv (ens ys) ys.length D) (hp : zs.Perm (ys ++ D.map dirV)) (hs : zs.Pairwise (fun a b => Pt.cmp a.2.path b.2.path ≤ 0)) : Tr.Full (ens ys) (ens zs) := by
  have hm' : Tr.MInv (ens ys) (ens ys).length D := by rw [ens_len]; exact hm
  have hdist : (ens (ys ++ D.map dirV)).Pairwise fun a b => a.path ≠ b.path := by
    have e : ens (ys ++ D.map dirV) = ens ys ++ D.map Tr.dirE := by simp [ens, dirV, Function.comp_def]
    rw [e]
    refine List.pairwise_append.2 ⟨hd, ?_, fun a ha b hb => ?_⟩
    · rw [List.pairwise_map]
      exact hm.dist.imp fun {a b} h => h
    · obtain ⟨p, hp, rfl⟩ := List.mem_map.1 hb
      have := (hm.new p hp).1
      rw [Tr.named_false] at this
      exact this a ha
  have hzd : (ens zs).Pairwise fun a b => a.path ≠ b.path := (List.Perm.pairwise_iff (fun {a b} h => Ne.symm h) (hp.map (·.2))).2 hdist
  constructor
  · have h1 : (ens zs).Pairwise fun a b => Pt.cmp a.path b.path ≤ 0 := by unfold ens; rw [List.pairwise_map]; exact hs
    refine (h1.and hzd).imp fun {a b} h => ?_
    rcases Pt.cmp_range a.path b.path with e | e | e
    · omega
    · exact (h.2 (Pt.cmp_zero.1 e)).elim
    · have := h.1; omega
  · intro x
    have h1 : x ∈ ens zs ↔ x ∈ ens (ys ++ D.map dirV) := (hp.map (·.2)).mem_iff
    rw [h1]
    unfold ens
    rw [List.map_append, List.mem_append, List.map_map]
    constructor
    · rintro (h | h)
      · exact .inl h
      · obtain ⟨p, hp, rfl⟩ := List.mem_map.1 h
        exact .inr ⟨p, rfl, (hm'.need p).1 hp⟩
    · rintro (h | ⟨p, rfl, hn⟩)
      · exact .inl h
      · exact .inr (List.mem_map.2 ⟨p, (hm'.need p).2 hn, rfl⟩)

theorem mapOf_kinds {w : World} {m : Nat} {L : List Tr.En} (h : KmAt w m (Tr.kmOf L)) : MapOf w m L [] :=
  ⟨⟨_, h, by have := Tr.kmOf_le L; simp; exact this, fun p => by rw [Tr.kmOf_has]; simp⟩⟩

theorem CRow.low {n0 n1 : Nat} {w : World} {v : Value} {ys : List Ve} (h : CRow n1 w v ys) (hn : n0 ≤ n1) : CRow n0 w v ys :=
  ⟨h.row, fun g hg => Nat.le_trans hn (h.new g hg), fun y hy => ⟨(h.each y hy).1, fun k hk => ⟨Nat.le_trans hn ((h.each y hy).2 k hk).1, ((h.each y hy).2 k hk).2⟩⟩, h.dis⟩

set_option maxRecDepth 100000 in
set_option maxHeartbeats 4000000 in
theorem tbuild_any {w : World} (hU : U8 w) {v : Value} {xs : List Ve} (h : EntsAt w (fun k => k < w.heap.size) v xs) (hf : ¬ 200 < xs.length → Bfit xs) (hn : xs.length ≤ 9223372036854775807) :
    Calls Tryd.prog 16 #[v] w fun e w' => (∃ r k, Tr.Bd (ens xs) r k ∧ ((r = none ∧ e = .returned (.tuple #[.slice none 0 0, .iface 36 (.int .i64 k)])) ∨ ∃ a c ys, r = some (ens ys) ∧ e = .returned (.tuple #[.slice a ys.length c, .nilIface]) ∧ CRow w.heap.size w' (.slice a ys.length c) ys)) ∧ Only (fun _ => False) w w' := by
  obtain ⟨a, c, rfl⟩ := h.shape
  by_cases hbig : 200 < xs.length
  · have q : (200 : Int) < (xs.length : Nat) := by omega
    have HB : Hid (Tr.Bd (ens xs) none 19) := .many (by rw [ens_len]; exact hbig)
    clear h hf hU
    go_enter Tryd.func16, Tryd.ntmps16
    go_wp2_with fail
    go_ret2
    exact ⟨⟨none, 19, HB.out, .inl ⟨rfl, rfl⟩⟩, Only.refl _ _⟩
  · have q : ¬ (200 : Int) < (xs.length : Nat) := by omega
    have hb := hf hbig
    have hbig' : ¬ 200 < (ens xs).length := by rw [ens_len]; exact hbig
    have hnc := tnormal_any hU h (fun x hx => ⟨(hb x hx).1, (hb x hx).2.1⟩) (by omega)
    have HBF := Lib.hid hb
    cases hN : Tr.normL (ens xs) with
    | none =>
      have HN : Hid (Calls Tryd.prog 46 #[.slice a xs.length c] w fun e w' => e = .returned (.tuple #[.slice none 0 0, .iface 36 (.int .i64 12)]) ∧ Only (fun _ => False) w w') := hnc.mono (by
        rintro e w' ⟨⟨h1, _⟩ | ⟨a, c, ys, _, _, h2, _⟩, ho⟩
        · exact ⟨h1, ho⟩
        · rw [show xs.map (·.2) = ens xs from rfl, hN] at h2; cases h2)
      have HB : Hid (Tr.Bd (ens xs) none 12) := .bad hbig' hN
      clear h hf hU hnc hb hN
      go_enter Tryd.func16, Tryd.ntmps16
      go_wp2_with (go_at_call 46; refine HN.out.mono ?_; rintro e w1 ⟨rfl, ho⟩; have HO := Lib.hid ho; clear ho)
      go_ret2
      exact ⟨⟨none, 12, HB.out, .inl ⟨rfl, rfl⟩⟩, HO.out⟩
    | some N =>
      have HN : Hid (Calls Tryd.prog 46 #[.slice a xs.length c] w fun e w' => ∃ a c ys, e = .returned (.tuple #[.slice a ys.length c, .nilIface]) ∧ ERow w.heap.size w' (.slice a ys.length c) ys ∧ ens ys = N ∧ ys.length = xs.length ∧ Only (fun _ => False) w w') := hnc.mono (by
        rintro e w' ⟨⟨_, h1⟩ | ⟨a, c, ys, h1, h2, h3, h4⟩, ho⟩
        · rw [show xs.map (·.2) = ens xs from rfl, hN] at h1; cases h1
        · rw [show xs.map (·.2) = ens xs from rfl, hN] at h3
          exact ⟨a, c, ys, h1, h2, (Option.some.inj h3).symm, h4, ho⟩)
      clear hnc hf h
      have HU := Lib.hid hU
      have HNE := Lib.hid hN
      have HBIG := Lib.hid hbig'
      go_enter Tryd.func16, Tryd.ntmps16
      go_wp2_with (go_at_call 46; refine HN.out.mono ?_; rintro e w1 ⟨a1, c1, ys, rfl, hr1, hys, hyl, ho1⟩; have HR1 := Lib.hid hr1; have HO1 := Lib.hid ho1; clear hr1 ho1)
      have hr1 := HR1.out
      have hNE : Tr.normL (ens xs) = some (ens ys) := by rw [hys]; exact HNE.out
      obtain ⟨hgood, hfit⟩ := fit_norm HBF.out hNE
      have hFit : Fit ys := fun x hx => by have := hfit x hx; omega
      have hn200 : ys.length ≤ 200 := by omega
      have hkc := tkinds_any hr1.ents hFit (by omega)
      have HNE2 := Lib.hid hNE
      have HYL : Hid (xs.length = ys.length) := hyl.symm
      rw [hyl] at hkc
      clear hb hn hN hbig' HN HBF HNE hNE hys hyl
      refine hkc.mono ?_
      rintro e w2 ⟨rfl, hk2, ho2⟩
      have HO2 := Lib.hid ho2
      have hlen := hk2.len 3
      have HK2 := Lib.hid hk2
      clear hk2 ho2 hkc
      by_cases hd : Tr.Dist (ens ys)
      · have hle := (Tr.kmOf_len (ens ys)).1 hd
        rw [ens_len] at hle
        have q2 : ¬ ((Tr.kmOf (ens ys)).length : Int) < (xs.length : Nat) := by have := HYL.out; omega
        have hr2 := hr1.quiet HO2.out
        have he2 : EntsAt w2 (fun k => k < w1.heap.size) (.slice a1 ys.length c1) ys := hr1.ents.kept (fun k hk => HO2.out.block k hk (fun x => x)) (fun _ h => h)
        have hmc := tmissing_any (HU.out.quiet (HO1.out.trans HO2.out)) he2 hFit hgood (by omega) (mapOf_kinds HK2.out)
        have HM : Hid (Calls Tryd.prog 48 #[.slice a1 xs.length c1, .map (some w1.heap.size)] w2 fun e w' => ∃ a c D, e = .returned (.slice a D.length c) ∧ ERow w2.heap.size w' (.slice a D.length c) (D.map dirV) ∧ Tr.MInv (ens ys) ys.length D ∧ Only (fun k => k = w1.heap.size) w2 w') := by rw [HYL.out]; exact hmc
        have HKEEP : Hid (∀ W, Only (fun k => k = w1.heap.size) w2 W → ERow w.heap.size W (.slice a1 ys.length c1) ys) := fun W ho => hr2.keep ho (fun k hk => ⟨by have := HO1.out.size; omega, fun e => by have := hr1.lt e; omega⟩)
        have HD := Lib.hid hd; have HGD := Lib.hid hgood; have HFT := Lib.hid hfit
        have HZ : Hid (w.heap.size ≤ w1.heap.size ∧ w1.heap.size ≤ w2.heap.size) := ⟨HO1.out.size, HO2.out.size⟩
        clear hr2 he2 hmc hd hgood hfit hle hr1 hFit
        go_wp2_with (first | (go_at_call 48; refine HM.out.mono ?_; rintro e w3 ⟨da, dc, D, rfl, hr3, hmi, ho3⟩; have HR3 := Lib.hid hr3; have HMI := Lib.hid hmi; have HO3 := Lib.hid ho3; have HX3 := Lib.hid (HKEEP.out _ ho3); have hcnt := hmi.cnt; clear hr3 hmi ho3) | (at_builtin; refine wpList_append_ents _ rfl _ _ rfl _ _ xs.length (enCs ys) rfl rfl (by have := HX3.out.row; rw [← HYL.out] at this; exact this) HR3.out.ents (by rw [List.length_map]; omega) ?_; intro a4 c4 w4 hown hgr hat; have HOWN := Lib.hid hown; have HGR := Lib.hid hgr; have HAT := Lib.hid hat; clear hown hgr hat))
        have hown := HOWN.out; have hgr := HGR.out; have hat := HAT.out
        rw [HYL.out] at hown hgr hat
        obtain ⟨hr4, ho4⟩ := HX3.out.app (Only.refl _ _) (ys := D.map dirV) hown hgr hat (fun y hy => by obtain ⟨p, _, rfl⟩ := List.mem_map.1 hy; exact .inl ⟨rfl, rfl⟩)
        have eZ : (ys ++ D.map dirV).length = xs.length + D.length := by rw [List.length_append, List.length_map, HYL.out]
        rw [eZ] at hr4
        have hZ : ∀ x ∈ ys ++ D.map dirV, x.2.path.length ≤ 400 ∧ x.2.link.length ≤ 100000 ∧ x.2.data.length ≤ 1000000 := fun x hx => by
          rcases List.mem_append.1 hx with hx | hx
          · exact HFT.out x hx
          · obtain ⟨p, hp, rfl⟩ := List.mem_map.1 hx
            obtain ⟨_, e, _, hab⟩ := HMI.out.new p hp
            have hg := Pt.good_len (Pt.above_iff.1 hab).1
            exact ⟨hg, by simp [dirV, Tr.dirE], by simp [dirV, Tr.dirE]⟩
        have hsc := esort_row hr4 (fun x hx => by have := hZ x hx; omega) (by rw [eZ]; omega)
        have hoA : Only (fun _ => False) w w4 := ((HO1.out.trans HO2.out).andThen HO3.out (fun k hk e => by have := HZ.out.1; omega)).andThen ho4 (fun k hk e => by have := e.1; omega)
        have HOA := Lib.hid hoA; have HZZ := Lib.hid hZ
        clear hown hgr hat hr4 ho4 hoA hZ
        refine hsc.mono ?_
        rintro e w5 ⟨rfl, zs, hp, hs, hr5, ho5⟩
        have HO5 : Hid (Only (fun _ => False) w w5) := HOA.out.andThen ho5 (fun k hk e => by omega)
        have HFULL := Lib.hid (full_perm HD.out HMI.out hp hs)
        have hzl : zs.length = xs.length + D.length := by rw [hp.length_eq, eZ]
        have hzf : Fit zs := fun x hx => by have := HZZ.out x (hp.mem_iff.1 hx); omega
        have HCK := Lib.hid (tcheck_any (HU.out.quiet HO5.out) hr5.ents hzf (by omega))
        have HR5 := Lib.hid hr5; have HZF := Lib.hid hzf; have HZL := Lib.hid hzl
        clear hsc hp hs hr5 ho5 hzl hzf eZ
        by_cases hk : (Tr.check (ens zs)).2 = 0
        · have HCP := Lib.hid (fun W (ho : Only (fun _ => False) w5 W) => tcopy_any (HR5.out.ents.quiet ho) (fun x hx => (HZF.out x hx).2.2) (by rw [HZL.out]; omega))
          go_wp2_with (first | (go_at_call 12; refine HCK.out.mono ?_; rintro e w6 ⟨rfl, ho6⟩; rw [hk, errV_zero]; have HO6 := Lib.hid ho6; clear ho6) | (go_at_call 29; refine (HCP.out _ HO6.out).mono ?_; rintro e w7 ⟨a7, c7, us, rfl, hr7, hu7, ho7⟩; have HR7 := Lib.hid hr7; have HU7 := Lib.hid hu7; have HO7 := Lib.hid ho7; clear hr7 hu7 ho7))
          go_ret2
          have hz7 := Nat.le_trans HO5.out.size HO6.out.size
          refine ⟨⟨some (ens us), 0, by rw [HU7.out]; exact .ok (ens ys) (ens zs) HBIG.out HNE2.out HD.out HFULL.out hk, .inr ⟨a7, c7, us, rfl, rfl, HR7.out.low hz7⟩⟩, (HO5.out.trans HO6.out).trans HO7.out⟩
        · go_wp2_with (go_at_call 12; refine HCK.out.mono ?_; rintro e w6 ⟨rfl, ho6⟩; rw [errV_pos hk]; have HO6 := Lib.hid ho6; clear ho6)
          go_ret2
          exact ⟨⟨none, _, .no (ens ys) (ens zs) HBIG.out HNE2.out HD.out HFULL.out hk, .inl ⟨rfl, rfl⟩⟩, HO5.out.trans HO6.out⟩
      · have hle : (Tr.kmOf (ens ys)).length < ys.length := by
          have h1 := Tr.kmOf_le (ens ys)
          have h2 : ¬ (Tr.kmOf (ens ys)).length = (ens ys).length := fun e => hd ((Tr.kmOf_len (ens ys)).2 e)
          rw [ens_len] at h1 h2
          omega
        have q2 : ((Tr.kmOf (ens ys)).length : Int) < (xs.length : Nat) := by have := HYL.out; omega
        have HB : Hid (Tr.Bd (ens xs) none 13) := .twice (ens ys) HBIG.out HNE2.out hd
        clear hle hd
        go_wp2_with fail
        go_ret2
        exact ⟨⟨none, 13, HB.out, .inl ⟨rfl, rfl⟩⟩, HO1.out.trans HO2.out⟩

end Go.Proofs.YtikkfmmdgicigaaDoor
