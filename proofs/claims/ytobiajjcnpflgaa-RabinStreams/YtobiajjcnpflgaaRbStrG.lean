/- RabinStreams, of good settings. Conditions: rows within the reach. -/
import Derived.Test.YtobiajjcnpflgaaRbStrA
import Derived.Test.YtobiajjcnpflgaaRbAlive
namespace Go.Proofs.Ytobiajjcnpflgaa
open Go.RowKit

/-- Where the first loop stands: D was written, q is left. -/
structure StAt (w wr : World) (g : Nat) (c : Rb.Cfg) (D q : List UInt8) (allv lv gv : Value) (vs : List (Value × List UInt8)) : Prop where
  rest : Rest w wr g c (c.fw q) lv gv (vs.map (·.1))
  own : Own wr w.heap.size ((lv, q) :: (allv, D) :: vs)

/-- Ahead of the last part. -/
structure Fin (w wr : World) (c : Rb.Cfg) (A : List UInt8) (allv gv : Value) (us : List (Value × List UInt8)) : Prop where
  own : Own wr w.heap.size ((allv, A) :: us)
  got : LRow w.heap.size wr gv (us.map (·.1))
  box : Blk wr w.heap.size (setL c.set) 24
  only : Quiet w wr
theorem Fin.quiet {w wr w' : World} {c : Rb.Cfg} {A : List UInt8} {allv gv : Value} {us : List (Value × List UInt8)} (h : Fin w wr c A allv gv us) (ho : Quiet wr w') : Fin w w' c A allv gv us :=
  ⟨h.own.keep ho (fun _ _ _ _ x => x), h.got.quiet ho, h.box.keep ho (fun x => x), h.only.trans ho⟩

set_option maxRecDepth 100000 in
set_option maxHeartbeats 16000000 in
theorem streams_good {w : World} {c : Rb.Cfg} (hc : c.Ok) {S : Nat → Prop} {v : Value} {ps : List (List UInt8)} (hv : PartsAt w S v ps) (hS : ∀ k, S k → k < w.heap.size) (hn60 : ps.length ≤ 60) (ht16 : ps.flatten.length ≤ 16384) (tw : Bool) :
    Calls Try.prog 5 #[setV c.set, v, .bool tw] w fun e w' => e = .returned (.bool true) ∧ Quiet w w' := by
  have hp1 : ∀ i (hi : i < ps.length), ps[i].length ≤ 16384 := fun i hi => by
    have h1 := flatten_take_succ hi
    have h2 := flatten_take_le ps (i + 1)
    rw [h1, List.length_append] at h2
    omega
  have HSUM : Hid (∀ W, Quiet w W → Calls Try.prog 21 #[v, .int .i64 1048576] W fun e w' => e = .returned (.int .i64 ((tot ps : Nat) : Int)) ∧ W = w') := fun W hq => by
    have h := numSum_any (most := 1048576) (hv.only hq hS (fun _ _ x => x)) (fun p hp => by obtain ⟨i, hi, rfl⟩ := List.getElem_of_mem hp; have := hp1 i hi; omega) (by omega) (Nat.le_refl _)
    rwa [Nat.min_eq_left (by unfold tot; omega)] at h
  have HA := Lib.hid alive7_any
  have HC := Lib.hid hc
  have HNEW := Lib.hid (fun W => new7_any hc W)
  have HV := Lib.hid hv
  have HS := Lib.hid hS
  have HP1 := Lib.hid hp1
  have hhi := hc.hi16
  have hlohi := hc.lohi
  obtain ⟨va, vc, rfl, hcp, -⟩ := id hv
  have HB0 : Hid (Blk (w.alloc (.cells #[.int .u64 (c.p : Int), .int .i64 (c.win : Int), .int .i64 (c.lo : Int), .int .i64 (c.hi : Int), .int .i64 (c.bits : Int)] 24)) w.heap.size (setL c.set) 24) := Blk.new w (setL c.set) 24
  have HQ0 : Hid (Quiet w (w.alloc (.cells #[.int .u64 (c.p : Int), .int .i64 (c.win : Int), .int .i64 (c.lo : Int), .int .i64 (c.hi : Int), .int .i64 (c.bits : Int)] 24))) := Only.alloc _
  have hm : ¬ ((tot ps : Nat) : Int) > 16384 := by unfold tot; omega
  have hb : ¬ (ps.length : Int) > 60 := by omega
  unfold setV Rb.Cfg.set at HNEW ⊢
  simp only at HNEW ⊢
  clear hv hS hcp hc hp1
  obtain ⟨m, hmm⟩ : ∃ m, tot ps = m := ⟨_, rfl⟩
  rw [hmm] at HSUM hm
  clear hmm
  go_enter Try.func5, Try.ntmps5
  go_wp2_with fail
  refine (HA.out _).mono ?_
  rintro e w1 ⟨rfl, hq⟩
  have HQ1 := Lib.hid (HQ0.out.trans hq)
  have HB1 := Lib.hid (HB0.out.keep hq (fun x => x))
  clear hq HB0 HQ0
  go_wp2_with fail
  refine (HSUM.out _ HQ1.out).mono ?_
  rintro e w2 ⟨rfl, rfl⟩
  have hSA : SetAt w1 w.heap.size c.set := SetAt.of_blk HB1.out
  have c0 : w1.cell? ⟨w.heap.size, 0, none⟩ = some (.int .u64 (c.p : Int)) := hSA.c0
  have c1 : w1.cell? ⟨w.heap.size, 1, none⟩ = some (.int .i64 (c.win : Int)) := hSA.c1
  have c2 : w1.cell? ⟨w.heap.size, 2, none⟩ = some (.int .i64 (c.lo : Int)) := hSA.c2
  have c3 : w1.cell? ⟨w.heap.size, 3, none⟩ = some (.int .i64 (c.hi : Int)) := hSA.c3
  have c4 : w1.cell? ⟨w.heap.size, 4, none⟩ = some (.int .i64 (c.bits : Int)) := hSA.c4
  clear hSA
  go_wp2_with fail
  refine (HNEW.out _).mono ?_
  rintro e w2 ⟨g, rfl, hgw, hch, hq⟩
  clear c0 c1 c2 c3 c4
  have HST0 : Hid (StAt w ((w2.alloc (.cells #[] 5)).alloc (.cells #[] 25)) g c [] [] (.slice (some ⟨w2.heap.size, 0, none⟩) 0 0) (.slice none 0 0) (.slice (some ⟨w2.heap.size + 1, 0, none⟩) 0 0) []) := by
    have hz := (HQ1.out.trans hq).size
    have hq3 : Quiet w2 ((w2.alloc (.cells #[] 5)).alloc (.cells #[] 25)) := (Only.alloc _).trans (Only.alloc _)
    refine ⟨⟨hch.keep hq3 (fun x => x), ⟨?_, fun k hk => ?_⟩, (HB1.out.keep hq (fun x => x)).keep hq3 (fun x => x), Nat.le_trans HQ1.out.size hgw, (HQ1.out.trans hq).trans hq3⟩, ?_⟩
    · have := World.ownsRow_made (w2.alloc (.cells #[] 5)) (e := 25) (size := 1) #[] 0 (Nat.zero_le _) (Nat.zero_le _) rfl
      rwa [World.size_alloc] at this
    · have : w2.heap.size + 1 = k := Option.some.inj hk
      omega
    · refine Own.fresh ⟨fun r hr => ?_, fun r hr k hk => ?_, List.pairwise_singleton _ _⟩
      · obtain rfl := List.mem_singleton.1 hr
        exact (World.ownsRow_made w2 (e := 5) (size := 1) #[] 0 (Nat.zero_le _) (Nat.zero_le _) rfl).alloc _
      · obtain rfl := List.mem_singleton.1 hr
        have : w2.heap.size = k := Option.some.inj hk
        omega
  clear hq hch HNEW HSUM HQ1 HB1
  go_wp2_with fail
  go_loopw [9, 10, 11, 63] (fun s9 s10 s11 iv wr => ∃ (i : Nat) (aa : Option Addr) (ac : Nat) (gad : Addr) (gc : Nat) (vs : List (Value × List UInt8)) (lv : Value), i ≤ ps.length ∧ iv = .int .i64 (i : Int) ∧ s9 = .slice aa (ps.take i).flatten.length ac ∧ s10 = .slice (some gad) vs.length gc ∧
      s11 = .int .i64 ((Rb.runB c.ends [] (ps.take i).flatten).2.length : Int) ∧ vs.map (·.2) = (Rb.runB c.ends [] (ps.take i).flatten).1 ∧
      StAt w wr g c (ps.take i).flatten (Rb.runB c.ends [] (ps.take i).flatten).2 (.slice aa (ps.take i).flatten.length ac) lv (.slice (some gad) vs.length gc) vs) (fun _ _ _ iv _ => ps.length - (intOf iv).toNat)
  case atStart => exact ⟨0, _, _, _, _, [], .slice none 0 0, Nat.zero_le _, rfl, rfl, rfl, by simp [Rb.runB_nil], by simp [Rb.runB_nil], by simpa [Rb.runB_nil] using HST0.out⟩
  case round =>
    clear HST0
    obtain ⟨i, aa, ac, gad, gc, vs, lv, hi, rfl, rfl, rfl, rfl, hvs, hst⟩ := hrel
    by_cases hlt : i < ps.length
    · obtain ⟨ad, ua, uc, rfl, hsb, hcl, hby⟩ := HV.out.nth hlt
      have HBY : Hid (∀ W, Quiet w W → BytesAt W S (.slice ua ps[i].length uc) ps[i]) := fun W ho => hby.only ho HS.out (fun _ _ x => x)
      have k1 : wr.cell? (ad.add i) = some (.slice ua ps[i].length uc) := by
        rw [World.cell?_of_block (w := w) (by rw [add_block]; exact hst.rest.only.block _ (HS.out _ hsb) (fun x => x))]
        exact hcl
      have HFS := Lib.hid (flatten_take_succ hlt)
      have hfl := flatten_take_le ps (i + 1)
      rw [HFS.out, List.length_append] at hfl
      have HNX := Lib.hid (Rb.runB_append c.ends (ps.take i).flatten [] ps[i])
      rw [← HFS.out] at HNX
      have hsh := Rb.runB_short HC.out (ps.take i).flatten [] HC.out.hi0
      have hbl := Rb.runB_len c.ends (ps.take i).flatten []
      rw [← hvs, List.length_map] at hbl
      generalize (Rb.runB c.ends [] (ps.take i).flatten).1 = B at *
      generalize (Rb.runB c.ends [] (ps.take i).flatten).2 = q at *
      generalize (ps.take i).flatten = D at *
      generalize ps[i] = p at *
      have HWR : Hid (∀ (W : World) (S' : Nat → Prop) (v' : Value) (ps' : List (List UInt8)) (vs0 : List (Value × List UInt8)), ChAt W g c (c.fw q) lv → Own W w.heap.size ((lv, q) :: vs0) → w.heap.size ≤ W.heap.size → PartsAt W S' v' ps' → ps'.flatten = p → ps'.length ≤ 2 → (∀ k, S' k → k < W.heap.size ∧ k ≠ g ∧ lv.ownBlock ≠ some k) →
          Calls Try.prog 24 #[.pointer (some ⟨g, 0, none⟩), v'] W fun e w' => ∃ oa oc nw lv', e = .returned (.slice oa nw.length oc) ∧ nw.map (·.2) = (Rb.runB c.ends q p).1 ∧ WrAt W w' g c w.heap.size vs0 lv (.slice oa nw.length oc) (c.fw (Rb.runB c.ends q p).2) (Rb.runB c.ends q p).2 nw lv') := fun W S' v' ps' vs0 h1 h2 h3 h4 h5 h6 h7 => by
        have h := write_any HC.out h1 h2 h3 hsh h4 h7 (by omega) (by rw [h5]; omega)
        rwa [h5] at h
      have HJ := Lib.hid (Rb.runB_join c.ends p q)
      have hsh2 := Rb.runB_short HC.out p q hsh
      have hbl2 := Rb.runB_len c.ends p q
      generalize (Rb.runB c.ends q p).1 = B2 at *
      generalize (Rb.runB c.ends q p).2 = q2 at *
      have HST := Lib.hid hst
      have HVS := Lib.hid hvs
      have HSH := Lib.hid hsh
      have HSH2 := Lib.hid hsh2
      have hD : D.length + p.length ≤ 16384 := by omega
      have pz : 0 ≤ (i : Int) := by omega
      have mz : (i : Int) < (ps.length : Int) := by omega
      have ROWALL : Hid (wr.ownsRow 0 5 1 (.slice aa D.length ac) D.length (D.map byteV)) := hst.own.row _ (List.mem_cons_of_mem _ (List.mem_cons_self ..))
      clear hst hvs hby hsb hcl hsh hsh2 hfl
      go_wp2_with fail
      refine (copy_any (HBY.out _ HST.out.rest.only) (fun k hk => Nat.lt_of_lt_of_le (HS.out k hk) HST.out.rest.only.size) (by omega)).mono ?_
      rintro e w1 ⟨cg, cc, rfl, hcp, hcg, hq⟩
      have HR1 := Lib.hid (HST.out.rest.quiet hq)
      have HO1 : Hid (Own w1 w.heap.size ((.slice aa D.length ac, D) :: (.slice (some ⟨cg, 0, none⟩) (p.length + 2) cc, p ++ [165, 90]) :: (lv, q) :: vs)) :=
        (HST.out.own.add (v := .slice (some ⟨cg, 0, none⟩) (p.length + 2) cc) hq hcp (by simp) HST.out.rest.only.size (fun k hk => by have : cg = k := Option.some.inj hk; omega)).perm (perm3 _ _ _ _)
      have ROW1 : Hid (w1.ownsRow 0 5 1 (.slice aa D.length ac) D.length (D.map byteV)) := HO1.out.row _ (List.mem_cons_self ..)
      have hcap := row_cap hcp
      clear hq hcp ROWALL
      go_upto_if 75 with (at_builtin; refine wpList_append_bytes _ rfl _ _ rfl (.slice aa D.length ac) (.slice ua p.length uc) D.length (D.map byteV) rfl rfl ROW1.out (HBY.out _ HR1.out.only) (by omega) ?_; intro a2 l2 w2 hr2 hg2 hat2; have HO2 := Lib.hid (HO1.out.grow (Only.refl _ _) hr2 rfl HR1.out.only.size hg2 hat2); have HR2 := Lib.hid (HR1.out.u8 (Only.of_grown hg2) (fun k hk => HO1.out.ty k hk.symm)); clear hr2 hg2 hat2)
      have CP2 : Hid (CopyAt w2 cg cc p) := by
        have h := HO2.out.row (.slice (some ⟨cg, 0, none⟩) (p.length + 2) cc, p ++ [165, 90]) (List.mem_cons_of_mem _ (List.mem_cons_self ..))
        unfold Hid CopyAt
        simpa using h
      have HOW2 : Hid (Own w2 w.heap.size ((lv, q) :: (.slice a2 (D.length + p.length) l2, D ++ p) :: (.slice (some ⟨cg, 0, none⟩) (p.length + 2) cc, p ++ [165, 90]) :: vs)) := HO2.out.perm (perm3 _ _ _ _)
      have HWC : Hid (∀ (W : World) (S' : Nat → Prop) (v' : Value) (ps' : List (List UInt8)), Quiet w2 W → PartsAt W S' v' ps' → ps'.flatten = p → ps'.length ≤ 2 → (∀ k, S' k → k < W.heap.size ∧ (k = cg ∨ w2.heap.size ≤ k)) →
          Calls Try.prog 24 #[.pointer (some ⟨g, 0, none⟩), v'] W fun e w' => ∃ oa oc nw lv', e = .returned (.slice oa nw.length oc) ∧ nw.map (·.2) = B2 ∧ WrAt W w' g c w.heap.size ((.slice a2 (D.length + p.length) l2, D ++ p) :: (.slice (some ⟨cg, 0, none⟩) (p.length + 2) cc, p ++ [165, 90]) :: vs) lv (.slice oa nw.length oc) (c.fw q2) q2 nw lv') := fun W S' v' ps' hq h4 h5 h6 h7 => by
        refine HWR.out W S' v' ps' _ (HR2.out.ch.keep hq (fun x => x)) (HOW2.out.keep hq (fun _ _ _ _ x => x)) (Nat.le_trans HR2.out.only.size hq.size) h4 h5 h6 (fun k hk => ⟨(h7 k hk).1, fun e => ?_, fun e => ?_⟩)
        · rcases (h7 k hk).2 with e1 | e1
          · subst e1
            have := HR2.out.ch.ty.eq (by rw [← e]; exact row_ty CP2.out rfl)
            exact absurd this (by decide)
          · have := HR2.out.ch.ty.lt; omega
        · rcases (h7 k hk).2 with e1 | e1
          · subst e1
            exact (List.pairwise_cons.1 HOW2.out.dis).1 _ (List.mem_cons_of_mem _ (List.mem_cons_self ..)) k e rfl
          · have := (HOW2.out.ty k e).1.lt; omega
      have CB2 := Lib.hid CP2.out.bytes
      have hcl2 : cg < w2.heap.size := CP2.out.lt
      clear HWR k1 HO1 HR1 ROW1
      go_cut [15] (fun s15 wx => ∃ (W : World) (oa : Option Addr) (oc : Nat) (nw : List (Value × List UInt8)) (lv' : Value), s15 = .slice oa nw.length oc ∧ Quiet w2 W ∧ nw.map (·.2) = B2 ∧ WrAt W wx g c w.heap.size ((.slice a2 (D.length + p.length) l2, D ++ p) :: (.slice (some ⟨cg, 0, none⟩) (p.length + 2) cc, p ++ [165, 90]) :: vs) lv (.slice oa nw.length oc) (c.fw q2) q2 nw lv')
      case first =>
        by_cases h3 : i % 3 = 1
        · have e3 : ((i : Int).tmod 3 == 1) = true := by
            rw [Int.tmod_eq_emod_of_nonneg (by omega)]
            simp; omega
          obtain ⟨h, hh⟩ : ∃ h, p.length / 2 = h := ⟨_, rfl⟩
          have hd1 : (p.length : Int).tdiv 2 = (h : Int) := by rw [Int.tdiv_eq_ediv_of_nonneg (by omega)]; omega
          have hd2 : (p.length : Int) / 2 = (h : Int) := by omega
          have hd3 : IntKind.i64.wrap (h : Int) = (h : Int) := IntWalk.i64_in _ (by omega)
          have hslA := fun W => slice_h (a := some ⟨cg, 0, none⟩) (n := p.length) (cap := cc) (m := h) (by omega) W
          have hslB := fun W => slice_lg (g := cg) (n := p.length) (cap := cc) (j := h) (by omega) (by omega) W
          have HQA : Hid (Quiet w2 (w2.alloc (.cells #[.slice (some ⟨cg, 0, none⟩) h cc, .slice (some ⟨cg, h, none⟩) (p.length - h) (cc - h)] 25)).drew) := (Only.alloc _).trans Only.drew
          have HCALL := Lib.hid (HWC.out _ _ _ _ HQA.out ((parts_two (CB2.out.pre7 (k := h) (by omega)) (CB2.out.suf (j := h) (by omega)) (fun k hk => by subst hk; exact hcl2)).kept (fun _ _ => rfl) (fun _ h => h)) (by simp) (by simp) (fun k hk => by rcases hk with rfl | rfl <;> simp <;> omega))
          clear HWC
          go_wp2_with fail
          go_region_held3 (fun _ => True) (exact trivial) (first | (go_at_call 24; refine HCALL.out.mono ?_; rintro e w4 ⟨oa, oc, nw, lv2, rfl, hnw, hwr⟩; have HNW := Lib.hid hnw; have HWW := Lib.hid hwr; clear hnw hwr))
          go_wp2_with fail
          go_meet
          exact ⟨_, oa, oc, nw, lv2, rfl, HQA.out, HNW.out, HWW.out⟩
        · have e3 : ((i : Int).tmod 3 == 1) = false := by
            rw [Int.tmod_eq_emod_of_nonneg (by omega)]
            simp; omega
          have HCALL := Lib.hid (HWC.out _ _ _ _ (Only.alloc (.cells #[.slice (some ⟨cg, 0, none⟩) p.length cc] 25)) (parts_one CB2.out (fun k hk => by subst hk; exact hcl2)) (by simp) (by simp) (fun k hk => by rcases hk with rfl | rfl <;> simp <;> omega))
          have HQA : Hid (Quiet w2 (w2.alloc (.cells #[.slice (some ⟨cg, 0, none⟩) p.length cc] 25))) := Only.alloc _
          clear HWC
          go_wp2_with fail
          refine HCALL.out.mono ?_
          rintro e w4 ⟨oa, oc, nw, lv2, rfl, hnw, hwr⟩
          have HNW := Lib.hid hnw
          have HWW := Lib.hid hwr
          clear hnw hwr
          go_wp2_with fail
          go_meet
          exact ⟨_, oa, oc, nw, lv2, rfl, HQA.out, HNW.out, HWW.out⟩
      case rest =>
        obtain ⟨W, oa, oc, nw, lv2, rfl, hqW, hnw, hwr⟩ := hcut
        clear HWC
        have HR3 := Lib.hid ((HR2.out.quiet hqW).write hwr (fun k hk => (HOW2.out.keep hqW (fun _ _ _ _ x => x)).ty k hk))
        have HO3 : Hid (Own wc w.heap.size ((lv2, q2) :: (.slice a2 (D.length + p.length) l2, D ++ p) :: (.slice (some ⟨cg, 0, none⟩) (p.length + 2) cc, p ++ [165, 90]) :: (vs ++ nw))) := hwr.own
        have OUT3 := Lib.hid hwr.out
        have HNW := Lib.hid hnw
        have hnl : nw.length ≤ 16384 := by have e := congrArg List.length hnw; rw [List.length_map] at e; omega
        have CP3 : Hid (CopyAt wc cg cc p) := by
          have h := HO3.out.row (.slice (some ⟨cg, 0, none⟩) (p.length + 2) cc, p ++ [165, 90]) (List.mem_cons_of_mem _ (List.mem_cons_of_mem _ (List.mem_cons_self ..)))
          unfold Hid CopyAt
          simpa using h
        have HKP := Lib.hid (kept_any CP3.out (HBY.out _ HR3.out.only) (by omega))
        have HOV := Lib.hid (over_any (c := cc) CP3.out.blk (by omega))
        clear hqW hwr hnw HO2 HR2 CP2 CB2 HOW2
        go_wp2_with fail
        refine HKP.out.mono ?_
        rintro e w4 ⟨rfl, rfl⟩
        go_wp2_with fail
        refine HOV.out.mono ?_
        rintro e w5 ⟨rfl, ho⟩
        have hcty : IsTy wc cg 5 := row_ty CP3.out rfl
        have HR5 := Lib.hid (HR3.out.u8 ho (fun k hk => by subst hk; exact ⟨hcty, (HO3.out.perm (perm3 _ _ _ _)).low _ (List.mem_cons_self ..) _ rfl⟩))
        have HO5 : Hid (Own w5 w.heap.size ((lv2, q2) :: (.slice a2 (D.length + p.length) l2, D ++ p) :: (vs ++ nw))) :=
          (HO3.out.perm (perm3 _ _ _ _)).drop (ho.mono (fun k _ e => by subst e; rfl))
        have OUT5 := Lib.hid (OUT3.out.keep ho (fun k hk => ⟨5, by rw [hk]; exact hcty, by decide⟩))
        clear ho hcty HR3 HO3 OUT3 HKP HOV CP3
        have ROWO : Hid (w5.ownsRow 0 25 1 (.slice oa nw.length oc) nw.length (nw.map (·.1))) := by
          have h := OUT5.out.row
          rwa [List.length_map] at h
        have HNXT : Hid (∀ k (hk : k < nw.length), ∃ qb la lc, oa = some ⟨qb, 0, none⟩ ∧ w5.cell? ⟨qb, k, none⟩ = some (.slice la nw[k].2.length lc)) := fun k hk => by
          obtain ⟨qb, e1, _, _, e4⟩ := own_cells ROWO.out (by omega)
          obtain ⟨la, lc, e5⟩ := row_shape (HO5.out.row nw[k] (List.mem_cons_of_mem _ (List.mem_cons_of_mem _ (List.mem_append_right _ (List.getElem_mem hk)))))
          exact ⟨qb, la, lc, e1, by rw [e4 k nw[k].1 (by simp [hk]), e5]⟩
        have HLEN : Hid (∀ k, ((nw.map (·.2)).take k).flatten.length + q2.length ≤ q.length + p.length) := fun k => by
          have h1 := Rb.lens_le (L := nw.map (·.2)) k
          have h2 := congrArg List.length HJ.out
          rw [List.length_append, List.length_append, ← HNW.out] at h2
          omega
        have HALL : Hid ((nw.map (·.2)).flatten.length + q2.length = q.length + p.length) := by
          have h2 := congrArg List.length HJ.out
          rw [List.length_append, List.length_append, ← HNW.out] at h2
          exact h2
        have hqh := HSH.out
        obtain ⟨tt, htt⟩ : ∃ tt, q.length + p.length = tt := ⟨_, rfl⟩
        have htt2 : (q.length : Int) + (p.length : Int) = (tt : Int) := by omega
        have htt3 : tt ≤ 131072 := by omega
        rw [htt] at HLEN HALL
        clear htt
        go_wp2_with fail
        go_loop [11, 105] (fun s11 kv => ∃ k x : Nat, k ≤ nw.length ∧ kv = .int .i64 (k : Int) ∧ s11 = .int .i64 (x : Int) ∧ x + ((nw.map (·.2)).take k).flatten.length = tt) (fun _ kv => nw.length - (intOf kv).toNat)
        case atStart => exact ⟨0, tt, Nat.zero_le _, rfl, rfl, by simp⟩
        case round =>
          obtain ⟨k, x, hk, rfl, rfl, hx⟩ := hrel
          by_cases hkl : k < nw.length
          · obtain ⟨qb, la, lc, rfl, hcell⟩ := HNXT.out k hkl
            have hnx := Rb.lens_next (L := nw.map (·.2)) (i := k) (by simpa using hkl)
            simp only [List.getElem_map] at hnx
            have hle := HLEN.out (k + 1)
            rw [hnx] at hle
            generalize nw[k].2.length = z at *
            generalize ((nw.map (·.2)).take k).flatten.length = y at *
            have HNX2 := Lib.hid hnx
            have pz2 : 0 ≤ (k : Int) := by omega
            have mz2 : (k : Int) < (nw.length : Int) := by omega
            clear hnx
            go_wp2_with fail
            exact ⟨⟨k + 1, x - z, by omega, by go_num, by go_num, by rw [HNX2.out]; omega⟩, by simp [intOf]; omega⟩
          · obtain rfl : k = nw.length := by omega
            have hx2 : x = q2.length := by
              have h1 := HALL.out
              rw [List.take_of_length_le (by simp)] at hx
              omega
            subst hx2
            clear hx HLEN HALL HNXT htt2
            have ROWG : Hid (w5.ownsRow 0 25 1 (.slice (some gad) vs.length gc) vs.length (vs.map (·.1))) := by
              have h := HR5.out.got.row
              rwa [List.length_map] at h
            have HONE : Hid (∀ u ∈ nw.map (·.1), u.oneCell' = true) := (HO5.out.sub (rs' := nw) (((List.sublist_append_right vs nw).cons _).cons _)).one
            have hvl : vs.length ≤ 16384 := by omega
            go_wp2_with (at_builtin; refine wpList_append_vals _ rfl _ _ rfl (.slice (some gad) vs.length gc) (.slice oa nw.length oc) vs.length (vs.map (·.1)) rfl rfl ROWG.out OUT5.out.vals HONE.out (by rw [List.length_map]; omega) ?_; intro a3 l3 w6 hr hg hat hnil; obtain ⟨gad3, rfl⟩ : ∃ x, a3 = some x := (by cases a3 with | none => exact absurd (hnil rfl) (by simp) | some x => exact ⟨x, rfl⟩); have HR6 := Lib.hid (HR5.out.more (by simp) hr hg hat); have HO6 := Lib.hid (HO5.out.more HR5.out hg); clear hr hg hat hnil)
            have hrow2 : w6.ownsRow 0 5 1 lv2 q2.length (q2.map byteV) := HO6.out.row _ (List.mem_cons_self ..)
            obtain ⟨la2, lc2, rfl⟩ := row_shape hrow2
            have HFIN : Hid (StAt w w6 g c (ps.take (i + 1)).flatten (Rb.runB c.ends [] (ps.take (i + 1)).flatten).2 (.slice a2 (ps.take (i + 1)).flatten.length l2) (.slice la2 q2.length lc2) (.slice (some gad3) (vs ++ nw).length l3) (vs ++ nw)) := by
              rw [HNX.out, HFS.out, List.length_append, List.length_append]
              refine ⟨?_, HO6.out⟩
              rw [List.map_append]
              have h := HR6.out
              rwa [List.length_map] at h
            clear hrow2
            refine (left_any HR6.out.ch).mono ?_
            rintro e w7 ⟨rfl, rfl⟩
            go_wp2_with fail
            exact ⟨⟨i + 1, a2, l2, gad3, l3, vs ++ nw, _, by omega, by go_num, by rw [HFS.out, List.length_append], by simp, by rw [HNX.out], by rw [HNX.out, List.map_append, HVS.out, HNW.out], HFIN.out⟩, by simp [intOf]; omega⟩
    · obtain rfl : i = ps.length := by omega
      rw [List.take_length] at hvs hst
      rw [List.take_length]
      have HB3 := Lib.hid (Rb.runB_len c.ends ps.flatten [])
      have HCH : Hid (Rb.chunks c.ends ps.flatten = (Rb.runB c.ends [] ps.flatten).1 ++ Rb.lastB (Rb.runB c.ends [] ps.flatten).2) := rfl
      have HWR : Hid (∀ (W : World) (S' : Nat → Prop) (v' lv' : Value) (vs0 : List (Value × List UInt8)), ChAt W g c (c.fw []) lv' → Own W w.heap.size ((lv', []) :: vs0) → w.heap.size ≤ W.heap.size → PartsAt W S' v' [ps.flatten] → (∀ k, S' k → k < W.heap.size ∧ k ≠ g ∧ lv'.ownBlock ≠ some k) →
          Calls Try.prog 24 #[.pointer (some ⟨g, 0, none⟩), v'] W fun e w' => ∃ oa oc nw lv2, e = .returned (.slice oa nw.length oc) ∧ nw.map (·.2) = (Rb.runB c.ends [] ps.flatten).1 ∧ WrAt W w' g c w.heap.size vs0 lv' (.slice oa nw.length oc) (c.fw (Rb.runB c.ends [] ps.flatten).2) (Rb.runB c.ends [] ps.flatten).2 nw lv2) := fun W S' v' lv' vs0 h1 h2 h3 h4 h7 => by
        have h := write_any HC.out h1 h2 h3 HC.out.hi0 h4 h7 (by simp) (by rw [List.flatten_singleton]; omega)
        rwa [List.flatten_singleton] at h
      have hbl : vs.length ≤ 16384 := by
        have h1 := HB3.out
        rw [← hvs, List.length_map] at h1
        omega
      clear HV HP1 HS
      generalize ps.flatten = A at *
      generalize (Rb.runB c.ends [] A).1 = B at *
      generalize (Rb.runB c.ends [] A).2 = q at *
      have HST := Lib.hid hst
      have HVS := Lib.hid hvs
      have HEND := Lib.hid (end_any HC.out hst.rest.ch hst.own)
      clear hst hvs hlt HB3
      go_wp2_with fail
      refine HEND.out.mono ?_
      rintro e w1 ⟨oa, oc, nw, lv1, rfl, hnw, hwr⟩
      have HR1 := Lib.hid (HST.out.rest.write hwr (fun k hk => HST.out.own.ty k hk))
      have HO1 : Hid (Own w1 w.heap.size ((lv1, []) :: (.slice aa A.length ac, A) :: (vs ++ nw))) := hwr.own
      have OUT1 := Lib.hid hwr.out
      have hnl : nw.length ≤ 1 := by
        have e := congrArg List.length hnw
        rw [List.length_map] at e
        have h1 : (Rb.lastB q).length ≤ 1 := by unfold Rb.lastB; split <;> simp
        omega
      have HUS : Hid ((vs ++ nw).map (·.2) = Rb.chunks c.ends A) := by rw [HCH.out, List.map_append, HVS.out, hnw]; rfl
      have ROWG : Hid (w1.ownsRow 0 25 1 (.slice (some gad) vs.length gc) vs.length (vs.map (·.1))) := by
        have h := HR1.out.got.row
        rwa [List.length_map] at h
      have HONE : Hid (∀ u ∈ nw.map (·.1), u.oneCell' = true) := (HO1.out.sub (rs' := nw) (((List.sublist_append_right vs nw).cons _).cons _)).one
      obtain ⟨us, hus⟩ : ∃ us, vs ++ nw = us := ⟨_, rfl⟩
      have hN : vs.length + nw.length = us.length := by rw [← hus, List.length_append]
      rw [hus] at HO1 HUS
      have HUSE := Lib.hid hus
      have hul : us.length ≤ 16385 := by omega
      clear hwr hnw HEND hus HST
      go_wp2_with (at_builtin; refine wpList_append_vals _ rfl _ _ rfl (.slice (some gad) vs.length gc) (.slice oa nw.length oc) vs.length (vs.map (·.1)) rfl rfl ROWG.out OUT1.out.vals HONE.out (by rw [List.length_map]; omega) ?_; intro a3 l3 w2 hr hg hat hnil; obtain ⟨gad3, rfl⟩ : ∃ x, a3 = some x := (by cases a3 with | none => exact absurd (hnil rfl) (by simp) | some x => exact ⟨x, rfl⟩); have HR2 := Lib.hid (HR1.out.more (by simp) hr hg hat); have HO2 := Lib.hid (HO1.out.more HR1.out hg); rw [List.length_map, hN]; rw [List.length_map, hN, ← List.map_append, HUSE.out] at HR2; clear hr hg hat hnil)
      clear HR1 HO1 OUT1 ROWG HONE HUSE hN
      have hrow1 : w2.ownsRow 0 5 1 lv1 ([] : List UInt8).length (([] : List UInt8).map byteV) := HO2.out.row _ (List.mem_cons_self ..)
      obtain ⟨la1, lc1, rfl⟩ := row_shape hrow1
      have HLF := Lib.hid (left_any HR2.out.ch)
      rw [List.length_nil] at HLF
      rw [show ((0 : Nat) : Int) = 0 from rfl] at HLF
      have HEND := Lib.hid (end_any HC.out HR2.out.ch HO2.out)
      clear hrow1
      refine HLF.out.mono ?_
      rintro e w3 ⟨rfl, rfl⟩
      go_wp2_with fail
      refine HEND.out.mono ?_
      rintro e w3 ⟨oa2, oc2, nw2, lv2, rfl, hnw2, hwr2⟩
      have hn2 : nw2 = [] := by
        have e : nw2.map (·.2) = [] := hnw2
        simpa using e
      subst hn2
      have HR3 := Lib.hid (HR2.out.write hwr2 (fun k hk => HO2.out.ty k hk))
      have ho3 := hwr2.own
      rw [List.append_nil] at ho3
      have HO3 := Lib.hid ho3
      clear hwr2 hnw2 ho3 HR2 HO2 HLF HEND
      rw [List.length_nil]
      go_upto_if 135 with (fail)
      obtain ⟨G, rfl⟩ : ∃ G, gad3 = ⟨G, 0, none⟩ := by
        rcases HR3.out.got.row.2 with ⟨e, _⟩ | ⟨g, cap, cur, e, _⟩
        · cases e
        · exact ⟨g, Option.some.inj (Value.slice.inj e).1⟩
      go_cut [18] (fun _ wx => Fin w wx c A (.slice aa A.length ac) (.slice (some ⟨G, 0, none⟩) us.length l3) us)
      case first =>
        cases tw with
        | false =>
          go_wp2_with fail
          go_meet
          exact ⟨HO3.out.tail, HR3.out.got, HR3.out.box, HR3.out.only⟩
        | true =>
          have hab3 : BytesAt w3 (fun k => (Value.slice aa A.length ac).ownBlock = some k) (.slice aa A.length ac) A := HO3.out.bytes (r := (.slice aa A.length ac, A)) (List.mem_cons_of_mem _ (List.mem_cons_self ..))
          have halt3 : ∀ k, (Value.slice aa A.length ac).ownBlock = some k → IsTy w3 k 5 := fun k hk => (HO3.out.tail.ty k hk).1
          have HO3' : Hid (Own (w3.alloc (.cells #[.slice aa A.length ac] 25)) w.heap.size ((lv2, []) :: (.slice aa A.length ac, A) :: us)) := HO3.out.keep (T := fun _ => False) (Only.alloc _) (fun _ _ _ _ x => x)
          have HR3' := Lib.hid (HR3.out.quiet (Only.alloc (.cells #[.slice aa A.length ac] 25)))
          have HCALL := Lib.hid (HWR.out _ _ _ lv2 _ HR3'.out.ch HO3'.out HR3'.out.only.size (parts_one hab3 (fun k hk => (halt3 k hk).lt)) (fun k hk => by
            rcases hk with hk | rfl
            · refine ⟨by have := (halt3 k hk).lt; simp; omega, fun e => ?_, fun e => (List.pairwise_cons.1 HO3.out.dis).1 _ (List.mem_cons_self ..) k e hk⟩
              subst e
              exact absurd (HR3.out.ch.ty.eq (halt3 k hk)) (by decide)
            · exact ⟨by simp, fun e => by have := HR3.out.ch.ty.lt; omega, fun e => by have := (HO3.out.ty _ e).1.lt; omega⟩))
          have HZ3 : Hid (w.heap.size ≤ w3.heap.size) := HR3.out.only.size
          have HGLT : Hid (∀ k, (Value.slice (some ⟨G, 0, none⟩) us.length l3).ownBlock = some k → k < w3.heap.size) := fun k hk => (HR3.out.got.row.lt k hk).2
          clear hab3 halt3 HWR HR3 HO3
          go_wp2_with fail
          refine HCALL.out.mono ?_
          rintro e w4 ⟨oa4, oc4, nw4, lv4, rfl, hnw4, hwr4⟩
          have HR4 := Lib.hid (HR3'.out.write hwr4 (fun k hk => HO3'.out.ty k hk))
          have HO4 : Hid (Own w4 w.heap.size ((lv4, q) :: (.slice aa A.length ac, A) :: (us ++ nw4))) := hwr4.own
          have OUT4 := Lib.hid hwr4.out
          have HEND := Lib.hid (end_any HC.out HR4.out.ch HO4.out)
          have HNW4 := Lib.hid hnw4
          clear hnw4 hwr4 HCALL HR3' HO3'
          go_wp2_with fail
          refine HEND.out.mono ?_
          rintro e w5 ⟨oa5, oc5, nw5, lv5, rfl, hnw5, hwr5⟩
          have HR5 := Lib.hid (HR4.out.write hwr5 (fun k hk => HO4.out.ty k hk))
          have HO5 : Hid (Own w5 w.heap.size ((lv5, []) :: (.slice aa A.length ac, A) :: ((us ++ nw4) ++ nw5))) := hwr5.own
          have OUT5 := Lib.hid hwr5.out
          have OUT45 := Lib.hid (OUT4.out.keep hwr5.only (fun k hk => by
            rcases hk with rfl | hk
            · exact ⟨78, HR4.out.ch.ty, by decide⟩
            · exact ⟨5, (HO4.out.ty k hk).1, by decide⟩))
          have HYS : Hid ((nw4 ++ nw5).map (·.2) = Rb.chunks c.ends A) := by rw [HCH.out, List.map_append, HNW4.out, hnw5]; rfl
          have hN2 : nw4.length + nw5.length = us.length := by
            have e1 := congrArg List.length HYS.out
            have e2 := congrArg List.length HUS.out
            rw [List.length_map] at e1 e2
            rw [← List.length_append]; omega
          have ROW4 : Hid (w5.ownsRow 0 25 1 (.slice oa4 nw4.length oc4) nw4.length (nw4.map (·.1))) := by
            have h := OUT45.out.row
            rwa [List.length_map] at h
          have HONE : Hid (∀ u ∈ nw5.map (·.1), u.oneCell' = true) := (HO5.out.sub (rs' := nw5) (((List.sublist_append_right (us ++ nw4) nw5).cons _).cons _)).one
          clear hnw5 hwr5 HEND HR4 HO4 OUT4
          go_wp2_with (at_builtin; refine wpList_append_vals _ rfl _ _ rfl (.slice oa4 nw4.length oc4) (.slice oa5 nw5.length oc5) nw4.length (nw4.map (·.1)) rfl rfl ROW4.out OUT5.out.vals HONE.out (by rw [List.length_map]; omega) ?_; intro a6 l6 w6 hr hg hat _; have ROW6 : Hid (w6.ownsRow 0 25 1 (.slice a6 us.length l6) us.length ((nw4 ++ nw5).map (·.1))) := (by rw [List.length_map, hN2] at hr; rw [List.map_append]; exact hr); have hbt : ∀ j, some j = (Value.slice oa4 nw4.length oc4).ownBlock → IsTy w5 j 25 ∧ w3.heap.size < j := (fun j hj => ⟨row_ty ROW4.out hj.symm, (by have := OUT45.out.own j hj.symm; simp at this; omega)⟩); have HO6 := Lib.hid (HO5.out.typed (Only.of_grown hg) (fun j hj => ⟨25, (hbt j hj).1, by decide⟩)); have HF6 : Hid (Fin w w6 c A (.slice aa A.length ac) (.slice (some ⟨G, 0, none⟩) us.length l3) us) := ⟨HO6.out.sub ((((List.sublist_append_left us nw4).trans (List.sublist_append_left _ nw5)).cons_cons _).cons _), ⟨ownsRow_keep HR5.out.got.row (fun j hj => hg.block j (HR5.out.got.row.lt j hj).2 (fun e => by have h1 := (hbt j e).2; have h2 := HGLT.out j hj; omega)), HR5.out.got.own⟩, HR5.out.box.typed (Only.of_grown hg) (fun j hj => ⟨25, (hbt j hj).1, by decide⟩), HR5.out.only.andThen (Only.of_grown hg) (fun j hj e => by have h1 := (hbt j e).2; have h2 := HZ3.out; omega)⟩; rw [List.length_map, hN2]; clear hr hg hat hbt)
          have HYL : Hid ((nw4 ++ nw5).length = us.length) := by rw [List.length_append]; exact Lib.hid hN2
          have HOY : Hid (Own w6 w.heap.size (nw4 ++ nw5)) := by
            have h := HO6.out
            rw [List.append_assoc] at h
            exact h.sub (((List.sublist_append_right us (nw4 ++ nw5)).cons _).cons _)
          obtain ⟨ys, hys⟩ : ∃ ys, nw4 ++ nw5 = ys := ⟨_, rfl⟩
          rw [hys] at HYS ROW6 HYL HOY
          clear HO6 ROW4 HONE OUT5 OUT45 HR5 HO5 HNW4 hys hN2 HCH HVS HA HC
          generalize Rb.chunks c.ends A = xs at *
          go_wp2_with fail
          go_loopw [150] (fun kv wr => ∃ k : Nat, k ≤ us.length ∧ kv = .int .i64 (k : Int) ∧ Quiet w6 wr) (fun kv _ => us.length - (intOf kv).toNat)
          case atStart => exact ⟨0, Nat.zero_le _, rfl, Only.refl _ _⟩
          case round =>
            obtain ⟨k, hk, rfl, hqr⟩ := hrel
            by_cases hkl : k < us.length
            · obtain ⟨qa, rfl, _, hqt, hcs⟩ := own_cells ROW6.out (by omega)
              have hky : k < ys.length := by have := HYL.out; omega
              have hya := HOY.out.row ys[k] (List.getElem_mem hky)
              have hua := HF6.out.own.row us[k] (List.mem_cons_of_mem _ (List.getElem_mem hkl))
              have hkx : k < xs.length := by rw [← HUS.out, List.length_map]; exact hkl
              have hy2 : ys[k].2 = xs[k] := by simp [← HYS.out]
              have hu2 : us[k].2 = xs[k] := by simp [← HUS.out]
              have hyb := BytesAt.of_row hya
              have hub := BytesAt.of_row hua
              obtain ⟨la, lc, e5⟩ := row_shape hya
              obtain ⟨ma, mc, e6⟩ := row_shape hua
              have hylt : ∀ j, ys[k].1.ownBlock = some j → j < w6.heap.size := fun j hj => (hya.lt j hj).2
              have hult : ∀ j, us[k].1.ownBlock = some j → j < w6.heap.size := fun j hj => (hua.lt j hj).2
              have hyc := hcs k ys[k].1 (by simp [hky])
              have hgc := HF6.out.got.row.cells (g := G) rfl k us[k].1 (by simp [hkl])
              rw [add_lit, Nat.zero_add] at hgc
              have hql := hqt.lt
              have hgl : G < w6.heap.size := (row_ty HF6.out.got.row rfl).lt
              rw [hy2] at e5 hyb
              rw [hu2] at e6 hub
              rw [e5] at hyc hyb hylt
              rw [e6] at hgc hub hult
              generalize xs[k] = x at *
              have hcv1 : ∀ W, Only (fun _ => False) wr W → (convert 25 9 (.slice la x.length lc)).run Try.prog W = .ok (.string ⟨x.toArray⟩) W := fun W ho => (hyb.only (hqr.trans ho) hylt (fun _ _ x => x)).text
              have hcv2 : ∀ W, Only (fun _ => False) wr W → (convert 25 9 (.slice ma x.length mc)).run Try.prog W = .ok (.string ⟨x.toArray⟩) W := fun W ho => (hub.only (hqr.trans ho) hult (fun _ _ x => x)).text
              have k1 : ∀ W, Only (fun _ => False) wr W → W.cell? ⟨qa, k, none⟩ = some (.slice la x.length lc) := fun W ho => by
                rw [World.cell?_of_block (w := w6) ((hqr.trans ho).block qa hql (fun x => x))]; exact hyc
              have k2 : ∀ W, Only (fun _ => False) wr W → W.cell? ⟨G, k, none⟩ = some (.slice ma x.length mc) := fun W ho => by
                rw [World.cell?_of_block (w := w6) ((hqr.trans ho).block G hgl (fun x => x))]; exact hgc
              have pz2 : 0 ≤ (k : Int) := by omega
              have mz2 : (k : Int) < (us.length : Int) := by omega
              have HQR := Lib.hid hqr
              clear hcs hqt hky hya hua hkx hy2 hu2 hyb hub e5 e6 hylt hult hyc hgc hql hgl hqr
              go_wp2_with fail
              go_region_held3 (fun W => Only (fun _ => False) wr W) (exact Only.drew) (first | fail)
              go_wp2_with fail
              exact ⟨⟨k + 1, by omega, by go_num, HQR.out.trans Only.drew⟩, by simp [intOf]; omega⟩
            · go_wp2_with fail
              go_meet
              exact HF6.out.quiet hqr
      case rest =>
        have HF := Lib.hid hcut
        have hab0 : BytesAt wc (fun k => (Value.slice aa A.length ac).ownBlock = some k) (.slice aa A.length ac) A := hcut.own.bytes (r := (.slice aa A.length ac, A)) (List.mem_cons_self ..)
        have HCUT := Lib.hid (cut7_any HC.out hab0 (fun k hk => (hcut.own.ty k hk).1.lt) (by omega))
        unfold setV Rb.Cfg.set at HCUT
        simp only at HCUT
        have hSA : SetAt wc w.heap.size c.set := SetAt.of_blk hcut.box
        have c0 : wc.cell? ⟨w.heap.size, 0, none⟩ = some (.int .u64 (c.p : Int)) := hSA.c0
        have c1 : wc.cell? ⟨w.heap.size, 1, none⟩ = some (.int .i64 (c.win : Int)) := hSA.c1
        have c2 : wc.cell? ⟨w.heap.size, 2, none⟩ = some (.int .i64 (c.lo : Int)) := hSA.c2
        have c3 : wc.cell? ⟨w.heap.size, 3, none⟩ = some (.int .i64 (c.hi : Int)) := hSA.c3
        have c4 : wc.cell? ⟨w.heap.size, 4, none⟩ = some (.int .i64 (c.bits : Int)) := hSA.c4
        have HXC := Lib.hid (Rb.chunks_lens c.ends A)
        have HXJ := Lib.hid (Rb.chunks_join c.ends A)
        have HX1 := Lib.hid (Rb.E_bounds HC.out A)
        have hcl : (Rb.cuts c.ends A).length = us.length := by rw [← HXC.out, ← HUS.out, List.length_map, List.length_map]
        have hac : A.length ≤ ac := row_cap (hcut.own.row _ (List.mem_cons_self ..))
        have HCL := Lib.hid hcl
        clear hcut hab0 hSA HR3 HO3 HWR HCH HVS HA
        go_wp2_with fail
        refine HCUT.out.mono ?_
        rintro e w4 ⟨ca, ck, rfl, hrow⟩
        have HF4 := Lib.hid (HF.out.quiet hrow.only)
        have HROW := Lib.hid hrow
        clear hrow c0 c1 c2 c3 c4 HCUT HF
        rw [hcl] at HROW
        rw [hcl]
        clear hcl
        generalize Rb.cuts c.ends A = cs at *
        generalize Rb.chunks c.ends A = xs at *
        have HXL : Hid (xs.length = us.length) := by rw [← HUS.out]; exact List.length_map _
        go_wp2_with fail
        go_loopw [22, 182] (fun sa kv wr => ∃ k : Nat, k ≤ us.length ∧ kv = .int .i64 (k : Int) ∧ sa = .int .i64 ((xs.take k).flatten.length : Int) ∧ Quiet w4 wr) (fun _ kv _ => us.length - (intOf kv).toNat)
        case atStart => exact ⟨0, Nat.zero_le _, rfl, by simp, Only.refl _ _⟩
        case round =>
          obtain ⟨k, hk, rfl, rfl, hqr⟩ := hrel
          by_cases hkl : k < us.length
          · obtain ⟨cq, rfl, hcw⟩ := HROW.out.get (i := k) (by have := HCL.out; omega)
            have hkx : k < xs.length := by have := HXL.out; omega
            have hnx := Rb.lens_next hkx
            have hle := Rb.lens_le (L := xs) (k + 1)
            rw [HXJ.out, hnx] at hle
            have hpc := Rb.joined_piece xs k hkx
            rw [HXJ.out] at hpc
            have hz : cs[k]'(by have := HCL.out; omega) = xs[k].length := by simp [← HXC.out]
            have h1z := (HX1.out k (by have := HCL.out; omega)).1
            rw [hz] at hcw h1z
            have hu2 : us[k].2 = xs[k] := by simp [← HUS.out]
            have hgc := HF4.out.got.row.cells (g := G) rfl k us[k].1 (by simp [hkl])
            rw [add_lit, Nat.zero_add] at hgc
            have hur := HF4.out.own.row us[k] (List.mem_cons_of_mem _ (List.getElem_mem hkl))
            have hub := BytesAt.of_row hur
            obtain ⟨la, lc, e5⟩ := row_shape hur
            have hult : ∀ j, us[k].1.ownBlock = some j → j < w4.heap.size := fun j hj => (hur.lt j hj).2
            rw [hu2] at e5 hub
            rw [e5] at hgc hub hult
            have hab : BytesAt w4 (fun k => (Value.slice aa A.length ac).ownBlock = some k) (.slice aa A.length ac) A := HF4.out.own.bytes (r := (.slice aa A.length ac, A)) (List.mem_cons_self ..)
            have halt : ∀ j, (Value.slice aa A.length ac).ownBlock = some j → j < w4.heap.size := fun j hj => (HF4.out.own.ty j hj).1.lt
            generalize xs[k] = x at *
            generalize (xs.take k).flatten.length = at' at *
            obtain ⟨sa, hsa, hsl⟩ := slice_lh (a := aa) (n := A.length) (cap := ac) (l := at') (h := at' + x.length) (by omega) (by omega)
            have hpb := BytesAt.piece hab (l := at') (h := at' + x.length) (by omega) (by omega) hsa
            rw [hpc] at hpb
            rw [show at' + x.length - at' = x.length by omega] at hsl hpb
            have hcv1 : ∀ W, Only (fun _ => False) wr W → (convert 25 9 (.slice la x.length lc)).run Try.prog W = .ok (.string ⟨x.toArray⟩) W := fun W ho => (hub.only (hqr.trans ho) hult (fun _ _ x => x)).text
            have hcv2 : ∀ W, Only (fun _ => False) wr W → (convert 25 9 (.slice sa x.length (ac - at'))).run Try.prog W = .ok (.string ⟨x.toArray⟩) W := fun W ho => (hpb.only (hqr.trans ho) halt (fun _ _ x => x)).text
            have k1 : wr.cell? ⟨G, k, none⟩ = some (.slice la x.length lc) := by
              rw [World.cell?_of_block (w := w4) (hqr.block G (row_ty HF4.out.got.row rfl).lt (fun x => x))]; exact hgc
            have k2 : ∀ W, Only (fun _ => False) wr W → W.cell? ⟨cq, k, none⟩ = some (.int .i64 (x.length : Int)) := fun W ho => by
              rw [World.cell?_of_block (w := w4) ((hqr.trans ho).block cq (World.block_lt_of_cell? w4 _ hcw) (fun x => x))]; exact hcw
            have hsl' : ∀ w : World, (Instr.slice 25 (.slice aa A.length ac) (some (.int .i64 (at' : Int))) (some (.int .i64 ((at' : Int) + (x.length : Int)))) none).run Try.prog w = .ok (.slice sa x.length (ac - at')) w := hsl
            have pz2 : 0 ≤ (k : Int) := by omega
            have mz2 : (k : Int) < (us.length : Int) := by omega
            have wi : IntKind.i64.wrap ((at' : Int) + (x.length : Int)) = (at' : Int) + (x.length : Int) := IntWalk.i64_in _ (by omega)
            have HNXX := Lib.hid hnx
            have HQR := Lib.hid hqr
            clear hcw hz h1z hu2 hgc hur hub e5 hult hab halt hsa hsl hpb hpc hqr hnx hkx
            go_wp2_with fail
            go_region_held3 (fun W => Only (fun _ => False) wr W) (exact Only.drew) (first | fail)
            go_wp2_with fail
            exact ⟨⟨k + 1, by omega, by go_num, by rw [HNXX.out]; go_num, HQR.out.trans Only.drew⟩, by simp [intOf]; omega⟩
          · obtain rfl : k = us.length := by omega
            have e0 : xs.take us.length = xs := List.take_of_length_le (by have := HXL.out; omega)
            rw [e0, HXJ.out]
            have hF5 := HF4.out.quiet hqr
            have hlen : ∀ r ∈ us, r.2.length ≤ 1048576 := fun r hr => by
              obtain ⟨i, hi, rfl⟩ := List.getElem_of_mem hr
              have hu2 : us[i].2 = xs[i]'(by have := HXL.out; omega) := by simp [← HUS.out]
              have h1 := Rb.lens_next (L := xs) (i := i) (by have := HXL.out; omega)
              have h2 := Rb.lens_le (L := xs) (i + 1)
              rw [HXJ.out] at h2
              rw [hu2]
              omega
            obtain ⟨hr1, hr2⟩ := apart_of hF5.own.tail hF5.got hlen
            have hap : Calls Try.prog 28 #[.slice (some ⟨G, 0, none⟩) us.length l3] wr fun e w' => e = .returned (.bool true) ∧ Quiet w w' := by
              have h : Calls Try.prog 28 #[.slice (some ⟨G, 0, none⟩) (us.map fun r => (r.1, r.2.length)).length l3] wr fun e w' => e = .returned (.bool true) ∧ Quiet w w' := (apart_any (c := l3) hr1 hr2 (by simp; omega)).mono fun e w' ⟨h1, ho⟩ => ⟨h1, hF5.only.andThen ho (fun k hk hx => by
                obtain ⟨i, hi, e⟩ := hx
                simp only [List.getElem_map] at e
                have := hF5.own.tail.low _ (List.getElem_mem (by simpa using hi)) k e
                omega)⟩
              rwa [List.length_map] at h
            have HAP := Lib.hid hap
            clear hap hr1 hr2 hlen hF5 hqr e0
            go_wp2_with fail
            refine HAP.out.mono ?_
            rintro e w9 ⟨rfl, ho⟩
            have HQ9 := Lib.hid ho
            clear ho
            go_wp2_with fail
            go_ret
            exact ⟨rfl, HQ9.out⟩

end Go.Proofs.Ytobiajjcnpflgaa
