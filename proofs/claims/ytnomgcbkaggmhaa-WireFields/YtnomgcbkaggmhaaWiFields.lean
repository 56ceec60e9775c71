/- The law WireFields. Conditions: rows within the reach. -/
import Derived.Test.YtnomgcbkaggmhaaWiRefP
import Derived.Test.YtnomgcbkaggmhaaWiRefU
import Derived.Test.YtnomgcbkaggmhaaWiApart
import Derived.Test.YtnomgcbkaggmhaaWiSame
import Derived.Test.YtnomgcbkaggmhaaWiSum
import Derived.Test.YtnomgcbkaggmhaaWiAlive
import Derived.Test.YtnomgcbkaggmhaaGNum
namespace Go.Proofs.Ytnomgcbkaggmhaa
open Go.RowKit

theorem CopyAt.typed8 {w : World} {g c : Nat} {bs : List UInt8} (h : CopyAt w g c bs) : BytesAt w (fun k => TyAt w k 5) (.slice (some ⟨g, 0, none⟩) bs.length c) bs := by
  refine h.bytes.mono (fun k e => ?_)
  subst e
  rcases h.2 with ⟨e, _⟩ | ⟨q, cap, cur, e, _, hg, _⟩
  · cases e
  · cases e; exact ⟨_, hg⟩

theorem pack_cnt (fs : List (List UInt8)) : fs.length ≤ (Wi.pack fs).length := by
  induction fs with
  | nil => simp
  | cons f fs ih =>
    rw [Wi.pack_cons, List.length_append, Wi.field_len, List.length_cons]
    have := Wi.var_pos f.length
    omega
theorem unpack_cnt {N : Nat} {b : List UInt8} {fs : List (List UInt8)} (h : Wi.unpack N b = some fs) : fs.length ≤ b.length := by
  obtain ⟨_, h2⟩ := Wi.unpack_some _ _ _ h
  rw [← h2]; exact pack_cnt fs

/-- What the copying loop keeps. -/
structure Cpd (w wr : World) (mv : Value) (us : List Value) (fs : List (List UInt8)) : Prop where
  lst : Lst w wr mv us
  rows : RowsU wr us fs

set_option maxRecDepth 100000 in
set_option maxHeartbeats 8000000 in
theorem wireFields_any {w : World} {S : Nat → Prop} {v : Value} {fs : List (List UInt8)} (hv : PartsAt w S v fs) (hS : ∀ k, S k → k < w.heap.size) (hpl : (∀ p ∈ fs, p.length ≤ 140737488351232) ∧ fs.length ≤ 140737488355328) {S' : Nat → Prop} {bv : Value} {bs : List UInt8} (hb : BytesAt w S' bv bs) (hS' : ∀ k, S' k → k < w.heap.size) (_hbl : bs.length ≤ 140737488351232) {n : Int} (hn : -9223372036854775808 ≤ n ∧ n ≤ 9223372036854775807) :
    Calls Try.prog 4 #[v, bv, .int .i64 n] w fun e w' => e = .returned (.bool true) ∧ Only (fun _ => False) w w' := by
  obtain ⟨va, vc, rfl, hcp, -⟩ := id hv
  obtain ⟨ba, bc, rfl⟩ := hb.shape
  have HV := Lib.hid hv; have HS := Lib.hid hS; have HB := Lib.hid hb; have HS2 := Lib.hid hS'; have HNLE := Lib.hid hn
  have HSUM : Hid (∀ w1, Only (fun _ => False) w w1 → Calls Try.prog 22 #[.slice va fs.length vc, .int .i64 1048576] w1 fun e w' => e = .returned (.int .i64 ((min (tot fs) 1048576 : Nat) : Int)) ∧ w1 = w') := fun w1 ho =>
    numSum_any (most := 1048576) (HV.out.only ho HS.out (fun _ _ x => x)) (fun p hp => Nat.le_trans (hpl.1 p hp) (by decide)) hpl.2 (Nat.le_refl _)
  clear hv hS hcp hb hS' hpl _hbl hn
  by_cases hcnt : (fs.length : Int) > 1000
  · clear HSUM HV HS HB HS2
    go_enter Try.func4, Try.ntmps4
    go_wp2_with (go_at_call 10; refine alive_any.mono ?_; rintro e w1 ⟨rfl, ho1⟩; have HO1 := Lib.hid ho1; clear ho1)
    go_ret
    exact ⟨rfl, HO1.out⟩
  obtain ⟨T, hT⟩ : ∃ T, min (tot fs) 1048576 = T := ⟨_, rfl⟩
  rw [hT] at HSUM
  by_cases hsum : (T : Int) > 262144
  · clear HV HS HB HS2 hT
    go_enter Try.func4, Try.ntmps4
    go_wp2_with (first
      | (go_at_call 10; refine alive_any.mono ?_; rintro e w1 ⟨rfl, ho1⟩; have HO1 := Lib.hid ho1; clear ho1)
      | (go_at_call 22; refine (HSUM.out _ HO1.out).mono ?_; rintro e w2 ⟨rfl, rfl⟩))
    go_ret
    exact ⟨rfl, HO1.out⟩
  by_cases hbl : (bs.length : Int) > 262144
  · clear HV HS HB HS2 hT
    go_enter Try.func4, Try.ntmps4
    go_wp2_with (first
      | (go_at_call 10; refine alive_any.mono ?_; rintro e w1 ⟨rfl, ho1⟩; have HO1 := Lib.hid ho1; clear ho1)
      | (go_at_call 22; refine (HSUM.out _ HO1.out).mono ?_; rintro e w2 ⟨rfl, rfl⟩))
    go_ret
    exact ⟨rfl, HO1.out⟩
  have hp : Parts fs := ⟨by omega, by omega⟩
  have HPS := Lib.hid hp
  have HBS : Short bs.length := ⟨by omega⟩
  have HBAT : Hid (∀ w1, Only (fun _ => False) w w1 → BytesAt w1 (fun k => k < w1.heap.size) (.slice ba bs.length bc) bs) := fun w1 ho => HB.out.here ho HS2.out
  have HPAT : Hid (∀ w1, Only (fun _ => False) w w1 → PartsAt w1 (fun k => k < w1.heap.size) (.slice va fs.length vc) fs) := fun w1 ho => (HV.out.only ho HS.out (fun _ _ x => x)).kept (fun _ _ => rfl) (fun k hk => Nat.lt_of_lt_of_le (HS.out k hk) ho.size)
  obtain ⟨i1, hi1, hy0, hy1, hy2⟩ := info_parts info_bytes'
  have hcn := hp.cnt
  clear hT hp HB HS2 HV HS
  go_enter Try.func4, Try.ntmps4
  go_wp2_with (first
    | (go_at_call 10; refine alive_any.mono ?_; rintro e w1 ⟨rfl, ho1⟩; have HO1 := Lib.hid ho1; clear ho1)
    | (go_at_call 22; refine (HSUM.out _ HO1.out).mono ?_; rintro e w2 ⟨rfl, rfl⟩))
  clear HSUM
  have HE1 : Hid (Cpd w (w1.alloc (.cells #[] 22)) (.slice (some ⟨w1.heap.size, 0, none⟩) 0 0) [] []) := by
    refine ⟨⟨World.ownsRow_made w1 (e := 22) (size := 1) (base := 0) #[] 0 (Nat.zero_le _) (Nat.zero_le _) rfl, fun q hq => ?_, HO1.out.trans (Only.alloc _)⟩, rfl, fun i hi => absurd hi (by simp)⟩
    have : w1.heap.size = q := Option.some.inj hq
    have := HO1.out.size
    omega
  go_loopw [7, 35] (fun mv iv wr => ∃ (i : Nat) (us : List Value), i ≤ fs.length ∧ iv = .int .i64 i ∧ Cpd w wr mv us (fs.take i)) (fun _ iv _ => fs.length - (intOf iv).toNat)
  case atStart => exact ⟨0, [], Nat.zero_le _, rfl, HE1.out⟩
  case round =>
    obtain ⟨i, us, hi, rfl, hcpd⟩ := hrel
    have hul : us.length = i := by have := hcpd.rows.1; simp at this; omega
    obtain ⟨ma, mc, rfl⟩ := hcpd.lst.shape
    rw [hul]
    by_cases hlt : i < fs.length
    · obtain ⟨ad, ua, uc, rfl, _, hc, hby⟩ := (HPAT.out wr hcpd.lst.only).get hlt
      have h1 := HPS.out.one hlt
      have HCP := Lib.hid (copy_any hby (fun _ h => h) (by omega))
      have HCPD := Lib.hid hcpd
      have HTK := Lib.hid (List.take_succ_eq_append_getElem hlt)
      have pz : 0 ≤ (i : Int) := by omega
      have mz : (i : Int) < (fs.length : Int) := by omega
      have HRG : Hid (∀ (w3 : World) (y : Obj), Only (fun _ => False) wr w3 → (w3.alloc y).ownsRow 0 22 1 (.slice ma i mc) i us) := fun w3 y ho => by
        have := (HCPD.out.lst.keep ho).row.alloc y
        rwa [hul] at this
      have HNX : Hid (∀ (w3 w6 : World) (g c : Nat) (a' : Option Addr) (c' : Nat), CopyAt w3 g c fs[i] → Only (fun _ => False) wr w3 → w6.ownsRow 0 22 1 (.slice a' (i + 1) c') (i + 1) (us ++ [.slice (some ⟨g, 0, none⟩) fs[i].length c]) → (w3.alloc (.cells #[.slice (some ⟨g, 0, none⟩) fs[i].length c] 22)).grownBy w6 (Value.slice ma i mc).ownBlock → ((Value.slice a' (i + 1) c').ownBlock = (Value.slice ma i mc).ownBlock ∨ (Value.slice a' (i + 1) c').ownBlock = some (w3.alloc (.cells #[.slice (some ⟨g, 0, none⟩) fs[i].length c] 22)).heap.size) →
          Cpd w w6 (.slice a' (i + 1) c') (us ++ [.slice (some ⟨g, 0, none⟩) fs[i].length c]) (fs.take (i + 1))) := by
        intro w3 w6 g c a' c' hcp ho hown hgr hat
        have hL := HCPD.out.lst.keep ho
        have hoA : Only (fun _ => False) w3 (w3.alloc (.cells #[.slice (some ⟨g, 0, none⟩) fs[i].length c] 22)) := Only.alloc _
        have hLA := hL.keep hoA
        rw [hul] at hLA
        have ho6 : Only (fun q => (Value.slice ma i mc).ownBlock = some q) (w3.alloc (.cells #[.slice (some ⟨g, 0, none⟩) fs[i].length c] 22)) w6 := (Only.of_grown hgr).mono (fun q _ e => e.symm)
        have hT : ∀ q, (Value.slice ma i mc).ownBlock = some q → ∃ t, TyAt (w3.alloc (.cells #[.slice (some ⟨g, 0, none⟩) fs[i].length c] 22)) q t ∧ t ≠ 5 := fun q hq => ⟨_, hLA.ty hq, by decide⟩
        have hLf := hL.app hoA (u := .slice (some ⟨g, 0, none⟩) fs[i].length c) (a := a') (c := c') (by rw [hul]; exact hown) (by rw [hul]; exact hgr) (by rw [hul]; exact hat)
        rw [hul] at hLf
        refine ⟨hLf, ?_⟩
        rw [HTK.out]
        exact (((HCPD.out.rows.typed ho (fun _ x => x.elim)).snoc hcp.typed8).typed hoA (fun _ x => x.elim)).typed ho6 hT
      have HU1 : Hid (i + 1 ≤ maxLen) := by unfold Hid maxLen; omega
      have HU2 : Hid ((i + 1) * 24 ≤ 140737488355328) := by unfold Hid; omega
      clear hcpd hby hul
      generalize fs[i].length = fl at *
      go_wp2_with (first
        | (go_at_call 11; refine HCP.out.mono ?_; rintro e w3 ⟨cg, cc, rfl, hc3, _, ho3⟩; have HC3 := Lib.hid hc3; have HO3 := Lib.hid ho3; clear hc3 ho3)
        | (at_builtin; refine wpList_append_own_at _ rfl _ _ 39 rfl 0 22 i1 _ 1 24 Try.underlying39 hi1 hy0 hy1 hy2 rfl (by omega) (.slice ma i mc) i us rfl (HRG.out _ _ HO3.out) ⟨w3.heap.size, 0, none⟩ 1 1 [.slice (some ⟨cg, 0, none⟩) fl cc] rfl rfl (cell_one_new _ _ _) (by intro u hu; simp only [List.mem_cons, List.not_mem_nil, or_false] at hu; subst hu; rfl) HU1.out HU2.out (Nat.zero_le _) ?_; intro v' w6 hown hgr hnil hat; obtain ⟨ga', gc', rfl⟩ := row_shape hown; have HNF := Lib.hid (HNX.out _ _ _ _ _ _ HC3.out HO3.out hown hgr hat); clear hown hgr hnil hat))
      exact ⟨⟨i + 1, _, by omega, by go_num, HNF.out⟩, by simp [intOf]; omega⟩
    · have hie : i = fs.length := by omega
      rw [hie, List.take_length] at hcpd
      rw [hie]
      rw [hul, hie] at hcpd
      have HMP := Lib.hid (hcpd.lst.partsU hcpd.rows)
      have HOM := Lib.hid hcpd.lst.only
      have HPK := Lib.hid (pack_any HMP.out (fun _ h => h) HPS.out)
      clear hcpd hul hie hlt hi HE1
      generalize hP : Wi.pack fs = P at *
      go_wp2_with fail
      refine HPK.out.mono ?_
      rintro e w4 ⟨pa, pc, rfl, hr4⟩
      have HR4 := Lib.hid hr4
      have HO4 := Lib.hid (HOM.out.trans hr4.only)
      have HM4 := Lib.hid (HMP.out.kept (w' := w4) (S' := fun k => k < w4.heap.size) (fun k hk => hr4.only.block k hk (fun x => x)) (fun k hk => Nat.lt_of_lt_of_le hk hr4.only.size))
      have hcon : ∀ W, Only (fun _ => False) w4 W → (convert 22 9 (.slice pa P.length pc)).run Try.prog W = .ok (.string ⟨P.toArray⟩) W := fun W h => (HR4.out.kept h).bytes.text
      have HP4 := Lib.hid (r4pack_any (HPAT.out _ (HO4.out.trans (Only.drew (w := w4)))) (fun _ h => h) HPS.out)
      rw [hP] at HP4
      clear hr4 HPK HMP HOM
      go_wp2_with fail
      refine wp_region_held_drew (S := fun W => Only (fun _ => False) w4 W) (by kernel_rfl) Only.drew (fun hHeld => ?_)
      refine wpAnyH_take (i := 0) (v := .slice pa P.length pc) rfl (by kernel_rfl) (by kernel_rfl) (by kernel_rfl) (fun _ _ _ h => h) (Or.inl ⟨by rfl, fun W hSw => by go_simp⟩) hHeld ?_
      simp only [Act.put, List.getElem_toArray, List.getElem_cons_zero, List.setIfInBounds_toArray, List.set_cons_zero, List.set_cons_succ]
      refine wpAnyH_take (i := 1) (v := .string ⟨P.toArray⟩) rfl (by kernel_rfl) (by kernel_rfl) (by kernel_rfl) (fun _ _ _ h => h) (Or.inl ⟨by rfl, fun W hSw => by go_simp⟩) hHeld ?_
      simp only [Act.put, List.getElem_toArray, List.getElem_cons_succ, List.getElem_cons_zero, List.setIfInBounds_toArray, List.set_cons_zero, List.set_cons_succ]
      refine wpAnyH_take (i := 2) (v := .slice va fs.length vc) rfl (by kernel_rfl) (by kernel_rfl) (by kernel_rfl) (fun _ _ _ h => h) (Or.inl ⟨by rfl, fun W hSw => by go_simp⟩) hHeld ?_
      simp only [Act.put, List.getElem_toArray, List.getElem_cons_succ, List.getElem_cons_zero, List.setIfInBounds_toArray, List.set_cons_zero, List.set_cons_succ]
      refine wpAnyH_ready (rs := [3]) (by kernel_rfl) (by simp) (AllReadyH.cons rfl (fun K hK => ?_) AllReadyH.nil)
      go_simp
      refine HP4.out.mono ?_
      rintro e w5 ⟨qa, qc, rfl, hr5⟩
      have ho5 : Only (fun _ => False) w4 w5 := Only.drew.trans hr5.only
      have ht5 := hr5.bytes.text
      clear hr5 HP4
      refine hK.out _ _ ho5 (fun hHeld => ?_)
      clear hK K
      try simp only [Act.put, List.getElem_toArray, List.getElem_cons_succ, List.getElem_cons_zero, List.setIfInBounds_toArray, List.set_cons_zero, List.set_cons_succ]
      refine wpAnyH_ready (rs := [4]) (by kernel_rfl) (by simp) (AllReadyH.cons rfl (fun K hK => ?_) AllReadyH.nil)
      go_simp
      refine hK.out _ _ hHeld (fun hHeld => ?_)
      clear hK K
      try simp only [Act.put, List.getElem_toArray, List.getElem_cons_succ, List.getElem_cons_zero, List.setIfInBounds_toArray, List.set_cons_zero, List.set_cons_succ]
      refine wpAnyH_take (i := 5) (v := .bool false) rfl (by kernel_rfl) (by kernel_rfl) (by kernel_rfl) (fun _ _ _ h => h) (Or.inl ⟨by rfl, fun W hSw => by go_simp⟩) hHeld ?_
      simp only [Act.put, List.getElem_toArray, List.getElem_cons_succ, List.getElem_cons_zero, List.setIfInBounds_toArray, List.set_cons_zero, List.set_cons_succ]
      refine wpAnyH_take (i := 6) (v := .bool false) rfl (by kernel_rfl) (by kernel_rfl) (by kernel_rfl) (fun _ _ _ h => h) (Or.inl ⟨by rfl, fun W hSw => by go_simp⟩) hHeld ?_
      simp only [Act.put, List.getElem_toArray, List.getElem_cons_succ, List.getElem_cons_zero, List.setIfInBounds_toArray, List.set_cons_zero, List.set_cons_succ]
      refine wpAnyH_take (i := 7) (v := .slice ma fs.length mc) rfl (by kernel_rfl) (by kernel_rfl) (by kernel_rfl) (fun _ _ _ h => h) (Or.inl ⟨by rfl, fun W hSw => by go_simp⟩) hHeld ?_
      simp only [Act.put, List.getElem_toArray, List.getElem_cons_succ, List.getElem_cons_zero, List.setIfInBounds_toArray, List.set_cons_zero, List.set_cons_succ]
      refine wpAnyH_take (i := 8) (v := .slice va fs.length vc) rfl (by kernel_rfl) (by kernel_rfl) (by kernel_rfl) (fun _ _ _ h => h) (Or.inl ⟨by rfl, fun W hSw => by go_simp⟩) hHeld ?_
      simp only [Act.put, List.getElem_toArray, List.getElem_cons_succ, List.getElem_cons_zero, List.setIfInBounds_toArray, List.set_cons_zero, List.set_cons_succ]
      have HSM := Lib.hid (same_true (HM4.out.kept (w' := w5) (S' := fun k => k < w5.heap.size) (fun k hk => ho5.block k hk (fun x => x)) (fun k hk => Nat.lt_of_lt_of_le hk ho5.size)) (HPAT.out w5 (HO4.out.trans ho5)) (fun _ h => h) (by omega))
      refine wpAnyH_ready (rs := [9]) (by kernel_rfl) (by simp) (AllReadyH.cons rfl (fun K hK => ?_) AllReadyH.nil)
      go_simp
      refine HSM.out.mono ?_
      rintro e w6 ⟨rfl, ho6⟩
      have ho6' : Only (fun _ => False) w4 w6 := ho5.trans ho6
      refine hK.out _ _ ho6' (fun hHeld => ?_)
      clear hK K
      try simp only [Act.put, List.getElem_toArray, List.getElem_cons_succ, List.getElem_cons_zero, List.setIfInBounds_toArray, List.set_cons_zero, List.set_cons_succ]
      refine wpAnyH_take (i := 10) (v := .bool false) rfl (by kernel_rfl) (by kernel_rfl) (by kernel_rfl) (fun _ _ _ h => h) (Or.inl ⟨by rfl, fun W hSw => by go_simp⟩) hHeld ?_
      simp only [Act.put, List.getElem_toArray, List.getElem_cons_succ, List.getElem_cons_zero, List.setIfInBounds_toArray, List.set_cons_zero, List.set_cons_succ]
      refine wpAnyH_take (i := 11) (v := .bool false) rfl (by kernel_rfl) (by kernel_rfl) (by kernel_rfl) (fun _ _ _ h => h) (Or.inl ⟨by rfl, fun W hSw => by go_simp⟩) hHeld ?_
      simp only [Act.put, List.getElem_toArray, List.getElem_cons_succ, List.getElem_cons_zero, List.setIfInBounds_toArray, List.set_cons_zero, List.set_cons_succ]
      refine wpAnyH_done (by kernel_rfl) ?_ _
      have HO6 := Lib.hid (HO4.out.trans ho6')
      clear hcon ht5 ho5 ho6 ho6' hHeld HSM HM4 HR4 HO4 hP
      go_wp2_with fail
      refine (copy_any (HBAT.out w6 HO6.out) (fun _ h => h) (by have := HBS.le; omega)).mono ?_
      rintro e w7 ⟨cg, cc, rfl, hc7, hg7, ho7⟩
      have HC7 := Lib.hid hc7; have HO7 := Lib.hid (HO6.out.trans ho7)
      clear hc7 hg7 ho7 HO6
      go_wp2_with fail
      by_cases h0 : n < 0
      · refine (unpack_neg h0).mono ?_
        rintro e w8 ⟨rfl, rfl⟩
        go_wp2_with fail
        refine (r4unpack_neg h0).mono ?_
        rintro e w9 ⟨rfl, rfl⟩
        have HSN := Lib.hid (same_true (w := w9) (S := fun k => k < w9.heap.size) (ps := []) (v := .slice none 0 0) (u := .slice none 0 0) ⟨none, 0, rfl, Nat.le_refl _, fun i hi => absurd hi (by simp)⟩ ⟨none, 0, rfl, Nat.le_refl _, fun i hi => absurd hi (by simp)⟩ (fun _ h => h) (by simp))
        have HC9 := HC7; have HO9 := HO7
        go_wp2_with fail
        refine HSN.out.mono ?_
        rintro e w10 ⟨rfl, ho10⟩
        have HO10 := Lib.hid (HO9.out.trans ho10)
        have HK := Lib.hid (kept_any (HC9.out.only ho10 (fun x => x)) (HBAT.out w10 HO10.out) (by have := HBS.le; omega))
        have HAP := Lib.hid (apartP_any (w0 := w) (w := w10) (ps := []) (g := 0) (O := 0) (Lst.nil w w10 HO10.out) (Pcs.nil _ _ _) (by simp) (by simp) (by simp))
        clear ho10 HSN HC9 HO9
        go_wp2_with fail
        refine (num_err 9 _ (by decide)).mono ?_
        rintro e w11 ⟨rfl, rfl⟩
        go_wp2_with fail
        refine HK.out.mono ?_
        rintro e w11 ⟨rfl, rfl⟩
        go_wp2_with fail
        refine HAP.out.mono ?_
        rintro e w12 ⟨rfl, ho12⟩
        have HO12 := Lib.hid ho12
        clear ho12
        go_wp2_with fail
        go_ret
        exact ⟨rfl, HO12.out⟩
      · obtain ⟨N, rfl⟩ := Int.eq_ofNat_of_zero_le (show 0 ≤ n by omega)
        cases hun : Wi.unpack N bs with
        | none =>
          refine (unpack_any (N := N) HC7.out.bytes (fun k e => by subst e; exact HC7.out.lt) HBS (by have := HNLE.out.2; omega)).mono ?_
          rintro e w8 (⟨_, _, _, _, _, hd⟩ | ⟨_, rfl, ho8⟩)
          · have := hd.eq; rw [hun] at this; cases this
          have HC8 := Lib.hid (HC7.out.only ho8 (fun x => x)); have HO8 := Lib.hid (HO7.out.trans ho8)
          clear ho8
          go_wp2_with fail
          refine (r4unpack_any (N := N) (HBAT.out w8 HO8.out) HBS (by have := HNLE.out.2; omega)).mono ?_
          rintro e w9 ⟨ho9, ⟨_, _, _, h, _⟩ | ⟨_, rfl⟩⟩
          · rw [hun] at h; cases h
          have HC9 := Lib.hid (HC8.out.only ho9 (fun x => x)); have HO9 := Lib.hid (HO8.out.trans ho9)
          have HSN := Lib.hid (same_true (w := w9) (S := fun k => k < w9.heap.size) (ps := []) (v := .slice none 0 0) (u := .slice none 0 0) ⟨none, 0, rfl, Nat.le_refl _, fun i hi => absurd hi (by simp)⟩ ⟨none, 0, rfl, Nat.le_refl _, fun i hi => absurd hi (by simp)⟩ (fun _ h => h) (by simp))
          clear ho9 HC8 HO8 hun
          go_wp2_with fail
          refine HSN.out.mono ?_
          rintro e w10 ⟨rfl, ho10⟩
          have HO10 := Lib.hid (HO9.out.trans ho10)
          have HK := Lib.hid (kept_any (HC9.out.only ho10 (fun x => x)) (HBAT.out w10 HO10.out) (by have := HBS.le; omega))
          have HAP := Lib.hid (apartP_any (w0 := w) (w := w10) (ps := []) (g := 0) (O := 0) (Lst.nil w w10 HO10.out) (Pcs.nil _ _ _) (by simp) (by simp) (by simp))
          clear ho10 HSN HC9 HO9
          go_wp2_with fail
          refine (num_err 9 _ (by decide)).mono ?_
          rintro e w11 ⟨rfl, rfl⟩
          go_wp2_with fail
          refine HK.out.mono ?_
          rintro e w11 ⟨rfl, rfl⟩
          go_wp2_with fail
          refine HAP.out.mono ?_
          rintro e w12 ⟨rfl, ho12⟩
          have HO12 := Lib.hid ho12
          clear ho12
          go_wp2_with fail
          go_ret
          exact ⟨rfl, HO12.out⟩
        | some us0 =>
          refine (unpack_any (N := N) HC7.out.bytes (fun k e => by subst e; exact HC7.out.lt) HBS (by have := HNLE.out.2; omega)).mono ?_
          rintro e w8 (⟨ga, gc, g, ps, rfl, hd⟩ | ⟨h, _⟩)
          case inr => rw [hun] at h; cases h
          have hpe : ps.map (·.b) = us0 := by have := hd.eq; rw [hun] at this; exact (Option.some.inj this).symm
          have hpl : us0.length = ps.length := by rw [← hpe]; simp
          have HD8 := Lib.hid hd
          have HC8 := Lib.hid (HC7.out.only hd.lst.only (fun x => x)); have HO8 := Lib.hid (HO7.out.trans hd.lst.only)
          have HPT8 := Lib.hid (hd.lst.parts hd.pcs)
          clear hd
          go_wp2_with fail
          refine (r4unpack_any (N := N) (HBAT.out w8 HO8.out) HBS (by have := HNLE.out.2; omega)).mono ?_
          rintro e w9 ⟨ho9, ⟨fs2, wa, wc, h, rfl, hp9⟩ | ⟨h, _⟩⟩
          case inr => rw [hun] at h; cases h
          have hfe : fs2 = us0 := by rw [hun] at h; exact (Option.some.inj h).symm
          subst hfe
          rw [hpe] at HPT8
          have hcn2 : ps.length ≤ 1048576 := by have := unpack_cnt hun; have := HBS.le; omega
          rw [hpl] at hp9
          have HSN := Lib.hid (same_true (HPT8.out.kept (w' := w9) (S' := fun k => k < w9.heap.size) (fun k hk => ho9.block k hk (fun x => x)) (fun k hk => Nat.lt_of_lt_of_le hk ho9.size)) hp9 (fun _ h => h) (by rw [hpl]; exact hcn2))
          have HC9 := Lib.hid (HC8.out.only ho9 (fun x => x)); have HO9 := Lib.hid (HO8.out.trans ho9)
          have HLP : Hid (∀ w10, Only (fun _ => False) w9 w10 → Calls Try.prog 28 #[.slice ga ps.length gc] w10 fun e w' => e = .returned (.bool true) ∧ Only (fun _ => False) w7 w') := fun w10 ho => by
            have hd := HD8.out
            have hlen : ∀ p ∈ ps, p.b.length ≤ 1048576 := fun p hp => by have := hd.pcs.top p hp; have := HBS.le; omega
            have := apartP_any ((hd.lst.keep ho9).keep ho) ((hd.pcs.only ho9 (fun x => x)).only ho (fun x => x)) (fun p hp hne => hd.fresh (by
              rintro rfl
              have h1 := hd.pcs.top p hp
              have h2 := List.length_pos_iff.2 hne
              rw [List.length_nil] at h1
              omega)) hcn2 hlen
            exact this
          have HO7b := HO7
          rw [hpl]
          clear hp9 h hun HC8 HO8 HPT8
          go_wp2_with fail
          refine HSN.out.mono ?_
          rintro e w10 ⟨rfl, ho10⟩
          have HO10 := Lib.hid (HO9.out.trans ho10)
          have HK := Lib.hid (kept_any (HC9.out.only ho10 (fun x => x)) (HBAT.out w10 HO10.out) (by have := HBS.le; omega))
          have HAP := Lib.hid (HLP.out w10 ho10)
          clear ho10 HSN HC9 HO9 HLP HD8
          go_wp2_with fail
          refine (num_nil _).mono ?_
          rintro e w11 ⟨rfl, rfl⟩
          go_wp2_with fail
          refine HK.out.mono ?_
          rintro e w11 ⟨rfl, rfl⟩
          go_wp2_with fail
          refine HAP.out.mono ?_
          rintro e w12 ⟨rfl, ho12⟩
          have HO12 := Lib.hid (HO7b.out.trans ho12)
          clear ho12
          go_wp2_with fail
          go_ret
          exact ⟨rfl, HO12.out⟩

end Go.Proofs.Ytnomgcbkaggmhaa
