/- The law WireReads. Conditions: rows within the reach. -/
import Derived.Test.YtnomgcbkaggmhaaWiOver
import Derived.Test.YtnomgcbkaggmhaaWiOps
import Derived.Test.YtnomgcbkaggmhaaWiAlive
import Derived.Test.YtnomgcbkaggmhaaGOver
import Derived.Deep.RegionHeld3
namespace Go.Proofs.Ytnomgcbkaggmhaa
open Go.RowKit

/-- Both readers, side by side. -/
structure Rds (w wr : World) (b g b4 g4 : Nat) (st : Option (List UInt8)) : Prop where
  rd : ∃ o, ReaderAt wr b g o st
  r4 : ∃ o, Reader4At wr b4 g4 o st
  only : Only (fun _ => False) w wr

/-- The four blocks are apart, and new. -/
structure Far (Z b g b4 g4 : Nat) : Prop where
  lb : Z ≤ b
  lg : Z ≤ g
  lb4 : Z ≤ b4
  lg4 : Z ≤ g4
  bg : b ≠ g
  bb : b ≠ b4
  bh : b ≠ g4
  gb : g ≠ b4
  gh : g ≠ g4
  hb : g4 ≠ b4

theorem Rds.drewN {w wr : World} {b g b4 g4 : Nat} {st : Option (List UInt8)} (h : Rds w wr b g b4 g4 st) (n : Nat) : Rds w (wr.drewN n) b g b4 g4 st := by
  obtain ⟨⟨o, h1⟩, ⟨o4, h2⟩, h3⟩ := h
  exact ⟨⟨o, h1.keep (Only.drewN n) (fun x => x) (fun x => x)⟩, ⟨o4, h2.keep (Only.drewN n) (fun x => x) (fun x => x)⟩, h3.trans (Only.drewN n)⟩
theorem Rds.keep {w wr w' : World} {b g b4 g4 : Nat} {st : Option (List UInt8)} (h : Rds w wr b g b4 g4 st) (ho : Only (fun _ => False) wr w') : Rds w w' b g b4 g4 st := by
  obtain ⟨⟨o, h1⟩, ⟨o4, h2⟩, h3⟩ := h
  exact ⟨⟨o, h1.keep ho (fun x => x) (fun x => x)⟩, ⟨o4, h2.keep ho (fun x => x) (fun x => x)⟩, h3.trans ho⟩

theorem left_quiet {w : World} {b g o : Nat} {st : Option (List UInt8)} (h : ReaderAt w b g o st) (n : Nat) : Calls Try.prog 42 #[.pointer (some ⟨b, 0, none⟩)] (w.drewN n) fun e w' => e = .returned (.int .i64 (leftOf st : Int)) ∧ ∃ m, w' = (w.drewN n).drewN m :=
  (left_any (h.keep (Only.drewN n) (fun x => x) (fun x => x))).mono fun _ _ ⟨h1, h2⟩ => ⟨h1, 0, h2⟩
theorem err_quiet {w : World} {b g o : Nat} {st : Option (List UInt8)} (h : ReaderAt w b g o st) (n : Nat) : Calls Try.prog 43 #[.pointer (some ⟨b, 0, none⟩)] (w.drewN n) fun e w' => e = .returned (rdE st) ∧ ∃ m, w' = (w.drewN n).drewN m :=
  (err_any (h.keep (Only.drewN n) (fun x => x) (fun x => x))).mono fun _ _ ⟨h1, h2⟩ => ⟨h1, 0, h2⟩
theorem done_quiet {w : World} {b g o : Nat} {st : Option (List UInt8)} (h : ReaderAt w b g o st) (hl : leftOf st ≤ 1048576) (n : Nat) : Calls Try.prog 44 #[.pointer (some ⟨b, 0, none⟩)] (w.drewN n) fun e w' => e = .returned (doneE st) ∧ ∃ m, w' = (w.drewN n).drewN m :=
  (done_any (h.keep (Only.drewN n) (fun x => x) (fun x => x)) (by omega)).mono fun _ _ ⟨h1, h2⟩ => ⟨h1, 0, h2⟩
theorem num9 (w : World) (n : Nat) : Calls Try.prog 16 #[.iface 75 (.int .i64 9)] (w.drewN n) fun e w' => e = .returned (.int .i64 9) ∧ ∃ m, w' = (w.drewN n).drewN m := (num_err 9 _ (by decide)).mono fun _ _ ⟨h1, h2⟩ => ⟨h1, 0, h2.symm⟩

theorem addr_plain {w : World} {a : Addr} {v : Value} (h : w.cell? a = some v) : a = ⟨a.block, a.off, none⟩ := by
  obtain ⟨b, o, sp⟩ := a
  cases sp with
  | none => rfl
  | some x =>
    exfalso
    unfold World.cell? at h
    split at h <;> simp at h

/-- The cells of the i-th call. -/
theorem OpsAt.at_ {w : World} {S : Nat → Prop} {a : Option Addr} {c : Nat} {l : List OpD} (h : OpsAt w S (.slice a l.length c) l) {i : Nat} (hi : i < l.length) :
    ∃ g o, a = some ⟨g, o, none⟩ ∧ S g ∧ w.cell? ⟨g, o + i * 2, none⟩ = some (.int .i64 l[i].kind) ∧ w.cell? ⟨g, o + i * 2 + 1, none⟩ = some (.int .i64 l[i].n) := by
  obtain ⟨a', c', h1, h2⟩ := h
  obtain ⟨ha, _, _⟩ := Value.slice.inj h1
  obtain ⟨ad, e, hS, k0, k1⟩ := h2 i hi
  obtain ⟨ad0, e0, _, z0, _⟩ := h2 0 (by omega)
  rw [e] at e0
  cases e0
  have ez : ad.add (0 * 2) = ad := by unfold Addr.add; simp
  rw [ez] at z0
  have ead := addr_plain z0
  rw [ead, add_lit] at k0 k1
  exact ⟨ad.block, ad.off, by rw [ha, e]; exact congrArg some ead, hS, k0, by rw [Nat.add_assoc]; exact k1⟩

theorem over_reader {w w' : World} {b g o P : Nat} {st : Option (List UInt8)} (h : ReaderAt w b g o st) (ho : Only (fun k => k = g) w w') (hr : ∀ o' v rest, P ≤ o' → RestAt w g o' v rest → RestAt w' g o' v rest) (hP : P ≤ o) (hb : b ≠ g) : ReaderAt w' b g o st := by
  cases st with
  | none => exact Blk.keep h ho hb
  | some r =>
    obtain ⟨v, h1, h2⟩ := h
    exact ⟨v, h1.keep ho hb, hr o v r hP h2⟩

/-- A place for the rest of an empty row, apart from all. -/
theorem far_of {Z b g b4 g4 : Nat} {bs : List UInt8} {w1 : World} {v v4 : Value} (hb : Z ≤ b) (hb4 : Z ≤ b4) (hbb : b ≠ b4) (h : RestAt w1 g 0 v bs) (h4 : RestAt w1 g4 0 v4 bs) (hf : bs ≠ [] → Z ≤ g ∧ Z ≤ g4 ∧ b ≠ g ∧ b ≠ g4 ∧ g ≠ b4 ∧ g ≠ g4 ∧ g4 ≠ b4) : ∃ g' g4', Far Z b g' b4 g4' ∧ RestAt w1 g' 0 v bs ∧ RestAt w1 g4' 0 v4 bs := by
  by_cases hne : bs = []
  · subst hne
    refine ⟨b + b4 + 1, b + b4 + 2, ⟨hb, by omega, hb4, by omega, by omega, hbb, by omega, by omega, by omega, by omega⟩, ?_, ?_⟩
    · obtain ⟨a, c, h1, h2, h3, _⟩ := h; exact ⟨a, c, h1, h2, h3, fun h => absurd rfl h⟩
    · obtain ⟨a, c, h1, h2, h3, _⟩ := h4; exact ⟨a, c, h1, h2, h3, fun h => absurd rfl h⟩
  · obtain ⟨q1, q2, q3, q4, q5, q6, q7⟩ := hf hne
    exact ⟨g, g4, ⟨hb, q1, hb4, q2, q3, hbb, q4, q5, q6, q7⟩, h, h4⟩

set_option maxRecDepth 100000 in
set_option maxHeartbeats 8000000 in
theorem wireReads_any {w : World} {S' : Nat → Prop} {bv : Value} {bs : List UInt8} (hb : BytesAt w S' bv bs) (hS' : ∀ k, S' k → k < w.heap.size) (_hbl : bs.length ≤ 140737488351232) {S : Nat → Prop} {v : Value} {l : List OpD} (hv : OpsAt w S v l) (hS : ∀ k, S k → k < w.heap.size) :
    Calls Try.prog 7 #[bv, v] w fun e w' => e = .returned (.bool true) ∧ Only (fun _ => False) w w' := by
  obtain ⟨ba, bc, rfl⟩ := hb.shape
  obtain ⟨va, vc, rfl, -⟩ := id hv
  have HV := Lib.hid hv; have HS := Lib.hid hS; have HB := Lib.hid hb; have HS2 := Lib.hid hS'
  clear hv hS hb hS' _hbl
  by_cases hbl : (bs.length : Int) > 65536
  · go_enter Try.func7, Try.ntmps7
    go_wp2_with (go_at_call 10; refine alive_any.mono ?_; rintro e w1 ⟨rfl, ho1⟩; have HO1 := Lib.hid ho1; clear ho1)
    go_ret
    exact ⟨rfl, HO1.out⟩
  by_cases hll : (l.length : Int) > 300
  · go_enter Try.func7, Try.ntmps7
    go_wp2_with (go_at_call 10; refine alive_any.mono ?_; rintro e w1 ⟨rfl, ho1⟩; have HO1 := Lib.hid ho1; clear ho1)
    go_ret
    exact ⟨rfl, HO1.out⟩
  have hb6 : bs.length ≤ 65536 := by omega
  have HB6 := Lib.hid hb6
  clear hb6
  go_enter Try.func7, Try.ntmps7
  go_wp2_with fail
  refine alive_any.mono ?_
  rintro e w1 ⟨rfl, ho1⟩
  have HO1 := Lib.hid ho1
  clear ho1
  go_wp2_with fail
  refine (copy_any (HB.out.here HO1.out HS2.out) (fun _ h => h) (by have := HB6.out; omega)).mono ?_
  rintro e w2 ⟨gc, cc, rfl, hc2, hgc, ho2⟩
  have HC2 := Lib.hid hc2; have HO2 := Lib.hid (HO1.out.trans ho2)
  have HGC : Hid (w.heap.size ≤ gc) := Nat.le_trans HO1.out.size hgc
  clear hc2 hgc ho2
  go_wp2_with fail
  refine (new_reader HC2.out.bytes (fun k e => by subst e; exact HC2.out.lt) (by have := HB6.out; omega)).mono ?_
  rintro e w3 ⟨b, g, rfl, hr3, hb3, hg3, ho3⟩
  have HR3 := Lib.hid hr3; have HO3 := Lib.hid (HO2.out.trans ho3); have HC3 := Lib.hid (HC2.out.only ho3 (fun x => x))
  have HB3 := Lib.hid hb3; have HG3 := Lib.hid hg3
  have HCL := Lib.hid HC2.out.lt
  clear hr3 hb3 hg3 ho3
  have HE3 := Lib.hid (Row.empty4 w3)
  have HSA := Lib.hid ((HB.out.here HO3.out HS2.out).here (Only.alloc (.cells #[] 5)) (fun _ h => h))
  go_wp2_with (at_builtin; refine wpList_append_bytes _ rfl _ _ rfl (.slice (some ⟨w3.heap.size, 0, none⟩) 0 0) (.slice ba bs.length bc) 0 [] rfl rfl HE3.out.row HSA.out (by have := HB6.out; omega) ?_; intro a4 c4 w4 hr4 hg4 hat4; rw [Nat.zero_add] at hr4 hat4; rw [Nat.zero_add]; have HR4 := Lib.hid (HE3.out.app (y := bs) (Only.refl _ _) (by simp) hr4 hg4 hat4); clear hr4 hg4 hat4)
  have HC4 := Lib.hid ((HC3.out.only HR4.out.only (fun x => x)).only (Only.alloc (.cells #[.slice a4 bs.length c4, .bool false] 65)) (fun x => x))
  have hset : ∃ g' g4, Far w2.heap.size b g' w4.heap.size g4 ∧ Rds w (w4.alloc (.cells #[.slice a4 bs.length c4, .bool false] 65)) b g' w4.heap.size g4 (some bs) := by
    obtain ⟨g4, hg4, hrest4⟩ := HR4.out.rest
    have hoA : Only (fun _ => False) w4 (w4.alloc (.cells #[.slice a4 bs.length c4, .bool false] 65)) := Only.alloc _
    have ho34 := HR4.out.only
    have hbl3 := HR3.out.lt
    have hz4 := ho34.size
    have hb3 := HB3.out
    obtain ⟨vr, hbk, hrest⟩ := HR3.out
    have hrest' := (hrest.only ho34 (fun x => x)).only hoA (fun x => x)
    have hrest4' := hrest4.only hoA (fun x => x)
    have hgty : bs ≠ [] → g < w3.heap.size ∧ b ≠ g := fun hne => by
      obtain ⟨_, _, _, _, _, hx⟩ := hrest
      obtain ⟨_, cur, hh, _⟩ := hx hne
      refine ⟨lt_of_heap hh, ?_⟩
      rintro rfl
      rw [hbk.heap] at hh
      injection hh with hh
      injection hh with _ hh
      cases hh
    obtain ⟨g', g4', hfar, q1, q2⟩ := far_of (Z := w2.heap.size) (b := b) (b4 := w4.heap.size) (by omega) (by omega) (by omega) hrest' hrest4' (fun hne => by
      have e1 := HG3.out hne; have e2 := hgty hne; have e3 := hg4 hne
      exact ⟨by omega, by omega, e2.2, by omega, by omega, by omega, by omega⟩)
    exact ⟨g', g4', hfar, ⟨⟨0, vr, (hbk.keep ho34 (fun x => x)).keep hoA (fun x => x), q1⟩, ⟨0, _, Blk.new w4 [.slice a4 bs.length c4, .bool false] 65, q2⟩, (HO3.out.trans ho34).trans hoA⟩⟩
  obtain ⟨g', g4, hfar, hrds⟩ := hset
  have HFAR := Lib.hid hfar; have HRDS := Lib.hid hrds
  have HKP := Lib.hid (kept_any HC4.out (HB.out.here hrds.only HS2.out) (by have := HB6.out; omega))
  have HZ : Hid (w.heap.size ≤ w2.heap.size) := HO2.out.size
  clear hfar hrds HR4 HE3 HSA HR3 HC3 HC2 HB3 HG3 HO1 HO2 HO3
  generalize hb4 : w4.heap.size = b4 at *
  generalize w4.alloc (.cells #[.slice a4 bs.length c4, .bool false] 65) = w5 at *
  clear hb4
  go_wp2_with fail
  refine HKP.out.mono ?_
  rintro e w6 ⟨rfl, rfl⟩
  go_wp2_with fail
  refine (over_any HC4.out.blk (by have := HB6.out; omega)).mono ?_
  rintro e w7 ⟨rfl, ho7⟩
  have HR7 : Hid (Rds w w7 b g' b4 g4 (some bs)) := by
    obtain ⟨⟨o, h1⟩, ⟨o4, h2⟩, h3⟩ := HRDS.out
    have hf := HFAR.out
    have hgl := HCL.out
    have hz := HZ.out
    exact ⟨⟨o, h1.keep ho7 (by have := hf.lb; omega) (by have := hf.lg; omega)⟩, ⟨o4, h2.keep ho7 (by have := hf.lb4; omega) (by have := hf.lg4; omega)⟩, h3.andThen ho7 (fun k hk e => by have := HGC.out; omega)⟩
  clear ho7 HRDS HKP HC4
  go_wp2_with fail
  go_loopw [44] (fun iv wr => ∃ (i : Nat) (st : Option (List UInt8)), i ≤ l.length ∧ iv = .int .i64 i ∧ Rds w wr b g' b4 g4 st ∧ leftOf st ≤ 65536) (fun iv _ => l.length - (intOf iv).toNat)
  case atStart => exact ⟨0, some bs, Nat.zero_le _, rfl, HR7.out, HB6.out⟩
  case round =>
    obtain ⟨i, st, hi, rfl, hr, hls⟩ := hrel
    clear HR7
    by_cases hlt : i < l.length
    · obtain ⟨og, oo, rfl, hSg, k0, k1⟩ := (HV.out.only hr.only HS.out (fun _ _ x => x)).at_ hlt
      generalize l[i].kind = kd at *
      generalize l[i].n = nn at *
      have hX := Blk.new wr [.int .i64 kd, .int .i64 nn] 68
      have x0 : (wr.alloc (.cells #[.int .i64 kd, .int .i64 nn] 68)).cell? ⟨wr.heap.size, 0, none⟩ = some (.int .i64 kd) := hX.cell 0
      have x1 : (wr.alloc (.cells #[.int .i64 kd, .int .i64 nn] 68)).cell? ⟨wr.heap.size, 1, none⟩ = some (.int .i64 nn) := hX.cell 1
      have HX := Lib.hid hX
      have HBXP : Hid (b4 < wr.heap.size ∧ b < wr.heap.size) := ⟨hr.r4.choose_spec.lt, hr.rd.choose_spec.lt⟩
      have HRX := Lib.hid (hr.keep (Only.alloc (.cells #[.int .i64 kd, .int .i64 nn] 68)))
      have pz : 0 ≤ (i : Int) := by omega
      have mz : (i : Int) < (l.length : Int) := by omega
      have HLS : Hid (leftOf st ≤ 1048576) := by unfold Hid; omega
      have HL6 := Lib.hid hls
      clear hr hX hSg hls
      by_cases hk0 : kd = 0
      · subst hk0
        obtain ⟨xx, st', hle, hp, h4⟩ := var_rd st HLS.out
        have HP := Lib.hid hp; have H4 := Lib.hid h4
        have HLZ : Hid (leftOf st' ≤ 65536) := Nat.le_trans hle HL6.out
        clear hp h4 hle
        go_wp2_with fail
        generalize wr.alloc (.cells #[.int .i64 0, .int .i64 nn] 68) = wx at *
        obtain ⟨⟨o1, hx1⟩, ⟨o4, hx4⟩, hxo⟩ := id HRX.out
        have HX4 := Lib.hid hx4; have HXO := Lib.hid hxo
        refine (HP.out _ _ _ _ hx1).mono ?_
        clear hx1 hx4 hxo
        rintro e w8 ⟨rfl, ⟨o8, h8⟩, ho8⟩
        have H8 := Lib.hid h8; have HO8 := Lib.hid ho8
        clear h8 ho8
        go_wp2_with fail
        refine (H4.out _ _ _ _ (HX4.out.keep HO8.out (fun e => HFAR.out.bb e.symm) (fun e => HFAR.out.bh e.symm))).mono ?_
        rintro e wz ⟨rfl, ⟨o9, h9⟩, ho9⟩
        have HRZ : Hid (Rds w wz b g' b4 g4 st') := ⟨⟨_, H8.out.keep ho9 HFAR.out.bb HFAR.out.gb⟩, ⟨_, h9⟩, (HXO.out.andThen HO8.out (fun k hk e => by have := HFAR.out.lb; have := HZ.out; omega)).andThen ho9 (fun k hk e => by have := HFAR.out.lb4; have := HZ.out; omega)⟩
        clear h9 ho9 H8 HO8 HX4 HXO HRX HP H4 x0 x1 k0 k1 HX
        go_wp2_with fail
        cases st' with
        | none =>
          obtain ⟨⟨ov, hv1⟩, ⟨o4, hv4⟩, hvo⟩ := id HRZ.out
          have HQL := Lib.hid (left_quiet hv1); have HQE := Lib.hid (err_quiet hv1); have HQD := Lib.hid (done_quiet hv1 (by show 0 ≤ _; omega))
          rw [show leftOf none = 0 from rfl] at HQL
          rw [show doneE none = .iface 75 (.int .i64 9) by simp [doneE]] at HQD
          unfold rdE at HQE
          have y0 : wz.cell? ⟨b4, 0, none⟩ = some (.slice none 0 0) := by rw [Blk.cell hv4]; rfl
          have y1 : wz.cell? ⟨b4, 1, none⟩ = some (.bool true) := by rw [Blk.cell hv4]; rfl
          clear hv1 hv4 hvo
          go_quiet ((first | (go_at_call 16; with_reducible exact Calls.quiet_of (num9 _ _)) | (go_at_call 42; with_reducible exact Calls.quiet_of (HQL.out _)) | (go_at_call 43; with_reducible exact Calls.quiet_of (HQE.out _)) | (go_at_call 44; with_reducible exact Calls.quiet_of (HQD.out _))))
          go_wp2_with fail
          exact ⟨⟨i + 1, none, by omega, by go_num, HRZ.out.drewN nq, by show 0 ≤ _; omega⟩, by simp [intOf]; omega⟩
        | some r =>
          obtain ⟨⟨ov, hv1⟩, ⟨o4, hv4⟩, hvo⟩ := id HRZ.out
          have hrl : r.length ≤ 65536 := HLZ.out
          have HQL := Lib.hid (left_quiet hv1); have HQE := Lib.hid (err_quiet hv1); have HQD := Lib.hid (done_quiet hv1 (by show r.length ≤ _; omega))
          rw [show leftOf (some r) = r.length from rfl] at HQL
          unfold rdE at HQE
          obtain ⟨ya, yc, y0, -⟩ := hv4.left
          rw [show leftOf (some r) = r.length from rfl] at y0
          have y1 : wz.cell? ⟨b4, 1, none⟩ = some (.bool false) := hv4.flag
          have HRL := Lib.hid hrl
          clear hv1 hv4 hvo hrl
          by_cases hre : r = []
          · subst hre
            rw [show doneE (some []) = .nilIface by simp [doneE]] at HQD
            simp only [List.length_nil] at HQL y0
            go_quiet ((first | (go_at_call 42; with_reducible exact Calls.quiet_of (HQL.out _)) | (go_at_call 43; with_reducible exact Calls.quiet_of (HQE.out _)) | (go_at_call 44; with_reducible exact Calls.quiet_of (HQD.out _))))
            go_wp2_with fail
            exact ⟨⟨i + 1, some [], by omega, by go_num, HRZ.out.drewN nq, by show 0 ≤ _; omega⟩, by simp [intOf]; omega⟩
          · rw [show doneE (some r) = .iface 75 (.int .i64 9) by simp [doneE, hre]] at HQD
            have hr0 : ((r.length : Int) == 0) = false := by have := List.length_pos_iff.2 hre; simp; exact hre
            clear hre
            go_quiet ((first | (go_at_call 42; with_reducible exact Calls.quiet_of (HQL.out _)) | (go_at_call 43; with_reducible exact Calls.quiet_of (HQE.out _)) | (go_at_call 44; with_reducible exact Calls.quiet_of (HQD.out _))))
            go_wp2_with fail
            exact ⟨⟨i + 1, some r, by omega, by go_num, HRZ.out.drewN nq, HRL.out⟩, by simp [intOf]; omega⟩
      by_cases hk1 : kd = 1
      · subst hk1
        obtain ⟨xx, st', hle, hp, h4⟩ := num_rd st HLS.out
        have HP := Lib.hid hp; have H4 := Lib.hid h4
        have HLZ : Hid (leftOf st' ≤ 65536) := Nat.le_trans hle HL6.out
        clear hp h4 hle
        go_wp2_with fail
        generalize wr.alloc (.cells #[.int .i64 1, .int .i64 nn] 68) = wx at *
        obtain ⟨⟨o1, hx1⟩, ⟨o4, hx4⟩, hxo⟩ := id HRX.out
        have HX4 := Lib.hid hx4; have HXO := Lib.hid hxo
        refine (HP.out _ _ _ _ hx1).mono ?_
        clear hx1 hx4 hxo
        rintro e w8 ⟨rfl, ⟨o8, h8⟩, ho8⟩
        have H8 := Lib.hid h8; have HO8 := Lib.hid ho8
        clear h8 ho8
        go_wp2_with fail
        refine (H4.out _ _ _ _ (HX4.out.keep HO8.out (fun e => HFAR.out.bb e.symm) (fun e => HFAR.out.bh e.symm))).mono ?_
        rintro e wz ⟨rfl, ⟨o9, h9⟩, ho9⟩
        have HRZ : Hid (Rds w wz b g' b4 g4 st') := ⟨⟨_, H8.out.keep ho9 HFAR.out.bb HFAR.out.gb⟩, ⟨_, h9⟩, (HXO.out.andThen HO8.out (fun k hk e => by have := HFAR.out.lb; have := HZ.out; omega)).andThen ho9 (fun k hk e => by have := HFAR.out.lb4; have := HZ.out; omega)⟩
        clear h9 ho9 H8 HO8 HX4 HXO HRX HP H4 x0 x1 k0 k1 HX
        go_wp2_with fail
        cases st' with
        | none =>
          obtain ⟨⟨ov, hv1⟩, ⟨o4, hv4⟩, hvo⟩ := id HRZ.out
          have HQL := Lib.hid (left_quiet hv1); have HQE := Lib.hid (err_quiet hv1); have HQD := Lib.hid (done_quiet hv1 (by show 0 ≤ _; omega))
          rw [show leftOf none = 0 from rfl] at HQL
          rw [show doneE none = .iface 75 (.int .i64 9) by simp [doneE]] at HQD
          unfold rdE at HQE
          have y0 : wz.cell? ⟨b4, 0, none⟩ = some (.slice none 0 0) := by rw [Blk.cell hv4]; rfl
          have y1 : wz.cell? ⟨b4, 1, none⟩ = some (.bool true) := by rw [Blk.cell hv4]; rfl
          clear hv1 hv4 hvo
          go_quiet ((first | (go_at_call 16; with_reducible exact Calls.quiet_of (num9 _ _)) | (go_at_call 42; with_reducible exact Calls.quiet_of (HQL.out _)) | (go_at_call 43; with_reducible exact Calls.quiet_of (HQE.out _)) | (go_at_call 44; with_reducible exact Calls.quiet_of (HQD.out _))))
          go_wp2_with fail
          exact ⟨⟨i + 1, none, by omega, by go_num, HRZ.out.drewN nq, by show 0 ≤ _; omega⟩, by simp [intOf]; omega⟩
        | some r =>
          obtain ⟨⟨ov, hv1⟩, ⟨o4, hv4⟩, hvo⟩ := id HRZ.out
          have hrl : r.length ≤ 65536 := HLZ.out
          have HQL := Lib.hid (left_quiet hv1); have HQE := Lib.hid (err_quiet hv1); have HQD := Lib.hid (done_quiet hv1 (by show r.length ≤ _; omega))
          rw [show leftOf (some r) = r.length from rfl] at HQL
          unfold rdE at HQE
          obtain ⟨ya, yc, y0, -⟩ := hv4.left
          rw [show leftOf (some r) = r.length from rfl] at y0
          have y1 : wz.cell? ⟨b4, 1, none⟩ = some (.bool false) := hv4.flag
          have HRL := Lib.hid hrl
          clear hv1 hv4 hvo hrl
          by_cases hre : r = []
          · subst hre
            rw [show doneE (some []) = .nilIface by simp [doneE]] at HQD
            simp only [List.length_nil] at HQL y0
            go_quiet ((first | (go_at_call 42; with_reducible exact Calls.quiet_of (HQL.out _)) | (go_at_call 43; with_reducible exact Calls.quiet_of (HQE.out _)) | (go_at_call 44; with_reducible exact Calls.quiet_of (HQD.out _))))
            go_wp2_with fail
            exact ⟨⟨i + 1, some [], by omega, by go_num, HRZ.out.drewN nq, by show 0 ≤ _; omega⟩, by simp [intOf]; omega⟩
          · rw [show doneE (some r) = .iface 75 (.int .i64 9) by simp [doneE, hre]] at HQD
            have hr0 : ((r.length : Int) == 0) = false := by have := List.length_pos_iff.2 hre; simp; exact hre
            clear hre
            go_quiet ((first | (go_at_call 42; with_reducible exact Calls.quiet_of (HQL.out _)) | (go_at_call 43; with_reducible exact Calls.quiet_of (HQE.out _)) | (go_at_call 44; with_reducible exact Calls.quiet_of (HQD.out _))))
            go_wp2_with fail
            exact ⟨⟨i + 1, some r, by omega, by go_num, HRZ.out.drewN nq, HRL.out⟩, by simp [intOf]; omega⟩
      have HBX : Hid (b4 < wr.heap.size ∧ b < wr.heap.size) := HBXP.out
      by_cases hk2 : kd = 2
      · subst hk2
        obtain ⟨F, st', hle, hFl, hp, h4⟩ := field_rd st HLS.out
        have HP := Lib.hid hp; have H4 := Lib.hid h4
        have HLZ : Hid (leftOf st' ≤ 65536) := Nat.le_trans hle HL6.out
        clear hp h4 hle
        go_wp2_with fail
        generalize wr.alloc (.cells #[.int .i64 2, .int .i64 nn] 68) = wx at *
        obtain ⟨⟨o1, hx1⟩, ⟨o4, hx4⟩, hxo⟩ := id HRX.out
        have HX4 := Lib.hid hx4; have HXO := Lib.hid hxo
        refine (HP.out _ _ _ _ hx1).mono ?_
        clear hx1 hx4 hxo
        rintro e w8 ⟨fa, fc, op, o8, rfl, hf8, hpos, h8, ho8⟩
        have H8 := Lib.hid h8; have HO8 := Lib.hid ho8; have HF8 := Lib.hid hf8; have HPOS := Lib.hid hpos
        have HR48 := Lib.hid (HX4.out.keep ho8 (fun e => HFAR.out.bb e.symm) (fun e => HFAR.out.bh e.symm))
        have hcon : ∀ W, Only (fun k => k = b4) w8 W → (convert 22 9 (.slice fa F.length fc)).run Try.prog W = .ok (.string ⟨F.toArray⟩) W := fun W h => (HF8.out.only h HFAR.out.gb).bytes.text
        clear hf8 hpos h8 ho8 HX4
        go_wp2_with fail
        refine wp_region_held_drew (S := fun W => Only (fun k => k = b4) w8 W) (by kernel_rfl) (Only.drew.mono (fun _ _ x => x.elim)) (fun hHeld => ?_)
        refine wpAnyH_take (i := 0) (v := .slice fa F.length fc) rfl (by kernel_rfl) (by kernel_rfl) (by kernel_rfl) (fun _ _ _ h => h) (Or.inl ⟨by rfl, fun W hSw => by go_simp⟩) hHeld ?_
        simp only [Act.put, List.getElem_toArray, List.getElem_cons_zero, List.setIfInBounds_toArray, List.set_cons_zero, List.set_cons_succ]
        refine wpAnyH_take (i := 1) (v := .string ⟨F.toArray⟩) rfl (by kernel_rfl) (by kernel_rfl) (by kernel_rfl) (fun _ _ _ h => h) (Or.inl ⟨by rfl, fun W hSw => by go_simp⟩) hHeld ?_
        simp only [Act.put, List.getElem_toArray, List.getElem_cons_succ, List.getElem_cons_zero, List.setIfInBounds_toArray, List.set_cons_zero, List.set_cons_succ]
        refine wpAnyH_take (i := 2) (v := .pointer (some ⟨b4, 0, none⟩)) rfl (by kernel_rfl) (by kernel_rfl) (by kernel_rfl) (fun _ _ _ h => h) (Or.inl ⟨by rfl, fun W hSw => by go_simp⟩) hHeld ?_
        simp only [Act.put, List.getElem_toArray, List.getElem_cons_succ, List.getElem_cons_zero, List.setIfInBounds_toArray, List.set_cons_zero, List.set_cons_succ]
        refine wpAnyH_ready (rs := [3]) (by kernel_rfl) (by simp) (AllReadyH.cons rfl (fun K hK => ?_) AllReadyH.nil)
        go_simp
        refine (H4.out _ _ _ _ (HR48.out.keep (Only.drew (w := w8)) (fun x => x) (fun x => x))).mono ?_
        rintro e w9 ⟨ra, rc, rfl, hb9, ⟨o9, h9⟩, ho9⟩
        have hoz : Only (fun k => k = b4) w8 w9 := (Only.drew.mono (fun _ _ x => x.elim)).trans ho9
        have ht9 := hb9.text
        have H9 := Lib.hid h9
        clear hb9 h9 ho9
        refine hK.out _ _ hoz (fun hHeld => ?_)
        clear hK K
        try simp only [Act.put, List.getElem_toArray, List.getElem_cons_succ, List.getElem_cons_zero, List.setIfInBounds_toArray, List.set_cons_zero, List.set_cons_succ]
        refine wpAnyH_ready (rs := [4]) (by kernel_rfl) (by simp) (AllReadyH.cons rfl (fun K hK => ?_) AllReadyH.nil)
        go_simp
        refine hK.out _ _ hHeld (fun hHeld => ?_)
        clear hK K
        try simp only [Act.put, List.getElem_toArray, List.getElem_cons_succ, List.getElem_cons_zero, List.setIfInBounds_toArray, List.set_cons_zero, List.set_cons_succ]
        refine wpAnyH_take (i := 5) (v := .bool true) rfl (by kernel_rfl) (by kernel_rfl) (by kernel_rfl) (fun _ _ _ h => h) (Or.inl ⟨by rfl, fun W hSw => by go_simp⟩) hHeld ?_
        simp only [Act.put, List.getElem_toArray, List.getElem_cons_succ, List.getElem_cons_zero, List.setIfInBounds_toArray, List.set_cons_zero, List.set_cons_succ]
        refine wpAnyH_take (i := 6) (v := .bool true) rfl (by kernel_rfl) (by kernel_rfl) (by kernel_rfl) (fun _ _ _ h => h) (Or.inl ⟨by rfl, fun W hSw => by go_simp⟩) hHeld ?_
        simp only [Act.put, List.getElem_toArray, List.getElem_cons_succ, List.getElem_cons_zero, List.setIfInBounds_toArray, List.set_cons_zero, List.set_cons_succ]
        refine wpAnyH_done (by kernel_rfl) ?_ _
        have HOV := Lib.hid (over_piece (HF8.out.only hoz HFAR.out.gb) hFl)
        have HRO : Hid (∀ wz, Only (fun k => k = g') w9 wz → (∀ o' v rest, op + F.length ≤ o' → RestAt w9 g' o' v rest → RestAt wz g' o' v rest) → Rds w wz b g' b4 g4 st') := fun wz hz1 hz2 =>
          ⟨⟨_, over_reader (H8.out.keep hoz HFAR.out.bb HFAR.out.gb) hz1 hz2 HPOS.out HFAR.out.bg⟩, ⟨_, H9.out.keep hz1 (fun e => HFAR.out.gb e.symm) (fun e => HFAR.out.gh e.symm)⟩, ((HXO.out.andThen HO8.out (fun k hk e => by have := HFAR.out.lb; have := HZ.out; omega)).andThen hoz (fun k hk e => by have := HFAR.out.lb4; have := HZ.out; omega)).andThen hz1 (fun k hk e => by have := HFAR.out.lg; have := HZ.out; omega)⟩
        clear hcon hoz ht9 hHeld H9 H8 HO8 HF8 HR48 HPOS HXO HRX HP H4 x0 x1 k0 k1 HX
        go_wp2_with fail
        refine HOV.out.mono ?_
        rintro e wz ⟨rfl, hz1, hz2⟩
        have HRZ := Lib.hid (HRO.out wz hz1 hz2)
        clear hz1 hz2 HOV HRO
        go_wp2_with fail
        cases st' with
        | none =>
          obtain ⟨⟨ov, hv1⟩, ⟨o4, hv4⟩, hvo⟩ := id HRZ.out
          have HQL := Lib.hid (left_quiet hv1); have HQE := Lib.hid (err_quiet hv1); have HQD := Lib.hid (done_quiet hv1 (by show 0 ≤ _; omega))
          rw [show leftOf none = 0 from rfl] at HQL
          rw [show doneE none = .iface 75 (.int .i64 9) by simp [doneE]] at HQD
          unfold rdE at HQE
          have y0 : wz.cell? ⟨b4, 0, none⟩ = some (.slice none 0 0) := by rw [Blk.cell hv4]; rfl
          have y1 : wz.cell? ⟨b4, 1, none⟩ = some (.bool true) := by rw [Blk.cell hv4]; rfl
          clear hv1 hv4 hvo
          go_quiet ((first | (go_at_call 16; with_reducible exact Calls.quiet_of (num9 _ _)) | (go_at_call 42; with_reducible exact Calls.quiet_of (HQL.out _)) | (go_at_call 43; with_reducible exact Calls.quiet_of (HQE.out _)) | (go_at_call 44; with_reducible exact Calls.quiet_of (HQD.out _))))
          go_wp2_with fail
          exact ⟨⟨i + 1, none, by omega, by go_num, HRZ.out.drewN nq, by show 0 ≤ _; omega⟩, by simp [intOf]; omega⟩
        | some r =>
          obtain ⟨⟨ov, hv1⟩, ⟨o4, hv4⟩, hvo⟩ := id HRZ.out
          have hrl : r.length ≤ 65536 := HLZ.out
          have HQL := Lib.hid (left_quiet hv1); have HQE := Lib.hid (err_quiet hv1); have HQD := Lib.hid (done_quiet hv1 (by show r.length ≤ _; omega))
          rw [show leftOf (some r) = r.length from rfl] at HQL
          unfold rdE at HQE
          obtain ⟨ya, yc, y0, -⟩ := hv4.left
          rw [show leftOf (some r) = r.length from rfl] at y0
          have y1 : wz.cell? ⟨b4, 1, none⟩ = some (.bool false) := hv4.flag
          have HRL := Lib.hid hrl
          clear hv1 hv4 hvo hrl
          by_cases hre : r = []
          · subst hre
            rw [show doneE (some []) = .nilIface by simp [doneE]] at HQD
            simp only [List.length_nil] at HQL y0
            go_quiet ((first | (go_at_call 42; with_reducible exact Calls.quiet_of (HQL.out _)) | (go_at_call 43; with_reducible exact Calls.quiet_of (HQE.out _)) | (go_at_call 44; with_reducible exact Calls.quiet_of (HQD.out _))))
            go_wp2_with fail
            exact ⟨⟨i + 1, some [], by omega, by go_num, HRZ.out.drewN nq, by show 0 ≤ _; omega⟩, by simp [intOf]; omega⟩
          · rw [show doneE (some r) = .iface 75 (.int .i64 9) by simp [doneE, hre]] at HQD
            have hr0 : ((r.length : Int) == 0) = false := by have := List.length_pos_iff.2 hre; simp; exact hre
            clear hre
            go_quiet ((first | (go_at_call 42; with_reducible exact Calls.quiet_of (HQL.out _)) | (go_at_call 43; with_reducible exact Calls.quiet_of (HQE.out _)) | (go_at_call 44; with_reducible exact Calls.quiet_of (HQD.out _))))
            go_wp2_with fail
            exact ⟨⟨i + 1, some r, by omega, by go_num, HRZ.out.drewN nq, HRL.out⟩, by simp [intOf]; omega⟩
      have kb0 : (kd == 0) = false := by simpa using hk0
      have kb1 : (kd == 1) = false := by simpa using hk1
      have kb2 : (kd == 2) = false := by simpa using hk2
      clear hk0 hk1 hk2
      obtain ⟨F, st', hle, hFl, hp, h4⟩ := raw_rd st HLS.out nn
      have HP := Lib.hid hp; have H4 := Lib.hid h4
      have HLZ : Hid (leftOf st' ≤ 65536) := Nat.le_trans hle HL6.out
      clear hp h4 hle
      go_wp2_with fail
      generalize wr.alloc (.cells #[.int .i64 kd, .int .i64 nn] 68) = wx at *
      obtain ⟨⟨o1, hx1⟩, ⟨o4, hx4⟩, hxo⟩ := id HRX.out
      have HX4 := Lib.hid hx4; have HXO := Lib.hid hxo
      refine (HP.out _ _ _ _ hx1).mono ?_
      clear hx1 hx4 hxo
      rintro e w8 ⟨fa, fc, op, o8, rfl, hf8, hpos, h8, ho8⟩
      have H8 := Lib.hid h8; have HO8 := Lib.hid ho8; have HF8 := Lib.hid hf8; have HPOS := Lib.hid hpos
      have HR48 := Lib.hid (HX4.out.keep ho8 (fun e => HFAR.out.bb e.symm) (fun e => HFAR.out.bh e.symm))
      have hcon : ∀ W, Only (fun k => k = b4) w8 W → (convert 22 9 (.slice fa F.length fc)).run Try.prog W = .ok (.string ⟨F.toArray⟩) W := fun W h => (HF8.out.only h HFAR.out.gb).bytes.text
      have hld : ∀ W, Only (fun k => k = b4) w8 W → W.cell? ⟨wr.heap.size, 1, none⟩ = some (.int .i64 nn) := fun W h => by
        have hb8 := HX.out.keep HO8.out (fun e => by have := HBX.out; omega)
        exact (hb8.keep h (fun e => by have := HBX.out; omega)).cell 1
      clear hf8 hpos h8 ho8 HX4
      go_wp2_with fail
      refine wp_region_held_drew (S := fun W => Only (fun k => k = b4) w8 W) (by kernel_rfl) (Only.drew.mono (fun _ _ x => x.elim)) (fun hHeld => ?_)
      refine wpAnyH_take (i := 0) (v := .slice fa F.length fc) rfl (by kernel_rfl) (by kernel_rfl) (by kernel_rfl) (fun _ _ _ h => h) (Or.inl ⟨by rfl, fun W hSw => by go_simp⟩) hHeld ?_
      simp only [Act.put, List.getElem_toArray, List.getElem_cons_zero, List.setIfInBounds_toArray, List.set_cons_zero, List.set_cons_succ]
      refine wpAnyH_take (i := 1) (v := .string ⟨F.toArray⟩) rfl (by kernel_rfl) (by kernel_rfl) (by kernel_rfl) (fun _ _ _ h => h) (Or.inl ⟨by rfl, fun W hSw => by go_simp⟩) hHeld ?_
      simp only [Act.put, List.getElem_toArray, List.getElem_cons_succ, List.getElem_cons_zero, List.setIfInBounds_toArray, List.set_cons_zero, List.set_cons_succ]
      refine wpAnyH_take (i := 2) (v := .pointer (some ⟨b4, 0, none⟩)) rfl (by kernel_rfl) (by kernel_rfl) (by kernel_rfl) (fun _ _ _ h => h) (Or.inl ⟨by rfl, fun W hSw => by go_simp⟩) hHeld ?_
      simp only [Act.put, List.getElem_toArray, List.getElem_cons_succ, List.getElem_cons_zero, List.setIfInBounds_toArray, List.set_cons_zero, List.set_cons_succ]
      refine wpAnyH_take (i := 3) (v := .pointer (some ⟨wr.heap.size, 1, none⟩)) rfl (by kernel_rfl) (by kernel_rfl) (by kernel_rfl) (fun _ _ _ h => h) (Or.inl ⟨by rfl, fun W hSw => by go_simp⟩) hHeld ?_
      simp only [Act.put, List.getElem_toArray, List.getElem_cons_succ, List.getElem_cons_zero, List.setIfInBounds_toArray, List.set_cons_zero, List.set_cons_succ]
      refine wpAnyH_take (i := 4) (v := .int .i64 nn) rfl (by kernel_rfl) (by kernel_rfl) (by kernel_rfl) (fun _ _ _ h => h) (Or.inl ⟨by rfl, fun W hSw => by go_simp⟩) hHeld ?_
      simp only [Act.put, List.getElem_toArray, List.getElem_cons_succ, List.getElem_cons_zero, List.setIfInBounds_toArray, List.set_cons_zero, List.set_cons_succ]
      refine wpAnyH_ready (rs := [5]) (by kernel_rfl) (by simp) (AllReadyH.cons rfl (fun K hK => ?_) AllReadyH.nil)
      go_simp
      refine (H4.out _ _ _ _ (HR48.out.keep (Only.drew (w := w8)) (fun x => x) (fun x => x))).mono ?_
      rintro e w9 ⟨ra, rc, rfl, hb9, ⟨o9, h9⟩, ho9⟩
      have hoz : Only (fun k => k = b4) w8 w9 := (Only.drew.mono (fun _ _ x => x.elim)).trans ho9
      have ht9 := hb9.text
      have H9 := Lib.hid h9
      clear hb9 h9 ho9
      refine hK.out _ _ hoz (fun hHeld => ?_)
      clear hK K
      try simp only [Act.put, List.getElem_toArray, List.getElem_cons_succ, List.getElem_cons_zero, List.setIfInBounds_toArray, List.set_cons_zero, List.set_cons_succ]
      refine wpAnyH_ready (rs := [6]) (by kernel_rfl) (by simp) (AllReadyH.cons rfl (fun K hK => ?_) AllReadyH.nil)
      go_simp
      refine hK.out _ _ hHeld (fun hHeld => ?_)
      clear hK K
      try simp only [Act.put, List.getElem_toArray, List.getElem_cons_succ, List.getElem_cons_zero, List.setIfInBounds_toArray, List.set_cons_zero, List.set_cons_succ]
      refine wpAnyH_take (i := 7) (v := .bool true) rfl (by kernel_rfl) (by kernel_rfl) (by kernel_rfl) (fun _ _ _ h => h) (Or.inl ⟨by rfl, fun W hSw => by go_simp⟩) hHeld ?_
      simp only [Act.put, List.getElem_toArray, List.getElem_cons_succ, List.getElem_cons_zero, List.setIfInBounds_toArray, List.set_cons_zero, List.set_cons_succ]
      refine wpAnyH_take (i := 8) (v := .bool true) rfl (by kernel_rfl) (by kernel_rfl) (by kernel_rfl) (fun _ _ _ h => h) (Or.inl ⟨by rfl, fun W hSw => by go_simp⟩) hHeld ?_
      simp only [Act.put, List.getElem_toArray, List.getElem_cons_succ, List.getElem_cons_zero, List.setIfInBounds_toArray, List.set_cons_zero, List.set_cons_succ]
      refine wpAnyH_done (by kernel_rfl) ?_ _
      have HOV := Lib.hid (over_piece (HF8.out.only hoz HFAR.out.gb) hFl)
      have HRO : Hid (∀ wz, Only (fun k => k = g') w9 wz → (∀ o' v rest, op + F.length ≤ o' → RestAt w9 g' o' v rest → RestAt wz g' o' v rest) → Rds w wz b g' b4 g4 st') := fun wz hz1 hz2 =>
        ⟨⟨_, over_reader (H8.out.keep hoz HFAR.out.bb HFAR.out.gb) hz1 hz2 HPOS.out HFAR.out.bg⟩, ⟨_, H9.out.keep hz1 (fun e => HFAR.out.gb e.symm) (fun e => HFAR.out.gh e.symm)⟩, ((HXO.out.andThen HO8.out (fun k hk e => by have := HFAR.out.lb; have := HZ.out; omega)).andThen hoz (fun k hk e => by have := HFAR.out.lb4; have := HZ.out; omega)).andThen hz1 (fun k hk e => by have := HFAR.out.lg; have := HZ.out; omega)⟩
      clear hcon hld hoz ht9 hHeld H9 H8 HO8 HF8 HR48 HPOS HXO HRX HP H4 x0 x1 k0 k1 HX
      go_wp2_with fail
      refine HOV.out.mono ?_
      rintro e wz ⟨rfl, hz1, hz2⟩
      have HRZ := Lib.hid (HRO.out wz hz1 hz2)
      clear hz1 hz2 HOV HRO
      go_wp2_with fail
      cases st' with
      | none =>
        obtain ⟨⟨ov, hv1⟩, ⟨o4, hv4⟩, hvo⟩ := id HRZ.out
        have HQL := Lib.hid (left_quiet hv1); have HQE := Lib.hid (err_quiet hv1); have HQD := Lib.hid (done_quiet hv1 (by show 0 ≤ _; omega))
        rw [show leftOf none = 0 from rfl] at HQL
        rw [show doneE none = .iface 75 (.int .i64 9) by simp [doneE]] at HQD
        unfold rdE at HQE
        have y0 : wz.cell? ⟨b4, 0, none⟩ = some (.slice none 0 0) := by rw [Blk.cell hv4]; rfl
        have y1 : wz.cell? ⟨b4, 1, none⟩ = some (.bool true) := by rw [Blk.cell hv4]; rfl
        clear hv1 hv4 hvo
        go_quiet ((first | (go_at_call 16; with_reducible exact Calls.quiet_of (num9 _ _)) | (go_at_call 42; with_reducible exact Calls.quiet_of (HQL.out _)) | (go_at_call 43; with_reducible exact Calls.quiet_of (HQE.out _)) | (go_at_call 44; with_reducible exact Calls.quiet_of (HQD.out _))))
        go_wp2_with fail
        exact ⟨⟨i + 1, none, by omega, by go_num, HRZ.out.drewN nq, by show 0 ≤ _; omega⟩, by simp [intOf]; omega⟩
      | some r =>
        obtain ⟨⟨ov, hv1⟩, ⟨o4, hv4⟩, hvo⟩ := id HRZ.out
        have hrl : r.length ≤ 65536 := HLZ.out
        have HQL := Lib.hid (left_quiet hv1); have HQE := Lib.hid (err_quiet hv1); have HQD := Lib.hid (done_quiet hv1 (by show r.length ≤ _; omega))
        rw [show leftOf (some r) = r.length from rfl] at HQL
        unfold rdE at HQE
        obtain ⟨ya, yc, y0, -⟩ := hv4.left
        rw [show leftOf (some r) = r.length from rfl] at y0
        have y1 : wz.cell? ⟨b4, 1, none⟩ = some (.bool false) := hv4.flag
        have HRL := Lib.hid hrl
        clear hv1 hv4 hvo hrl
        by_cases hre : r = []
        · subst hre
          rw [show doneE (some []) = .nilIface by simp [doneE]] at HQD
          simp only [List.length_nil] at HQL y0
          go_quiet ((first | (go_at_call 42; with_reducible exact Calls.quiet_of (HQL.out _)) | (go_at_call 43; with_reducible exact Calls.quiet_of (HQE.out _)) | (go_at_call 44; with_reducible exact Calls.quiet_of (HQD.out _))))
          go_wp2_with fail
          exact ⟨⟨i + 1, some [], by omega, by go_num, HRZ.out.drewN nq, by show 0 ≤ _; omega⟩, by simp [intOf]; omega⟩
        · rw [show doneE (some r) = .iface 75 (.int .i64 9) by simp [doneE, hre]] at HQD
          have hr0 : ((r.length : Int) == 0) = false := by have := List.length_pos_iff.2 hre; simp; exact hre
          clear hre
          go_quiet ((first | (go_at_call 42; with_reducible exact Calls.quiet_of (HQL.out _)) | (go_at_call 43; with_reducible exact Calls.quiet_of (HQE.out _)) | (go_at_call 44; with_reducible exact Calls.quiet_of (HQD.out _))))
          go_wp2_with fail
          exact ⟨⟨i + 1, some r, by omega, by go_num, HRZ.out.drewN nq, HRL.out⟩, by simp [intOf]; omega⟩
    · have HO := Lib.hid hr.only
      clear hr
      go_wp2_with fail
      go_ret
      exact ⟨rfl, HO.out⟩

end Go.Proofs.Ytnomgcbkaggmhaa
