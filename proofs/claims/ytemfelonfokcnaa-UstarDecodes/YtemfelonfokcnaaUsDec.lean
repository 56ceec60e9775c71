/- ustar.Decode. Conditions: rows within the reach. -/
import Derived.Test.YtemfelonfokcnaaUsSeem
import Derived.Test.YtemfelonfokcnaaUsEnc
import Derived.Laws.ResultCell
namespace Go.Proofs.Ytemfelonfokcnaa
open Go.RowKit

theorem bequal_any {w : World} {S T : Nat → Prop} {v u : Value} {x y : List UInt8} (hv : BytesAt w S v x) (hu : BytesAt w T u y) :
    Calls Try.prog 37 #[v, u] w fun e w' => e = .returned (.bool (x == y)) ∧ w' = w := by
  obtain ⟨a, c, rfl⟩ := hv.shape
  obtain ⟨b, d, rfl⟩ := hu.shape
  have t1 := hv.text
  have t2 := hu.text
  clear hv hu
  go_enter Try.func37, Try.ntmps37
  go_wp2
  go_ret
  exact ⟨rfl, rfl⟩

namespace Us
noncomputable def decH (b : By) : Hd := (dec b).getD hd0
noncomputable def decE (b : By) : Nat := if (dec b).isSome = true then 0 else 14
theorem dec_no {b : By} (h : dec b = none) : decH b = hd0 ∧ decE b = 14 := by
  unfold decH decE
  rw [h]
  exact ⟨rfl, rfl⟩
theorem dec_yes {b : By} {h : Hd} (hd : dec b = some h) : decH b = h ∧ decE b = 0 := by
  unfold decH decE
  rw [hd]
  exact ⟨rfl, rfl⟩
theorem join_len (q nm : By) : (join q nm).length ≤ q.length + 1 + nm.length := by
  unfold join
  split
  · omega
  · simp; omega
theorem fld_len (l : By) : (fld l).length ≤ l.length := (fld_at l).1
theorem cut_len (b : By) (o n : Nat) : (cut b o n).length ≤ n := by unfold cut; rw [List.length_take]; omega
theorem seemP_path (b : By) : (seemP b).path.size ≤ 140737488351232 := by
  have h1 := join_len (fld (cut b 345 155)) (fld (cut b 0 100))
  have h2 := fld_len (cut b 345 155); have h3 := fld_len (cut b 0 100)
  have h4 := cut_len b 345 155; have h5 := cut_len b 0 100
  have h6 : (seemP b).path.size = (join (fld (cut b 345 155)) (fld (cut b 0 100))).length := rfl
  omega
end Us

theorem blk_row {w : World} {g : Nat} {l : Us.By} {n : Nat} (hb : Blk w g (l.map byteV) 5) (hl : l.length = n) : BytesAt w (fun k => k = g) (.slice (some ⟨g, 0, none⟩) n n) l := by
  subst hl
  exact BytesAt.of_block (o := 0) (c := l.length) hb.heap (Nat.le_refl _) (fun j x hx => by rw [Nat.zero_add, List.getElem?_map, hx]; rfl)

theorem results_row_tmp {fn : Func} {p u : Tmp} {ty : TypeId} (h : fn.results = #[.cell p ty, .tmp u]) (tmps : Array Value) (w : World) (g : Nat) (cs : Array Value)
    (hp : tmps.getD p undef = .pointer (some ⟨g, 0, none⟩)) (hl : (loadVar ty ⟨g, 0, none⟩).run Try.prog w = .ok (.agg cs) w) :
    (results fn tmps).run Try.prog w = .ok (.tuple #[.agg cs, tmps.getD u undef]) w := by
  rw [results_cell_tmp h]
  have hp' : tmps[p]?.getD undef = .pointer (some ⟨g, 0, none⟩) := by simpa using hp
  simp [hp', asAddr, hl, Result.andThen]
theorem load_hd {w : World} {g : Nat} {h : Hd} {t : TypeId} (hb : Blk w g (hdL h) t) : (loadVar 23 ⟨g, 0, none⟩).run Try.prog w = .ok (hdV h) w :=
  run_loadVar_row w g t 23 (hdL h).toArray (0, 0) _ hb.heap Try.underlying23 rfl size_Header

theorem neq_err14 : ∀ w : World, (binOp .neq 27 (.iface 47 (.int .i64 14)) .nilIface).run Try.prog w = .ok (.bool true) w := fun w => by kernel_rfl
theorem neq_err0 : ∀ w : World, (binOp .neq 27 .nilIface .nilIface).run Try.prog w = .ok (.bool false) w := fun w => by kernel_rfl

set_option maxRecDepth 100000 in
set_option maxHeartbeats 4000000 in
theorem decode_any {w : World} {S : Nat → Prop} {v : Value} {bs : List UInt8} (hv : BytesAt w S v bs) (hS : ∀ k, S k → k < w.heap.size) (_hlen : bs.length ≤ 140737488351232) :
    Calls Try.prog 21 #[v] w fun e w' => e = .returned (.tuple #[hdV (Us.decH bs), errV (Us.decE bs)]) ∧ Quiet w w' := by
  obtain ⟨va, vc, rfl⟩ := hv.shape
  have HB0 : Hid (Blk (w.alloc (.cells (hdL hd0).toArray 23)) w.heap.size (hdL hd0) 23) := Blk.new w _ _
  have HQ0 : Hid (Quiet w (w.alloc (.cells (hdL hd0).toArray 23))) := Only.alloc _
  by_cases h5 : bs.length = 512
  · have HSE : Hid (∀ W, Quiet w W → Calls Try.prog 36 #[.slice va bs.length vc] W fun e w' => e = .returned (hdV (Us.seemP bs)) ∧ Quiet W w') := fun W ho => seeming_any (hv.only ho hS (fun _ _ x => x)) (fun k hk => Nat.lt_of_lt_of_le (hS k hk) ho.size) h5
    have HV : Hid (∀ W, Quiet w W → BytesAt W S (.slice va bs.length vc) bs) := fun W ho => hv.only ho hS (fun _ _ x => x)
    have hpath := Us.seemP_path bs
    have hsays : Us.Says bs (Us.seemP bs) ↔ Us.fits (Us.seemP bs) = true ∧ Us.enc (Us.seemP bs) = bs := Iff.rfl
    have hdec : ∀ H, Us.seemP bs = H → (Us.Says bs H → Us.dec bs = some H) ∧ (¬ Us.Says bs H → Us.dec bs = none) := fun H e => by
      subst e
      exact ⟨fun h => Us.dec_some.2 h, fun h => Us.dec_P h⟩
    obtain ⟨H, hH⟩ : ∃ H, Us.seemP bs = H := ⟨_, rfl⟩
    rw [hH] at HSE hpath hsays
    obtain ⟨dy, dn⟩ := hdec H hH
    clear hdec hH hv hS
    rw [h5] at HSE HV ⊢
    have HCELL : Hid (∀ (W : World), Blk (W.alloc (.cells (hdL H).toArray 23)) W.heap.size (hdL H) 23) := fun W => Blk.new W _ _
    cases hf : Us.fits H with
    | false =>
      obtain ⟨e1, e2⟩ := Us.dec_no (dn (fun h => by rw [h.1] at hf; cases hf))
      rw [e1, e2]
      have HE := Lib.hid (fun W => encode_no H hpath hf W)
      clear dy dn hsays hf hpath e1 e2
      obtain ⟨path, mode, uid, gid, size, time, type, link⟩ := H
      unfold hdV at HSE HE
      rw [errV_pos (by decide)] at HE
      have hne := neq_err14
      go_enter Try.func21, Try.ntmps21
      go_wp2_with (first
        | (go_at_call 36; refine (HSE.out _ HQ0.out).mono ?_; rintro e w1 ⟨rfl, hq⟩; have HQ1 := Lib.hid ((HQ0.out.trans hq).trans (Only.alloc (.cells (hdL ⟨path, mode, uid, gid, size, time, type, link⟩).toArray 23))); have HB1 := Lib.hid ((HB0.out.keep hq (fun x => x)).alloc (.cells (hdL ⟨path, mode, uid, gid, size, time, type, link⟩).toArray 23)); obtain ⟨c0, c1, c2, c3, c4, c5, c6, c7, fz⟩ := hd_cells (HCELL.out w1); clear hq)
        | (go_at_call 9; refine (HE.out _).mono ?_; rintro e w2 ⟨rfl, hq⟩; have HQ2 := Lib.hid (HQ1.out.trans hq); have HB2 := Lib.hid (HB1.out.keep hq (fun x => x)); obtain ⟨d0, d1, d2, d3, d4, d5, d6, d7, dz⟩ := hd_cells HB2.out; clear hq))
      obtain ⟨hfin, hof⟩ := Blk.puts_all (vs := hdL hd0) HB2.out rfl
      refine bodyPost_ret (v := .tuple #[hdV hd0, errV 14]) ?_ rfl ⟨rfl, HQ2.out.andThen hof (fun k hk e => by omega)⟩
      refine results_row_tmp (p := 2) (u := 3) (ty := 23) rfl _ _ w.heap.size _ ?_ (load_hd hfin)
      rfl
    | true =>
      have HE := Lib.hid (fun W => encode_ok H hpath hf W)
      have henl := Us.enc_len hf
      by_cases heq : Us.enc H = bs
      · obtain ⟨e1, e2⟩ := Us.dec_yes (dy (hsays.2 ⟨hf, heq⟩))
        rw [e1, e2]
        have HBE : Hid ((Us.enc H == bs) = true) := by unfold Hid; rw [heq]; simp
        have HLE := Lib.hid henl
        clear dy dn hsays hf hpath e1 e2 heq henl
        obtain ⟨E, hE⟩ : ∃ E, Us.enc H = E := ⟨_, rfl⟩
        rw [hE] at HE HBE HLE
        clear hE
        have hne := neq_err0
        obtain ⟨path, mode, uid, gid, size, time, type, link⟩ := H
        unfold hdV at HSE HE
        go_enter Try.func21, Try.ntmps21
        go_wp2_with (first
          | (go_at_call 36; refine (HSE.out _ HQ0.out).mono ?_; rintro e w1 ⟨rfl, hq⟩; have HQ1 := Lib.hid ((HQ0.out.trans hq).trans (Only.alloc (.cells (hdL ⟨path, mode, uid, gid, size, time, type, link⟩).toArray 23))); have HB1 := Lib.hid ((HB0.out.keep hq (fun x => x)).alloc (.cells (hdL ⟨path, mode, uid, gid, size, time, type, link⟩).toArray 23)); have HC1 := Lib.hid (HCELL.out w1); obtain ⟨c0, c1, c2, c3, c4, c5, c6, c7, fz⟩ := hd_cells HC1.out; clear hq)
          | (go_at_call 9; refine (HE.out _).mono ?_; rintro e w2 ⟨ge, rfl, hbe, hge, hq⟩; have HQ2 := Lib.hid (HQ1.out.trans hq); have HB2 := Lib.hid (HB1.out.keep hq (fun x => x)); obtain ⟨d0, d1, d2, d3, d4, d5, d6, d7, dz⟩ := hd_cells HB2.out; obtain ⟨g0, g1, g2, g3, g4, g5, g6, g7, gz⟩ := hd_cells (HC1.out.keep hq (fun x => x)); have HEQ := Lib.hid (bequal_any (blk_row hbe HLE.out) (HV.out _ HQ2.out)); rw [HBE.out] at HEQ; clear hq hbe hge)
          | (go_at_call 37; refine HEQ.out.mono ?_; rintro e w3 ⟨rfl, rfl⟩))
        obtain ⟨hfin, hof⟩ := Blk.puts_all (vs := hdL ⟨path, mode, uid, gid, size, time, type, link⟩) HB2.out rfl
        refine bodyPost_ret (v := .tuple #[hdV ⟨path, mode, uid, gid, size, time, type, link⟩, errV 0]) ?_ rfl ⟨rfl, HQ2.out.andThen hof (fun k hk e => by omega)⟩
        refine results_row_tmp (p := 2) (u := 3) (ty := 23) rfl _ _ w.heap.size _ ?_ (load_hd hfin)
        rfl
      · obtain ⟨e1, e2⟩ := Us.dec_no (dn (fun h => heq h.2))
        rw [e1, e2]
        have HBE : Hid ((Us.enc H == bs) = false) := by unfold Hid; rw [beq_eq_false_iff_ne]; exact heq
        have HLE := Lib.hid henl
        clear dy dn hsays hf hpath e1 e2 heq henl
        obtain ⟨E, hE⟩ : ∃ E, Us.enc H = E := ⟨_, rfl⟩
        rw [hE] at HE HBE HLE
        clear hE
        have hne := neq_err0
        obtain ⟨path, mode, uid, gid, size, time, type, link⟩ := H
        unfold hdV at HSE HE
        go_enter Try.func21, Try.ntmps21
        go_wp2_with (first
          | (go_at_call 36; refine (HSE.out _ HQ0.out).mono ?_; rintro e w1 ⟨rfl, hq⟩; have HQ1 := Lib.hid ((HQ0.out.trans hq).trans (Only.alloc (.cells (hdL ⟨path, mode, uid, gid, size, time, type, link⟩).toArray 23))); have HB1 := Lib.hid ((HB0.out.keep hq (fun x => x)).alloc (.cells (hdL ⟨path, mode, uid, gid, size, time, type, link⟩).toArray 23)); have HC1 := Lib.hid (HCELL.out w1); obtain ⟨c0, c1, c2, c3, c4, c5, c6, c7, fz⟩ := hd_cells HC1.out; clear hq)
          | (go_at_call 9; refine (HE.out _).mono ?_; rintro e w2 ⟨ge, rfl, hbe, hge, hq⟩; have HQ2 := Lib.hid (HQ1.out.trans hq); have HB2 := Lib.hid (HB1.out.keep hq (fun x => x)); obtain ⟨d0, d1, d2, d3, d4, d5, d6, d7, dz⟩ := hd_cells HB2.out; obtain ⟨g0, g1, g2, g3, g4, g5, g6, g7, gz⟩ := hd_cells (HC1.out.keep hq (fun x => x)); have HEQ := Lib.hid (bequal_any (blk_row hbe HLE.out) (HV.out _ HQ2.out)); rw [HBE.out] at HEQ; clear hq hbe hge)
          | (go_at_call 37; refine HEQ.out.mono ?_; rintro e w3 ⟨rfl, rfl⟩))
        obtain ⟨hfin, hof⟩ := Blk.puts_all (vs := hdL hd0) HB2.out rfl
        refine bodyPost_ret (v := .tuple #[hdV hd0, errV 14]) ?_ rfl ⟨rfl, HQ2.out.andThen hof (fun k hk e => by omega)⟩
        refine results_row_tmp (p := 2) (u := 3) (ty := 23) rfl _ _ w.heap.size _ ?_ (load_hd hfin)
        rfl
  · obtain ⟨e1, e2⟩ := Us.dec_no (Us.dec_P (fun h => h5 (Us.says_len h)))
    rw [e1, e2]
    have h6 : ¬ ((bs.length : Int) = 512) := by omega
    have HB := Lib.hid HB0.out
    obtain ⟨d0, d1, d2, d3, d4, d5, d6, d7, dz⟩ := hd_cells HB0.out
    clear hv hS e1 e2
    go_enter Try.func21, Try.ntmps21
    go_wp2
    refine bodyPost_ret (v := .tuple #[hdV hd0, errV 14]) ?_ rfl ⟨rfl, HQ0.out⟩
    refine results_row_tmp (p := 2) (u := 3) (ty := 23) rfl _ _ w.heap.size _ ?_ (load_hd HB.out)
    rfl

end Go.Proofs.Ytemfelonfokcnaa
