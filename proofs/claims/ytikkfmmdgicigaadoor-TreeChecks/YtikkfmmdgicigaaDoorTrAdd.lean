/- tree's add: a step of the check. Conditions: texts within the reach. -/
import Derived.Test.YtikkfmmdgicigaaDoorTrFits
namespace Go.Proofs.YtikkfmmdgicigaaDoor
open Go.RowKit

theorem CkAt.add {w : World} {B m : Nat} {pre : List Tr.En} {d : Tr.Km} {e : Tr.En} (hd : KmAt w m (Tr.kput d e.path e.kind)) (hl : d.length ≤ pre.length) (hk : ∀ p, (Tr.kget d p).getD 0 = Tr.kindIn pre p) (hn : Tr.named pre e.path = false)
    (hB : Blk w B [.map (some m), .string ⟨e.path.toArray⟩, .int .i64 (Tr.tot (pre ++ [e]) : Nat)] 70) (hne : B ≠ m) : CkAt w B m (pre ++ [e]) := by
  refine ⟨by rw [Tr.lastP_snoc]; exact hB, ⟨_, hd, ?_, fun p => ?_⟩, hne⟩
  · have := Tr.kput_le d e.path e.kind
    simp; omega
  · rw [Tr.kget_put, Tr.kindIn_append]
    split
    · rename_i h
      subst h
      rw [hn]
      simp [Tr.kindIn]
    · rename_i h
      rw [hk p]
      cases hp : Tr.named pre p
      · rw [Tr.kindIn_none hp]
        simp [Tr.kindIn, Ne.symm h]
      · rfl

theorem Tr.named_new {pre : List Tr.En} (h : Tr.Up pre) {p : List UInt8} (hc : Pt.cmp (Tr.lastP pre) p < 0) : Tr.named pre p = false := by
  rw [Tr.named_false]
  intro e he heq
  rw [← heq] at hc
  rcases Tr.up_last h he with h1 | h1
  · rw [← h1, Pt.cmp_zero.2 rfl] at hc
    omega
  · have := Tr.cmp_lt h1 hc
    rw [Pt.cmp_zero.2 rfl] at this
    omega

theorem errV_12 : errV 12 = .iface 36 (.int .i64 12) := rfl

set_option maxRecDepth 100000 in
set_option maxHeartbeats 4000000 in
theorem add_any {w : World} (hU : U8 w) {B m : Nat} {pre : List Tr.En} (h : CkAt w B m pre) (hup : Tr.Up pre) (hcnt : pre.length ≤ 1000000) (htot : Tr.tot pre ≤ 1048576) {x : Ve} (hx : BytesAt w (fun k => k < w.heap.size) x.1 x.2.data) (hp : x.2.path.length ≤ 1000000) (hl : x.2.link.length ≤ 1000000) (hdl : x.2.data.length ≤ 140737488355328) (hlast : (Tr.lastP pre).length ≤ 1000000) :
    Calls Tryd.prog 39 #[.pointer (some ⟨B, 0, none⟩), enV x] w fun e w' => e = .returned (errV (Tr.errE pre x.2)) ∧ (Tr.errE pre x.2 = 0 → CkAt w' B m (pre ++ [x.2])) ∧ Only (fun k => k = B ∨ k = m) w w' := by
  obtain ⟨a1, c1, e1⟩ := hx.shape
  obtain ⟨xv, en⟩ := x
  simp only at hx e1 hp hl hdl
  subst e1
  have hoA : Only (fun _ => False) w (w.alloc (.cells (enC (.slice a1 en.data.length c1, en)).toArray 41)) := Only.alloc _
  have HG : Hid (∀ W, Only (fun _ => False) w W → Calls Tryd.prog 65 #[.string ⟨en.path.toArray⟩] W fun e w' => e = .returned (.bool (Pt.good en.path)) ∧ Quiet W w') := fun W ho => good_txt en.path (by omega) (hU.quiet ho)
  have HF : Hid (∀ W, Only (fun _ => False) w W → Calls Tryd.prog 67 #[enV (.slice a1 en.data.length c1, en)] W fun e w' => e = .returned (.bool (Tr.fields en)) ∧ Quiet W w') := fun W ho => tgood_any (hU.quiet ho) (x := (.slice a1 en.data.length c1, en)) (hx.here ho (fun _ h => h)) (by simp only; omega)
  have HT : Hid (∀ W, Only (fun _ => False) w W → Calls Tryd.prog 68 #[.pointer (some ⟨B, 0, none⟩), enV (.slice a1 en.data.length c1, en)] W fun e w' => e = .returned (.bool (Tr.fits pre en)) ∧ Quiet W w') := fun W ho => fits_any (hU.quiet ho) (h.only ho (fun x => x) (fun x => x)) (x := (.slice a1 en.data.length c1, en)) (hx.here ho (fun _ h => h)) hp hl hlast
  have HB : Hid (∀ W, Only (fun _ => False) (w.alloc (.cells (enC (.slice a1 en.data.length c1, en)).toArray 41)) W → Blk W w.heap.size (enC (.slice a1 en.data.length c1, en)) 41) := fun W ho => (Blk.new w _ _).keep ho (fun x => x)
  have HC : Hid (∀ W, Only (fun _ => False) w W → CkAt W B m pre) := fun W ho => h.only ho (fun x => x) (fun x => x)
  have HA := Lib.hid hoA
  unfold enV at HF HT ⊢
  simp only at HF HT ⊢
  clear hoA
  cases h1 : Pt.good en.path with
  | false =>
    have e : Tr.errE pre en = 12 := by unfold Tr.errE; rw [if_pos h1]
    rw [e, errV_12]
    go_enter Tryd.func39, Tryd.ntmps39
    go_wp2_with (go_at_call 65; refine (HG.out _ HA.out).mono ?_; rintro e w1 ⟨rfl, hq⟩; rw [h1]; have HQ := Lib.hid hq; clear hq)
    go_ret
    exact ⟨rfl, fun h => (by simp at h), ((HA.out.trans HQ.out).mono (fun _ _ h => h.elim))⟩
  | true =>
  cases h2 : Tr.fields en with
  | false =>
    have e : Tr.errE pre en = 13 := by unfold Tr.errE; rw [h1, if_neg (by simp), h2]; rfl
    rw [e, show errV 13 = .iface 36 (.int .i64 13) from rfl]
    go_enter Tryd.func39, Tryd.ntmps39
    go_wp2_with (first | (go_at_call 65; refine (HG.out _ HA.out).mono ?_; rintro e w1 ⟨rfl, hq⟩; rw [h1]; obtain ⟨c0, c1', c2, c3, c4, c5, c6, c7, -⟩ := en_cells (HB.out _ hq); have HQ := Lib.hid hq; clear hq) | (go_at_call 67; refine (HF.out _ (HA.out.trans HQ.out)).mono ?_; rintro e w2 ⟨rfl, hq⟩; rw [h2]; have HQ2 := Lib.hid (Only.trans HQ.out hq); obtain ⟨c0, c1', c2, c3, c4, c5, c6, c7, -⟩ := en_cells (HB.out _ HQ2.out); clear hq))
    go_ret
    exact ⟨rfl, fun h => (by simp at h), ((HA.out.trans HQ2.out).mono (fun _ _ h => h.elim))⟩
  | true =>
  cases h3 : Tr.fits pre en with
  | false =>
    have e : Tr.errE pre en = 13 := by unfold Tr.errE; rw [h1, if_neg (by simp), h2, h3]; rfl
    rw [e, show errV 13 = .iface 36 (.int .i64 13) from rfl]
    go_enter Tryd.func39, Tryd.ntmps39
    go_wp2_with (first | (go_at_call 65; refine (HG.out _ HA.out).mono ?_; rintro e w1 ⟨rfl, hq⟩; rw [h1]; obtain ⟨c0, c1', c2, c3, c4, c5, c6, c7, -⟩ := en_cells (HB.out _ hq); have HQ := Lib.hid hq; clear hq) | (go_at_call 67; refine (HF.out _ (HA.out.trans HQ.out)).mono ?_; rintro e w2 ⟨rfl, hq⟩; rw [h2]; have HQ2 := Lib.hid (Only.trans HQ.out hq); obtain ⟨c0, c1', c2, c3, c4, c5, c6, c7, -⟩ := en_cells (HB.out _ HQ2.out); clear hq) | (go_at_call 68; refine (HT.out _ (HA.out.trans HQ2.out)).mono ?_; rintro e w3 ⟨rfl, hq⟩; rw [h3]; have HQ3 := Lib.hid (Only.trans HQ2.out hq); obtain ⟨c0, c1', c2, c3, c4, c5, c6, c7, -⟩ := en_cells (HB.out _ HQ3.out); clear hq))
    go_ret
    exact ⟨rfl, fun h => (by simp at h), ((HA.out.trans HQ3.out).mono (fun _ _ h => h.elim))⟩
  | true =>
    have e : Tr.errE pre en = if 1048576 < Tr.tot pre + en.data.length then 18 else 0 := by unfold Tr.errE; rw [h1, if_neg (by simp), h2, h3]; rfl
    rw [e]
    clear e
    go_enter Tryd.func39, Tryd.ntmps39
    go_wp2_with (first | (go_at_call 65; refine (HG.out _ HA.out).mono ?_; rintro e w1 ⟨rfl, hq⟩; rw [h1]; obtain ⟨c0, c1', c2, c3, c4, c5, c6, c7, -⟩ := en_cells (HB.out _ hq); have HQ := Lib.hid hq; clear hq) | (go_at_call 67; refine (HF.out _ (HA.out.trans HQ.out)).mono ?_; rintro e w2 ⟨rfl, hq⟩; rw [h2]; have HQ2 := Lib.hid (Only.trans HQ.out hq); obtain ⟨c0, c1', c2, c3, c4, c5, c6, c7, -⟩ := en_cells (HB.out _ HQ2.out); clear hq) | (go_at_call 68; refine (HT.out _ (HA.out.trans HQ2.out)).mono ?_; rintro e w3 ⟨rfl, hq⟩; rw [h3]; have HQ3 := Lib.hid (Only.trans HQ2.out hq); obtain ⟨c0, c1', c2, c3, c4, c5, c6, c7, -⟩ := en_cells (HB.out _ HQ3.out); clear hq))
    have hck := HC.out _ (HA.out.trans HQ3.out)
    have x0 : w3.cell? ⟨B, 0, none⟩ = some (.map (some m)) := hck.blk.cell 0
    have x1 : w3.cell? ⟨B, 1, none⟩ = some (.string ⟨(Tr.lastP pre).toArray⟩) := hck.blk.cell 1
    have x2 : w3.cell? ⟨B, 2, none⟩ = some (.int .i64 (Tr.tot pre : Nat)) := hck.blk.cell 2
    have xf : ∀ o, w3.frozen? ⟨B, o, none⟩ = false := fun o => hck.blk.frozen o
    have HCK := Lib.hid hck
    clear hck
    go_region
    have hBlt : B < w.heap.size := h.blk.lt
    have hmlt : m < w.heap.size := by obtain ⟨dd, hd1, _, _⟩ := h.map; exact hd1.lt
    have ho4 : Only (fun k => k = B) w3 (w3.setCell ⟨B, 2, none⟩ (.int .i64 ((Tr.tot pre : Nat) + (en.data.length : Nat)))).drew := (Only.setCell ⟨B, 2, none⟩ _).trans (Only.drew.mono (fun _ _ h => h.elim))
    have hb4 : Blk (w3.setCell ⟨B, 2, none⟩ (.int .i64 ((Tr.tot pre : Nat) + (en.data.length : Nat)))).drew B [.map (some m), .string ⟨(Tr.lastP pre).toArray⟩, .int .i64 ((Tr.tot pre : Nat) + (en.data.length : Nat))] 70 := (HCK.out.blk.set 2 _).drew
    have he4 : Blk (w3.setCell ⟨B, 2, none⟩ (.int .i64 ((Tr.tot pre : Nat) + (en.data.length : Nat)))).drew w.heap.size (enC (.slice a1 en.data.length c1, en)) 41 := (HB.out _ HQ3.out).keep ho4 (by omega)
    obtain ⟨dd, hd1, hd2, hd3⟩ := HCK.out.map
    have hm4 : KmAt (w3.setCell ⟨B, 2, none⟩ (.int .i64 ((Tr.tot pre : Nat) + (en.data.length : Nat)))).drew m dd := hd1.only ho4 (fun e => HCK.out.ne e.symm)
    have how : Only (fun k => k = B ∨ k = m) w (w3.setCell ⟨B, 2, none⟩ (.int .i64 ((Tr.tot pre : Nat) + (en.data.length : Nat)))).drew := ((HA.out.trans HQ3.out).mono (fun _ _ h => h.elim)).trans (ho4.mono (fun _ _ h => .inl h))
    clear x0 x1 x2 xf c0 c1' c2 c3 c4 c5 c6 c7 hd1 ho4
    generalize (w3.setCell ⟨B, 2, none⟩ (.int .i64 ((Tr.tot pre : Nat) + (en.data.length : Nat)))).drew = w4 at *
    obtain ⟨c0, c1', c2, c3, c4, c5, c6, c7, -⟩ := en_cells he4
    have x0 : w4.cell? ⟨B, 0, none⟩ = some (.map (some m)) := hb4.cell 0
    have x2 : w4.cell? ⟨B, 2, none⟩ = some (.int .i64 ((Tr.tot pre : Nat) + (en.data.length : Nat))) := hb4.cell 2
    have xf : ∀ o, w4.frozen? ⟨B, o, none⟩ = false := fun o => hb4.frozen o
    have HW := Lib.hid how
    have HB4 := Lib.hid hb4; have HE4 := Lib.hid he4
    have hms : m < w4.heap.size := hm4.lt
    obtain ⟨w5, hrun, hd5, ho5, hz5⟩ := (KmAt.only hm4 (Only.drew (w := w4)) (fun x => x)).store en.path (by unfold maxLen; omega) (by unfold maxLen; omega) en.kind
    have HD5 := Lib.hid hd5; have HO5 := Lib.hid ho5
    clear how hb4 he4 hm4 hd5 ho5
    by_cases hbig : 1048576 < Tr.tot pre + en.data.length
    · have q : (1048576 : Int) < (Tr.tot pre : Nat) + (en.data.length : Nat) := by omega
      clear hrun
      go_wp2_with fail
      go_ret
      exact ⟨rfl, HW.out⟩
    · have q : ¬ (1048576 : Int) < (Tr.tot pre : Nat) + (en.data.length : Nat) := by omega
      go_wp2_with fail
      go_region
      have hb5 : Blk w5 B [.map (some m), .string ⟨(Tr.lastP pre).toArray⟩, .int .i64 ((Tr.tot pre : Nat) + (en.data.length : Nat))] 70 := (HB4.out.drew).keep HO5.out (HCK.out.ne)
      have he5 : Blk w5 w.heap.size (enC (.slice a1 en.data.length c1, en)) 41 := (HE4.out.drew).keep HO5.out (by omega)
      obtain ⟨d0, d1, d2, d3, d4, d5, d6, d7, -⟩ := en_cells he5
      have y1 : w5.cell? ⟨B, 1, none⟩ = some (.string ⟨(Tr.lastP pre).toArray⟩) := hb5.cell 1
      have yf : ∀ o, w5.frozen? ⟨B, o, none⟩ = false := fun o => hb5.frozen o
      have HB5 := Lib.hid hb5
      clear hb5 he5
      go_wp2_with fail
      go_ret
      have hnew : Tr.named pre en.path = false := Tr.named_new hup (Tr.fits_iff.1 h3).1
      have ho6 : Only (fun k => k = B) w5 (w5.setCell ⟨B, 1, none⟩ (.string ⟨en.path.toArray⟩)) := Only.setCell ⟨B, 1, none⟩ _
      refine ⟨rfl, CkAt.add (HD5.out.only ho6 (fun e => HCK.out.ne e.symm)) hd2 hd3 hnew ?_ HCK.out.ne, ?_⟩
      · have := HB5.out.set 1 (.string ⟨en.path.toArray⟩)
        rw [Tr.tot_append]
        simpa [Tr.tot] using this
      · exact ((HW.out.trans (Only.drew.mono (fun _ _ h => h.elim))).trans (HO5.out.mono (fun _ _ h => .inr h))).trans (ho6.mono (fun _ _ h => .inl h))

end Go.Proofs.YtikkfmmdgicigaaDoor
