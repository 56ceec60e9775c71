/- tree's fits and add: what is asked of the next entry. Conditions: texts within the reach. -/
import Derived.Test.YtikkfmmdgicigaaDoorTrGood
import Derived.Test.YtikkfmmdgicigaaDoorTrMap
import Derived.Test.YtikkfmmdgicigaaDoorPaCmp
import Derived.Test.YtikkfmmdgicigaaDoorPaPar
import Derived.Deep.RegionHeld3
import Derived.Deep.QuietTactic
import Derived.BigQuiet
namespace Go.Proofs.YtikkfmmdgicigaaDoor
open Go.RowKit

theorem compare_txt (p q : List UInt8) (hp : p.length ≤ 140737488351232) (hq : q.length ≤ 140737488351232) (w : World) : Calls Tryd.prog 51 #[.string ⟨p.toArray⟩, .string ⟨q.toArray⟩] w fun e w' => e = .returned (.int .i64 (Pt.cmp p q)) ∧ Quiet w w' := by
  have := compare_any ⟨p.toArray⟩ ⟨q.toArray⟩ (by rw [text_size]; exact hp) (by rw [text_size]; exact hq) w
  rwa [text_data, text_data] at this
theorem parent_txt (p : List UInt8) (hs : p.length ≤ 140737488351232) {w : World} (hU : U8 w) : Calls Tryd.prog 34 #[.string ⟨p.toArray⟩] w fun e w' => e = .returned (.tuple #[.string ⟨(Pt.parL p).toArray⟩, .bool (Pt.parB p)]) ∧ Quiet w w' := by
  have := parent_any ⟨p.toArray⟩ (by rw [text_size]; exact hs) hU
  rwa [text_data] at this
theorem parL_len (p : List UInt8) : (Pt.parL p).length ≤ p.length := by
  unfold Pt.parL
  split
  · rw [List.length_take]; omega
  · simp

/-- The check's own block and map. -/
structure CkAt (w : World) (B m : Nat) (pre : List Tr.En) : Prop where
  blk : Blk w B [.map (some m), .string ⟨(Tr.lastP pre).toArray⟩, .int .i64 (Tr.tot pre : Nat)] 70
  map : ∃ d, KmAt w m d ∧ d.length ≤ pre.length ∧ ∀ p, (Tr.kget d p).getD 0 = Tr.kindIn pre p
  ne : B ≠ m

theorem CkAt.only {w w' : World} {T : Nat → Prop} {B m : Nat} {pre : List Tr.En} (h : CkAt w B m pre) (ho : Only T w w') (hB : ¬ T B) (hm : ¬ T m) : CkAt w' B m pre := by
  obtain ⟨d, h1, h2, h3⟩ := h.map
  exact ⟨h.blk.keep ho hB, ⟨d, h1.only ho hm, h2, h3⟩, h.ne⟩
theorem CkAt.look {w : World} {B m : Nat} {pre : List Tr.En} (h : CkAt w B m pre) (s : List UInt8) (hs : s.length ≤ maxLen) :
    (Instr.lookup 68 (.map (some m)) (.string ⟨s.toArray⟩) false).run Tryd.prog w = .ok (.int .i64 (Tr.kindIn pre s)) w := by
  obtain ⟨d, h1, h2, h3⟩ := h.map
  rw [h1.look s hs, h3]

set_option maxRecDepth 100000 in
set_option maxHeartbeats 4000000 in
theorem fits_any {w : World} (hU : U8 w) {B m : Nat} {pre : List Tr.En} (h : CkAt w B m pre) {x : Ve} (hx : BytesAt w (fun k => k < w.heap.size) x.1 x.2.data) (hp : x.2.path.length ≤ 1000000) (hl : x.2.link.length ≤ 1000000) (hlast : (Tr.lastP pre).length ≤ 1000000) :
    Calls Tryd.prog 68 #[.pointer (some ⟨B, 0, none⟩), enV x] w fun e w' => e = .returned (.bool (Tr.fits pre x.2)) ∧ Only (fun _ => False) w w' := by
  obtain ⟨xv, p, k, mo, u, g, t, l, d⟩ := x
  obtain ⟨a1, c1, e1⟩ := hx.shape
  simp only at hx e1 hp hl
  subst e1
  clear hx
  have hpl := parL_len p
  have HC : Hid (∀ W, Calls Tryd.prog 51 #[.string ⟨(Tr.lastP pre).toArray⟩, .string ⟨p.toArray⟩] W fun e w' => e = .returned (.int .i64 (Pt.cmp (Tr.lastP pre) p)) ∧ Quiet W w') := fun W => compare_txt _ _ (by omega) (by omega) W
  have HP : Hid (∀ W, Only (fun _ => False) w W → Calls Tryd.prog 34 #[.string ⟨p.toArray⟩] W fun e w' => e = .returned (.tuple #[.string ⟨(Pt.parL p).toArray⟩, .bool (Pt.parB p)]) ∧ Quiet W w') := fun W ho => parent_txt p (by omega) (hU.quiet ho)
  have L1 : ∀ W, Only (fun _ => False) w W → (Instr.lookup 68 (.map (some m)) (.string ⟨(Pt.parL p).toArray⟩) false).run Tryd.prog W = .ok (.int .i64 (Tr.kindIn pre (Pt.parL p))) W := fun W ho => (h.only ho (fun x => x) (fun x => x)).look _ (by unfold maxLen; omega)
  have L2 : ∀ W, Only (fun _ => False) w W → (Instr.lookup 68 (.map (some m)) (.string ⟨l.toArray⟩) false).run Tryd.prog W = .ok (.int .i64 (Tr.kindIn pre l)) W := fun W ho => (h.only ho (fun x => x) (fun x => x)).look _ (by unfold maxLen; omega)
  have hc0 : ∀ W, Only (fun _ => False) w W → W.cell? ⟨B, 0, none⟩ = some (.map (some m)) := fun W ho => (h.blk.keep ho (fun x => x)).cell 0
  have hc1 : ∀ W, Only (fun _ => False) w W → W.cell? ⟨B, 1, none⟩ = some (.string ⟨(Tr.lastP pre).toArray⟩) := fun W ho => (h.blk.keep ho (fun x => x)).cell 1
  have hb0 : Blk (w.alloc (.cells (enC (.slice a1 d.length c1, ⟨p, k, mo, u, g, t, l, d⟩)).toArray 41)) w.heap.size (enC (.slice a1 d.length c1, ⟨p, k, mo, u, g, t, l, d⟩)) 41 := Blk.new w _ _
  have hoA : Only (fun _ => False) w (w.alloc (.cells (enC (.slice a1 d.length c1, ⟨p, k, mo, u, g, t, l, d⟩)).toArray 41)) := Only.alloc _
  have hF : Tr.fits pre ⟨p, k, mo, u, g, t, l, d⟩ = (decide (Pt.cmp (Tr.lastP pre) p < 0) && ((!Pt.parB p || decide (Tr.kindIn pre (Pt.parL p) = 1)) && (!decide (k = 4) || decide (Tr.kindIn pre l = 2)))) := rfl
  rw [hF]
  unfold enV
  generalize Tr.kindIn pre (Pt.parL p) = K1 at *
  generalize Tr.kindIn pre l = K2 at *
  generalize Pt.parL p = PL at *
  generalize Pt.parB p = PB at *
  generalize Pt.cmp (Tr.lastP pre) p = C at *
  generalize Tr.lastP pre = LP at *
  generalize hA : (w.alloc (.cells (enC (.slice a1 d.length c1, ⟨p, k, mo, u, g, t, l, d⟩)).toArray 41)) = wA at *
  have b0 : ∀ W, Only (fun _ => False) wA W → W.cell? ⟨w.heap.size, 0, none⟩ = some (.string ⟨p.toArray⟩) := fun W ho => (hb0.keep ho (fun x => x)).cell 0
  have b1 : ∀ W, Only (fun _ => False) wA W → W.cell? ⟨w.heap.size, 1, none⟩ = some (.int .i64 k) := fun W ho => (hb0.keep ho (fun x => x)).cell 1
  have b6 : ∀ W, Only (fun _ => False) wA W → W.cell? ⟨w.heap.size, 6, none⟩ = some (.string ⟨l.toArray⟩) := fun W ho => (hb0.keep ho (fun x => x)).cell 6
  have g0 : ∀ W, Only (fun _ => False) wA W → W.cell? ⟨B, 0, none⟩ = some (.map (some m)) := fun W ho => hc0 W (hoA.trans ho)
  have g1 : ∀ W, Only (fun _ => False) wA W → W.cell? ⟨B, 1, none⟩ = some (.string ⟨LP.toArray⟩) := fun W ho => hc1 W (hoA.trans ho)
  have M1 : ∀ W, Only (fun _ => False) wA W → (Instr.lookup 68 (.map (some m)) (.string ⟨PL.toArray⟩) false).run Tryd.prog W = .ok (.int .i64 K1) W := fun W ho => L1 W (hoA.trans ho)
  have M2 : ∀ W, Only (fun _ => False) wA W → (Instr.lookup 68 (.map (some m)) (.string ⟨l.toArray⟩) false).run Tryd.prog W = .ok (.int .i64 K2) W := fun W ho => L2 W (hoA.trans ho)
  have HOA := Lib.hid hoA
  have HD0 : Hid (Only (fun _ => False) wA wA.drew) := Only.drew
  clear hc0 hc1 hb0 hoA L1 L2 hF h hU
  go_enter Tryd.func68, Tryd.ntmps68
  go_wp2_with fail
  rw [show w.alloc (.cells #[.string ⟨p.toArray⟩, .int .i64 k, .int .i64 mo, .int .i64 u, .int .i64 g, .int .i64 t, .string ⟨l.toArray⟩, .slice a1 d.length c1] 41) = wA from hA]
  go_region_held3 (fun W => Only (fun _ => False) wA W) (first | exact HD0.out | exact HQ1.out) (first | (go_at_call 51; refine (HC.out _).mono ?_; rintro e w1 ⟨rfl, hq⟩; have HQ1 : Hid (Only (fun _ => False) wA w1) := Only.trans Only.drew hq; clear hq))
  have x0 := b0 w1 HQ1.out
  by_cases hC : C < 0
  case neg =>
    have q1 : (0 : Int) ≤ C := by omega
    have q2 : decide (C < 0) = false := decide_eq_false hC
    clear hC
    go_wp2_with fail
    go_ret
    exact ⟨by rw [q2]; simp, HOA.out.trans HQ1.out⟩
  case pos =>
    have q1 : ¬ (0 : Int) ≤ C := by omega
    cases PB with
    | true =>
      by_cases hK : K1 = 1
      case neg =>
        go_wp2_with (go_at_call 34; refine (HP.out _ (HOA.out.trans HQ1.out)).mono ?_; rintro e w2 ⟨rfl, hq⟩; have HQ2 : Hid (Only (fun _ => False) wA w2) := HQ1.out.trans hq; have y0 := g0 w2 HQ2.out; have y1 := M1 w2 HQ2.out; clear hq)
        go_ret
        exact ⟨by simp [hC, hK], HOA.out.trans HQ2.out⟩
      case pos =>
        subst hK
        go_wp2_with (go_at_call 34; refine (HP.out _ (HOA.out.trans HQ1.out)).mono ?_; rintro e w2 ⟨rfl, hq⟩; have HQ2 : Hid (Only (fun _ => False) wA w2) := HQ1.out.trans hq; have y0 := g0 w2 HQ2.out; have y1 := M1 w2 HQ2.out; clear hq)
        have z1 := b1 w2 HQ2.out
        have z6 := b6 w2 HQ2.out
        have M3 : ∀ n, (Instr.lookup 68 (.map (some m)) (.string ⟨l.toArray⟩) false).run Tryd.prog (w2.drewN n) = .ok (.int .i64 K2) (w2.drewN n) := fun n => M2 _ (HQ2.out.trans (Only.drewN n))
        clear M1 M2 b0 b1 b6 g0 g1
        by_cases h4 : k = 4
        case neg =>
          go_quiet (fail)
          go_wp2_with fail
          go_ret
          exact ⟨by simp, HOA.out.trans (HQ2.out.trans (Only.drewN _))⟩
        case pos =>
          subst h4
          go_quiet (fail)
          go_wp2_with fail
          go_ret
          exact ⟨by simp; rfl, HOA.out.trans (HQ2.out.trans (Only.drewN _))⟩
    | false =>
      go_wp2_with (go_at_call 34; refine (HP.out _ (HOA.out.trans HQ1.out)).mono ?_; rintro e w2 ⟨rfl, hq⟩; have HQ2 : Hid (Only (fun _ => False) wA w2) := HQ1.out.trans hq; have y0 := g0 w2 HQ2.out; have y1 := M1 w2 HQ2.out; clear hq)
      have z1 := b1 w2 HQ2.out
      have z6 := b6 w2 HQ2.out
      have M3 : ∀ n, (Instr.lookup 68 (.map (some m)) (.string ⟨l.toArray⟩) false).run Tryd.prog (w2.drewN n) = .ok (.int .i64 K2) (w2.drewN n) := fun n => M2 _ (HQ2.out.trans (Only.drewN n))
      clear M1 M2 b0 b1 b6 g0 g1
      by_cases h4 : k = 4
      case neg =>
        go_quiet (fail)
        go_wp2_with fail
        go_ret
        exact ⟨by simp [hC, h4], HOA.out.trans (HQ2.out.trans (Only.drewN _))⟩
      case pos =>
        subst h4
        go_quiet (fail)
        go_wp2_with fail
        go_ret
        exact ⟨by simp; rfl, HOA.out.trans (HQ2.out.trans (Only.drewN _))⟩

end Go.Proofs.YtikkfmmdgicigaaDoor
