/- tree.good. Conditions: texts within the reach. -/
import Derived.Test.YtikkfmmdgicigaaDoorTrSmall
import Derived.Test.YtikkfmmdgicigaaDoorPaText
namespace Go.Proofs.YtikkfmmdgicigaaDoor
open Go.RowKit

theorem good_txt (p : List UInt8) (hs : p.length ≤ 140737488351232) {w : World} (hU : U8 w) : Calls Tryd.prog 65 #[.string ⟨p.toArray⟩] w fun e w' => e = .returned (.bool (Pt.good p)) ∧ Quiet w w' := by
  have := good_any ⟨p.toArray⟩ (by rw [text_size]; exact hs) hU
  rwa [text_data] at this
theorem text_txt (p : List UInt8) (hs : p.length ≤ 140737488351232) (m : Int) {w : World} (hU : U8 w) : Calls Tryd.prog 87 #[.string ⟨p.toArray⟩, .int .i64 m] w fun e w' => e = .returned (.bool (Pt.txt p m)) ∧ Quiet w w' := by
  have := text_any ⟨p.toArray⟩ (by rw [text_size]; omega) m hU
  rwa [text_data] at this

set_option maxRecDepth 100000 in
set_option maxHeartbeats 4000000 in
theorem tgood_any {w : World} (hU : U8 w) {x : Ve} (hx : BytesAt w (fun k => k < w.heap.size) x.1 x.2.data) (hl : x.2.link.length ≤ 140737488351232) :
    Calls Tryd.prog 67 #[enV x] w fun e w' => e = .returned (.bool (Tr.fields x.2)) ∧ Only (fun _ => False) w w' := by
  obtain ⟨xv, p, k, m, u, g, t, l, d⟩ := x
  obtain ⟨a1, c1, e1⟩ := hx.shape
  simp only at hx e1 hl
  subst e1
  have HW : Hid (∀ n a b W, Calls Tryd.prog 86 #[.int .i64 n, .int .i64 a, .int .i64 b] W fun e w' => e = .returned (.bool (Tr.within n a b)) ∧ w' = W) := within_any
  have HT : Hid (∀ W, Only (fun _ => False) w W → Calls Tryd.prog 87 #[.string ⟨l.toArray⟩, .int .i64 400] W fun e w' => e = .returned (.bool (Pt.txt l 400)) ∧ Quiet W w') := fun W ho => text_txt l hl 400 (hU.quiet ho)
  have HG : Hid (∀ W, Only (fun _ => False) w W → Calls Tryd.prog 65 #[.string ⟨l.toArray⟩] W fun e w' => e = .returned (.bool (Pt.good l)) ∧ Quiet W w') := fun W ho => good_txt l hl (hU.quiet ho)
  have HB : Hid (Blk (w.alloc (.cells (enC (.slice a1 d.length c1, ⟨p, k, m, u, g, t, l, d⟩)).toArray 41)) w.heap.size (enC (.slice a1 d.length c1, ⟨p, k, m, u, g, t, l, d⟩)) 41) := Blk.new w _ _
  have HA : Hid (∀ A : Obj, Only (fun _ => False) w (w.alloc A)) := fun A => Only.alloc A
  clear hx hU hl
  unfold enV
  generalize hD : d.length = D at *
  cases hm : Tr.metaOk ⟨p, k, m, u, g, t, l, d⟩ with
  | false =>
    have e : Tr.fields ⟨p, k, m, u, g, t, l, d⟩ = false := by simp [Tr.fields, hm]
    rw [e]
    clear e
    have hm' : (Tr.within m 0 4095 && (Tr.within u 0 1099511627776 && (Tr.within g 0 1099511627776 && Tr.within t (-1099511627776) 1099511627776))) = false := hm
    clear hm
    cases h1 : Tr.within m 0 4095 with
    | false =>
      go_enter Tryd.func67, Tryd.ntmps67
      go_wp2_with (go_at_call 86; refine (HW.out _ _ _ _).mono ?_; rintro e w1 ⟨rfl, rfl⟩)
      go_ret
      exact ⟨rfl, HA.out _⟩
    | true =>
    cases h2 : Tr.within u 0 1099511627776 with
    | false =>
      go_enter Tryd.func67, Tryd.ntmps67
      go_wp2_with (go_at_call 86; refine (HW.out _ _ _ _).mono ?_; rintro e w1 ⟨rfl, rfl⟩)
      go_ret
      exact ⟨rfl, HA.out _⟩
    | true =>
    cases h3 : Tr.within g 0 1099511627776 with
    | false =>
      go_enter Tryd.func67, Tryd.ntmps67
      go_wp2_with (go_at_call 86; refine (HW.out _ _ _ _).mono ?_; rintro e w1 ⟨rfl, rfl⟩)
      go_ret
      exact ⟨rfl, HA.out _⟩
    | true =>
    have h4 : Tr.within t (-1099511627776) 1099511627776 = false := by rw [h1, h2, h3] at hm'; simpa using hm'
    clear hm'
    go_enter Tryd.func67, Tryd.ntmps67
    go_wp2_with (go_at_call 86; refine (HW.out _ _ _ _).mono ?_; rintro e w1 ⟨rfl, rfl⟩)
    go_ret
    exact ⟨rfl, HA.out _⟩
  | true =>
    have e : Tr.fields ⟨p, k, m, u, g, t, l, d⟩ = Tr.shape ⟨p, k, m, u, g, t, l, d⟩ := by simp [Tr.fields, hm]
    rw [e]
    clear e
    have hm' : (Tr.within m 0 4095 && (Tr.within u 0 1099511627776 && (Tr.within g 0 1099511627776 && Tr.within t (-1099511627776) 1099511627776))) = true := hm
    simp only [Bool.and_eq_true] at hm'
    obtain ⟨h1, h2, h3, h4⟩ := hm'
    clear hm
    by_cases k1 : k = 1
    case pos =>
      subst k1
      by_cases h10 : l = []
      case neg =>
        have qq : (l == []) = false := beq_eq_false_iff_ne.2 h10
        have e : Tr.shape ⟨p, 1, m, u, g, t, l, d⟩ = false := by simp [Tr.shape, hD, h10]
        rw [e]
        clear e
        go_enter Tryd.func67, Tryd.ntmps67
        go_wp2_with (first | (go_at_call 86; refine (HW.out _ _ _ _).mono ?_; rintro e w1 ⟨rfl, rfl⟩) | (go_at_call 87; refine (HT.out _ (HA.out _)).mono ?_; rintro e w1 ⟨rfl, hq⟩; obtain ⟨c0, c1, c2, c3, c4, c5, c6, c7, -⟩ := en_cells (HB.out.keep hq (fun x => x)); have HQ := Lib.hid hq; clear hq) | (go_at_call 65; refine (HG.out _ (HA.out _)).mono ?_; rintro e w1 ⟨rfl, hq⟩; obtain ⟨c0, c1, c2, c3, c4, c5, c6, c7, -⟩ := en_cells (HB.out.keep hq (fun x => x)); have HQ := Lib.hid hq; clear hq))
        go_ret
        exact ⟨rfl, HA.out _⟩
      case pos =>
        subst h10
        by_cases h11 : D = 0
        case neg =>
          have qd : ¬ ((D : Int) = 0) := by omega
          have e : Tr.shape ⟨p, 1, m, u, g, t, [], d⟩ = false := by simp [Tr.shape, hD, h11]
          rw [e]
          clear e
          go_enter Tryd.func67, Tryd.ntmps67
          go_wp2_with (first | (go_at_call 86; refine (HW.out _ _ _ _).mono ?_; rintro e w1 ⟨rfl, rfl⟩) | (go_at_call 87; refine (HT.out _ (HA.out _)).mono ?_; rintro e w1 ⟨rfl, hq⟩; obtain ⟨c0, c1, c2, c3, c4, c5, c6, c7, -⟩ := en_cells (HB.out.keep hq (fun x => x)); have HQ := Lib.hid hq; clear hq) | (go_at_call 65; refine (HG.out _ (HA.out _)).mono ?_; rintro e w1 ⟨rfl, hq⟩; obtain ⟨c0, c1, c2, c3, c4, c5, c6, c7, -⟩ := en_cells (HB.out.keep hq (fun x => x)); have HQ := Lib.hid hq; clear hq))
          go_ret
          exact ⟨by simp [h11], HA.out _⟩
        case pos =>
          subst h11
          have e : Tr.shape ⟨p, 1, m, u, g, t, [], d⟩ = true := by simp [Tr.shape, hD]
          rw [e]
          clear e
          go_enter Tryd.func67, Tryd.ntmps67
          go_wp2_with (first | (go_at_call 86; refine (HW.out _ _ _ _).mono ?_; rintro e w1 ⟨rfl, rfl⟩) | (go_at_call 87; refine (HT.out _ (HA.out _)).mono ?_; rintro e w1 ⟨rfl, hq⟩; obtain ⟨c0, c1, c2, c3, c4, c5, c6, c7, -⟩ := en_cells (HB.out.keep hq (fun x => x)); have HQ := Lib.hid hq; clear hq) | (go_at_call 65; refine (HG.out _ (HA.out _)).mono ?_; rintro e w1 ⟨rfl, hq⟩; obtain ⟨c0, c1, c2, c3, c4, c5, c6, c7, -⟩ := en_cells (HB.out.keep hq (fun x => x)); have HQ := Lib.hid hq; clear hq))
          go_ret
          exact ⟨rfl, HA.out _⟩
    case neg =>
      by_cases k2 : k = 2
      case pos =>
        subst k2
        by_cases h20 : l = []
        case neg =>
          have qq : (l == []) = false := beq_eq_false_iff_ne.2 h20
          have e : Tr.shape ⟨p, 2, m, u, g, t, l, d⟩ = false := by simp [Tr.shape, hD, h20]
          rw [e]
          clear e
          go_enter Tryd.func67, Tryd.ntmps67
          go_wp2_with (first | (go_at_call 86; refine (HW.out _ _ _ _).mono ?_; rintro e w1 ⟨rfl, rfl⟩) | (go_at_call 87; refine (HT.out _ (HA.out _)).mono ?_; rintro e w1 ⟨rfl, hq⟩; obtain ⟨c0, c1, c2, c3, c4, c5, c6, c7, -⟩ := en_cells (HB.out.keep hq (fun x => x)); have HQ := Lib.hid hq; clear hq) | (go_at_call 65; refine (HG.out _ (HA.out _)).mono ?_; rintro e w1 ⟨rfl, hq⟩; obtain ⟨c0, c1, c2, c3, c4, c5, c6, c7, -⟩ := en_cells (HB.out.keep hq (fun x => x)); have HQ := Lib.hid hq; clear hq))
          go_ret
          exact ⟨rfl, HA.out _⟩
        case pos =>
          subst h20
          by_cases h21 : D ≤ 65536
          case neg =>
            have qd : ¬ ((D : Int) ≤ 65536) := by omega
            have e : Tr.shape ⟨p, 2, m, u, g, t, [], d⟩ = false := by simp [Tr.shape, hD, h21]
            rw [e]
            clear e
            go_enter Tryd.func67, Tryd.ntmps67
            go_wp2_with (first | (go_at_call 86; refine (HW.out _ _ _ _).mono ?_; rintro e w1 ⟨rfl, rfl⟩) | (go_at_call 87; refine (HT.out _ (HA.out _)).mono ?_; rintro e w1 ⟨rfl, hq⟩; obtain ⟨c0, c1, c2, c3, c4, c5, c6, c7, -⟩ := en_cells (HB.out.keep hq (fun x => x)); have HQ := Lib.hid hq; clear hq) | (go_at_call 65; refine (HG.out _ (HA.out _)).mono ?_; rintro e w1 ⟨rfl, hq⟩; obtain ⟨c0, c1, c2, c3, c4, c5, c6, c7, -⟩ := en_cells (HB.out.keep hq (fun x => x)); have HQ := Lib.hid hq; clear hq))
            go_ret
            exact ⟨by simp [qd], HA.out _⟩
          case pos =>
            have qd : ((D : Int) ≤ 65536) := by omega
            have e : Tr.shape ⟨p, 2, m, u, g, t, [], d⟩ = true := by simp [Tr.shape, hD, h21]
            rw [e]
            clear e
            go_enter Tryd.func67, Tryd.ntmps67
            go_wp2_with (first | (go_at_call 86; refine (HW.out _ _ _ _).mono ?_; rintro e w1 ⟨rfl, rfl⟩) | (go_at_call 87; refine (HT.out _ (HA.out _)).mono ?_; rintro e w1 ⟨rfl, hq⟩; obtain ⟨c0, c1, c2, c3, c4, c5, c6, c7, -⟩ := en_cells (HB.out.keep hq (fun x => x)); have HQ := Lib.hid hq; clear hq) | (go_at_call 65; refine (HG.out _ (HA.out _)).mono ?_; rintro e w1 ⟨rfl, hq⟩; obtain ⟨c0, c1, c2, c3, c4, c5, c6, c7, -⟩ := en_cells (HB.out.keep hq (fun x => x)); have HQ := Lib.hid hq; clear hq))
            go_ret
            exact ⟨rfl, HA.out _⟩
      case neg =>
        by_cases k3 : k = 3
        case pos =>
          subst k3
          cases h30 : Pt.txt l 400
          case false =>
            have e : Tr.shape ⟨p, 3, m, u, g, t, l, d⟩ = false := by simp [Tr.shape, h30]
            rw [e]
            clear e
            go_enter Tryd.func67, Tryd.ntmps67
            go_wp2_with (first | (go_at_call 86; refine (HW.out _ _ _ _).mono ?_; rintro e w1 ⟨rfl, rfl⟩) | (go_at_call 87; refine (HT.out _ (HA.out _)).mono ?_; rintro e w1 ⟨rfl, hq⟩; obtain ⟨c0, c1, c2, c3, c4, c5, c6, c7, -⟩ := en_cells (HB.out.keep hq (fun x => x)); have HQ := Lib.hid hq; clear hq) | (go_at_call 65; refine (HG.out _ (HA.out _)).mono ?_; rintro e w1 ⟨rfl, hq⟩; obtain ⟨c0, c1, c2, c3, c4, c5, c6, c7, -⟩ := en_cells (HB.out.keep hq (fun x => x)); have HQ := Lib.hid hq; clear hq))
            go_ret
            exact ⟨rfl, (HA.out _).trans HQ.out⟩
          case true =>
            by_cases h31 : D = 0
            case neg =>
              have qd : ¬ ((D : Int) = 0) := by omega
              have e : Tr.shape ⟨p, 3, m, u, g, t, l, d⟩ = false := by simp [Tr.shape, hD, h31, h30]
              rw [e]
              clear e
              go_enter Tryd.func67, Tryd.ntmps67
              go_wp2_with (first | (go_at_call 86; refine (HW.out _ _ _ _).mono ?_; rintro e w1 ⟨rfl, rfl⟩) | (go_at_call 87; refine (HT.out _ (HA.out _)).mono ?_; rintro e w1 ⟨rfl, hq⟩; obtain ⟨c0, c1, c2, c3, c4, c5, c6, c7, -⟩ := en_cells (HB.out.keep hq (fun x => x)); have HQ := Lib.hid hq; clear hq) | (go_at_call 65; refine (HG.out _ (HA.out _)).mono ?_; rintro e w1 ⟨rfl, hq⟩; obtain ⟨c0, c1, c2, c3, c4, c5, c6, c7, -⟩ := en_cells (HB.out.keep hq (fun x => x)); have HQ := Lib.hid hq; clear hq))
              go_ret
              exact ⟨by simp [h31], (HA.out _).trans HQ.out⟩
            case pos =>
              subst h31
              have e : Tr.shape ⟨p, 3, m, u, g, t, l, d⟩ = true := by simp [Tr.shape, hD, h30]
              rw [e]
              clear e
              go_enter Tryd.func67, Tryd.ntmps67
              go_wp2_with (first | (go_at_call 86; refine (HW.out _ _ _ _).mono ?_; rintro e w1 ⟨rfl, rfl⟩) | (go_at_call 87; refine (HT.out _ (HA.out _)).mono ?_; rintro e w1 ⟨rfl, hq⟩; obtain ⟨c0, c1, c2, c3, c4, c5, c6, c7, -⟩ := en_cells (HB.out.keep hq (fun x => x)); have HQ := Lib.hid hq; clear hq) | (go_at_call 65; refine (HG.out _ (HA.out _)).mono ?_; rintro e w1 ⟨rfl, hq⟩; obtain ⟨c0, c1, c2, c3, c4, c5, c6, c7, -⟩ := en_cells (HB.out.keep hq (fun x => x)); have HQ := Lib.hid hq; clear hq))
              go_ret
              exact ⟨rfl, (HA.out _).trans HQ.out⟩
        case neg =>
          by_cases k4 : k = 4
          case pos =>
            subst k4
            cases h40 : Pt.good l
            case false =>
              have e : Tr.shape ⟨p, 4, m, u, g, t, l, d⟩ = false := by simp [Tr.shape, h40]
              rw [e]
              clear e
              go_enter Tryd.func67, Tryd.ntmps67
              go_wp2_with (first | (go_at_call 86; refine (HW.out _ _ _ _).mono ?_; rintro e w1 ⟨rfl, rfl⟩) | (go_at_call 87; refine (HT.out _ (HA.out _)).mono ?_; rintro e w1 ⟨rfl, hq⟩; obtain ⟨c0, c1, c2, c3, c4, c5, c6, c7, -⟩ := en_cells (HB.out.keep hq (fun x => x)); have HQ := Lib.hid hq; clear hq) | (go_at_call 65; refine (HG.out _ (HA.out _)).mono ?_; rintro e w1 ⟨rfl, hq⟩; obtain ⟨c0, c1, c2, c3, c4, c5, c6, c7, -⟩ := en_cells (HB.out.keep hq (fun x => x)); have HQ := Lib.hid hq; clear hq))
              go_ret
              exact ⟨rfl, (HA.out _).trans HQ.out⟩
            case true =>
              by_cases h41 : D = 0
              case neg =>
                have qd : ¬ ((D : Int) = 0) := by omega
                have e : Tr.shape ⟨p, 4, m, u, g, t, l, d⟩ = false := by simp [Tr.shape, hD, h41, h40]
                rw [e]
                clear e
                go_enter Tryd.func67, Tryd.ntmps67
                go_wp2_with (first | (go_at_call 86; refine (HW.out _ _ _ _).mono ?_; rintro e w1 ⟨rfl, rfl⟩) | (go_at_call 87; refine (HT.out _ (HA.out _)).mono ?_; rintro e w1 ⟨rfl, hq⟩; obtain ⟨c0, c1, c2, c3, c4, c5, c6, c7, -⟩ := en_cells (HB.out.keep hq (fun x => x)); have HQ := Lib.hid hq; clear hq) | (go_at_call 65; refine (HG.out _ (HA.out _)).mono ?_; rintro e w1 ⟨rfl, hq⟩; obtain ⟨c0, c1, c2, c3, c4, c5, c6, c7, -⟩ := en_cells (HB.out.keep hq (fun x => x)); have HQ := Lib.hid hq; clear hq))
                go_ret
                exact ⟨rfl, (HA.out _).trans HQ.out⟩
              case pos =>
                subst h41
                by_cases h42 : m = 0
                case neg =>
                  have e : Tr.shape ⟨p, 4, m, u, g, t, l, d⟩ = false := by simp [Tr.shape, h42, h40, hD]
                  rw [e]
                  clear e
                  go_enter Tryd.func67, Tryd.ntmps67
                  go_wp2_with (first | (go_at_call 86; refine (HW.out _ _ _ _).mono ?_; rintro e w1 ⟨rfl, rfl⟩) | (go_at_call 87; refine (HT.out _ (HA.out _)).mono ?_; rintro e w1 ⟨rfl, hq⟩; obtain ⟨c0, c1, c2, c3, c4, c5, c6, c7, -⟩ := en_cells (HB.out.keep hq (fun x => x)); have HQ := Lib.hid hq; clear hq) | (go_at_call 65; refine (HG.out _ (HA.out _)).mono ?_; rintro e w1 ⟨rfl, hq⟩; obtain ⟨c0, c1, c2, c3, c4, c5, c6, c7, -⟩ := en_cells (HB.out.keep hq (fun x => x)); have HQ := Lib.hid hq; clear hq))
                  go_ret
                  exact ⟨rfl, (HA.out _).trans HQ.out⟩
                case pos =>
                  subst h42
                  by_cases h43 : u = 0
                  case neg =>
                    have e : Tr.shape ⟨p, 4, 0, u, g, t, l, d⟩ = false := by simp [Tr.shape, h43, h40, hD]
                    rw [e]
                    clear e
                    go_enter Tryd.func67, Tryd.ntmps67
                    go_wp2_with (first | (go_at_call 86; refine (HW.out _ _ _ _).mono ?_; rintro e w1 ⟨rfl, rfl⟩) | (go_at_call 87; refine (HT.out _ (HA.out _)).mono ?_; rintro e w1 ⟨rfl, hq⟩; obtain ⟨c0, c1, c2, c3, c4, c5, c6, c7, -⟩ := en_cells (HB.out.keep hq (fun x => x)); have HQ := Lib.hid hq; clear hq) | (go_at_call 65; refine (HG.out _ (HA.out _)).mono ?_; rintro e w1 ⟨rfl, hq⟩; obtain ⟨c0, c1, c2, c3, c4, c5, c6, c7, -⟩ := en_cells (HB.out.keep hq (fun x => x)); have HQ := Lib.hid hq; clear hq))
                    go_ret
                    exact ⟨rfl, (HA.out _).trans HQ.out⟩
                  case pos =>
                    subst h43
                    by_cases h44 : g = 0
                    case neg =>
                      have e : Tr.shape ⟨p, 4, 0, 0, g, t, l, d⟩ = false := by simp [Tr.shape, h44, h40, hD]
                      rw [e]
                      clear e
                      go_enter Tryd.func67, Tryd.ntmps67
                      go_wp2_with (first | (go_at_call 86; refine (HW.out _ _ _ _).mono ?_; rintro e w1 ⟨rfl, rfl⟩) | (go_at_call 87; refine (HT.out _ (HA.out _)).mono ?_; rintro e w1 ⟨rfl, hq⟩; obtain ⟨c0, c1, c2, c3, c4, c5, c6, c7, -⟩ := en_cells (HB.out.keep hq (fun x => x)); have HQ := Lib.hid hq; clear hq) | (go_at_call 65; refine (HG.out _ (HA.out _)).mono ?_; rintro e w1 ⟨rfl, hq⟩; obtain ⟨c0, c1, c2, c3, c4, c5, c6, c7, -⟩ := en_cells (HB.out.keep hq (fun x => x)); have HQ := Lib.hid hq; clear hq))
                      go_ret
                      exact ⟨rfl, (HA.out _).trans HQ.out⟩
                    case pos =>
                      subst h44
                      by_cases h45 : t = 0
                      case neg =>
                        have e : Tr.shape ⟨p, 4, 0, 0, 0, t, l, d⟩ = false := by simp [Tr.shape, h45, h40, hD]
                        rw [e]
                        clear e
                        go_enter Tryd.func67, Tryd.ntmps67
                        go_wp2_with (first | (go_at_call 86; refine (HW.out _ _ _ _).mono ?_; rintro e w1 ⟨rfl, rfl⟩) | (go_at_call 87; refine (HT.out _ (HA.out _)).mono ?_; rintro e w1 ⟨rfl, hq⟩; obtain ⟨c0, c1, c2, c3, c4, c5, c6, c7, -⟩ := en_cells (HB.out.keep hq (fun x => x)); have HQ := Lib.hid hq; clear hq) | (go_at_call 65; refine (HG.out _ (HA.out _)).mono ?_; rintro e w1 ⟨rfl, hq⟩; obtain ⟨c0, c1, c2, c3, c4, c5, c6, c7, -⟩ := en_cells (HB.out.keep hq (fun x => x)); have HQ := Lib.hid hq; clear hq))
                        go_ret
                        exact ⟨by simp [h45], (HA.out _).trans HQ.out⟩
                      case pos =>
                        subst h45
                        have e : Tr.shape ⟨p, 4, 0, 0, 0, 0, l, d⟩ = true := by simp [Tr.shape, hD, h40]
                        rw [e]
                        clear e
                        go_enter Tryd.func67, Tryd.ntmps67
                        go_wp2_with (first | (go_at_call 86; refine (HW.out _ _ _ _).mono ?_; rintro e w1 ⟨rfl, rfl⟩) | (go_at_call 87; refine (HT.out _ (HA.out _)).mono ?_; rintro e w1 ⟨rfl, hq⟩; obtain ⟨c0, c1, c2, c3, c4, c5, c6, c7, -⟩ := en_cells (HB.out.keep hq (fun x => x)); have HQ := Lib.hid hq; clear hq) | (go_at_call 65; refine (HG.out _ (HA.out _)).mono ?_; rintro e w1 ⟨rfl, hq⟩; obtain ⟨c0, c1, c2, c3, c4, c5, c6, c7, -⟩ := en_cells (HB.out.keep hq (fun x => x)); have HQ := Lib.hid hq; clear hq))
                        go_ret
                        exact ⟨rfl, (HA.out _).trans HQ.out⟩
          case neg =>
            have e : Tr.shape ⟨p, k, m, u, g, t, l, d⟩ = false := by simp [Tr.shape, k1, k2, k3, k4]
            rw [e]
            clear e
            go_enter Tryd.func67, Tryd.ntmps67
            go_wp2_with (first | (go_at_call 86; refine (HW.out _ _ _ _).mono ?_; rintro e w1 ⟨rfl, rfl⟩) | (go_at_call 87; refine (HT.out _ (HA.out _)).mono ?_; rintro e w1 ⟨rfl, hq⟩; obtain ⟨c0, c1, c2, c3, c4, c5, c6, c7, -⟩ := en_cells (HB.out.keep hq (fun x => x)); have HQ := Lib.hid hq; clear hq) | (go_at_call 65; refine (HG.out _ (HA.out _)).mono ?_; rintro e w1 ⟨rfl, hq⟩; obtain ⟨c0, c1, c2, c3, c4, c5, c6, c7, -⟩ := en_cells (HB.out.keep hq (fun x => x)); have HQ := Lib.hid hq; clear hq))
            go_ret
            exact ⟨rfl, HA.out _⟩

end Go.Proofs.YtikkfmmdgicigaaDoor
