/- tree.same, amphoraref09.SameEntry: the same entries. Conditions: none. -/
import Derived.Test.YtikkfmmdgicigaaDoorTrSmall
namespace Go.Proofs.YtikkfmmdgicigaaDoor
open Go.RowKit

namespace Tr
/-- The same entry. -/
def same (a b : En) : Bool := (a.path == b.path) && (decide (a.kind = b.kind) && (decide (a.mode = b.mode) && (decide (a.uid = b.uid) && (decide (a.gid = b.gid) && (decide (a.time = b.time) && ((a.link == b.link) && (a.data == b.data)))))))
theorem same_iff {a b : En} : same a b = true ↔ a = b := by
  obtain ⟨p, k, m, u, g, t, l, d⟩ := a
  obtain ⟨p', k', m', u', g', t', l', d'⟩ := b
  simp [same]
end Tr

set_option maxRecDepth 100000 in
set_option maxHeartbeats 4000000 in
theorem tsame_any {w : World} {x y : Ve} (hx : BytesAt w (fun k => k < w.heap.size) x.1 x.2.data) (hy : BytesAt w (fun k => k < w.heap.size) y.1 y.2.data) :
    Calls Tryd.prog 61 #[enV x, enV y] w fun e w' => e = .returned (.bool (Tr.same x.2 y.2)) ∧ Only (fun _ => False) w w' := by
  obtain ⟨xv, p, k, m, u, g, t, l, d⟩ := x
  obtain ⟨yv, p', k', m', u', g', t', l', d'⟩ := y
  obtain ⟨a1, c1, e1⟩ := hx.shape
  obtain ⟨a2, c2, e2⟩ := hy.shape
  simp only at hx hy e1 e2
  subst e1 e2
  have HC : Hid (∀ W, Only (fun _ => False) w W → Calls Tryd.prog 79 #[.slice a1 d.length c1, .slice a2 d'.length c2] W fun e w' => e = .returned (.bool (d == d')) ∧ w' = W) := fun W ho => bequal_any (hx.here ho (fun _ h => h)) (hy.here ho (fun _ h => h))
  have HO : Hid (∀ (A B : Obj), Only (fun _ => False) w ((w.alloc A).alloc B)) := fun A B => (Only.alloc _).trans (Only.alloc _)
  clear hx hy
  unfold enV
  by_cases hp : p = p'
  case neg =>
    have e : Tr.same ⟨p, k, m, u, g, t, l, d⟩ ⟨p', k', m', u', g', t', l', d'⟩ = false := by simp [Tr.same, hp]
    have q : (p == p') = false := beq_eq_false_iff_ne.2 hp
    rw [e]
    clear e
    go_enter Tryd.func61, Tryd.ntmps61
    go_wp2_with fail
    go_ret
    exact ⟨rfl, HO.out _ _⟩
  case pos =>
    subst hp
    by_cases hk : k = k'
    case neg =>
      have e : Tr.same ⟨p, k, m, u, g, t, l, d⟩ ⟨p, k', m', u', g', t', l', d'⟩ = false := by simp [Tr.same, hk]
      have q : decide (k = k') = false := decide_eq_false hk
      rw [e]
      clear e
      go_enter Tryd.func61, Tryd.ntmps61
      go_wp2_with fail
      go_ret
      exact ⟨rfl, HO.out _ _⟩
    case pos =>
      subst hk
      by_cases hm : m = m'
      case neg =>
        have e : Tr.same ⟨p, k, m, u, g, t, l, d⟩ ⟨p, k, m', u', g', t', l', d'⟩ = false := by simp [Tr.same, hm]
        have q : decide (m = m') = false := decide_eq_false hm
        rw [e]
        clear e
        go_enter Tryd.func61, Tryd.ntmps61
        go_wp2_with fail
        go_ret
        exact ⟨rfl, HO.out _ _⟩
      case pos =>
        subst hm
        by_cases hu : u = u'
        case neg =>
          have e : Tr.same ⟨p, k, m, u, g, t, l, d⟩ ⟨p, k, m, u', g', t', l', d'⟩ = false := by simp [Tr.same, hu]
          have q : decide (u = u') = false := decide_eq_false hu
          rw [e]
          clear e
          go_enter Tryd.func61, Tryd.ntmps61
          go_wp2_with fail
          go_ret
          exact ⟨rfl, HO.out _ _⟩
        case pos =>
          subst hu
          by_cases hg : g = g'
          case neg =>
            have e : Tr.same ⟨p, k, m, u, g, t, l, d⟩ ⟨p, k, m, u, g', t', l', d'⟩ = false := by simp [Tr.same, hg]
            have q : decide (g = g') = false := decide_eq_false hg
            rw [e]
            clear e
            go_enter Tryd.func61, Tryd.ntmps61
            go_wp2_with fail
            go_ret
            exact ⟨rfl, HO.out _ _⟩
          case pos =>
            subst hg
            by_cases ht : t = t'
            case neg =>
              have e : Tr.same ⟨p, k, m, u, g, t, l, d⟩ ⟨p, k, m, u, g, t', l', d'⟩ = false := by simp [Tr.same, ht]
              have q : decide (t = t') = false := decide_eq_false ht
              rw [e]
              clear e
              go_enter Tryd.func61, Tryd.ntmps61
              go_wp2_with fail
              go_ret
              exact ⟨rfl, HO.out _ _⟩
            case pos =>
              subst ht
              by_cases hl : l = l'
              case neg =>
                have e : Tr.same ⟨p, k, m, u, g, t, l, d⟩ ⟨p, k, m, u, g, t, l', d'⟩ = false := by simp [Tr.same, hl]
                have q : (l == l') = false := beq_eq_false_iff_ne.2 hl
                rw [e]
                clear e
                go_enter Tryd.func61, Tryd.ntmps61
                go_wp2_with fail
                go_ret
                exact ⟨rfl, HO.out _ _⟩
              case pos =>
                subst hl
                have e : Tr.same ⟨p, k, m, u, g, t, l, d⟩ ⟨p, k, m, u, g, t, l, d'⟩ = (d == d') := by simp [Tr.same]
                rw [e]
                clear e
                go_enter Tryd.func61, Tryd.ntmps61
                go_wp2_with (refine (HC.out _ (HO.out _ _)).mono ?_; rintro e w1 ⟨rfl, rfl⟩)
                go_ret
                exact ⟨rfl, HO.out _ _⟩

set_option maxRecDepth 100000 in
set_option maxHeartbeats 4000000 in
theorem r9same_any {w : World} {x y : Ve} (hx : BytesAt w (fun k => k < w.heap.size) x.1 x.2.data) (hy : BytesAt w (fun k => k < w.heap.size) y.1 y.2.data) :
    Calls Tryd.prog 20 #[enV x, enV y] w fun e w' => e = .returned (.bool (Tr.same x.2 y.2)) ∧ Only (fun _ => False) w w' := by
  obtain ⟨xv, p, k, m, u, g, t, l, d⟩ := x
  obtain ⟨yv, p', k', m', u', g', t', l', d'⟩ := y
  obtain ⟨a1, c1, e1⟩ := hx.shape
  obtain ⟨a2, c2, e2⟩ := hy.shape
  simp only at hx hy e1 e2
  subst e1 e2
  have t1 : ∀ A B : Obj, (convert 39 9 (.slice a1 d.length c1)).run Tryd.prog ((w.alloc A).alloc B) = .ok (.string ⟨d.toArray⟩) ((w.alloc A).alloc B) := fun A B => (hx.here ((Only.alloc A).trans (Only.alloc B)) (fun _ h => h)).text
  have t2 : ∀ A B : Obj, (convert 39 9 (.slice a2 d'.length c2)).run Tryd.prog ((w.alloc A).alloc B) = .ok (.string ⟨d'.toArray⟩) ((w.alloc A).alloc B) := fun A B => (hy.here ((Only.alloc A).trans (Only.alloc B)) (fun _ h => h)).text
  have HO : Hid (∀ (A B : Obj), Only (fun _ => False) w ((w.alloc A).alloc B)) := fun A B => (Only.alloc _).trans (Only.alloc _)
  clear hx hy
  unfold enV
  by_cases hp : p = p'
  case neg =>
    have e : Tr.same ⟨p, k, m, u, g, t, l, d⟩ ⟨p', k', m', u', g', t', l', d'⟩ = false := by simp [Tr.same, hp]
    have q : (p == p') = false := beq_eq_false_iff_ne.2 hp
    rw [e]
    clear e
    go_enter Tryd.func20, Tryd.ntmps20
    go_wp2_with fail
    go_ret
    exact ⟨rfl, HO.out _ _⟩
  case pos =>
    subst hp
    by_cases hk : k = k'
    case neg =>
      have e : Tr.same ⟨p, k, m, u, g, t, l, d⟩ ⟨p, k', m', u', g', t', l', d'⟩ = false := by simp [Tr.same, hk]
      have q : decide (k = k') = false := decide_eq_false hk
      rw [e]
      clear e
      go_enter Tryd.func20, Tryd.ntmps20
      go_wp2_with fail
      go_ret
      exact ⟨rfl, HO.out _ _⟩
    case pos =>
      subst hk
      by_cases hm : m = m'
      case neg =>
        have e : Tr.same ⟨p, k, m, u, g, t, l, d⟩ ⟨p, k, m', u', g', t', l', d'⟩ = false := by simp [Tr.same, hm]
        have q : decide (m = m') = false := decide_eq_false hm
        rw [e]
        clear e
        go_enter Tryd.func20, Tryd.ntmps20
        go_wp2_with fail
        go_ret
        exact ⟨rfl, HO.out _ _⟩
      case pos =>
        subst hm
        by_cases hu : u = u'
        case neg =>
          have e : Tr.same ⟨p, k, m, u, g, t, l, d⟩ ⟨p, k, m, u', g', t', l', d'⟩ = false := by simp [Tr.same, hu]
          have q : decide (u = u') = false := decide_eq_false hu
          rw [e]
          clear e
          go_enter Tryd.func20, Tryd.ntmps20
          go_wp2_with fail
          go_ret
          exact ⟨rfl, HO.out _ _⟩
        case pos =>
          subst hu
          by_cases hg : g = g'
          case neg =>
            have e : Tr.same ⟨p, k, m, u, g, t, l, d⟩ ⟨p, k, m, u, g', t', l', d'⟩ = false := by simp [Tr.same, hg]
            have q : decide (g = g') = false := decide_eq_false hg
            rw [e]
            clear e
            go_enter Tryd.func20, Tryd.ntmps20
            go_wp2_with fail
            go_ret
            exact ⟨rfl, HO.out _ _⟩
          case pos =>
            subst hg
            by_cases ht : t = t'
            case neg =>
              have e : Tr.same ⟨p, k, m, u, g, t, l, d⟩ ⟨p, k, m, u, g, t', l', d'⟩ = false := by simp [Tr.same, ht]
              have q : decide (t = t') = false := decide_eq_false ht
              rw [e]
              clear e
              go_enter Tryd.func20, Tryd.ntmps20
              go_wp2_with fail
              go_ret
              exact ⟨rfl, HO.out _ _⟩
            case pos =>
              subst ht
              by_cases hl : l = l'
              case neg =>
                have e : Tr.same ⟨p, k, m, u, g, t, l, d⟩ ⟨p, k, m, u, g, t, l', d'⟩ = false := by simp [Tr.same, hl]
                have q : (l == l') = false := beq_eq_false_iff_ne.2 hl
                rw [e]
                clear e
                go_enter Tryd.func20, Tryd.ntmps20
                go_wp2_with fail
                go_ret
                exact ⟨rfl, HO.out _ _⟩
              case pos =>
                subst hl
                have e : Tr.same ⟨p, k, m, u, g, t, l, d⟩ ⟨p, k, m, u, g, t, l, d'⟩ = (d == d') := by simp [Tr.same]
                rw [e]
                clear e
                go_enter Tryd.func20, Tryd.ntmps20
                go_wp2_with fail
                go_ret
                exact ⟨rfl, HO.out _ _⟩

end Go.Proofs.YtikkfmmdgicigaaDoor
