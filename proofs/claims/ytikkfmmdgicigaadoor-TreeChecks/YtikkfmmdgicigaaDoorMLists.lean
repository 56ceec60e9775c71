/- Lists of entries: which are the same (tree.Same, amphoraref09.Same), the law's large. Conditions: rows within the reach. -/
import Derived.Test.YtikkfmmdgicigaaDoorTrSmall
import Derived.Test.YtikkfmmdgicigaaDoorGMono
import Derived.Test.YtikkfmmdgicigaaDoorPaCut
import Derived.Shelf.SlSortCmp.QuietGrown
import Derived.Test.YtikkfmmdgicigaaDoorTrCheck
import Derived.Test.YtikkfmmdgicigaaDoorTrArgs

namespace Go.Proofs.YtikkfmmdgicigaaDoor
open Go.RowKit

namespace Tr
/-- The same entry. -/
def same (a b : En) : Bool := (a.path == b.path) && (decide (a.kind = b.kind) && (decide (a.mode = b.mode) && (decide (a.uid = b.uid) && (decide (a.gid = b.gid) && (decide (a.time = b.time) && ((a.link == b.link) && (a.data == b.data)))))))
theorem same_iff {a b : En} : same a b = true ↔ a = b := by
  obtain ⟨p, k, m, u, g, t, l, d⟩ := a
  obtain ⟨p', k', m', u', g', t', l', d'⟩ := b
  simp [same]
end Tr

set_option maxRecDepth 100000 in
set_option maxHeartbeats 4000000 in
theorem tsame_any {w : World} {x y : Ve} (hx : BytesAt w (fun k => k < w.heap.size) x.1 x.2.data) (hy : BytesAt w (fun k => k < w.heap.size) y.1 y.2.data) :
    Calls Tryd.prog 61 #[enV x, enV y] w fun e w' => e = .returned (.bool (Tr.same x.2 y.2)) ∧ Only (fun _ => False) w w' := by
  obtain ⟨xv, p, k, m, u, g, t, l, d⟩ := x
  obtain ⟨yv, p', k', m', u', g', t', l', d'⟩ := y
  obtain ⟨a1, c1, e1⟩ := hx.shape
  obtain ⟨a2, c2, e2⟩ := hy.shape
  simp only at hx hy e1 e2
  subst e1 e2
  have HC : Hid (∀ W, Only (fun _ => False) w W → Calls Tryd.prog 79 #[.slice a1 d.length c1, .slice a2 d'.length c2] W fun e w' => e = .returned (.bool (d == d')) ∧ w' = W) := fun W ho => bequal_any (hx.here ho (fun _ h => h)) (hy.here ho (fun _ h => h))
  have HO : Hid (∀ (A B : Obj), Only (fun _ => False) w ((w.alloc A).alloc B)) := fun A B => (Only.alloc _).trans (Only.alloc _)
  clear hx hy
  unfold enV
  by_cases hp : p = p'
  case neg =>
    have e : Tr.same ⟨p, k, m, u, g, t, l, d⟩ ⟨p', k', m', u', g', t', l', d'⟩ = false := by simp [Tr.same, hp]
    have q : (p == p') = false := beq_eq_false_iff_ne.2 hp
    rw [e]
    clear e
    go_enter Tryd.func61, Tryd.ntmps61
    go_wp2_with fail
    go_ret
    exact ⟨rfl, HO.out _ _⟩
  case pos =>
    subst hp
    by_cases hk : k = k'
    case neg =>
      have e : Tr.same ⟨p, k, m, u, g, t, l, d⟩ ⟨p, k', m', u', g', t', l', d'⟩ = false := by simp [Tr.same, hk]
      have q : decide (k = k') = false := decide_eq_false hk
      rw [e]
      clear e
      go_enter Tryd.func61, Tryd.ntmps61
      go_wp2_with fail
      go_ret
      exact ⟨rfl, HO.out _ _⟩
    case pos =>
      subst hk
      by_cases hm : m = m'
      case neg =>
        have e : Tr.same ⟨p, k, m, u, g, t, l, d⟩ ⟨p, k, m', u', g', t', l', d'⟩ = false := by simp [Tr.same, hm]
        have q : decide (m = m') = false := decide_eq_false hm
        rw [e]
        clear e
        go_enter Tryd.func61, Tryd.ntmps61
        go_wp2_with fail
        go_ret
        exact ⟨rfl, HO.out _ _⟩
      case pos =>
        subst hm
        by_cases hu : u = u'
        case neg =>
          have e : Tr.same ⟨p, k, m, u, g, t, l, d⟩ ⟨p, k, m, u', g', t', l', d'⟩ = false := by simp [Tr.same, hu]
          have q : decide (u = u') = false := decide_eq_false hu
          rw [e]
          clear e
          go_enter Tryd.func61, Tryd.ntmps61
          go_wp2_with fail
          go_ret
          exact ⟨rfl, HO.out _ _⟩
        case pos =>
          subst hu
          by_cases hg : g = g'
          case neg =>
            have e : Tr.same ⟨p, k, m, u, g, t, l, d⟩ ⟨p, k, m, u, g', t', l', d'⟩ = false := by simp [Tr.same, hg]
            have q : decide (g = g') = false := decide_eq_false hg
            rw [e]
            clear e
            go_enter Tryd.func61, Tryd.ntmps61
            go_wp2_with fail
            go_ret
            exact ⟨rfl, HO.out _ _⟩
          case pos =>
            subst hg
            by_cases ht : t = t'
            case neg =>
              have e : Tr.same ⟨p, k, m, u, g, t, l, d⟩ ⟨p, k, m, u, g, t', l', d'⟩ = false := by simp [Tr.same, ht]
              have q : decide (t = t') = false := decide_eq_false ht
              rw [e]
              clear e
              go_enter Tryd.func61, Tryd.ntmps61
              go_wp2_with fail
              go_ret
              exact ⟨rfl, HO.out _ _⟩
            case pos =>
              subst ht
              by_cases hl : l = l'
              case neg =>
                have e : Tr.same ⟨p, k, m, u, g, t, l, d⟩ ⟨p, k, m, u, g, t, l', d'⟩ = false := by simp [Tr.same, hl]
                have q : (l == l') = false := beq_eq_false_iff_ne.2 hl
                rw [e]
                clear e
                go_enter Tryd.func61, Tryd.ntmps61
                go_wp2_with fail
                go_ret
                exact ⟨rfl, HO.out _ _⟩
              case pos =>
                subst hl
                have e : Tr.same ⟨p, k, m, u, g, t, l, d⟩ ⟨p, k, m, u, g, t, l, d'⟩ = (d == d') := by simp [Tr.same]
                rw [e]
                clear e
                go_enter Tryd.func61, Tryd.ntmps61
                go_wp2_with (refine (HC.out _ (HO.out _ _)).mono ?_; rintro e w1 ⟨rfl, rfl⟩)
                go_ret
                exact ⟨rfl, HO.out _ _⟩

set_option maxRecDepth 100000 in
set_option maxHeartbeats 4000000 in
theorem r9same_any {w : World} {x y : Ve} (hx : BytesAt w (fun k => k < w.heap.size) x.1 x.2.data) (hy : BytesAt w (fun k => k < w.heap.size) y.1 y.2.data) :
    Calls Tryd.prog 20 #[enV x, enV y] w fun e w' => e = .returned (.bool (Tr.same x.2 y.2)) ∧ Only (fun _ => False) w w' := by
  obtain ⟨xv, p, k, m, u, g, t, l, d⟩ := x
  obtain ⟨yv, p', k', m', u', g', t', l', d'⟩ := y
  obtain ⟨a1, c1, e1⟩ := hx.shape
  obtain ⟨a2, c2, e2⟩ := hy.shape
  simp only at hx hy e1 e2
  subst e1 e2
  have t1 : ∀ A B : Obj, (convert 39 9 (.slice a1 d.length c1)).run Tryd.prog ((w.alloc A).alloc B) = .ok (.string ⟨d.toArray⟩) ((w.alloc A).alloc B) := fun A B => (hx.here ((Only.alloc A).trans (Only.alloc B)) (fun _ h => h)).text
  have t2 : ∀ A B : Obj, (convert 39 9 (.slice a2 d'.length c2)).run Tryd.prog ((w.alloc A).alloc B) = .ok (.string ⟨d'.toArray⟩) ((w.alloc A).alloc B) := fun A B => (hy.here ((Only.alloc A).trans (Only.alloc B)) (fun _ h => h)).text
  have HO : Hid (∀ (A B : Obj), Only (fun _ => False) w ((w.alloc A).alloc B)) := fun A B => (Only.alloc _).trans (Only.alloc _)
  clear hx hy
  unfold enV
  by_cases hp : p = p'
  case neg =>
    have e : Tr.same ⟨p, k, m, u, g, t, l, d⟩ ⟨p', k', m', u', g', t', l', d'⟩ = false := by simp [Tr.same, hp]
    have q : (p == p') = false := beq_eq_false_iff_ne.2 hp
    rw [e]
    clear e
    go_enter Tryd.func20, Tryd.ntmps20
    go_wp2_with fail
    go_ret
    exact ⟨rfl, HO.out _ _⟩
  case pos =>
    subst hp
    by_cases hk : k = k'
    case neg =>
      have e : Tr.same ⟨p, k, m, u, g, t, l, d⟩ ⟨p, k', m', u', g', t', l', d'⟩ = false := by simp [Tr.same, hk]
      have q : decide (k = k') = false := decide_eq_false hk
      rw [e]
      clear e
      go_enter Tryd.func20, Tryd.ntmps20
      go_wp2_with fail
      go_ret
      exact ⟨rfl, HO.out _ _⟩
    case pos =>
      subst hk
      by_cases hm : m = m'
      case neg =>
        have e : Tr.same ⟨p, k, m, u, g, t, l, d⟩ ⟨p, k, m', u', g', t', l', d'⟩ = false := by simp [Tr.same, hm]
        have q : decide (m = m') = false := decide_eq_false hm
        rw [e]
        clear e
        go_enter Tryd.func20, Tryd.ntmps20
        go_wp2_with fail
        go_ret
        exact ⟨rfl, HO.out _ _⟩
      case pos =>
        subst hm
        by_cases hu : u = u'
        case neg =>
          have e : Tr.same ⟨p, k, m, u, g, t, l, d⟩ ⟨p, k, m, u', g', t', l', d'⟩ = false := by simp [Tr.same, hu]
          have q : decide (u = u') = false := decide_eq_false hu
          rw [e]
          clear e
          go_enter Tryd.func20, Tryd.ntmps20
          go_wp2_with fail
          go_ret
          exact ⟨rfl, HO.out _ _⟩
        case pos =>
          subst hu
          by_cases hg : g = g'
          case neg =>
            have e : Tr.same ⟨p, k, m, u, g, t, l, d⟩ ⟨p, k, m, u, g', t', l', d'⟩ = false := by simp [Tr.same, hg]
            have q : decide (g = g') = false := decide_eq_false hg
            rw [e]
            clear e
            go_enter Tryd.func20, Tryd.ntmps20
            go_wp2_with fail
            go_ret
            exact ⟨rfl, HO.out _ _⟩
          case pos =>
            subst hg
            by_cases ht : t = t'
            case neg =>
              have e : Tr.same ⟨p, k, m, u, g, t, l, d⟩ ⟨p, k, m, u, g, t', l', d'⟩ = false := by simp [Tr.same, ht]
              have q : decide (t = t') = false := decide_eq_false ht
              rw [e]
              clear e
              go_enter Tryd.func20, Tryd.ntmps20
              go_wp2_with fail
              go_ret
              exact ⟨rfl, HO.out _ _⟩
            case pos =>
              subst ht
              by_cases hl : l = l'
              case neg =>
                have e : Tr.same ⟨p, k, m, u, g, t, l, d⟩ ⟨p, k, m, u, g, t, l', d'⟩ = false := by simp [Tr.same, hl]
                have q : (l == l') = false := beq_eq_false_iff_ne.2 hl
                rw [e]
                clear e
                go_enter Tryd.func20, Tryd.ntmps20
                go_wp2_with fail
                go_ret
                exact ⟨rfl, HO.out _ _⟩
              case pos =>
                subst hl
                have e : Tr.same ⟨p, k, m, u, g, t, l, d⟩ ⟨p, k, m, u, g, t, l, d'⟩ = (d == d') := by simp [Tr.same]
                rw [e]
                clear e
                go_enter Tryd.func20, Tryd.ntmps20
                go_wp2_with fail
                go_ret
                exact ⟨rfl, HO.out _ _⟩

end Go.Proofs.YtikkfmmdgicigaaDoor

namespace Go.Proofs.YtikkfmmdgicigaaDoor
open Go.RowKit Go.Sort

theorem only_grow (w : World) (n : Nat) (os : Array Obj) : Only (fun _ => False) w (grow (w.drewN n) os) :=
  ⟨rfl, rfl, rfl, by simp [grow, World.drewN], fun k hk _ => by simp [grow, World.drewN, Array.getElem?_append, hk]⟩
theorem grown_only {w w' : World} (h : Only (fun _ => False) w w') (hd : w.drawn ≤ w'.drawn) : ∃ q os', w' = grow (w.drewN q) os' := by
  refine ⟨w'.drawn - w.drawn, w'.heap.extract w.heap.size w'.heap.size, ?_⟩
  obtain ⟨heap', tape', drawn', os', output'⟩ := w'
  have e1 : os' = w.os := h.os
  have e2 : tape' = w.tape := h.tape
  have e3 : output' = w.output := h.output
  have hs : w.heap.size ≤ heap'.size := h.size
  have hb : ∀ k, k < w.heap.size → heap'[k]? = w.heap[k]? := fun k hk => h.block k hk (fun x => x)
  have hd' : w.drawn ≤ drawn' := hd
  subst e1 e2 e3
  have eh : heap' = w.heap ++ heap'.extract w.heap.size heap'.size := by
    apply Array.ext_getElem?
    intro k
    by_cases hk : k < w.heap.size
    · rw [Array.getElem?_append_left hk]; exact hb k hk
    · rw [Array.getElem?_append_right (by omega), Array.getElem?_extract]
      by_cases hk2 : k < heap'.size
      · rw [if_pos (by omega)]; congr 1; omega
      · rw [if_neg (by omega), Array.getElem?_eq_none (by omega)]
  have ed : drawn' = w.drawn + (drawn' - w.drawn) := by omega
  simp only [grow, World.drewN]
  rw [← ed]
  congr 1
/-- A contract for every later world, as a region that reads takes it. -/
theorem to_grown {P : Program} {f : FuncId} {args : Array Value} {v : Value} {w : World} (h : ∀ W, Only (fun _ => False) w W → Calls P f args W fun e w' => e = .returned v ∧ Only (fun _ => False) W w') :
    ∀ n os, Calls P f args (grow (w.drewN n) os) fun e w' => e = .returned v ∧ ∃ p : GrownBy, w' = grow (w.drewN p.n) p.os := fun n os =>
  Calls.grown_of ((calls_drawn (h _ (only_grow w n os))).mono fun _e _w' ⟨⟨he, ho⟩, hd⟩ => ⟨he, grown_only ho (hd _ he)⟩)
theorem mix_orders : Tryd.prog.follows .mixedOrders = true := by kernel_rfl

end Go.Proofs.YtikkfmmdgicigaaDoor

namespace Go.Proofs.YtikkfmmdgicigaaDoor
open Go.RowKit Go.Sort

namespace Tr
/-- The same entries, one by one. -/
def sameL : List En → List En → Bool
  | [], [] => true
  | a :: r, b :: s => same a b && sameL r s
  | _, _ => false
theorem sameL_iff : ∀ {a b : List En}, sameL a b = true ↔ a = b
  | [], [] => by simp [sameL]
  | [], _ :: _ => by simp [sameL]
  | _ :: _, [] => by simp [sameL]
  | a :: r, b :: s => by simp [sameL, same_iff, sameL_iff (a := r) (b := s)]
theorem sameL_len {a b : List En} (h : a.length ≠ b.length) : sameL a b = false := by
  rw [← Bool.not_eq_true, sameL_iff]
  rintro rfl
  exact h rfl
theorem sameL_at {a b : List En} {i : Nat} (h1 : i < a.length) (h2 : i < b.length) (h : same a[i] b[i] = false) : sameL a b = false := by
  rw [← Bool.not_eq_true, sameL_iff]
  rintro rfl
  rw [same_iff.2 rfl] at h
  cases h
theorem sameL_all {a b : List En} (hl : a.length = b.length) (h : ∀ i (h1 : i < a.length) (h2 : i < b.length), same a[i] b[i] = true) : sameL a b = true := by
  rw [sameL_iff]
  exact List.ext_getElem hl fun i h1 h2 => same_iff.1 (h i h1 h2)
end Tr

set_option maxRecDepth 100000 in
set_option maxHeartbeats 4000000 in
theorem r9Same_any {w : World} {v u : Value} {xs ys : List Ve} (hv : EntsAt w (fun k => k < w.heap.size) v xs) (hu : EntsAt w (fun k => k < w.heap.size) u ys) (hn : xs.length ≤ 9223372036854775807) (_hm : ys.length ≤ 9223372036854775807) :
    Calls Tryd.prog 18 #[v, u] w fun e w' => e = .returned (.bool (Tr.sameL (ens xs) (ens ys))) ∧ Only (fun _ => False) w w' := by
  obtain ⟨va, vc, rfl⟩ := hv.shape
  obtain ⟨ua, uc, rfl⟩ := hu.shape
  by_cases hl : xs.length = ys.length
  · have q : (xs.length : Int) = (ys.length : Int) := by omega
    have HV := Lib.hid hv; have HU := Lib.hid hu; have HL := Lib.hid hl
    clear hv hu hl
    go_enter Tryd.func18, Tryd.ntmps18
    go_wp2
    go_loopw [5] (fun iv wr => ∃ i : Nat, i ≤ xs.length ∧ iv = .int .i64 i ∧ (∀ j (h1 : j < xs.length) (h2 : j < ys.length), j < i → Tr.same xs[j].2 ys[j].2 = true) ∧ Only (fun _ => False) w wr) (fun iv _ => xs.length - (intOf iv).toNat)
    case atStart => exact ⟨0, Nat.zero_le _, rfl, fun j _ _ h => by omega, Only.refl _ _⟩
    case round =>
      obtain ⟨i, hi, rfl, hsame, ho⟩ := hrel
      by_cases hlt : i < xs.length
      · have hlt2 : i < ys.length := by have := HL.out; omega
        obtain ⟨g1, o1, a1, c1, rfl, hg1, k0, k1, k2, k3, k4, k5, k6, k7, hv1, hb1⟩ := (HV.out.quiet ho).at_ hlt
        obtain ⟨g2, o2, a2, c2, rfl, hg2, l0, l1, l2, l3, l4, l5, l6, l7, hv2, hb2⟩ := (HU.out.quiet ho).at_ hlt2
        have HC0 : ∀ W, Only (fun _ => False) wr W → Calls Tryd.prog 20 #[.agg #[.string ⟨xs[i].2.path.toArray⟩, .int .i64 xs[i].2.kind, .int .i64 xs[i].2.mode, .int .i64 xs[i].2.uid, .int .i64 xs[i].2.gid, .int .i64 xs[i].2.time, .string ⟨xs[i].2.link.toArray⟩, .slice a1 xs[i].2.data.length c1], .agg #[.string ⟨ys[i].2.path.toArray⟩, .int .i64 ys[i].2.kind, .int .i64 ys[i].2.mode, .int .i64 ys[i].2.uid, .int .i64 ys[i].2.gid, .int .i64 ys[i].2.time, .string ⟨ys[i].2.link.toArray⟩, .slice a2 ys[i].2.data.length c2]] W fun e w' => e = .returned (.bool (Tr.same xs[i].2 ys[i].2)) ∧ Only (fun _ => False) W w' := fun W hoW => by
          have := r9same_any (w := W) (x := xs[i]) (y := ys[i]) (by rw [hv1]; exact hb1.here hoW (fun _ h => h)) (by rw [hv2]; exact hb2.here hoW (fun _ h => h))
          unfold enV at this
          rw [hv1, hv2] at this
          exact this
        have fa0 : ∀ n os, (grow (wr.drewN n) os).cell? ⟨g1, o1 + i * 8, none⟩ = some (.string ⟨xs[i].2.path.toArray⟩) := fun n os => cell_keep (only_grow wr n os) (fun x => x) k0
        have fb0 : ∀ n os, (grow (wr.drewN n) os).cell? ⟨g2, o2 + i * 8, none⟩ = some (.string ⟨ys[i].2.path.toArray⟩) := fun n os => cell_keep (only_grow wr n os) (fun x => x) l0
        have fa1 : ∀ n os, (grow (wr.drewN n) os).cell? ⟨g1, o1 + i * 8 + 1, none⟩ = some (.int .i64 xs[i].2.kind) := fun n os => cell_keep (only_grow wr n os) (fun x => x) k1
        have fb1 : ∀ n os, (grow (wr.drewN n) os).cell? ⟨g2, o2 + i * 8 + 1, none⟩ = some (.int .i64 ys[i].2.kind) := fun n os => cell_keep (only_grow wr n os) (fun x => x) l1
        have fa2 : ∀ n os, (grow (wr.drewN n) os).cell? ⟨g1, o1 + i * 8 + 2, none⟩ = some (.int .i64 xs[i].2.mode) := fun n os => cell_keep (only_grow wr n os) (fun x => x) k2
        have fb2 : ∀ n os, (grow (wr.drewN n) os).cell? ⟨g2, o2 + i * 8 + 2, none⟩ = some (.int .i64 ys[i].2.mode) := fun n os => cell_keep (only_grow wr n os) (fun x => x) l2
        have fa3 : ∀ n os, (grow (wr.drewN n) os).cell? ⟨g1, o1 + i * 8 + 3, none⟩ = some (.int .i64 xs[i].2.uid) := fun n os => cell_keep (only_grow wr n os) (fun x => x) k3
        have fb3 : ∀ n os, (grow (wr.drewN n) os).cell? ⟨g2, o2 + i * 8 + 3, none⟩ = some (.int .i64 ys[i].2.uid) := fun n os => cell_keep (only_grow wr n os) (fun x => x) l3
        have fa4 : ∀ n os, (grow (wr.drewN n) os).cell? ⟨g1, o1 + i * 8 + 4, none⟩ = some (.int .i64 xs[i].2.gid) := fun n os => cell_keep (only_grow wr n os) (fun x => x) k4
        have fb4 : ∀ n os, (grow (wr.drewN n) os).cell? ⟨g2, o2 + i * 8 + 4, none⟩ = some (.int .i64 ys[i].2.gid) := fun n os => cell_keep (only_grow wr n os) (fun x => x) l4
        have fa5 : ∀ n os, (grow (wr.drewN n) os).cell? ⟨g1, o1 + i * 8 + 5, none⟩ = some (.int .i64 xs[i].2.time) := fun n os => cell_keep (only_grow wr n os) (fun x => x) k5
        have fb5 : ∀ n os, (grow (wr.drewN n) os).cell? ⟨g2, o2 + i * 8 + 5, none⟩ = some (.int .i64 ys[i].2.time) := fun n os => cell_keep (only_grow wr n os) (fun x => x) l5
        have fa6 : ∀ n os, (grow (wr.drewN n) os).cell? ⟨g1, o1 + i * 8 + 6, none⟩ = some (.string ⟨xs[i].2.link.toArray⟩) := fun n os => cell_keep (only_grow wr n os) (fun x => x) k6
        have fb6 : ∀ n os, (grow (wr.drewN n) os).cell? ⟨g2, o2 + i * 8 + 6, none⟩ = some (.string ⟨ys[i].2.link.toArray⟩) := fun n os => cell_keep (only_grow wr n os) (fun x => x) l6
        have fa7 : ∀ n os, (grow (wr.drewN n) os).cell? ⟨g1, o1 + i * 8 + 7, none⟩ = some (.slice a1 xs[i].2.data.length c1) := fun n os => cell_keep (only_grow wr n os) (fun x => x) k7
        have fb7 : ∀ n os, (grow (wr.drewN n) os).cell? ⟨g2, o2 + i * 8 + 7, none⟩ = some (.slice a2 ys[i].2.data.length c2) := fun n os => cell_keep (only_grow wr n os) (fun x => x) l7
        have pz : 0 ≤ (i : Int) := by omega
        have mz : (i : Int) < (xs.length : Int) := by omega
        have mz2 : (i : Int) < (ys.length : Int) := by omega
        have HO := Lib.hid ho; have HS := Lib.hid hsame
        have HC := Lib.hid (to_grown HC0)
        have hmix := mix_orders
        clear HC0
        clear hb1 hb2 hv1 hv2 ho hsame k0 k1 k2 k3 k4 k5 k6 k7 l0 l1 l2 l3 l4 l5 l6 l7
        by_cases hs : Tr.same xs[i].2 ys[i].2 = true
        · rw [hs] at HC
          have HS2 := Lib.hid hs
          clear hs q
          generalize xs[i].2.path = X0 at HC fa0
          generalize xs[i].2.kind = X1 at HC fa1
          generalize xs[i].2.mode = X2 at HC fa2
          generalize xs[i].2.uid = X3 at HC fa3
          generalize xs[i].2.gid = X4 at HC fa4
          generalize xs[i].2.time = X5 at HC fa5
          generalize xs[i].2.link = X6 at HC fa6
          generalize ys[i].2.path = Y0 at HC fb0
          generalize ys[i].2.kind = Y1 at HC fb1
          generalize ys[i].2.mode = Y2 at HC fb2
          generalize ys[i].2.uid = Y3 at HC fb3
          generalize ys[i].2.gid = Y4 at HC fb4
          generalize ys[i].2.time = Y5 at HC fb5
          generalize ys[i].2.link = Y6 at HC fb6
          generalize xs[i].2.data.length = X7 at HC fa7
          generalize ys[i].2.data.length = Y7 at HC fb7
          go_wp2_with fail
          go_quiet_grown (first | (go_at_call 20; exact HC.out _ _))
          go_wp2_with fail
          go_roundw
          case rel =>
            refine ⟨i + 1, by omega, by go_num, fun j h1 h2 hj => ?_, HO.out.trans (only_grow _ _ _)⟩
            rcases Nat.lt_or_ge j i with hji | hji
            · exact HS.out j h1 h2 hji
            · have : j = i := by omega
              subst this
              exact HS2.out
          case measure => simp [intOf]; omega
        · rw [Bool.not_eq_true] at hs
          rw [hs] at HC
          have e : Tr.sameL (ens xs) (ens ys) = false := Tr.sameL_at (i := i) (by rw [ens_len]; exact hlt) (by rw [ens_len]; exact hlt2) (by rw [ens_at hlt, ens_at hlt2]; exact hs)
          clear hs q
          generalize xs[i].2.path = X0 at HC fa0
          generalize xs[i].2.kind = X1 at HC fa1
          generalize xs[i].2.mode = X2 at HC fa2
          generalize xs[i].2.uid = X3 at HC fa3
          generalize xs[i].2.gid = X4 at HC fa4
          generalize xs[i].2.time = X5 at HC fa5
          generalize xs[i].2.link = X6 at HC fa6
          generalize ys[i].2.path = Y0 at HC fb0
          generalize ys[i].2.kind = Y1 at HC fb1
          generalize ys[i].2.mode = Y2 at HC fb2
          generalize ys[i].2.uid = Y3 at HC fb3
          generalize ys[i].2.gid = Y4 at HC fb4
          generalize ys[i].2.time = Y5 at HC fb5
          generalize ys[i].2.link = Y6 at HC fb6
          generalize xs[i].2.data.length = X7 at HC fa7
          generalize ys[i].2.data.length = Y7 at HC fb7
          go_wp2_with fail
          go_quiet_grown (first | (go_at_call 20; exact HC.out _ _))
          go_wp2_with fail
          go_ret
          exact ⟨by rw [e]; rfl, HO.out.trans (only_grow _ _ _)⟩
      · have hin : i = xs.length := by omega
        subst hin
        have e : Tr.sameL (ens xs) (ens ys) = true := Tr.sameL_all (by rw [ens_len, ens_len]; exact HL.out) (fun j h1 h2 => by rw [ens_at (by rw [ens_len] at h1; exact h1), ens_at (by rw [ens_len] at h2; exact h2)]; exact hsame j _ _ (by rw [ens_len] at h1; exact h1))
        have HO := Lib.hid ho
        clear ho hsame
        go_wp2
        go_ret
        exact ⟨by rw [e]; rfl, HO.out⟩
  · have q : ¬ (xs.length : Int) = (ys.length : Int) := by omega
    have e : Tr.sameL (ens xs) (ens ys) = false := Tr.sameL_len (by rw [ens_len, ens_len]; exact hl)
    rw [e]
    clear hv hu e
    go_enter Tryd.func18, Tryd.ntmps18
    go_wp2
    go_ret
    exact ⟨rfl, Only.refl _ _⟩


set_option maxRecDepth 100000 in
set_option maxHeartbeats 4000000 in
theorem eequal_any {w : World} {v u : Value} {xs ys : List Ve} (hv : EntsAt w (fun k => k < w.heap.size) v xs) (hu : EntsAt w (fun k => k < w.heap.size) u ys) (hn : xs.length ≤ 9223372036854775807) :
    Calls Tryd.prog 60 #[v, u, .func (.func 61) #[] #[]] w fun e w' => e = .returned (.bool (Tr.sameL (ens xs) (ens ys))) ∧ Only (fun _ => False) w w' := by
  obtain ⟨va, vc, rfl⟩ := hv.shape
  obtain ⟨ua, uc, rfl⟩ := hu.shape
  by_cases hl : xs.length = ys.length
  · have q : (xs.length : Int) = (ys.length : Int) := by omega
    have HV := Lib.hid hv; have HU := Lib.hid hu; have HL := Lib.hid hl
    clear hv hu hl
    go_enter Tryd.func60, Tryd.ntmps60
    go_wp2
    clear q
    go_loopw [17] (fun iv wr => ∃ i : Nat, i ≤ xs.length ∧ iv = .int .i64 i ∧ (∀ j (h1 : j < xs.length) (h2 : j < ys.length), j < i → Tr.same xs[j].2 ys[j].2 = true) ∧ Only (fun _ => False) w wr) (fun iv _ => xs.length - (intOf iv).toNat)
    case atStart => exact ⟨0, Nat.zero_le _, rfl, fun j _ _ h => by omega, Only.refl _ _⟩
    case round =>
      obtain ⟨i, hi, rfl, hsame, ho⟩ := hrel
      by_cases hlt : i < xs.length
      · have hlt2 : i < ys.length := by have := HL.out; omega
        obtain ⟨g1, o1, a1, c1, rfl, hg1, k0, k1, k2, k3, k4, k5, k6, k7, hv1, hb1⟩ := (HV.out.quiet ho).at_ hlt
        obtain ⟨g2, o2, a2, c2, rfl, hg2, l0, l1, l2, l3, l4, l5, l6, l7, hv2, hb2⟩ := (HU.out.quiet ho).at_ hlt2
        have HC : Hid (∀ W, Only (fun _ => False) wr W → Calls Tryd.prog 61 #[.agg #[.string ⟨xs[i].2.path.toArray⟩, .int .i64 xs[i].2.kind, .int .i64 xs[i].2.mode, .int .i64 xs[i].2.uid, .int .i64 xs[i].2.gid, .int .i64 xs[i].2.time, .string ⟨xs[i].2.link.toArray⟩, .slice a1 xs[i].2.data.length c1], .agg #[.string ⟨ys[i].2.path.toArray⟩, .int .i64 ys[i].2.kind, .int .i64 ys[i].2.mode, .int .i64 ys[i].2.uid, .int .i64 ys[i].2.gid, .int .i64 ys[i].2.time, .string ⟨ys[i].2.link.toArray⟩, .slice a2 ys[i].2.data.length c2]] W fun e w' => e = .returned (.bool (Tr.same xs[i].2 ys[i].2)) ∧ Only (fun _ => False) W w') := fun W hoW => by
          have := tsame_any (w := W) (x := xs[i]) (y := ys[i]) (by rw [hv1]; exact hb1.here hoW (fun _ h => h)) (by rw [hv2]; exact hb2.here hoW (fun _ h => h))
          unfold enV at this
          rw [hv1, hv2] at this
          exact this
        have pz : 0 ≤ (i : Int) := by omega
        have mz : (i : Int) < (xs.length : Int) := by omega
        have mz2 : (i : Int) < (ys.length : Int) := by omega
        have HO := Lib.hid ho; have HS := Lib.hid hsame
        have hso : Tr.same xs[i].2 ys[i].2 = true ∨ Tr.same xs[i].2 ys[i].2 = false := by cases Tr.same xs[i].2 ys[i].2 <;> simp
        have HE : Hid (Tr.same xs[i].2 ys[i].2 = false → Tr.sameL (ens xs) (ens ys) = false) := fun hs => Tr.sameL_at (i := i) (by rw [ens_len]; exact hlt) (by rw [ens_len]; exact hlt2) (by rw [ens_at hlt, ens_at hlt2]; exact hs)
        clear hb1 hb2 hv1 hv2 ho hsame
        obtain ⟨SB, hSB⟩ : ∃ b, Hid (Tr.same xs[i].2 ys[i].2 = b) := ⟨_, Lib.hid rfl⟩
        rw [hSB.out] at HC hso
        generalize xs[i].2.path = X0 at HC k0
        generalize xs[i].2.kind = X1 at HC k1
        generalize xs[i].2.mode = X2 at HC k2
        generalize xs[i].2.uid = X3 at HC k3
        generalize xs[i].2.gid = X4 at HC k4
        generalize xs[i].2.time = X5 at HC k5
        generalize xs[i].2.link = X6 at HC k6
        generalize xs[i].2.data.length = X7 at HC k7
        generalize ys[i].2.path = Y0 at HC l0
        generalize ys[i].2.kind = Y1 at HC l1
        generalize ys[i].2.mode = Y2 at HC l2
        generalize ys[i].2.uid = Y3 at HC l3
        generalize ys[i].2.gid = Y4 at HC l4
        generalize ys[i].2.time = Y5 at HC l5
        generalize ys[i].2.link = Y6 at HC l6
        generalize ys[i].2.data.length = Y7 at HC l7
        rcases hso with rfl | rfl
        · go_wp2_with (go_at_call 61; refine (HC.out _ ((Only.alloc _).trans (Only.alloc _))).mono ?_; rintro e w1 ⟨rfl, hq⟩; have HQ := Lib.hid (Only.trans ((Only.alloc _).trans (Only.alloc _)) hq); clear hq)
          go_roundw
          case rel =>
            refine ⟨i + 1, by omega, by go_num, fun j h1 h2 hj => ?_, HO.out.trans HQ.out⟩
            rcases Nat.lt_or_ge j i with hji | hji
            · exact HS.out j h1 h2 hji
            · have : j = i := by omega
              subst this
              exact hSB.out
          case measure => simp [intOf]; omega
        · go_wp2_with (go_at_call 61; refine (HC.out _ ((Only.alloc _).trans (Only.alloc _))).mono ?_; rintro e w1 ⟨rfl, hq⟩; have HQ := Lib.hid (Only.trans ((Only.alloc _).trans (Only.alloc _)) hq); clear hq)
          go_ret
          exact ⟨by rw [HE.out hSB.out]; rfl, HO.out.trans HQ.out⟩
      · have hin : i = xs.length := by omega
        subst hin
        have e : Tr.sameL (ens xs) (ens ys) = true := Tr.sameL_all (by rw [ens_len, ens_len]; exact HL.out) (fun j h1 h2 => by rw [ens_at (by rw [ens_len] at h1; exact h1), ens_at (by rw [ens_len] at h2; exact h2)]; exact hsame j _ _ (by rw [ens_len] at h1; exact h1))
        have HO := Lib.hid ho
        have q2 : (xs.length : Int) = (ys.length : Int) := by have := HL.out; omega
        clear ho hsame
        go_wp2
        go_ret
        exact ⟨by rw [e]; rfl, HO.out⟩
  · have q : ¬ (xs.length : Int) = (ys.length : Int) := by omega
    have e : Tr.sameL (ens xs) (ens ys) = false := Tr.sameL_len (by rw [ens_len, ens_len]; exact hl)
    rw [e]
    clear hv hu e
    go_enter Tryd.func60, Tryd.ntmps60
    go_wp2
    go_ret
    exact ⟨rfl, Only.refl _ _⟩

theorem tSame_any {w : World} {v u : Value} {xs ys : List Ve} (hv : EntsAt w (fun k => k < w.heap.size) v xs) (hu : EntsAt w (fun k => k < w.heap.size) u ys) (hn : xs.length ≤ 9223372036854775807) :
    Calls Tryd.prog 30 #[v, u] w fun e w' => e = .returned (.bool (Tr.sameL (ens xs) (ens ys))) ∧ Only (fun _ => False) w w' := by
  have HE := Lib.hid (eequal_any hv hu hn)
  clear hv hu
  go_enter Tryd.func30, Tryd.ntmps30
  go_wp2_with (go_at_call 60; refine HE.out.mono ?_; rintro e w1 ⟨rfl, hq⟩; have HQ := Lib.hid hq; clear hq)
  go_ret
  exact ⟨rfl, HQ.out⟩

/-- Small, by the law's own measure. -/
def SmallE (xs : List Ve) : Prop := xs.length ≤ 400 ∧ ∀ x ∈ xs, x.2.path.length ≤ 40099 ∧ x.2.link.length ≤ 40099 ∧ x.2.data.length ≤ 400999

def wtE (x : Ve) : Nat := 1 + x.2.data.length / 1000 + x.2.path.length / 100 + x.2.link.length / 100
def wtL : List Ve → Nat
  | [] => 0
  | x :: r => wtE x + wtL r
theorem wtL_snoc (l : List Ve) (x : Ve) : wtL (l ++ [x]) = wtL l + wtE x := by
  induction l with
  | nil => simp [wtL]
  | cons y r ih => simp only [List.cons_append, wtL, ih]; omega
theorem wtL_small : ∀ {l : List Ve}, wtL l ≤ 400 → l.length ≤ wtL l ∧ ∀ x ∈ l, wtE x ≤ 400
  | [], _ => by simp [wtL]
  | y :: r, h => by
    simp only [wtL] at h ⊢
    obtain ⟨h1, h2⟩ := wtL_small (l := r) (by omega)
    refine ⟨by simp; unfold wtE; omega, fun x hx => ?_⟩
    rcases List.mem_cons.1 hx with rfl | hx
    · omega
    · exact h2 x hx
theorem small_of_wt {xs : List Ve} (h : wtL xs ≤ 400) : SmallE xs := by
  obtain ⟨h1, h2⟩ := wtL_small h
  refine ⟨by omega, fun x hx => ?_⟩
  have := h2 x hx
  unfold wtE at this
  omega

set_option maxRecDepth 100000 in
set_option maxHeartbeats 2000000 in
theorem large9_any {w : World} {v : Value} {xs : List Ve} (hv : EntsAt w (fun k => k < w.heap.size) v xs) (hf : ∀ x ∈ xs, ArgFit x) (hn : xs.length ≤ 9223372036854775807) :
    Calls Tryd.prog 10 #[v] w fun e w' => ∃ b, e = .returned (.bool b) ∧ (b = false → SmallE xs) ∧ Only (fun _ => False) w w' := by
  obtain ⟨va, vc, rfl⟩ := hv.shape
  have HV := Lib.hid hv
  clear hv
  go_enter Tryd.func10, Tryd.ntmps10
  go_wp2
  go_loopw [3, 8] (fun nv iv wr => ∃ i : Nat, i ≤ xs.length ∧ iv = .int .i64 i ∧ nv = .int .i64 (wtL (xs.take i) : Nat) ∧ wtL (xs.take i) ≤ 400 ∧ Only (fun _ => False) w wr) (fun _ iv _ => xs.length - (intOf iv).toNat)
  case atStart => exact ⟨0, Nat.zero_le _, rfl, by simp [wtL], by simp [wtL], Only.refl _ _⟩
  case round =>
    obtain ⟨i, hi, rfl, rfl, hw4, ho⟩ := hrel
    by_cases hlt : i < xs.length
    · obtain ⟨g1, o1, a1, c1, rfl, hg1, k0, k1, k2, k3, k4, k5, k6, k7, hv1, hb1⟩ := (HV.out.quiet ho).at_ hlt
      have pz : 0 ≤ (i : Int) := by omega
      have mz : (i : Int) < (xs.length : Int) := by omega
      have hfx := hf xs[i] (List.getElem_mem hlt)
      unfold ArgFit at hfx
      have et : wtL (xs.take (i + 1)) = wtL (xs.take i) + wtE xs[i] := by rw [List.take_add_one, List.getElem?_eq_getElem hlt]; exact wtL_snoc _ _
      have HO := Lib.hid ho
      clear hb1 hv1 ho
      unfold wtE at et
      obtain ⟨h1, h2, h3⟩ := hfx
      generalize xs[i].2.path = P0 at *
      generalize xs[i].2.link = P6 at *
      generalize xs[i].2.data.length = P7 at *
      go_wp2_with fail
      · go_ret
        exact ⟨true, rfl, (by simp), HO.out.trans (Only.alloc _)⟩
      · exact ⟨⟨i + 1, by omega, by go_num, by rw [et]; exact congrArg (Value.int .i64) (by omega), by omega, HO.out.trans (Only.alloc _)⟩, by simp [intOf]; omega⟩
    · have hin : i = xs.length := by omega
      subst hin
      have HO := Lib.hid ho
      rw [List.take_length] at hw4
      have HS := Lib.hid (small_of_wt hw4)
      clear ho hw4
      go_wp2_with fail
      go_ret
      exact ⟨false, rfl, fun _ => HS.out, HO.out⟩

end Go.Proofs.YtikkfmmdgicigaaDoor
