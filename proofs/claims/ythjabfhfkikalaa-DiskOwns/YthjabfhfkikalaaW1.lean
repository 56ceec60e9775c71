/- The meter's walks: step, arm, restart. Conditions: none. -/
import Derived.Test.YthjabfhfkikalaaBase
import Derived.Test.YthjabfhfkikalaaModel
namespace Go.Proofs.Ythjabfhfkikalaa
open Go.RowKit

/-- The list of steps that will fail, as a slice: where it has no element nothing is asked of its place. -/
def FailsAt (w : World) (v : Value) (l : List Nat) (own : Option Nat) : Prop :=
  (l = [] ∧ own = none ∧ ∃ a c, v = .slice a 0 c) ∨
  ∃ g off cap c, own = some g ∧ v = .slice (some ⟨g, off, none⟩) l.length cap ∧ l.length ≤ cap ∧ cap ≤ maxLen ∧ w.heap[g]? = some (.cells c 3 (0, 0)) ∧ off + cap ≤ c.size ∧ (∀ i x, l[i]? = some x → c[off + i]? = some (.int .i64 (x : Nat)) ∧ x < 2 ^ 63)

/-- The disk's own block. -/
def diskCells (st : Nat) (dn ar : Bool) (lf : Nat) (fv : Value) (sz : Nat) (m1 m2 : Nat) (cv : Value) : Array Value :=
  #[.int .i64 st, .bool dn, .bool ar, .int .i64 lf, fv, .int .i64 sz, .map (some m1), .map (some m2), cv]

def DB (w : World) (b : Nat) (s : Dm.St) (fv : Value) (m1 m2 : Nat) (cv : Value) : Prop :=
  w.heap[b]? = some (.cells (diskCells s.steps s.down s.armed s.left fv s.size m1 m2 cv) 77 (0, 0))

def StepPost (b : Nat) (s : Dm.St) (own : Option Nat) (m1 m2 : Nat) (cv : Value) (w : World) (e : Ending) (w' : World) : Prop :=
  e = .returned (errV s.step.1) ∧ ∃ fv' own', DB w' b s.step.2 fv' m1 m2 cv ∧ FailsAt w' fv' s.step.2.fails own' ∧ (own' = own ∨ own' = none) ∧
    Only (fun k => k = b ∨ some k = own) w w' ∧ w'.heap.size = w.heap.size

theorem FailsAt.kept {w w' : World} {v : Value} {l : List Nat} {own : Option Nat} (h : FailsAt w v l own) (hk : ∀ g, own = some g → w'.heap[g]? = w.heap[g]?) : FailsAt w' v l own := by
  rcases h with h | ⟨g, off, cap, c, h1, h2, h3, h4, h5, h6⟩
  · exact .inl h
  · exact .inr ⟨g, off, cap, c, h1, h2, h3, h4, by rw [hk g h1]; exact h5, h6⟩

set_option maxRecDepth 100000 in
set_option maxHeartbeats 400000 in
theorem step_down (b : Nat) (w : World) (h2 : w.cell? ⟨b, 2, none⟩ = some (.bool true)) (h3 : w.cell? ⟨b, 3, none⟩ = some (.int .i64 0)) (f1 : w.frozen? ⟨b, 1, none⟩ = false) {u : Value} (h1 : w.cell? ⟨b, 1, none⟩ = some u) :
    Calls Try.prog 50 #[.pointer (some ⟨b, 0, none⟩)] w fun e w' => e = .returned (errV 1) ∧ w' = w.setCell ⟨b, 1, none⟩ (.bool true) := by
  go_enter Try.func50, Try.ntmps50
  go_wp2
  go_ret
  exact ⟨rfl, rfl⟩

set_option maxRecDepth 100000 in
set_option maxHeartbeats 400000 in
theorem step_nofails (b : Nat) (st : Nat) (w : World) (a : Option Addr) (cap : Nat)
  (h0 : w.cell? ⟨b,0,none⟩ = some (.int .i64 st)) (f0 : w.frozen? ⟨b,0,none⟩ = false)
  (h2 : w.cell? ⟨b,2,none⟩ = some (.bool false))
  (h4 : w.cell? ⟨b,4,none⟩ = some (.slice a 0 cap)) (hs2 : (st : Int) < 2^62):
    Calls Try.prog 50 #[.pointer (some ⟨b,0,none⟩)] w fun e w' => e = .returned .nilIface ∧ w' = w.setCell ⟨b,0,none⟩ (.int .i64 (st+1)) := by
  go_enter Try.func50, Try.ntmps50
  go_wp2
  go_ret
  exact ⟨rfl, rfl⟩

set_option maxRecDepth 100000 in
set_option maxHeartbeats 400000 in
theorem step_nofails_armed (b : Nat) (st lf : Nat) (w : World) (a : Option Addr) (cap : Nat)
  (h0 : w.cell? ⟨b,0,none⟩ = some (.int .i64 st)) (f0 : w.frozen? ⟨b,0,none⟩ = false)
  (h2 : w.cell? ⟨b,2,none⟩ = some (.bool true)) (h3 : w.cell? ⟨b,3,none⟩ = some (.int .i64 lf)) (f3 : w.frozen? ⟨b,3,none⟩ = false) (hl0 : ((lf : Int) == 0) = false) (hl : 0 < (lf : Int))  (hl2 : (lf : Int) < 2^63)
  (h4 : w.cell? ⟨b,4,none⟩ = some (.slice a 0 cap)) (hs2 : (st : Int) < 2^62):
    Calls Try.prog 50 #[.pointer (some ⟨b,0,none⟩)] w fun e w' => e = .returned .nilIface ∧ w' = (w.setCell ⟨b,0,none⟩ (.int .i64 (st+1))).setCell ⟨b,3,none⟩ (.int .i64 (lf-1)) := by
  go_enter Try.func50, Try.ntmps50
  go_wp2
  go_ret
  exact ⟨rfl, rfl⟩

theorem run_tail1 (g off len cap : Nat) (h : 0 < len) (h2 : len ≤ cap) (w : World) : (Instr.slice 24 (.slice (some ⟨g, off, none⟩) len cap) (some (.int .i64 1)) none none).run Try.prog w =
    .ok (.slice (some ⟨g, if cap = 1 then off else off + 1, none⟩) (len - 1) (cap - 1)) w := by
  rw [run_slice_l (ht := by kernel_rfl) (h0 := by omega) (h1 := by omega)]
  have hs : (sizeOf (Try.prog.elem 24)).run Try.prog w = .ok 1 w := by kernel_rfl
  rw [hs]
  simp only [Result.andThen, sliced]
  by_cases hc : cap = 1
  · subst hc; simp
  · have : ¬ cap - 1 = 0 := by omega
    simp [hc, Addr.add]

set_option maxRecDepth 100000 in
set_option maxHeartbeats 400000 in
theorem step_fails0 (b g off len cap : Nat) (st : Nat) (w : World) (hgb : g ≠ b) (hlen : 0 < len) (o1 l1 c1 : Nat)
  (hsl : ∀ w, (Instr.slice 24 (.slice (some ⟨g, off, none⟩) len cap) (some (.int .i64 1)) none none).run Try.prog w = .ok (.slice (some ⟨g, o1, none⟩) l1 c1) w)
  (h0 : w.cell? ⟨b,0,none⟩ = some (.int .i64 st)) (f0 : w.frozen? ⟨b,0,none⟩ = false) (f4 : w.frozen? ⟨b,4,none⟩ = false)
  (h2 : w.cell? ⟨b,2,none⟩ = some (.bool false))
  (h4 : w.cell? ⟨b,4,none⟩ = some (.slice (some ⟨g, off, none⟩) len cap)) (hg : w.cell? ⟨g, off, none⟩ = some (.int .i64 0)) (hs2 : (st : Int) < 2^62):
    Calls Try.prog 50 #[.pointer (some ⟨b,0,none⟩)] w fun e w' => e = .returned (errV 2) ∧ w' = (w.setCell ⟨b,0,none⟩ (.int .i64 (st+1))).setCell ⟨b,4,none⟩ (.slice (some ⟨g, o1, none⟩) l1 c1) := by
  have hl0 : ((len : Int) == 0) = false := by simp; omega
  go_enter Try.func50, Try.ntmps50
  go_wp2
  go_ret
  exact ⟨rfl, rfl⟩

set_option maxRecDepth 100000 in
set_option maxHeartbeats 400000 in
theorem step_fails0_armed (b g off len cap : Nat) (st lf : Nat) (w : World) (hgb : g ≠ b) (hlen : 0 < len) (o1 l1 c1 : Nat)
  (hsl : ∀ w, (Instr.slice 24 (.slice (some ⟨g, off, none⟩) len cap) (some (.int .i64 1)) none none).run Try.prog w = .ok (.slice (some ⟨g, o1, none⟩) l1 c1) w)
  (h0 : w.cell? ⟨b,0,none⟩ = some (.int .i64 st)) (f0 : w.frozen? ⟨b,0,none⟩ = false) (f4 : w.frozen? ⟨b,4,none⟩ = false)
  (h2 : w.cell? ⟨b,2,none⟩ = some (.bool true)) (h3 : w.cell? ⟨b,3,none⟩ = some (.int .i64 lf)) (f3 : w.frozen? ⟨b,3,none⟩ = false) (hl0 : ((lf : Int) == 0) = false) (hl : 0 < (lf : Int))  (hl2 : (lf : Int) < 2^63)
  (h4 : w.cell? ⟨b,4,none⟩ = some (.slice (some ⟨g, off, none⟩) len cap)) (hg : w.cell? ⟨g, off, none⟩ = some (.int .i64 0)) (hs2 : (st : Int) < 2^62) :
    Calls Try.prog 50 #[.pointer (some ⟨b,0,none⟩)] w fun e w' => e = .returned (errV 2) ∧ w' = ((w.setCell ⟨b,0,none⟩ (.int .i64 (st+1))).setCell ⟨b,3,none⟩ (.int .i64 (lf-1))).setCell ⟨b,4,none⟩ (.slice (some ⟨g, o1, none⟩) l1 c1) := by
  have hln : ((len : Int) == 0) = false := by simp; omega
  go_enter Try.func50, Try.ntmps50
  go_wp2
  go_ret
  exact ⟨rfl, rfl⟩

set_option maxRecDepth 100000 in
set_option maxHeartbeats 400000 in
theorem step_dec (b g off len cap : Nat) (st x : Nat) (w : World) (hgb : g ≠ b) (hlen : 0 < len)
  (h0 : w.cell? ⟨b,0,none⟩ = some (.int .i64 st)) (f0 : w.frozen? ⟨b,0,none⟩ = false) (fg : w.frozen? ⟨g, off, none⟩ = false)
  (h2 : w.cell? ⟨b,2,none⟩ = some (.bool false))
  (h4 : w.cell? ⟨b,4,none⟩ = some (.slice (some ⟨g, off, none⟩) len cap)) (hg : w.cell? ⟨g, off, none⟩ = some (.int .i64 x)) (hs2 : (st : Int) < 2^62) (hx0 : ((x : Int) == 0) = false) (hx : 0 < (x : Int)) (hx2 : (x : Int) < 2^63) :
    Calls Try.prog 50 #[.pointer (some ⟨b,0,none⟩)] w fun e w' => e = .returned (errV 0) ∧ w' = (w.setCell ⟨b,0,none⟩ (.int .i64 (st+1))).setCell ⟨g,off,none⟩ (.int .i64 (x-1)) := by
  have hln : ((len : Int) == 0) = false := by simp; omega
  go_enter Try.func50, Try.ntmps50
  go_wp2
  go_ret
  exact ⟨rfl, rfl⟩

set_option maxRecDepth 100000 in
set_option maxHeartbeats 400000 in
theorem step_dec_armed (b g off len cap : Nat) (st lf x : Nat) (w : World) (hgb : g ≠ b) (hlen : 0 < len)
  (h0 : w.cell? ⟨b,0,none⟩ = some (.int .i64 st)) (f0 : w.frozen? ⟨b,0,none⟩ = false) (fg : w.frozen? ⟨g, off, none⟩ = false)
  (h2 : w.cell? ⟨b,2,none⟩ = some (.bool true)) (h3 : w.cell? ⟨b,3,none⟩ = some (.int .i64 lf)) (f3 : w.frozen? ⟨b,3,none⟩ = false) (hl0 : ((lf : Int) == 0) = false) (hl : 0 < (lf : Int))  (hl2 : (lf : Int) < 2^63)
  (h4 : w.cell? ⟨b,4,none⟩ = some (.slice (some ⟨g, off, none⟩) len cap)) (hg : w.cell? ⟨g, off, none⟩ = some (.int .i64 x)) (hs2 : (st : Int) < 2^62) (hx0 : ((x : Int) == 0) = false) (hx : 0 < (x : Int)) (hx2 : (x : Int) < 2^63) :
    Calls Try.prog 50 #[.pointer (some ⟨b,0,none⟩)] w fun e w' => e = .returned (errV 0) ∧ w' = ((w.setCell ⟨b,0,none⟩ (.int .i64 (st+1))).setCell ⟨b,3,none⟩ (.int .i64 (lf-1))).setCell ⟨g,off,none⟩ (.int .i64 (x-1)) := by
  have hln : ((len : Int) == 0) = false := by simp; omega
  go_enter Try.func50, Try.ntmps50
  go_wp2
  go_ret
  exact ⟨rfl, rfl⟩

end Go.Proofs.Ythjabfhfkikalaa
