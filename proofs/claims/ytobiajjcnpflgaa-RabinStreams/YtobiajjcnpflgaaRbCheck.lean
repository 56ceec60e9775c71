/- rabin.Check, and the document's. Conditions: none. -/
import Derived.Test.YtobiajjcnpflgaaRbNew
import Derived.Test.YtobiajjcnpflgaaPoRefI
import Derived.Deep.DeepCutAuto
namespace Go.Proofs.Ytobiajjcnpflgaa
open Go.RowKit

/-- Settings. -/
structure Set7 where
  P : Nat
  W : Int
  L : Int
  H : Int
  B : Int

def setL (s : Set7) : List Value := [.int .u64 (s.P : Int), .int .i64 s.W, .int .i64 s.L, .int .i64 s.H, .int .i64 s.B]
def setV (s : Set7) : Value := .agg #[.int .u64 (s.P : Int), .int .i64 s.W, .int .i64 s.L, .int .i64 s.H, .int .i64 s.B]

namespace Rb
def dg (P : Nat) : Int := (Lib.bitLen P : Int) - 1
noncomputable def gp (P : Nat) : Bool := (decide (dg P ≥ 8) && decide (dg P ≤ 55)) && Gf.irr P
def gw (W : Int) : Bool := decide (W ≥ 1) && decide (W ≤ 64)
def gl (W L H : Int) : Bool := (decide (W ≤ L) && decide (L ≤ H)) && decide (H ≤ 65536)
def gb (D B : Int) : Bool := decide (B ≥ 0) && decide (B ≤ min D 20)
noncomputable def good (s : Set7) : Bool := ((gp s.P && gw s.W) && gl s.W s.L s.H) && gb (dg s.P) s.B
end Rb

structure SetAt (w : World) (g : Nat) (s : Set7) : Prop where
  c0 : w.cell? ⟨g, 0, none⟩ = some (.int .u64 (s.P : Int))
  c1 : w.cell? ⟨g, 1, none⟩ = some (.int .i64 s.W)
  c2 : w.cell? ⟨g, 2, none⟩ = some (.int .i64 s.L)
  c3 : w.cell? ⟨g, 3, none⟩ = some (.int .i64 s.H)
  c4 : w.cell? ⟨g, 4, none⟩ = some (.int .i64 s.B)
theorem SetAt.of_blk {w : World} {g : Nat} {s : Set7} {t : TypeId} (h : Blk w g (setL s) t) : SetAt w g s :=
  ⟨by rw [h.cell]; rfl, by rw [h.cell]; rfl, by rw [h.cell]; rfl, by rw [h.cell]; rfl, by rw [h.cell]; rfl⟩

set_option maxRecDepth 100000 in
set_option maxHeartbeats 1000000 in
theorem check_any (s : Set7) (h64 : s.P < 18446744073709551616) (w : World) :
    Calls Try.prog 17 #[setV s] w fun e w' => e = .returned (errV (if Rb.good s = true then 0 else 11)) ∧ Quiet w w' := by
  have HD := Lib.hid (fun W => deg_any h64 W)
  have HI := Lib.hid (fun W => irr_any h64 W)
  change Hid (∀ W, Calls _ _ _ W fun e w' => e = .returned (.int .i64 (Rb.dg s.P)) ∧ W = w') at HD
  have hb := Gf.len_le h64
  have hD1 : -1 ≤ Rb.dg s.P := by unfold Rb.dg; omega
  have hD2 : Rb.dg s.P ≤ 63 := by unfold Rb.dg; omega
  have HGP : Hid (Rb.gp s.P = ((decide (Rb.dg s.P ≥ 8) && decide (Rb.dg s.P ≤ 55)) && Gf.irr s.P)) := rfl
  have HGW : Hid (Rb.gw s.W = (decide (s.W ≥ 1) && decide (s.W ≤ 64))) := rfl
  have HGL : Hid (Rb.gl s.W s.L s.H = ((decide (s.W ≤ s.L) && decide (s.L ≤ s.H)) && decide (s.H ≤ 65536))) := rfl
  have HGB : Hid (Rb.gb (Rb.dg s.P) s.B = (decide (s.B ≥ 0) && decide (s.B ≤ min (Rb.dg s.P) 20))) := rfl
  unfold Rb.good setV
  have HB0 : Hid (Blk (w.alloc (.cells #[.int .u64 (s.P : Int), .int .i64 s.W, .int .i64 s.L, .int .i64 s.H, .int .i64 s.B] 24)) w.heap.size (setL s) 24) := Blk.new w (setL s) 24
  have HQ0 : Hid (Quiet w (w.alloc (.cells #[.int .u64 (s.P : Int), .int .i64 s.W, .int .i64 s.L, .int .i64 s.H, .int .i64 s.B] 24))) := Only.alloc _
  generalize Gf.irr s.P = I at *
  generalize Rb.dg s.P = D at *
  generalize Rb.gp s.P = gp at *
  generalize Rb.gw s.W = gw at *
  generalize Rb.gl s.W s.L s.H = gl at *
  generalize Rb.gb D s.B = gb at *
  have hmin : ∀ (t : Array TypeId) (q : TypeId) (W : World), (Builtin.min_ t q #[.int .i64 D, .int .i64 20]).run Try.prog W = .ok (.int .i64 (min D 20)) W := fun t q W => by
    rw [run_min_int2]
    congr 2
    split <;> omega
  go_enter Try.func17, Try.ntmps17
  go_upto_region 2 with (first | (go_at_call 32; refine (HD.out _).mono ?_; rintro e w' ⟨rfl, rfl⟩))
  generalize w.alloc (.cells #[.int .u64 (s.P : Int), .int .i64 s.W, .int .i64 s.L, .int .i64 s.H, .int .i64 s.B] 24) = w0 at *
  go_cut [4] (fun s4 wx => s4 = .bool gp ∧ Quiet w0 wx)
  case first =>
    obtain ⟨c0, c1, c2, c3, c4⟩ := SetAt.of_blk HB0.out
    by_cases a1 : D ≥ 8
    · by_cases a2 : D ≤ 55
      · have e : gp = I := by rw [HGP.out]; simp [a1, a2]
        subst e
        go_wp2_with fail
        refine (HI.out _).mono ?_
        rintro e w2 ⟨rfl, hq⟩
        go_wp2_with fail
        go_meet
        exact ⟨rfl, hq⟩
      · have e : gp = false := by rw [HGP.out]; simp [a2]
        subst e
        go_wp2_with fail
        go_meet
        exact ⟨rfl, Only.refl _ _⟩
    · have e : gp = false := by rw [HGP.out]; simp [a1]
      subst e
      go_wp2_with fail
      go_meet
      exact ⟨rfl, Only.refl _ _⟩
  case rest =>
    obtain ⟨rfl, hqx⟩ := hcut
    have HB1 := Lib.hid (HB0.out.keep hqx (fun x => x))
    have HQ1 := Lib.hid (HQ0.out.trans hqx)
    clear hqx HB0 HQ0
    obtain ⟨w1, hw1⟩ : ∃ q, q = wc := ⟨_, rfl⟩
    subst hw1
    obtain ⟨c0, c1, c2, c3, c4⟩ := SetAt.of_blk HB1.out
    go_upto_region 3 with (fail)
    go_cut [5] (fun s5 wx => s5 = .bool gw ∧ w1 = wx)
    case first =>
      by_cases a1 : s.W ≥ 1
      · by_cases a2 : s.W ≤ 64
        · have e : gw = true := by rw [HGW.out]; simp [a1, a2]
          subst e
          go_wp2_with fail
          go_meet
          exact ⟨rfl, rfl⟩
        · have e : gw = false := by rw [HGW.out]; simp [a2]
          subst e
          go_wp2_with fail
          go_meet
          exact ⟨rfl, rfl⟩
      · have e : gw = false := by rw [HGW.out]; simp [a1]
        subst e
        go_wp2_with fail
        go_meet
        exact ⟨rfl, rfl⟩
    case rest =>
      obtain ⟨rfl, rfl⟩ := hcut
      go_upto_region 4 with (fail)
      go_cut [6] (fun s6 wx => s6 = .bool gl ∧ w1 = wx)
      case first =>
        by_cases a1 : s.W ≤ s.L
        · by_cases a2 : s.L ≤ s.H
          · by_cases a3 : s.H ≤ 65536
            · have e : gl = true := by rw [HGL.out]; simp [a1, a2, a3]
              subst e
              go_wp2_with fail
              go_meet
              exact ⟨rfl, rfl⟩
            · have e : gl = false := by rw [HGL.out]; simp [a3]
              subst e
              go_wp2_with fail
              go_meet
              exact ⟨rfl, rfl⟩
          · have e : gl = false := by rw [HGL.out]; simp [a2]
            subst e
            go_wp2_with fail
            go_meet
            exact ⟨rfl, rfl⟩
        · have e : gl = false := by rw [HGL.out]; simp [a1]
          subst e
          go_wp2_with fail
          go_meet
          exact ⟨rfl, rfl⟩
      case rest =>
        obtain ⟨rfl, rfl⟩ := hcut
        go_upto_region 5 with (fail)
        go_cut [7] (fun s7 wx => s7 = .bool gb ∧ w1 = wx)
        case first =>
          generalize min D 20 = M at *
          by_cases a1 : s.B ≥ 0
          · by_cases a2 : s.B ≤ M
            · have e : gb = true := by rw [HGB.out]; simp [a1, a2]
              subst e
              go_wp2_with fail
              go_meet
              exact ⟨rfl, rfl⟩
            · have e : gb = false := by rw [HGB.out]; simp [a2]
              subst e
              go_wp2_with fail
              go_meet
              exact ⟨rfl, rfl⟩
          · have e : gb = false := by rw [HGB.out]; simp [a1]
            subst e
            go_wp2_with fail
            go_meet
            exact ⟨rfl, rfl⟩
        case rest =>
          obtain ⟨rfl, rfl⟩ := hcut
          cases gp <;> cases gw <;> cases gl <;> cases gb
          all_goals
            go_wp2_with fail
            go_ret
            exact ⟨rfl, HQ1.out⟩

namespace Rb
def ga (D : Int) (s : Set7) : Bool := decide (D ≥ 8) && (decide (D ≤ 55) && (decide (s.W ≥ 1) && (decide (s.W ≤ 64) && (decide (s.W ≤ s.L) && (decide (s.L ≤ s.H) && decide (s.H ≤ 65536))))))
def gc (D B : Int) : Bool := decide (B ≥ 0) && (decide (B ≤ D) && decide (B ≤ 20))
theorem good_as (s : Set7) : good s = (ga (dg s.P) s && (gc (dg s.P) s.B && Gf.irr s.P)) := by
  unfold good gp gw gl gb ga gc
  generalize dg s.P = D
  generalize Gf.irr s.P = I
  have e : decide (s.B ≤ min D 20) = (decide (s.B ≤ D) && decide (s.B ≤ 20)) := by
    by_cases h1 : s.B ≤ D <;> by_cases h2 : s.B ≤ 20 <;> simp [h1, h2] <;> omega
  rw [e]
  cases decide (D ≥ 8) <;> cases decide (D ≤ 55) <;> cases decide (s.W ≥ 1) <;> cases decide (s.W ≤ 64) <;> cases I <;> simp [Bool.and_assoc]
end Rb

set_option maxRecDepth 100000 in
set_option maxHeartbeats 1000000 in
theorem r7check_any (s : Set7) (h64 : s.P < 18446744073709551616) (w : World) :
    Calls Try.prog 23 #[setV s] w fun e w' => e = .returned (.int .i64 (if Rb.good s = true then 0 else 11)) ∧ Quiet w w' := by
  have HD := Lib.hid (fun W => r6deg_any h64 W)
  have HI := Lib.hid (fun W => r6irr_any h64 W)
  change Hid (∀ W, Calls _ _ _ W fun e w' => e = .returned (.int .i64 (Rb.dg s.P)) ∧ W = w') at HD
  have hb := Gf.len_le h64
  have hD1 : -1 ≤ Rb.dg s.P := by unfold Rb.dg; omega
  have hD2 : Rb.dg s.P ≤ 63 := by unfold Rb.dg; omega
  have HA : Hid (Rb.ga (Rb.dg s.P) s = _) := rfl
  have HA2 : Hid (Rb.gc (Rb.dg s.P) s.B = _) := rfl
  unfold Rb.ga at HA
  unfold Rb.gc at HA2
  change Hid (Rb.ga (Rb.dg s.P) s = _) at HA
  change Hid (Rb.gc (Rb.dg s.P) s.B = _) at HA2
  rw [Rb.good_as]
  unfold setV
  have HB0 : Hid (Blk (w.alloc (.cells #[.int .u64 (s.P : Int), .int .i64 s.W, .int .i64 s.L, .int .i64 s.H, .int .i64 s.B] 24)) w.heap.size (setL s) 24) := Blk.new w (setL s) 24
  have HQ0 : Hid (Quiet w (w.alloc (.cells #[.int .u64 (s.P : Int), .int .i64 s.W, .int .i64 s.L, .int .i64 s.H, .int .i64 s.B] 24))) := Only.alloc _
  generalize Gf.irr s.P = I at *
  generalize Rb.dg s.P = D at *
  generalize Rb.ga D s = A at *
  generalize Rb.gc D s.B = A2 at *
  go_enter Try.func23, Try.ntmps23
  go_upto_region 2 with (first | (go_at_call 39; refine (HD.out _).mono ?_; rintro e w' ⟨rfl, rfl⟩))
  generalize w.alloc (.cells #[.int .u64 (s.P : Int), .int .i64 s.W, .int .i64 s.L, .int .i64 s.H, .int .i64 s.B] 24) = w0 at *
  obtain ⟨c0, c1, c2, c3, c4⟩ := SetAt.of_blk HB0.out
  go_cut [4] (fun s4 wx => s4 = .bool A ∧ w0 = wx)
  case first =>
    by_cases a1 : D ≥ 8
    · skip
      by_cases a2 : D ≤ 55
      · skip
        by_cases a3 : s.W ≥ 1
        · skip
          by_cases a4 : s.W ≤ 64
          · skip
            by_cases a5 : s.W ≤ s.L
            · skip
              by_cases a6 : s.L ≤ s.H
              · skip
                by_cases a7 : s.H ≤ 65536
                · skip
                  have e : A = true := by rw [HA.out]; simp [a1, a2, a3, a4, a5, a6, a7]
                  subst e
                  go_wp2_with fail
                  go_meet
                  exact ⟨rfl, rfl⟩
                · have e : A = false := by rw [HA.out]; simp [a7]
                  subst e
                  go_wp2_with fail
                  go_meet
                  exact ⟨rfl, rfl⟩
              · have e : A = false := by rw [HA.out]; simp [a6]
                subst e
                go_wp2_with fail
                go_meet
                exact ⟨rfl, rfl⟩
            · have e : A = false := by rw [HA.out]; simp [a5]
              subst e
              go_wp2_with fail
              go_meet
              exact ⟨rfl, rfl⟩
          · have e : A = false := by rw [HA.out]; simp [a4]
            subst e
            go_wp2_with fail
            go_meet
            exact ⟨rfl, rfl⟩
        · have e : A = false := by rw [HA.out]; simp [a3]
          subst e
          go_wp2_with fail
          go_meet
          exact ⟨rfl, rfl⟩
      · have e : A = false := by rw [HA.out]; simp [a2]
        subst e
        go_wp2_with fail
        go_meet
        exact ⟨rfl, rfl⟩
    · have e : A = false := by rw [HA.out]; simp [a1]
      subst e
      go_wp2_with fail
      go_meet
      exact ⟨rfl, rfl⟩
  case rest =>
    obtain ⟨rfl, rfl⟩ := hcut
    go_upto_region 3 with (fail)
    go_cut [4] (fun s4 wx => s4 = .bool (A && A2) ∧ w0 = wx)
    case first =>
      cases A
      · go_wp2_with fail
        go_meet
        exact ⟨rfl, rfl⟩
      · skip
        by_cases a1 : s.B ≥ 0
        · skip
          by_cases a2 : s.B ≤ D
          · skip
            by_cases a3 : s.B ≤ 20
            · skip
              have e : A2 = true := by rw [HA2.out]; simp [a1, a2, a3]
              subst e
              go_wp2_with fail
              go_meet
              exact ⟨rfl, rfl⟩
            · have e : A2 = false := by rw [HA2.out]; simp [a3]
              subst e
              go_wp2_with fail
              go_meet
              exact ⟨rfl, rfl⟩
          · have e : A2 = false := by rw [HA2.out]; simp [a2]
            subst e
            go_wp2_with fail
            go_meet
            exact ⟨rfl, rfl⟩
        · have e : A2 = false := by rw [HA2.out]; simp [a1]
          subst e
          go_wp2_with fail
          go_meet
          exact ⟨rfl, rfl⟩
    case rest =>
      obtain ⟨rfl, rfl⟩ := hcut
      cases A
      · go_wp2_with fail
        go_ret
        exact ⟨rfl, HQ0.out⟩
      · cases A2
        · go_wp2_with fail
          go_ret
          exact ⟨rfl, HQ0.out⟩
        · go_wp2_with fail
          refine (HI.out _).mono ?_
          rintro e w2 ⟨rfl, hq⟩
          have HQ2 := Lib.hid (HQ0.out.trans hq)
          clear hq
          cases I
          · go_wp2_with fail
            go_ret
            exact ⟨rfl, HQ2.out⟩
          · go_wp2_with fail
            go_ret
            exact ⟨rfl, HQ2.out⟩

end Go.Proofs.Ytobiajjcnpflgaa
