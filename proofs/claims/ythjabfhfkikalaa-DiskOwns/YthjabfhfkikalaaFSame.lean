/- The same files twice: amphoranum.Files says so. Conditions: at most 4096 files. -/
import Derived.Test.YthjabfhfkikalaaFiles
import Derived.Deep.QuietTactic
import Derived.BigQuiet
namespace Go.Proofs.Ythjabfhfkikalaa
open Go.RowKit Go.Maps Go.WideMaps

theorem FilesAt.at_ {w : World} {S : Nat → Prop} {a : Option Addr} {c : Nat} {l : List (Dm.Nm × List UInt8)} (h : FilesAt w S (.slice a l.length c) l) {i : Nat} (hi : i < l.length) :
    ∃ g o da dc, a = some ⟨g, o, none⟩ ∧ w.cell? ⟨g, o + i * 2, none⟩ = some (str l[i].1) ∧ w.cell? ⟨g, o + i * 2 + 1, none⟩ = some (.slice da l[i].2.length dc) ∧ BytesAt w S (.slice da l[i].2.length dc) l[i].2 := by
  obtain ⟨a', c', h1, h2⟩ := h
  obtain ⟨ha, _, _⟩ := Value.slice.inj h1
  obtain ⟨ad, dv, e, hS, hc0, hc1, hb⟩ := h2 i hi
  obtain ⟨ad0, dv0, e0, _, hz, _, _⟩ := h2 0 (by omega)
  rw [e] at e0
  cases e0
  have ez : ad.add (0 * 2) = ad := by unfold Addr.add; simp
  rw [ez] at hz
  have ead := addr_of_cell hz
  obtain ⟨da, dc, hd⟩ := hb.shape
  subst hd
  refine ⟨ad.block, ad.off, da, dc, by rw [ha, e]; exact congrArg some ead, ?_, ?_, hb⟩
  · rw [ead, add_lit] at hc0
    exact hc0
  · rw [ead, add_lit] at hc1
    rw [Nat.add_assoc]
    exact hc1

theorem FilesAt.shape {w : World} {S : Nat → Prop} {v : Value} {l : List (Dm.Nm × List UInt8)} (h : FilesAt w S v l) : ∃ a c, v = .slice a l.length c := by
  obtain ⟨a, c, h1, _⟩ := h
  exact ⟨a, c, h1⟩

set_option maxRecDepth 100000 in
set_option maxHeartbeats 1000000 in
theorem numFiles_same {w : World} {S S' : Nat → Prop} {va vb : Value} {l : List (Dm.Nm × List UInt8)} (ha : FilesAt w S va l) (hb : FilesAt w S' vb l) (hl : l.length ≤ 4096) :
    Calls Try.prog 16 #[va, vb] w fun e w' => e = .returned (.bool true) ∧ Only (fun _ => False) w w' := by
  obtain ⟨aa, ac, e1⟩ := ha.shape
  obtain ⟨ba, bc, e2⟩ := hb.shape
  subst e1 e2
  have HA := Lib.hid ha; have HB := Lib.hid hb
  clear ha hb
  go_enter Try.func16, Try.ntmps16
  go_wp2
  go_loopw [13] (fun iv wr => ∃ k : Nat, k ≤ l.length ∧ iv = .int .i64 k ∧ wr.heap = w.heap ∧ Only (fun _ => False) w wr) (fun iv _ => l.length - (intOf iv).toNat)
  case atStart => exact ⟨0, Nat.zero_le _, rfl, rfl, Only.refl _ _⟩
  case round =>
    obtain ⟨k, hk, rfl, hh, how⟩ := hrel
    by_cases hlt : k < l.length
    · obtain ⟨g1, o1, d1, q1, ea, a0, a1, hab⟩ := (HA.out.kept (w' := wr) (S' := fun _ => True) (fun _ _ => by rw [hh]) (fun _ _ => trivial)).at_ hlt
      obtain ⟨g2, o2, d2, q2, eb, b0, b1, hbb⟩ := (HB.out.kept (w' := wr) (S' := fun _ => True) (fun _ _ => by rw [hh]) (fun _ _ => trivial)).at_ hlt
      subst ea eb
      generalize l[k] = x at *
      obtain ⟨nm, bs⟩ := x
      unfold str at a0 b0
      have t1 : ∀ nq, (convert 22 9 (.slice d1 bs.length q1)).run Try.prog (wr.drewN nq) = .ok (.string ⟨bs.toArray⟩) (wr.drewN nq) := fun nq => (hab.kept (w' := wr.drewN nq) (S' := fun _ => True) (fun _ _ => by rw [heap_drewN]) (fun _ h => h)).text
      have t1' : (convert 22 9 (.slice d1 bs.length q1)).run Try.prog wr = .ok (.string ⟨bs.toArray⟩) wr := hab.text
      have t2 : ∀ nq, (convert 22 9 (.slice d2 bs.length q2)).run Try.prog (wr.drewN nq) = .ok (.string ⟨bs.toArray⟩) (wr.drewN nq) := fun nq => (hbb.kept (w' := wr.drewN nq) (S' := fun _ => True) (fun _ _ => by rw [heap_drewN]) (fun _ h => h)).text
      have t2' : (convert 22 9 (.slice d2 bs.length q2)).run Try.prog wr = .ok (.string ⟨bs.toArray⟩) wr := hbb.text
      have hi1 : (0 : Int) ≤ (k : Int) := by omega
      have hi2 : (k : Int) < (l.length : Int) := by omega
      have HOW := Lib.hid how; have HH := Lib.hid hh
      clear hab hbb how hh
      go_wp2
      go_quiet (fail)
      have hod : Only (fun _ => False) wr (wr.drewN nq) := ⟨rfl, rfl, rfl, Nat.le_refl _, fun _ _ _ => rfl⟩
      have HFIN := Lib.hid (HOW.out.trans hod)
      clear hod t1 t2 t1' t2' a0 a1 b0 b1
      go_wp2
      go_roundw
      case rel => exact ⟨k + 1, by omega, by go_num, HH.out, HFIN.out⟩
      case measure => simp [intOf]; omega
    · have hk' : k = l.length := by omega
      subst hk'
      have HOW := Lib.hid how
      clear how hh
      go_wp2
      go_ret
      exact ⟨rfl, HOW.out⟩

end Go.Proofs.Ythjabfhfkikalaa
