/- find, alter, Create, Remove, Rename. Conditions: counts far from an int's end; names no longer than Go's own limit. -/
import Derived.Test.YthjabfhfkikalaaRep
import Derived.Deep.DeepCutAuto
namespace Go.Proofs.Ythjabfhfkikalaa
open Go.RowKit Go.Maps Go.WideMaps

def readyE (dn : Bool) (ns : List ByteArray) : Nat := if dn then 1 else nameErr ns

theorem ready1 (b : Nat) (n : ByteArray) (w : World) (dn : Bool) (hb : b < w.heap.size) (hd : w.cell? ⟨b, 1, none⟩ = some (.bool dn)) {x : Nat} (hx : readyE dn [n] = x) :
    Calls Try.prog 45 #[.pointer (some ⟨b, 0, none⟩), .slice (some ⟨w.heap.size, 0, none⟩) 1 1] (w.alloc (.cells #[.string n] 9)) fun e w' => e = .returned (errV x) ∧ w.alloc (.cells #[.string n] 9) = w' := by
  have hd' : (w.alloc (.cells #[.string n] 9)).cell? ⟨b, 1, none⟩ = some (.bool dn) := by
    rw [World.cell?_of_block (Below.heap_alloc w _ b hb)]; exact hd
  subst hx
  cases dn
  · exact ready_some b w.heap.size 1 [n] _ hd' (by simp) (by
      intro i hi
      simp at hi
      subst hi
      simp)
  · exact ready_down b _ _ hd'

def FindPost (r : Nat × Option Nat) (fls : List Fl) (w : World) (e : Ending) (w' : World) : Prop :=
  e = .returned (.tuple #[optPtr (r.2.map (blkOf fls)), errV r.1]) ∧ Only (fun _ => False) w w'

set_option maxHeartbeats 400000 in
theorem find_rep {w : World} {b : Nat} {ρ : Roles} {L : Lay} {s : Dm.St} (h : Rep w b ρ L s) (n : ByteArray) (hn : n.size ≤ maxLen) :
    Calls Try.prog 44 #[.pointer (some ⟨b, 0, none⟩), .string n] w (FindPost (s.find n.data.toList) L.fls w) := by
  have hbl := h.blk.lt
  have hd1 := h.blk.c1
  have hal : Only (fun _ => False) w (w.alloc (.cells #[.string n] 9)) := Only.alloc _
  cases hdn : s.down with
  | true =>
    have e : s.find n.data.toList = (1, none) := by simp [Dm.St.find, hdn]
    have hr := ready1 b n w true hbl (by rw [hd1, hdn]) (x := 1) rfl
    rw [errV_pos (by omega)] at hr
    rw [e]
    have HA := Lib.hid hal
    clear e hal h hd1 hn hdn
    go_enter Try.func44, Try.ntmps44
    go_wp2_with (go_at_call 45; refine hr.mono ?_; rintro e w' ⟨rfl, rfl⟩)
    go_ret2
    exact ⟨rfl, HA.out⟩
  | false =>
    cases hg : Dm.good n.data.toList with
    | false =>
      have e : s.find n.data.toList = (6, none) := by simp [Dm.St.find, hdn, hg]
      have hr := ready1 b n w false hbl (by rw [hd1, hdn]) (x := 6) (by simp [readyE, nameErr, goods, hg])
      rw [errV_pos (by omega)] at hr
      rw [e]
      have HA := Lib.hid hal
      clear e hal h hd1 hn hdn hg
      go_enter Try.func44, Try.ntmps44
      go_wp2_with (go_at_call 45; refine hr.mono ?_; rintro e w' ⟨rfl, rfl⟩)
      go_ret2
      exact ⟨rfl, HA.out⟩
    | true =>
      have hr := ready1 b n w false hbl (by rw [hd1, hdn]) (x := 0) (by simp [readyE, nameErr, goods, hg])
      rw [errV_zero] at hr
      have hc6 : (w.alloc (.cells #[.string n] 9)).cell? ⟨b, 6, none⟩ = some (.map (some L.dir)) := by
        rw [World.cell?_of_block (Below.heap_alloc w _ b hbl)]; exact h.blk.c6
      have hda : DirAt (w.alloc (.cells #[.string n] 9)) L.dir (phys L.fls s.dir) := h.dir.kept (Below.heap_alloc _ _ _ h.dir.lt)
      have hh := has_any hda n hn
      have hl := hda.look n hn
      rw [get_phys] at hh hl
      have HA := Lib.hid hal
      cases hget : Dm.get s.dir n.data.toList with
      | none =>
        have e : s.find n.data.toList = (5, none) := by simp [Dm.St.find, hdn, hg, hget]
        rw [hget] at hh
        simp only [Option.map_none, Option.isSome_none] at hh
        rw [e]
        clear e hal h hd1 hn hdn hg hda hl hget
        go_enter Try.func44, Try.ntmps44
        go_wp2_with (first | (go_at_call 45; refine hr.mono ?_; rintro e w' ⟨rfl, rfl⟩) | (go_at_call 46; refine hh.mono ?_; rintro e w' ⟨rfl, rfl⟩))
        go_ret2
        exact ⟨rfl, HA.out⟩
      | some i =>
        have e : s.find n.data.toList = (0, some i) := by simp [Dm.St.find, hdn, hg, hget]
        rw [hget] at hh hl
        simp only [Option.map_some, Option.isSome_some, optPtr, fptr] at hh hl
        rw [e]
        clear e hal h hd1 hn hdn hg hda hget
        go_enter Try.func44, Try.ntmps44
        go_wp2_with (first | (go_at_call 45; refine hr.mono ?_; rintro e w' ⟨rfl, rfl⟩) | (go_at_call 46; refine hh.mono ?_; rintro e w' ⟨rfl, rfl⟩))
        go_ret2
        exact ⟨rfl, HA.out⟩

theorem find_ok {w : World} {b : Nat} {ρ : Roles} {L : Lay} {s : Dm.St} (h : Rep w b ρ L s) (n : ByteArray) (hn : n.size ≤ maxLen) {i : Nat} (hi : s.find n.data.toList = (0, some i)) :
    Calls Try.prog 44 #[.pointer (some ⟨b, 0, none⟩), .string n] w fun e w' => e = .returned (.tuple #[.pointer (some ⟨blkOf L.fls i, 0, none⟩), .nilIface]) ∧ Only (fun _ => False) w w' := by
  refine (find_rep h n hn).mono ?_
  rintro e w' ⟨rfl, ho⟩
  rw [hi]
  exact ⟨rfl, ho⟩

theorem find_no {w : World} {b : Nat} {ρ : Roles} {L : Lay} {s : Dm.St} (h : Rep w b ρ L s) (n : ByteArray) (hn : n.size ≤ maxLen) {x : Nat} (hi : s.find n.data.toList = (x, none)) (hx : x ≠ 0) :
    Calls Try.prog 44 #[.pointer (some ⟨b, 0, none⟩), .string n] w fun e w' => e = .returned (.tuple #[.pointer none, .iface 46 (.int .i64 x)]) ∧ Only (fun _ => False) w w' := by
  refine (find_rep h n hn).mono ?_
  rintro e w' ⟨rfl, ho⟩
  rw [hi, errV_pos hx]
  exact ⟨rfl, ho⟩

end Go.Proofs.Ythjabfhfkikalaa
