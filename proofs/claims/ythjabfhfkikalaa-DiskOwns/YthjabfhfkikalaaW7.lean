/- Remove, Rename. Conditions: counts far from an int's end; names no longer than Go's own limit. -/
import Derived.Test.YthjabfhfkikalaaW6
namespace Go.Proofs.Ythjabfhfkikalaa
open Go.RowKit Go.Maps Go.WideMaps

theorem remove_alter {w : World} {b : Nat} {ρ : Roles} {L : Lay} {s : Dm.St} (h : Rep w b ρ L s) (hwf : s.WF) (hst : s.steps < 2 ^ 62) (hch : s.chg.length < 2 ^ 32) (n : ByteArray) (hn : n.size ≤ maxLen) (hg : Dm.good n.data.toList = true) :
    Calls Try.prog 48 #[.pointer (some ⟨b, 0, none⟩), .agg #[.string n, .string ⟨#[]⟩, .pointer none]] w (OpPost b ρ w (s.alter ⟨n.data.toList, [], none⟩ [])) := by
  refine alter_rep h hwf hst hch n ⟨#[]⟩ none ⟨n.data.toList, [], none⟩ [] (Dm.del (phys L.fls s.dir) n.data.toList) [] ?_ ?_ rfl (by simp) (fun w1 hw1 => apply_remove hw1 n hn (Dm.good_ne hg))
  · have e1 : Dm.app s.dir ⟨n.data.toList, [], none⟩ = Dm.del s.dir n.data.toList := by
      have := Dm.good_ne hg
      simp only [Dm.app]
      rw [if_neg this]
      rfl
    rw [e1, List.append_nil, del_phys]
  · simp [chgCells, str, optPtr]

theorem rename_alter {w : World} {b : Nat} {ρ : Roles} {L : Lay} {s : Dm.St} (h : Rep w b ρ L s) (hwf : s.WF) (hst : s.steps < 2 ^ 62) (hch : s.chg.length < 2 ^ 32) (n t : ByteArray) (hn : n.size ≤ maxLen) (ht : t.size ≤ maxLen) (hg : Dm.good n.data.toList = true) (hgt : Dm.good t.data.toList = true) {i : Nat} (hget : Dm.get s.dir n.data.toList = some i) :
    Calls Try.prog 48 #[.pointer (some ⟨b, 0, none⟩), .agg #[.string n, .string t, .pointer none]] w (OpPost b ρ w (s.alter ⟨n.data.toList, t.data.toList, none⟩ [])) := by
  have hlen : (phys L.fls s.dir).length < maxLen := by have := hwf.dir.len; rw [length_phys]; unfold maxLen; omega
  refine alter_rep h hwf hst hch n t none ⟨n.data.toList, t.data.toList, none⟩ [] (Dm.put (Dm.del (phys L.fls s.dir) n.data.toList) t.data.toList (blkOf L.fls i)) [] ?_ ?_ rfl (by simp) (fun w1 hw1 => apply_rename hw1 n t hn ht (blkOf L.fls i) hlen (Dm.good_ne hg) (Dm.good_ne hgt) (by rw [get_phys, hget]; rfl))
  · have e1 : Dm.app s.dir ⟨n.data.toList, t.data.toList, none⟩ = Dm.put (Dm.del s.dir n.data.toList) t.data.toList i := by
      have h1 := Dm.good_ne hg
      have h2 := Dm.good_ne hgt
      simp only [Dm.app]
      rw [if_neg h1, if_neg h2, hget]
    rw [e1, List.append_nil, put_phys, del_phys]
  · simp [chgCells, str, optPtr]

set_option maxHeartbeats 400000 in
theorem remove_rep {w : World} {b : Nat} {ρ : Roles} {L : Lay} {s : Dm.St} (h : Rep w b ρ L s) (hwf : s.WF) (hst : s.steps < 2 ^ 62) (hch : s.chg.length < 2 ^ 32) (n : ByteArray) (hn : n.size ≤ maxLen) :
    Calls Try.prog 25 #[.pointer (some ⟨b, 0, none⟩), .string n] w (OpPost b ρ w (s.remove n.data.toList)) := by
  rcases s.find_cases n.data.toList with ⟨i, hi⟩ | ⟨x, hx, hx0⟩
  · have e : s.remove n.data.toList = s.alter ⟨n.data.toList, [], none⟩ [] := by simp [Dm.St.remove, hi]
    have hf := find_ok h n hn hi
    rw [e]
    obtain ⟨_, hg, _⟩ := Dm.St.find_some hi
    have HAL : Hid (∀ w1, Only (fun _ => False) w w1 → Calls Try.prog 48 #[.pointer (some ⟨b, 0, none⟩), .agg #[.string n, .string ⟨#[]⟩, .pointer none]] w1 (OpPost b ρ w1 (s.alter ⟨n.data.toList, [], none⟩ []))) :=
      fun w1 ho => remove_alter (h.only_none ho) hwf hst hch n hn hg
    generalize s.alter ⟨n.data.toList, [], none⟩ [] = r at *
    clear e hi h hn hwf hst hch hg
    go_enter Try.func25, Try.ntmps25
    go_wp2_with (first | (go_at_call 44; refine hf.mono ?_; rintro e w1 ⟨rfl, ho⟩; have hal := HAL.out _ ho; have HO := Lib.hid ho; clear ho) | (go_at_call 48; refine hal.mono ?_; rintro e w' hp; have HP := Lib.hid hp; obtain ⟨rfl, -⟩ := hp))
    go_ret
    exact HP.out.after (Moves.none HO.out)
  · have e : s.remove n.data.toList = (x, s) := by
      unfold Dm.St.remove
      rw [hx]
      cases x with
      | zero => exact absurd rfl hx0
      | succ x => rfl
    have hf := find_no h n hn hx hx0
    rw [e]
    have HH := Lib.hid h
    have HX := Lib.hid hx0
    clear e hx h hn hwf hst hch hx0
    go_enter Try.func25, Try.ntmps25
    go_wp2_with (go_at_call 44; refine hf.mono ?_; rintro e w1 ⟨rfl, ho⟩; have HO := Lib.hid ho; clear ho)
    go_ret
    exact OpPost.same HH.out HO.out (by rw [errV_pos HX.out]; rfl)

theorem ready2 (b : Nat) (n t : ByteArray) (w : World) (dn : Bool) (hb : b < w.heap.size) (hd : w.cell? ⟨b, 1, none⟩ = some (.bool dn)) {x : Nat} (hx : readyE dn [n, t] = x) :
    Calls Try.prog 45 #[.pointer (some ⟨b, 0, none⟩), .slice (some ⟨w.heap.size, 0, none⟩) 2 2] (w.alloc (.cells #[.string n, .string t] 9)) fun e w' => e = .returned (errV x) ∧ w.alloc (.cells #[.string n, .string t] 9) = w' := by
  have hd' : (w.alloc (.cells #[.string n, .string t] 9)).cell? ⟨b, 1, none⟩ = some (.bool dn) := by
    rw [World.cell?_of_block (Below.heap_alloc w _ b hb)]; exact hd
  subst hx
  cases dn
  · exact ready_some b w.heap.size 2 [n, t] _ hd' (by simp) (by
      intro i hi
      simp at hi
      match i, hi with
      | 0, _ => simp
      | 1, _ => simp)
  · exact ready_down b _ _ hd'

set_option maxHeartbeats 400000 in
theorem rename_rep {w : World} {b : Nat} {ρ : Roles} {L : Lay} {s : Dm.St} (h : Rep w b ρ L s) (hwf : s.WF) (hst : s.steps < 2 ^ 62) (hch : s.chg.length < 2 ^ 32) (n t : ByteArray) (hn : n.size ≤ maxLen) (ht : t.size ≤ maxLen) :
    Calls Try.prog 24 #[.pointer (some ⟨b, 0, none⟩), .string n, .string t] w (OpPost b ρ w (s.rename n.data.toList t.data.toList)) := by
  have hbl := h.blk.lt
  have hd1 := h.blk.c1
  have hal : Only (fun _ => False) w (w.alloc (.cells #[.string n, .string t] 9)) := Only.alloc _
  have HA := Lib.hid hal
  by_cases hz : readyE s.down [n, t] = 0
  · have hdn : s.down = false := by cases hd : s.down <;> simp_all [readyE]
    have hgs : goods [n, t] = true := by
      simp only [readyE, hdn, nameErr] at hz
      cases hx : goods [n, t] <;> simp_all
    have hg : Dm.good n.data.toList = true := by simp [goods] at hgs; exact hgs.1
    have hgt : Dm.good t.data.toList = true := by simp [goods] at hgs; exact hgs.2
    have hr := ready2 b n t w s.down hbl hd1 hz
    rw [errV_zero] at hr
    have hc6 : (w.alloc (.cells #[.string n, .string t] 9)).cell? ⟨b, 6, none⟩ = some (.map (some L.dir)) := by
      rw [World.cell?_of_block (Below.heap_alloc w _ b hbl)]; exact h.blk.c6
    have hda : DirAt (w.alloc (.cells #[.string n, .string t] 9)) L.dir (phys L.fls s.dir) := h.dir.kept (Below.heap_alloc _ _ _ h.dir.lt)
    have hh := has_any hda n hn
    rw [get_phys] at hh
    cases hget : Dm.get s.dir n.data.toList with
    | none =>
      have e : s.rename n.data.toList t.data.toList = (5, s) := by simp [Dm.St.rename, hdn, hg, hgt, hget]
      rw [hget] at hh
      simp only [Option.map_none, Option.isSome_none] at hh
      rw [e]
      have HH := Lib.hid h
      clear e hal h hd1 hn ht hdn hg hgt hgs hda hget hwf hst hch hz
      go_enter Try.func24, Try.ntmps24
      go_wp2_with (first | (go_at_call 45; refine hr.mono ?_; rintro e w' ⟨rfl, rfl⟩) | (go_at_call 46; refine hh.mono ?_; rintro e w' ⟨rfl, rfl⟩))
      go_ret
      exact OpPost.same HH.out HA.out rfl
    | some i =>
      have e : s.rename n.data.toList t.data.toList = s.alter ⟨n.data.toList, t.data.toList, none⟩ [] := by simp [Dm.St.rename, hdn, hg, hgt, hget]
      rw [hget] at hh
      simp only [Option.map_some, Option.isSome_some] at hh
      rw [e]
      have ha := rename_alter (h.only_none hal) hwf hst hch n t hn ht hg hgt hget
      generalize s.alter ⟨n.data.toList, t.data.toList, none⟩ [] = r at *
      clear e hal h hd1 hn ht hdn hg hgt hgs hda hget hwf hst hch hz
      go_enter Try.func24, Try.ntmps24
      go_wp2_with (first | (go_at_call 45; refine hr.mono ?_; rintro e w' ⟨rfl, rfl⟩) | (go_at_call 46; refine hh.mono ?_; rintro e w' ⟨rfl, rfl⟩) | (go_at_call 48; refine ha.mono ?_; rintro e w' hp; have HP := Lib.hid hp; obtain ⟨rfl, -⟩ := hp))
      go_ret
      exact HP.out.after (Moves.none HA.out)
  · have e : s.rename n.data.toList t.data.toList = (readyE s.down [n, t], s) := by
      unfold Dm.St.rename readyE nameErr goods
      cases hd : s.down
      · cases hg : Dm.good n.data.toList <;> cases hgt : Dm.good t.data.toList <;> simp_all [readyE, nameErr, goods]
      · simp
    have hr := ready2 b n t w s.down hbl hd1 rfl
    rw [errV_pos hz] at hr
    rw [e]
    generalize readyE s.down [n, t] = x at *
    have HH := Lib.hid h
    have HX := Lib.hid hz
    clear e hal h hd1 hn ht hwf hst hch hz
    go_enter Try.func24, Try.ntmps24
    go_wp2_with (go_at_call 45; refine hr.mono ?_; rintro e w' ⟨rfl, rfl⟩)
    go_ret
    exact OpPost.same HH.out HA.out (by rw [errV_pos HX.out]; rfl)

end Go.Proofs.Ythjabfhfkikalaa
