/- A change made to a directory. Conditions: names no longer than Go's own limit; a moved file is there. -/
import Derived.Test.YthjabfhfkikalaaDir
import Derived.Deep.DeepCutAuto
namespace Go.Proofs.Ythjabfhfkikalaa
open Go.RowKit Go.Maps Go.WideMaps

def chgV (s1 s2 : ByteArray) (mk : Option Nat) : Value := .agg #[.string s1, .string s2, optPtr mk]

theorem DirAt.drop {w : World} {m : Nat} {d : Dm.Dir} (h : DirAt w m d) (s : ByteArray) (hs : s.size ≤ maxLen) (ty : TypeId) :
    ∃ w', (Builtin.delete_ #[72, 9] ty #[.map (some m), .string s]).run Try.prog w = .ok (.tuple #[]) w' ∧ DirAt w' m (Dm.del d s.data.toList) ∧ Only (fun k => k = m) w w' ∧ w'.heap.size = w.heap.size := by
  obtain ⟨w', hrun, ho, ht⟩ := World.ownsMap.drop (t := 72) (e := 80) h keyedS Try.underlying72 (keyOf_string_mk Try.underlying9 hs) ty
  rw [del_datum] at ho
  refine ⟨w', hrun, DirAt.of ho, (Only.of_grown ht.grown).mono fun k _ hk => Option.some.inj hk, ?_⟩
  obtain ⟨es, clock, es', clock', hb, rfl⟩ := ht
  simp [ChangeMaps.setBlock]

theorem DirAt.store {w : World} {m : Nat} {d : Dm.Dir} (h : DirAt w m d) (s : ByteArray) (hs : s.size ≤ maxLen) (hn : d.length < maxLen) (b : Nat) :
    ∃ w', (Instr.mapUpdate 72 (.map (some m)) (.string s) (fptr b)).run Try.prog w = .ok () w' ∧ DirAt w' m (Dm.put d s.data.toList b) ∧ Only (fun k => k = m) w w' ∧ w'.heap.size = w.heap.size := by
  obtain ⟨w', hrun, ho, ht⟩ := World.ownsMap.store (t := 72) (e := 80) h keyedS Try.underlying72 hn (keyOf_string_mk Try.underlying9 hs) (fileElem_fptr b)
  rw [put_datum] at ho
  refine ⟨w', hrun, DirAt.of ho, (Only.of_grown ht.grown).mono fun k _ hk => Option.some.inj hk, ?_⟩
  obtain ⟨es, clock, es', clock', hb, rfl⟩ := ht
  simp [ChangeMaps.setBlock]

set_option maxHeartbeats 400000 in
/-- A Create: no name goes. -/
theorem apply_create {w : World} {m : Nat} {d : Dm.Dir} (h : DirAt w m d) (s2 : ByteArray) (hs2 : s2.size ≤ maxLen) (b : Nat) (hn : d.length < maxLen) (h2 : s2.data.toList ≠ []) :
    Calls Try.prog 40 #[.map (some m), .agg #[.string ⟨#[]⟩, .string s2, .pointer (some ⟨b, 0, none⟩)]] w fun e w' => e = .returned (.tuple #[]) ∧ DirAt w' m (Dm.put d s2.data.toList b) ∧ Only (fun k => k = m) w w' := by
  have hm := h.lt
  have h1 : DirAt (w.alloc (.cells #[.string ⟨#[]⟩, .string s2, .pointer (some ⟨b, 0, none⟩)] 82)) m d := h.kept (Below.heap_alloc _ _ _ hm)
  obtain ⟨w1, hrun, hd1, ho1, hz1⟩ := h1.store s2 hs2 hn b
  simp only [fptr] at hrun
  have HD := Lib.hid hd1; clear hd1
  have HO := Lib.hid ho1; clear ho1
  have H0 := Lib.hid h; have H1 := Lib.hid h1; clear h h1
  have HZ := Lib.hid hz1; clear hz1 hs2 hn hm
  have h2' : s2.toList.isEmpty = false := by rw [ByteArray.toList_eq]; simpa using h2
  clear h2
  go_enter Try.func40, Try.ntmps40
  go_wp2
  go_end0
  exact ⟨rfl, HD.out, ((Only.alloc _).mono (fun _ _ h => h.elim)).trans HO.out⟩

theorem nonempty_of {s : ByteArray} (h : s.data.toList ≠ []) : s.toList.isEmpty = false := by rw [ByteArray.toList_eq]; simpa using h

set_option maxHeartbeats 400000 in
/-- A Remove: no name comes. -/
theorem apply_remove {w : World} {m : Nat} {d : Dm.Dir} (h : DirAt w m d) (s1 : ByteArray) (hs1 : s1.size ≤ maxLen) (h1n : s1.data.toList ≠ []) :
    Calls Try.prog 40 #[.map (some m), .agg #[.string s1, .string ⟨#[]⟩, .pointer none]] w fun e w' => e = .returned (.tuple #[]) ∧ DirAt w' m (Dm.del d s1.data.toList) ∧ Only (fun k => k = m) w w' := by
  have hm := h.lt
  have h1 : DirAt (w.alloc (.cells #[.string s1, .string ⟨#[]⟩, .pointer none] 82)) m d := h.kept (Below.heap_alloc _ _ _ hm)
  have hlk := h1.look s1 hs1
  obtain ⟨w1, hrun, hd1, ho1, hz1⟩ := h1.drop s1 hs1 0
  have hc1 : w1.cell? ⟨w.heap.size, 1, none⟩ = some (.string ⟨#[]⟩) := by
    rw [World.cell?_of_block (w := w.alloc (.cells #[.string s1, .string ⟨#[]⟩, .pointer none] 82)) (ho1.block _ (by simp) (by show ¬ w.heap.size = m; omega))]
    simp
  generalize optPtr (Dm.get d s1.data.toList) = pv at hlk
  have HD := Lib.hid hd1; clear hd1
  have HO := Lib.hid ho1; clear ho1
  have H0 := Lib.hid h; have H1 := Lib.hid h1; clear h h1
  have HZ := Lib.hid hz1; clear hz1 hs1 hm
  have h2' := nonempty_of h1n
  clear h1n
  go_enter Try.func40, Try.ntmps40
  go_wp2
  go_end0
  exact ⟨rfl, HD.out, ((Only.alloc _).mono (fun _ _ h => h.elim)).trans HO.out⟩

set_option maxHeartbeats 400000 in
/-- A Rename. -/
theorem apply_rename {w : World} {m : Nat} {d : Dm.Dir} (h : DirAt w m d) (s1 s2 : ByteArray) (hs1 : s1.size ≤ maxLen) (hs2 : s2.size ≤ maxLen) (b : Nat) (hn : d.length < maxLen) (h1n : s1.data.toList ≠ []) (h2n : s2.data.toList ≠ [])
    (hg : Dm.get d s1.data.toList = some b) :
    Calls Try.prog 40 #[.map (some m), .agg #[.string s1, .string s2, .pointer none]] w fun e w' => e = .returned (.tuple #[]) ∧ DirAt w' m (Dm.put (Dm.del d s1.data.toList) s2.data.toList b) ∧ Only (fun k => k = m) w w' := by
  have hm := h.lt
  have h1 : DirAt (w.alloc (.cells #[.string s1, .string s2, .pointer none] 82)) m d := h.kept (Below.heap_alloc _ _ _ hm)
  have hlk := h1.look s1 hs1
  rw [hg] at hlk
  simp only [optPtr, fptr] at hlk
  obtain ⟨w1, hrun, hd1, ho1, hz1⟩ := h1.drop s1 hs1 0
  have hc1 : w1.cell? ⟨w.heap.size, 1, none⟩ = some (.string s2) := by
    rw [World.cell?_of_block (w := w.alloc (.cells #[.string s1, .string s2, .pointer none] 82)) (ho1.block _ (by simp) (by show ¬ w.heap.size = m; omega))]
    simp
  obtain ⟨w2, hrun2, hd2, ho2, hz2⟩ := hd1.store s2 hs2 (Nat.lt_of_le_of_lt (List.length_filter_le _ _) hn) b
  simp only [fptr] at hrun2
  have HD := Lib.hid hd2; clear hd1 hd2
  have HO := Lib.hid ho1; have HO2 := Lib.hid ho2; clear ho1 ho2
  have H0 := Lib.hid h; have H1 := Lib.hid h1; clear h h1
  have HG := Lib.hid hg; clear hg
  have HZ := Lib.hid hz1; clear hz1 hz2 hs1 hs2 hn hm
  have h1' := nonempty_of h1n
  have h2' := nonempty_of h2n
  clear h1n h2n
  go_enter Try.func40, Try.ntmps40
  go_wp2
  go_end0
  exact ⟨rfl, HD.out, (((Only.alloc _).mono (fun _ _ h => h.elim)).trans HO.out).trans HO2.out⟩

end Go.Proofs.Ythjabfhfkikalaa
