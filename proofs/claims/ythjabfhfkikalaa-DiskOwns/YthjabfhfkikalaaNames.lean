/- A directory's names, rising: names, List. Conditions: none. -/
import Derived.Test.YthjabfhfkikalaaW12
import Derived.Test.YthjabfhfkikalaaLay
import Derived.Maps.Ext
namespace Go.Proofs.Ythjabfhfkikalaa
open Go.RowKit Go.Maps Go.WideMaps Go.Sort Go.Shelf

theorem lt_of_before : ∀ {a b : List UInt8}, bytesBefore a b = true → a < b
  | [], [], h => by simp [bytesBefore] at h
  | [], _ :: _, _ => by simp
  | _ :: _, [], h => by simp [bytesBefore] at h
  | x :: r, y :: t, h => by
    simp only [bytesBefore, Bool.or_eq_true, Bool.and_eq_true, decide_eq_true_eq, beq_iff_eq] at h
    rw [List.cons_lt_cons_iff]
    rcases h with h | ⟨h1, h2⟩
    · exact .inl h
    · exact .inr ⟨h1, lt_of_before h2⟩

theorem DirAt.rising {w : World} {m : Nat} {d : Dm.Dir} (h : DirAt w m d) : d.Pairwise (fun p q => bytesBefore p.1 q.1 = true) := by
  obtain ⟨es, he, hp, _⟩ := World.ownsMap.canon h keyedS
  have e : es = d.map ent := (DataW.map.inj he).symm
  subst e
  rw [List.pairwise_map] at hp
  exact hp

theorem DirAt.sorted {w : World} {m : Nat} {d : Dm.Dir} (h : DirAt w m d) {ss : List (List UInt8)} (hp : ss.Perm (strKeys (datum d))) : ss.mergeSort (fun x y => decide (x ≤ y)) = d.map (·.1) := by
  have e : strKeys (datum d) = d.map (·.1) := by
    unfold strKeys datum
    simp only [List.map_map]
    exact List.map_congr_left fun p _ => rfl
  rw [e] at hp
  have h1 : ss.mergeSort (fun x y => decide (x ≤ y)) = (d.map (·.1)).mergeSort (fun x y => decide (x ≤ y)) := mergeSort_of_perm hp
  rw [h1]
  apply List.mergeSort_of_pairwise
  rw [List.pairwise_map]
  exact h.rising.imp fun {p q} hb => by
    simp only [decide_eq_true_eq]
    exact List.le_of_lt (lt_of_before hb)

theorem sortsIn (m : Nat) : AnyZ.SortsIn Try.prog Try.sorted57_ren Fence.wide m :=
  ⟨fun blk off cap ss W hH hblk hsz => callsIn_wide.2 (AnyM.slices_Sort_string Try.sort63 blk off cap ss W hH hblk hsz),
   fun p cap W => callsIn_wide.2 (AnyM.slices_Sort_string_none Try.sort63 p cap W)⟩

set_option maxHeartbeats 1000000 in
theorem sorted_keys {w : World} {m : Nat} {d : Dm.Dir} (h : DirAt w m d) (hd : d.length ≤ 4096) :
    CallsIn Fence.wide 5 Try.prog 57 #[.func (.func 64) #[] #[.pointer (some ⟨w.heap.size, 0, none⟩)]] (w.alloc (.cells #[.map (some m)] 72)) fun e w' => ∃ (v : Value) (ss : List (List UInt8)), e = .returned v ∧ ss.Perm (strKeys (datum d)) ∧
      w'.ownsRow (w.alloc (.cells #[.map (some m)] 72)).heap.size 9 1 v ss.length ((ss.mergeSort (fun x y => decide (x ≤ y))).map encStr) ∧ (v = .slice none 0 0 ↔ ss = []) ∧ Below (w.alloc (.cells #[.map (some m)] 72)).heap.size (w.alloc (.cells #[.map (some m)] 72)) w' := by
  have hbl := h.lt
  have hsz : Maps.size (datum d) = d.length := size_datum d
  have hown : w.ownsMap Try.prog 9 fileElem m d.length (datum d) := h
  have hseq : SeqGives Fence.wide 2 Try.prog 64 #[.pointer (some ⟨w.heap.size, 0, none⟩)] encStr (fun ss => ss.Perm (strKeys (datum d))) (Maps.size (datum d)) (w.alloc (.cells #[.map (some m)] 72)) :=
    AnyZ.keys_gives (ρ := Try.keys58_ren) { Try.keys58 with } Fence.wide _ trivial rfl (by omega) w.heap.size m d.length (datum d) _ (by simp) (by simp) (by
      obtain ⟨es, clock, hb, Ft, hs, hD⟩ := hown
      exact ⟨es, clock, (Below.heap_alloc _ _ m hbl).trans hb, Ft, hs, hD⟩)
  exact AnyZ.sorted_in Try.sorted57 Fence.wide 5 trivial trivial trivial trivial rfl (by omega) (sortsIn _) (enters_of Try.func63 (by kernel_rfl) rfl) 64 #[.pointer (some ⟨w.heap.size, 0, none⟩)] trivial (enters_of Try.func64 (by kernel_rfl) rfl) _ _ (by rw [hsz]; unfold maxLen; omega) (by rw [hsz]; omega) _ hseq

def NewNames (w w' : World) (v : Value) (d : Dm.Dir) : Prop :=
  w'.ownsRow 0 9 1 v d.length (d.map fun p => str p.1) ∧ ∀ g, v.ownBlock = some g → w.heap.size ≤ g

set_option maxHeartbeats 1000000 in
theorem names_any {w : World} {m : Nat} {d : Dm.Dir} (h : DirAt w m d) (hd : d.length ≤ 4096) :
    Calls Try.prog 38 #[.map (some m)] w fun e w' => ∃ a c, e = .returned (.slice a d.length c) ∧ NewNames w w' (.slice a d.length c) d ∧ Only (fun _ => False) w w' := by
  have hk := callsIn_wide.1 (AnyZ.keys_in Try.keys58 Fence.wide 5 trivial rfl (some m) w)
  have hs := callsIn_wide.1 (sorted_keys h hd)
  have HH := Lib.hid h
  clear h hd
  go_enter Try.func38, Try.ntmps38
  go_wp2_with (first
    | (go_at_call 58; refine hk.mono ?_; rintro e w' ⟨rfl, rfl⟩)
    | (go_at_call 57; refine hs.mono ?_; rintro e w2 ⟨v, ss, rfl, hp, hrow, hnil, hb⟩; have HP := Lib.hid hp; have HROW := Lib.hid hrow; have HB := Lib.hid hb; clear hp hrow hnil hb))
  go_ret
  have hsort := HH.out.sorted HP.out
  have hl : ss.length = d.length := by
    have := congrArg List.length hsort
    simpa using this
  have hrow := HROW.out
  rw [hsort, hl, List.map_map] at hrow
  have hrow0 : w2.ownsRow 0 9 1 v d.length (d.map fun p => str p.1) := by
    refine ⟨hrow.1, ?_⟩
    rcases hrow.2 with h | ⟨g, cap, cur, h1, h2, h3⟩
    · exact .inl h
    · exact .inr ⟨g, cap, cur, h1, Nat.zero_le _, h3⟩
  obtain ⟨a, c, hv⟩ := row_shape hrow0
  refine ⟨a, c, by rw [← hv]; rfl, ⟨by rw [← hv]; exact hrow0, fun g hg => ?_⟩, ?_⟩
  · rw [← hv] at hg
    have := (hrow.lt g hg).1
    simp at this
    omega
  · exact (Only.alloc _).andThen (Only.of_below HB.out) fun k hk hge => by simp at hge; omega

set_option maxHeartbeats 400000 in
theorem list_rep {w : World} {b : Nat} {ρ : Roles} {L : Lay} {s : Dm.St} (h : Rep w b ρ L s) (hwf : s.WF) :
    Calls Try.prog 30 #[.pointer (some ⟨b, 0, none⟩)] w fun e w' => ∃ a c, e = .returned (.slice a s.dir.length c) ∧ NewNames w w' (.slice a s.dir.length c) s.dir ∧ Only (fun _ => False) w w' := by
  have hn := names_any h.dir (by rw [length_phys]; exact hwf.dir.len)
  rw [length_phys] at hn
  have hc6 := h.blk.c6
  clear h hwf
  go_enter Try.func30, Try.ntmps30
  go_wp2_with (go_at_call 38; refine hn.mono ?_; rintro e w' ⟨a, c, rfl, hnn, ho⟩; have HN := Lib.hid hnn; have HO := Lib.hid ho; clear hnn ho)
  go_ret
  refine ⟨a, c, rfl, ?_, HO.out⟩
  have := HN.out
  unfold NewNames phys at this
  rw [List.length_map, List.map_map] at this
  exact this

end Go.Proofs.Ythjabfhfkikalaa
