/- bytes.Clone, tree.copied, same, within, good. Conditions: texts and rows within the reach. -/
import Derived.Test.YtikkfmmdgicigaaDoorTrMem
import Derived.Test.YtikkfmmdgicigaaDoorGRow
import Derived.Test.YtikkfmmdgicigaaDoorPaGood
import Derived.Deep.DeepCutAuto
namespace Go.Proofs.YtikkfmmdgicigaaDoor
open Go.RowKit

set_option maxHeartbeats 400000 in
theorem bclone_any {w : World} {v : Value} {bs : List UInt8} (h : BytesAt w (fun k => k < w.heap.size) v bs) (hlen : bs.length ≤ 140737488355328) :
    Calls Tryd.prog 76 #[v] w fun e w' => ∃ a c, e = .returned (.slice a bs.length c) ∧ Row w w' (.slice a bs.length c) bs := by
  rcases h with ⟨rfl, rfl⟩ | ⟨ad, c, rfl, hc, hS, hcell⟩
  · have hq : ∀ w : World, (binOp .eql 39 (.slice none 0 0) (.slice none 0 0)).run Tryd.prog w = .ok (.bool true) w := fun w => Lib.run_eql_slice_nil w 39 5 none 0 0 0 0 Tryd.underlying39
    go_enter Tryd.func76, Tryd.ntmps76
    go_wp2
    go_ret
    exact ⟨none, 0, rfl, ⟨World.ownsRow_nil _ _ _ _, by simp [Value.ownBlock], Only.refl _ _⟩⟩
  · have hq : ∀ w : World, (binOp .eql 39 (.slice (some ad) bs.length c) (.slice none 0 0)).run Tryd.prog w = .ok (.bool false) w := fun w => Lib.run_eql_slice_nil w 39 5 (some ad) _ _ 0 0 Tryd.underlying39
    have hb0 : (w.alloc (.cells #[] 5)).ownsRow 0 5 1 (.slice (some ⟨w.heap.size, 0, none⟩) 0 0) 0 [] := World.ownsRow_made w #[] 0 (Nat.zero_le _) (Nat.zero_le _) rfl
    have hsrc : BytesAt (w.alloc (.cells #[] 5)) (fun k => k < w.heap.size) (.slice (some ad) bs.length c) bs :=
      BytesAt.kept (.inr ⟨ad, c, rfl, hc, hS, hcell⟩) (fun k hk => Below.heap_alloc _ _ _ hk) (fun _ h => h)
    have HB := Lib.hid hb0; have HS := Lib.hid hsrc; have HL := Lib.hid hlen
    clear hcell hlen hS hb0 hsrc hc
    go_enter Tryd.func76, Tryd.ntmps76
    go_wp2_with (at_builtin; refine wpList_append_bytes _ rfl _ _ rfl _ _ 0 [] rfl rfl HB.out HS.out (by rw [Nat.zero_add]; exact HL.out) ?_; intro a' c' w' hown hgr hat; have HOWN := Lib.hid hown; have HGR := Lib.hid hgr; have HAT := Lib.hid hat; clear hown hgr hat; rw [Nat.zero_add])
    go_ret
    refine ⟨a', c', rfl, ?_, ?_, ?_⟩
    · have h1 := HOWN.out
      rw [Nat.zero_add, List.nil_append] at h1
      exact h1
    · intro g hg
      have h2 := HAT.out
      rw [Nat.zero_add, hg] at h2
      rcases h2 with h2 | h2
      · have h3 : g = w.heap.size := Option.some.inj h2
        omega
      · have h3 := Option.some.inj h2
        simp at h3; omega
    · refine (Only.alloc (.cells #[] 5)).andThen (Only.of_grown HGR.out) fun k hk h => ?_
      have h3 : k = w.heap.size := Option.some.inj h
      omega

set_option maxHeartbeats 400000 in
/-- A copy of an entry, Data too. -/
theorem copied_any {w : World} {x : Ve} (h : BytesAt w (fun k => k < w.heap.size) x.1 x.2.data) (hlen : x.2.data.length ≤ 140737488355328) :
    Calls Tryd.prog 55 #[enV x] w fun e w' => ∃ v, e = .returned (enV (v, x.2)) ∧ Row w w' v x.2.data := by
  obtain ⟨ua, uc, hu⟩ := h.shape
  obtain ⟨xv, en⟩ := x
  simp only at hu h hlen
  subst hu
  have HC : Hid (∀ W, Only (fun _ => False) w W → Calls Tryd.prog 76 #[.slice ua en.data.length uc] W fun e w' => ∃ a c, e = .returned (.slice a en.data.length c) ∧ Row W w' (.slice a en.data.length c) en.data) := fun W ho => bclone_any (h.here ho (fun _ h => h)) hlen
  clear h hlen
  have hb0 : Blk ((w.alloc (.cells (enC (.slice ua en.data.length uc, en)).toArray 41)).alloc (.cells (enC enZ).toArray 41)) w.heap.size (enC (.slice ua en.data.length uc, en)) 41 := (Blk.new w _ _).alloc _
  have hb1 : Blk ((w.alloc (.cells (enC (.slice ua en.data.length uc, en)).toArray 41)).alloc (.cells (enC enZ).toArray 41)) (w.heap.size + 1) (enC enZ) 41 := Blk.new1 w _ _ _
  unfold enV
  have HB0 := Lib.hid hb0; have HB1 := Lib.hid hb1
  clear hb0 hb1
  have HO : Hid (∀ W, Only (fun _ => False) ((w.alloc (.cells (enC (.slice ua en.data.length uc, en)).toArray 41)).alloc (.cells (enC enZ).toArray 41)) W → Only (fun _ => False) w W) := fun W h => ((Only.alloc _).trans (Only.alloc _)).trans h
  go_enter Tryd.func55, Tryd.ntmps55
  go_wp2_with (refine (HC.out _ ((Only.alloc _).trans (Only.alloc _))).mono ?_; rintro e w1 ⟨a, c, rfl, hr⟩; obtain ⟨c0, c1, c2, c3, c4, c5, c6, c7, fz0⟩ := en_cells (HB0.out.keep hr.only (fun x => x)); obtain ⟨d0, d1, d2, d3, d4, d5, d6, d7, fz1⟩ := en_cells (HB1.out.keep hr.only (fun x => x)); have HR := Lib.hid hr; clear hr; unfold enZ at d0 d1 d2 d3 d4 d5 d6 d7)
  have hr := HR.out
  have h0 := HB0.out.keep hr.only (fun x => x)
  have h1 := HB1.out.keep hr.only (fun x => x)
  have hlt0 := HB0.out.lt
  have hlt1 := HB1.out.lt
  have hsz := hr.only.size
  obtain ⟨hfin, honly⟩ := en_store (w := w1.setCell ⟨w.heap.size, 7, none⟩ (.slice a en.data.length c)) (h1.setNe _ _ (by simp)) rfl (.slice a en.data.length c, en)
  simp only [World.size_alloc] at hlt0 hlt1 hsz
  have hn := hr.own
  simp only [World.size_alloc] at hn
  have ho1 : Only (fun k => k = w.heap.size ∨ k = w.heap.size + 1) w1 _ := ((Only.setCell ⟨w.heap.size, 7, none⟩ (.slice a en.data.length c)).mono (fun k _ h => .inl h)).trans (honly.mono (fun k _ h => .inr h))
  refine bodyPost_ret (v := enV (.slice a en.data.length c, en)) (results_cell_row rfl _ _ (w.heap.size + 1) 41 _ (0, 0) _ rfl hfin Tryd.underlying41 rfl size_Entry) rfl ⟨_, rfl, ?_, fun q hq => by have := hn q hq; omega, ((HO.out _ hr.only).andThen ho1 (fun k hk e => by omega))⟩
  exact ownsRow_keep hr.row (fun q hq => ho1.block q (hr.row.lt q hq).2 (fun e => by have := hn q hq; omega))

theorem text_size {s : List UInt8} : (ByteArray.mk s.toArray).size = s.length := by rw [Lib.size_eq]
theorem text_data (s : List UInt8) : (ByteArray.mk s.toArray).data.toList = s := by simp

/-- bytes.Equal. -/
theorem bequal_any {w : World} {S T : Nat → Prop} {v u : Value} {x y : List UInt8} (hv : BytesAt w S v x) (hu : BytesAt w T u y) :
    Calls Tryd.prog 79 #[v, u] w fun e w' => e = .returned (.bool (x == y)) ∧ w' = w := by
  obtain ⟨a, c, rfl⟩ := hv.shape
  obtain ⟨b, d, rfl⟩ := hu.shape
  have t1 := hv.text
  have t2 := hu.text
  clear hv hu
  go_enter Tryd.func79, Tryd.ntmps79
  go_wp2
  go_ret
  exact ⟨rfl, rfl⟩

set_option maxRecDepth 100000 in
theorem within_any (n a b : Int) (w : World) : Calls Tryd.prog 86 #[.int .i64 n, .int .i64 a, .int .i64 b] w fun e w' => e = .returned (.bool (Tr.within n a b)) ∧ w' = w := by
  by_cases h1 : a ≤ n
  · by_cases h2 : n ≤ b
    · have e : Tr.within n a b = true := by simp [Tr.within, h1, h2]
      rw [e]
      go_enter Tryd.func86, Tryd.ntmps86
      go_wp2
      go_ret
      exact ⟨rfl, rfl⟩
    · have e : Tr.within n a b = false := by simp [Tr.within, h2]
      rw [e]
      go_enter Tryd.func86, Tryd.ntmps86
      go_wp2
      go_ret
      exact ⟨rfl, rfl⟩
  · have e : Tr.within n a b = false := by simp [Tr.within, h1]
    rw [e]
    go_enter Tryd.func86, Tryd.ntmps86
    go_wp2
    go_ret
    exact ⟨rfl, rfl⟩

end Go.Proofs.YtikkfmmdgicigaaDoor
