/- Copy, Kept, Num of the statements' own package. Conditions: lengths far from an int's end. -/
import Derived.Test.YtemfelonfokcnaaGParts
namespace Go.Proofs.Ytemfelonfokcnaa
open Go.RowKit

theorem num_err (n : Nat) (w : World) (hn : n ≠ 0) : Calls Try.prog 12 #[.iface 47 (.int .i64 n)] w fun e w' => e = .returned (.int .i64 n) ∧ w = w' := by
  have h0 : ((n : Int) == 0) = false := by simpa using hn
  have hta : ∀ w : World, (Instr.typeAssert (.iface 47 (.int .i64 n)) 27 47 true).run Try.prog w = .ok (.tuple #[.int .i64 n, .bool true]) w := fun w => by kernel_rfl
  clear hn
  go_enter Try.func12, Try.ntmps12
  go_wp2
  go_ret
  exact ⟨rfl, rfl⟩

theorem num_nil (w : World) : Calls Try.prog 12 #[.nilIface] w fun e w' => e = .returned (.int .i64 0) ∧ w = w' := by
  go_enter Try.func12, Try.ntmps12
  go_wp2
  go_ret
  exact ⟨rfl, rfl⟩

theorem marks_src (w : World) : BytesAt (w.alloc (.cells #[.int .u8 165, .int .u8 90] 5)) (fun _ => True) (.slice (some ⟨w.heap.size, 0, none⟩) 2 2) [165, 90] := by
  refine .inr ⟨⟨w.heap.size, 0, none⟩, 2, rfl, Nat.le_refl _, fun _ => trivial, fun j x hx => ?_⟩
  match j, hx with
  | 0, hx => cases hx; simp [Addr.add, byteV]
  | 1, hx => cases hx; simp [Addr.add, byteV]

/-- A copy that Copy has made: its row, and the two marks behind it. -/
def CopyAt (w : World) (g c : Nat) (bs : List UInt8) : Prop := w.ownsRow 0 5 1 (.slice (some ⟨g, 0, none⟩) (bs.length + 2) c) (bs.length + 2) ((bs ++ [165, 90]).map byteV)

theorem CopyAt.lt {w : World} {g c : Nat} {bs : List UInt8} (h : CopyAt w g c bs) : g < w.heap.size := (World.ownsRow.lt h g rfl).2
theorem CopyAt.only {w w' : World} {T : Nat → Prop} {g c : Nat} {bs : List UInt8} (h : CopyAt w g c bs) (ho : Only T w w') (hn : ¬ T g) : CopyAt w' g c bs :=
  ownsRow_keep h (fun q hq => by
    have : g = q := Option.some.inj hq
    subst this
    exact ho.block g (CopyAt.lt h) hn)

theorem copy_cell {w : World} {g c n : Nat} {l : List UInt8} (h : w.ownsRow 0 5 1 (.slice (some ⟨g, 0, none⟩) n c) n (l.map byteV)) {j : Nat} {x : UInt8} (hx : l[j]? = some x) : w.cell? ⟨g, j, none⟩ = some (byteV x) := by
  have := h.cells (g := g) rfl j (byteV x) (by rw [List.getElem?_map, hx]; rfl)
  rwa [add_lit, Nat.zero_add] at this

theorem CopyAt.bytes {w : World} {g c : Nat} {bs : List UInt8} (h : CopyAt w g c bs) : BytesAt w (fun k => k = g) (.slice (some ⟨g, 0, none⟩) bs.length c) bs := by
  have hc := row_cap h
  refine .inr ⟨⟨g, 0, none⟩, c, rfl, by omega, fun _ => rfl, fun j x hx => ?_⟩
  rw [add_lit, Nat.zero_add]
  exact copy_cell h (by rw [List.getElem?_append_left (List.getElem?_eq_some_iff.1 hx).1]; exact hx)

set_option maxRecDepth 100000 in
set_option maxHeartbeats 1000000 in
theorem copy_any {w : World} {S : Nat → Prop} {v : Value} {bs : List UInt8} (h : BytesAt w S v bs) (hlt : ∀ k, S k → k < w.heap.size) (hlen : bs.length ≤ 140737488355326) :
    Calls Try.prog 20 #[v] w fun e w' => ∃ g c, e = .returned (.slice (some ⟨g, 0, none⟩) bs.length c) ∧ CopyAt w' g c bs ∧ w.heap.size ≤ g ∧ Only (fun _ => False) w w' := by
  obtain ⟨va, vc, hv⟩ := h.shape
  subst hv
  obtain ⟨i0, hi0, hz0, hz1, hz2⟩ := info_parts info_u8
  have HSRC : Hid (∀ w1, w.grownBy w1 none → BytesAt w1 S (.slice va bs.length vc) bs) := fun w1 hg => h.kept (fun k hk => hg.block k (hlt k hk) (by simp)) (fun _ h => h)
  have HL := Lib.hid hlen
  have hb8 : i0.bytes * (bs.length + 2) ≤ 281474976710656 := by rw [hz2]; omega
  have hbm : bs.length + 2 ≤ maxLen := by unfold maxLen; omega
  have HB8 := Lib.hid hb8; have HBM := Lib.hid hbm
  clear h hlt hb8 hbm
  go_enter Try.func20, Try.ntmps20
  go_wp2_with (first
    | (at_make; refine wpList_make_own _ rfl _ _ 25 rfl 0 5 i0 _ 1 Try.underlying25 hi0 hz0 hz1 .i64 .i64 _ (bs.length + 2) rfl rfl (by simp) HB8.out HBM.out (Nat.zero_le _) ?_; intro w1 hr1 hg1; have HR1 := Lib.hid hr1; have HG1 := Lib.hid hg1; have hs1 := HSRC.out w1 hg1; have HS1 := Lib.hid hs1; clear hr1 hg1 hs1)
    | (at_builtin; refine wpList_append_bytes _ rfl _ _ rfl (.slice (some ⟨w.heap.size, 0, none⟩) 0 (bs.length + 2)) (.slice va bs.length vc) 0 [] rfl rfl HR1.out HS1.out (by rw [Nat.zero_add]; exact Nat.le_trans HL.out (by decide)) ?_; intro a1 c1 w2 hr2 hg2 hat2; have hr2' := hr2.alloc (.cells #[.int .u8 165, .int .u8 90] 5); rw [Nat.zero_add, List.nil_append] at hr2'; rw [Nat.zero_add] at hat2; have HR2 := Lib.hid hr2'; have HG2 := Lib.hid hg2; have HAT2 := Lib.hid hat2; clear hr2 hr2' hg2 hat2 HS1 HR1)
    | (at_builtin; refine wpList_append_bytes _ rfl _ _ rfl (.slice a1 bs.length c1) (.slice (some ⟨w2.heap.size, 0, none⟩) 2 2) bs.length (bs.map byteV) rfl rfl HR2.out (marks_src w2) (by have := HL.out; simp; omega) ?_; intro a2 c2 w3 hr3 hg3 hat3; have hsl := slice_h (a := a2) (n := bs.length + 2) (cap := c2) (m := bs.length) (by have := row_cap hr3; simp at this; omega); have HR3 := Lib.hid hr3; have HG3 := Lib.hid hg3; have HAT3 := Lib.hid hat3; clear hr3 hg3 hat3))
  go_ret
  have h3 := HR3.out
  have hat3 := HAT3.out
  have hat2 := HAT2.out
  rcases h3.2 with ⟨_, h0⟩ | ⟨g, cap, cur, e1, _⟩
  · simp at h0
  · obtain ⟨e1, _, e3⟩ := Value.slice.inj e1
    subst e1 e3
    have hz1 := HG1.out.size
    have hz2 := HG2.out.size
    have hz3 := HG3.out.size
    simp only [World.size_alloc] at hz3
    have hown2 : ∀ q, (Value.slice a1 bs.length c1).ownBlock = some q → w.heap.size ≤ q := by
      intro q hq
      rcases hat2 with h | h
      · rw [hq] at h
        have h3 : q = w.heap.size := Option.some.inj h
        omega
      · rw [hq] at h
        have h3 := Option.some.inj h
        omega
    refine ⟨g, c2, rfl, by unfold CopyAt; simpa using h3, ?_, ?_⟩
    · rcases hat3 with h | h
      · exact hown2 g h.symm
      · have h3 : g = (w2.alloc (.cells #[.int .u8 165, .int .u8 90] 5)).heap.size := Option.some.inj h
        simp at h3
        omega
    · refine (((Only.of_grown HG1.out).mono fun k _ h => by cases h).andThen (Only.of_grown HG2.out) fun k hk h => ?_).trans (Only.alloc _) |>.andThen (Only.of_grown HG3.out) fun k hk h => ?_
      · have h3 : k = w.heap.size := Option.some.inj h
        omega
      · have := hown2 k h.symm
        omega

set_option maxRecDepth 100000 in
set_option maxHeartbeats 1000000 in
theorem kept_any {w : World} {g c : Nat} {bs : List UInt8} (h0 : CopyAt w g c bs) {S : Nat → Prop} {v : Value} (hv : BytesAt w S v bs) (hlen : bs.length ≤ 140737488355326) :
    Calls Try.prog 23 #[.slice (some ⟨g, 0, none⟩) bs.length c, v] w fun e w' => e = .returned (.bool true) ∧ w = w' := by
  obtain ⟨va, vc, hs⟩ := hv.shape
  subst hs
  have t1 := h0.bytes.text
  have t2 := hv.text
  have h : w.ownsRow 0 5 1 (.slice (some ⟨g, 0, none⟩) (bs.length + 2) c) (bs.length + 2) ((bs ++ [165, 90]).map byteV) := h0
  have hcap := row_cap h
  have hsl := slice_h (a := some ⟨g, 0, none⟩) (n := bs.length) (cap := c) (m := bs.length + 2) hcap
  have hsl' : ∀ w : World, (Instr.slice 25 (.slice (some ⟨g, 0, none⟩) bs.length c) none (some (.int .i64 ((bs.length : Int) + 2))) none).run Try.prog w = .ok (.slice (some ⟨g, 0, none⟩) (bs.length + 2) c) w := hsl
  have c1 : w.cell? ⟨g, bs.length, none⟩ = some (.int .u8 165) := copy_cell (x := 165) h (by rw [List.getElem?_append_right (Nat.le_refl _)]; simp)
  have c2 : w.cell? ⟨g, bs.length + 1, none⟩ = some (.int .u8 90) := copy_cell (x := 90) h (by rw [List.getElem?_append_right (by omega)]; simp)
  have hci : ¬ (c : Int) < (bs.length : Int) + 2 := by omega
  clear h h0 hv
  go_enter Try.func23, Try.ntmps23
  go_wp2
  go_ret
  exact ⟨rfl, rfl⟩

/-- A block of bytes. -/
def ByteBlk (w : World) (g n : Nat) : Prop := ∃ cur, w.heap[g]? = some (.cells cur 5 (0, 0)) ∧ ∀ j, j < n → ∃ x : Int, cur[j]? = some (.int .u8 x)

theorem CopyAt.blk {w : World} {g c : Nat} {bs : List UInt8} (h : CopyAt w g c bs) : ByteBlk w g bs.length := by
  rcases h.2 with ⟨_, h0⟩ | ⟨g', cap, cur, e1, _, hg, h1, _, _, h2⟩
  · omega
  · obtain ⟨e1, _, e3⟩ := Value.slice.inj e1
    cases e1
    refine ⟨cur, hg, fun j hj => ⟨(bs[j].toNat : Int), ?_⟩⟩
    · have e : (cur.toList.take ((bs.length + 2) * 1))[j]? = some (byteV bs[j]) := by
        rw [h2, List.getElem?_map, List.getElem?_append_left hj, List.getElem?_eq_getElem hj]; rfl
      rw [List.getElem?_take_of_lt (by omega)] at e
      simpa [byteV] using e

end Go.Proofs.Ytemfelonfokcnaa
