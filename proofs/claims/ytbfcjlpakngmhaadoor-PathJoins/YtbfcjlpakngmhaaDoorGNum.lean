/- Copy, Kept, Num of the statements' own package. Conditions: lengths far from an int's end. -/
import Derived.Test.YtbfcjlpakngmhaaDoorGParts
namespace Go.Proofs.YtbfcjlpakngmhaaDoor
open Go.RowKit

theorem num_err (n : Nat) (w : World) (hn : n ≠ 0) : Calls Tryd.prog 29 #[.iface 54 (.int .i64 n)] w fun e w' => e = .returned (.int .i64 n) ∧ w = w' := by
  have h0 : ((n : Int) == 0) = false := by simpa using hn
  have hta : ∀ w : World, (Instr.typeAssert (.iface 54 (.int .i64 n)) 35 54 true).run Tryd.prog w = .ok (.tuple #[.int .i64 n, .bool true]) w := fun w => by kernel_rfl
  clear hn
  go_enter Tryd.func29, Tryd.ntmps29
  go_wp2
  go_ret
  exact ⟨rfl, rfl⟩

theorem num_nil (w : World) : Calls Tryd.prog 29 #[.nilIface] w fun e w' => e = .returned (.int .i64 0) ∧ w = w' := by
  go_enter Tryd.func29, Tryd.ntmps29
  go_wp2
  go_ret
  exact ⟨rfl, rfl⟩

theorem marks_src (w : World) : BytesAt (w.alloc (.cells #[.int .u8 165, .int .u8 90] 5)) (fun _ => True) (.slice (some ⟨w.heap.size, 0, none⟩) 2 2) [165, 90] := by
  refine .inr ⟨⟨w.heap.size, 0, none⟩, 2, rfl, Nat.le_refl _, fun _ => trivial, fun j x hx => ?_⟩
  match j, hx with
  | 0, hx => cases hx; simp [Addr.add, byteV]
  | 1, hx => cases hx; simp [Addr.add, byteV]

/-- A copy that Copy has made: its row, and the two marks behind it. -/
def CopyAt (w : World) (g c : Nat) (bs : List UInt8) : Prop := w.ownsRow 0 5 1 (.slice (some ⟨g, 0, none⟩) (bs.length + 2) c) (bs.length + 2) ((bs ++ [165, 90]).map byteV)

theorem CopyAt.lt {w : World} {g c : Nat} {bs : List UInt8} (h : CopyAt w g c bs) : g < w.heap.size := (World.ownsRow.lt h g rfl).2
theorem CopyAt.only {w w' : World} {T : Nat → Prop} {g c : Nat} {bs : List UInt8} (h : CopyAt w g c bs) (ho : Only T w w') (hn : ¬ T g) : CopyAt w' g c bs :=
  ownsRow_keep h (fun q hq => by
    have : g = q := Option.some.inj hq
    subst this
    exact ho.block g (CopyAt.lt h) hn)

theorem copy_cell {w : World} {g c n : Nat} {l : List UInt8} (h : w.ownsRow 0 5 1 (.slice (some ⟨g, 0, none⟩) n c) n (l.map byteV)) {j : Nat} {x : UInt8} (hx : l[j]? = some x) : w.cell? ⟨g, j, none⟩ = some (byteV x) := by
  have := h.cells (g := g) rfl j (byteV x) (by rw [List.getElem?_map, hx]; rfl)
  rwa [add_lit, Nat.zero_add] at this

theorem CopyAt.bytes {w : World} {g c : Nat} {bs : List UInt8} (h : CopyAt w g c bs) : BytesAt w (fun k => k = g) (.slice (some ⟨g, 0, none⟩) bs.length c) bs := by
  have hc := row_cap h
  refine .inr ⟨⟨g, 0, none⟩, c, rfl, by omega, fun _ => rfl, fun j x hx => ?_⟩
  rw [add_lit, Nat.zero_add]
  exact copy_cell h (by rw [List.getElem?_append_left (List.getElem?_eq_some_iff.1 hx).1]; exact hx)

/-- A block of bytes. -/
def ByteBlk (w : World) (g n : Nat) : Prop := ∃ cur, w.heap[g]? = some (.cells cur 5 (0, 0)) ∧ ∀ j, j < n → ∃ x : Int, cur[j]? = some (.int .u8 x)

theorem CopyAt.blk {w : World} {g c : Nat} {bs : List UInt8} (h : CopyAt w g c bs) : ByteBlk w g bs.length := by
  rcases h.2 with ⟨_, h0⟩ | ⟨g', cap, cur, e1, _, hg, h1, _, _, h2⟩
  · omega
  · obtain ⟨e1, _, e3⟩ := Value.slice.inj e1
    cases e1
    refine ⟨cur, hg, fun j hj => ⟨(bs[j].toNat : Int), ?_⟩⟩
    · have e : (cur.toList.take ((bs.length + 2) * 1))[j]? = some (byteV bs[j]) := by
        rw [h2, List.getElem?_map, List.getElem?_append_left hj, List.getElem?_eq_getElem hj]; rfl
      rw [List.getElem?_take_of_lt (by omega)] at e
      simpa [byteV] using e

end Go.Proofs.YtbfcjlpakngmhaaDoor
