/- New, Seek, At of a Stream; the seat's move. Conditions: none. -/
import Derived.Test.YtgdnmbchhfbjoaaDoorCBlk
import Derived.Test.YtgdnmbchhfbjoaaDoorGNum
namespace Go.Proofs.YtgdnmbchhfbjoaaDoor
open Go.RowKit

def scells (key nonce : List UInt8) (p : Nat) : List Value := .int .i64 (p : Int) :: (Ch.start key nonce 0).map wordV

/-- A Stream in block b, that stands at p. -/
structure StreamAt (w : World) (b : Nat) (key nonce : List UInt8) (p : Nat) : Prop where
  blk : Blk w b (scells key nonce p) 99
  top : p ≤ 274877906944

theorem StreamAt.keep {w w' : World} {S : Nat → Prop} {b : Nat} {key nonce : List UInt8} {p : Nat} (h : StreamAt w b key nonce p) (ho : Only S w w') (hn : ¬ S b) : StreamAt w' b key nonce p := ⟨h.blk.keep ho hn, h.top⟩
theorem StreamAt.cell {w : World} {b : Nat} {key nonce : List UInt8} {p : Nat} (h : StreamAt w b key nonce p) : w.cell? ⟨b, 0, none⟩ = some (.int .i64 (p : Int)) := by rw [h.blk.cell]; rfl
theorem StreamAt.range {w : World} {b : Nat} {key nonce : List UInt8} {p : Nat} (h : StreamAt w b key nonce p) : w.rangeAt b 1 ((Ch.start key nonce 0).map wordV) := h.blk.range fun j v hv => by
  rw [Nat.add_comm]; exact hv
theorem StreamAt.set {w : World} {b : Nat} {key nonce : List UInt8} {p q : Nat} (h : StreamAt w b key nonce p) (hq : q ≤ 274877906944) : StreamAt (w.setCell ⟨b, 0, none⟩ (.int .i64 (q : Int))) b key nonce q := ⟨h.blk.set 0 (.int .i64 (q : Int)), hq⟩

/-- The seat moves: the cell at ⟨b, o⟩. -/
theorem move_ok {w : World} {b o : Nat} {v : Value} (hc : w.cell? ⟨b, o, none⟩ = some v) (hf : w.frozen? ⟨b, o, none⟩ = false) {q : Nat} (hq : q ≤ 274877906944) :
    Calls Tryd.prog 59 #[.pointer (some ⟨b, o, none⟩), .int .i64 (q : Int)] w fun e w' => e = .returned .nilIface ∧ w' = w.setCell ⟨b, o, none⟩ (.int .i64 (q : Int)) := by
  have h1 : ¬ (q : Int) < 0 := by omega
  have h2 : ¬ (q : Int) > 274877906944 := by omega
  go_enter Tryd.func59, Tryd.ntmps59
  go_wp2
  go_ret
  exact ⟨rfl, rfl⟩

theorem move_err {w : World} {a : Addr} {q : Int} (hq : q < 0 ∨ 274877906944 < q) :
    Calls Tryd.prog 59 #[.pointer (some a), .int .i64 q] w fun e w' => e = .returned (.iface 45 (.int .i64 8)) ∧ w' = w := by
  by_cases h : q < 0
  · clear hq
    go_enter Tryd.func59, Tryd.ntmps59
    go_wp2
    go_ret
    exact ⟨rfl, rfl⟩
  · have h2 : 274877906944 < q := by omega
    have h1 : 0 ≤ q := by omega
    clear hq h
    go_enter Tryd.func59, Tryd.ntmps59
    go_wp2
    go_ret
    exact ⟨rfl, rfl⟩

theorem seek_ok {w : World} {b : Nat} {key nonce : List UInt8} {p q : Nat} (h : StreamAt w b key nonce p) (hq : q ≤ 274877906944) :
    Calls Tryd.prog 48 #[.pointer (some ⟨b, 0, none⟩), .int .i64 (q : Int)] w fun e w' => e = .returned .nilIface ∧ StreamAt w' b key nonce q ∧ Only (fun k => k = b) w w' := by
  have H := Lib.hid h
  have HM := Lib.hid (move_ok h.cell (h.blk.frozen 0) hq)
  clear h
  go_enter Tryd.func48, Tryd.ntmps48
  go_wp2_with (go_at_call 59; refine HM.out.mono ?_; rintro e w' ⟨rfl, rfl⟩)
  go_ret
  exact ⟨rfl, H.out.set hq, Only.setCell ⟨b, 0, none⟩ _⟩

theorem seek_err {w : World} {b : Nat} {q : Int} (hq : q < 0 ∨ 274877906944 < q) :
    Calls Tryd.prog 48 #[.pointer (some ⟨b, 0, none⟩), .int .i64 q] w fun e w' => e = .returned (.iface 45 (.int .i64 8)) ∧ w' = w := by
  have HM := Lib.hid (move_err (w := w) (a := ⟨b, 0, none⟩) hq)
  clear hq
  go_enter Tryd.func48, Tryd.ntmps48
  go_wp2_with (go_at_call 59; refine HM.out.mono ?_; rintro e w' ⟨rfl, rfl⟩)
  go_ret
  exact ⟨rfl, rfl⟩

theorem seek_nil {w : World} {q : Int} : Calls Tryd.prog 48 #[.pointer none, .int .i64 q] w fun e w' => e = .returned (.iface 45 (.int .i64 8)) ∧ w' = w := by
  go_enter Tryd.func48, Tryd.ntmps48
  go_wp2
  go_ret
  exact ⟨rfl, rfl⟩

theorem built_sixteen (a b c d e f g h i j k l m n o p : Int) : Tryd.prog.built 99 [(1, .agg #[.int .u32 a, .int .u32 b, .int .u32 c, .int .u32 d, .int .u32 e, .int .u32 f, .int .u32 g, .int .u32 h, .int .u32 i, .int .u32 j, .int .u32 k, .int .u32 l, .int .u32 m, .int .u32 n, .int .u32 o, .int .u32 p])] = some #[.int .i64 0, .int .u32 a, .int .u32 b, .int .u32 c, .int .u32 d, .int .u32 e, .int .u32 f, .int .u32 g, .int .u32 h, .int .u32 i, .int .u32 j, .int .u32 k, .int .u32 l, .int .u32 m, .int .u32 n, .int .u32 o, .int .u32 p] := by kernel_rfl
theorem sixteen {ss : List Int} (h : ss.length = 16) : ∃ a b c d e f g h i j k l m n o p, ss = [a, b, c, d, e, f, g, h, i, j, k, l, m, n, o, p] := by
  match ss, h with
  | [a, b, c, d, e, f, g, h, i, j, k, l, m, n, o, p], _ => exact ⟨_, _, _, _, _, _, _, _, _, _, _, _, _, _, _, _, rfl⟩
theorem built_stream (ss : List Int) (h : ss.length = 16) : Tryd.prog.built 99 [(1, .agg (ss.map wordV).toArray)] = some (.int .i64 0 :: ss.map wordV).toArray := by
  obtain ⟨a, b, c, d, e, f, g, q, i, j, k, l, m, n, o, p, rfl⟩ := sixteen h
  have := built_sixteen a b c d e f g q i j k l m n o p
  simpa [wordV] using this

set_option maxRecDepth 100000 in
set_option maxHeartbeats 1000000 in
theorem new_any {w : World} {key nonce : List UInt8} (hk : key.length = 32) (hn : nonce.length = 12) :
    Calls Tryd.prog 47 #[digV key, digV nonce] w fun e w' => ∃ b, e = .returned (.pointer (some ⟨b, 0, none⟩)) ∧ StreamAt w' b key nonce 0 ∧ w.heap.size ≤ b ∧ Only (fun _ => False) w w' := by
  have HK := Lib.hid hk; have HN := Lib.hid hn
  clear hk hn
  have HST : Hid (∀ w1, Calls Tryd.prog 58 #[.agg (key.map byteV).toArray, .agg (nonce.map byteV).toArray] w1 fun e w' => e = .returned (wordsV (Ch.start key nonce 0)) ∧ Only (fun _ => False) w1 w') := fun w1 => start_any HK.out HN.out
  have HBU := Lib.hid (built_stream _ (Ch.start_length key nonce 0))
  have HSA : Hid (∀ w1, Blk w1 (w1.heap.size - 1) (.int .i64 0 :: (Ch.start key nonce 0).map wordV) 99 → StreamAt w1 (w1.heap.size - 1) key nonce 0) := fun w1 h => ⟨h, by decide⟩
  generalize Ch.start key nonce 0 = ss at *
  unfold digV
  go_enter Tryd.func47, Tryd.ntmps47
  go_wp2_with (first
    | (refine wpList_load_row rfl 22 (.tmp 2) rfl w.heap.size rfl 22 (key.map byteV).toArray (0, 0) _ (KN.new w key nonce).kb.heap Tryd.underlying22 rfl (size_a32 HK.out) ?_)
    | (refine wpList_load_row rfl 64 (.tmp 3) rfl (w.heap.size + 1) rfl 64 (nonce.map byteV).toArray (0, 0) _ (KN.new w key nonce).nb.heap Tryd.underlying64 rfl (size_a12 HN.out) ?_)
    | (go_at_call 58; refine (HST.out _).mono ?_; rintro e w2 ⟨rfl, ho2⟩; have HO2 := Lib.hid (((Only.alloc _).trans (Only.alloc _)).trans ho2); clear ho2)
    | (refine wpList_build_as rfl 99 #[(1, .tmp 7)] rfl [(1, .agg (ss.map wordV).toArray)] (by simp [go_sem, wordsV]) _ HBU.out ?_))
  go_ret
  refine ⟨w2.heap.size, rfl, ?_, HO2.out.size, HO2.out.trans (Only.alloc _)⟩
  have := HSA.out (w2.alloc (.cells (.int .i64 0 :: ss.map wordV).toArray 99))
  rw [World.size_alloc, Nat.add_sub_cancel] at this
  exact this (Blk.new _ _ _)

end Go.Proofs.YtgdnmbchhfbjoaaDoor
