/- WireFramed over a struct, and what that struct reads as. Conditions: rows within the reach. -/
import Derived.Test.YtlfbdhgppmmahaaWiFrmd
import Derived.Test.YtlfbdhgppmmahaaGArgs
namespace Go.Proofs.Ytlfbdhgppmmahaa
open Go.ChangeShapes Go.WideShapes Go.ChangeAt Go.RowKit

set_option maxRecDepth 100000 in
theorem wireFramed_any {w : World} {k : UInt8} {av cv bv : Value} {xs cs bs : List UInt8} (ha : BytesAt w (fun k => k < w.heap.size) av xs) (hc : BytesAt w (fun k => k < w.heap.size) cv cs) (hb : BytesAt w (fun k => k < w.heap.size) bv bs) (hla : xs.length ≤ 140737488351232) (hlc : cs.length ≤ 140737488351232) (hlb : bs.length ≤ 140737488351232) :
    Calls Try.prog 3 #[.agg #[byteV k, av, cv, bv]] w fun e w' => e = .returned (.bool true) ∧ Only (fun _ => False) w w' := by
  obtain ⟨aa, ac, rfl⟩ := ha.shape
  obtain ⟨ca, cc, rfl⟩ := hc.shape
  obtain ⟨ba, bc, rfl⟩ := hb.shape
  obtain ⟨w0, hw0⟩ : ∃ w0, w0 = w.alloc (.cells #[byteV k, .slice aa xs.length ac, .slice ca cs.length cc, .slice ba bs.length bc] 24) := ⟨_, rfl⟩
  have HO : Hid (Only (fun _ => False) w w0) := by rw [hw0]; exact Only.alloc _
  have hB : Blk w0 w.heap.size [byteV k, .slice aa xs.length ac, .slice ca cs.length cc, .slice ba bs.length bc] 24 := by rw [hw0]; exact Blk.new _ _ _
  have HL := Lib.hid (frames4_any (k := k) (ha.here HO.out (fun _ h => h)) (hc.here HO.out (fun _ h => h)) (hb.here HO.out (fun _ h => h)) hla hlc hlb)
  have c0 := hB.cell 0
  have c1 := hB.cell 1
  have c2 := hB.cell 2
  have c3 := hB.cell 3
  rw [hw0] at c0 c1 c2 c3
  simp only [List.getElem?_cons_zero, List.getElem?_cons_succ] at c0 c1 c2 c3
  unfold byteV at *
  clear ha hc hb hB
  go_enter Try.func3, Try.ntmps3
  go_wp2_with (go_at_call 4; rw [← hw0]; refine HL.out.mono ?_; rintro e w1 ⟨rfl, hq⟩; have HQ1 := Lib.hid hq; clear hq)
  go_ret
  exact ⟨rfl, HO.out.trans HQ1.out⟩

theorem framed_open {H : Type} {enc : TypeId × Value → H} {w : World} {base : Nat} {spare : Nat → Bool} {held : Bool} {fuel : Nat} {cs : List Value} {x : DataW H × List MemPlace} (h : DataW.trod enc Try.prog w base spare held fuel 24 cs = some x) (hz : Small 24 x.1) :
    ∃ (k : UInt8) (v1 v2 v3 : Value) (x1 x2 x3 : List UInt8), cs = [byteV k, v1, v2, v3] ∧ BytesAt w (fun k => k < w.heap.size) v1 x1 ∧ BytesAt w (fun k => k < w.heap.size) v2 x2 ∧ BytesAt w (fun k => k < w.heap.size) v3 x3 ∧ x1.length ≤ 140737488351232 ∧ x2.length ≤ 140737488351232 ∧ x3.length ≤ 140737488351232 := by
  obtain ⟨y0, y1, y2, y3, n, rfl, hl, f0, f1, f2, f3⟩ := Joins.trod_struct4 Try.underlying24 h
  have hcl : Try.prog.cellsOf 24 = 4 := by kernel_rfl
  have hc2 : Try.prog.cellsOf 22 = 1 := by kernel_rfl
  have hc3 : Try.prog.cellsOf 5 = 1 := by kernel_rfl
  rw [hcl] at hl
  obtain ⟨c0, c1, c2, c3, rfl⟩ : ∃ c0 c1 c2 c3, cs = [c0, c1, c2, c3] := by
    match cs, hl with
    | [c0, c1, c2, c3], _ => exact ⟨c0, c1, c2, c3, rfl⟩
  simp only [hc3, hc2, List.drop, List.take] at f0 f1 f2 f3
  have hw : ∀ q, q ∈ y1.1.weights Try.prog 22 ∨ q ∈ y2.1.weights Try.prog 22 ∨ q ∈ y3.1.weights Try.prog 22 → q ≤ reachBytes := by
    intro q hq
    refine hz q ?_
    simp only [DataW.weights, Try.underlying24, DataW.weightsEach, List.map_cons, List.map_nil, List.mem_append]
    rcases hq with hq | hq | hq
    · exact .inr (.inl hq)
    · exact .inr (.inr (.inl hq))
    · exact .inr (.inr (.inr (.inl hq)))
  obtain ⟨v1, x1, e1, hb1, hl1⟩ := bytes_open f1 (fun q hq => hw q (.inl hq))
  obtain ⟨v2, x2, e2, hb2, hl2⟩ := bytes_open f2 (fun q hq => hw q (.inr (.inl hq)))
  obtain ⟨v3, x3, e3, hb3, hl3⟩ := bytes_open f3 (fun q hq => hw q (.inr (.inr hq)))
  obtain ⟨j, e0, _, hj⟩ := DataW.trod_int Try.underlying5 f0
  have hjb := bounds_u8 hj
  have g0 := (List.cons.inj (show [c0] = [.int .u8 j] from e0)).1
  have g1 := (List.cons.inj (show [c1] = [v1] from e1)).1
  have g2 := (List.cons.inj (show [c2] = [v2] from e2)).1
  have g3 := (List.cons.inj (show [c3] = [v3] from e3)).1
  clear f0 f1 f2 f3 e0 e1 e2 e3
  subst g0 g1 g2 g3
  refine ⟨UInt8.ofNat j.toNat, c1, c2, c3, x1, x2, x3, ?_, hb1, hb2, hb3, hl1, hl2, hl3⟩
  congr 1
  unfold byteV
  congr 1
  simp only [UInt8.toNat_ofNat']
  omega

set_option maxRecDepth 100000 in
theorem framed_arg {H : Type} {enc : TypeId × Value → H} {W : World} {b0 : Nat} {v : Value} {d : DataW H} {p : List MemPlace} (hv : Value.okWide Try.prog W .any b0 24 v) (h : DataW.Trod enc Try.prog W 0 (fun _ => true) true 24 v d p) (hz : Small 24 d) :
    ∃ (k : UInt8) (v1 v2 v3 : Value) (x1 x2 x3 : List UInt8), v = .agg #[byteV k, v1, v2, v3] ∧ BytesAt W (fun k => k < W.heap.size) v1 x1 ∧ BytesAt W (fun k => k < W.heap.size) v2 x2 ∧ BytesAt W (fun k => k < W.heap.size) v3 x3 ∧ x1.length ≤ 140737488351232 ∧ x2.length ≤ 140737488351232 ∧ x3.length ≤ 140737488351232 := by
  unfold Value.okWide at hv
  rw [Try.underlying24] at hv
  obtain ⟨cs, rfl, _, _⟩ := hv
  obtain ⟨fuel, h⟩ := h
  obtain ⟨k, v1, v2, v3, x1, x2, x3, hcs, h1⟩ := framed_open h hz
  refine ⟨k, v1, v2, v3, x1, x2, x3, ?_, h1⟩
  congr 1
  exact Array.toList_inj.1 (by simpa [Value.cells] using hcs)

end Go.Proofs.Ytlfbdhgppmmahaa
