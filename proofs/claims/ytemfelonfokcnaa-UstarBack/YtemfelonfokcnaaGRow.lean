/- Rows that a call itself has made; a row of one byte. Conditions: none. -/
import Derived.Test.YtemfelonfokcnaaGParts
import Derived.Deep.RegionLaw
namespace Go.Proofs.Ytemfelonfokcnaa
open Go.RowKit

/-- A row that the call itself has made, and holds bs. -/
structure Row (w wr : World) (ov : Value) (bs : List UInt8) : Prop where
  row : wr.ownsRow 0 5 1 ov bs.length (bs.map byteV)
  own : ∀ q, ov.ownBlock = some q → w.heap.size ≤ q
  only : Only (fun _ => False) w wr

theorem Row.app {w wr w1 w2 : World} {ov : Value} {bs y : List UInt8} {a : Option Addr} {n c : Nat} (h : Row w wr ov bs) (ho : Only (fun _ => False) wr w1) (hn : n = bs.length + y.length) (hr : w2.ownsRow 0 5 1 (.slice a n c) n (bs.map byteV ++ y.map byteV)) (hg : w1.grownBy w2 ov.ownBlock) (hat : (Value.slice a n c).ownBlock = ov.ownBlock ∨ (Value.slice a n c).ownBlock = some w1.heap.size) :
    Row w w2 (.slice a n c) (bs ++ y) := by
  subst hn
  have hz := ho.size
  have hz0 := h.only.size
  refine ⟨by rw [List.length_append, List.map_append]; exact hr, fun q hq => ?_, ?_⟩
  · rcases hat with e | e
    · exact h.own q (by rw [← e]; exact hq)
    · rw [hq] at e
      have e1 : q = w1.heap.size := Option.some.inj e
      omega
  · refine (h.only.trans ho).andThen ((Only.of_grown hg).mono (S' := fun q => some q = ov.ownBlock) (fun q _ h => h)) (fun k hk e => ?_)
    have := h.own k e.symm
    omega

theorem Row.shape {w wr : World} {ov : Value} {bs : List UInt8} (h : Row w wr ov bs) : ∃ a c, ov = .slice a bs.length c := row_shape h.row
theorem Row.keep {w wr w1 : World} {ov : Value} {bs : List UInt8} (h : Row w wr ov bs) (ho : Only (fun _ => False) wr w1) : w1.ownsRow 0 5 1 ov bs.length (bs.map byteV) :=
  ownsRow_keep h.row (fun q hq => ho.block q (h.row.lt q hq).2 (fun x => x))
theorem Row.kept {w wr w1 : World} {ov : Value} {bs : List UInt8} (h : Row w wr ov bs) (ho : Only (fun _ => False) wr w1) : Row w w1 ov bs := ⟨h.keep ho, h.own, h.only.trans ho⟩
theorem Row.bytes {w wr : World} {ov : Value} {bs : List UInt8} (h : Row w wr ov bs) : BytesAt wr (fun k => k < wr.heap.size) ov bs :=
  (BytesAt.of_row h.row).mono (fun k hk => (h.row.lt k hk).2)

theorem one_byte (w : World) (b : UInt8) : BytesAt (w.alloc (.cells #[byteV b] 5)) (fun k => k = w.heap.size) (.slice (some ⟨w.heap.size, 0, none⟩) 1 1) [b] :=
  BytesAt.of_block (o := 0) (c := 1) (bs := [b]) (Blk.new w [byteV b] 5).heap (Nat.le_refl _) (fun j x hx => by
    match j, hx with
    | 0, hx => cases hx; rfl)

/-- append of a row of bytes, as one step of a region that draws its order. -/
theorem step_append_bytes {ops : Array Oper} {o : Oper} {a : Act} {w : World} {K : Act → World → Prop} {Q : Exit → Act → World → Prop} {E : Prop} (hg : o.guard = none) (s x : Operand)
    (hop : o.op = .call { callee := .builtin .append, args := #[s, x], argTypes := #[25, 25] }) (v vx : Value) (n : Nat) (xs : List Value) (hs : a.eval s = v) (hx : a.eval x = vx)
    (hown : w.ownsRow 0 5 1 v n xs) {S : Nat → Prop} {bs : List UInt8} (hsrc : BytesAt w S vx bs) (hlen : n + bs.length ≤ 140737488355328)
    (h : ∀ a' c' w', w'.ownsRow 0 5 1 (.slice a' (n + bs.length) c') (n + bs.length) (xs ++ bs.map byteV) → w.grownBy w' v.ownBlock →
      ((Value.slice a' (n + bs.length) c').ownBlock = v.ownBlock ∨ (Value.slice a' (n + bs.length) c').ownBlock = some w.heap.size) → K (a.put o.dst (.slice a' (n + bs.length) c')) w') :
    if Region.wanted o (yielded ops a.tmps) = true then Oper.wp Try.prog o a w K Q else E := by
  have hw : Region.wanted o (yielded ops a.tmps) = true := by simp [Region.wanted, hg]
  rw [if_pos hw]
  obtain ⟨a', c', w', hrun, h2, h3, h4⟩ := run_append_bytes w o.type v vx n xs hown hsrc hlen
  unfold Oper.wp execOp
  simp only [hop, resolve, invoke, builtin, Sem.run_bind, Sem.run_pure, Result.andThen_ok, List.map_toArray, List.map_cons, List.map_nil, hs, hx, hrun]
  exact h a' c' w' h2 h3 h4

end Go.Proofs.Ytemfelonfokcnaa
