/- copy of a text into a block that is known whole; ustar.putSum. Conditions: none. -/
import Derived.Test.YtemfelonfokcnaaUsNum
namespace Go.Proofs.Ytemfelonfokcnaa
open Go.RowKit

theorem setCells_puts (g : Nat) : ∀ (vs : List Value) (o : Nat) (w : World), w.setCells g o vs = puts w g o vs
  | [], _, _ => rfl
  | _v :: vs, o, _w => setCells_puts g vs (o + 1) _

theorem wpList_copy_str {w : World} {ops : Array Oper} {rest : List Oper} {o : Oper} {a : Act} {Q : Exit → Act → World → Prop} (hgd : o.guard = none) (d s : Operand)
    (ho : o.op = .call { callee := .builtin .copy, args := #[d, s], argTypes := #[25, 9] }) (g off n c : Nat) (x : ByteArray) (hd : a.eval d = .slice (some ⟨g, off, none⟩) n c) (hs : a.eval s = .string x)
    {L : List Value} {t : TypeId} (hb : Blk w g L t) (hle : x.size ≤ n) (hfit : off + x.size ≤ L.length)
    (h : ∀ w', Blk w' g (splice L off (x.data.toList.map byteV)) t → Only (fun k => k = g) w w' → wpList Try.prog ops Q rest (a.put o.dst (.int .i64 (x.size : Int))) w') :
    wpList Try.prog ops Q (o :: rest) a w := by
  refine wpList_plain hgd fun K hK => ?_
  have hl : (x.data.toList.map byteV).length = x.size := by simp
  have hrun := run_copy_string (P := Try.prog) w 25 9 o.type 5 g off n c x Try.underlying25 (fun w => by kernel_rfl) hle
    (fun j hj => by rw [hb.cell, List.getElem?_eq_getElem (by omega)]; rfl) (fun j _ => hb.frozen _)
  obtain ⟨h1, h2⟩ := hb.putted (x.data.toList.map byteV) off (by rw [hl]; exact hfit)
  have hrun2 : (Builtin.copy_ #[25, 9] o.type #[.slice (some ⟨g, off, none⟩) n c, .string x]).run Try.prog w = .ok (.int .i64 (x.size : Int)) (puts w g off (x.data.toList.map byteV)) := by
    rw [← setCells_puts]; exact hrun
  unfold Oper.wp execOp
  simp only [ho, resolve, invoke, builtin, Sem.run_bind, Sem.run_pure, Result.andThen_ok, List.map_toArray, List.map_cons, List.map_nil, hs, hd, hrun2]
  exact hK _ _ (h _ h1 h2)

namespace Us
theorem tot_snoc (l : By) (b : UInt8) : tot (l ++ [b]) = tot l + b.toNat := by simp [tot]
theorem tot_le (l : By) : ∀ i, i ≤ l.length → tot (l.take i) ≤ 255 * i := by
  intro i
  induction i with
  | zero => intro _; simp [tot]
  | succ i ih =>
    intro h
    have h1 := ih (by omega)
    have h2 := l[i].toNat_lt
    rw [List.take_succ_eq_append_getElem (by omega), tot_snoc]
    omega
theorem sum_put {l y : By} (hl : l.length = 512) (hy : y.length = 6) : (splice (splice l 148 blanks) 148 y).set 154 0 = splice l 148 (y ++ [0, 32]) := by
  have e1 : (splice l 148 blanks) = l.take 148 ++ (blanks ++ l.drop 156) := by
    unfold splice; rw [blanks_len]
  have e2 : splice (splice l 148 blanks) 148 y = l.take 148 ++ (y ++ ([32, 32] ++ l.drop 156)) := by
    rw [e1]
    have := splice_app (l.take 148) [32, 32, 32, 32, 32, 32] ([32, 32] ++ l.drop 156) y 148 (by simp [hl]) (by simp [hy])
    exact this
  have e3 : splice l 148 (y ++ [0, 32]) = l.take 148 ++ (y ++ ([0, 32] ++ l.drop 156)) := by
    unfold splice
    rw [List.length_append, hy, List.append_assoc]
    rfl
  have h1 : (l.take 148).length = 148 := by simp [hl]
  rw [e2, e3, List.set_append_right _ _ (by omega), h1, List.set_append_right _ _ (by omega), hy]
  rfl
theorem splice_map {α β : Type} (f : α → β) (L : List α) (o : Nat) (cs : List α) : splice (L.map f) o (cs.map f) = (splice L o cs).map f := by
  unfold splice
  simp
end Us

theorem slice_oh {g o n c l h : Nat} (hlh : l ≤ h) (hc : h ≤ c) (hlc : l < c) (w : World) : (Instr.slice 25 (.slice (some ⟨g, o, none⟩) n c) (some (.int .i64 (l : Int))) (some (.int .i64 (h : Int))) none).run Try.prog w = .ok (.slice (some ⟨g, o + l, none⟩) (h - l) (c - l)) w := by
  obtain ⟨a', h1, h2⟩ := slice_lo_hi (a := some ⟨g, o, none⟩) (n := n) hlh hc
  rw [h2, h1 hlc]
  simp [add_lit]
theorem slice_o {g o n c l : Nat} (hln : l ≤ n) (hlc : l < c) (w : World) : (Instr.slice 25 (.slice (some ⟨g, o, none⟩) n c) (some (.int .i64 (l : Int))) none none).run Try.prog w = .ok (.slice (some ⟨g, o + l, none⟩) (n - l) (c - l)) w := by
  rw [run_slice_l (ht := by kernel_rfl) (h0 := by omega) (h1 := by omega)]
  have hsz : (sizeOf (Try.prog.elem 25)).run Try.prog w = .ok 1 w := by kernel_rfl
  rw [hsz]
  simp [Result.andThen, sliced, show ¬ c = l by omega, add_lit]

set_option maxRecDepth 100000 in
set_option maxHeartbeats 2000000 in
/-- ustar.putSum. -/
theorem putSum_any {w : World} {g c : Nat} {l : Us.By} {t : TypeId} (hb : Blk w g (l.map byteV) t) (hl : l.length = 512) (hc : 512 ≤ c) :
    Calls Try.prog 29 #[.slice (some ⟨g, 0, none⟩) 512 c] w fun e w' => e = .returned (.tuple #[]) ∧ Blk w' g ((splice l 148 (Us.sumT (Us.tot (splice l 148 Us.blanks)))).map byteV) t ∧ Only (fun k => k = g) w w' := by
  have hs1 : ∀ w : World, (Instr.slice 25 (.slice (some ⟨g, 0, none⟩) 512 c) (some (.int .i64 148)) (some (.int .i64 156)) none).run Try.prog w = .ok (.slice (some ⟨g, 148, none⟩) 8 (c - 148)) w := fun w => slice_oh (g := g) (o := 0) (n := 512) (c := c) (l := 148) (h := 156) (by omega) (by omega) (by omega) w
  have hs2 : ∀ w : World, (Instr.slice 25 (.slice (some ⟨g, 148, none⟩) 8 (c - 148)) none (some (.int .i64 6)) none).run Try.prog w = .ok (.slice (some ⟨g, 148, none⟩) 6 (c - 148)) w := fun w => slice_h (m := 6) (by omega) w
  have hl1 : (splice l 148 Us.blanks).length = 512 := by rw [length_splice _ _ _ (by rw [hl]; decide), hl]
  have HB := Lib.hid hb
  have HL : Hid (148 + (ByteArray.mk #[32, 32, 32, 32, 32, 32, 32, 32]).size ≤ (l.map byteV).length) := by unfold Hid; rw [List.length_map, hl]; decide
  have HE : Hid (splice (l.map byteV) 148 ((ByteArray.mk #[32, 32, 32, 32, 32, 32, 32, 32]).data.toList.map byteV) = (splice l 148 Us.blanks).map byteV) := Us.splice_map _ _ _ _
  have HX : Hid ((splice (splice l 148 Us.blanks) 148 (Us.oct 6 (Us.tot (splice l 148 Us.blanks)))).set 154 0 = splice l 148 (Us.sumT (Us.tot (splice l 148 Us.blanks)))) := by
    have h8 : Us.sumT (Us.tot (splice l 148 Us.blanks)) = Us.oct 6 (Us.tot (splice l 148 Us.blanks)) ++ [0, 32] := rfl
    generalize Us.tot (splice l 148 Us.blanks) = N at *
    rw [h8]
    exact Us.sum_put hl (Us.oct_len 6 N)
  have hT : Us.tot (splice l 148 Us.blanks) ≤ 130560 := by
    have := Us.tot_le (splice l 148 Us.blanks) 512 (by omega)
    rw [List.take_of_length_le (by omega)] at this
    omega
  generalize splice l 148 Us.blanks = m at *
  have HM := Lib.hid hl1
  clear hb hl1
  go_enter Try.func29, Try.ntmps29
  go_wp2_with (refine wpList_copy_str rfl _ _ rfl g 148 8 (c - 148) ⟨#[32, 32, 32, 32, 32, 32, 32, 32]⟩ rfl rfl HB.out (by decide) HL.out ?_; intro w1 hb1 ho1; have HB1 := Lib.hid ((congrArg (fun z => Blk w1 g z t) HE.out).mp hb1); have HO1 := Lib.hid ho1; clear hb1 ho1)
  have HMC : Hid (∀ i (h : i < m.length), w1.cell? ⟨g, i, none⟩ = some (.int .u8 (m[i].toNat : Int))) := fun i h => by
    rw [HB1.out.cell, List.getElem?_map, List.getElem?_eq_getElem h]; rfl
  have hm := HM.out
  go_loopw [3, 12] (fun nv iv wr => ∃ i : Nat, i ≤ 512 ∧ nv = .int .i64 ((Us.tot (m.take i) : Nat) : Int) ∧ iv = .int .i64 (i : Int) ∧ wr = w1) (fun _ iv _ => 512 - (intOf iv).toNat)
  case atStart => exact ⟨0, Nat.zero_le _, rfl, rfl, rfl⟩
  case round =>
    obtain ⟨i, hi, rfl, rfl, hw⟩ := hrel
    subst hw
    by_cases hlt : i < 512
    · have c1 := HMC.out i (by omega)
      have ht := Us.tot_snoc (m.take i) (m[i]'(by omega))
      rw [← List.take_succ_eq_append_getElem (by omega)] at ht
      have hb := Us.tot_le m i (by omega)
      have hu := (m[i]'(by omega)).toNat_lt
      generalize (m[i]'(by omega)).toNat = x at *
      generalize Us.tot (m.take i) = N at *
      have HT := Lib.hid ht
      clear ht
      go_wp2
      go_roundw
      case rel => exact ⟨i + 1, by omega, by rw [HT.out]; rfl, by go_num, trivial⟩
      case measure => simp [intOf]; omega
    · obtain rfl : i = 512 := by omega
      rw [List.take_of_length_le (by omega)]
      have HP := Lib.hid (putOctal_any (w := wr) (g := g) (o := 148) (d := 6) (c := c - 148) HB1.out (by rw [List.length_map]; omega) (by rw [List.length_map]; omega) (Us.tot m) (by omega))
      have HL2 : Hid ((splice (m.map byteV) 148 ((Us.oct 6 (Us.tot m)).map byteV)).length = 512) := by
        unfold Hid; rw [length_splice _ _ _ (by simp [Us.oct_len]; omega), List.length_map, hm]
      have HFIN : Hid ((splice (m.map byteV) 148 ((Us.oct 6 (Us.tot m)).map byteV)).set 154 (byteV 0) = (splice l 148 (Us.sumT (Us.tot m))).map byteV) := by
        unfold Hid; rw [← HX.out, Us.splice_map, List.map_set]
      go_wp2_with (go_at_call 28; refine HP.out.mono ?_; rintro e w2 ⟨rfl, hb2, ho2⟩; have HB2 := Lib.hid hb2; have HO2 := Lib.hid ho2; clear hb2 ho2; obtain ⟨old, c2⟩ : ∃ old, w2.cell? ⟨g, 154, none⟩ = some old := ⟨_, (HB2.out.cell 154).trans (List.getElem?_eq_getElem (by rw [HL2.out]; decide))⟩; have f2 := HB2.out.frozen 154)
      go_end0
      refine ⟨rfl, ?_, (HO1.out.trans HO2.out).trans (Only.setCell ⟨g, 154, none⟩ _)⟩
      have := HB2.out.set 154 (byteV 0)
      rw [HFIN.out] at this
      exact this

end Go.Proofs.Ytemfelonfokcnaa
