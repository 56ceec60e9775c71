/- bytes.Cut at a byte 0; ustar.text; field and number of the document. Conditions: rows of 512 bytes at most. -/
import Derived.Test.YtemfelonfokcnaaUsClean
import Derived.Test.YtemfelonfokcnaaGSlice
import Derived.Test.YtemfelonfokcnaaLay11
namespace Go.Proofs.Ytemfelonfokcnaa
open Go.RowKit

namespace Us
theorem index_zero : ∀ l : By, (Lib.indexByte l 0 = -1 ∧ fld l = l) ∨ ∃ i : Nat, Lib.indexByte l 0 = (i : Int) ∧ i < l.length ∧ fld l = l.take i
  | [] => .inl ⟨rfl, rfl⟩
  | b :: l => by
    by_cases hb : b = 0
    · subst hb
      exact .inr ⟨0, by simp [Lib.indexByte], by simp, by simp [fld]⟩
    · rcases index_zero l with ⟨h1, h2⟩ | ⟨i, h1, h2, h3⟩
      · exact .inl ⟨by simp [Lib.indexByte, hb, h1], by unfold fld at *; simp [hb, h2]⟩
      · have e : ((i : Int) == -1) = false := by rw [beq_eq_false_iff_ne]; omega
        exact .inr ⟨i + 1, by simp [Lib.indexByte, hb, h1, e], by simp; omega, by unfold fld at *; simp [hb, h3]⟩
theorem bytesOf_nat (l : By) : Lib.bytesOf (l.map fun b => (b.toNat : Int)) = l := by
  unfold Lib.bytesOf
  rw [List.map_map]
  conv => rhs; rw [← List.map_id l]
  apply List.map_congr_left
  intro b _
  simp
end Us

theorem slice_l0 {a : Option Addr} {n cap m : Nat} (h : m ≤ n) : ∃ a', ∀ w : World, (Instr.slice 25 (.slice a n cap) (some (.int .i64 (m : Int))) none none).run Try.prog w = .ok (.slice a' (n - m) (cap - m)) w := by
  refine ⟨if cap = m then a else a.map (·.add m), fun w => ?_⟩
  rw [run_slice_l (ht := by kernel_rfl) (h0 := by omega) (h1 := by omega)]
  have hsz : (sizeOf (Try.prog.elem 25)).run Try.prog w = .ok 1 w := by kernel_rfl
  rw [hsz]
  simp [Result.andThen, sliced]

theorem bIndex_any {w : World} {S : Nat → Prop} {ad : Addr} {c : Nat} {bs : List UInt8} (hv : BytesAt w S (.slice (some ad) bs.length c) bs) {z : Nat} (hz : w.cell? ⟨z, 0, none⟩ = some (.int .u8 0)) :
    Calls Try.prog 50 #[.slice (some ad) bs.length c, .slice (some ⟨z, 0, none⟩) 1 1] w fun e w' => e = .returned (.int .i64 (Lib.indexByte bs 0)) ∧ w' = w := by
  have h := Any.bytes_Index_one_at Try.lays185 ad bs.length c z 0 1 (bs.map fun b => (b.toNat : Int)) 0 w (by simp) (fun i hi => by
    rcases hv with ⟨e, _⟩ | ⟨ad2, c2, e, _, _, hc⟩
    · cases e
    · obtain ⟨e1, _, _⟩ := Value.slice.inj e
      cases e1
      rw [hc i _ (List.getElem?_eq_getElem hi)]
      simp [List.getD, hi, byteV]) hz
  rw [Us.bytesOf_nat] at h
  exact h

set_option maxRecDepth 100000 in
theorem bCut_any {w : World} {S : Nat → Prop} {ad : Addr} {c : Nat} {bs : List UInt8} (hv : BytesAt w S (.slice (some ad) bs.length c) bs) (hl : bs.length ≤ 512) {z : Nat} (hz : w.cell? ⟨z, 0, none⟩ = some (.int .u8 0)) :
    Calls Try.prog 45 #[.slice (some ad) bs.length c, .slice (some ⟨z, 0, none⟩) 1 1] w fun e w' => ∃ a2 f, e = .returned (.tuple #[.slice (some ad) (Us.fld bs).length c, a2, .bool f]) ∧ ∃ n, w' = w.drewN n := by
  have HI := Lib.hid (bIndex_any hv hz)
  have hroom := hv.room
  clear hv hz
  rcases Us.index_zero bs with ⟨h1, h2⟩ | ⟨i, h1, h2, h3⟩
  · rw [h1] at HI
    rw [h2]
    clear h1 h2
    go_enter Try.func45, Try.ntmps45
    go_wp2_with (go_at_call 50; refine HI.out.mono ?_; rintro e w' ⟨rfl, rfl⟩)
    go_ret3
    exact ⟨_, _, rfl, 0, rfl⟩
  · rw [h1] at HI
    have e : (Us.fld bs).length = i := by rw [h3]; simp; omega
    rw [e]
    have hs1 : ∀ w : World, (Instr.slice 25 (.slice (some ad) bs.length c) none (some (.int .i64 (i : Int))) none).run Try.prog w = .ok (.slice (some ad) i c) w := fun w => slice_h (by omega) w
    obtain ⟨a', hs2⟩ := slice_l0 (a := some ad) (n := bs.length) (cap := c) (m := i + 1) (by omega)
    have hs3 : ∀ w : World, (Instr.slice 25 (.slice (some ad) bs.length c) (some (.int .i64 ((i : Int) + 1))) none none).run Try.prog w = .ok (.slice a' (bs.length - (i + 1)) (c - (i + 1))) w := fun w => by
      have := hs2 w
      push_cast at this
      exact this
    clear h1 h3 hs2 e
    go_enter Try.func45, Try.ntmps45
    go_wp2_with (go_at_call 50; refine HI.out.mono ?_; rintro e w' ⟨rfl, rfl⟩)
    go_region
    go_wp2
    go_ret3
    exact ⟨_, _, rfl, 1, rfl⟩

set_option maxRecDepth 100000 in
/-- ustar.text. -/
theorem text_any {w : World} {S : Nat → Prop} {v : Value} {bs : List UInt8} (hv : BytesAt w S v bs) (hS : ∀ k, S k → k < w.heap.size) (h0 : bs ≠ []) (hl : bs.length ≤ 512) :
    Calls Try.prog 42 #[v] w fun e w' => e = .returned (.string (Us.str (Us.fld bs))) ∧ Quiet w w' := by
  obtain ⟨ad, c, rfl⟩ : ∃ ad c, v = .slice (some ad) bs.length c := by
    rcases hv with ⟨_, e⟩ | ⟨ad, c, e, _⟩
    · exact (h0 e).elim
    · exact ⟨ad, c, e⟩
  have hv1 : BytesAt (w.alloc (.cells #[.int .u8 0] 5)) S (.slice (some ad) bs.length c) bs := hv.kept (fun k hk => Below.heap_alloc _ _ _ (hS k hk)) (fun _ h => h)
  have HC := Lib.hid (bCut_any hv1 hl (z := w.heap.size) (by rw [(Blk.new w [.int .u8 0] 5).cell]; rfl))
  have HT : Hid (∀ n, (convert 25 9 (.slice (some ad) (Us.fld bs).length c)).run Try.prog ((w.alloc (.cells #[.int .u8 0] 5)).drewN n) = .ok (.string (Us.str (Us.fld bs))) ((w.alloc (.cells #[.int .u8 0] 5)).drewN n)) := fun n => by
    have h1 : BytesAt ((w.alloc (.cells #[.int .u8 0] 5)).drewN n) S (.slice (some ad) (Us.fld bs).length c) (Us.fld bs) := by
      have hf : Us.fld bs <+: bs := List.takeWhile_prefix _
      obtain ⟨t, ht⟩ := hf
      have hle : (Us.fld bs).length ≤ bs.length := by
        have h := congrArg List.length ht
        rw [List.length_append] at h
        omega
      rcases hv1 with ⟨e, _⟩ | ⟨ad2, c2, e, hc, hS2, hcell⟩
      · cases e
      · obtain ⟨e1, _, e3⟩ := Value.slice.inj e
        cases e1; cases e3
        refine .inr ⟨ad, c, rfl, by omega, fun _ => hS2 h0, fun j x hx => ?_⟩
        have := hcell j x (by rw [← ht, List.getElem?_append_left (List.getElem?_eq_some_iff.1 hx).1]; exact hx)
        rw [World.cell?_of_block (w := w.alloc (.cells #[.int .u8 0] 5)) (by rw [heap_drewN])]
        exact this
    exact h1.text
  have HO : Hid (∀ n, Quiet w ((w.alloc (.cells #[.int .u8 0] 5)).drewN n)) := fun n => (Only.alloc _).trans (Only.drewN n)
  clear hv hv1
  generalize Us.str (Us.fld bs) = tx at *
  generalize (Us.fld bs).length = m at *
  go_enter Try.func42, Try.ntmps42
  go_wp2_with (go_at_call 45; refine HC.out.mono ?_; rintro e w' ⟨a2, f, rfl, n, rfl⟩; have ht := HT.out n)
  go_ret
  exact ⟨rfl, HO.out _⟩


namespace Us
theorem fld_at : ∀ l : By, (fld l).length ≤ l.length ∧ (∀ j x, j < (fld l).length → l[j]? = some x → x ≠ 0) ∧ ∀ x, l[(fld l).length]? = some x → x = 0
  | [] => ⟨by simp [fld], fun j x h => by simp [fld] at h, fun x h => by simp [fld] at h⟩
  | b :: l => by
    obtain ⟨h1, h2, h3⟩ := fld_at l
    by_cases hb : b = 0
    · subst hb
      have e : fld (0 :: l) = [] := by simp [fld]
      rw [e]
      exact ⟨by simp, fun j x h => by simp at h, fun x h => by simpa using h.symm⟩
    · have e : fld (b :: l) = b :: fld l := by simp [fld, hb]
      rw [e]
      refine ⟨by simp; omega, fun j x hj hx => ?_, fun x hx => h3 x (by simpa using hx)⟩
      cases j with
      | zero => rw [show x = b by simpa using hx.symm]; exact hb
      | succ j => exact h2 j x (by simpa using hj) (by simpa using hx)
theorem fld_take (l : By) : fld l = l.take (fld l).length := by
  obtain ⟨t, ht⟩ : fld l <+: l := List.takeWhile_prefix _
  have := List.take_left' (l₁ := fld l) (l₂ := t) rfl
  rw [ht] at this
  exact this.symm
end Us

set_option maxRecDepth 100000 in
theorem r10field_any {w : World} {S : Nat → Prop} {v : Value} {bs : List UInt8} (hv : BytesAt w S v bs) (h0 : bs ≠ []) (hl : bs.length ≤ 512) :
    Calls Try.prog 38 #[v] w fun e w' => e = .returned (.string (Us.str (Us.fld bs))) ∧ w' = w := by
  obtain ⟨ad, c, rfl⟩ : ∃ ad c, v = .slice (some ad) bs.length c := by
    rcases hv with ⟨_, e⟩ | ⟨ad, c, e, _⟩
    · exact (h0 e).elim
    · exact ⟨ad, c, e⟩
  obtain ⟨hm, hne, hz⟩ := Us.fld_at bs
  obtain ⟨c2, hS2, hcell⟩ : bs.length ≤ c ∧ S ad.block ∧ ∀ j x, bs[j]? = some x → w.cell? (ad.add j) = some (byteV x) := by
    rcases hv with ⟨e, _⟩ | ⟨ad2, c2, e, hc, hS2, hcell⟩
    · cases e
    · obtain ⟨e1, _, e3⟩ := Value.slice.inj e
      cases e1; cases e3
      exact ⟨hc, hS2 h0, hcell⟩
  have hsl : ∀ w : World, (Instr.slice 25 (.slice (some ad) bs.length c) none (some (.int .i64 ((Us.fld bs).length : Int))) none).run Try.prog w = .ok (.slice (some ad) (Us.fld bs).length c) w := fun w => slice_h (by omega) w
  have ht : (convert 25 9 (.slice (some ad) (Us.fld bs).length c)).run Try.prog w = .ok (.string (Us.str (Us.fld bs))) w := by
    have h1 : BytesAt w S (.slice (some ad) (Us.fld bs).length c) (Us.fld bs) := by
      refine .inr ⟨ad, c, rfl, by omega, fun _ => hS2, fun j x hx => hcell j x ?_⟩
      rw [Us.fld_take, List.getElem?_take] at hx
      split at hx
      · exact hx
      · cases hx
    exact h1.text
  have HNE := Lib.hid hne; have HZ := Lib.hid hz; have HC := Lib.hid hcell
  clear hv hne hz hcell hS2 h0
  generalize Us.str (Us.fld bs) = tx at *
  generalize (Us.fld bs).length = m at *
  go_enter Try.func38, Try.ntmps38
  go_wp2
  go_loopw [3] (fun iv w' => ∃ i : Nat, i ≤ m ∧ iv = .int .i64 (i : Int) ∧ w' = w) (fun iv _ => m - (intOf iv).toNat)
  case atStart => exact ⟨0, Nat.zero_le _, rfl, rfl⟩
  case round =>
    obtain ⟨i, hi, rfl, hw⟩ := hrel
    subst hw
    by_cases hlt : i < m
    · have hib : i < bs.length := by omega
      have c1 := HC.out i _ (List.getElem?_eq_getElem hib)
      have hx := HNE.out i _ hlt (List.getElem?_eq_getElem hib)
      generalize bs[i] = x at *
      unfold byteV at c1
      have hx0 : x.toNat ≠ 0 := fun e => hx (by rw [← UInt8.toNat_inj]; exact e)
      generalize x.toNat = y at *
      go_wp2
      go_roundw
      case rel => exact ⟨i + 1, by omega, by go_num, trivial⟩
      case measure => simp [intOf]; omega
    · have him : i = m := by omega
      subst him
      by_cases hib : i < bs.length
      · have c1 := HC.out i _ (List.getElem?_eq_getElem hib)
        have hx := HZ.out _ (List.getElem?_eq_getElem hib)
        rw [hx] at c1
        change wr.cell? (ad.add i) = some (.int .u8 0) at c1
        go_wp2
        go_ret
        exact ⟨rfl, rfl⟩
      · have hnl : ¬ ((i : Int) < (bs.length : Int)) := by omega
        go_wp2
        go_ret
        exact ⟨rfl, rfl⟩

namespace Us
def dfold (l : By) : Nat := l.foldl (fun n c => 8 * n + (c.toNat - 48)) 0
theorem dfold_snoc (l : By) (c : UInt8) : dfold (l ++ [c]) = 8 * dfold l + (c.toNat - 48) := by unfold dfold; rw [List.foldl_append]; rfl
theorem dfold_lt (l : By) : ∀ i, i ≤ l.length → (l.take i).all digit = true → dfold (l.take i) < 8 ^ i := by
  intro i
  induction i with
  | zero => intro _ _; simp [dfold]
  | succ i ih =>
    intro h ha
    rw [List.take_succ_eq_append_getElem (by omega), List.all_append, Bool.and_eq_true] at ha
    have h2 := ih (by omega) ha.1
    have h3 : digit l[i] = true := by simpa using ha.2
    unfold digit at h3
    simp at h3
    rw [List.take_succ_eq_append_getElem (by omega), dfold_snoc, Nat.pow_succ]
    omega
end Us

set_option maxRecDepth 100000 in
theorem r10number_any {w : World} {S : Nat → Prop} {v : Value} {bs : List UInt8} (hv : BytesAt w S v bs) (h0 : bs ≠ []) (hl : bs.length ≤ 11) :
    Calls Try.prog 39 #[v] w fun e w' => e = .returned (.int .i64 (Us.numv bs)) ∧ w' = w := by
  obtain ⟨ad, c, rfl⟩ : ∃ ad c, v = .slice (some ad) bs.length c := by
    rcases hv with ⟨_, e⟩ | ⟨ad, c, e, _⟩
    · exact (h0 e).elim
    · exact ⟨ad, c, e⟩
  have HC : Hid (∀ j x, bs[j]? = some x → w.cell? (ad.add j) = some (byteV x)) := by
    rcases hv with ⟨e, _⟩ | ⟨ad2, c2, e, hc, hS2, hcell⟩
    · cases e
    · obtain ⟨e1, _, e3⟩ := Value.slice.inj e
      cases e1; cases e3
      exact hcell
  clear hv
  obtain ⟨V, hV⟩ : ∃ V, Us.numv bs = V := ⟨_, rfl⟩
  rw [hV]
  have HV := Lib.hid hV
  clear hV
  go_enter Try.func39, Try.ntmps39
  go_wp2
  go_loopw [3, 4] (fun nv iv w' => ∃ i : Nat, i ≤ bs.length ∧ nv = .int .i64 ((Us.dfold (bs.take i) : Nat) : Int) ∧ iv = .int .i64 (i : Int) ∧ w' = w ∧ (bs.take i).all Us.digit = true) (fun _ iv _ => bs.length - (intOf iv).toNat)
  case atStart => exact ⟨0, Nat.zero_le _, rfl, rfl, rfl, rfl⟩
  case round =>
    obtain ⟨i, hi, rfl, rfl, hw, hall⟩ := hrel
    subst hw
    by_cases hlt : i < bs.length
    · have c1 := HC.out i _ (List.getElem?_eq_getElem hlt)
      have hb := Us.dfold_lt bs i hi hall
      have hp : (8 : Nat) ^ i ≤ 8 ^ 11 := Nat.pow_le_pow_right (by decide) (by omega)
      have hs := Us.dfold_snoc (bs.take i) bs[i]
      rw [← List.take_succ_eq_append_getElem hlt] at hs
      have hd : (bs.take (i + 1)).all Us.digit = ((bs.take i).all Us.digit && Us.digit bs[i]) := by
        rw [List.take_succ_eq_append_getElem hlt, List.all_append]; simp
      have hno : Us.digit bs[i] = false → V = -1 := fun e => by
        rw [← HV.out]
        unfold Us.numv
        rw [if_neg]
        rw [List.all_eq_true]
        exact fun h => by rw [h _ (List.getElem_mem hlt)] at e; cases e
      rw [hall] at hd
      generalize bs[i] = x at *
      generalize Us.dfold (bs.take i) = N at *
      have hN : N < 8589934592 := by omega
      have HS := Lib.hid hs; have HD := Lib.hid hd; have HNO := Lib.hid hno
      unfold byteV at c1
      have hu := x.toNat_lt
      clear hs hd hno hb hp hall
      by_cases h1 : 48 ≤ x.toNat
      · by_cases h2 : x.toNat ≤ 55
        · have hdx : Us.digit x = true := by unfold Us.digit; simp [h1, h2]
          rw [hdx] at HD
          generalize x.toNat = y at *
          have e1 : IntKind.u8.wrap ((y : Int) - 48) = ((y - 48 : Nat) : Int) := by rw [IntKind.wrap_u8]; omega
          have e2 : IntKind.i64.wrap (8 * (N : Int)) = ((8 * N : Nat) : Int) := by rw [IntWalk.i64_in _ (by omega)]; omega
          go_wp2
          exact ⟨⟨i + 1, by omega, by rw [HS.out]; rfl, by go_num, trivial, HD.out⟩, by simp [intOf]; omega⟩
        · have hdx : Us.digit x = false := by unfold Us.digit; simp; omega
          obtain rfl := HNO.out hdx
          clear HNO HD HS hdx
          generalize x.toNat = y at *
          go_wp2
          go_ret
          exact ⟨rfl, rfl⟩
      · have hdx : Us.digit x = false := by unfold Us.digit; simp; omega
        obtain rfl := HNO.out hdx
        clear HNO HD HS hdx
        generalize x.toNat = y at *
        go_wp2
        go_ret
        exact ⟨rfl, rfl⟩
    · obtain rfl : i = bs.length := by omega
      rw [List.take_length] at hall ⊢
      have hN : V = ((Us.dfold bs : Nat) : Int) := by
        rw [← HV.out]
        unfold Us.numv
        rw [if_pos hall]
        rfl
      clear hall HV
      generalize Us.dfold bs = N at *
      subst hN
      go_wp2
      go_ret
      exact ⟨rfl, rfl⟩

end Go.Proofs.Ytemfelonfokcnaa
