/- The document's own Reader: its calls. Conditions: the row is short. -/
import Derived.Test.YtnomgcbkaggmhaaWiRefR
namespace Go.Proofs.Ytnomgcbkaggmhaa
open Go.RowKit

set_option maxRecDepth 100000 in
theorem r4field_bad {w : World} {S : Nat → Prop} {v : Value} {bs : List UInt8} (hv : BytesAt w S v bs) (hS : ∀ k, S k → k < w.heap.size) (hl : bs.length ≤ 1048576) (hf : Wi.field bs = none) :
    Calls Try.prog 46 #[v] w fun e w' => e = .returned (.tuple #[.slice none 0 0, .int .i64 (-1)]) ∧ Only (fun _ => False) w w' := by
  obtain ⟨va, vc, rfl⟩ := hv.shape
  have HRD := Lib.hid (r4ReadVar_any hv hS (by omega))
  rcases field_cases bs with ⟨hr, _⟩ | ⟨n, j, hr, h1, _⟩ | ⟨n, j, hr, h1, h2, _⟩ | ⟨_, _, _, _, _, h3⟩
  · have HRV : Hid (Calls Try.prog 13 #[.slice va bs.length vc] w fun e w' => e = .returned (.tuple #[.int .i64 0, .int .i64 0, .int .i64 9]) ∧ Only (fun _ => False) w w') := by
      refine HRD.out.mono ?_
      rintro e w' ⟨ho, ⟨n', k', e1, rfl⟩ | ⟨e1, rfl⟩⟩
      · rw [hr] at e1; cases e1
      · exact ⟨rfl, ho⟩
    clear hv hS hf hr HRD
    go_enter Try.func46, Try.ntmps46
    go_wp2_with (go_at_call 13; refine HRV.out.mono ?_; rintro e w1 ⟨rfl, ho1⟩; have HO1 := Lib.hid ho1; clear ho1)
    go_ret2
    exact ⟨rfl, HO1.out⟩
  · have HRV : Hid (Calls Try.prog 13 #[.slice va bs.length vc] w fun e w' => e = .returned (.tuple #[.int .i64 (n : Int), .int .i64 (j : Int), .int .i64 0]) ∧ Only (fun _ => False) w w') := by
      refine HRD.out.mono ?_
      rintro e w' ⟨ho, ⟨n', k', e1, rfl⟩ | ⟨e1, _⟩⟩
      · rw [hr] at e1
        obtain ⟨rfl, rfl⟩ := Prod.mk.inj (Option.some.inj e1)
        exact ⟨rfl, ho⟩
      · rw [hr] at e1; cases e1
    have g1 : (n : Int) > 67108864 := by omega
    clear hv hS hf hr HRD
    go_enter Try.func46, Try.ntmps46
    go_wp2_with (go_at_call 13; refine HRV.out.mono ?_; rintro e w1 ⟨rfl, ho1⟩; have HO1 := Lib.hid ho1; clear ho1)
    go_ret2
    exact ⟨rfl, HO1.out⟩
  · have hjl := (Wi.readVar_some hr).le
    have h2' : bs.length - j < n := by simpa using h2
    have HRV : Hid (Calls Try.prog 13 #[.slice va bs.length vc] w fun e w' => e = .returned (.tuple #[.int .i64 (n : Int), .int .i64 (j : Int), .int .i64 0]) ∧ Only (fun _ => False) w w') := by
      refine HRD.out.mono ?_
      rintro e w' ⟨ho, ⟨n', k', e1, rfl⟩ | ⟨e1, _⟩⟩
      · rw [hr] at e1
        obtain ⟨rfl, rfl⟩ := Prod.mk.inj (Option.some.inj e1)
        exact ⟨rfl, ho⟩
      · rw [hr] at e1; cases e1
    have g1 : ¬ (n : Int) > 67108864 := by omega
    have g2 : (n : Int) > (bs.length : Int) - (j : Int) := by omega
    clear hv hS hf hr HRD h2
    go_enter Try.func46, Try.ntmps46
    go_wp2_with (go_at_call 13; refine HRV.out.mono ?_; rintro e w1 ⟨rfl, ho1⟩; have HO1 := Lib.hid ho1; clear ho1)
    go_ret2
    exact ⟨rfl, HO1.out⟩
  · rw [hf] at h3; cases h3

theorem Reader4At.keep {w w' : World} {S : Nat → Prop} {b g o : Nat} {st : Option (List UInt8)} (h : Reader4At w b g o st) (ho : Only S w w') (hb : ¬ S b) (hg : ¬ S g) : Reader4At w' b g o st := by
  cases st with
  | none => exact Blk.keep h ho hb
  | some r =>
    obtain ⟨v, h1, h2⟩ := h
    exact ⟨v, h1.keep ho hb, h2.only ho hg⟩
theorem Reader4At.lt {w : World} {b g o : Nat} {st : Option (List UInt8)} (h : Reader4At w b g o st) : b < w.heap.size := by
  cases st with
  | none => exact Blk.lt h
  | some r => exact h.choose_spec.1.lt
theorem Reader4At.flag {w : World} {b g o : Nat} {st : Option (List UInt8)} (h : Reader4At w b g o st) : w.cell? ⟨b, 1, none⟩ = some (.bool st.isNone) := by
  cases st with
  | none => rw [Blk.cell h]; rfl
  | some r => rw [h.choose_spec.1.cell]; rfl
theorem Reader4At.left {w : World} {b g o : Nat} {st : Option (List UInt8)} (h : Reader4At w b g o st) : ∃ a c, w.cell? ⟨b, 0, none⟩ = some (.slice a (leftOf st) c) ∧ BytesAt w (fun k => k < w.heap.size) (.slice a (leftOf st) c) (st.getD []) := by
  cases st with
  | none => exact ⟨none, 0, by rw [Blk.cell h]; rfl, .inl ⟨rfl, rfl⟩⟩
  | some r =>
    obtain ⟨v, hb, hr⟩ := h
    obtain ⟨a, c, rfl, _⟩ := id hr
    exact ⟨a, c, by rw [hb.cell]; rfl, hr.bytes.mono (fun k hk => hk.2)⟩

/-- Var of the document's Reader. -/
theorem r4var_ok {w : World} {b g o n k : Nat} {rest : List UInt8} (h : Reader4At w b g o (some rest)) (hr : Wi.readVar rest = some (n, k)) (hl : rest.length ≤ 1048576) :
    Calls Try.prog 35 #[.pointer (some ⟨b, 0, none⟩)] w fun e w' => e = .returned (.int .i64 (n : Int)) ∧ Reader4At w' b g (o + k) (some (rest.drop k)) ∧ Only (fun k => k = b) w w' := by
  obtain ⟨a, c, c0, hby⟩ := h.left
  have hsz : leftOf (some rest) = rest.length := rfl
  rw [hsz] at c0 hby
  have HRV : Hid (Calls Try.prog 13 #[.slice a rest.length c] w fun e w' => e = .returned (.tuple #[.int .i64 (n : Int), .int .i64 (k : Int), .int .i64 0]) ∧ Only (fun _ => False) w w') := by
    refine (r4ReadVar_any hby (fun _ h => h) (show rest.length ≤ _ by omega)).mono ?_
    rintro e w' ⟨ho, ⟨n', k', e1, rfl⟩ | ⟨e1, _⟩⟩
    · rw [show (some rest).getD [] = rest from rfl, hr] at e1
      obtain ⟨rfl, rfl⟩ := Prod.mk.inj (Option.some.inj e1)
      exact ⟨rfl, ho⟩
    · rw [show (some rest).getD [] = rest from rfl, hr] at e1; cases e1
  have H := Lib.hid h
  have HK := Lib.hid (Wi.readVar_some hr).le
  clear h hby hr
  go_enter Try.func35, Try.ntmps35
  go_wp2_with (first
    | (go_at_call 13; refine HRV.out.mono ?_; rintro e w1 ⟨rfl, ho1⟩; have HO1 := Lib.hid ho1; have HT := Lib.hid (take_ok (H.out.keep ho1 (fun x => x) (fun x => x)) HK.out); clear ho1)
    | (go_at_call 52; refine HT.out.mono ?_; rintro e w2 ⟨a2, c2, rfl, hp2, hr2, ho2⟩; have c2' : w2.cell? ⟨b, 1, none⟩ = some (.bool false) := hr2.flag; have HR2 := Lib.hid hr2; have HO2 : Hid (Only (fun k => k = b) w w2) := (HO1.out.mono (fun _ _ x => x.elim)).trans ho2; clear hr2 ho2 hp2))
  go_ret
  exact ⟨rfl, HR2.out, HO2.out⟩

theorem r4var_bad {w : World} {b g o : Nat} {st : Option (List UInt8)} (h : Reader4At w b g o st) (hr : Wi.readVar (st.getD []) = none) (hl : leftOf st ≤ 1048576) :
    Calls Try.prog 35 #[.pointer (some ⟨b, 0, none⟩)] w fun e w' => e = .returned (.int .i64 0) ∧ Reader4At w' b g o none ∧ Only (fun k => k = b) w w' := by
  obtain ⟨a, c, c0, hby⟩ := h.left
  have hgl : (st.getD []).length = leftOf st := by cases st <;> rfl
  have HRV : Hid (Calls Try.prog 13 #[.slice a (leftOf st) c] w fun e w' => e = .returned (.tuple #[.int .i64 0, .int .i64 0, .int .i64 9]) ∧ Only (fun _ => False) w w') := by
    refine (r4ReadVar_any hby (fun _ h => h) (by omega)).mono ?_
    rintro e w' ⟨ho, ⟨n', k', e1, rfl⟩ | ⟨e1, rfl⟩⟩
    · rw [hr] at e1; cases e1
    · exact ⟨rfl, ho⟩
  have H := Lib.hid h
  clear h hby hr hgl
  go_enter Try.func35, Try.ntmps35
  go_wp2_with (first
    | (go_at_call 13; refine HRV.out.mono ?_; rintro e w1 ⟨rfl, ho1⟩; have HO1 := Lib.hid ho1; have HT := Lib.hid (take_bad (n := -1) (H.out.keep ho1 (fun x => x) (fun x => x)) (.inr (.inl (by omega)))); clear ho1)
    | (go_at_call 52; refine HT.out.mono ?_; rintro e w2 ⟨rfl, hr2, ho2⟩; have c2' : w2.cell? ⟨b, 1, none⟩ = some (.bool true) := hr2.flag; have HR2 := Lib.hid hr2; have HO2 : Hid (Only (fun k => k = b) w w2) := (HO1.out.mono (fun _ _ x => x.elim)).trans ho2; clear hr2 ho2))
  go_ret
  exact ⟨rfl, HR2.out, HO2.out⟩

theorem r4num_ok {w : World} {b g o : Nat} {rest : List UInt8} (h : Reader4At w b g o (some rest)) (hr : 8 ≤ rest.length) :
    Calls Try.prog 37 #[.pointer (some ⟨b, 0, none⟩)] w fun e w' => e = .returned (.int .i64 (wrap64 (Wi.be (rest.take 8) : Int))) ∧ Reader4At w' b g (o + 8) (some (rest.drop 8)) ∧ Only (fun k => k = b) w w' := by
  have HT := Lib.hid (take_ok (n := 8) h hr)
  have HL : Hid ((rest.take 8).length = 8) := by simp [Hid]; omega
  clear h
  go_enter Try.func37, Try.ntmps37
  go_wp2_with (first
    | (go_at_call 52; refine HT.out.mono ?_; rintro e w2 ⟨a2, c2, rfl, hp2, hr2, ho2⟩; have HP2 := Lib.hid hp2; have HR2 := Lib.hid hr2; have HO2 := Lib.hid ho2; clear hp2 hr2 ho2)
    | (go_at_call 15; refine (r4ReadNum_any HP2.out.bytes HL.out).mono ?_; rintro e w' ⟨rfl, rfl⟩))
  go_ret
  exact ⟨rfl, HR2.out, HO2.out⟩

theorem r4num_bad {w : World} {b g o : Nat} {st : Option (List UInt8)} (h : Reader4At w b g o st) (hr : leftOf st < 8) :
    Calls Try.prog 37 #[.pointer (some ⟨b, 0, none⟩)] w fun e w' => e = .returned (.int .i64 0) ∧ Reader4At w' b g o none ∧ Only (fun k => k = b) w w' := by
  have HT := Lib.hid (take_bad (n := 8) h (by
    cases st with
    | none => exact .inl rfl
    | some r => exact .inr (.inr ⟨r, rfl, by have : r.length < 8 := hr; omega⟩)))
  clear h
  go_enter Try.func37, Try.ntmps37
  go_wp2_with (first
    | (go_at_call 52; refine HT.out.mono ?_; rintro e w2 ⟨rfl, hr2, ho2⟩; have HR2 := Lib.hid hr2; have HO2 := Lib.hid ho2; clear hr2 ho2)
    | (go_at_call 15; refine (r4ReadNum_err (by decide)).mono ?_; rintro e w' ⟨rfl, rfl⟩))
  go_ret
  exact ⟨rfl, HR2.out, HO2.out⟩

theorem r4raw_ok {w : World} {b g o n : Nat} {rest : List UInt8} (h : Reader4At w b g o (some rest)) (hn : n ≤ rest.length) :
    Calls Try.prog 41 #[.pointer (some ⟨b, 0, none⟩), .int .i64 (n : Int)] w fun e w' => ∃ a c, e = .returned (.slice a n c) ∧ RestAt w' g o (.slice a n c) (rest.take n) ∧ Reader4At w' b g (o + n) (some (rest.drop n)) ∧ Only (fun k => k = b) w w' := by
  have HT := Lib.hid (take_ok h hn)
  clear h
  go_enter Try.func41, Try.ntmps41
  go_wp2_with (go_at_call 52; refine HT.out.mono ?_; rintro e w2 ⟨a2, c2, rfl, hp2, hr2, ho2⟩; have HP2 := Lib.hid hp2; have HR2 := Lib.hid hr2; have HO2 := Lib.hid ho2; clear hp2 hr2 ho2)
  go_ret
  exact ⟨a2, c2, rfl, HP2.out, HR2.out, HO2.out⟩

theorem r4raw_bad {w : World} {b g o : Nat} {n : Int} {st : Option (List UInt8)} (h : Reader4At w b g o st) (hn : st = none ∨ n < 0 ∨ ∃ r, st = some r ∧ (r.length : Int) < n) :
    Calls Try.prog 41 #[.pointer (some ⟨b, 0, none⟩), .int .i64 n] w fun e w' => e = .returned (.slice none 0 0) ∧ Reader4At w' b g o none ∧ Only (fun k => k = b) w w' := by
  have HT := Lib.hid (take_bad h hn)
  clear h hn
  go_enter Try.func41, Try.ntmps41
  go_wp2_with (go_at_call 52; refine HT.out.mono ?_; rintro e w2 ⟨rfl, hr2, ho2⟩; have HR2 := Lib.hid hr2; have HO2 := Lib.hid ho2; clear hr2 ho2)
  go_ret
  exact ⟨rfl, HR2.out, HO2.out⟩

theorem r4rfield_ok {w : World} {b g o k : Nat} {rest f : List UInt8} (h : Reader4At w b g o (some rest)) (hf : Wi.field rest = some (f, k)) (hl : rest.length ≤ 1048576) :
    Calls Try.prog 39 #[.pointer (some ⟨b, 0, none⟩)] w fun e w' => ∃ a c, e = .returned (.slice a f.length c) ∧ BytesAt w' (fun k => k < w'.heap.size) (.slice a f.length c) f ∧ Reader4At w' b g (o + k) (some (rest.drop k)) ∧ Only (fun k => k = b) w w' := by
  obtain ⟨a, c, c0, hby⟩ := h.left
  have hsz : leftOf (some rest) = rest.length := rfl
  rw [hsz] at c0 hby
  have HF := Lib.hid (r4field_ok hby (fun _ h => h) (show rest.length ≤ _ from hl) hf)
  have H := Lib.hid h
  have HBL := Lib.hid h.lt
  have HK := Lib.hid (Wi.field_some hf).le
  clear h hby hf
  go_enter Try.func39, Try.ntmps39
  go_wp2_with (first
    | (go_at_call 46; refine HF.out.mono ?_; rintro e w1 ⟨a1, c1, rfl, hr1⟩; have HR1 := Lib.hid hr1; have HT := Lib.hid (take_ok (H.out.keep hr1.only (fun x => x) (fun x => x)) HK.out); clear hr1)
    | (go_at_call 52; refine HT.out.mono ?_; rintro e w2 ⟨a2, c2, rfl, hp2, hr2, ho2⟩; have c2' : w2.cell? ⟨b, 1, none⟩ = some (.bool false) := hr2.flag; have HR2 := Lib.hid hr2; have HO2 := Lib.hid ho2; clear hr2 ho2 hp2))
  go_ret
  have hrow := HR1.out
  refine ⟨a1, c1, rfl, ?_, HR2.out, (hrow.only.mono (fun _ _ x => x.elim)).trans HO2.out⟩
  refine ((BytesAt.of_row hrow.row).only HO2.out (fun k hk => (hrow.row.lt k hk).2) (fun k hk e => ?_)).mono (fun k hk => Nat.lt_of_lt_of_le (hrow.row.lt k hk).2 HO2.out.size)
  have := hrow.own k hk
  have := HBL.out
  omega

theorem r4rfield_bad {w : World} {b g o : Nat} {st : Option (List UInt8)} (h : Reader4At w b g o st) (hf : Wi.field (st.getD []) = none) (hl : leftOf st ≤ 1048576) :
    Calls Try.prog 39 #[.pointer (some ⟨b, 0, none⟩)] w fun e w' => e = .returned (.slice none 0 0) ∧ Reader4At w' b g o none ∧ Only (fun k => k = b) w w' := by
  obtain ⟨a, c, c0, hby⟩ := h.left
  have hgl : (st.getD []).length = leftOf st := by cases st <;> rfl
  have HF := Lib.hid (r4field_bad hby (fun _ h => h) (by omega) hf)
  have H := Lib.hid h
  clear h hby hf hgl
  go_enter Try.func39, Try.ntmps39
  go_wp2_with (first
    | (go_at_call 46; refine HF.out.mono ?_; rintro e w1 ⟨rfl, ho1⟩; have HO1 := Lib.hid ho1; have HT := Lib.hid (take_bad (n := -1) (H.out.keep ho1 (fun x => x) (fun x => x)) (.inr (.inl (by omega)))); clear ho1)
    | (go_at_call 52; refine HT.out.mono ?_; rintro e w2 ⟨rfl, hr2, ho2⟩; have c2' : w2.cell? ⟨b, 1, none⟩ = some (.bool true) := hr2.flag; have HR2 := Lib.hid hr2; have HO2 : Hid (Only (fun k => k = b) w w2) := (HO1.out.mono (fun _ _ x => x.elim)).trans ho2; clear hr2 ho2))
  go_ret
  exact ⟨rfl, HR2.out, HO2.out⟩

end Go.Proofs.Ytnomgcbkaggmhaa
