/- What a Reader reads: Raw, Var, Num, Field. Conditions: none. -/
import Derived.Test.YtlfbdhgppmmahaaWiReader
namespace Go.Proofs.Ytlfbdhgppmmahaa
open Go.RowKit

set_option maxRecDepth 100000 in
theorem raw_ok {w : World} {b g o n : Nat} {rest : List UInt8} (h : ReaderAt w b g o (some rest)) (hn : n ≤ rest.length) (_hl : rest.length ≤ 140737488355328) :
    Calls Try.prog 20 #[.pointer (some ⟨b, 0, none⟩), .int .i64 (n : Int)] w fun e w' => ∃ a, e = .returned (.slice a n n) ∧ RestAt w' g o (.slice a n n) (rest.take n) ∧ ReaderAt w' b g (o + n) (some (rest.drop n)) ∧ Only (fun k => k = b) w w' := by
  have HE := Lib.hid (err_any h)
  unfold rdE at HE
  obtain ⟨v, hb, hr⟩ := h
  obtain ⟨a, c, rfl, hc, hz, hx⟩ := id hr
  obtain ⟨a', ha', hn', hsl⟩ := slice_l (a := a) (n := rest.length) (cap := c) (m := n) hn
  have hsm := slice_hm (a := a) (n := rest.length) (cap := c) (m := n) (by omega)
  have c0 : w.cell? ⟨b, 0, none⟩ = some (.slice a rest.length c) := by rw [hb.cell]; rfl
  have f0 := hb.frozen 0
  have g0 : ¬ (n : Int) < 0 := by omega
  have g1 : ¬ (n : Int) > (rest.length : Int) := by omega
  have HB1 := Lib.hid (hb.set 0 (.slice a' (rest.length - n) (c - n)))
  have HR := Lib.hid (rest_set hb (hr.drop hn ha' hn') ⟨b, 0, none⟩ (.slice a' (rest.length - n) (c - n)) rfl)
  have HP := Lib.hid (rest_set hb (hr.take hn) ⟨b, 0, none⟩ (.slice a' (rest.length - n) (c - n)) rfl)
  clear hb hr hx hc ha' hz hn'
  go_enter Try.func20, Try.ntmps20
  go_wp2_with (go_at_call 22; refine HE.out.mono ?_; rintro e w' ⟨rfl, rfl⟩)
  go_ret
  exact ⟨a, rfl, HP.out, ⟨_, HB1.out, HR.out⟩, Only.setCell ⟨b, 0, none⟩ _⟩

set_option maxRecDepth 100000 in
theorem raw_bad {w : World} {b g o : Nat} {n : Int} {rest : List UInt8} (h : ReaderAt w b g o (some rest)) (hn : n < 0 ∨ (rest.length : Int) < n) :
    Calls Try.prog 20 #[.pointer (some ⟨b, 0, none⟩), .int .i64 n] w fun e w' => e = .returned (.slice none 0 0) ∧ ReaderAt w' b g o none ∧ Only (fun k => k = b) w w' := by
  have HE := Lib.hid (err_any h)
  unfold rdE at HE
  have HS := Lib.hid (spoil_any h)
  obtain ⟨v, hb, hr⟩ := h
  obtain ⟨a, c, rfl, hc, hz, hx⟩ := id hr
  have c0 : w.cell? ⟨b, 0, none⟩ = some (.slice a rest.length c) := by rw [hb.cell]; rfl
  clear hb hr hx hc hz
  by_cases h0 : n < 0
  · clear hn
    go_enter Try.func20, Try.ntmps20
    go_wp2_with (first | (go_at_call 22; refine HE.out.mono ?_; rintro e w' ⟨rfl, rfl⟩) | (go_at_call 26; refine HS.out.mono ?_; rintro e w1 ⟨rfl, hb, ho⟩; have HB := Lib.hid hb; have HO := Lib.hid ho; clear hb ho))
    go_ret
    exact ⟨rfl, HB.out, HO.out⟩
  · have h1 : n > (rest.length : Int) := by omega
    clear hn
    go_enter Try.func20, Try.ntmps20
    go_wp2_with (first | (go_at_call 22; refine HE.out.mono ?_; rintro e w' ⟨rfl, rfl⟩) | (go_at_call 26; refine HS.out.mono ?_; rintro e w1 ⟨rfl, hb, ho⟩; have HB := Lib.hid hb; have HO := Lib.hid ho; clear hb ho))
    go_ret
    exact ⟨rfl, HB.out, HO.out⟩

theorem raw_none {w : World} {b g o : Nat} {n : Int} (h : ReaderAt w b g o none) :
    Calls Try.prog 20 #[.pointer (some ⟨b, 0, none⟩), .int .i64 n] w fun e w' => e = .returned (.slice none 0 0) ∧ w' = w := by
  have HE := Lib.hid (err_any h)
  unfold rdE at HE
  clear h
  go_enter Try.func20, Try.ntmps20
  go_wp2_with (go_at_call 22; refine HE.out.mono ?_; rintro e w' ⟨rfl, rfl⟩)
  go_ret
  exact ⟨rfl, rfl⟩

theorem raw_nil {w : World} {n : Int} : Calls Try.prog 20 #[.pointer none, .int .i64 n] w fun e w' => e = .returned (.slice none 0 0) ∧ w' = w := by
  go_enter Try.func20, Try.ntmps20
  go_wp2_with (go_at_call 22; refine err_nil.mono ?_; rintro e w' ⟨rfl, rfl⟩)
  go_ret
  exact ⟨rfl, rfl⟩

set_option maxRecDepth 100000 in
theorem rvar_ok {w : World} {b g o n k : Nat} {rest : List UInt8} (h : ReaderAt w b g o (some rest)) (hr : Wi.readVar rest = some (n, k)) (hl : rest.length ≤ 140737488355328) :
    Calls Try.prog 27 #[.pointer (some ⟨b, 0, none⟩)] w fun e w' => e = .returned (.int .i64 (n : Int)) ∧ ReaderAt w' b g (o + k) (some (rest.drop k)) ∧ Only (fun k => k = b) w w' := by
  have HE := Lib.hid (err_any h)
  unfold rdE at HE
  obtain ⟨v, hb, hre⟩ := h
  have HV : Hid (Calls Try.prog 14 #[v] w fun e w' => w' = w ∧ e = .returned (.tuple #[.int .i64 (n : Int), .int .i64 (k : Int), .nilIface])) := by
    refine (readVar_any hre.bytes hl).mono ?_
    rintro e w' ⟨rfl, ⟨n', k', e1, rfl⟩ | ⟨e1, _⟩⟩
    · rw [hr] at e1
      obtain ⟨rfl, rfl⟩ := Prod.mk.inj (Option.some.inj e1)
      exact ⟨rfl, rfl⟩
    · rw [hr] at e1; cases e1
  have hk := (Wi.readVar_some hr).le
  obtain ⟨a, c, rfl, hc, hz, hx⟩ := id hre
  obtain ⟨a', ha', hn', hsl⟩ := slice_l (a := a) (n := rest.length) (cap := c) (m := k) hk
  have c0 : w.cell? ⟨b, 0, none⟩ = some (.slice a rest.length c) := by rw [hb.cell]; rfl
  have f0 := hb.frozen 0
  have HB1 := Lib.hid (hb.set 0 (.slice a' (rest.length - k) (c - k)))
  have HR := Lib.hid (rest_set hb (hre.drop hk ha' hn') ⟨b, 0, none⟩ (.slice a' (rest.length - k) (c - k)) rfl)
  clear hb hre hx hc ha' hr hz hn'
  go_enter Try.func27, Try.ntmps27
  go_wp2_with (first | (go_at_call 22; refine HE.out.mono ?_; rintro e w' ⟨rfl, rfl⟩) | (go_at_call 14; refine HV.out.mono ?_; rintro e w' ⟨rfl, rfl⟩))
  go_ret
  exact ⟨rfl, ⟨_, HB1.out, HR.out⟩, Only.setCell ⟨b, 0, none⟩ _⟩

set_option maxRecDepth 100000 in
theorem rvar_bad {w : World} {b g o : Nat} {rest : List UInt8} (h : ReaderAt w b g o (some rest)) (hr : Wi.readVar rest = none) (hl : rest.length ≤ 140737488355328) :
    Calls Try.prog 27 #[.pointer (some ⟨b, 0, none⟩)] w fun e w' => e = .returned (.int .i64 0) ∧ ReaderAt w' b g o none ∧ Only (fun k => k = b) w w' := by
  have HE := Lib.hid (err_any h)
  unfold rdE at HE
  have HS := Lib.hid (spoil_any h)
  obtain ⟨v, hb, hre⟩ := h
  have HV : Hid (Calls Try.prog 14 #[v] w fun e w' => w' = w ∧ e = .returned (.tuple #[.int .i64 0, .int .i64 0, .iface 54 (.int .i64 9)])) := by
    refine (readVar_any hre.bytes hl).mono ?_
    rintro e w' ⟨rfl, ⟨n', k', e1, rfl⟩ | ⟨e1, rfl⟩⟩
    · rw [hr] at e1; cases e1
    · exact ⟨rfl, rfl⟩
  obtain ⟨a, c, rfl, hc, hz, hx⟩ := id hre
  have c0 : w.cell? ⟨b, 0, none⟩ = some (.slice a rest.length c) := by rw [hb.cell]; rfl
  clear hb hre hx hc hr hz
  go_enter Try.func27, Try.ntmps27
  go_wp2_with (first | (go_at_call 22; refine HE.out.mono ?_; rintro e w' ⟨rfl, rfl⟩) | (go_at_call 14; refine HV.out.mono ?_; rintro e w' ⟨rfl, rfl⟩) | (go_at_call 26; refine HS.out.mono ?_; rintro e w1 ⟨rfl, hb, ho⟩; have HB := Lib.hid hb; have HO := Lib.hid ho; clear hb ho))
  go_ret
  exact ⟨rfl, HB.out, HO.out⟩

theorem rvar_none {w : World} {b g o : Nat} (h : ReaderAt w b g o none) :
    Calls Try.prog 27 #[.pointer (some ⟨b, 0, none⟩)] w fun e w' => e = .returned (.int .i64 0) ∧ w' = w := by
  have HE := Lib.hid (err_any h)
  unfold rdE at HE
  clear h
  go_enter Try.func27, Try.ntmps27
  go_wp2_with (go_at_call 22; refine HE.out.mono ?_; rintro e w' ⟨rfl, rfl⟩)
  go_ret
  exact ⟨rfl, rfl⟩

theorem rvar_nil {w : World} : Calls Try.prog 27 #[.pointer none] w fun e w' => e = .returned (.int .i64 0) ∧ w' = w := by
  go_enter Try.func27, Try.ntmps27
  go_wp2_with (go_at_call 22; refine err_nil.mono ?_; rintro e w' ⟨rfl, rfl⟩)
  go_ret
  exact ⟨rfl, rfl⟩

end Go.Proofs.Ytlfbdhgppmmahaa
