/- Rows of texts; amphoranum.Texts of two alike. Conditions: rows far from an int's end. -/
import Derived.Test.YtikkfmmdgicigaaDoorPaCut
namespace Go.Proofs.YtikkfmmdgicigaaDoor
open Go.RowKit

/-- A text as a value. -/
def txV (p : List UInt8) : Value := .string ⟨p.toArray⟩
theorem txV_data (s : ByteArray) : txV s.data.toList = .string s := by unfold txV; rw [Array.toArray_toList]

/-- v holds the texts ps; its block is one of S. -/
def TextsAt (w : World) (S : Nat → Prop) (v : Value) (ps : List (List UInt8)) : Prop :=
  (v = .slice none 0 0 ∧ ps = []) ∨ ∃ ad c, v = .slice (some ad) ps.length c ∧ ps.length ≤ c ∧ (ps ≠ [] → S ad.block) ∧ ∀ j p, ps[j]? = some p → w.cell? (ad.add j) = some (txV p)

theorem TextsAt.shape {w : World} {S : Nat → Prop} {v : Value} {ps : List (List UInt8)} (h : TextsAt w S v ps) : ∃ a c, v = .slice a ps.length c ∧ ps.length ≤ c := by
  rcases h with ⟨rfl, rfl⟩ | ⟨ad, c, rfl, hc, _⟩
  · exact ⟨none, 0, rfl, Nat.le_refl _⟩
  · exact ⟨some ad, c, rfl, hc⟩

theorem TextsAt.kept {w w' : World} {S S' : Nat → Prop} {v : Value} {ps : List (List UInt8)} (h : TextsAt w S v ps) (hk : ∀ k, S k → w'.heap[k]? = w.heap[k]?) (hs : ∀ k, S k → S' k) : TextsAt w' S' v ps := by
  rcases h with h | ⟨ad, c, h1, h0, h2, h3⟩
  · exact .inl h
  · refine .inr ⟨ad, c, h1, h0, fun hne => hs _ (h2 hne), fun j x hx => ?_⟩
    rw [World.cell?_of_block (w := w) (by rw [add_block]; exact hk _ (h2 (by rintro rfl; simp at hx)))]
    exact h3 j x hx

theorem TextsAt.only {w w' : World} {S T : Nat → Prop} {v : Value} {ps : List (List UInt8)} (h : TextsAt w S v ps) (ho : Only T w w') (hl : ∀ k, S k → k < w.heap.size) (hs : ∀ k, S k → ¬ T k) : TextsAt w' S v ps :=
  h.kept (fun k hk => ho.block k (hl k hk) (hs k hk)) (fun _ h => h)

/-- As it lies in whatever world that has turned nothing old. -/
theorem TextsAt.quiet {w w' : World} {v : Value} {ps : List (List UInt8)} (h : TextsAt w (fun k => k < w.heap.size) v ps) (ho : Quiet w w') : TextsAt w' (fun k => k < w'.heap.size) v ps :=
  h.kept (fun k hk => ho.block k hk (fun x => x)) (fun _ hk => Nat.lt_of_lt_of_le hk ho.size)

/-- A row that is owned holds its texts. -/
theorem TextsAt.of_row {w : World} {base n : Nat} {v : Value} {ps : List (List UInt8)} (h : w.ownsRow base 9 1 v n (ps.map txV)) : TextsAt w (fun k => k < w.heap.size) v ps := by
  have hl : n = ps.length := by have := h.1; simpa using this.symm
  subst hl
  rcases h.2 with ⟨rfl, h0⟩ | ⟨g, cap, cur, rfl, hb, hg, h1⟩
  · exact .inl ⟨rfl, List.eq_nil_of_length_eq_zero h0⟩
  · refine .inr ⟨⟨g, 0, none⟩, cap, rfl, h1.1, fun _ => lt_of_heap hg, fun j x hx => ?_⟩
    have := h.cells (g := g) rfl j (txV x) (by rw [List.getElem?_map, hx]; rfl)
    exact this

/-- The first k of a row. -/
theorem TextsAt.pre {w : World} {S : Nat → Prop} {a : Option Addr} {n c : Nat} {ps : List (List UInt8)} (h : TextsAt w S (.slice a n c) ps) {k : Nat} (hk : k ≤ ps.length) : TextsAt w S (.slice a k c) (ps.take k) := by
  rcases h with ⟨e, rfl⟩ | ⟨ad, c', e, hc, hs, hcell⟩
  · obtain ⟨rfl, rfl, rfl⟩ := Value.slice.inj e
    have : k = 0 := by simpa using hk
    subst this
    exact .inl ⟨rfl, rfl⟩
  · obtain ⟨rfl, rfl, rfl⟩ := Value.slice.inj e
    refine .inr ⟨ad, c, by rw [List.length_take, Nat.min_eq_left hk], by rw [List.length_take]; omega, fun hne => hs (by rintro rfl; simp at hne), fun j p hp => ?_⟩
    rw [List.getElem?_take] at hp
    split at hp
    · exact hcell j p hp
    · cases hp

theorem TextsAt.cell {w : World} {S : Nat → Prop} {v : Value} {ps : List (List UInt8)} (h : TextsAt w S v ps) {j : Nat} {p : List UInt8} (hj : ps[j]? = some p) : ∃ ad c, v = .slice (some ad) ps.length c ∧ w.cell? (ad.add j) = some (txV p) := by
  rcases h with ⟨_, rfl⟩ | ⟨ad, c, rfl, _, _, hc⟩
  · simp at hj
  · exact ⟨ad, c, rfl, hc j p hj⟩

set_option maxRecDepth 100000 in
set_option maxHeartbeats 1000000 in
theorem texts_same {w : World} {S T : Nat → Prop} {va vb : Value} {ps : List (List UInt8)} (ha : TextsAt w S va ps) (hb : TextsAt w T vb ps) (hl : ps.length ≤ 1000000) :
    Calls Tryd.prog 21 #[va, vb] w fun e w' => e = .returned (.bool true) ∧ Quiet w w' := by
  obtain ⟨aa, ac, e1, _⟩ := ha.shape
  obtain ⟨ba, bc, e2, _⟩ := hb.shape
  subst e1 e2
  have HA := Lib.hid (fun j p => ha.cell (j := j) (p := p)); have HB := Lib.hid (fun j p => hb.cell (j := j) (p := p))
  clear ha hb
  go_enter Tryd.func21, Tryd.ntmps21
  go_wp2
  go_loopw [13] (fun iv wr => ∃ k : Nat, k ≤ ps.length ∧ iv = .int .i64 k ∧ wr.heap = w.heap ∧ Only (fun _ => False) w wr) (fun iv _ => ps.length - (intOf iv).toNat)
  case atStart => exact ⟨0, Nat.zero_le _, rfl, rfl, Only.refl _ _⟩
  case round =>
    obtain ⟨k, hk, rfl, hh, how⟩ := hrel
    by_cases hlt : k < ps.length
    · obtain ⟨x, hx⟩ : ∃ x, ps[k]? = some x := ⟨_, List.getElem?_eq_getElem hlt⟩
      obtain ⟨ad1, _, ea, a0⟩ := HA.out k x hx
      obtain ⟨ad2, _, eb, b0⟩ := HB.out k x hx
      obtain ⟨rfl, _, rfl⟩ := Value.slice.inj ea
      obtain ⟨rfl, _, rfl⟩ := Value.slice.inj eb
      rw [← World.cell?_of_block (w' := wr) (by rw [hh])] at a0 b0
      unfold txV at a0 b0
      generalize ByteArray.mk x.toArray = X at *
      have hi1 : (0 : Int) ≤ (k : Int) := by omega
      have hi2 : (k : Int) < (ps.length : Int) := by omega
      have HOW := Lib.hid how; have HH := Lib.hid hh
      clear how hh hx ea eb
      go_wp2
      go_quiet (fail)
      have hod : Only (fun _ => False) wr (wr.drewN nq) := ⟨rfl, rfl, rfl, Nat.le_refl _, fun _ _ _ => rfl⟩
      have HFIN := Lib.hid (HOW.out.trans hod)
      clear hod a0 b0
      go_wp2
      go_roundw
      case rel => exact ⟨k + 1, by omega, by go_num, HH.out, HFIN.out⟩
      case measure => simp [intOf]; omega
    · have hk' : k = ps.length := by omega
      subst hk'
      have HOW := Lib.hid how
      clear how hh
      go_wp2
      go_ret
      exact ⟨rfl, HOW.out⟩

end Go.Proofs.YtikkfmmdgicigaaDoor
