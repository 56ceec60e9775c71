/- strings.Join at a slash, path.Join. Conditions: texts within the reach. -/
import Derived.Test.YtbfcjlpakngmhaaDoorPaGood
import Derived.Test.YtbfcjlpakngmhaaDoorPaTx
import Derived.Test.YtbfcjlpakngmhaaDoorPaNorm
import Derived.Test.YtbfcjlpakngmhaaDoorLay9
namespace Go.Proofs.YtbfcjlpakngmhaaDoor
open Go.RowKit

namespace Pt
theorem lib_join : ∀ ps : List (List UInt8), Lib.join ps [47] = joins ps
  | [] => rfl
  | [p] => Lib.join_one p [47]
  | p :: q :: r => by
    rw [joins_cons _ (by simp), ← lib_join (q :: r), Lib.join_cons, Lib.join_cons]
    simp [Lib.joinTail]

/-- The path of parts. -/
def join (ps : List (List UInt8)) : Option (List UInt8) := if ps ≠ [] ∧ (∀ p ∈ ps, part p = true) ∧ (joins ps).length ≤ 400 then some (joins ps) else none

theorem join_good {ps : List (List UInt8)} {j : List UInt8} (h : join ps = some j) : good j = true ∧ pcs j = ps := by
  unfold join at h
  split at h
  · rename_i hc
    obtain rfl := Option.some.inj h
    refine ⟨?_, pcs_joins hc.1 (fun p hp => part_noslash (hc.2.1 p hp))⟩
    rw [good_joins hc.1 hc.2.1]
    simpa using hc.2.2
  · cases h

theorem join_split {l : List UInt8} (h : good l = true) : join (pcs l) = some l := by
  unfold join
  rw [joins_pcs, if_pos ⟨pcs_ne l, (good_iff.1 h).2, good_len h⟩]
end Pt

theorem TextsAt.plain {w : World} {S : Nat → Prop} {v : Value} {ps : List (List UInt8)} (h : TextsAt w S v ps) (hne : ps ≠ []) :
    ∃ b o c, v = .slice (some ⟨b, o, none⟩) ps.length c ∧ ps.length ≤ c ∧ S b ∧ ∀ j p, ps[j]? = some p → w.cell? ⟨b, o + j, none⟩ = some (txV p) := by
  rcases h with ⟨_, rfl⟩ | ⟨ad, c, rfl, hc, hs, hcell⟩
  · exact (hne rfl).elim
  · obtain ⟨b, o, sp⟩ := ad
    obtain ⟨p, hp⟩ : ∃ p, ps[0]? = some p := by
      cases ps with
      | nil => exact (hne rfl).elim
      | cons a t => exact ⟨a, rfl⟩
    have h0 := hcell 0 p hp
    have hsp : sp = none := by
      rcases sp with _ | x
      · rfl
      · exfalso
        have e : (⟨b, o, some x⟩ : Addr).add 0 = ⟨b, o, some x⟩ := rfl
        rw [e] at h0
        unfold World.cell? at h0
        split at h0 <;> simp at h0
    subst hsp
    refine ⟨b, o, c, rfl, hc, hs hne, fun j p hp => ?_⟩
    have := hcell j p hp
    rwa [add_lit] at this

theorem sJoin_any {w : World} {S : Nat → Prop} {v : Value} {ps : List (List UInt8)} (h : TextsAt w S v ps) (hS : ∀ k, S k → k < w.heap.size) (hne : ps ≠ []) (hl : (Pt.joins ps).length ≤ 140737488355328) (hn : ps.length ≤ 140737488355328) :
    Calls Tryd.prog 42 #[v, .string ⟨#[47]⟩] w fun e w' => e = .returned (txV (Pt.joins ps)) ∧ Quiet w w' := by
  obtain ⟨b, o, c, rfl, hc, hsb, hcell⟩ := h.plain hne
  have hmap : (ps.map fun p => ByteArray.mk p.toArray).map (·.data.toList) = ps := by
    rw [List.map_map]
    conv => rhs; rw [← List.map_id ps]
    refine List.map_congr_left fun p _ => ?_
    simp
  have := Any.strings_Join Tryd.lays156 Tryd.Builder_Extra_156 b o c (ps.map fun p => ByteArray.mk p.toArray) ⟨#[47]⟩ w (fun j x hx => by
    rw [List.getElem?_map, Option.map_eq_some_iff] at hx
    obtain ⟨p, hp, rfl⟩ := hx
    exact hcell j p hp) (hS b hsb) (by simpa using hn) (by simpa using hc) (by rw [hmap]; show (Lib.join ps [47]).length ≤ _; rw [Pt.lib_join]; exact hl)
  rw [hmap, List.length_map] at this
  refine this.mono fun e w' ⟨h1, h2⟩ => ⟨?_, quiet_below h2⟩
  rw [h1]
  show Ending.returned (.string ⟨(Lib.join ps [47]).toArray⟩) = _
  rw [Pt.lib_join]
  rfl

/-- Whether these may stand in a path, one behind the other. -/
def fitL (ps : List (List UInt8)) : Prop := Pt.tot ps ≤ 401 ∧ ∀ p ∈ ps, Pt.part p = true

theorem fitL_snoc {ps : List (List UInt8)} (x : List UInt8) (h : fitL ps) : fitL (ps ++ [x]) ↔ (decide ((Pt.tot ps : Int) - 1 + 1 + x.length ≤ 400) && Pt.part x) = true := by
  unfold fitL at h ⊢
  rw [Pt.tot_append, Bool.and_eq_true, decide_eq_true_eq]
  simp only [Pt.tot, List.mem_append, List.mem_singleton]
  constructor
  · rintro ⟨h1, h2⟩
    exact ⟨by omega, h2 _ (.inr rfl)⟩
  · rintro ⟨h1, h2⟩
    refine ⟨by omega, ?_⟩
    rintro p (hp | rfl)
    · exact h.2 p hp
    · exact h2

theorem fitL_pre {ps : List (List UInt8)} {k : Nat} (h : fitL ps) : fitL (ps.take k) := by
  have e := congrArg Pt.tot (List.take_append_drop k ps)
  rw [Pt.tot_append] at e
  exact ⟨by have := h.1; omega, fun p hp => h.2 p (List.mem_of_mem_take hp)⟩

theorem join_fit {ps : List (List UInt8)} (hne : ps ≠ []) (h : fitL ps) : Pt.join ps = some (Pt.joins ps) := by
  unfold Pt.join
  have := Pt.joins_len hne
  rw [if_pos ⟨hne, h.2, by have := h.1; omega⟩]

theorem join_unfit {ps : List (List UInt8)} (h : ¬ fitL ps) : Pt.join ps = none := by
  unfold Pt.join
  rw [if_neg]
  rintro ⟨h1, h2, h3⟩
  have := Pt.joins_len h1
  exact h ⟨by omega, h2⟩

set_option maxRecDepth 100000 in
set_option maxHeartbeats 4000000 in
theorem join_any {w : World} (hU : U8 w) {v : Value} {ps : List (List UInt8)} (h : TextsAt w (fun k => k < w.heap.size) v ps) (hp : ∀ p ∈ ps, p.length ≤ 140737488351232) (hn : ps.length ≤ 140737488355328) :
    Calls Tryd.prog 25 #[v] w fun e w' => e = normV (Pt.join ps) ∧ Quiet w w' := by
  have HL := Lib.hid looker_any
  by_cases h0 : ps = []
  · subst h0
    obtain ⟨a, c, rfl, _⟩ := h.shape
    clear h
    go_enter Tryd.func25, Tryd.ntmps25
    go_wp2
    go_ret2
    exact ⟨rfl, Only.refl _ _⟩
  · obtain ⟨b, o, c, rfl, hc, hsb, hcell⟩ := h.plain h0
    have HT := Lib.hid h
    have HC := Lib.hid hcell
    have HP := Lib.hid hp
    have HU := Lib.hid hU
    have H0 := Lib.hid h0
    have hz : ¬ (ps.length : Int) = 0 := by
      have : 0 < ps.length := List.length_pos_iff.2 h0
      omega
    have hz' : ((ps.length : Int) == 0) = false := by simpa using hz
    clear h hcell hp hU h0
    go_enter Tryd.func25, Tryd.ntmps25
    go_wp2_with fail
    refine (HL.out _).mono ?_
    rintro e w1 ⟨rfl, hw1⟩
    have hb1 : Boxed w1 w.heap.size 3 (.int .i64 (-1)) := by rw [← hw1]; exact Boxed.new w _ _
    have hB1 : Below w.heap.size w w1 := by rw [← hw1]; exact (Below.refl _ w).alloc (Nat.le_refl _) _
    have HB1 := Lib.hid (And.intro hb1 hB1)
    clear hw1 hb1 hB1 HL
    go_wp2_with fail
    go_loopw [6, 14] (fun pv iv wr => ∃ k : Nat, k ≤ ps.length ∧ iv = .int .i64 (k : Int) ∧ fitL (ps.take k) ∧ Boxed wr w.heap.size 3 (.int .i64 ((Pt.tot (ps.take k) : Int) - 1)) ∧ Below w.heap.size w wr) (fun _ iv _ => ps.length - (intOf iv).toNat)
    case atStart => exact ⟨0, Nat.zero_le _, rfl, ⟨by simp [Pt.tot], by simp⟩, by simpa [Pt.tot] using HB1.out.1, HB1.out.2⟩
    case round =>
      clear HB1
      obtain ⟨k, hk, rfl, hfit, hbx, hB⟩ := hrel
      by_cases hlt : k < ps.length
      · obtain ⟨x, hx⟩ : ∃ x, ps[k]? = some x := ⟨_, List.getElem?_eq_getElem hlt⟩
        have hxl := HP.out x (List.mem_of_getElem? hx)
        have hcx : wr.cell? ⟨b, o + k, none⟩ = some (txV x) := (hB.cell (p := ⟨b, o + k, none⟩) hsb).trans (HC.out k x hx)
        have htk : ps.take (k + 1) = ps.take k ++ [x] := by rw [List.take_add_one, hx]; rfl
        have HLK := Lib.hid (looker1_any ⟨x.toArray⟩ (by rw [Lib.size_eq]; exact hxl) (HU.out.below hB) (z := (Pt.tot (ps.take k) : Int) - 1) (by omega) (by have := hfit.1; omega) hbx)
        have hsz : ((ByteArray.mk x.toArray).size : Int) = (x.length : Int) := by rw [Lib.size_eq]
        rw [hsz] at HLK
        have HF : Hid (fitL (ps.take (k + 1)) ↔ (decide ((Pt.tot (ps.take k) : Int) - 1 + 1 + x.length ≤ 400) && Pt.part x) = true) := by
          unfold Hid; rw [htk]; exact fitL_snoc x hfit
        have hto : Hid ((Pt.tot (ps.take (k + 1)) : Int) - 1 = (Pt.tot (ps.take k) : Int) - 1 + 1 + x.length) := by
          unfold Hid; rw [htk, Pt.tot_append]; simp only [Pt.tot]; omega
        have hpl : Pt.part (ByteArray.mk x.toArray).data.toList = Pt.part x := rfl
        rw [hpl] at HLK
        unfold txV at hcx
        generalize ByteArray.mk x.toArray = X at *
        have HB := Lib.hid hB
        have hi1 : (0 : Int) ≤ (k : Int) := by omega
        have hi2 : (k : Int) < (ps.length : Int) := by omega
        clear hfit hbx hB hx htk hsz hpl hxl
        generalize (decide ((Pt.tot (ps.take k) : Int) - 1 + 1 + x.length ≤ 400) && Pt.part x) = r at *
        cases r with
        | true =>
          go_wp2_with fail
          refine HLK.out.mono ?_
          rintro e w2 ⟨rfl, hbx, hO⟩
          have HH := Lib.hid (And.intro hbx (HB.out.trans (hO.below HB.out.size (fun j hj e => by omega))))
          clear hbx hO
          go_wp2_with fail
          go_roundw
          case rel => exact ⟨k + 1, by omega, by go_num, HF.out.2 (by simp), by rw [hto.out]; exact HH.out.1, HH.out.2⟩
          case measure => simp [intOf]; omega
        | false =>
          have hN : Hid (Pt.join ps = none) := join_unfit fun hf => by
            have := HF.out.1 (fitL_pre hf)
            simp at this
          go_wp2_with fail
          refine HLK.out.mono ?_
          rintro e w2 ⟨rfl, hbx, hO⟩
          have HH := Lib.hid (HB.out.trans (hO.below HB.out.size (fun j hj e => by omega)))
          clear hbx hO
          go_wp2_with fail
          go_ret2
          exact ⟨by rw [hN.out]; rfl, quiet_below HH.out⟩
      · obtain rfl : k = ps.length := by omega
        rw [List.take_length] at hfit
        have hN : Hid (Pt.join ps = some (Pt.joins ps)) := join_fit H0.out hfit
        have HJ := Lib.hid (sJoin_any (HT.out.quiet (quiet_below hB)) (fun _ h => h) H0.out (by have := Pt.joins_len H0.out; have := hfit.1; omega) hn)
        have HB := Lib.hid hB
        clear hfit hbx hB
        go_wp2_with fail
        refine HJ.out.mono ?_
        rintro e w2 ⟨rfl, hq⟩
        have HH := Lib.hid ((quiet_below HB.out).trans hq)
        clear hq
        go_wp2_with fail
        go_ret2
        exact ⟨by rw [hN.out]; rfl, HH.out⟩

end Go.Proofs.YtbfcjlpakngmhaaDoor
