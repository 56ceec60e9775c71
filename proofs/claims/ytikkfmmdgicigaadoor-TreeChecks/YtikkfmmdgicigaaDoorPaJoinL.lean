/- Pure: the path of parts; a row of texts laid open. Conditions: none. -/
import Derived.Test.YtikkfmmdgicigaaDoorPaGood
import Derived.Test.YtikkfmmdgicigaaDoorPaTx
namespace Go.Proofs.YtikkfmmdgicigaaDoor
open Go.RowKit

namespace Pt
/-- The path of parts. -/
def join (ps : List (List UInt8)) : Option (List UInt8) := if ps ≠ [] ∧ (∀ p ∈ ps, part p = true) ∧ (joins ps).length ≤ 400 then some (joins ps) else none

theorem join_good {ps : List (List UInt8)} {j : List UInt8} (h : join ps = some j) : good j = true ∧ pcs j = ps := by
  unfold join at h
  split at h
  · rename_i hc
    obtain rfl := Option.some.inj h
    refine ⟨?_, pcs_joins hc.1 (fun p hp => part_noslash (hc.2.1 p hp))⟩
    rw [good_joins hc.1 hc.2.1]
    simpa using hc.2.2
  · cases h

theorem join_split {l : List UInt8} (h : good l = true) : join (pcs l) = some l := by
  unfold join
  rw [joins_pcs, if_pos ⟨pcs_ne l, (good_iff.1 h).2, good_len h⟩]
end Pt

theorem TextsAt.plain {w : World} {S : Nat → Prop} {v : Value} {ps : List (List UInt8)} (h : TextsAt w S v ps) (hne : ps ≠ []) :
    ∃ b o c, v = .slice (some ⟨b, o, none⟩) ps.length c ∧ ps.length ≤ c ∧ S b ∧ ∀ j p, ps[j]? = some p → w.cell? ⟨b, o + j, none⟩ = some (txV p) := by
  rcases h with ⟨_, rfl⟩ | ⟨ad, c, rfl, hc, hs, hcell⟩
  · exact (hne rfl).elim
  · obtain ⟨b, o, sp⟩ := ad
    obtain ⟨p, hp⟩ : ∃ p, ps[0]? = some p := by
      cases ps with
      | nil => exact (hne rfl).elim
      | cons a t => exact ⟨a, rfl⟩
    have h0 := hcell 0 p hp
    have hsp : sp = none := by
      rcases sp with _ | x
      · rfl
      · exfalso
        have e : (⟨b, o, some x⟩ : Addr).add 0 = ⟨b, o, some x⟩ := rfl
        rw [e] at h0
        unfold World.cell? at h0
        split at h0 <;> simp at h0
    subst hsp
    refine ⟨b, o, c, rfl, hc, hs hne, fun j p hp => ?_⟩
    have := hcell j p hp
    rwa [add_lit] at this

def fitL (ps : List (List UInt8)) : Prop := Pt.tot ps ≤ 401 ∧ ∀ p ∈ ps, Pt.part p = true

theorem fitL_snoc {ps : List (List UInt8)} (x : List UInt8) (h : fitL ps) : fitL (ps ++ [x]) ↔ (decide ((Pt.tot ps : Int) - 1 + 1 + x.length ≤ 400) && Pt.part x) = true := by
  unfold fitL at h ⊢
  rw [Pt.tot_append, Bool.and_eq_true, decide_eq_true_eq]
  simp only [Pt.tot, List.mem_append, List.mem_singleton]
  constructor
  · rintro ⟨h1, h2⟩
    exact ⟨by omega, h2 _ (.inr rfl)⟩
  · rintro ⟨h1, h2⟩
    refine ⟨by omega, ?_⟩
    rintro p (hp | rfl)
    · exact h.2 p hp
    · exact h2

theorem fitL_pre {ps : List (List UInt8)} {k : Nat} (h : fitL ps) : fitL (ps.take k) := by
  have e := congrArg Pt.tot (List.take_append_drop k ps)
  rw [Pt.tot_append] at e
  exact ⟨by have := h.1; omega, fun p hp => h.2 p (List.mem_of_mem_take hp)⟩

theorem join_fit {ps : List (List UInt8)} (hne : ps ≠ []) (h : fitL ps) : Pt.join ps = some (Pt.joins ps) := by
  unfold Pt.join
  have := Pt.joins_len hne
  rw [if_pos ⟨hne, h.2, by have := h.1; omega⟩]

theorem join_unfit {ps : List (List UInt8)} (h : ¬ fitL ps) : Pt.join ps = none := by
  unfold Pt.join
  rw [if_neg]
  rintro ⟨h1, h2, h3⟩
  have := Pt.joins_len h1
  exact h ⟨by omega, h2⟩

end Go.Proofs.YtikkfmmdgicigaaDoor
