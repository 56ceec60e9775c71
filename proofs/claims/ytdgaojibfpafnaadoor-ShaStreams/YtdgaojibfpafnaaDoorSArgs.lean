/- What the arguments of the laws read as: rows of bytes; and what the two tables of package sha hold. Conditions: rows within the reach. -/
import Derived.Test.YtdgaojibfpafnaaDoorSAlive
import Derived.ChangeSlices
import Derived.ChangeArms
import Derived.ChangeSame
import Derived.Deep.Slices
import Derived.Lib.SmallJoins
import Derived.OpenShut
import Derived.SizedLaws
import Derived.ProofKit
import Derived.ShutString
import Derived.Lib.LaidTab
import Derived.Lay
import Derived.LaidMore
import Derived.MakeChecks
import Derived.Stop.Joined
namespace Go.Proofs.YtdgaojibfpafnaaDoor
open Go.RowKit

theorem lt_of_cell {w : World} {a : Addr} {v : Value} (h : w.cell? a = some v) : a.block < w.heap.size := by
  rcases Nat.lt_or_ge a.block w.heap.size with h1 | h1
  · exact h1
  · unfold World.cell? at h
    rw [Array.getElem?_eq_none h1] at h
    cases h

theorem own_knob : ownKnob Tryd.prog.godebug = none := by kernel_rfl
theorem laid_out : laidOutB Tryd.prog = true := by kernel_rfl

section
variable {H : Type} {enc : TypeId × Value → H} {w : World} {base : Nat} {spare : Nat → Bool} {held : Bool}

/-- Every row in d is within the reach. -/
def Small (t : TypeId) (d : DataW H) : Prop := ∀ n ∈ d.weights Tryd.prog t, n ≤ reachBytes

theorem bytes_open {fuel : Nat} {cs : List Value} {x : DataW H × List MemPlace} (h : DataW.trod enc Tryd.prog w base spare held fuel 22 cs = some x) (hz : Small 22 x.1) :
    ∃ v bs, cs = [v] ∧ BytesAt w (fun k => k < w.heap.size) v bs ∧ bs.length ≤ 140737488355328 := by
  rcases ChangeShapes.open_ints Tryd.underlying22 Tryd.underlying5 (by kernel_rfl) h with ⟨rfl, rfl⟩ | ⟨a, len, cap, zs, rfl, hb, hl, hm, hlen, rfl, hcell, hwf⟩
  · exact ⟨_, [], rfl, .inl ⟨rfl, rfl⟩, by simp⟩
  · have hle : len ≤ zs.length := by rw [hlen]; split <;> omega
    have hbl : ((zs.take len).map fun z => UInt8.ofNat z.toNat).length = len := by simp; omega
    refine ⟨_, (zs.take len).map fun z => UInt8.ofNat z.toNat, rfl, .inr ⟨a, cap, by rw [hbl], by omega, fun hne => ?_, fun j u hu => ?_⟩, ?_⟩
    · have hp : 0 < zs.length := by
        rcases Nat.eq_zero_or_pos zs.length with h0 | h0
        · exact (hne (by simp [List.eq_nil_of_length_eq_zero h0])).elim
        · exact h0
      have := lt_of_cell (hcell 0 hp)
      rwa [add_block] at this
    · rw [List.getElem?_map, Option.map_eq_some_iff] at hu
      obtain ⟨z, hz1, rfl⟩ := hu
      rw [List.getElem?_take] at hz1
      split at hz1
      · have hj := (List.getElem?_eq_some_iff.1 hz1).1
        rw [hcell j hj]
        have hzz : zs.getD j 0 = z := by simp [List.getD, hz1]
        have hw := bounds_u8 (hwf z (List.mem_of_getElem? hz1))
        rw [hzz]
        unfold byteV
        congr 2
        simp only [UInt8.toNat_ofNat']
        omega
      · cases hz1
    · rw [hbl]
      have := hz ((zs.take len).length * 1 + (zs.drop len).length * 1) (by
        have hb1 : Tryd.prog.bytesOf 5 = 1 := by kernel_rfl
        simp only [DataW.weights, Tryd.underlying22, hb1]
        refine List.mem_cons.2 (.inl ?_)
        simp [ChangeShapes.lits])
      simp at this
      unfold reachBytes at this
      omega
end

open Go.ChangeShapes Go.WideShapes Go.ChangeAt

theorem small_of {H : Type} {ts : List TypeId} {ds : List (DataW H)} (h : (DataW.weightsEach Tryd.prog ts ds).all (· ≤ reachBytes) = true) {j : Nat} {t : TypeId} {d : DataW H} (ht : ts[j]? = some t) (hd : ds[j]? = some d) : Small t d := by
  intro n hn
  have := List.all_eq_true.1 h n (DataW.weights_mem_each ht hd n hn)
  simpa using this

set_option maxRecDepth 100000 in
/-- A value of type []byte. -/
theorem bytes_arg {H : Type} {enc : TypeId × Value → H} {W : World} {b0 : Nat} {v : Value} {d : DataW H} {p : List MemPlace} (hv : Value.okWide Tryd.prog W .any b0 22 v) (h : DataW.Trod enc Tryd.prog W 0 (fun _ => true) true 22 v d p) (hz : Small 22 d) :
    ∃ bs, BytesAt W (fun k => k < W.heap.size) v bs ∧ bs.length ≤ 140737488355328 := by
  obtain ⟨a, len, cap, rfl⟩ := okWide_slice Tryd.underlying22 hv
  obtain ⟨fuel, h⟩ := h
  obtain ⟨v, l, hcs, hs, hl⟩ := bytes_open h hz
  have : Value.slice a len cap = v := (List.cons.inj (show [Value.slice a len cap] = [v] from hcs)).1
  subst this
  exact ⟨l, hs, hl⟩

/-- The list of the two tables. -/
def laidList : List (String × DataW Unit) := [("amphora/sha.first", Rows.laid_amphora_sha_first), ("amphora/sha.rounds", Rows.laid_amphora_sha_rounds)]

theorem gFirst : Tryd.prog.globalNamed "amphora/sha.first" = some 0 := by kernel_rfl
theorem gRounds : Tryd.prog.globalNamed "amphora/sha.rounds" = some 1 := by kernel_rfl
theorem tFirst : (Tryd.prog.globals[0]?).map (·.type) = some 65 := by kernel_rfl
theorem tRounds : (Tryd.prog.globals[1]?).map (·.type) = some 59 := by kernel_rfl

/-- What the condition gives: the two tables' cells. -/
theorem of_laid {W : World} (h : laidMetH Tryd.prog laidList W) : Fst W ∧ Tab W := by
  rw [MakeChecks.laidMetH_plain _ _ _ (by kernel_rfl)] at h
  obtain ⟨ps, ⟨g0, t0, cs0, f0, p0, q0, hg0, ht0, hv0, hd0, ⟨g1, t1, cs1, f1, p1, q1, hg1, ht1, hv1, hd1, _, _⟩, _⟩, _, _⟩ := h
  obtain rfl := Option.some.inj (gFirst.symm.trans hg0)
  obtain rfl := Option.some.inj (gRounds.symm.trans hg1)
  obtain rfl := Option.some.inj (tFirst.symm.trans ht0)
  obtain rfl := Option.some.inj (tRounds.symm.trans ht1)
  have e0 := Lib.cells_of_tab (k := .u32) (zs := Sh.h0.list) Tryd.underlying65 Tryd.underlying58 (by kernel_rfl) (by kernel_rfl) hd0
  have e1 := Lib.cells_of_tab (k := .u32) (zs := Sh.ks) Tryd.underlying59 Tryd.underlying58 (by kernel_rfl) (by kernel_rfl) hd1
  refine ⟨fun j v hv => ?_, fun j hj => ?_⟩
  · have := World.var?_cell hg0 hv0 j
    rw [Nat.zero_add, this, ← Array.getElem?_toList, e0]
    exact hv
  · have := World.var?_cell hg1 hv1 j
    rw [this, ← Array.getElem?_toList, e1]
    have hl : j < Sh.ks.length := hj
    simp [hl]

theorem laid_met (os : Os) (args : Array Value) : laidMetH Tryd.prog laidList ((World.laidAll Tryd.prog os laidList).forCall (fun _ _ => 0) ⟨#[], args, []⟩).memory := by
  rw [MakeChecks.laidMetH_plain _ _ _ (by kernel_rfl)]
  exact laidMet_laidAll _ (by kernel_rfl) (by kernel_rfl)
theorem laid_shaped (os : Os) : (World.laidAll Tryd.prog os laidList).Shaped Tryd.prog := World.shaped_of_ZipB (by kernel_rfl) (by kernel_rfl)

end Go.Proofs.YtdgaojibfpafnaaDoor
