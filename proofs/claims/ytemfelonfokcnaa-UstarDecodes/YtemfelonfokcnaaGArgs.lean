/- What the arguments of the laws read as: rows of bytes, arrays of bytes. Conditions: rows within the reach. -/
import Derived.Test.YtemfelonfokcnaaGMem
import Derived.ChangeSlices
import Derived.ChangeArms
import Derived.ChangeSame
import Derived.Deep.Slices
import Derived.Lib.SmallJoins
import Derived.OpenShut
import Derived.SizedLaws
import Derived.ProofKit
import Derived.ShutString
import Derived.Stop.Joined
namespace Go.Proofs.Ytemfelonfokcnaa
open Go.RowKit

theorem lt_of_cell {w : World} {a : Addr} {v : Value} (h : w.cell? a = some v) : a.block < w.heap.size := by
  rcases Nat.lt_or_ge a.block w.heap.size with h1 | h1
  · exact h1
  · unfold World.cell? at h
    rw [Array.getElem?_eq_none h1] at h
    cases h

theorem own_knob : ownKnob Try.prog.godebug = none := by kernel_rfl
theorem laid_out : laidOutB Try.prog = true := by kernel_rfl

section
variable {H : Type} {enc : TypeId × Value → H} {w : World} {base : Nat} {spare : Nat → Bool} {held : Bool}

/-- Every row in d is within the reach. -/
def Small (t : TypeId) (d : DataW H) : Prop := ∀ n ∈ d.weights Try.prog t, n ≤ reachBytes

theorem bytes_open {fuel : Nat} {cs : List Value} {x : DataW H × List MemPlace} (h : DataW.trod enc Try.prog w base spare held fuel 25 cs = some x) (hz : Small 25 x.1) :
    ∃ v bs, cs = [v] ∧ BytesAt w (fun k => k < w.heap.size) v bs ∧ bs.length ≤ 140737488351232 := by
  rcases ChangeShapes.open_ints Try.underlying25 Try.underlying5 (by kernel_rfl) h with ⟨rfl, rfl⟩ | ⟨a, len, cap, zs, rfl, hb, hl, hm, hlen, rfl, hcell, hwf⟩
  · exact ⟨_, [], rfl, .inl ⟨rfl, rfl⟩, by simp⟩
  · have hle : len ≤ zs.length := by rw [hlen]; split <;> omega
    have hbl : ((zs.take len).map fun z => UInt8.ofNat z.toNat).length = len := by simp; omega
    refine ⟨_, (zs.take len).map fun z => UInt8.ofNat z.toNat, rfl, .inr ⟨a, cap, by rw [hbl], by omega, fun hne => ?_, fun j u hu => ?_⟩, ?_⟩
    · have hp : 0 < zs.length := by
        rcases Nat.eq_zero_or_pos zs.length with h0 | h0
        · exact (hne (by simp [List.eq_nil_of_length_eq_zero h0])).elim
        · exact h0
      have := lt_of_cell (hcell 0 hp)
      rwa [add_block] at this
    · rw [List.getElem?_map, Option.map_eq_some_iff] at hu
      obtain ⟨z, hz1, rfl⟩ := hu
      rw [List.getElem?_take] at hz1
      split at hz1
      · have hj := (List.getElem?_eq_some_iff.1 hz1).1
        rw [hcell j hj]
        have hzz : zs.getD j 0 = z := by simp [List.getD, hz1]
        have hw := bounds_u8 (hwf z (List.mem_of_getElem? hz1))
        rw [hzz]
        unfold byteV
        congr 2
        simp only [UInt8.toNat_ofNat']
        omega
      · cases hz1
    · rw [hbl]
      have := hz ((zs.take len).length * 1 + (zs.drop len).length * 1) (by
        have hb1 : Try.prog.bytesOf 5 = 1 := by kernel_rfl
        simp only [DataW.weights, Try.underlying25, hb1]
        refine List.mem_cons.2 (.inl ?_)
        simp [ChangeShapes.lits])
      simp at this
      unfold reachBytes at this
      omega
end

open Go.ChangeShapes Go.WideShapes Go.ChangeAt

theorem small_of {H : Type} {ts : List TypeId} {ds : List (DataW H)} (h : (DataW.weightsEach Try.prog ts ds).all (· ≤ reachBytes) = true) {j : Nat} {t : TypeId} {d : DataW H} (ht : ts[j]? = some t) (hd : ds[j]? = some d) : Small t d := by
  intro n hn
  have := List.all_eq_true.1 h n (DataW.weights_mem_each ht hd n hn)
  simpa using this

set_option maxRecDepth 100000 in
/-- A value of type []byte. -/
theorem bytes_arg {H : Type} {enc : TypeId × Value → H} {W : World} {b0 : Nat} {v : Value} {d : DataW H} {p : List MemPlace} (hv : Value.okWide Try.prog W .any b0 25 v) (h : DataW.Trod enc Try.prog W 0 (fun _ => true) true 25 v d p) (hz : Small 25 d) :
    ∃ bs, BytesAt W (fun k => k < W.heap.size) v bs ∧ bs.length ≤ 140737488351232 := by
  obtain ⟨a, len, cap, rfl⟩ := okWide_slice Try.underlying25 hv
  obtain ⟨fuel, h⟩ := h
  obtain ⟨v, l, hcs, hs, hl⟩ := bytes_open h hz
  have : Value.slice a len cap = v := (List.cons.inj (show [Value.slice a len cap] = [v] from hcs)).1
  subst this
  exact ⟨l, hs, hl⟩


set_option maxRecDepth 100000 in
/-- A value that is an array of bytes. -/
theorem arr_open {H : Type} {enc : TypeId × Value → H} {w : World} {base : Nat} {spare : Nat → Bool} {held : Bool} {fuel : Nat} {cs : List Value} {x : DataW H × List MemPlace} {t : TypeId} {n : Nat} (ht : Try.prog.underlying t = some (.array n 5)) (hcl : Try.prog.cellsOf t = n) (h : DataW.trod enc Try.prog w base spare held fuel t cs = some x) :
    ∃ bs : List UInt8, cs = bs.map byteV ∧ bs.length = n := by
  obtain ⟨xs, m, _, _, hl, hxl, hf⟩ := DataW.trod_array ht h
  have hc1 : Try.prog.cellsOf 5 = 1 := by kernel_rfl
  rw [hcl] at hl
  rw [hc1] at hf
  have hcell : ∀ i, i < n → ∃ b : UInt8, cs[i]? = some (byteV b) := by
    intro i hi
    have h1 := hf i hi
    rw [List.getElem?_eq_getElem (by omega)] at h1
    obtain ⟨k, e1, _, hw⟩ := DataW.trod_int Try.underlying5 h1
    have hb := bounds_u8 hw
    refine ⟨UInt8.ofNat k.toNat, ?_⟩
    rw [Nat.mul_one, List.drop_eq_getElem_cons (by omega), List.take_succ_cons, List.take_zero] at e1
    have e2 : cs[i] = .int .u8 k := (List.cons.inj e1).1
    rw [List.getElem?_eq_getElem (by omega), e2]
    unfold byteV
    congr 2
    simp only [UInt8.toNat_ofNat']
    omega
  obtain ⟨f, hfb⟩ := Deep.choose_lt (α := UInt8) (n := n) (p := fun i b => cs[i]? = some (byteV b)) hcell
  refine ⟨(List.range n).map f, ?_, by simp⟩
  apply List.ext_getElem?
  intro i
  by_cases hi : i < n
  · rw [hfb i hi]
    simp [hi]
  · rw [List.getElem?_eq_none (by omega), List.getElem?_eq_none (by simp; omega)]

set_option maxRecDepth 100000 in
theorem arr_arg {H : Type} {enc : TypeId × Value → H} {W : World} {b0 : Nat} {v : Value} {d : DataW H} {p : List MemPlace} {t : TypeId} {n : Nat} (ht : Try.prog.underlying t = some (.array n 5)) (hcl : Try.prog.cellsOf t = n) (hv : Value.okWide Try.prog W .any b0 t v) (h : DataW.Trod enc Try.prog W 0 (fun _ => true) true t v d p) :
    ∃ bs : List UInt8, v = digV bs ∧ bs.length = n := by
  unfold Value.okWide at hv
  rw [ht] at hv
  obtain ⟨cs, rfl, _, _⟩ := hv
  obtain ⟨fuel, h⟩ := h
  obtain ⟨bs, e, hl⟩ := arr_open ht hcl h
  refine ⟨bs, ?_, hl⟩
  unfold digV
  congr 1
  exact Array.toList_inj.1 (by simpa [Value.cells] using e)

end Go.Proofs.Ytemfelonfokcnaa
