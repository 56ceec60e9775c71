/- sha.Equal, and the law ShaEquals. Conditions: rows within the reach. -/
import Derived.Test.YtgdnmbchhfbjoaaDoorGMem
import Derived.Test.YtgdnmbchhfbjoaaDoorGArgs
import Derived.Test.YtgdnmbchhfbjoaaDoorHArgs
namespace Go.Proofs.YtgdnmbchhfbjoaaDoor
open Go.RowKit

theorem bits_or_u8 (x y : UInt8) : bits .or .u8 (x.toNat : Int) (y.toNat : Int) = ((x ||| y).toNat : Int) := by
  have e : (BitVec.ofNat 8 x.toNat ||| BitVec.ofNat 8 y.toNat).toNat = (x ||| y).toNat := by
    rw [BitVec.toNat_or, BitVec.toNat_ofNat, BitVec.toNat_ofNat, Nat.mod_eq_of_lt x.toNat_lt, Nat.mod_eq_of_lt y.toNat_lt, UInt8.toNat_or]
  have hl := (x ||| y).toNat_lt
  show IntKind.u8.wrap (((BitVec.ofInt 8 (x.toNat : Int) ||| BitVec.ofInt 8 (y.toNat : Int)).toNat : Nat) : Int) = _
  rw [BitVec.ofInt_natCast, BitVec.ofInt_natCast, e, IntKind.wrap_u8]
  omega

/-- What 'unlike' holds behind the first k bytes. -/
def unlike (x y : List UInt8) : Nat → UInt8
  | 0 => 0
  | k + 1 => unlike x y k ||| (x.getD k 0 ^^^ y.getD k 0)

theorem u8_or_zero (a b : UInt8) : (a ||| b = 0) ↔ (a = 0 ∧ b = 0) := UInt8.or_eq_zero_iff
theorem u8_xor_zero (a b : UInt8) : (a ^^^ b = 0) ↔ a = b := UInt8.xor_eq_zero_iff

theorem unlike_zero (x y : List UInt8) : ∀ k, unlike x y k = 0 ↔ ∀ j, j < k → x.getD j 0 = y.getD j 0
  | 0 => by simp [unlike]
  | k + 1 => by
    unfold unlike
    rw [u8_or_zero, unlike_zero x y k, u8_xor_zero]
    constructor
    · rintro ⟨h1, h2⟩ j hj
      rcases Nat.lt_succ_iff_lt_or_eq.1 hj with h | rfl
      · exact h1 j h
      · exact h2
    · intro h
      exact ⟨fun j hj => h j (by omega), h k (by omega)⟩

theorem unlike_all {x y : List UInt8} (h : x.length = y.length) : unlike x y x.length = 0 ↔ x = y := by
  rw [unlike_zero]
  constructor
  · intro hj
    apply List.ext_getElem h
    intro i h1 h2
    have := hj i h1
    simpa [h1, h2] using this
  · rintro rfl j _
    rfl

/-- Whether two rows are the same, as the walk says it. -/
def sameB (x y : List UInt8) : Bool := decide (x = y)

set_option maxRecDepth 100000 in
set_option maxHeartbeats 1000000 in
theorem equal_any {w : World} {S : Nat → Prop} {va vb : Value} {x y : List UInt8} (ha : BytesAt w S va x) (hb : BytesAt w S vb y) (hx : x.length ≤ 140737488355328) (hS : ∀ k, S k → k < w.heap.size) :
    Calls Tryd.prog 41 #[va, vb] w fun e w' => e = .returned (.bool (sameB x y)) ∧ ∃ m, w' = w.drewN m := by
  obtain ⟨aa, ac, rfl⟩ := ha.shape
  obtain ⟨ba, bc, rfl⟩ := hb.shape
  by_cases hl : x.length = y.length
  · have HA := Lib.hid ha; have HB := Lib.hid hb; have HS := Lib.hid hS; have HL := Lib.hid hl
    rw [← hl]
    clear ha hb hS hl
    go_enter Tryd.func41, Tryd.ntmps41
    go_wp2
    go_loopw [5, 14] (fun uv iv wr => ∃ k : Nat, k ≤ x.length ∧ iv = .int .i64 k ∧ uv = .int .u8 ((unlike x y k).toNat : Int) ∧ ∃ n, wr = w.drewN n) (fun _ iv _ => x.length - (intOf iv).toNat)
    case atStart => exact ⟨0, Nat.zero_le _, rfl, rfl, 0, rfl⟩
    case round =>
      obtain ⟨k, hk, rfl, rfl, n, hwr⟩ := hrel
      have ho : Only (fun _ => False) w wr := by rw [hwr]; exact ⟨rfl, rfl, rfl, Nat.le_refl _, fun _ _ _ => rfl⟩
      have HWR := Lib.hid hwr
      clear hwr
      by_cases hlt : k < x.length
      · obtain ⟨ad, rfl, hca⟩ : ∃ ad, aa = some ad ∧ wr.cell? (ad.add k) = some (.int .u8 ((x.getD k 0).toNat : Int)) := by
          have h := HA.out.only ho HS.out (fun _ _ x => x)
          rcases h with ⟨_, e⟩ | ⟨ad, c, e, _, _, h3⟩
          · rw [e] at hlt; simp at hlt
          · obtain ⟨e1, _, _⟩ := Value.slice.inj e
            refine ⟨ad, e1, ?_⟩
            rw [h3 k _ (List.getElem?_eq_getElem hlt)]
            simp [byteV, hlt]
        obtain ⟨bd, rfl, hcb⟩ : ∃ bd, ba = some bd ∧ wr.cell? (bd.add k) = some (.int .u8 ((y.getD k 0).toNat : Int)) := by
          have h := HB.out.only ho HS.out (fun _ _ x => x)
          have hlt' : k < y.length := by rw [← HL.out]; exact hlt
          rcases h with ⟨_, e⟩ | ⟨ad, c, e, _, _, h3⟩
          · rw [e] at hlt'; simp at hlt'
          · obtain ⟨e1, _, _⟩ := Value.slice.inj e
            refine ⟨ad, e1, ?_⟩
            rw [h3 k _ (List.getElem?_eq_getElem hlt')]
            simp [byteV, hlt']
        have HN : Hid (unlike x y (k + 1) = unlike x y k ||| (x.getD k 0 ^^^ y.getD k 0)) := rfl
        have pz : 0 ≤ (k : Int) := by omega
        have mz : (k : Int) < (x.length : Int) := by omega
        clear ho
        generalize x.getD k 0 = a at *
        generalize y.getD k 0 = c at *
        generalize unlike x y k = u at *
        go_wp2
        go_quiet (fail)
        go_wp2
        refine ⟨⟨k + 1, by omega, by go_num, ?_, n + nq, by rw [HWR.out, World.drewN_drewN]⟩, by simp [intOf]; omega⟩
        rw [HN.out, bits_xor_u8, bits_or_u8]
      · obtain rfl : k = x.length := by omega
        have hu := unlike_all HL.out
        have hb : (((unlike x y x.length).toNat : Int) == 0) = sameB x y := by
          unfold sameB
          rw [Bool.eq_iff_iff]
          simp only [beq_iff_eq, decide_eq_true_eq]
          rw [← hu]
          constructor
          · intro h
            exact UInt8.toNat_inj.1 (by simpa using h)
          · intro h
            rw [h]
            rfl
        clear ho hu
        go_wp2
        go_ret
        exact ⟨by rw [← hb]; rfl, n, HWR.out⟩
  · have hb : sameB x y = false := by
      unfold sameB
      exact decide_eq_false (fun e => hl (by rw [e]))
    have HBB := Lib.hid hb
    have hne : ((x.length : Int) != (y.length : Int)) = true := by simp; omega
    clear hb ha
    go_enter Tryd.func41, Tryd.ntmps41
    go_wp2
    go_ret
    exact ⟨by rw [HBB.out]; rfl, 0, rfl⟩

end Go.Proofs.YtgdnmbchhfbjoaaDoor
