/- The last slash of a row and of a text; bytes.LastIndexByte. Conditions: none. -/
import Derived.Test.YtikkfmmdgicigaaDoorPaCut
namespace Go.Proofs.YtikkfmmdgicigaaDoor
open Go.RowKit

namespace Pt
/-- The last slash among the first k. -/
def lastI (l : List UInt8) : Nat → Int
  | 0 => -1
  | k + 1 => if l[k]? = some 47 then (k : Int) else lastI l k
def lastS (l : List UInt8) : Int := lastI l l.length

theorem lastI_range (l : List UInt8) : ∀ k, lastI l k = -1 ∨ ∃ i : Nat, lastI l k = (i : Int) ∧ i < k ∧ l[i]? = some 47
  | 0 => .inl rfl
  | k + 1 => by
    unfold lastI
    split
    · rename_i h
      exact .inr ⟨k, rfl, by omega, h⟩
    · rcases lastI_range l k with h | ⟨i, h1, h2, h3⟩
      · exact .inl h
      · exact .inr ⟨i, h1, by omega, h3⟩

theorem lastS_range (l : List UInt8) : lastS l = -1 ∨ ∃ i : Nat, lastS l = (i : Int) ∧ i < l.length ∧ l[i]? = some 47 := lastI_range l l.length

theorem lastI_none {l : List UInt8} (h : 47 ∉ l) : ∀ k, lastI l k = -1
  | 0 => rfl
  | k + 1 => by
    unfold lastI
    rw [if_neg (fun e => h (List.mem_of_getElem? e)), lastI_none h k]

theorem lastS_none {l : List UInt8} (h : 47 ∉ l) : lastS l = -1 := lastI_none h _

theorem lastI_skip {l : List UInt8} {m : Nat} : ∀ k, (∀ i, m ≤ i → i < m + k → l[i]? ≠ some 47) → lastI l (m + k) = lastI l m
  | 0, _ => rfl
  | k + 1, h => by
    have e : lastI l ((m + k) + 1) = lastI l (m + k) := by
      rw [lastI, if_neg (h (m + k) (by omega) (by omega))]
    exact e.trans (lastI_skip k (fun i h1 h2 => h i h1 (by omega)))

theorem lastS_at (a : List UInt8) {p : List UInt8} (h : 47 ∉ p) : lastS (a ++ 47 :: p) = a.length := by
  unfold lastS
  have e : (a ++ 47 :: p).length = (a.length + 1) + p.length := by simp; omega
  rw [e, lastI_skip]
  · unfold lastI
    rw [if_pos (by simp)]
  · intro i h1 h2 he
    rw [List.getElem?_append_right (by omega), show i - a.length = (i - a.length - 1) + 1 by omega, List.getElem?_cons_succ] at he
    exact h (List.mem_of_getElem? he)

theorem lastS_lib (s : ByteArray) : Lib.lastIndexByte s 47 = lastS s.data.toList := by
  have key : ∀ k, k ≤ s.size → Lib.lastIdx s 47 k = lastI s.data.toList k := by
    intro k
    induction k with
    | zero => intro _; rfl
    | succ k ih =>
      intro hk
      have hlt : k < s.data.size := by have : s.data.size = s.size := rfl; omega
      have e : s.data[k]! = s.data.toList[k]'(by simpa using hlt) := by
        rw [getElem!_pos s.data k hlt]; rfl
      unfold Lib.lastIdx lastI
      rw [ih (by omega), e, List.getElem?_eq_getElem (by simpa using hlt)]
      by_cases h : s.data.toList[k]'(by simpa using hlt) = 47
      · simp [h]
      · have : ¬ (((s.data.toList[k]'(by simpa using hlt)).toNat : Nat) : Int) = 47 := by
          intro e2
          apply h
          apply UInt8.toNat_inj.1
          have : (47 : UInt8).toNat = 47 := rfl
          omega
        rw [if_neg this, if_neg (by simpa using h)]
  unfold Lib.lastIndexByte lastS
  rw [key s.size (Nat.le_refl _), ← Lib.size_eq]
end Pt

theorem byteV_47 (b : UInt8) : ((b.toNat : Int) = 47) ↔ b = 47 :=
  ⟨fun h => UInt8.toNat_inj.1 (by have : (47 : UInt8).toNat = 47 := rfl; omega), fun h => by subst h; rfl⟩

set_option maxRecDepth 100000 in
set_option maxHeartbeats 1000000 in
theorem lLast_any {v : Value} {bs : List UInt8} {S : Nat → Prop} {w : World} (hv : BytesAt w S v bs) (hl : bs.length ≤ 9223372036854775807) :
    Calls Tryd.prog 81 #[v, .int .u8 47] w fun e w' => e = .returned (.int .i64 (Pt.lastS bs)) ∧ Quiet w w' := by
  rcases hv with ⟨rfl, rfl⟩ | ⟨ad, c, rfl, hcap, _, hcell⟩
  · go_enter Tryd.func81, Tryd.ntmps81
    go_wp2
    go_loop [5] (fun vi => vi = .int .i64 (-1)) (fun _ => 0)
    case atStart => rfl
    case round =>
      subst hrel
      go_wp2
      go_ret
      exact ⟨rfl, Only.refl _ _⟩
  · have HC := Lib.hid hcell
    clear hcell
    go_enter Tryd.func81, Tryd.ntmps81
    go_wp2
    go_loop [5] (fun vi => ∃ k : Nat, k ≤ bs.length ∧ vi = .int .i64 ((k : Int) - 1) ∧ Hid (Pt.lastS bs = Pt.lastI bs k)) (fun vi => ((RowKit.intOf vi) + 1).toNat)
    case atStart => exact ⟨bs.length, Nat.le_refl _, by first | rfl | go_num | (congr 1; omega), rfl⟩
    case round =>
      obtain ⟨k, hk, rfl, hh⟩ := hrel
      cases k with
      | zero =>
        rw [show (((0 : Nat) : Int) - 1) = -1 from rfl]
        go_wp2
        go_ret
        exact ⟨by rw [hh.out]; rfl, Only.refl _ _⟩
      | succ j =>
        rw [show (((j + 1 : Nat) : Int) - 1) = (j : Int) by omega]
        have hjj : j < bs.length := by omega
        obtain ⟨x, hx⟩ : ∃ x, bs[j]? = some x := ⟨_, List.getElem?_eq_getElem hjj⟩
        have hcj : w.cell? (ad.add j) = some (.int .u8 (x.toNat : Int)) := HC.out j x hx
        by_cases h47 : x = 47
        · have hL : Hid (Pt.lastS bs = (j : Int)) := by
            unfold Hid
            rw [hh.out]
            unfold Pt.lastI
            rw [hx, h47, if_pos rfl]
          have hxi : (x.toNat : Int) = 47 := (byteV_47 x).2 h47
          rw [hxi] at hcj
          clear hh hx h47 hxi
          go_wp2
          go_ret
          exact ⟨by rw [hL.out]; rfl, Only.refl _ _⟩
        · have hL : Hid (Pt.lastS bs = Pt.lastI bs j) := by
            unfold Hid
            rw [hh.out]
            show (if bs[j]? = some 47 then (j : Int) else Pt.lastI bs j) = _
            rw [hx, if_neg (fun e => h47 (Option.some.inj e))]
          have hxi : ((x.toNat : Int) == 47) = false := by
            rw [beq_eq_false_iff_ne]
            exact fun e => h47 ((byteV_47 x).1 e)
          clear hh hx h47
          go_wp2
          go_round
          case rel => exact ⟨j, by omega, rfl, hL⟩
          case measure => simp [RowKit.intOf]

theorem bLast_any {v : Value} {bs : List UInt8} {S : Nat → Prop} {w : World} (hv : BytesAt w S v bs) (hl : bs.length ≤ 9223372036854775807) :
    Calls Tryd.prog 63 #[v, .int .u8 47] w fun e w' => e = .returned (.int .i64 (Pt.lastS bs)) ∧ Quiet w w' := by
  have H := Lib.hid (lLast_any hv hl)
  obtain ⟨a, c, rfl⟩ := hv.shape
  clear hv
  go_enter Tryd.func63, Tryd.ntmps63
  go_wp2_with (go_at_call 81; refine H.out.mono ?_; rintro e w1 ⟨rfl, hq⟩; have HQ := Lib.hid hq; clear hq)
  go_ret
  exact ⟨rfl, HQ.out⟩

theorem last_any (s : ByteArray) (hs : s.size < 4611686018427387904) (w : World) :
    Calls Tryd.prog 66 #[.string s, .string ⟨#[47]⟩] w fun e w' => e = .returned (.int .i64 (Pt.lastS s.data.toList)) ∧ w' = w := by
  rw [← Pt.lastS_lib]
  exact sLastIndex_any s hs w

end Go.Proofs.YtikkfmmdgicigaaDoor
