/- The document's own field and Reader. Conditions: none. -/
import Derived.Test.YtlfbdhgppmmahaaWiRefV
import Derived.Test.YtlfbdhgppmmahaaWiField
namespace Go.Proofs.Ytlfbdhgppmmahaa
open Go.RowKit

theorem RestAt.pre {w : World} {g o n c : Nat} {a : Option Addr} {rest : List UInt8} (h : RestAt w g o (.slice a rest.length c) rest) (hn : n ≤ rest.length) : RestAt w g o (.slice a n c) (rest.take n) := by
  obtain ⟨aa, cc, h1, h2, h0, h3⟩ := h
  obtain ⟨rfl, _, rfl⟩ := Value.slice.inj h1
  have hl : (rest.take n).length = n := by simp; omega
  refine ⟨a, c, by rw [hl], by omega, h0, fun hne => ?_⟩
  obtain ⟨rfl, cur, hg, hc⟩ := h3 (by rintro rfl; simp at hne)
  refine ⟨rfl, cur, hg, fun j x hx => hc j x ?_⟩
  rw [List.getElem?_take] at hx
  split at hx
  · exact hx
  · cases hx

theorem Row.empty4 (w : World) : Row w (w.alloc (.cells #[] 5)) (.slice (some ⟨w.heap.size, 0, none⟩) 0 0) [] := by
  refine ⟨World.ownsRow_made w (e := 5) (size := 1) (base := 0) #[] 0 (Nat.zero_le _) (Nat.zero_le _) rfl, fun q hq => ?_, Only.alloc _⟩
  have : w.heap.size = q := Option.some.inj hq
  omega

/-- A piece out of the middle. -/
theorem BytesAt.mid {w : World} {S : Nat → Prop} {a : Option Addr} {n c l k : Nat} {bs : List UInt8} (h : BytesAt w S (.slice a n c) bs) (hk : l + k ≤ bs.length) : ∃ a', (∀ W : World, (Instr.slice 22 (.slice a n c) (some (.int .i64 (l : Int))) (some (.int .i64 ((l : Int) + (k : Int)))) none).run Try.prog W = .ok (.slice a' k (c - l)) W) ∧ BytesAt w S (.slice a' k (c - l)) ((bs.drop l).take k) := by
  have hc := h.cap
  refine ⟨if c = l then a else a.map (·.add l), fun W => ?_, ?_⟩
  · rw [run_slice_lh (ht := by kernel_rfl) (h0 := by omega) (h1 := by omega) (h2 := by omega)]
    have hsz : (sizeOf (Try.prog.elem 22)).run Try.prog W = .ok 1 W := by kernel_rfl
    rw [hsz]
    have e : ((l : Int) + (k : Int)).toNat = l + k := by omega
    simp [Result.andThen, sliced, e]
  · have hl : ((bs.drop l).take k).length = k := by simp; omega
    rcases h with ⟨e, rfl⟩ | ⟨ad, c', e, hc', h2, h3⟩
    · obtain ⟨rfl, rfl, rfl⟩ := Value.slice.inj e
      have h0 : l = 0 ∧ k = 0 := by simp at hk; omega
      obtain ⟨rfl, rfl⟩ := h0
      exact .inl ⟨rfl, rfl⟩
    · obtain ⟨rfl, rfl, rfl⟩ := Value.slice.inj e
      by_cases hcl : c = l
      · have hk0 : k = 0 := by omega
        subst hk0
        rw [if_pos hcl]
        exact .inr ⟨ad, c - l, rfl, Nat.zero_le _, fun h => absurd rfl h, fun j x hx => by simp at hx⟩
      · rw [if_neg hcl]
        refine .inr ⟨ad.add l, c - l, by rw [hl]; rfl, by omega, fun hne => ?_, fun j x hx => ?_⟩
        · rw [add_block]; exact h2 (by rintro rfl; simp at hne)
        · rw [add_add]
          rw [List.getElem?_take] at hx
          split at hx
          · rw [List.getElem?_drop] at hx
            exact h3 _ x hx
          · cases hx

set_option maxRecDepth 100000 in
theorem r4field_ok {w : World} {S : Nat → Prop} {v : Value} {bs f : List UInt8} {k : Nat} (hv : BytesAt w S v bs) (hS : ∀ k, S k → k < w.heap.size) (hl : bs.length ≤ 1048576) (hf : Wi.field bs = some (f, k)) :
    Calls Try.prog 23 #[v] w fun e w' => ∃ a c, e = .returned (.tuple #[.slice a f.length c, .int .i64 (k : Int)]) ∧ Row w w' (.slice a f.length c) f := by
  obtain ⟨va, vc, rfl⟩ := hv.shape
  rcases field_cases bs with ⟨_, h1⟩ | ⟨_, _, _, _, h1⟩ | ⟨_, _, _, _, _, h1⟩ | ⟨n, j, hr, h1, h2, h3⟩
  · rw [hf] at h1; cases h1
  · rw [hf] at h1; cases h1
  · rw [hf] at h1; cases h1
  · rw [hf] at h3
    obtain ⟨rfl, rfl⟩ := Prod.mk.inj (Option.some.inj h3)
    have hjl := (Wi.readVar_some hr).le
    have h2' : n ≤ bs.length - j := by simpa using h2
    have hfl : ((bs.drop j).take n).length = n := by simp; omega
    have HRV : Hid (Calls Try.prog 28 #[.slice va bs.length vc] w fun e w' => e = .returned (.tuple #[.int .i64 (n : Int), .int .i64 (j : Int), .int .i64 0]) ∧ Only (fun _ => False) w w') := by
      refine (r4ReadVar_any hv hS (by omega)).mono ?_
      rintro e w' ⟨ho, ⟨n', k', e1, rfl⟩ | ⟨e1, _⟩⟩
      · rw [hr] at e1
        obtain ⟨rfl, rfl⟩ := Prod.mk.inj (Option.some.inj e1)
        exact ⟨rfl, ho⟩
      · rw [hr] at e1; cases e1
    obtain ⟨a', hsl, hbm⟩ := hv.mid (l := j) (k := n) (by omega)
    have HBM := Lib.hid hbm; have HS := Lib.hid hS
    have g1 : ¬ (n : Int) > 67108864 := by omega
    have g2 : ¬ (n : Int) > (bs.length : Int) - (j : Int) := by omega
    have hfx : ((bs.drop j).take n).length = n := hfl
    generalize (bs.drop j).take n = F at *
    subst hfx
    clear hv hS hf h3 hr hbm h2 hfl
    go_enter Try.func23, Try.ntmps23
    go_wp2_with (first
      | (go_at_call 28; refine HRV.out.mono ?_; rintro e w1 ⟨rfl, ho1⟩; have HO1 := Lib.hid ho1; have HE1 := Lib.hid (Row.empty4 w1); have HB1 := Lib.hid (HBM.out.here (ho1.trans (Only.alloc (.cells #[] 5))) HS.out); clear ho1)
      | (at_builtin; refine wpList_append_bytes _ rfl _ _ rfl (.slice (some ⟨w1.heap.size, 0, none⟩) 0 0) (.slice a' F.length (vc - j)) 0 [] rfl rfl HE1.out.row HB1.out (by omega) ?_; intro a2 c2 w2 hr2 hg2 hat2; rw [Nat.zero_add] at hr2 hat2; rw [Nat.zero_add]; have HR2 := Lib.hid (HE1.out.app (y := F) (Only.refl _ _) (by simp) hr2 hg2 hat2); clear hr2 hg2 hat2))
    go_ret2
    have hrow := HR2.out
    refine ⟨a2, c2, by simp, ⟨hrow.row, fun q hq => Nat.le_trans HO1.out.size (hrow.own q hq), HO1.out.trans hrow.only⟩⟩

end Go.Proofs.Ytlfbdhgppmmahaa
