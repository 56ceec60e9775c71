/- The document's Pieces. Conditions: texts of 2^20 bytes at most. -/
import Derived.Test.YtikkfmmdgicigaaDoorPaTx
import Derived.Test.YtikkfmmdgicigaaDoorPaUtf
import Derived.Test.YtikkfmmdgicigaaDoorPaGood
import Derived.Maps.AppendAt
namespace Go.Proofs.YtikkfmmdgicigaaDoor
open Go.RowKit

theorem info_str : (Tryd.prog.info? 9).map (fun i => (i.zero, i.size, i.bytes)) = some (some (.string ⟨#[]⟩), 1, 16) := by kernel_rfl

/-- Behind an append of one text to a row of the call's own. -/
theorem row_more {W w1 : World} {n₀ : Nat} {tmp : Obj} {v v' : Value} {k : Nat} {xs ys : List Value} (how : W.ownsRow n₀ 9 1 v k xs) (hn : n₀ ≤ W.heap.size) (hown' : w1.ownsRow n₀ 9 1 v' (k + 1) ys) (hgrow : (W.alloc tmp).grownBy w1 v.ownBlock) :
    ∃ g cap, v' = .slice (some ⟨g, 0, none⟩) (k + 1) cap ∧ w1.ownsRow n₀ 9 1 (.slice (some ⟨g, 0, none⟩) (k + 1) cap) (k + 1) ys ∧ Below n₀ W w1 := by
  obtain ⟨g, cap, rfl⟩ := ownsRow_succ hown'
  refine ⟨g, cap, rfl, hown', ((Below.refl n₀ W).alloc hn tmp).grown hgrow (by simp; omega) fun j ej => ?_⟩
  rcases how.2 with ⟨rfl, _⟩ | ⟨g', cap', cur, rfl, hb, _, _⟩
  · simp [Value.ownBlock] at ej
  · obtain rfl : g' = j := by simpa [Value.ownBlock] using ej
    exact hb

namespace Pt
/-- What stands, when the document's Pieces has come to k. -/
def pcsTo (l : List UInt8) (fr k : Nat) (acc : List (List UInt8)) : Prop :=
  (k ≤ l.length ∧ fr ≤ k ∧ pcs l = acc ++ pcs (l.drop fr) ∧ 47 ∉ (l.drop fr).take (k - fr)) ∨ (k = l.length + 1 ∧ acc = pcs l)

theorem drop_split {l : List UInt8} {fr k : Nat} (h : fr ≤ k) : l.drop fr = (l.drop fr).take (k - fr) ++ l.drop k := by
  have e : l.drop k = (l.drop fr).drop (k - fr) := by rw [List.drop_drop]; congr 1; omega
  rw [e, List.take_append_drop]

theorem pcsTo_end {l : List UInt8} {fr : Nat} {acc : List (List UInt8)} (h : pcsTo l fr l.length acc) : pcsTo l (l.length + 1) (l.length + 1) (acc ++ [(l.drop fr).take (l.length - fr)]) := by
  rcases h with ⟨_, h1, h2, h3⟩ | ⟨h1, _⟩
  · refine .inr ⟨rfl, ?_⟩
    have e : (l.drop fr).take (l.length - fr) = l.drop fr := List.take_of_length_le (by rw [List.length_drop]; exact Nat.le_refl _)
    rw [e] at h3 ⊢
    rw [h2, pcs_no h3]
  · omega

theorem pcsTo_hit {l : List UInt8} {fr k : Nat} {acc : List (List UInt8)} (h : pcsTo l fr k acc) (hk : k < l.length) (hx : l[k]? = some 47) : pcsTo l (k + 1) (k + 1) (acc ++ [(l.drop fr).take (k - fr)]) := by
  rcases h with ⟨_, h1, h2, h3⟩ | ⟨h1, _⟩
  · refine .inl ⟨by omega, Nat.le_refl _, ?_, by simp⟩
    have hd : l.drop k = 47 :: l.drop (k + 1) := by
      rw [List.drop_eq_getElem_cons hk]
      have : l[k] = 47 := by rw [List.getElem?_eq_getElem hk] at hx; exact Option.some.inj hx
      rw [this]
    rw [h2, drop_split h1, hd, pcs_cut _ h3, List.append_assoc, ← hd, ← drop_split h1]
    rfl
  · omega

theorem pcsTo_miss {l : List UInt8} {fr k : Nat} {acc : List (List UInt8)} (h : pcsTo l fr k acc) (hk : k < l.length) (hx : l[k]? ≠ some 47) : pcsTo l fr (k + 1) acc := by
  rcases h with ⟨_, h1, h2, h3⟩ | ⟨h1, _⟩
  · refine .inl ⟨by omega, by omega, h2, ?_⟩
    have e : k + 1 - fr = (k - fr) + 1 := by omega
    rw [e, List.take_add_one]
    have hg : (l.drop fr)[k - fr]? = l[k]? := by rw [List.getElem?_drop]; congr 1; omega
    rw [hg, List.getElem?_eq_getElem hk]
    intro hm
    rcases List.mem_append.1 hm with hm | hm
    · exact h3 hm
    · rw [List.getElem?_eq_getElem hk] at hx
      exact hx (by simp at hm; rw [hm])
  · omega

theorem pcsTo_len {l : List UInt8} {fr k : Nat} {acc : List (List UInt8)} (h : pcsTo l fr k acc) : acc.length ≤ l.length + 1 := by
  have hp := len_tot (pcs l)
  rw [pcs_tot] at hp
  rcases h with ⟨_, _, h2, _⟩ | ⟨_, h2⟩
  · have := congrArg List.length h2
    rw [List.length_append] at this
    omega
  · rw [h2]; exact hp
end Pt

set_option maxRecDepth 100000 in
set_option maxHeartbeats 4000000 in
theorem r8pieces_any (s : ByteArray) (hs : s.size ≤ 1048576) (w : World) :
    Calls Tryd.prog 71 #[.string s] w fun e w' => ∃ v, e = .returned v ∧ w'.ownsRow w.heap.size 9 1 v (Pt.pcs s.data.toList).length ((Pt.pcs s.data.toList).map txV) ∧ Quiet w w' := by
  have hls : s.data.toList.length = s.size := (Lib.size_eq s).symm
  obtain ⟨i0, hi, hz0, hz1, hz2⟩ := info_parts info_str
  go_enter Tryd.func71, Tryd.ntmps71
  go_wp2
  go_loopw [3, 4, 5] (fun ov fv kv wr => ∃ (v : Value) (fr k : Nat) (acc : List (List UInt8)), v = ov ∧ fv = .int .i64 (fr : Int) ∧ kv = .int .i64 (k : Int) ∧ k ≤ s.size + 1 ∧ fr ≤ k ∧ Hid (Pt.pcsTo s.data.toList fr k acc) ∧ wr.ownsRow w.heap.size 9 1 v acc.length (acc.map txV) ∧ Below w.heap.size w wr) (fun _ _ kv _ => s.size + 1 - (intOf kv).toNat)
  case atStart => exact ⟨_, 0, 0, [], rfl, rfl, rfl, by omega, by omega, .inl ⟨Nat.zero_le _, Nat.le_refl _, rfl, by simp⟩, World.ownsRow_nil _ _ _ _, Below.refl _ _⟩
  case round =>
    obtain ⟨v, fr, k, acc, rfl, rfl, rfl, hk, hfk, hto, how, hB⟩ := hrel
    have hal := Pt.pcsTo_len hto.out
    rw [hls] at hal
    by_cases hle : k ≤ s.size
    · have hk0 : (0 : Int) ≤ (k : Int) := by omega
      have hf0 : (0 : Int) ≤ (fr : Int) := by omega
      have hfk' : (fr : Int) ≤ (k : Int) := by omega
      have hks : (k : Int) ≤ (s.size : Int) := by omega
      have hsz := hB.size
      have hex : Hid ((s.extract fr k).data.toList = (s.data.toList.drop fr).take (k - fr)) := Lib.extract_data s fr k
      have HROW : Hid (∀ (acc' : List (List UInt8)) (g cap : Nat) (w1 : World), acc' = acc ++ [(s.data.toList.drop fr).take (k - fr)] → w1.ownsRow w.heap.size 9 1 (.slice (some ⟨g, 0, none⟩) (acc.length + 1) cap) (acc.length + 1) (acc.map txV ++ [.string (s.extract fr k)]) →
          w1.ownsRow w.heap.size 9 1 (.slice (some ⟨g, 0, none⟩) (acc.length + 1) cap) acc'.length (acc'.map txV)) := fun acc' g cap w1 e h => by
        subst e
        rw [List.length_append, List.length_singleton, List.map_append, List.map_singleton, ← hex.out, txV_data]
        exact h
      have HW := Lib.hid (And.intro how hB)
      by_cases hend : k = s.size
      · subst hend
        obtain ⟨X, hX⟩ : ∃ X, s.extract fr s.size = X := ⟨_, rfl⟩
        rw [hX] at HROW
        have HE : Hid (Pt.pcsTo s.data.toList (s.size + 1) (s.size + 1) (acc ++ [(s.data.toList.drop fr).take (s.size - fr)])) := by
          have := Pt.pcsTo_end (l := s.data.toList) (fr := fr) (acc := acc) (by rw [hls]; exact hto.out)
          rw [hls] at this
          exact this
        clear hto hB hex
        go_wp2_with (at_builtin; refine wpList_append_own _ rfl _ _ 46 rfl w.heap.size 9 i0 (.string ⟨#[]⟩) 1 16 Tryd.underlying46 hi hz0 hz1 hz2 rfl (by decide) v acc.length _ rfl (HW.out.1.alloc _) ⟨wr.heap.size, 0, none⟩ 1 1 [.string X] rfl rfl (cell_one_new _ _ _) (by simp [Value.oneCell']) (by unfold maxLen; omega) (by omega) (by simp; omega) ?_; intro v' w1 hown' hgrow _; obtain ⟨g, cap, rfl, hrow, hbl⟩ := row_more HW.out.1 hsz hown' hgrow; have HH := Lib.hid (And.intro hrow hbl); clear hown' hgrow hrow hbl)
        go_roundw
        case rel => exact ⟨_, s.size + 1, s.size + 1, _, rfl, by go_num, by go_num, by omega, Nat.le_refl _, HE, HROW.out _ g cap _ rfl HH.out.1, HW.out.2.trans HH.out.2⟩
        case measure => simp [intOf]
      · obtain ⟨X, hX⟩ : ∃ X, s.extract fr k = X := ⟨_, rfl⟩
        rw [hX] at HROW
        clear hex
        have hlt : k < s.size := by omega
        have hkk : ((k : Int) == (s.size : Int)) = false := by rw [beq_eq_false_iff_ne]; omega
        have hk1 : (k : Int) < (s.size : Int) := by omega
        have hx := at_get hlt
        have hll : k < s.data.toList.length := by omega
        have hxe : s.data.toList[k]? = some 47 ↔ Pt.at' s.data.toList k = 47 := by
          unfold Pt.at'
          rw [List.getD, List.getElem?_eq_getElem hll]
          constructor
          · intro h
            rw [Option.some.inj h]; rfl
          · intro h
            congr 1
            exact UInt8.toNat_inj.1 h
        have HHIT := Lib.hid (fun h => Pt.pcsTo_hit hto.out hll (hxe.2 h))
        have HMIS := Lib.hid (fun (h : ¬ Pt.at' s.data.toList k = 47) => Pt.pcsTo_miss hto.out hll (fun e => h (hxe.1 e)))
        clear hxe hll
        generalize Pt.at' s.data.toList k = d at *
        by_cases hd : d = 47
        · have hdi : (d : Int) = 47 := by omega
          have HE := Lib.hid (HHIT.out hd)
          clear HHIT HMIS hto hB
          go_wp2_with (at_builtin; refine wpList_append_own _ rfl _ _ 46 rfl w.heap.size 9 i0 (.string ⟨#[]⟩) 1 16 Tryd.underlying46 hi hz0 hz1 hz2 rfl (by decide) v acc.length _ rfl (HW.out.1.alloc _) ⟨wr.heap.size, 0, none⟩ 1 1 [.string X] rfl rfl (cell_one_new _ _ _) (by simp [Value.oneCell']) (by unfold maxLen; omega) (by omega) (by simp; omega) ?_; intro v' w1 hown' hgrow _; obtain ⟨g, cap, rfl, hrow, hbl⟩ := row_more HW.out.1 hsz hown' hgrow; have HH := Lib.hid (And.intro hrow hbl); clear hown' hgrow hrow hbl)
          go_roundw
          case rel => exact ⟨_, k + 1, k + 1, _, rfl, by go_num, by go_num, by omega, Nat.le_refl _, HE, HROW.out _ g cap _ rfl HH.out.1, HW.out.2.trans HH.out.2⟩
          case measure => simp [intOf]; omega
        · have hdi : ((d : Int) == 47) = false := by rw [beq_eq_false_iff_ne]; omega
          have HE := Lib.hid (HMIS.out hd)
          clear HHIT HMIS hto hB hd HROW
          go_wp2
          go_roundw
          case rel => exact ⟨v, fr, k + 1, acc, rfl, rfl, by go_num, by omega, by omega, HE, HW.out.1, HW.out.2⟩
          case measure => simp [intOf]; omega
    · have hE : acc = Pt.pcs s.data.toList := by
        rcases hto.out with ⟨h1, _⟩ | ⟨_, h2⟩
        · omega
        · exact h2
      subst hE
      have HW := Lib.hid (And.intro how hB)
      clear how hB hto
      go_wp2
      go_ret
      exact ⟨v, rfl, HW.out.1, quiet_below HW.out.2⟩

end Go.Proofs.YtikkfmmdgicigaaDoor
