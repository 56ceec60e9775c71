/- (*Hasher).take: bytes are taken. Conditions: what is taken in all is below 2^40 bytes. -/
import Derived.Test.YtgdnmbchhfbjoaaDoorGMem
import Derived.Test.YtgdnmbchhfbjoaaDoorHOut
namespace Go.Proofs.YtgdnmbchhfbjoaaDoor
open Go.RowKit

/-- A Hasher's cells. -/
def hcells (s : Sh.V8) (r : List UInt8) (n : Nat) : List Value := hscells s ++ (r.map byteV ++ [.int .i64 n])

theorem hcells_len {s : Sh.V8} {r : List UInt8} {n : Nat} (h : r.length = 64) : (hcells s r n).length = 73 := by
  simp [hcells, hscells, Sh.V8.list, h]
theorem hcells_state {s : Sh.V8} {r : List UInt8} {n j : Nat} {v : Value} (h : (hscells s)[j]? = some v) : (hcells s r n)[j]? = some v := by
  unfold hcells
  rw [List.getElem?_append_left (List.getElem?_eq_some_iff.1 h).1]
  exact h
theorem hcells_rest {s : Sh.V8} {r : List UInt8} {n j : Nat} (h : j < r.length) : (hcells s r n)[8 + j]? = some (byteV (r.getD j 0)) := by
  unfold hcells
  have e : (hscells s).length = 8 := rfl
  rw [List.getElem?_append_right (by omega), e, show 8 + j - 8 = j by omega, List.getElem?_append_left (by simpa using h)]
  simp [h]
theorem hcells_num {s : Sh.V8} {r : List UInt8} {n : Nat} (h : r.length = 64) : (hcells s r n)[72]? = some (.int .i64 n) := by
  unfold hcells
  have e : (hscells s).length = 8 := rfl
  rw [List.getElem?_append_right (by omega), e, List.getElem?_append_right (by simp [h])]
  simp [h]

/-- What a Hasher holds to which m was written. -/
structure Took (m : List UInt8) (s : Sh.V8) (r : List UInt8) : Prop where
  len : r.length = 64
  state : s = Sh.after m (m.length / 64)
  rest : r.take (m.length % 64) = m.drop (64 * (m.length / 64))

theorem splice_right {α : Type} (A B : List α) (i j : Nat) (cs : List α) (h : j = A.length + i) : splice (A ++ B) j cs = A ++ splice B i cs := by
  subst h
  unfold splice
  rw [List.take_append, List.drop_append]
  have e1 : A.take (A.length + i) = A := List.take_of_length_le (by omega)
  have e2 : A.drop (A.length + i + cs.length) = [] := List.drop_eq_nil_of_le (by omega)
  rw [e1, e2, show A.length + i - A.length = i by omega, show A.length + i + cs.length - A.length = i + cs.length by omega]
  simp
theorem splice_left {α : Type} (A B : List α) (i : Nat) (cs : List α) (h : i + cs.length ≤ A.length) : splice (A ++ B) i cs = splice A i cs ++ B := by
  unfold splice
  rw [List.take_append, List.drop_append, show i - A.length = 0 by omega, show i + cs.length - A.length = 0 by omega]
  simp
theorem splice_map {α β : Type} (f : α → β) (A : List α) (i : Nat) (cs : List α) : splice (A.map f) i (cs.map f) = (splice A i cs).map f := by
  unfold splice
  simp
theorem splice_zero {α : Type} (A cs : List α) (h : cs.length = A.length) : splice A 0 cs = cs := by
  unfold splice
  simp [h]

theorem hash_state (pre post : List Value) (s s' : Sh.V8) (r : List UInt8) (n o : Nat) (ho : pre.length = o) : splice (pre ++ (hcells s r n ++ post)) o (hscells s') = pre ++ (hcells s' r n ++ post) := by
  rw [splice_right pre _ 0 o _ (by omega), splice_left _ _ _ _ (by simp [hcells, hscells, Sh.V8.list])]
  unfold hcells
  rw [splice_left _ _ _ _ (by simp [hscells, Sh.V8.list]), splice_zero _ _ (by simp [hscells, Sh.V8.list])]
theorem hash_rest (pre post : List Value) (s : Sh.V8) (r y : List UInt8) (n o z : Nat) (ho : pre.length = o) (hr : r.length = 64) (hz : z + y.length ≤ 64) : splice (pre ++ (hcells s r n ++ post)) (o + 8 + z) (y.map byteV) = pre ++ (hcells s (splice r z y) n ++ post) := by
  have h8 : (hscells s).length = 8 := rfl
  rw [splice_right pre _ (8 + z) _ _ (by omega), splice_left _ _ _ _ (by rw [hcells_len hr]; simp; omega)]
  unfold hcells
  rw [splice_right _ _ z _ _ (by omega), splice_left _ _ _ _ (by simp; omega), splice_map]
theorem hash_num (pre post : List Value) (s : Sh.V8) (r : List UInt8) (n n' o : Nat) (ho : pre.length = o) (hr : r.length = 64) : (pre ++ (hcells s r n ++ post)).set (o + 72) (.int .i64 n') = pre ++ (hcells s r n' ++ post) := by
  have h8 : (hscells s).length = 8 := rfl
  rw [List.set_append_right _ _ (by omega), ho, show o + 72 - o = 72 by omega, List.set_append_left _ _ (by rw [hcells_len hr]; omega)]
  unfold hcells
  rw [List.set_append_right _ _ (by omega), h8, List.set_append_right _ _ (by simp; omega)]
  simp [hr]

theorem after_append (m y : List UInt8) : ∀ k, 64 * k ≤ m.length → Sh.after (m ++ y) k = Sh.after m k
  | 0, _ => rfl
  | k + 1, h => by
    unfold Sh.after
    rw [after_append m y k (by omega)]
    congr 1
    rw [List.drop_append_of_le_length (by omega), List.take_append_of_le_length (by simp; omega)]

theorem splice_take {α : Type} (r y : List α) (z : Nat) (h : z + y.length ≤ r.length) : (splice r z y).take (z + y.length) = r.take z ++ y := by
  unfold splice
  rw [← List.append_assoc, List.take_append_of_le_length (by simp; omega)]
  exact List.take_of_length_le (by simp; omega)

theorem Took.less {m y : List UInt8} {s : Sh.V8} {r : List UInt8} (h : Took m s r) (hy : m.length % 64 + y.length < 64) : Took (m ++ y) s (splice r (m.length % 64) y) := by
  have e1 : (m ++ y).length / 64 = m.length / 64 := by simp; omega
  have e2 : (m ++ y).length % 64 = m.length % 64 + y.length := by simp; omega
  refine ⟨?_, ?_, ?_⟩
  · rw [length_splice _ _ _ (by rw [h.len]; omega)]; exact h.len
  · rw [e1, after_append _ _ _ (by omega)]; exact h.state
  · rw [e1, e2, splice_take _ _ _ (by rw [h.len]; omega), h.rest, List.drop_append_of_le_length (by omega)]

theorem Took.full {m y : List UInt8} {s : Sh.V8} {r : List UInt8} (h : Took m s r) (hy : m.length % 64 + y.length = 64) : Took (m ++ y) (Sh.compress s (splice r (m.length % 64) y)) (splice r (m.length % 64) y) := by
  have e1 : (m ++ y).length / 64 = m.length / 64 + 1 := by simp; omega
  have e2 : (m ++ y).length % 64 = 0 := by simp; omega
  have hl : (splice r (m.length % 64) y).length = 64 := by rw [length_splice _ _ _ (by rw [h.len]; omega)]; exact h.len
  refine ⟨hl, ?_, ?_⟩
  · rw [e1]
    unfold Sh.after
    rw [after_append _ _ _ (by omega), ← h.state]
    congr 1
    rw [List.drop_append_of_le_length (by omega), ← h.rest, ← splice_take _ _ _ (by rw [h.len]; omega), hy]
    simp only [List.take_take, Nat.min_self]
    rw [List.take_of_length_le (by omega)]
  · rw [e1, e2]
    rw [List.drop_eq_nil_of_le (by simp; omega)]
    simp

/-- A Hasher at place o of block b, to which m was written. -/
structure HashAt (w : World) (b o : Nat) (pre post : List Value) (ty : TypeId) (m : List UInt8) (s : Sh.V8) (r : List UInt8) : Prop where
  blk : Blk w b (pre ++ (hcells s r m.length ++ post)) ty
  off : pre.length = o
  took : Took m s r

theorem bytes_drop {w w' : World} {S : Nat → Prop} {ad ad' : Addr} {c k b : Nat} {x : List UInt8} (hsrc : ∀ j u, x[j]? = some u → w.cell? (ad.add j) = some (byteV u)) (hS : S ad.block) (hlt : ad.block < w.heap.size) (hne : ad.block ≠ b) (ho : Only (fun k => k = b) w w') (hc : x.length ≤ c) (had : ad' = if c = k then ad else ad.add k) :
    BytesAt w' S (.slice (some ad') (x.length - k) (c - k)) (x.drop k) := by
  have hb : ad'.block = ad.block := by
    subst had
    split
    · rfl
    · exact add_block _ _
  refine .inr ⟨ad', c - k, by rw [List.length_drop], by rw [List.length_drop]; omega, fun _ => by rw [hb]; exact hS, fun j u hu => ?_⟩
  rw [List.getElem?_drop] at hu
  have hj := (List.getElem?_eq_some_iff.1 hu).1
  have e : ad' = ad.add k := by rw [had, if_neg (by omega)]
  rw [World.cell?_of_block (w := w) (by rw [add_block, hb]; exact ho.block _ hlt hne), e, add_add]
  exact hsrc _ u hu

theorem advance {bs d x : List UInt8} {k : Nat} (h1 : d.length ≤ bs.length) (h2 : bs.take d.length = d) (hx : bs.drop d.length = x) (hk : k ≤ x.length) :
    (d ++ x.take k).length ≤ bs.length ∧ bs.take (d ++ x.take k).length = d ++ x.take k ∧ bs.drop (d ++ x.take k).length = x.drop k := by
  have hl : (d ++ x.take k).length = d.length + k := by simp; omega
  have hxl : x.length = bs.length - d.length := by rw [← hx]; simp
  rw [hl]
  refine ⟨by omega, ?_, ?_⟩
  · rw [List.take_add, h2, hx]
  · rw [← List.drop_drop, hx]

set_option maxRecDepth 100000 in
set_option maxHeartbeats 1000000 in
theorem take_any {w : World} {b o : Nat} {pre post : List Value} {ty : TypeId} {m : List UInt8} {s : Sh.V8} {r : List UInt8} (h : HashAt w b o pre post ty m s r) {S : Nat → Prop} {v : Value} {bs : List UInt8} (hv : BytesAt w S v bs) (hS : ∀ k, S k → k < w.heap.size ∧ k ≠ b) (hlen : m.length + bs.length ≤ 1099511627776) (ht : Tab w) (h1 : b ≠ 1) :
    Calls Tryd.prog 66 #[.pointer (some ⟨b, o, none⟩), v] w fun e w' => e = .returned (.tuple #[]) ∧ (∃ s' r', HashAt w' b o pre post ty (m ++ bs) s' r') ∧ Only (fun k => k = b) w w' := by
  have H := Lib.hid h; have HV := Lib.hid hv; have HS := Lib.hid hS; have HL := Lib.hid hlen; have HT := Lib.hid ht
  clear h hv hS hlen ht
  go_enter Tryd.func66, Tryd.ntmps66
  go_wp2
  go_loopw [1] (fun pv wr => ∃ (d : List UInt8) (s' : Sh.V8) (r' : List UInt8), d.length ≤ bs.length ∧ bs.take d.length = d ∧ BytesAt wr S pv (bs.drop d.length) ∧ HashAt wr b o pre post ty (m ++ d) s' r' ∧ Only (fun k => k = b) w wr) (fun pv _ => match pv with | .slice _ n _ => n | _ => 0)
  case atStart => 
    refine ⟨[], s, r, by simp, by simp, by simpa using HV.out, by simpa using H.out, Only.refl _ _⟩
  case round =>
    obtain ⟨d, s', r', hd1, hd2, hpv, hh, ho⟩ := hrel
    generalize hx : bs.drop d.length = x at *
    obtain ⟨va, vc, rfl⟩ := hpv.shape
    by_cases hx0 : 0 < x.length
    · have hx1 : x ≠ [] := by rintro rfl; simp at hx0
      obtain ⟨ad, rfl, hcap, hSad, hsrc⟩ : ∃ ad, va = some ad ∧ x.length ≤ vc ∧ S ad.block ∧ ∀ j u, x[j]? = some u → wr.cell? (ad.add j) = some (byteV u) := by
        rcases hpv with ⟨_, e⟩ | ⟨ad, c, e, hc, h2, h3⟩
        · exact absurd e hx1
        · obtain ⟨e1, _, e3⟩ := Value.slice.inj e
          subst e1 e3
          exact ⟨ad, rfl, hc, h2 hx1, h3⟩
      obtain ⟨q, hq⟩ : ∃ q, (m ++ d).length = q := ⟨_, rfl⟩
      have hq40 : q + x.length ≤ 1099511627776 := by
        have := HL.out
        rw [← hq, ← hx]
        simp
        omega
      have hbk := hh.blk
      rw [hq] at hbk
      have hoff := hh.off
      have htk := hh.took
      have cn : wr.cell? ⟨b, o + 72, none⟩ = some (.int .i64 (q : Nat)) := by
        rw [hbk.cell, List.getElem?_append_right (by omega), hoff, show o + 72 - o = 72 by omega, List.getElem?_append_left (by rw [hcells_len htk.len]; omega)]
        exact hcells_num htk.len
      obtain ⟨z, hz⟩ : ∃ z, q % 64 = z := ⟨_, rfl⟩
      have hz64 : z < 64 := by omega
      obtain ⟨k, hk⟩ : ∃ k, Nat.min x.length (64 - z) = k := ⟨_, rfl⟩
      have hkx : k ≤ x.length := by rw [← hk]; exact Nat.min_le_left _ _
      have hkz : k ≤ 64 - z := by rw [← hk]; exact Nat.min_le_right _ _
      have hk0 : 0 < k := by rw [← hk]; exact Nat.lt_min.2 ⟨hx0, by omega⟩
      have hrem : ((q : Nat) : Int).tmod 64 = ((z : Nat) : Int) := by
        rw [Int.tmod_eq_emod_of_nonneg (by omega)]; omega
      have hne : ¬ 64 = z := by omega
      have hzi : (z : Int) ≤ 64 := by omega
      have hz0 : (0 : Int) ≤ (z : Int) := by omega
      have HO := Lib.hid ho
      have HTK := Lib.hid htk
      have HD1 := Lib.hid hd1; have HD2 := Lib.hid hd2; have HX := Lib.hid hx; have HQ := Lib.hid hq; have HZ := Lib.hid hz
      clear hh hpv ho hx hd1 hd2 hz
      go_wp2
      go_still_tail 10, (by kernel_rfl)
      change wpList _ _ _ _ _ wr.drew
      have HFIT : o + 8 + z + ((x.take k).map byteV).length ≤ (pre ++ (hcells s' r' q ++ post)).length := by
        simp [hcells_len htk.len]; omega
      have HN : ((x.take k).map byteV).length = Nat.min x.length (64 - z) := by rw [hk]; simp; omega
      refine wpList_copy_own rfl (.tmp 16) (.tmp 17) 23 23 rfl 5 Tryd.underlying23 size_u8 b (o + 8 + z) (64 - z) (64 - z) ad x.length vc rfl rfl _ ty hbk.drew.heap ((x.take k).map byteV) HN (by
        intro j u hu
        rw [List.getElem?_map, Option.map_eq_some_iff] at hu
        obtain ⟨c, hc, rfl⟩ := hu
        rw [List.getElem?_take] at hc
        split at hc
        · exact hsrc j c hc
        · cases hc) (by simpa using HFIT) (by
        intro u hu
        obtain ⟨c, _, rfl⟩ := List.mem_map.1 hu
        rfl) ?_
      have hkl : ((x.take k).map byteV).length = k := by simp; omega
      generalize hw6 : (wr.drew.setRow b _) = w6
      have hb6 : Blk w6 b (pre ++ (hcells s' (splice r' z (x.take k)) q ++ post)) ty := by
        rw [← hash_rest pre post s' r' (x.take k) q o z hoff htk.len (by simp; omega), ← hw6]
        have := hbk.drew.row (splice (pre ++ (hcells s' r' q ++ post)) (o + 8 + z) ((x.take k).map byteV))
        simpa [splice] using this
      have ho6 : Only (fun k => k = b) wr w6 := by
        rw [← hw6]
        exact (Only.drew.mono (fun _ _ x => x.elim)).trans (Only.setRow b _)
      rw [hkl]
      have hyl : (x.take k).length = k := by simp; omega
      have hrr : (splice r' z (x.take k)).length = 64 := by rw [length_splice _ _ _ (by rw [htk.len, hyl]; omega)]; exact htk.len
      have c6 : w6.cell? ⟨b, o + 72, none⟩ = some (.int .i64 (q : Int)) := by
        rw [hb6.cell, List.getElem?_append_right (by omega), hoff, show o + 72 - o = 72 by omega, List.getElem?_append_left (by rw [hcells_len hrr]; omega)]
        exact hcells_num hrr
      have f6 := hb6.frozen (o + 72)
      have hb7 : Blk (w6.setCell ⟨b, o + 72, none⟩ (.int .i64 ((q : Int) + (k : Int)))) b (pre ++ (hcells s' (splice r' z (x.take k)) (q + k) ++ post)) ty := by
        have := hb6.set (o + 72) (.int .i64 ((q + k : Nat) : Int))
        rw [hash_num _ _ _ _ _ _ _ hoff hrr] at this
        exact this
      have ho7 : Only (fun k => k = b) wr (w6.setCell ⟨b, o + 72, none⟩ (.int .i64 ((q : Int) + (k : Int)))) := ho6.trans (Only.setCell ⟨b, o + 72, none⟩ _)
      obtain ⟨ad', had, hsl⟩ : ∃ ad' : Addr, (ad' = if vc = k then ad else ad.add k) ∧ ∀ w : World, (Instr.slice 23 (.slice (some ad) x.length vc) (some (.int .i64 (k : Int))) none none).run Tryd.prog w = .ok (.slice (some ad') (x.length - k) (vc - k)) w := by
        refine ⟨_, rfl, fun w => ?_⟩
        rw [run_slice_l (ht := by kernel_rfl) (h0 := by omega) (h1 := by omega)]
        have hsz : (sizeOf (Tryd.prog.elem 23)).run Tryd.prog w = .ok 1 w := by kernel_rfl
        rw [hsz]
        by_cases e : vc = k
        · simp [Result.andThen, sliced, e]
        · simp [Result.andThen, sliced, e]
      have HB7 := Lib.hid hb7; have HO7 := Lib.hid ho7; have HAD := Lib.hid had; have HSRC := Lib.hid hsrc; have HYL := Lib.hid hyl; have HRR := Lib.hid hrr
      have hqi : (q : Int) + (k : Int) ≤ 1099511627776 := by omega
      have hqi0 : 0 ≤ (q : Int) + (k : Int) := by omega
      have HSAD := Lib.hid hSad
      have HADV := Lib.hid (advance HD1.out HD2.out HX.out hkx)
      have hmS := HS.out _ hSad
      clear hk hkl hb6 ho6 hw6 HFIT HN hbk cn hsrc htk hrem hne hyl hrr hb7 ho7 had hq hx1 hSad
      by_cases hfull : z + k = 64
      · have hqz : ((q : Int) + (k : Int)) % 64 = 0 := by have := HZ.out; omega
        have hr7 : (w6.setCell ⟨b, o + 72, none⟩ (.int .i64 ((q : Int) + (k : Int)))).drew.rangeAt b (o + 8) ((splice r' z (x.take k)).map byteV) := by
          refine HB7.out.drew.range fun j v hv => ?_
          have hj : j < 64 := by
            have := (List.getElem?_eq_some_iff.1 hv).1
            rw [List.length_map, HRR.out] at this
            exact this
          have hrl := HRR.out
          rw [List.getElem?_append_right (by omega), hoff, show o + 8 + j - o = 8 + j by omega, List.getElem?_append_left (by rw [hcells_len hrl]; omega), hcells_rest (by omega), ← hv, List.getElem?_map, List.getElem?_eq_getElem (by omega)]
          simp [show j < (splice r' z (x.take k)).length by omega]
        have hmix := mix_any (s := s') HB7.out.drew (o := o) (fun j v hv => by
          have hj := (List.getElem?_eq_some_iff.1 hv).1
          have h8 : (hscells s').length = 8 := rfl
          rw [List.getElem?_append_right (by omega), hoff, show o + j - o = j by omega, List.getElem?_append_left (by rw [hcells_len HRR.out]; omega)]
          exact hcells_state hv) hr7 HRR.out (((HT.out.only HO.out (Ne.symm h1)).only HO7.out (Ne.symm h1)).only Only.drew (fun x => x))
        rw [hash_state _ _ _ _ _ _ _ hoff] at hmix
        have HMIX := Lib.hid hmix
        clear hr7 hmix
        go_wp2
        go_still_tail 6, (by kernel_rfl)
        change wpList _ _ _ _ _ (World.drew _)
        go_wp2_with (go_at_call 74; refine HMIX.out.mono ?_; rintro e w9 ⟨rfl, hb9, ho9⟩; have HB9 := Lib.hid hb9; have HO9 := Lib.hid ho9; clear hb9 ho9)
        have hw9 : Only (fun k => k = b) wr w9 := (HO7.out.trans (Only.drew.mono (fun _ _ x => x.elim))).trans HO9.out
        refine ⟨⟨d ++ x.take k, Sh.compress s' (splice r' z (x.take k)), splice r' z (x.take k), HADV.out.1, HADV.out.2.1, ?_, ?_, HO.out.trans hw9⟩, by simp; omega⟩
        · rw [HADV.out.2.2]
          exact bytes_drop HSRC.out HSAD.out (by have := HO.out.size; omega) hmS.2 hw9 hcap HAD.out
        · rw [← List.append_assoc]
          have htk := HTK.out.full (y := x.take k) (by rw [HYL.out, HQ.out, HZ.out]; omega)
          rw [HQ.out, HZ.out] at htk
          refine ⟨?_, hoff, htk⟩
          rw [List.length_append, HQ.out, HYL.out]
          exact HB9.out
      · have hqz : ((((q : Int) + (k : Int)) % 64) == 0) = false := by have := HZ.out; simp; omega
        go_wp2
        refine ⟨⟨d ++ x.take k, s', splice r' z (x.take k), HADV.out.1, HADV.out.2.1, ?_, ?_, HO.out.trans HO7.out⟩, by simp; omega⟩
        · rw [HADV.out.2.2]
          exact bytes_drop HSRC.out HSAD.out (by have := HO.out.size; omega) hmS.2 HO7.out hcap HAD.out
        · rw [← List.append_assoc]
          have htk := HTK.out.less (y := x.take k) (by rw [HYL.out, HQ.out, HZ.out]; omega)
          rw [HQ.out, HZ.out] at htk
          refine ⟨?_, hoff, htk⟩
          rw [List.length_append, HQ.out, HYL.out]
          exact HB7.out
    · have hx00 : x = [] := List.eq_nil_of_length_eq_zero (by omega)
      have hdl : d.length = bs.length := by
        rw [hx00] at hx
        have := List.drop_eq_nil_iff.1 hx
        omega
      have hd : d = bs := by rw [← hd2, hdl, List.take_length]
      subst hd
      have HH := Lib.hid hh; have HO := Lib.hid ho
      clear hh ho hpv hx00 hdl hd2 hx
      go_wp2
      go_end0
      exact ⟨rfl, ⟨s', r', HH.out⟩, HO.out⟩

end Go.Proofs.YtgdnmbchhfbjoaaDoor
