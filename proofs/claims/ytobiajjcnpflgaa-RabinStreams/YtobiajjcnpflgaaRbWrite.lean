/- Chunker.Write, Left, End. Conditions: data within the reach. -/
import Derived.Test.YtobiajjcnpflgaaRbOwn
namespace Go.Proofs.Ytobiajjcnpflgaa
open Go.RowKit

theorem cpost_set (c : Rb.Cfg) (lv lv' : Value) : (cpost c lv).set 260 lv' = cpost c lv' := by
  unfold cpost
  rw [show (260 : Nat) = 259 + 1 from rfl, List.set_cons_succ, List.set_append_right _ _ (by rw [Rb.tab_len]; omega), Rb.tab_len]
  rfl
theorem ChAt.setLeft {w : World} {g : Nat} {c : Rb.Cfg} {r : Nat} {lv : Value} (h : ChAt w g c r lv) (lv' : Value) : ChAt (w.setCell ⟨g, 519, none⟩ lv') g c r lv' := by
  refine ⟨?_, h.top, h.d8, h.d63, h.lt, h.p64⟩
  have hb := (TakeAt.blk h).set 519 lv'
  rw [List.set_append_right _ _ (by rw [kcells_len]; omega), kcells_len, cpost_set] at hb
  exact hb
theorem ChAt.fz {w : World} {g : Nat} {c : Rb.Cfg} {r : Nat} {lv : Value} (h : ChAt w g c r lv) (j : Nat) : w.frozen? ⟨g, j, none⟩ = false := (TakeAt.blk h).frozen j
theorem ChAt.ty {w : World} {g : Nat} {c : Rb.Cfg} {r : Nat} {lv : Value} (h : ChAt w g c r lv) : IsTy w g 78 := (TakeAt.blk h).isTy

theorem left_any {w : World} {g : Nat} {c : Rb.Cfg} {r n lc : Nat} {la : Option Addr} (h : ChAt w g c r (.slice la n lc)) : Calls Try.prog 26 #[.pointer (some ⟨g, 0, none⟩)] w fun e w' => e = .returned (.int .i64 (n : Int)) ∧ w = w' := by
  have c1 := h.left
  clear h
  go_enter Try.func26, Try.ntmps26
  go_wp2
  go_ret
  exact ⟨rfl, rfl⟩

/-- Where a Write stands: vs are the chunks that have ended, q the bytes of the next one. -/
structure WrAt (w wr : World) (g : Nat) (c : Rb.Cfg) (b : Nat) (vs0 : List (Value × List UInt8)) (lv0 ov : Value) (r : Nat) (q : List UInt8) (vs : List (Value × List UInt8)) (lv : Value) : Prop where
  ch : ChAt wr g c r lv
  own : Own wr b ((lv, q) :: (vs0 ++ vs))
  out : LRow w.heap.size wr ov (vs.map (·.1))
  left : ∀ k, lv.ownBlock = some k → lv0.ownBlock = some k ∨ w.heap.size ≤ k
  only : Only (fun k => k = g ∨ lv0.ownBlock = some k) w wr

theorem WrAt.row {w wr : World} {g : Nat} {c : Rb.Cfg} {b : Nat} {vs0 : List (Value × List UInt8)} {lv0 ov : Value} {r : Nat} {q : List UInt8} {vs : List (Value × List UInt8)} {lv : Value} (h : WrAt w wr g c b vs0 lv0 ov r q vs lv) : wr.ownsRow 0 5 1 lv q.length (q.map byteV) := h.own.row _ (List.mem_cons_self ..)
theorem WrAt.shape {w wr : World} {g : Nat} {c : Rb.Cfg} {b : Nat} {vs0 : List (Value × List UInt8)} {lv0 ov : Value} {r : Nat} {q : List UInt8} {vs : List (Value × List UInt8)} {lv : Value} (h : WrAt w wr g c b vs0 lv0 ov r q vs lv) : ∃ la lc, lv = .slice la q.length lc := row_shape h.row
theorem WrAt.ne {w wr : World} {g : Nat} {c : Rb.Cfg} {b : Nat} {vs0 : List (Value × List UInt8)} {lv0 ov : Value} {r : Nat} {q : List UInt8} {vs : List (Value × List UInt8)} {lv : Value} (h : WrAt w wr g c b vs0 lv0 ov r q vs lv) : lv.ownBlock ≠ some g := fun e => by
  have := h.ch.ty.eq (row_ty h.row e)
  exact absurd this (by decide)
/-- Behind the append of a byte, ahead of its store. -/
theorem WrAt.mid {w wr w6 : World} {g : Nat} {c : Rb.Cfg} {b : Nat} {vs0 : List (Value × List UInt8)} {lv0 ov : Value} {r : Nat} {q : List UInt8} {vs : List (Value × List UInt8)} {lv : Value} {X : Obj} (h : WrAt w wr g c b vs0 lv0 ov r q vs lv) (hg : (wr.alloc X).grownBy w6 lv.ownBlock) : ChAt w6 g c r lv :=
  (h.ch.keep (Only.alloc X) (fun x => x)).keep (Only.of_grown hg) (fun e => h.ne e.symm)
theorem WrAt.byte {w wr w6 : World} {g : Nat} {c : Rb.Cfg} {b : Nat} {vs0 : List (Value × List UInt8)} {lv0 ov : Value} {r : Nat} {q : List UInt8} {vs : List (Value × List UInt8)} {lv : Value} {X : Obj} {a : Option Addr} {n k : Nat} {x : UInt8} (h : WrAt w wr g c b vs0 lv0 ov r q vs lv) (hb : b ≤ w.heap.size) (hn : n = q.length + 1)
    (hr : w6.ownsRow 0 5 1 (.slice a n k) n (q.map byteV ++ [x].map byteV)) (hg : (wr.alloc X).grownBy w6 lv.ownBlock) (hat : (Value.slice a n k).ownBlock = lv.ownBlock ∨ (Value.slice a n k).ownBlock = some (wr.alloc X).heap.size) :
    WrAt w (w6.setCell ⟨g, 519, none⟩ (.slice a n k)) g c b vs0 lv0 ov r (q ++ [x]) vs (.slice a n k) := by
  have hz := h.only.size
  have hm := h.mid hg
  have hu8 : ∀ j, some j = lv.ownBlock → IsTy (wr.alloc X) j 5 := fun j e => (row_ty h.row e.symm).keep (T := fun _ => False) (Only.alloc X) (fun x => x)
  refine ⟨hm.setLeft _, ?_, ?_, fun j hj => ?_, ?_⟩
  · have h1 := h.own.grow (Only.alloc X) hr hn (Nat.le_trans hb hz) hg hat
    exact h1.typed (Only.setCell ⟨g, 519, none⟩ _) (fun j hj => ⟨78, by rw [hj]; exact hm.ty, by decide⟩)
  · have h1 := h.out.quiet (Only.alloc X)
    have h2 := h1.keep (Only.of_grown hg) (fun j hj => ⟨5, hu8 j hj, by decide⟩)
    exact h2.keep (Only.setCell ⟨g, 519, none⟩ _) (fun j hj => ⟨78, by rw [hj]; exact hm.ty, by decide⟩)
  · rcases hat with e | e
    · exact h.left j (by rw [← e]; exact hj)
    · have e1 := Option.some.inj (hj.symm.trans e)
      rw [World.size_alloc] at e1
      exact .inr (by omega)
  · have h1 : Only (fun k => k = g ∨ lv0.ownBlock = some k) w (wr.alloc X) := h.only.andThen (S' := fun _ => False) (Only.alloc X) (fun _ _ x => x.elim)
    have h2 : Only (fun k => k = g ∨ lv0.ownBlock = some k) w w6 := h1.andThen (Only.of_grown hg) (fun j hj e => by
      rcases h.left j e.symm with e1 | e1
      · exact .inr e1
      · omega)
    exact h2.andThen (Only.setCell ⟨g, 519, none⟩ _) (fun j _ e => .inl e)
theorem WrAt.ends {w wr w8 : World} {g : Nat} {c : Rb.Cfg} {b : Nat} {vs0 : List (Value × List UInt8)} {lv0 ov : Value} {r r' : Nat} {q : List UInt8} {vs : List (Value × List UInt8)} {lv : Value} (h : WrAt w wr g c b vs0 lv0 ov r q vs lv) (hc : ChAt w8 g c r' lv) (ho : Only (fun k => k = g) wr w8) : WrAt w w8 g c b vs0 lv0 ov r' q vs lv :=
  ⟨hc, h.own.typed ho (fun j hj => ⟨78, by rw [hj]; exact h.ch.ty, by decide⟩), h.out.keep ho (fun j hj => ⟨78, by rw [hj]; exact h.ch.ty, by decide⟩), h.left, h.only.andThen ho (fun _ _ e => .inl e)⟩
theorem WrAt.mid2 {w wr w9 : World} {g : Nat} {c : Rb.Cfg} {b : Nat} {vs0 : List (Value × List UInt8)} {lv0 ov : Value} {r : Nat} {q : List UInt8} {vs : List (Value × List UInt8)} {lv : Value} {X : Obj} (h : WrAt w wr g c b vs0 lv0 ov r q vs lv) (hg : (wr.alloc X).grownBy w9 ov.ownBlock) : ChAt w9 g c r lv :=
  (h.ch.keep (Only.alloc X) (fun x => x)).keep (Only.of_grown hg) (fun e => by
    have := h.ch.ty.eq (row_ty h.out.row e.symm)
    exact absurd this (by decide))
theorem WrAt.chunk {w wr w9 : World} {g : Nat} {c : Rb.Cfg} {b : Nat} {vs0 : List (Value × List UInt8)} {lv0 ov : Value} {r : Nat} {q : List UInt8} {vs : List (Value × List UInt8)} {lv : Value} {X : Obj} {a : Option Addr} {n k : Nat} (h : WrAt w wr g c b vs0 lv0 ov r q vs lv) (hn : n = vs.length + 1)
    (hr : w9.ownsRow 0 25 1 (.slice a n k) n (vs.map (·.1) ++ [lv])) (hg : (wr.alloc X).grownBy w9 ov.ownBlock) (hat : (Value.slice a n k).ownBlock = ov.ownBlock ∨ (Value.slice a n k).ownBlock = some (wr.alloc X).heap.size) :
    WrAt w (w9.setCell ⟨g, 519, none⟩ (.slice none 0 0)) g c b vs0 lv0 (.slice a n k) r [] (vs ++ [(lv, q)]) (.slice none 0 0) := by
  have hz := h.only.size
  have hm := h.mid2 hg
  have hby : ∀ j, some j = ov.ownBlock → IsTy (wr.alloc X) j 25 := fun j e => (row_ty h.out.row e.symm).keep (T := fun _ => False) (Only.alloc X) (fun x => x)
  refine ⟨hm.setLeft _, ?_, ?_, fun j hj => (by cases hj), ?_⟩
  · have h1 := h.own.keep (T := fun _ => False) (Only.alloc X) (fun _ _ _ _ x => x)
    have h2 := h1.typed (Only.of_grown hg) (fun j hj => ⟨25, hby j hj, by decide⟩)
    have h3 := h2.typed (Only.setCell ⟨g, 519, none⟩ (.slice none 0 0)) (fun j hj => ⟨78, by rw [hj]; exact hm.ty, by decide⟩)
    refine h3.fresh.perm (List.Perm.cons _ ?_)
    rw [← List.append_assoc]
    exact (List.perm_append_singleton _ _).symm
  · have h1 : LRow w.heap.size w9 (.slice a n k) ((vs ++ [(lv, q)]).map (·.1)) := by
      rw [List.map_append]
      exact h.out.app (ys := [lv]) (Only.alloc X) hz (by simpa using hn) hr hat
    exact h1.keep (Only.setCell ⟨g, 519, none⟩ _) (fun j hj => ⟨78, by rw [hj]; exact hm.ty, by decide⟩)
  · have h1 : Only (fun k => k = g ∨ lv0.ownBlock = some k) w (wr.alloc X) := h.only.andThen (S' := fun _ => False) (Only.alloc X) (fun _ _ x => x.elim)
    have h2 : Only (fun k => k = g ∨ lv0.ownBlock = some k) w w9 := h1.andThen (Only.of_grown hg) (fun j hj e => by
      have := h.out.own j e.symm
      omega)
    exact h2.andThen (Only.setCell ⟨g, 519, none⟩ _) (fun j _ e => .inl e)

set_option maxRecDepth 100000 in
set_option maxHeartbeats 1000000 in
theorem write_any {c : Rb.Cfg} (hc : c.Ok) {w : World} {g b : Nat} {lv : Value} {q : List UInt8} {vs0 : List (Value × List UInt8)} {S : Nat → Prop} {v : Value} {ps : List (List UInt8)} (hch : ChAt w g c (c.fw q) lv) (hown : Own w b ((lv, q) :: vs0)) (hb : b ≤ w.heap.size) (hq : q.length < c.hi)
    (hp : PartsAt w S v ps) (hS : ∀ k, S k → k < w.heap.size ∧ k ≠ g ∧ lv.ownBlock ≠ some k) (hn : ps.length ≤ 1099511627775) (hlen : ps.flatten.length ≤ 1099511627775) :
    Calls Try.prog 24 #[.pointer (some ⟨g, 0, none⟩), v] w fun e w' => ∃ oa oc vs lv', e = .returned (.slice oa vs.length oc) ∧ vs.map (·.2) = (Rb.runB c.ends q ps.flatten).1 ∧ WrAt w w' g c b vs0 lv (.slice oa vs.length oc) (c.fw (Rb.runB c.ends q ps.flatten).2) (Rb.runB c.ends q ps.flatten).2 vs lv' := by
  have HC := Lib.hid hc
  have hhi := hc.hi16
  have HP := Lib.hid hp
  have HS := Lib.hid hS
  have HST : Hid (WrAt w w g c b vs0 lv (.slice none 0 0) (c.fw q) q [] lv) := ⟨hch, by simpa using hown, LRow.nil _ _, fun k hk => .inl hk, Only.refl _ _⟩
  have HSH := Lib.hid (fun D => Rb.runB_short hc D q hq)
  have HLE := Lib.hid (fun D => Rb.runB_len c.ends D q)
  obtain ⟨va, vc, rfl, hcp, -⟩ := id hp
  have HFL := Lib.hid (fun i => flatten_take_le ps i)
  have hpl : ∀ i (hi : i < ps.length), ps[i].length ≤ 1099511627775 := fun i hi => by
    have h1 := flatten_take_succ hi
    have h2 := flatten_take_le ps (i + 1)
    rw [h1, List.length_append] at h2
    omega
  have HPL := Lib.hid hpl
  clear hc hp hS hch hown hcp hq hpl
  go_enter Try.func24, Try.ntmps24
  go_wp2_with fail
  go_loopw [5, 14] (fun s5 iv wr => ∃ i : Nat, i ≤ ps.length ∧ iv = .int .i64 (i : Int) ∧ ∃ oa oc vs lv', s5 = .slice oa vs.length oc ∧ vs.map (·.2) = (Rb.runB c.ends q (ps.take i).flatten).1 ∧ WrAt w wr g c b vs0 lv (.slice oa vs.length oc) (c.fw (Rb.runB c.ends q (ps.take i).flatten).2) (Rb.runB c.ends q (ps.take i).flatten).2 vs lv') (fun _ iv _ => ps.length - (intOf iv).toNat)
  case atStart => exact ⟨0, Nat.zero_le _, rfl, none, 0, [], lv, rfl, by simp [Rb.runB_nil], by simpa [Rb.runB_nil] using HST.out⟩
  case round =>
    clear HST
    obtain ⟨i, hi, rfl, oa, oc, vs, lv1, rfl, hvs, hwr⟩ := hrel
    have HW := Lib.hid hwr
    have HVS := Lib.hid hvs
    clear hwr hvs
    by_cases hlt : i < ps.length
    · obtain ⟨ad, ua, uc, rfl, _, hcl, hby⟩ := (HP.out.only HW.out.only (fun k hk => (HS.out k hk).1) (fun k hk e => (HS.out k hk).2.elim (fun h1 h2 => e.elim h1 h2))).nth hlt
      have HBY : Hid (∀ W, Only (fun k => k = g ∨ lv.ownBlock = some k) w W → BytesAt W S (.slice ua ps[i].length uc) ps[i]) := fun W ho => by
        obtain ⟨ad', ua', uc', e1, _, e3, e4⟩ := HP.out.nth hlt
        obtain rfl := Option.some.inj e1
        have h5 : wr.cell? (ad.add i) = some (.slice ua' ps[i].length uc') := by
          rw [World.cell?_of_block (w := w) ?_]
          · exact e3
          · rw [add_block]
            have hs : S ad.block := by
              obtain ⟨a', c', e, _, hat⟩ := HP.out
              obtain ⟨rfl, _, _⟩ := Value.slice.inj e
              obtain ⟨ad2, _, f1, f2, _⟩ := hat i hlt
              obtain rfl := Option.some.inj f1
              exact f2
            exact HW.out.only.block _ (HS.out _ hs).1 (fun e => (HS.out _ hs).2.elim (fun h1 h2 => e.elim h1 h2))
        rw [hcl] at h5
        obtain ⟨rfl, _, rfl⟩ := Value.slice.inj (Option.some.inj h5)
        exact e4.only ho (fun k hk => (HS.out k hk).1) (fun k hk e => (HS.out k hk).2.elim (fun h1 h2 => e.elim h1 h2))
      have hbl := HPL.out i hlt
      have HFS := Lib.hid (flatten_take_succ hlt)
      have HF2 := Lib.hid (HFL.out (i + 1))
      rw [HFS.out, List.length_append] at HF2
      have pz : 0 ≤ (i : Int) := by omega
      have mz : (i : Int) < (ps.length : Int) := by omega
      clear hby
      generalize ps[i] = bs at *
      generalize (ps.take i).flatten = L at *
      go_wp2_with fail
      go_loopw [5, 20] (fun s5 jv wr => ∃ j : Nat, j ≤ bs.length ∧ jv = .int .i64 (j : Int) ∧ ∃ oa oc vs lv', s5 = .slice oa vs.length oc ∧ vs.map (·.2) = (Rb.runB c.ends q (L ++ bs.take j)).1 ∧ WrAt w wr g c b vs0 lv (.slice oa vs.length oc) (c.fw (Rb.runB c.ends q (L ++ bs.take j)).2) (Rb.runB c.ends q (L ++ bs.take j)).2 vs lv') (fun _ jv _ => bs.length - (intOf jv).toNat)
      case atStart => exact ⟨0, Nat.zero_le _, rfl, oa, oc, vs, lv1, rfl, by simpa using HVS.out, by simpa using HW.out⟩
      case round =>
        clear HW HVS
        obtain ⟨j, hj, rfl, oa, oc, vs, lv1, rfl, hvs, hwr⟩ := hrel
        have HW := Lib.hid hwr
        by_cases hjl : j < bs.length
        · obtain ⟨bd, rfl, hsb, hcell⟩ := (HBY.out _ hwr.only).nth hjl
          have e1 : L ++ bs.take (j + 1) = (L ++ bs.take j) ++ [bs[j]] := by rw [List.append_assoc, List.take_append_getElem hjl]
          have HYES : Hid (c.ends ((Rb.runB c.ends q (L ++ bs.take j)).2 ++ [bs[j]]) = true → Rb.runB c.ends q (L ++ bs.take j ++ [bs[j]]) = _) := Rb.runB_snoc_end
          have HNO : Hid (c.ends ((Rb.runB c.ends q (L ++ bs.take j)).2 ++ [bs[j]]) = false → Rb.runB c.ends q (L ++ bs.take j ++ [bs[j]]) = _) := Rb.runB_snoc_on
          rw [← e1] at HYES HNO
          have hsh := HSH.out (L ++ bs.take j)
          have hle := HLE.out (L ++ bs.take j)
          rw [← hvs, List.length_map] at hle
          have hvl : vs.length ≤ 1099511627775 := by
            have := HF2.out
            rw [List.length_append, List.length_take] at hle
            omega
          have HVS := Lib.hid hvs
          generalize (Rb.runB c.ends q (L ++ bs.take j)).1 = B at *
          generalize (Rb.runB c.ends q (L ++ bs.take j)).2 = q1 at *
          generalize bs[j] = x at *
          have hbh := hb
          have HB := Lib.hid hb
          obtain ⟨la, lc, rfl⟩ := hwr.shape
          have c1 := hwr.ch.left
          have HQL : Hid (q1.length < c.hi) := hsh
          have HVL := Lib.hid hvl
          have pz2 : 0 ≤ (j : Int) := by omega
          have mz2 : (j : Int) < (bs.length : Int) := by omega
          clear hwr hvs hsb e1 hle hsh hvl
          go_wp2_with (at_builtin; refine wpList_append_bytes _ rfl _ _ rfl (.slice la q1.length lc) (.slice (some ⟨wr.heap.size, 0, none⟩) 1 1) q1.length (q1.map byteV) rfl rfl (HW.out.row.alloc _) (one_byte wr x) (by have := HQL.out; simp; omega) ?_; intro a1 k1 w6 hr6 hg6 hat6; have HW7 := Lib.hid (HW.out.byte HB.out rfl hr6 hg6 hat6); have hm := HW.out.mid hg6; have c6 := hm.left; have f6 := hm.fz 519; clear hr6 hg6 hat6 hm; obtain ⟨w7, hw7⟩ : ∃ w7, w6.setCell ⟨g, 519, none⟩ (.slice a1 (q1.length + 1) k1) = w7 := ⟨_, rfl⟩; rw [hw7] at HW7; have c7 := HW7.out.ch.left)
          clear c6 f6 hw7
          have HEN := Lib.hid (ends_any (w := w7) HC.out HW7.out.ch (BytesAt.of_row HW7.out.row) (fun k hk => ⟨(HW7.out.row.lt k hk).2, fun e => HW7.out.ne (by rw [← e]; exact hk)⟩) HQL.out)
          rcases hE : c.ends (q1 ++ [x]) with _ | _
          · rw [hE, Rb.Cfg.next_on hE] at HEN
            rw [hE] at HNO
            have HR := Lib.hid (HNO.out rfl)
            clear HNO HYES c7
            refine HEN.out.mono ?_
            rintro e w8 ⟨rfl, hch, ho⟩
            have HW8 := Lib.hid (HW7.out.ends hch ho)
            clear hch ho
            go_wp2_with fail
            exact ⟨⟨j + 1, by omega, by go_num, oa, oc, vs, _, rfl, by rw [HR.out]; exact HVS.out, by rw [HR.out]; exact HW8.out⟩, by simp [intOf]; omega⟩
          · rw [hE, Rb.Cfg.next_end hE] at HEN
            rw [hE] at HYES
            have HR := Lib.hid (HYES.out rfl)
            clear HNO HYES c7
            refine HEN.out.mono ?_
            rintro e w8 ⟨rfl, hch, ho⟩
            have HW8 := Lib.hid (HW7.out.ends hch ho)
            clear hch ho
            have c8 := HW8.out.ch.left
            have HO8 : Hid ((w8.alloc (.cells #[.slice a1 (q1.length + 1) k1] 25)).ownsRow 0 25 1 (.slice oa vs.length oc) vs.length (vs.map (·.1))) := by
              have h := HW8.out.out.row.alloc (.cells #[.slice a1 (q1.length + 1) k1] 25)
              rwa [List.length_map] at h
            go_wp2_with (at_builtin; refine wpList_append_vals _ rfl _ _ rfl (.slice oa vs.length oc) (.slice (some ⟨w8.heap.size, 0, none⟩) 1 1) vs.length (vs.map (·.1)) rfl rfl HO8.out (one_val w8 _) (by intro u hu; simp only [List.mem_cons, List.not_mem_nil, or_false] at hu; subst hu; rfl) (by have := HVL.out; simp; omega) ?_; intro a2 k2 w9 hr9 hg9 hat9 _; have HW10 := Lib.hid (HW8.out.chunk rfl hr9 hg9 hat9); have hm := HW8.out.mid2 hg9; have c9 := hm.left; have f9 := hm.fz 519; clear hr9 hg9 hat9 hm)
            exact ⟨⟨j + 1, by omega, by go_num, a2, k2, vs ++ [(.slice a1 (q1.length + 1) k1, q1 ++ [x])], .slice none 0 0, by simp, by rw [HR.out, List.map_append, HVS.out]; rfl, by rw [HR.out, List.length_append]; exact HW10.out⟩, by simp [intOf]; omega⟩
        · obtain rfl : j = bs.length := by omega
          rw [List.take_length] at hvs
          rw [List.take_length] at HW
          rw [← HFS.out] at hvs HW
          have HVS := Lib.hid hvs
          clear hvs hwr
          go_wp2_with fail
          exact ⟨⟨i + 1, by omega, by go_num, oa, oc, vs, lv1, rfl, HVS.out, HW.out⟩, by simp [intOf]; omega⟩
    · obtain rfl : i = ps.length := by omega
      rw [List.take_length] at HVS HW
      go_wp2_with fail
      go_ret
      exact ⟨oa, oc, vs, lv1, rfl, HVS.out, HW.out⟩

theorem row_new (w : World) (v : Value) (t : TypeId) : (w.alloc (.cells #[v] t)).ownsRow 0 t 1 (.slice (some ⟨w.heap.size, 0, none⟩) 1 1) 1 [v] :=
  ⟨rfl, .inr ⟨w.heap.size, 1, #[v], rfl, Nat.zero_le _, heap_alloc_self _ _, Nat.le_refl _, by unfold maxLen; omega, by simp, by simp⟩⟩

set_option maxRecDepth 100000 in
theorem end_any {c : Rb.Cfg} (hc : c.Ok) {w : World} {g b : Nat} {lv : Value} {q : List UInt8} {vs0 : List (Value × List UInt8)} (hch : ChAt w g c (c.fw q) lv) (hown : Own w b ((lv, q) :: vs0)) :
    Calls Try.prog 27 #[.pointer (some ⟨g, 0, none⟩)] w fun e w' => ∃ oa oc vs lv', e = .returned (.slice oa vs.length oc) ∧ vs.map (·.2) = Rb.lastB q ∧ WrAt w w' g c b vs0 lv (.slice oa vs.length oc) (c.fw []) [] vs lv' := by
  have hrow0 : w.ownsRow 0 5 1 lv q.length (q.map byteV) := hown.row _ (List.mem_cons_self ..)
  obtain ⟨la, lc, rfl⟩ := row_shape hrow0
  clear hrow0
  have HL := Lib.hid (left_any hch)
  by_cases hq : q = []
  · subst hq
    have HST : Hid (WrAt w w g c b vs0 (.slice la ([] : List UInt8).length lc) (.slice none 0 0) (c.fw []) [] [] (.slice la ([] : List UInt8).length lc)) := ⟨hch, by simpa using hown, LRow.nil _ _, fun k hk => .inl hk, Only.refl _ _⟩
    clear hch hown
    go_enter Try.func27, Try.ntmps27
    go_wp2_with fail
    refine HL.out.mono ?_
    rintro e w1 ⟨rfl, rfl⟩
    go_wp2_with fail
    go_ret
    exact ⟨none, 0, [], _, rfl, rfl, HST.out⟩
  · have hpos := List.length_pos_iff.2 hq
    have e1 : Rb.lastB q = [q] := by unfold Rb.lastB; rw [if_neg hq]
    have h0 : ((q.length : Int) == 0) = false := by simpa using hq
    have c1 := hch.left
    have f1 := hch.fz 519
    have HC1 := Lib.hid (hch.setLeft (.slice none 0 0))
    have HR : Hid (∀ w5 r, ChAt w5 g c r (.slice none 0 0) → Calls Try.prog 41 #[.pointer (some ⟨g, 0, none⟩)] w5 fun e w' => e = .returned (.tuple #[]) ∧ ChAt w' g c (c.fw []) (.slice none 0 0) ∧ Only (fun k => k = g) w5 w') := fun w5 r h5 => by
      rw [hc.fw_nil]; exact restart_any h5
    have HTY := Lib.hid hch.ty
    have HOWN := Lib.hid hown
    have HE1 := Lib.hid e1
    clear hch hown hpos hc hq e1
    go_enter Try.func27, Try.ntmps27
    go_wp2_with fail
    refine HL.out.mono ?_
    rintro e w1 ⟨rfl, rfl⟩
    obtain ⟨w7, hw7⟩ : ∃ w7, w.setCell ⟨g, 519, none⟩ (.slice none 0 0) = w7 := ⟨_, rfl⟩
    have HO7 : Hid (Only (fun k => k = g) w w7) := by rw [← hw7]; exact Only.setCell ⟨g, 519, none⟩ _
    rw [hw7] at HC1
    go_wp2_with fail
    clear hw7 c1 f1
    refine (HR.out _ _ HC1.out).mono ?_
    rintro e w8 ⟨rfl, hch, ho⟩
    have HC8 := Lib.hid hch
    have HO8 := Lib.hid (HO7.out.trans ho)
    clear hch ho
    have HFIN : Hid (WrAt w (w8.alloc (.cells #[.slice la q.length lc] 25)) g c b vs0 (.slice la q.length lc) (.slice (some ⟨w8.heap.size, 0, none⟩) 1 1) (c.fw []) [] [(.slice la q.length lc, q)] (.slice none 0 0)) := by
      have hz := HO8.out.size
      refine ⟨HC8.out.keep (Only.alloc _) (fun x => x), ?_, ⟨row_new _ _ _, fun k hk => ?_⟩, fun j hj => (by cases hj), HO8.out.andThen (S' := fun _ => False) (Only.alloc _) (fun _ _ x => x.elim) |>.mono (fun _ _ e => .inl e)⟩
      · have h1 := (HOWN.out.typed HO8.out (fun j hj => ⟨78, by rw [hj]; exact HTY.out, by decide⟩)).keep (T := fun _ => False) (Only.alloc (.cells #[.slice la q.length lc] 25)) (fun _ _ _ _ x => x)
        exact h1.fresh.perm (List.Perm.cons _ (List.perm_append_singleton _ _).symm)
      · have : w8.heap.size = k := Option.some.inj hk
        omega
    go_wp2_with fail
    go_ret
    exact ⟨_, _, [(.slice la q.length lc, q)], _, rfl, by rw [HE1.out]; rfl, HFIN.out⟩

end Go.Proofs.Ytobiajjcnpflgaa
