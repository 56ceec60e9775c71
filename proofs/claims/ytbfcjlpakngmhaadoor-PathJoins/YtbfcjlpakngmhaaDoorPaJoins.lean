/- The law PathJoins. Conditions: texts within the reach. -/
import Derived.Test.YtbfcjlpakngmhaaDoorPaAlive
import Derived.Test.YtbfcjlpakngmhaaDoorPaRefN
import Derived.Test.YtbfcjlpakngmhaaDoorGNum
import Derived.Laws.AppendOwnNone
namespace Go.Proofs.YtbfcjlpakngmhaaDoor
open Go.RowKit

/-- append of a row of texts to one that is owned. -/
theorem wpList_append_texts (w : World) {ops : Array Oper} {rest : List Oper} {o : Oper} {a : Act} {Q : Exit → Act → World → Prop} (hgd : o.guard = none) (s x : Operand)
    (ho : o.op = .call { callee := .builtin .append, args := #[s, x], argTypes := #[25, 25] }) (base : Nat) (v vx : Value) (n : Nat) (xs : List Value) (hs : a.eval s = v) (hx : a.eval x = vx)
    (hown : w.ownsRow base 9 1 v n xs) {S : Nat → Prop} {ps : List (List UInt8)} (hsrc : TextsAt w S vx ps) (hlen : (n + ps.length) * 16 ≤ 140737488355328) (hbase : base ≤ w.heap.size)
    (h : ∀ v' w', w'.ownsRow base 9 1 v' (n + ps.length) (xs ++ ps.map txV) → w.grownBy w' v.ownBlock → wpList Tryd.prog ops Q rest (a.put o.dst v') w') : wpList Tryd.prog ops Q (o :: rest) a w := by
  obtain ⟨i0, hi, hz0, hz1, hz2⟩ := info_parts info_str
  rcases hsrc with ⟨rfl, rfl⟩ | ⟨ad, c, rfl, _, _, hcell⟩
  · refine wpList_append_own_none hgd s x 25 ho base 9 i0 1 Tryd.underlying25 hi v n xs hs hown hx (h v w ?_ (World.grownBy.refl w _))
    simpa using hown
  · refine wpList_append_own w hgd s x 25 ho base 9 i0 _ 1 16 Tryd.underlying25 hi hz0 hz1 hz2 rfl (by decide) v n xs hs hown ad ps.length c (ps.map txV) hx (by simp) (fun j u hu => ?_) (fun u hu => ?_) (by unfold maxLen; omega) hlen hbase (fun v' w' h1 h2 _ => h v' w' h1 h2)
    · rw [List.getElem?_map, Option.map_eq_some_iff] at hu
      obtain ⟨p, hp, rfl⟩ := hu
      exact hcell j p hp
    · obtain ⟨p, _, rfl⟩ := List.mem_map.1 hu
      rfl

/-- The mark behind the row. -/
def markB : ByteArray := ⟨#[109, 97, 114, 107]⟩

set_option maxRecDepth 100000 in
set_option maxHeartbeats 8000000 in
theorem pathJoins_any (s : ByteArray) {w : World} {v : Value} {ps : List (List UInt8)} (hv : TextsAt w (fun k => k < w.heap.size) v ps) (hp : (∀ p ∈ ps, p.length ≤ 140737488351232) ∧ ps.length ≤ 140737488355328) (hs : s.size ≤ 140737488351232) (hU : U8 w) :
    Calls Tryd.prog 5 #[v, .string s] w fun e w' => e = .returned (.bool true) ∧ Quiet w w' := by
  have HA := Lib.hid (alive8_any hU)
  have HV := Lib.hid hv
  have HU := Lib.hid hU
  obtain ⟨va, vc, rfl, _⟩ := hv.shape
  have HP := Lib.hid hp
  have hpl : (ps.length : Int) ≤ 140737488355328 := by have := hp.2; omega
  by_cases hbig : ps.length ≤ 3000 ∧ s.size ≤ 20000
  case neg =>
    clear hv hU hp
    by_cases h1 : ps.length ≤ 3000
    · have h2 : (s.size : Int) > 20000 := by omega
      have h3 : ¬ ((ps.length : Int) > 3000) := by omega
      clear hbig
      go_enter Tryd.func5, Tryd.ntmps5
      go_wp2_with fail
      refine HA.out.mono ?_
      rintro e w1 ⟨rfl, hq⟩
      have HQ1 := Lib.hid hq
      clear hq
      go_wp2_with fail
      go_ret
      exact ⟨rfl, HQ1.out⟩
    · have h2 : (ps.length : Int) > 3000 := by omega
      clear hbig
      go_enter Tryd.func5, Tryd.ntmps5
      go_wp2_with fail
      refine HA.out.mono ?_
      rintro e w1 ⟨rfl, hq⟩
      have HQ1 := Lib.hid hq
      clear hq
      go_wp2_with fail
      go_ret
      exact ⟨rfl, HQ1.out⟩
  case pos =>
    obtain ⟨hn2, hs2⟩ := hbig
    have k1 : ¬ ((s.size : Int) > 20000) := by omega
    have k2 : ¬ ((ps.length : Int) > 3000) := by omega
    obtain ⟨i0, hi, hz0, hz1, hz2⟩ := info_parts info_str
    have HJ : Hid (∀ W u, U8 W → TextsAt W (fun k => k < W.heap.size) u ps → Calls Tryd.prog 25 #[u] W fun e w' => e = normV (Pt.join ps) ∧ Quiet W w') := fun W u h ht => join_any h ht HP.out.1 HP.out.2
    have HJR : Hid (∀ W u, TextsAt W (fun k => k < W.heap.size) u ps → Calls Tryd.prog 26 #[u] W fun e w' => e = numV (Pt.join ps) ∧ Quiet W w') := fun W u ht => r8join_any ht HP.out.1 HP.out.2
    have HN : Hid (∀ W, U8 W → Calls Tryd.prog 27 #[.string s] W fun e w' => e = normV (Pt.normal s.data.toList) ∧ Quiet W w') := fun W h => normal_any s hs2 h
    have HNR := Lib.hid (r8normal_any s hs2)
    have HTX : Hid (∀ W u u2, TextsAt W (fun k => k < W.heap.size) u ps → TextsAt W (fun k => k < W.heap.size) u2 ps → Calls Tryd.prog 15 #[u, u2] W fun e w' => e = .returned (.bool true) ∧ Quiet W w') := fun W u u2 h1 h2 => texts_same h1 h2 (by omega)
    have HE := Lib.hid (fun W => num_err 12 W (by omega))
    have HE0 := Lib.hid num_nil
    have HMK : Hid (Value.string markB = txV [109, 97, 114, 107]) := rfl
    clear hv hU hp hs hpl
    have hb16 : i0.bytes * (ps.length + 1) ≤ 281474976710656 := by rw [hz2]; omega
    have hbm : ps.length + 1 ≤ maxLen := by unfold maxLen; omega
    have hpk : (0 : Int) ≤ (ps.length : Int) := by omega
    -- what Join and Normal answer
    have hjc : (normV (Pt.join ps) = .returned (.tuple #[.string ⟨#[]⟩, .iface 54 (.int .i64 12)]) ∧ numV (Pt.join ps) = .returned (.tuple #[.string ⟨#[]⟩, .int .i64 12])) ∨
        ∃ j : ByteArray, normV (Pt.join ps) = .returned (.tuple #[.string j, .nilIface]) ∧ numV (Pt.join ps) = .returned (.tuple #[.string j, .int .i64 0]) := by
      cases Pt.join ps with
      | none => exact .inl ⟨rfl, rfl⟩
      | some l => exact .inr ⟨⟨l.toArray⟩, rfl, rfl⟩
    have hnc : (normV (Pt.normal s.data.toList) = .returned (.tuple #[.string ⟨#[]⟩, .iface 54 (.int .i64 12)]) ∧ numV (Pt.normal s.data.toList) = .returned (.tuple #[.string ⟨#[]⟩, .int .i64 12])) ∨
        ∃ j : ByteArray, normV (Pt.normal s.data.toList) = .returned (.tuple #[.string j, .nilIface]) ∧ numV (Pt.normal s.data.toList) = .returned (.tuple #[.string j, .int .i64 0]) := by
      cases Pt.normal s.data.toList with
      | none => exact .inl ⟨rfl, rfl⟩
      | some l => exact .inr ⟨⟨l.toArray⟩, rfl, rfl⟩
    generalize normV (Pt.join ps) = JN at *
    generalize numV (Pt.join ps) = JM at *
    generalize normV (Pt.normal s.data.toList) = NN at *
    generalize numV (Pt.normal s.data.toList) = NM at *
    go_enter Tryd.func5, Tryd.ntmps5
    go_wp2_with fail
    refine HA.out.mono ?_
    rintro e w1 ⟨rfl, hq⟩
    have HU1 := Lib.hid (HU.out.quiet hq)
    have HV1 := Lib.hid (HV.out.quiet hq)
    have HQ1 := Lib.hid hq
    clear hq
    go_wp2_with (first
      | (at_make; refine wpList_make_own _ rfl _ _ 25 rfl w1.heap.size 9 i0 _ 1 Tryd.underlying25 hi hz0 hz1 .i64 .i64 _ (ps.length + 1) rfl rfl (by simp) hb16 hbm (Nat.le_refl _) ?_; intro w2 hr2 hg2; have hq2 : Quiet w1 w2 := (Only.of_grown hg2).mono (fun _ _ h => by cases h); have HR2 := Lib.hid hr2; have HT2 := Lib.hid (HV1.out.quiet hq2); have HB2 := Lib.hid (hq2.below (Nat.le_refl _) (fun _ _ x => x)); have hsz2 := hq2.size; clear hr2 hg2 hq2)
      | (at_builtin; refine wpList_append_own _ rfl _ _ 25 rfl w1.heap.size 9 i0 (.string ⟨#[]⟩) 1 16 Tryd.underlying25 hi hz0 hz1 hz2 rfl (by decide) _ ps.length _ rfl (HR3.out.alloc _) ⟨w3.heap.size, 0, none⟩ 1 1 [.string ⟨#[109, 97, 114, 107]⟩] rfl rfl (cell_one_new _ _ _) (by simp [Value.oneCell']) (by unfold maxLen; omega) (by omega) (by simp; omega) ?_; intro v' w4 hown' hgrow _; obtain ⟨g, cap, rfl, hrow, hbl⟩ := row_more HR3.out hsz3 hown' hgrow; have hcap : (ps.length : Int) + 1 ≤ (cap : Int) := (by rcases hrow.2 with ⟨h0, _⟩ | ⟨_, _, _, h1, _, _, h2, _⟩; exact absurd h0 (by simp); obtain ⟨_, _, h3⟩ := Value.slice.inj h1; omega); have hcap0 : (ps.length : Int) ≤ (cap : Int) := (by omega); have HR4 := Lib.hid hrow; have HB4 := Lib.hid (HB3.out.trans hbl); clear hown' hgrow hrow hbl)
      | (at_builtin; refine wpList_append_texts _ rfl _ _ rfl w1.heap.size _ _ 0 [] rfl rfl HR2.out HT2.out (by omega) hsz2 ?_; intro v3 w3 hr3 hg3; rw [Nat.zero_add, List.nil_append] at hr3; obtain ⟨a3, c3, rfl⟩ := own_shape hr3; have HB3 := Lib.hid (HB2.out.trans (own_below HR2.out hsz2 hg3)); have hsz3 := HB3.out.size; have HR3 := Lib.hid hr3; clear hr3 hg3))
    have hmine : w4.ownsRow w1.heap.size 9 1 (.slice (some ⟨g, 0, none⟩) (ps.length + 1) cap) (ps.length + 1) ((ps ++ [[109, 97, 114, 107]]).map txV) := by
      have := HR4.out
      rw [List.map_append, List.map_singleton, ← HMK.out]
      exact this
    have HROW : Hid (∀ W, Quiet w4 W → TextsAt W (fun k => k < W.heap.size) (.slice (some ⟨g, 0, none⟩) ps.length cap) ps ∧ W.cell? ⟨g, ps.length, none⟩ = some (.string markB)) := fun W hW => by
      have h1 := own_only hmine hW (fun _ _ x => x)
      have h2 := TextsAt.of_row h1
      constructor
      · have h3 := TextsAt.pre h2 (k := ps.length) (by simp)
        rwa [List.take_left] at h3
      · have h4 := h1.cells (g := g) rfl ps.length (.string markB) (by rw [List.map_append, List.getElem?_append_right (by simp)]; simp [HMK.out])
        rwa [add_lit, Nat.zero_add] at h4
    have hq4 : Quiet w1 w4 := quiet_below HB4.out
    have HU4 := Lib.hid (HU1.out.quiet hq4)
    have HV4 := Lib.hid (HV1.out.quiet hq4)
    have HQ4 := Lib.hid (HQ1.out.trans hq4)
    clear hmine hq4 HMK
    rcases hjc with ⟨rfl, rfl⟩ | ⟨j, rfl, rfl⟩
    · rcases hnc with ⟨rfl, rfl⟩ | ⟨n, rfl, rfl⟩
      · go_wp2_with fail
        refine (HJ.out _ _ HU4.out (HROW.out _ (Only.refl _ w4)).1).mono ?_
        rintro e w5 ⟨rfl, hq⟩
        have HU5 := Lib.hid (HU4.out.quiet hq)
        have HV5 := Lib.hid (HV4.out.quiet hq)
        have HQ5 := Lib.hid (HQ4.out.trans hq)
        have HR25 : Hid (Quiet w4 w5) := (Only.refl _ w4).trans hq
        clear hq
        go_wp2_with fail
        refine (HJR.out _ _ HV5.out).mono ?_
        rintro e w6 ⟨rfl, hq⟩
        have HU6 := Lib.hid (HU5.out.quiet hq)
        have HV6 := Lib.hid (HV5.out.quiet hq)
        have HQ6 := Lib.hid (HQ5.out.trans hq)
        have HR26 : Hid (Quiet w4 w6) := HR25.out.trans hq
        clear hq
        go_wp2_with fail
        refine (HN.out _ HU6.out).mono ?_
        rintro e w7 ⟨rfl, hq⟩
        have HU7 := Lib.hid (HU6.out.quiet hq)
        have HV7 := Lib.hid (HV6.out.quiet hq)
        have HQ7 := Lib.hid (HQ6.out.trans hq)
        have HR27 : Hid (Quiet w4 w7) := HR26.out.trans hq
        clear hq
        go_wp2_with fail
        refine (HNR.out _).mono ?_
        rintro e w8 ⟨rfl, hq⟩
        have HU8 := Lib.hid (HU7.out.quiet hq)
        have HV8 := Lib.hid (HV7.out.quiet hq)
        have HQ8 := Lib.hid (HQ7.out.trans hq)
        have HR28 : Hid (Quiet w4 w8) := HR27.out.trans hq
        clear hq
        go_wp2_with fail
        refine (HE.out _).mono ?_
        rintro e wz ⟨rfl, rfl⟩
        go_wp2_with fail
        refine (HE.out _).mono ?_
        rintro e wz ⟨rfl, rfl⟩
        go_wp2_with fail
        refine (HTX.out _ _ _ (HROW.out _ HR28.out).1 HV8.out).mono ?_
        rintro e w9 ⟨rfl, hq⟩
        have HU9 := Lib.hid (HU8.out.quiet hq)
        have HV9 := Lib.hid (HV8.out.quiet hq)
        have HQ9 := Lib.hid (HQ8.out.trans hq)
        have HR29 : Hid (Quiet w4 w9) := HR28.out.trans hq
        clear hq
        have hcm := (HROW.out _ HR29.out).2
        unfold markB at hcm
        go_wp2_with fail
        go_ret
        exact ⟨rfl, HQ9.out⟩
      · have hnn : (n.toList == n.toList) = true := by simp
        go_wp2_with fail
        refine (HJ.out _ _ HU4.out (HROW.out _ (Only.refl _ w4)).1).mono ?_
        rintro e w5 ⟨rfl, hq⟩
        have HU5 := Lib.hid (HU4.out.quiet hq)
        have HV5 := Lib.hid (HV4.out.quiet hq)
        have HQ5 := Lib.hid (HQ4.out.trans hq)
        have HR25 : Hid (Quiet w4 w5) := (Only.refl _ w4).trans hq
        clear hq
        go_wp2_with fail
        refine (HJR.out _ _ HV5.out).mono ?_
        rintro e w6 ⟨rfl, hq⟩
        have HU6 := Lib.hid (HU5.out.quiet hq)
        have HV6 := Lib.hid (HV5.out.quiet hq)
        have HQ6 := Lib.hid (HQ5.out.trans hq)
        have HR26 : Hid (Quiet w4 w6) := HR25.out.trans hq
        clear hq
        go_wp2_with fail
        refine (HN.out _ HU6.out).mono ?_
        rintro e w7 ⟨rfl, hq⟩
        have HU7 := Lib.hid (HU6.out.quiet hq)
        have HV7 := Lib.hid (HV6.out.quiet hq)
        have HQ7 := Lib.hid (HQ6.out.trans hq)
        have HR27 : Hid (Quiet w4 w7) := HR26.out.trans hq
        clear hq
        go_wp2_with fail
        refine (HNR.out _).mono ?_
        rintro e w8 ⟨rfl, hq⟩
        have HU8 := Lib.hid (HU7.out.quiet hq)
        have HV8 := Lib.hid (HV7.out.quiet hq)
        have HQ8 := Lib.hid (HQ7.out.trans hq)
        have HR28 : Hid (Quiet w4 w8) := HR27.out.trans hq
        clear hq
        go_wp2_with fail
        refine (HE.out _).mono ?_
        rintro e wz ⟨rfl, rfl⟩
        go_wp2_with fail
        refine (HE0.out _).mono ?_
        rintro e wz ⟨rfl, rfl⟩
        go_wp2_with fail
        refine (HTX.out _ _ _ (HROW.out _ HR28.out).1 HV8.out).mono ?_
        rintro e w9 ⟨rfl, hq⟩
        have HU9 := Lib.hid (HU8.out.quiet hq)
        have HV9 := Lib.hid (HV8.out.quiet hq)
        have HQ9 := Lib.hid (HQ8.out.trans hq)
        have HR29 : Hid (Quiet w4 w9) := HR28.out.trans hq
        clear hq
        have hcm := (HROW.out _ HR29.out).2
        unfold markB at hcm
        go_wp2_with fail
        go_ret
        exact ⟨rfl, HQ9.out⟩
    · have hjj : (j.toList == j.toList) = true := by simp
      rcases hnc with ⟨rfl, rfl⟩ | ⟨n, rfl, rfl⟩
      · go_wp2_with fail
        refine (HJ.out _ _ HU4.out (HROW.out _ (Only.refl _ w4)).1).mono ?_
        rintro e w5 ⟨rfl, hq⟩
        have HU5 := Lib.hid (HU4.out.quiet hq)
        have HV5 := Lib.hid (HV4.out.quiet hq)
        have HQ5 := Lib.hid (HQ4.out.trans hq)
        have HR25 : Hid (Quiet w4 w5) := (Only.refl _ w4).trans hq
        clear hq
        go_wp2_with fail
        refine (HJR.out _ _ HV5.out).mono ?_
        rintro e w6 ⟨rfl, hq⟩
        have HU6 := Lib.hid (HU5.out.quiet hq)
        have HV6 := Lib.hid (HV5.out.quiet hq)
        have HQ6 := Lib.hid (HQ5.out.trans hq)
        have HR26 : Hid (Quiet w4 w6) := HR25.out.trans hq
        clear hq
        go_wp2_with fail
        refine (HN.out _ HU6.out).mono ?_
        rintro e w7 ⟨rfl, hq⟩
        have HU7 := Lib.hid (HU6.out.quiet hq)
        have HV7 := Lib.hid (HV6.out.quiet hq)
        have HQ7 := Lib.hid (HQ6.out.trans hq)
        have HR27 : Hid (Quiet w4 w7) := HR26.out.trans hq
        clear hq
        go_wp2_with fail
        refine (HNR.out _).mono ?_
        rintro e w8 ⟨rfl, hq⟩
        have HU8 := Lib.hid (HU7.out.quiet hq)
        have HV8 := Lib.hid (HV7.out.quiet hq)
        have HQ8 := Lib.hid (HQ7.out.trans hq)
        have HR28 : Hid (Quiet w4 w8) := HR27.out.trans hq
        clear hq
        go_wp2_with fail
        refine (HE0.out _).mono ?_
        rintro e wz ⟨rfl, rfl⟩
        go_wp2_with fail
        refine (HE.out _).mono ?_
        rintro e wz ⟨rfl, rfl⟩
        go_wp2_with fail
        refine (HTX.out _ _ _ (HROW.out _ HR28.out).1 HV8.out).mono ?_
        rintro e w9 ⟨rfl, hq⟩
        have HU9 := Lib.hid (HU8.out.quiet hq)
        have HV9 := Lib.hid (HV8.out.quiet hq)
        have HQ9 := Lib.hid (HQ8.out.trans hq)
        have HR29 : Hid (Quiet w4 w9) := HR28.out.trans hq
        clear hq
        have hcm := (HROW.out _ HR29.out).2
        unfold markB at hcm
        go_wp2_with fail
        go_ret
        exact ⟨rfl, HQ9.out⟩
      · have hnn : (n.toList == n.toList) = true := by simp
        go_wp2_with fail
        refine (HJ.out _ _ HU4.out (HROW.out _ (Only.refl _ w4)).1).mono ?_
        rintro e w5 ⟨rfl, hq⟩
        have HU5 := Lib.hid (HU4.out.quiet hq)
        have HV5 := Lib.hid (HV4.out.quiet hq)
        have HQ5 := Lib.hid (HQ4.out.trans hq)
        have HR25 : Hid (Quiet w4 w5) := (Only.refl _ w4).trans hq
        clear hq
        go_wp2_with fail
        refine (HJR.out _ _ HV5.out).mono ?_
        rintro e w6 ⟨rfl, hq⟩
        have HU6 := Lib.hid (HU5.out.quiet hq)
        have HV6 := Lib.hid (HV5.out.quiet hq)
        have HQ6 := Lib.hid (HQ5.out.trans hq)
        have HR26 : Hid (Quiet w4 w6) := HR25.out.trans hq
        clear hq
        go_wp2_with fail
        refine (HN.out _ HU6.out).mono ?_
        rintro e w7 ⟨rfl, hq⟩
        have HU7 := Lib.hid (HU6.out.quiet hq)
        have HV7 := Lib.hid (HV6.out.quiet hq)
        have HQ7 := Lib.hid (HQ6.out.trans hq)
        have HR27 : Hid (Quiet w4 w7) := HR26.out.trans hq
        clear hq
        go_wp2_with fail
        refine (HNR.out _).mono ?_
        rintro e w8 ⟨rfl, hq⟩
        have HU8 := Lib.hid (HU7.out.quiet hq)
        have HV8 := Lib.hid (HV7.out.quiet hq)
        have HQ8 := Lib.hid (HQ7.out.trans hq)
        have HR28 : Hid (Quiet w4 w8) := HR27.out.trans hq
        clear hq
        go_wp2_with fail
        refine (HE0.out _).mono ?_
        rintro e wz ⟨rfl, rfl⟩
        go_wp2_with fail
        refine (HE0.out _).mono ?_
        rintro e wz ⟨rfl, rfl⟩
        go_wp2_with fail
        refine (HTX.out _ _ _ (HROW.out _ HR28.out).1 HV8.out).mono ?_
        rintro e w9 ⟨rfl, hq⟩
        have HU9 := Lib.hid (HU8.out.quiet hq)
        have HV9 := Lib.hid (HV8.out.quiet hq)
        have HQ9 := Lib.hid (HQ8.out.trans hq)
        have HR29 : Hid (Quiet w4 w9) := HR28.out.trans hq
        clear hq
        have hcm := (HROW.out _ HR29.out).2
        unfold markB at hcm
        go_wp2_with fail
        go_ret
        exact ⟨rfl, HQ9.out⟩

end Go.Proofs.YtbfcjlpakngmhaaDoor
