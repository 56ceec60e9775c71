/- path.Normal. Conditions: texts of 20,000 bytes at most. -/
import Derived.Test.YtikkfmmdgicigaaDoorPaGood
import Derived.Test.YtikkfmmdgicigaaDoorPaNormL
import Derived.Lib.AppendStr
namespace Go.Proofs.YtikkfmmdgicigaaDoor
open Go.RowKit
attribute [local go_sem] Oper.semAt_some

theorem strCells_map (s : ByteArray) : Lib.strCells s = s.data.toList.map byteV := rfl

/-- append of a text's bytes. -/
theorem wpListIn_app_text {F : Fence} {n' : Nat} (w : World) {ops : Array Oper} {rest : List Oper} {o : Oper} {a : Act} {Q : Exit → Act → World → Prop} (hgd : o.guard = none) (sl x : Operand)
    (ho : o.op = .call { callee := .builtin .append, args := #[sl, x], argTypes := #[39, 9] }) (base : Nat)
    (v : Value) (n : Nat) (xs : List Value) (hs : a.eval sl = v) (hown : w.ownsRow base 5 1 v n xs) (s : ByteArray) (hx : a.eval x = .string s)
    (hlen : n + s.size ≤ 140737488355328) (hbase : base ≤ w.heap.size)
    (h : ∀ v' w', w'.ownsRow base 5 1 v' (n + s.size) (xs ++ s.data.toList.map byteV) → w.grownBy w' v.ownBlock → wpListIn F n' Tryd.prog ops Q rest (a.put o.dst v') w') : wpListIn F n' Tryd.prog ops Q (o :: rest) a w := by
  obtain ⟨i, hi, hz0, hz1, hz2⟩ := info_parts info_u8
  refine wpListIn_plain hgd fun K hK => ?_
  obtain ⟨v', w', hr, h2, h3, h4⟩ := Lib.run_append_own_string (P := Tryd.prog) w base 39 9 o.type 5 i Tryd.underlying39 Tryd.underlying9 hi hz0 hz1 hz2 v n xs hown s (by unfold maxLen; omega) hlen hbase
  unfold Oper.wpIn
  refine ⟨?_, ?_⟩
  · simp [Oper.about, ho, resolve, Target.leads, Sem.run_pure]
  · rw [Oper.semAt_plain F _ _ (by rw [ho]; intro c hc'; cases hc')]
    simp [execOp, ho, resolve, invoke, builtin, hs, hx, hr, Result.andThen]
    exact hK _ _ (h v' w' h2 h3)

/-- Behind an append into a box's row and the store of what it answers. -/
theorem app_step {W w1 : World} {n₀ B : Nat} {t e : TypeId} {v v' : Value} {k m : Nat} {xs ys : List Value}
    (hv : Boxed W B t v) (hte : t ≠ e) (hrow : W.ownsRow n₀ e 1 v k xs) (hn₀ : n₀ ≤ W.heap.size) (hB : n₀ ≤ B)
    (hown' : w1.ownsRow n₀ e 1 v' m ys) (hgrow : W.grownBy w1 v.ownBlock) :
    Boxed w1 B t v ∧ Boxed (w1.setCell ⟨B, 0, none⟩ v') B t v' ∧ (w1.setCell ⟨B, 0, none⟩ v').ownsRow n₀ e 1 v' m ys ∧ KeepsOthers W (w1.setCell ⟨B, 0, none⟩ v') ∧ Below n₀ W (w1.setCell ⟨B, 0, none⟩ v') ∧
      (∀ B2 t2 u, t2 ≠ e → B2 ≠ B → Boxed W B2 t2 u → Boxed (w1.setCell ⟨B, 0, none⟩ v') B2 t2 u) := by
  have hv1 : Boxed w1 B t v := hv.kept hgrow (hv.not_row hte hrow)
  refine ⟨hv1, hv1.set v', hown'.kept (grownBy_setCell' w1 B v') (.inr (hv1.not_row hte hown').symm), ?_, ?_, ?_⟩
  · refine (KeepsOthers.of_grownBy hgrow fun j o ej hj => ?_).trans (KeepsOthers.setCell _ _ _)
    rcases hrow.2 with ⟨rfl, _⟩ | ⟨g, cap, cur, rfl, _, hgb, _⟩
    · simp [Value.ownBlock] at ej
    · obtain rfl : g = j := by simpa [Value.ownBlock] using ej
      rw [hgb] at hj; cases hj; rfl
  · refine ((Below.refl n₀ W).grown hgrow hn₀ fun j ej => ?_).setCell (p := ⟨B, 0, none⟩) hB v'
    rcases hrow.2 with ⟨rfl, _⟩ | ⟨g, cap, cur, rfl, hb, _, _⟩
    · simp [Value.ownBlock] at ej
    · obtain rfl : g = j := by simpa [Value.ownBlock] using ej
      exact hb
  · intro B2 t2 u ht2 hne hb2
    exact Boxed.other (hb2.kept hgrow (hb2.not_row ht2 hrow)) hne v'

/-- A piece of an owned row, from its begin. -/
theorem ownsRow_cut {W : World} {n₀ : Nat} {e : TypeId} {v : Value} {bs : List UInt8} {k : Nat} (h : W.ownsRow n₀ e 1 v bs.length (bs.map byteV)) (hk : k < bs.length) :
    ∃ g cap, v = .slice (some ⟨g, 0, none⟩) bs.length cap ∧ bs.length ≤ cap ∧ W.ownsRow n₀ e 1 (.slice (some ⟨g, 0, none⟩) k cap) k ((bs.take k).map byteV) := by
  rcases h.2 with ⟨_, h0⟩ | ⟨g, cap, cur, rfl, hg, hh, hn, hcap, hsz, htake⟩
  · omega
  · refine ⟨g, cap, rfl, hn, ?_, .inr ⟨g, cap, cur, rfl, hg, hh, by omega, hcap, hsz, ?_⟩⟩
    · simp; omega
    · have h3 : (cur.toList.take (bs.length * 1)).take (k * 1) = (bs.map byteV).take (k * 1) := by rw [htake]
      rw [List.take_take, Nat.min_eq_left (by omega)] at h3
      rw [h3, Nat.mul_one, List.map_take]

theorem own_only {S : Nat → Prop} {W W2 : World} {n₀ : Nat} {e : TypeId} {v : Value} {k : Nat} {xs : List Value} (h : W.ownsRow n₀ e 1 v k xs) (hq : Only S W W2) (hs : ∀ g, v.ownBlock = some g → ¬ S g) : W2.ownsRow n₀ e 1 v k xs := by
  refine ⟨h.1, ?_⟩
  rcases h.2 with h1 | ⟨g, cap, cur, rfl, h2, h3, h4⟩
  · exact .inl h1
  · exact .inr ⟨g, cap, cur, rfl, h2, hq.keep h3 (hs g rfl), h4⟩

/-- What Normal answers. -/
def normV : Option (List UInt8) → Ending
  | some n => .returned (.tuple #[.string ⟨n.toArray⟩, .nilIface])
  | none => .returned (.tuple #[.string ⟨#[]⟩, .iface 36 (.int .i64 12)])

set_option maxRecDepth 100000 in
set_option maxHeartbeats 4000000 in
theorem normal_any (s : ByteArray) (hs : s.size ≤ 100000) {w : World} (hU : U8 w) :
    Calls Tryd.prog 33 #[.string s] w fun e w' => e = normV (Pt.normal s.data.toList) ∧ Quiet w w' := by
  have HG := Lib.hid (pieces_any s)
  refine (callsIn_wide (n := 4)).1 ?_
  refine callsIn_of_wp_marks Tryd.func33 rfl trivial ?_ rfl
  simp only [Tryd.ntmps33, List.size_toArray, List.length_cons, List.length_nil, Nat.reduceAdd, Nat.reduceSub, Array.replicate_succ, Array.replicate_zero, List.push_toArray, List.append_toArray, List.nil_append, List.cons_append]
  gi_wp2_with fail
  refine ⟨trivial, (callsIn_wide.2 (HG.out _)).mono ?_⟩
  rintro e w3 ⟨rfl, hw3⟩
  simp only [World.size_alloc] at hw3 ⊢
  have hs3 : w3.heap.size = w.heap.size + 4 := by rw [← hw3]; simp
  have hr0 : Boxed w3 w.heap.size 9 (.string ⟨#[]⟩) := by rw [← hw3]; exact (((Boxed.new w _ _).alloc _).alloc _).alloc _
  have hr1 : Boxed w3 (w.heap.size + 1) 27 .nilIface := by
    rw [← hw3]; have := Boxed.new (w.alloc (.cells #[.string ⟨#[]⟩] 9)) 27 .nilIface; rw [World.size_alloc] at this; exact (this.alloc _).alloc _
  have hr2 : Boxed w3 (w.heap.size + 1 + 1) 39 (.slice none 0 0) := by
    rw [← hw3]; have := Boxed.new ((w.alloc (.cells #[.string ⟨#[]⟩] 9)).alloc (.cells #[.nilIface] 27)) 39 (.slice none 0 0); rw [World.size_alloc, World.size_alloc] at this; exact this.alloc _
  have hr3 : w3.cell? ⟨w.heap.size + 1 + 1 + 1, 0, none⟩ = some (.string s) := by
    rw [← hw3]
    have := (Boxed.new (((w.alloc (.cells #[.string ⟨#[]⟩] 9)).alloc (.cells #[.nilIface] 27)).alloc (.cells #[.slice none 0 0] 39)) 9 (.string s)).cell
    rwa [World.size_alloc, World.size_alloc, World.size_alloc] at this
  have hq3 : Quiet w w3 := by rw [← hw3]; exact (((Only.alloc _).trans (Only.alloc _)).trans (Only.alloc _)).trans (Only.alloc _)
  clear hw3 HG
  gi_wp2
  have hkeep : ∀ {A C : World} {row : Option Nat} {k : Nat}, (∀ r, row = some r → w3.heap.size ≤ r ∧ ∃ o : Obj, A.heap[r]? = some o ∧ o.isCells = false) → k < w3.heap.size → some k ≠ row := fun hr hk e => by have := (hr _ e.symm).1; omega
  have hown : ∀ {A C : World} {row : Option Nat}, Below w.heap.size w A → A.grownBy C row → (∀ r, row = some r → w3.heap.size ≤ r ∧ ∃ o : Obj, A.heap[r]? = some o ∧ o.isCells = false) → Below w.heap.size w C := fun h hg hr => h.grown hg h.size (fun k e => by have := (hr k e).1; omega)
  refine wpIn_rangeFunc_ownG (Kp := fun _ _ => True) rfl (by omega) (gf := 80) (lb := #[.pointer (some ⟨w.heap.size + 1 + 1 + 1, 0, none⟩)]) rfl trivial (enters_of Tryd.func80 (by kernel_rfl) rfl)
    (pcs_stops _ (M := s.size) s (Nat.le_refl _) (by omega) (w.heap.size + 1 + 1 + 1) w3 (by omega) hr3) (fun _ _ => trivial) (fun _ _ _ _ _ _ _ _ => trivial) (Below.refl _ _) (fun _ => rfl)
    (fun pre W => ∃ (L : List UInt8) (v : Value), Hid (Pt.runN [] (pcL pre) = some L) ∧ W.ownsRow w.heap.size 5 1 v L.length (L.map byteV) ∧ L.length ≤ pre.length * (s.size + 1) ∧
      Boxed W w.heap.size 9 (.string ⟨#[]⟩) ∧ Boxed W (w.heap.size + 1) 27 .nilIface ∧ Boxed W (w.heap.size + 1 + 1) 39 v ∧ Below w.heap.size w W)
    (fun c pre W => c = .ret ∧ Hid (∀ t, Pt.runN [] (pcL pre ++ t) = none) ∧ Boxed W w.heap.size 9 (.string ⟨#[]⟩) ∧ Boxed W (w.heap.size + 1) 27 (.iface 36 (.int .i64 12)) ∧ Below w.heap.size w W)
    (fun pre A C row hi hg hr => by
      obtain ⟨L, v, h1, h2, h3, h4, h5, h6, h7⟩ := hi
      refine ⟨L, v, h1, h2.kept hg ?_, h3, h4.kept hg (hkeep (C := C) hr (by omega)), h5.kept hg (hkeep (C := C) hr (by omega)), h6.kept hg (hkeep (C := C) hr (by omega)), hown h7 hg hr⟩
      rcases h2.2 with ⟨rfl, _⟩ | ⟨g, cap, cur, rfl, _, hgb, _⟩
      · exact .inl rfl
      · refine .inr fun e' => ?_
        obtain ⟨_, o, ho, hc⟩ := hr g (by simpa [Value.ownBlock] using e'.symm)
        rw [hgb] at ho; cases ho; cases hc)
    (fun c pre A C row hi hg hr => by
      obtain ⟨h1, h2, h3, h4, h5⟩ := hi
      exact ⟨h1, h2, h3.kept hg (hkeep (C := C) hr (by omega)), h4.kept hg (hkeep (C := C) hr (by omega)), hown h5 hg hr⟩)
    ⟨[], .slice none 0 0, rfl, World.ownsRow_nil _ _ _ _, by simp, hr0, hr1, hr2, hq3.below (Nat.le_refl _) (fun _ _ x => x)⟩
    (fun x => { tmps := #[.string s, undef, .pointer (some ⟨w.heap.size, 0, none⟩), .pointer (some ⟨w.heap.size + 1, 0, none⟩), .pointer (some ⟨w.heap.size + 1 + 1, 0, none⟩), .string x.1, undef, undef, .string s, .func (.func 80) #[] #[.pointer (some ⟨w.heap.size + 1 + 1 + 1, 0, none⟩)], .string x.1, undef, undef, undef, undef, undef, undef, undef, undef, undef, undef, undef, undef, undef, undef, undef, undef, undef, undef, undef, undef, undef, undef, undef, undef, undef, undef, undef], defers := [] }) ?assign ?body ?done ?stop
  case assign =>
    intro l x W K hK
    gi_wp2
    exact hK
  case body =>
    rintro l pre x W ⟨L, v, hrun, how, hlen, hb0, hb1, hb2, hB⟩ hN
    have hx := x.2
    have HR : Hid (Pt.runN [] (pcL (pre ++ [x])) = Pt.stepN L x.1.data.toList) := by
      unfold Hid
      rw [pcL_snoc, Pt.runN_snoc hrun.out]
    have hpl : (pre ++ [x]).length * (s.size + 1) = pre.length * (s.size + 1) + (s.size + 1) := by
      rw [List.length_append, List.length_singleton, Nat.add_mul, Nat.one_mul]
    have hbig : pre.length * (s.size + 1) ≤ 100001 * 100001 := Nat.mul_le_mul (by omega) (by omega)
    have hxl : x.1.data.toList.length = x.1.size := (Lib.size_eq x.1).symm
    cases cA : (x.1.toList == []) with
    | true =>
      have HS : Hid (Pt.stepN L x.1.data.toList = some L) := by
        rw [Lib.toList_data, beq_iff_eq] at cA
        unfold Hid Pt.stepN
        rw [if_pos (.inl cA)]
      have HALL := Lib.hid (And.intro how (And.intro hb0 (And.intro hb1 (And.intro hb2 hB))))
      clear how hb0 hb1 hb2 hB
      gi_wp2
      exact ⟨KeepsFrom.refl _ _, trivial, L, v, HR.out.trans HS.out, HALL.out.1, by omega, HALL.out.2.1, HALL.out.2.2.1, HALL.out.2.2.2.1, HALL.out.2.2.2.2⟩
    | false =>
      cases cB : (x.1.toList == [46]) with
      | true =>
        have HS : Hid (Pt.stepN L x.1.data.toList = some L) := by
          rw [Lib.toList_data, beq_iff_eq] at cB
          unfold Hid Pt.stepN
          rw [if_pos (.inr cB)]
        have HALL := Lib.hid (And.intro how (And.intro hb0 (And.intro hb1 (And.intro hb2 hB))))
        clear how hb0 hb1 hb2 hB
        gi_wp2
        exact ⟨KeepsFrom.refl _ _, trivial, L, v, HR.out.trans HS.out, HALL.out.1, by omega, HALL.out.2.1, HALL.out.2.2.1, HALL.out.2.2.2.1, HALL.out.2.2.2.2⟩
      | false =>
        have nA : x.1.data.toList ≠ [] := by rw [Lib.toList_data, beq_eq_false_iff_ne] at cA; exact cA
        have nB : x.1.data.toList ≠ [46] := by rw [Lib.toList_data, beq_eq_false_iff_ne] at cB; exact cB
        cases cC : (x.1.toList == [46, 46]) with
        | true =>
          have nC : x.1.data.toList = [46, 46] := by rw [Lib.toList_data, beq_iff_eq] at cC; exact cC
          have hbv := BytesAt.of_row how
          have HL := Lib.hid (bLast_any hbv (by omega))
          rcases Pt.lastS_range L with hneg | ⟨k, hk, hkl, _⟩
          · have HS : Hid (∀ t, Pt.runN [] (pcL (pre ++ [x]) ++ t) = none) := fun t => by
              rw [Pt.runN_append, HR.out]
              unfold Pt.stepN
              rw [if_neg (by simp [nA, nB]), if_pos nC, if_pos (by omega)]
              rfl
            rw [hneg] at HL
            have hc2 := hb2.cell
            have HALL := Lib.hid (And.intro hb0 (And.intro hb1 hB))
            clear how hb0 hb1 hb2 hB hbv nA nB nC HR hxl hpl hbig hrun
            gi_wp2_with fail
            refine ⟨trivial, (CallsIn.inRound l (callsIn_wide.2 HL.out)).mono ?_⟩
            rintro e W2 ⟨rfl, hQ⟩
            have g0 : Boxed W2 w.heap.size 9 (.string ⟨#[]⟩) := hQ.keep HALL.out.1 (fun x => x)
            have g1 : Boxed W2 (w.heap.size + 1) 27 .nilIface := hQ.keep HALL.out.2.1 (fun x => x)
            have gB : Below w.heap.size w W2 := HALL.out.2.2.trans (hQ.below HALL.out.2.2.size (fun _ _ x => x))
            obtain ⟨W3, hw3⟩ : ∃ W3, W2.setCell ⟨w.heap.size, 0, none⟩ (.string ⟨#[]⟩) = W3 := ⟨_, rfl⟩
            have k0 : Boxed W3 w.heap.size 9 (.string ⟨#[]⟩) := by rw [← hw3]; exact g0.set _
            have k1 : Boxed W3 (w.heap.size + 1) 27 .nilIface := by rw [← hw3]; exact Boxed.other g1 (by omega) _
            have kB : Below w.heap.size w W3 := by rw [← hw3]; exact gB.setCell (p := ⟨w.heap.size, 0, none⟩) (Nat.le_refl _) _
            have kF : KeepsFrom w3.heap.size W W3 := by rw [← hw3]; exact (keepsFrom_only (B := w3.heap.size) hQ (fun _ x => x.elim)).trans ((KeepsOthers.setCell _ _ _).from _)
            have c0 := g0.cell
            have f0 := g0.frozen
            have c1 := k1.cell
            have f1 := k1.frozen
            have HK := Lib.hid (And.intro k0 (And.intro k1 (And.intro kB kF)))
            clear g0 g1 gB k0 k1 kB kF hQ
            gi_wp2
            refine ⟨HK.out.2.2.2.trans ((KeepsOthers.setCell _ _ _).from _), rfl, HS.out, Boxed.other HK.out.1 (by omega) _, HK.out.2.1.set _, HK.out.2.2.1.setCell (p := ⟨w.heap.size + 1, 0, none⟩) (by simp) _⟩
          · obtain ⟨g, cap, rfl, hcap, hcut⟩ := ownsRow_cut how hkl
            have HS : Hid (Pt.stepN L x.1.data.toList = some (L.take k)) := by
              unfold Hid Pt.stepN
              rw [if_neg (by simp [nA, nB]), if_pos nC, if_neg (by omega), hk]
              rfl
            have hkz : ¬ ((k : Int) < 0) := by omega
            have hkc : (k : Int) ≤ (cap : Int) := by omega
            have hk0 : (0 : Int) ≤ (k : Int) := by omega
            rw [hk] at HL
            have hc2 := hb2.cell
            have HALL := Lib.hid (And.intro hb0 (And.intro hb1 (And.intro hb2 (And.intro hB hcut))))
            clear how hb0 hb1 hb2 hB hbv nA nB nC hxl hbig hrun hcut
            gi_wp2_with fail
            refine ⟨trivial, (CallsIn.inRound l (callsIn_wide.2 HL.out)).mono ?_⟩
            rintro e W2 ⟨rfl, hQ⟩
            have g0 : Boxed W2 w.heap.size 9 (.string ⟨#[]⟩) := hQ.keep HALL.out.1 (fun x => x)
            have g1 : Boxed W2 (w.heap.size + 1) 27 .nilIface := hQ.keep HALL.out.2.1 (fun x => x)
            have g2 : Boxed W2 (w.heap.size + 1 + 1) 39 (.slice (some ⟨g, 0, none⟩) L.length cap) := hQ.keep HALL.out.2.2.1 (fun x => x)
            have gB : Below w.heap.size w W2 := HALL.out.2.2.2.1.trans (hQ.below HALL.out.2.2.2.1.size (fun _ _ x => x))
            have gO := own_only HALL.out.2.2.2.2 hQ (fun _ _ x => x)
            have gF := keepsFrom_only (B := w3.heap.size) hQ (fun _ x => x.elim)
            have c2 := g2.cell
            have f2 := g2.frozen
            have HK := Lib.hid (And.intro g0 (And.intro g1 (And.intro g2 (And.intro gB (And.intro gO gF)))))
            clear g0 g1 g2 gB gO gF hQ hc2
            gi_wp2
            refine ⟨HK.out.2.2.2.2.2.trans ((KeepsOthers.setCell _ _ _).from _), trivial, L.take k, .slice (some ⟨g, 0, none⟩) k cap, HR.out.trans HS.out, ?_, ?_, Boxed.other HK.out.1 (by omega) _, Boxed.other HK.out.2.1 (by omega) _, HK.out.2.2.1.set _, HK.out.2.2.2.1.setCell (p := ⟨w.heap.size + 1 + 1, 0, none⟩) (by simp; omega) _⟩
            · have e : (L.take k).length = k := by simp; omega
              rw [e]
              refine HK.out.2.2.2.2.1.kept (grownBy_setCell' _ _ _) (.inr ?_)
              exact (HK.out.2.2.1.not_row (by decide) HK.out.2.2.2.2.1).symm
            · have e : (L.take k).length = k := by simp; omega
              omega
        | false =>
          have nC : x.1.data.toList ≠ [46, 46] := by rw [Lib.toList_data, beq_eq_false_iff_ne] at cC; exact cC
          have HS : Hid (Pt.stepN L x.1.data.toList = some (L ++ 47 :: x.1.data.toList)) := by
            unfold Hid Pt.stepN
            rw [if_neg (by simp [nA, nB]), if_neg nC]
          have hc2 := hb2.cell
          have hsz := hB.size
          have HALL := Lib.hid (And.intro how (And.intro hb0 (And.intro hb1 (And.intro hb2 hB))))
          have HRS := Lib.hid (HR.out.trans HS.out)
          clear how hb0 hb1 hb2 hB nA nB nC HS HR hrun
          have hl47 : L.length + (ByteArray.mk #[47]).size ≤ 140737488355328 := by
            have : (ByteArray.mk #[47]).size = 1 := rfl
            omega
          gi_wp2_with (first
            | (gi_at_builtin
               refine wpListIn_app_text W2 rfl _ _ rfl w.heap.size _ (L.length + 1) _ rfl HK.out.2.2.2.2.1 x.1 rfl (by omega) hsz2 ?_
               intro v2 w4 how4 hgrow4
               obtain ⟨a4, cap4, rfl⟩ : ∃ g cap, v2 = .slice (some ⟨g, 0, none⟩) (L.length + 1 + x.1.size) cap := by
                 rw [show L.length + 1 + x.1.size = (L.length + x.1.size) + 1 by omega] at how4 ⊢
                 exact ownsRow_succ how4
               obtain ⟨hb4', hs4, hrow4, hk4, hbl4, hoth4⟩ := app_step HK.out.2.2.1 (by decide) HK.out.2.2.2.2.1 hsz2 (by omega) how4 hgrow4
               have j0 := hoth4 _ _ _ (by decide) (by omega) HK.out.1
               have j1 := hoth4 _ _ _ (by decide) (by omega) HK.out.2.1
               have jB := HK.out.2.2.2.1.trans hbl4
               have jF := (HK.out.2.2.2.2.2.trans hk4).from w3.heap.size
               have c4 := hb4'.cell
               have f4 := hb4'.frozen
               have HJ := Lib.hid (And.intro j0 (And.intro j1 (And.intro hs4 (And.intro jB (And.intro hrow4 jF)))))
               clear hb4' hs4 hrow4 hk4 hbl4 hoth4 j0 j1 jB jF how4 hgrow4 c2 f2 c3 f3 HK)
            | (gi_at_builtin
               refine wpListIn_app_text W rfl _ _ rfl w.heap.size v L.length _ rfl HALL.out.1 ⟨#[47]⟩ rfl hl47 hsz ?_
               intro v1 w1 how1 hgrow1
               have e1 : (ByteArray.mk #[47]).size = 1 := rfl
               rw [e1] at how1
               obtain ⟨a1, cap1, rfl⟩ := ownsRow_succ how1
               obtain ⟨hb2', hs2, hrow2, hk2, hbl2, hoth2⟩ := app_step HALL.out.2.2.2.1 (by decide) HALL.out.1 hsz (by omega) how1 hgrow1
               have g0 := hoth2 _ _ _ (by decide) (by omega) HALL.out.2.1
               have g1 := hoth2 _ _ _ (by decide) (by omega) HALL.out.2.2.1
               have gB := HALL.out.2.2.2.2.trans hbl2
               obtain ⟨W2, hW2⟩ : ∃ W2, w1.setCell ⟨w.heap.size + 1 + 1, 0, none⟩ (.slice (some ⟨a1, 0, none⟩) (L.length + 1) cap1) = W2 := ⟨_, rfl⟩
               rw [hW2] at hs2 hrow2 hk2 g0 g1 gB
               have c2 := hb2'.cell
               have f2 := hb2'.frozen
               have c3 := hs2.cell
               have f3 := hs2.frozen
               have HK := Lib.hid (And.intro g0 (And.intro g1 (And.intro hs2 (And.intro gB (And.intro hrow2 hk2)))))
               have hsz2 := gB.size
               clear hb2' hs2 hrow2 hk2 hbl2 hoth2 g0 g1 gB how1 hgrow1 hc2 HALL))
          have el : (L ++ 47 :: x.1.data.toList).length = L.length + 1 + x.1.size := by rw [List.length_append, List.length_cons, hxl]; omega
          have hrow : (w4.setCell ⟨w.heap.size + 1 + 1, 0, none⟩ (.slice (some ⟨a4, 0, none⟩) (L.length + 1 + x.1.size) cap4)).ownsRow w.heap.size 5 1 (.slice (some ⟨a4, 0, none⟩) (L.length + 1 + x.1.size) cap4) (L ++ 47 :: x.1.data.toList).length ((L ++ 47 :: x.1.data.toList).map byteV) := by
            rw [el]
            have := HJ.out.2.2.2.2.1
            simpa [List.map_append, byteV] using this
          have hF := HJ.out.2.2.2.2.2
          have hI : ∃ (L2 : List UInt8) (v : Value), Hid (Pt.runN [] (pcL (pre ++ [x])) = some L2) ∧ (w4.setCell ⟨w.heap.size + 1 + 1, 0, none⟩ (.slice (some ⟨a4, 0, none⟩) (L.length + 1 + x.1.size) cap4)).ownsRow w.heap.size 5 1 v L2.length (L2.map byteV) ∧ L2.length ≤ (pre ++ [x]).length * (s.size + 1) ∧
              Boxed (w4.setCell ⟨w.heap.size + 1 + 1, 0, none⟩ (.slice (some ⟨a4, 0, none⟩) (L.length + 1 + x.1.size) cap4)) w.heap.size 9 (.string ⟨#[]⟩) ∧ Boxed (w4.setCell ⟨w.heap.size + 1 + 1, 0, none⟩ (.slice (some ⟨a4, 0, none⟩) (L.length + 1 + x.1.size) cap4)) (w.heap.size + 1) 27 .nilIface ∧
              Boxed (w4.setCell ⟨w.heap.size + 1 + 1, 0, none⟩ (.slice (some ⟨a4, 0, none⟩) (L.length + 1 + x.1.size) cap4)) (w.heap.size + 1 + 1) 39 v ∧ Below w.heap.size w (w4.setCell ⟨w.heap.size + 1 + 1, 0, none⟩ (.slice (some ⟨a4, 0, none⟩) (L.length + 1 + x.1.size) cap4)) :=
            ⟨L ++ 47 :: x.1.data.toList, _, HRS.out, hrow, by omega, HJ.out.1, HJ.out.2.1, HJ.out.2.2.1, HJ.out.2.2.2.1⟩
          obtain ⟨L2, v2, hI1, hI2⟩ := hI
          rw [hs3] at hF
          exact ⟨hF, trivial, L2, hI1, v2, hI2⟩
  case done =>
    rintro D xs W hD hS ⟨L, v, hrun, how, hlen, hb0, hb1, hb2, hB⟩ hK
    have hRun : Pt.runN [] (Pt.pcs s.data.toList) = some L := by rw [← hS]; exact hrun.out
    have hled := Pt.runN_led hRun (.inl rfl)
    have hconv := (BytesAt.of_row how).text
    have hNorm : Pt.normal s.data.toList = if Pt.good (L.drop 1) then some (L.drop 1) else none := by
      unfold Pt.normal
      rw [hRun]
      rfl
    have hxs : xs.length ≤ 100001 := by
      have h1 := Pt.len_tot (pcL xs)
      rw [hS, Pt.pcs_tot, ← Lib.size_eq, ← hS, pcL_length] at h1
      omega
    have hbig : xs.length * (s.size + 1) ≤ 100001 * 100001 := Nat.mul_le_mul hxs (by omega)
    have HT : Hid (∀ W, Calls Tryd.prog 64 #[.string ⟨L.toArray⟩, .string ⟨#[47]⟩] W fun e w' => e = .returned (.string ⟨(L.drop 1).toArray⟩) ∧ w' = W) := fun W => by
      have := sTrimPrefix_any ⟨L.toArray⟩ ⟨#[47]⟩ W
      rw [← Pt.trim_led hled]
      simpa using this
    have HGD := Lib.hid (good_any ⟨(L.drop 1).toArray⟩ (by
      have : (ByteArray.mk (L.drop 1).toArray).size = (L.drop 1).length := by rw [Lib.size_eq]
      rw [this, List.length_drop]; omega) (hU.below hB))
    have HN := Lib.hid hNorm
    obtain ⟨nb, hnb⟩ : ∃ nb : ByteArray, nb = ⟨(L.drop 1).toArray⟩ := ⟨_, rfl⟩
    have hnl : nb.data.toList = L.drop 1 := by rw [hnb]
    rw [← hnb] at HT HGD
    rw [← hnl] at HN
    clear hnb hnl
    have hc2 := hb2.cell
    have HALL := Lib.hid (And.intro hb0 (And.intro hb1 (And.intro hB hK)))
    obtain ⟨av, cv, hv⟩ := (BytesAt.of_row how).shape
    subst hv
    clear hRun hled hNorm hb0 hb1 hb2 hB hK how hrun hbig hlen hS
    gi_wp2_with fail
    refine ⟨trivial, (callsIn_wide.2 (HT.out _)).mono ?_⟩
    rintro e W1 ⟨rfl, rfl⟩
    gi_wp2_with fail
    refine ⟨trivial, (callsIn_wide.2 HGD.out).mono ?_⟩
    rintro e W2 ⟨rfl, hQ⟩
    have g0 : Boxed W2 w.heap.size 9 (.string ⟨#[]⟩) := hQ.keep HALL.out.1 (fun x => x)
    have g1 : Boxed W2 (w.heap.size + 1) 27 .nilIface := hQ.keep HALL.out.2.1 (fun x => x)
    have gB : Below w.heap.size w W2 := HALL.out.2.2.1.trans (hQ.below HALL.out.2.2.1.size (fun _ _ x => x))
    have gK : W2.heap[D]? = some (.deferred (some [])) := hQ.keep HALL.out.2.2.2 (fun x => x)
    have key : ∀ (sv ev : Value), ∃ W3, W2.setCell ⟨w.heap.size, 0, none⟩ sv = W3 ∧ Boxed W3 w.heap.size 9 sv ∧ Boxed W3 (w.heap.size + 1) 27 .nilIface ∧
        Boxed (W3.setCell ⟨w.heap.size + 1, 0, none⟩ ev) w.heap.size 9 sv ∧ Boxed (W3.setCell ⟨w.heap.size + 1, 0, none⟩ ev) (w.heap.size + 1) 27 ev ∧
        Below w.heap.size w (W3.setCell ⟨w.heap.size + 1, 0, none⟩ ev) ∧ (W3.setCell ⟨w.heap.size + 1, 0, none⟩ ev).heap[D]? = some (.deferred (some [])) := fun sv ev => by
      have k0 : Boxed (W2.setCell ⟨w.heap.size, 0, none⟩ sv) w.heap.size 9 sv := g0.set _
      have k1 : Boxed (W2.setCell ⟨w.heap.size, 0, none⟩ sv) (w.heap.size + 1) 27 .nilIface := Boxed.other g1 (by omega) _
      refine ⟨_, rfl, k0, k1, Boxed.other k0 (by omega) _, k1.set _, (gB.setCell (p := ⟨w.heap.size, 0, none⟩) (Nat.le_refl _) _).setCell (p := ⟨w.heap.size + 1, 0, none⟩) (by simp) _, ?_⟩
      exact (KeepsOthers.setCell _ _ _).same D _ ((KeepsOthers.setCell _ _ _).same D _ gK rfl) rfl
    have c0 := g0.cell
    have f0 := g0.frozen
    clear g0 g1 gB gK hQ HALL HT HGD
    cases hgg : Pt.good nb.data.toList with
    | true =>
      obtain ⟨W3, hw3, k0, k1, m0, m1, mB, mK⟩ := key (.string nb) .nilIface
      have c1 := k1.cell
      have f1 := k1.frozen
      have hG : Hid (Pt.normal s.data.toList = some nb.data.toList) := by unfold Hid; rw [HN.out, if_pos hgg]
      have HM := Lib.hid (And.intro m0 (And.intro m1 (And.intro mB mK)))
      clear key k0 k1 m0 m1 mB mK HN hgg
      gi_wp2
      have mK := HM.out.2.2.2
      refine ⟨by simp, .inl ⟨_, _, rfl, run_takeDeferred mK, ?_⟩⟩
      have hc5 := cell_kept HM.out.1.cell (grownBy_putObj' _ D (.deferred none)) (fun r e => by cases e; exact ⟨_, mK, rfl⟩)
      have hc6 := cell_kept HM.out.2.1.cell (grownBy_putObj' _ D (.deferred none)) (fun r e => by cases e; exact ⟨_, mK, rfl⟩)
      refine ⟨.tuple #[.string nb, .nilIface], ?_, by rw [hG.out]; rfl, quiet_below (HM.out.2.2.1.trans (belowK_b (w := w) (Nat.le_refl _) _ D _ _ (by omega) mK rfl rfl))⟩
      simp [results, Tryd.f33, go_sem, hc5, hc6]
    | false =>
      obtain ⟨W3, hw3, k0, k1, m0, m1, mB, mK⟩ := key (.string ⟨#[]⟩) (.iface 36 (.int .i64 12))
      have c1 := k1.cell
      have f1 := k1.frozen
      have hG : Hid (Pt.normal s.data.toList = none) := by unfold Hid; rw [HN.out, if_neg (by simp [hgg])]
      have HM := Lib.hid (And.intro m0 (And.intro m1 (And.intro mB mK)))
      clear key k0 k1 m0 m1 mB mK HN hgg
      gi_wp2
      have mK := HM.out.2.2.2
      refine ⟨by simp, .inl ⟨_, _, rfl, run_takeDeferred mK, ?_⟩⟩
      have hc5 := cell_kept HM.out.1.cell (grownBy_putObj' _ D (.deferred none)) (fun r e => by cases e; exact ⟨_, mK, rfl⟩)
      have hc6 := cell_kept HM.out.2.1.cell (grownBy_putObj' _ D (.deferred none)) (fun r e => by cases e; exact ⟨_, mK, rfl⟩)
      refine ⟨.tuple #[.string ⟨#[]⟩, .iface 36 (.int .i64 12)], ?_, by rw [hG.out]; rfl, quiet_below (HM.out.2.2.1.trans (belowK_b (w := w) (Nat.le_refl _) _ D _ _ (by omega) mK rfl rfl))⟩
      simp [results, Tryd.f33, go_sem, hc5, hc6]
  case stop =>
    rintro D c pre W hD hpre ⟨rfl, hnone, hb0, hb1, hB⟩ hK
    have hG : Pt.normal s.data.toList = none := by
      obtain ⟨t, ht⟩ := hpre
      unfold Pt.normal
      rw [← ht, hnone.out t]
      rfl
    gi_wp2
    refine ⟨by simp, .inl ⟨_, _, rfl, run_takeDeferred hK, ?_⟩⟩
    have hc5 := cell_kept hb0.cell (grownBy_putObj' _ D (.deferred none)) (fun r e => by cases e; exact ⟨_, hK, rfl⟩)
    have hc6 := cell_kept hb1.cell (grownBy_putObj' _ D (.deferred none)) (fun r e => by cases e; exact ⟨_, hK, rfl⟩)
    refine ⟨.tuple #[.string ⟨#[]⟩, .iface 36 (.int .i64 12)], ?_, by rw [hG]; rfl, quiet_below (hB.trans (belowK_b (w := w) (Nat.le_refl _) W D _ _ (by omega) hK rfl rfl))⟩
    simp [results, Tryd.f33, go_sem, hc5, hc6]

end Go.Proofs.YtikkfmmdgicigaaDoor
