/- tree's missing. Conditions: paths; rows within the reach. -/
import Derived.Test.YtikkfmmdgicigaaDoorTrMissL
import Derived.Test.YtikkfmmdgicigaaDoorTrRow
namespace Go.Proofs.YtikkfmmdgicigaaDoor
open Go.RowKit

def dirV (p : List UInt8) : Ve := (.slice none 0 0, Tr.dirE p)
/-- The map of the paths that are there. -/
structure MapOf (w : World) (m : Nat) (L : List Tr.En) (D : List (List UInt8)) : Prop where
  ex : ∃ d, KmAt w m d ∧ d.length ≤ L.length + D.length ∧ ∀ p, (Tr.kget d p).isSome = (Tr.named L p || decide (p ∈ D))
theorem MapOf.only {w w' : World} {T : Nat → Prop} {m : Nat} {L : List Tr.En} {D : List (List UInt8)} (h : MapOf w m L D) (ho : Only T w w') (hn : ¬ T m) : MapOf w' m L D := by
  obtain ⟨d, h1, h2, h3⟩ := h.ex
  exact ⟨⟨d, h1.only ho hn, h2, h3⟩⟩
theorem MapOf.lt {w : World} {m : Nat} {L : List Tr.En} {D : List (List UInt8)} (h : MapOf w m L D) : m < w.heap.size := by
  obtain ⟨d, h1, _⟩ := h.ex
  exact h1.lt
theorem MapOf.look {w : World} {m : Nat} {L : List Tr.En} {D : List (List UInt8)} (h : MapOf w m L D) (s : List UInt8) (hs : s.length ≤ maxLen) :
    ∃ z : Int, (Instr.lookup 68 (.map (some m)) (.string ⟨s.toArray⟩) true).run Tryd.prog w = .ok (.tuple #[.int .i64 z, .bool (Tr.named L s || decide (s ∈ D))]) w := by
  obtain ⟨d, h1, h2, h3⟩ := h.ex
  exact ⟨_, by rw [h1.look2 s hs, h3]⟩
theorem MapOf.store {w : World} {m : Nat} {L : List Tr.En} {D : List (List UInt8)} (h : MapOf w m L D) (s : List UInt8) (hs : s.length ≤ maxLen) (hn : L.length + D.length < maxLen) (z : Int) :
    ∃ w', (Instr.mapUpdate 68 (.map (some m)) (.string ⟨s.toArray⟩) (.int .i64 z)).run Tryd.prog w = .ok () w' ∧ MapOf w' m L (D ++ [s]) ∧ Only (fun k => k = m) w w' ∧ w'.heap.size = w.heap.size := by
  obtain ⟨d, h1, h2, h3⟩ := h.ex
  obtain ⟨w', e1, e2, e3, e4⟩ := h1.store s hs (by omega) z
  refine ⟨w', e1, ⟨⟨_, e2, ?_, fun p => ?_⟩⟩, e3, e4⟩
  · have := Tr.kput_le d s z
    simp; omega
  · rw [Tr.kget_put]
    by_cases hp : p = s
    · subst hp; simp
    · rw [if_neg hp, h3]
      simp [hp]

theorem MapOf.ne {w : World} {m : Nat} {L : List Tr.En} {D : List (List UInt8)} (h : MapOf w m L D) (hU : U8 w) : m ≠ 1 ∧ m ≠ 2 := by
  obtain ⟨d, ⟨es, clock, hb, _⟩, _⟩ := h.ex
  constructor
  · rintro rfl
    have := hU.1 0 (by omega)
    simp [World.cell?, hb] at this
  · rintro rfl
    have := (hU.2 0 (by omega)).1
    simp [World.cell?, hb] at this

/-- One directory, in a block of its own. -/
theorem dir_src (w : World) (p : List UInt8) : EntsAt (w.alloc (.cells #[.string ⟨p.toArray⟩, .int .i64 1, .int .i64 493, .int .i64 0, .int .i64 0, .int .i64 0, .string ⟨#[]⟩, .slice none 0 0] 41)) (fun _ => True) (.slice (some ⟨w.heap.size, 0, none⟩) 1 1) [dirV p] := by
  have hb : Blk (w.alloc (.cells (enC (dirV p)).toArray 41)) w.heap.size (enC (dirV p)) 41 := Blk.new w _ _
  refine ⟨_, 1, rfl, Nat.le_refl _, (by simp), fun i hi => ⟨w.heap.size, 0, rfl, trivial, fun j u hu => ?_⟩, fun x hx => ?_⟩
  · have : i = 0 := by simpa using hi
    subst this
    have := hb.cell j
    simp only [Nat.zero_mul, Nat.zero_add]
    exact this.trans hu
  · rw [List.mem_singleton] at hx
    subst hx
    exact .inl ⟨rfl, rfl⟩

theorem ERow.app {n0 : Nat} {w w1 w2 : World} {v : Value} {xs ys : List Ve} {a : Option Addr} {c : Nat} (h : ERow n0 w v xs) (ho : Only (fun _ => False) w w1) (hr : w2.ownsRow 0 41 8 (.slice a (xs.length + ys.length) c) (xs.length + ys.length) (enCs xs ++ enCs ys)) (hg : w1.grownBy w2 v.ownBlock)
    (hat : (Value.slice a (xs.length + ys.length) c).ownBlock = v.ownBlock ∨ (Value.slice a (xs.length + ys.length) c).ownBlock = some w1.heap.size) (hy : ∀ y ∈ ys, BytesAt w (fun k => k < n0) y.1 y.2.data) :
    ERow n0 w2 (.slice a (xs ++ ys).length c) (xs ++ ys) ∧ Only (fun k => n0 ≤ k ∧ some k = v.ownBlock) w w2 := by
  have hz := ho.size
  have ho2 : Only (fun k => n0 ≤ k ∧ some k = v.ownBlock) w w2 := (ho.mono (fun _ _ h => h.elim)).andThen (Only.of_grown hg) (fun k hk e => ⟨h.new k e.symm, e⟩)
  have keep : ∀ {u : Value} {bs : List UInt8}, BytesAt w (fun k => k < n0) u bs → BytesAt w2 (fun k => k < n0) u bs := fun hb => hb.kept (fun k hk => ho2.block k (Nat.lt_of_lt_of_le hk h.low) (fun e => by have := e.1; omega)) (fun _ h => h)
  refine ⟨⟨?_, fun q hq => ?_, fun x hx => ?_, Nat.le_trans h.low ho2.size⟩, ho2⟩
  · rw [List.length_append, enCs_append]; exact hr
  · rw [List.length_append] at hq
    rcases hat with e | e
    · exact h.new q (by rw [← e]; exact hq)
    · rw [hq] at e
      have e1 : q = w1.heap.size := Option.some.inj e
      have := h.low
      omega
  · rcases List.mem_append.1 hx with hx | hx
    · exact keep (h.data x hx)
    · exact keep (hy x hx)

theorem ERow.keepD {n0 : Nat} {w w' : World} {T : Nat → Prop} {v : Value} {D : List (List UInt8)} (h : ERow n0 w v (D.map dirV)) (ho : Only T w w') (hT : ∀ k, T k → v.ownBlock ≠ some k) : ERow n0 w' v (D.map dirV) :=
  ⟨ownsRow_keep h.row (fun g hg => ho.block g (h.lt hg) (fun ht => hT g ht hg)), h.new, fun x hx => by
    obtain ⟨p, _, rfl⟩ := List.mem_map.1 hx
    exact .inl ⟨rfl, rfl⟩, Nat.le_trans h.low ho.size⟩

def strL : Value → Nat
  | .string s => s.data.toList.length
  | _ => 0

set_option maxRecDepth 100000 in
set_option maxHeartbeats 4000000 in
theorem tmissing_any {w : World} (hU : U8 w) {v : Value} {xs : List Ve} {m : Nat} (h : EntsAt w (fun k => k < m) v xs) (hf : Fit xs) (hgood : ∀ e ∈ ens xs, Pt.good e.path = true) (hn : xs.length ≤ 1000) (hm : MapOf w m (ens xs) []) :
    Calls Tryd.prog 48 #[v, .map (some m)] w fun e w' => ∃ a c D, e = .returned (.slice a D.length c) ∧ ERow w.heap.size w' (.slice a D.length c) (D.map dirV) ∧ Tr.MInv (ens xs) xs.length D ∧ Only (fun k => k = m) w w' := by
  obtain ⟨a, c, rfl⟩ := h.shape
  have H := Lib.hid h
  have HM := Lib.hid hm
  have HP : Hid (∀ W (p : List UInt8), p.length ≤ 1000000 → Only (fun k => k = m) w W → U8 W → Calls Tryd.prog 34 #[.string ⟨p.toArray⟩] W fun e w' => e = .returned (.tuple #[.string ⟨(Pt.parL p).toArray⟩, .bool (Pt.parB p)]) ∧ Quiet W w') := fun W p hp ho hu => parent_txt p (by omega) hu
  have HU : Hid (∀ W, Only (fun k => k = m) w W → U8 W) := fun W ho => hU.keep ho (fun e => (hm.ne hU).1 e.symm) (fun e => (hm.ne hU).2 e.symm)
  clear h hm
  go_enter Tryd.func48, Tryd.ntmps48
  go_wp2_with fail
  go_loopw [5, 14] (fun dv iv wr => ∃ (i : Nat) (D : List (List UInt8)) (da : Option Addr) (dc : Nat), i ≤ xs.length ∧ iv = .int .i64 i ∧ dv = .slice da D.length dc ∧ Tr.MInv (ens xs) i D ∧ MapOf wr m (ens xs) D ∧ ERow w.heap.size wr (.slice da D.length dc) (D.map dirV) ∧ Only (fun k => k = m) w wr) (fun _ iv _ => xs.length - (intOf iv).toNat)
  case atStart => exact ⟨0, [], none, 0, Nat.zero_le _, rfl, rfl, Tr.MInv.start _, HM.out, ERow.nil w, Only.refl _ _⟩
  case round =>
    obtain ⟨i, D, da, dc, hi, rfl, rfl, hin, hmap, hrow, how⟩ := hrel
    by_cases hlt : i < xs.length
    · obtain ⟨g, o, ua, uc, rfl, hg, k0, k1, k2, k3, k4, k5, k6, k7, hv, hb⟩ := (H.out.kept (w' := wr) (S' := fun k => k < m) (fun k hk => how.block k (Nat.lt_trans hk HM.out.lt) (by omega)) (fun _ h => h)).at_ hlt
      have pz : 0 ≤ (i : Int) := by omega
      have mz : (i : Int) < (xs.length : Int) := by omega
      have hfx := (hf xs[i] (List.getElem_mem hlt)).1
      have hgx : Pt.good xs[i].2.path = true := hgood _ (by unfold ens; exact List.mem_map.2 ⟨_, List.getElem_mem hlt, rfl⟩)
      have henter := hin.enter (by rw [ens_len]; exact hlt) (by rw [ens_at hlt]; exact hgx)
      rw [ens_at hlt] at henter
      have HEN := Lib.hid henter; have HOW := Lib.hid how; have HROW := Lib.hid hrow; have HMAP := Lib.hid hmap
      clear hb hv hgx henter how hrow hmap hin
      go_wp2_with (go_at_call 34; refine (HP.out _ _ hfx (HOW.out.trans ((Only.alloc _).mono (fun _ _ h => h.elim))) (HU.out _ (HOW.out.trans ((Only.alloc _).mono (fun _ _ h => h.elim))))).mono ?_; rintro e w2 ⟨rfl, hq⟩; have HQ := Lib.hid (Only.trans (Only.alloc _) hq); clear hq)
      go_loopw [5, 8, 9] (fun dv av bv wi => ∃ (D2 : List (List UInt8)) (da2 : Option Addr) (dc2 : Nat) (A : List UInt8) (B : Bool), dv = .slice da2 D2.length dc2 ∧ av = .string ⟨A.toArray⟩ ∧ bv = .bool B ∧ Tr.MIn (ens xs) i D2 A B ∧ MapOf wi m (ens xs) D2 ∧ ERow w.heap.size wi (.slice da2 D2.length dc2) (D2.map dirV) ∧ Only (fun k => k = m) w wi) (fun _ av _ _ => strL av)
      case atStart => exact ⟨D, da, dc, _, _, rfl, rfl, rfl, HEN.out, HMAP.out.only HQ.out (fun x => x), HROW.out.quiet HQ.out, HOW.out.trans (HQ.out.mono (fun _ _ h => h.elim))⟩
      case round =>
        obtain ⟨D2, da2, dc2, A, B, rfl, rfl, rfl, hmi, hmap2, hrow2, how2⟩ := hrel
        have hcnt := hmi.cnt
        have hA6 : A.length ≤ 1000000 := by omega
        have HW := Lib.hid how2
        cases B with
        | false =>
          have HR2 := Lib.hid hrow2; have HM2 := Lib.hid hmap2
          have HIN := Lib.hid (hmi.stop (by simp))
          clear hmi hrow2 how2 hmap2
          go_wp2_with fail
          go_roundw
          case rel => exact ⟨i + 1, D2, da2, dc2, by omega, by go_num, rfl, HIN.out, HM2.out, HR2.out, HW.out⟩
          case measure => simp [intOf]; omega
        | true =>
          obtain ⟨z, hlook⟩ := hmap2.look A (by unfold maxLen; omega)
          by_cases hth : (Tr.named (ens xs) A || decide (A ∈ D2)) = true
          · have HR2 := Lib.hid hrow2; have HM2 := Lib.hid hmap2
            have HIN := Lib.hid (hmi.stop (fun _ => by simpa using hth))
            rw [hth] at hlook
            clear hmi hrow2 how2 hmap2 hth
            go_wp2_with fail
            go_roundw
            case rel => exact ⟨i + 1, D2, da2, dc2, by omega, by go_num, rfl, HIN.out, HM2.out, HR2.out, HW.out⟩
            case measure => simp [intOf]; omega
          · rw [Bool.not_eq_true] at hth
            rw [hth] at hlook
            have hth2 : Tr.named (ens xs) A = false ∧ A ∉ D2 := by simpa using hth
            have HST := Lib.hid (hmi.step hth2.1 hth2.2)
            have hgA := hmi.good
            have hsh := Tr.par_short hgA
            obtain ⟨w3, hrun, hm3, ho3, -⟩ := hmap2.store A (by unfold maxLen; omega) (by rw [ens_len]; unfold maxLen; omega) 1
            have hmw : m < w.heap.size := HM.out.lt
            have HRA : Hid (∀ W, Only (fun k => k = m) wr W → ERow w.heap.size W (.slice da2 D2.length dc2) (D2.map dirV)) := fun W ho => hrow2.keepD ho (fun k hk e => by have := hrow2.new k e; omega)
            have HM3 := Lib.hid hm3; have HO3 := Lib.hid ho3
            have HRX : Hid (∀ X : Obj, (w3.alloc X).ownsRow 0 41 8 (.slice da2 D2.length dc2) D2.length (enCs (D2.map dirV))) := fun X => by
              have := (HRA.out _ (HO3.out.trans ((Only.alloc X).mono (fun _ _ h => h.elim)))).row
              rw [List.length_map] at this
              exact this
            have HW2 : Hid (∀ {X : Obj} W, ((w3.alloc X).grownBy W (Value.slice da2 D2.length dc2).ownBlock) → Only (fun k => k = m) w W) := fun {X} W hg => ((HW.out.trans (ho3.trans ((Only.alloc X).mono (fun _ _ h => h.elim))))).andThen (Only.of_grown hg) (fun k hk e => by have := hrow2.new k e.symm; omega)
            clear hmi hrow2 how2 hmap2 hth hth2 hm3 ho3 hgA
            go_wp2_with (first | (at_builtin; refine wpList_append_ents _ rfl _ _ rfl _ _ D2.length (enCs (D2.map dirV)) rfl rfl (HRX.out _) (dir_src _ A) (by rw [List.length_singleton]; omega) ?_; intro a' c' w' hown hgr hat; have HOWN := Lib.hid hown; have HGR := Lib.hid hgr; have HAT := Lib.hid hat; clear hown hgr hat; rw [List.length_singleton]) | (go_at_call 34; refine (HP.out _ A hA6 (HW2.out _ HGR.out) (HU.out _ (HW2.out _ HGR.out))).mono ?_; rintro e w5 ⟨rfl, hq⟩; have HQ5 := Lib.hid hq; clear hq))
            go_roundw
            case rel =>
              obtain ⟨hr4, ho4⟩ := (HRA.out _ (HO3.out.trans ((Only.alloc _).mono (fun _ _ h => h.elim)))).app (Only.refl _ _) (ys := [dirV A]) (by rw [List.length_map, List.length_singleton]; exact HOWN.out) HGR.out (by rw [List.length_map, List.length_singleton]; exact HAT.out) (fun y hy => by rw [List.mem_singleton] at hy; subst hy; exact .inl ⟨rfl, rfl⟩)
              have hm4 := (HM3.out.only (Only.alloc _) (fun x => x)).only ho4 (fun e => by have := e.1; omega)
              refine ⟨D2 ++ [A], a', c', _, _, by simp, rfl, rfl, HST.out, hm4.only HQ5.out (fun x => x), ?_, (HW2.out _ HGR.out).trans (HQ5.out.mono (fun _ _ h => h.elim))⟩
              have := hr4.quiet HQ5.out
              simpa using this
            case measure => simp [strL]; exact hsh
    · have hin2 : i = xs.length := by omega
      subst hin2
      have HIN := Lib.hid hin; have HROW := Lib.hid hrow; have HOW := Lib.hid how
      clear hin hrow how hmap
      go_wp2_with fail
      go_ret
      exact ⟨da, dc, D, rfl, HROW.out, HIN.out, HOW.out⟩

end Go.Proofs.YtikkfmmdgicigaaDoor
