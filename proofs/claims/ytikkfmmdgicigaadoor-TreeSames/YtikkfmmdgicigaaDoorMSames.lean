/- Whatever the two lists of entries: the law TreeSames (Same answers as the document's; Copy is the same list, in memory of its own) returns true, and its arguments read as before; the two tables of unicode/utf8 are as their texts lay them (tied). Conditions: none. -/
import Derived.Test.YtikkfmmdgicigaaDoorTrGRow
import Derived.Test.YtikkfmmdgicigaaDoorTrCheck
import Derived.Test.YtikkfmmdgicigaaDoorTrArgs
import Derived.Test.YtikkfmmdgicigaaDoorGNum
import Derived.Deep.DeepCutAuto
import Derived.Test.YtikkfmmdgicigaaDoorTrAlive
import Derived.Test.YtikkfmmdgicigaaDoorTrLists
import Derived.Test.YtikkfmmdgicigaaDoorGOwnL
import Derived.Test.YtikkfmmdgicigaaDoorGApart
import Derived.Test.YtikkfmmdgicigaaDoorPaArgs
import Derived.Test.YtikkfmmdgicigaaDoorTie
import Derived.Test.YtikkfmmdgicigaaDoorCards
import Derived.SevenTiedAt

namespace Go.Proofs.YtikkfmmdgicigaaDoor
open Go.RowKit

theorem one_src' {w : World} {n : Nat} (hn : w.heap.size = n) (x : Ve) {S : Nat → Prop} (hb : BytesAt w S x.1 x.2.data) (hS : ∀ k, S k → k < w.heap.size) : EntsAt (w.alloc (.cells (enC x).toArray 41)) (fun _ => True) (.slice (some ⟨n, 0, none⟩) 1 1) [x] := by
  subst hn
  exact one_src w x hb hS

/-- The row of bytes that an append has made, while the entry's own block turns. -/
theorem new_bytes {w2 w5 : World} {B n : Nat} {a5 : Option Addr} {c5 : Nat} {D : List UInt8} {u v : Value} (hn : n = D.length) (hown : w5.ownsRow 0 5 1 (.slice a5 n c5) n (D.map byteV)) (hz : B < w2.heap.size) (_hg : w2.grownBy w5 u.ownBlock) (hu : ∀ k, u.ownBlock = some k → B < k)
    (hat : (Value.slice a5 n c5).ownBlock = u.ownBlock ∨ (Value.slice a5 n c5).ownBlock = some w2.heap.size) : BytesAt (w5.setCell ⟨B, 7, none⟩ v) (fun k => B < k ∧ k < (w5.setCell ⟨B, 7, none⟩ v).heap.size) (.slice a5 D.length c5) D := by
  subst hn
  have hlt : ∀ k, (Value.slice a5 D.length c5).ownBlock = some k → B < k ∧ k < w5.heap.size := fun k hk => by
    refine ⟨?_, (hown.lt k hk).2⟩
    rcases hat with e | e
    · exact hu k (by rw [← e]; exact hk)
    · rw [hk] at e
      have := Option.some.inj e
      omega
  have ho : Only (fun k => k = B) w5 (w5.setCell ⟨B, 7, none⟩ v) := Only.setCell ⟨B, 7, none⟩ v
  exact (BytesAt.of_row hown).kept (fun k hk => ho.block k (hlt k hk).2 (by have := (hlt k hk).1; omega)) (fun k hk => ⟨(hlt k hk).1, Nat.lt_of_lt_of_le (hlt k hk).2 ho.size⟩)

set_option maxRecDepth 100000 in
set_option maxHeartbeats 2000000 in
theorem r9copy_any {w : World} {v : Value} {xs : List Ve} (h : EntsAt w (fun k => k < w.heap.size) v xs) (hf : ∀ x ∈ xs, x.2.data.length ≤ 140737488355328) (hn : xs.length ≤ 1000000) :
    Calls Tryd.prog 31 #[v] w fun e w' => ∃ a c ys, e = .returned (.slice a ys.length c) ∧ EntsAt w' (fun k => w.heap.size ≤ k ∧ k < w'.heap.size) (.slice a ys.length c) ys ∧ ens ys = ens xs ∧ Only (fun _ => False) w w' := by
  obtain ⟨va, vc, rfl⟩ := h.shape
  have H := Lib.hid h
  clear h
  go_enter Tryd.func31, Tryd.ntmps31
  go_wp2_with fail
  go_loopw [3, 4] (fun ov iv wr => ∃ (i : Nat) (ys : List Ve) (oa : Option Addr) (oc : Nat), i ≤ xs.length ∧ iv = .int .i64 i ∧ ys.length = i ∧ ov = .slice oa i oc ∧ ens ys = (ens xs).take i ∧ GRowE w.heap.size w.heap.size wr (.slice oa i oc) ys ∧ Only (fun _ => False) w wr) (fun _ iv _ => xs.length - (intOf iv).toNat)
  case atStart => exact ⟨0, [], none, 0, Nat.zero_le _, rfl, rfl, rfl, by simp [ens], GRowE.nil w _, Only.refl _ _⟩
  case round =>
    obtain ⟨i, ys, oa, oc, hi, rfl, hyl, rfl, hys, hrow, ho⟩ := hrel
    by_cases hlt : i < xs.length
    · obtain ⟨g1, o1, a1, c1, rfl, hg1, k0, k1, k2, k3, k4, k5, k6, k7, hv1, hb1⟩ := (H.out.quiet ho).at_ hlt
      have pz : 0 ≤ (i : Int) := by omega
      have mz : (i : Int) < (xs.length : Int) := by omega
      have hfx := hf xs[i] (List.getElem_mem hlt)
      have et : (ens xs).take (i + 1) = (ens xs).take i ++ [xs[i].2] := by rw [List.take_add_one, List.getElem?_eq_getElem (by rw [ens_len]; exact hlt), ens_at hlt]; rfl
      have HET := Lib.hid et
      obtain ⟨en, hen⟩ : ∃ en, Hid (xs[i].2 = en) := ⟨_, Lib.hid rfl⟩
      rw [hen.out] at k0 k1 k2 k3 k4 k5 k6 k7 hb1 hfx
      have HO := Lib.hid ho; have HR := Lib.hid hrow; have HYS := Lib.hid hys; have HB := Lib.hid hb1; have HYL := Lib.hid hyl
      obtain ⟨P, K, M, U, G, T, L, D⟩ := en
      clear ho hrow hys hb1 hv1 et hyl
      have HB1 : Hid (((wr.alloc (.cells #[.string ⟨P.toArray⟩, .int .i64 K, .int .i64 M, .int .i64 U, .int .i64 G, .int .i64 T, .string ⟨L.toArray⟩, .slice a1 D.length c1] 41)).alloc (.cells #[] 5)).ownsRow 0 5 1 (.slice (some ⟨wr.heap.size + 1, 0, none⟩) 0 0) 0 []) := by have := World.ownsRow_made (wr.alloc (.cells #[.string ⟨P.toArray⟩, .int .i64 K, .int .i64 M, .int .i64 U, .int .i64 G, .int .i64 T, .string ⟨L.toArray⟩, .slice a1 D.length c1] 41)) (e := 5) (size := 1) #[] 0 (Nat.zero_le _) (Nat.zero_le _) rfl; rw [World.size_alloc] at this; exact this
      have HS : Hid (BytesAt ((wr.alloc (.cells #[.string ⟨P.toArray⟩, .int .i64 K, .int .i64 M, .int .i64 U, .int .i64 G, .int .i64 T, .string ⟨L.toArray⟩, .slice a1 D.length c1] 41)).alloc (.cells #[] 5)) (fun k => k < wr.heap.size) (.slice a1 D.length c1) D) := HB.out.kept (fun k hk => (Below.heap_alloc _ _ _ (by rw [World.size_alloc]; omega)).trans (Below.heap_alloc _ _ _ hk)) (fun _ h => h)
      have HU : Hid (∀ k, (Value.slice (some ⟨wr.heap.size + 1, 0, none⟩) 0 0).ownBlock = some k → wr.heap.size < k) := fun k hk => by have : wr.heap.size + 1 = k := Option.some.inj hk; omega
      have HZ2 : Hid (wr.heap.size < ((wr.alloc (.cells #[.string ⟨P.toArray⟩, .int .i64 K, .int .i64 M, .int .i64 U, .int .i64 G, .int .i64 T, .string ⟨L.toArray⟩, .slice a1 D.length c1] 41)).alloc (.cells #[] 5)).heap.size) := by show _ < _; rw [World.size_alloc, World.size_alloc]; omega
      have HBX : Hid (∀ W, ((wr.alloc (.cells #[.string ⟨P.toArray⟩, .int .i64 K, .int .i64 M, .int .i64 U, .int .i64 G, .int .i64 T, .string ⟨L.toArray⟩, .slice a1 D.length c1] 41)).alloc (.cells #[] 5)).grownBy W (Value.slice (some ⟨wr.heap.size + 1, 0, none⟩) 0 0).ownBlock → Blk W wr.heap.size (enC (.slice a1 D.length c1, ⟨P, K, M, U, G, T, L, D⟩)) 41) := fun W hg => ((Blk.new wr (enC (.slice a1 D.length c1, ⟨P, K, M, U, G, T, L, D⟩)) 41).alloc (.cells #[] 5)).keep (Only.of_grown hg) (fun e => by have : wr.heap.size = wr.heap.size + 1 := Option.some.inj e; omega)
      have HW6 : Hid (∀ W, ((wr.alloc (.cells #[.string ⟨P.toArray⟩, .int .i64 K, .int .i64 M, .int .i64 U, .int .i64 G, .int .i64 T, .string ⟨L.toArray⟩, .slice a1 D.length c1] 41)).alloc (.cells #[] 5)).grownBy W (Value.slice (some ⟨wr.heap.size + 1, 0, none⟩) 0 0).ownBlock → ∀ v, Only (fun _ => False) wr (W.setCell ⟨wr.heap.size, 7, none⟩ v)) := fun W hg v => (((Only.alloc _).trans (Only.alloc _)).andThen (Only.of_grown hg) (fun k hk e => by have : k = wr.heap.size + 1 := Option.some.inj e; omega)).andThen (Only.setCell ⟨wr.heap.size, 7, none⟩ v) (fun k hk e => by have e2 : k = wr.heap.size := e; omega)
      have HRX : Hid (∀ W, ((wr.alloc (.cells #[.string ⟨P.toArray⟩, .int .i64 K, .int .i64 M, .int .i64 U, .int .i64 G, .int .i64 T, .string ⟨L.toArray⟩, .slice a1 D.length c1] 41)).alloc (.cells #[] 5)).grownBy W (Value.slice (some ⟨wr.heap.size + 1, 0, none⟩) 0 0).ownBlock → ∀ v X, ((W.setCell ⟨wr.heap.size, 7, none⟩ v).alloc X).ownsRow 0 41 8 (.slice oa i oc) i (enCs ys)) := fun W hg v X => by have := (HR.out.quiet ((HW6.out W hg v).trans (Only.alloc X))).row; rw [HYL.out] at this; exact this
      go_wp2_with (first | (have _t := HB1; at_builtin; refine wpList_append_bytes _ rfl _ _ rfl _ _ 0 [] rfl rfl HB1.out HS.out (by rw [Nat.zero_add]; exact hfx) ?_; intro a5 c5 w5 hown hgr hat; obtain ⟨b0, b1, b2, b3, b4, b5, b6, b7, bf⟩ := en_cells (HBX.out _ hgr); rw [Nat.zero_add] at hown hat; rw [List.nil_append] at hown; have HG5 := Lib.hid hgr; have HB5 : Hid (∀ v, _) := (fun v => new_bytes (v := v) rfl hown HZ2.out hgr HU.out hat); clear hown hgr hat _t HB1; rw [Nat.zero_add]) | (at_builtin; refine wpList_append_ents _ rfl _ _ rfl _ _ i (enCs ys) rfl rfl (HRX.out _ HG5.out _ _) (one_src' (by simp [World.setCell]) (.slice a5 D.length c5, ⟨P, K, M, U, G, T, L, D⟩) (HB5.out (.slice a5 D.length c5)) (fun k hk => hk.2)) (by rw [List.length_singleton]; omega) ?_; intro a6 c6 w6 hown hgr hat; have HOWN := Lib.hid hown; have HGR := Lib.hid hgr; have HAT := Lib.hid hat; clear hown hgr hat; rw [List.length_singleton]))
      have ho6 := HW6.out _ HG5.out (.slice a5 D.length c5)
      obtain ⟨hr6, ho7⟩ := HR.out.app (ys := [(.slice a5 D.length c5, ⟨P, K, M, U, G, T, L, D⟩)]) (ho6.trans (Only.alloc _)) (by rw [HYL.out]; exact HOWN.out) HGR.out (by rw [HYL.out]; exact HAT.out) (fun y hy => by
        rw [List.mem_singleton] at hy
        subst hy
        exact (HB5.out (.slice a5 D.length c5)).kept (fun k hk => Below.heap_alloc _ _ _ hk.2) (fun k hk => ⟨by have := HO.out.size; omega, Nat.lt_of_lt_of_le hk.2 (Only.alloc _).size, fun e => by have := HR.out.lt e; omega⟩))
      have hl6 : (ys ++ [((.slice a5 D.length c5, ⟨P, K, M, U, G, T, L, D⟩) : Ve)]).length = i + 1 := by simp [HYL.out]
      rw [hl6] at hr6
      refine ⟨⟨i + 1, _, a6, c6, by omega, by go_num, hl6, rfl, ?_, hr6, HO.out.andThen ho7 (fun k hk e => by omega)⟩, by simp [intOf]; omega⟩
      rw [HET.out, ← HYS.out, hen.out]
      simp [ens]
    · have hin : i = xs.length := by omega
      subst hin
      have HR := Lib.hid hrow; have HYS := Lib.hid hys; have HO := Lib.hid ho; have HYL := Lib.hid hyl
      clear hrow hys ho hyl
      go_wp2_with fail
      go_ret
      refine ⟨oa, oc, ys, by rw [HYL.out]; rfl, by rw [HYL.out]; exact HR.out.ents', ?_, HO.out⟩
      rw [HYS.out, List.take_of_length_le (by rw [ens_len]; exact Nat.le_refl _)]

end Go.Proofs.YtikkfmmdgicigaaDoor

namespace Go.Proofs.YtikkfmmdgicigaaDoor
open Go.RowKit

theorem apart_of {w : World} {b b' n G gc : Nat} {rs : List (Value × List UInt8)} (h : Own w b rs) (hg : LRow b' w (.slice (some ⟨G, 0, none⟩) n gc) (rs.map (·.1))) (hlen : ∀ r ∈ rs, r.2.length ≤ 1048576) :
    Rows1 w G (rs.map fun r => (r.1, r.2.length)) 0 ∧ Dis G (rs.map fun r => (r.1, r.2.length)) := by
  have hgt : IsTy w G 39 := row_ty hg.row rfl
  refine ⟨⟨fun i hi => ?_, fun i hi => ?_, hgt.lt⟩, ⟨fun i j hi hj hne g h1 h2 => ?_, fun i hi h1 => ?_, fun i hi => ?_⟩⟩
  · have hi' : i < rs.length := by simpa using hi
    refine ⟨rs[i].2.map byteV, ?_, fun h => absurd h (by omega)⟩
    simpa using h.row rs[i] (List.getElem_mem hi')
  · have hi' : i < rs.length := by simpa using hi
    have := hg.row.cells (g := G) rfl i rs[i].1 (by simp [hi'])
    rw [add_lit, Nat.zero_add] at this
    simpa using this
  · have hi' : i < rs.length := by simpa using hi
    have hj' : j < rs.length := by simpa using hj
    simp only [List.getElem_map] at h1 h2
    rcases Nat.lt_or_ge i j with hlt | hge
    · exact List.pairwise_iff_getElem.1 h.dis i j hi' hj' hlt g h1 h2
    · exact List.pairwise_iff_getElem.1 h.dis j i hj' hi' (by omega) g h2 h1
  · have hi' : i < rs.length := by simpa using hi
    simp only [List.getElem_map] at h1
    have := (row_ty (h.row rs[i] (List.getElem_mem hi')) h1).eq hgt
    exact absurd this (by decide)
  · have hi' : i < rs.length := by simpa using hi
    simpa using hlen rs[i] (List.getElem_mem hi')

theorem one_val' {w : World} {n : Nat} (hn : w.heap.size = n) (v : Value) : ValsIn (w.alloc (.cells #[v] 39)) (.slice (some ⟨n, 0, none⟩) 1 1) [v] := by
  subst hn
  exact one_val w v

def rsOf (us : List Ve) : List (Value × List UInt8) := us.map fun y => (y.1, y.2.data)
theorem CRow.owns {n0 : Nat} {w : World} {v : Value} {us : List Ve} (h : CRow n0 w v us) : Own w n0 (rsOf us) := by
  refine ⟨fun r hr => ?_, fun r hr g hg => ?_, ?_⟩
  · obtain ⟨y, hy, rfl⟩ := List.mem_map.1 hr
    exact (h.each y hy).1
  · obtain ⟨y, hy, rfl⟩ := List.mem_map.1 hr
    exact ((h.each y hy).2 g hg).1
  · unfold rsOf
    rw [List.pairwise_map]
    exact h.dis

set_option maxRecDepth 100000 in
set_option maxHeartbeats 4000000 in
theorem treeSames_any {w : World} {va vb : Value} {xs ys : List Ve} (ha : EntsAt w (fun k => k < w.heap.size) va xs) (hfa : ∀ x ∈ xs, ArgFit x) (hna : xs.length * 96 ≤ 140737488351232) (hb : EntsAt w (fun k => k < w.heap.size) vb ys) (hfb : ∀ x ∈ ys, ArgFit x) (hnb : ys.length * 96 ≤ 140737488351232) (hU : U8 w) :
    Calls Tryd.prog 6 #[va, vb] w fun e w' => e = .returned (.bool true) ∧ Only (fun _ => False) w w' := by
  obtain ⟨aa, ac, rfl⟩ := ha.shape
  obtain ⟨ba, bc, rfl⟩ := hb.shape
  have HA := Lib.hid ha; have HB := Lib.hid hb; have HFA := Lib.hid hfa; have HFB := Lib.hid hfb
  have hal := alive9_any hU
  clear ha hb hfa hfb hU
  go_enter Tryd.func6, Tryd.ntmps6
  go_wp2_with fail
  refine hal.mono ?_
  rintro e w1 ⟨rfl, ho1⟩
  have HO1 := Lib.hid ho1
  clear hal ho1
  go_wp2_with fail
  refine (large9_any (HA.out.quiet HO1.out) HFA.out (by omega)).mono ?_
  rintro e w2 ⟨ba1, rfl, hsa, ho2⟩
  have HO2 := Lib.hid (HO1.out.trans ho2); have HSA := Lib.hid hsa
  clear ho2 hsa
  cases ba1 with
  | true =>
    go_wp2_with fail
    go_ret
    exact ⟨rfl, HO2.out⟩
  | false =>
  go_wp2_with fail
  refine (large9_any (HB.out.quiet HO2.out) HFB.out (by omega)).mono ?_
  rintro e w3 ⟨bb1, rfl, hsb, ho3⟩
  have HO3 := Lib.hid (HO2.out.trans ho3); have HSB := Lib.hid hsb
  clear ho3 hsb
  cases bb1 with
  | true =>
    go_wp2_with fail
    go_ret
    exact ⟨rfl, HO3.out⟩
  | false =>
  have hsa := HSA.out trivial
  have hsb := HSB.out rfl
  unfold SmallE at hsa hsb
  have HDA : Hid (∀ x ∈ xs, x.2.data.length ≤ 400999) := fun x hx => (hsa.2 x hx).2.2
  have hla := hsa.1
  have hlb := hsb.1
  clear hsa hsb
  go_wp2_with fail
  refine (tcopy_any (HA.out.quiet HO3.out) (fun x hx => by have := HDA.out x hx; omega) (by omega)).mono ?_
  rintro e w4 ⟨ca, cc, us, rfl, hcr, hus, ho4⟩
  have hul : us.length = xs.length := by rw [← ens_len, hus, ens_len]
  have HO4 := Lib.hid (HO3.out.trans ho4); have HCR := Lib.hid hcr; have HUS := Lib.hid hus; have HUL := Lib.hid hul
  have HN0 : Hid (w.heap.size ≤ w3.heap.size) := HO3.out.size
  clear hcr hus ho4 hul
  go_wp2_with fail
  refine (tSame_any (HA.out.quiet HO4.out) (HB.out.quiet HO4.out) (by omega)).mono ?_
  rintro e w5 ⟨rfl, ho5⟩
  have HO5 := Lib.hid (HO4.out.trans ho5); have H45 := Lib.hid ho5
  clear ho5
  go_wp2_with fail
  refine (r9Same_any (HA.out.quiet HO5.out) (HB.out.quiet HO5.out) (by omega) (by omega)).mono ?_
  rintro e w6 ⟨rfl, ho6⟩
  have HO6 := Lib.hid (HO5.out.trans ho6); have H46 := Lib.hid (H45.out.trans ho6)
  clear ho6
  have HT : Hid (Calls Tryd.prog 30 #[.slice aa xs.length ac, .slice ca us.length cc] w6 fun e w' => e = .returned (.bool true) ∧ Only (fun _ => False) w6 w') := by
    have := tSame_any (HA.out.quiet HO6.out) ((HCR.out.keep H46.out).ents) (by omega)
    rw [HUS.out, Tr.sameL_iff.2 rfl] at this
    exact this
  generalize Tr.sameL (ens xs) (ens ys) = SB
  have hSB : (SB != SB) = false := by cases SB <;> rfl
  go_wp2_with fail
  refine HT.out.mono ?_
  rintro e w7 ⟨rfl, ho7⟩
  have HO7 := Lib.hid (HO6.out.trans ho7); have H47 := Lib.hid (H46.out.trans ho7)
  clear ho7 HT
  go_wp2_with fail
  go_loopw [6, 36] (fun lv iv wr => ∃ (i : Nat) (G lc : Nat), i ≤ us.length ∧ iv = .int .i64 i ∧ lv = .slice (some ⟨G, 0, none⟩) i lc ∧ LRow w7.heap.size wr (.slice (some ⟨G, 0, none⟩) i lc) ((us.take i).map (·.1)) ∧ Only (fun _ => False) w7 wr) (fun _ iv _ => us.length - (intOf iv).toNat)
  case atStart =>
    refine ⟨0, _, _, Nat.zero_le _, rfl, rfl, ⟨?_, fun q hq => ?_⟩, Only.alloc _⟩
    · exact World.ownsRow_made w7 #[] 0 (Nat.zero_le _) (Nat.zero_le _) rfl
    · have : w7.heap.size = q := Option.some.inj hq
      omega
  case round =>
    obtain ⟨i, G, lc, hi, rfl, rfl, hlr, ho⟩ := hrel
    by_cases hlt : i < us.length
    · obtain ⟨g1, o1, a1, c1, rfl, hg1, k0, k1, k2, k3, k4, k5, k6, k7, hv1, hb1⟩ := ((HCR.out.keep (H47.out.trans ho)).ents).at_ hlt
      have pz : 0 ≤ (i : Int) := by omega
      have mz : (i : Int) < (us.length : Int) := by omega
      have hi4 : i < 400 := by have := HUL.out; omega
      have ht : (us.take i).length = i := by rw [List.length_take]; omega
      have et : (us.take (i + 1)).map (·.1) = (us.take i).map (·.1) ++ [.slice a1 us[i].2.data.length c1] := by
        rw [List.take_add_one, List.getElem?_eq_getElem hlt, List.map_append]
        simp [hv1]
      have HET := Lib.hid et; have HO := Lib.hid ho; have HL := Lib.hid hlr; have HTL := Lib.hid ht; have HLT := Lib.hid hlt
      have HRX : Hid (∀ X Y : Obj, ((wr.alloc X).alloc Y).ownsRow 0 39 1 (.slice (some ⟨G, 0, none⟩) i lc) i ((us.take i).map (·.1))) := fun X Y => by
        have := (hlr.quiet ((Only.alloc X).trans (Only.alloc Y))).row
        rw [List.length_map, ht] at this
        exact this
      clear et ho hlr hb1 hv1 ht
      generalize us[i].2.path = P0 at *
      generalize us[i].2.kind = P1 at *
      generalize us[i].2.mode = P2 at *
      generalize us[i].2.uid = P3 at *
      generalize us[i].2.gid = P4 at *
      generalize us[i].2.time = P5 at *
      generalize us[i].2.link = P6 at *
      generalize us[i].2.data.length = P7 at *
      go_wp2_with (at_builtin; refine wpList_append_vals _ rfl _ _ rfl _ _ i ((us.take i).map (·.1)) rfl rfl (HRX.out _ _) (one_val' (by simp) _) (by intro u hu; rw [List.mem_singleton] at hu; subst hu; rfl) (by rw [List.length_singleton]; have := HUL.out; omega) ?_; intro a8 c8 w8 hown hgr hat hsome; have HOWN := Lib.hid hown; have HGR := Lib.hid hgr; have HAT := Lib.hid hat; have HSM := Lib.hid hsome; clear hown hgr hat hsome; rw [List.length_singleton])
      have hn := HOWN.out
      rw [List.length_singleton] at hn
      obtain ⟨G', hG'⟩ : ∃ G', a8 = some ⟨G', 0, none⟩ := by
        rcases hn.2 with ⟨e, h0⟩ | ⟨g, _, _, e, _⟩
        · omega
        · exact ⟨g, (Value.slice.inj e).1⟩
      subst hG'
      have hap := HL.out.app (n := i + 1) ((Only.alloc _).trans (Only.alloc _)) HO.out.size (by rw [List.length_map, HTL.out]; rfl) hn (by have := HAT.out; rw [List.length_singleton] at this; exact this)
      rw [← HET.out] at hap
      have hob : Only (fun _ => False) w7 w8 := (HO.out.trans ((Only.alloc _).trans (Only.alloc _))).andThen (Only.of_grown HGR.out) (fun k hk e => by
        have := HL.out.own k e.symm
        omega)
      exact ⟨⟨i + 1, G', c8, HLT.out, by go_num, rfl, hap, hob⟩, by simp [intOf]; omega⟩
    · have hin : i = us.length := by omega
      subst hin
      rw [List.take_of_length_le (Nat.le_refl _)] at hlr
      have h47 := H47.out.trans ho
      have hown := ((HCR.out.keep h47).owns)
      have hlr2 : LRow w7.heap.size wr (.slice (some ⟨G, 0, none⟩) us.length lc) ((rsOf us).map (·.1)) := by unfold rsOf; rw [List.map_map]; exact hlr
      have hHA := HA.out.quiet (HO7.out.trans ho)
      have HHA := Lib.hid hHA; have HO := Lib.hid (HO7.out.trans ho); have HLR := Lib.hid hlr2; have HOW := Lib.hid hown; have H4 := Lib.hid h47
      clear hlr ho h47 hown hlr2 hHA
      go_wp2_with fail
      refine (r9copy_any HHA.out (fun x hx => by have := HDA.out x hx; omega) (by omega)).mono ?_
      rintro e w9 ⟨wa, wc, zs, rfl, hzs, hze, ho9⟩
      have hul := HUL.out
      have hlen : ((rsOf us).map fun r => (r.1, r.2.length)).length = us.length := by simp [rsOf]
      obtain ⟨hr1, hdd⟩ := apart_of (HOW.out.keep ho9 (fun _ _ _ _ x => x)) (HLR.out.quiet ho9) (fun r hr => by
        obtain ⟨y, hy, rfl⟩ := List.mem_map.1 hr
        have h1 : y.2 ∈ ens xs := by rw [← HUS.out]; exact List.mem_map_of_mem hy
        obtain ⟨x, hx, h2⟩ := List.mem_map.1 h1
        have := HDA.out x hx
        rw [h2] at this
        show y.2.data.length ≤ 1048576
        omega)
      have hlow : Hid (∀ q, (∃ i, ∃ (h : i < ((rsOf us).map fun (r : Value × List UInt8) => (r.1, r.2.length)).length), ((rsOf us).map fun (r : Value × List UInt8) => (r.1, r.2.length))[i].1.ownBlock = some q) → w3.heap.size ≤ q ∧ q < wr.heap.size) := by
        rintro q ⟨i, hi, he⟩
        have hi' : i < (rsOf us).length := by simpa using hi
        simp only [List.getElem_map] at he
        exact ⟨HOW.out.low _ (List.getElem_mem hi') q he, ((HOW.out.row _ (List.getElem_mem hi')).lt q he).2⟩
      have hap : Calls Tryd.prog 32 #[.slice (some ⟨G, 0, none⟩) ((rsOf us).map fun r => (r.1, r.2.length)).length lc] w9 fun e w' => e = .returned (.bool true) ∧ Only (fun q => w3.heap.size ≤ q ∧ q < wr.heap.size) w9 w' := (apart_any (c := lc) hr1 hdd (by rw [hlen]; omega)).mono (fun e w' h => ⟨h.1, h.2.mono (fun q _ hq => hlow.out q hq)⟩)
      rw [hlen] at hap
      have HAP := Lib.hid hap
      have HO9 := Lib.hid ho9; have HZS := Lib.hid hzs; have HZE := Lib.hid hze
      clear hap hr1 hdd hlow hlen hul ho9 hzs hze
      go_wp2_with fail
      refine HAP.out.mono ?_
      rintro e w10 ⟨rfl, ho10'⟩
      have hall : Only (fun _ => False) w w10 := (HO.out.trans HO9.out).andThen ho10' (fun k hk e => by have := HN0.out; omega)
      have hxs := HA.out.quiet hall
      have hzs : EntsAt w10 (fun k => k < w10.heap.size) (.slice wa zs.length wc) zs := HZS.out.kept (fun k hk => ho10'.block k hk.2 (fun e => by have h1 := hk.1; have h2 := e.2; omega)) (fun k hk => Nat.lt_of_lt_of_le hk.2 ho10'.size)
      have hts := tSame_any hxs hzs (by omega)
      rw [HZE.out, Tr.sameL_iff.2 rfl] at hts
      have HTS := Lib.hid hts; have HALL := Lib.hid hall
      clear hts hzs hxs hall ho10'
      go_wp2_with fail
      refine HTS.out.mono ?_
      rintro e w11 ⟨rfl, ho11⟩
      have HFIN := Lib.hid (HALL.out.trans ho11)
      clear ho11
      go_wp2_with fail
      go_ret
      exact ⟨rfl, HFIN.out⟩

end Go.Proofs.YtikkfmmdgicigaaDoor

namespace Go.Proofs.YtikkfmmdgicigaaDoor
open Go.ChangeShapes Go.WideShapes Go.ChangeAt Go.RowKit
open Go.ChangeMaps (open_string)

set_option maxRecDepth 100000 in
theorem treeSames_lifted (os : Os) (started : os.Started) (H : Type) (enc : TypeId × Value → H) :
    ReturnsInHanded {} Tryd.checked os 6 .any (fun w args => (Rows.treeSamesSpec.pre enc Tryd.prog Tryd.f6 [] false w args ∧ laidMetH Tryd.prog laidList w) ∧ sizedMet enc Tryd.prog Tryd.f6 (OpenSpec.ofChange Rows.treeSamesSpec) false w args)
      (Rows.treeSamesSpec.post enc Tryd.prog Tryd.f6 false true false false) := by
  refine returnsInHanded_of_change_and (C := Tryd.checked) (X := fun w _ => laidMetH Tryd.prog laidList w) (fun _ _ _ hh h => h.of_heap hh) own_knob started (by kernel_rfl) Tryd.func6
    (ChangeSpec.witness_shaped (enc := enc) (C := Tryd.checked) (os := os) (X := fun w _ => laidMetH Tryd.prog laidList w) false (World.laidAll Tryd.prog os laidList) #[.slice none 0 0, .slice none 0 0] 8 (World.laidAll_os _ _ _) (laid_shaped os) (by kernel_rfl) (by kernel_rfl) (by kernel_rfl) (laid_met os _)) ?_
  intro W base args ds gs before hval0 hW _ hsz hL _
  have hval : ∀ (j : Nat) t v, Tryd.f6.params[j]? = some t → args[j]? = some v → Value.okWide Tryd.prog W .any base t v := hval0
  have hW' := hW
  obtain ⟨p, q, hA0, hV, rfl, hfz, hnd⟩ := hW
  have hA : DataW.TrodAll enc Tryd.prog W 0 (fun _ => true) true Tryd.f6.params.toList args.toList ds p := hA0
  have hsz1 : (DataW.weightsEach Tryd.prog (Tryd.f6.params.toList ++ Rows.treeSamesSpec.plain.varTypes Tryd.prog) (ds ++ gs)).all (· ≤ reachBytes) = true := hsz
  rw [Tryd.params6] at hA hval hsz1
  obtain ⟨v0, v1, d0, d1, p0, p1, rfl, rfl, rfl, h0, h1⟩ := trodAll_two hA
  obtain ⟨rfl, rfl⟩ := trodVars_none hV
  have k0 := h0
  have k1 := h1
  have lt0 : ∀ x ∈ p0, x.block < W.heap.size := by obtain ⟨m, hm⟩ := k0; exact DataW.trod_lt m _ _ _ hm
  have lt1 : ∀ x ∈ p1, x.block < W.heap.size := by obtain ⟨m, hm⟩ := k1; exact DataW.trod_lt m _ _ _ hm
  obtain ⟨es0, he0, hf0, hn0⟩ := ents_arg (hval 0 22 v0 rfl rfl) h0 (small_of hsz1 (j := 0) rfl rfl)
  obtain ⟨es1, he1, hf1, hn1⟩ := ents_arg (hval 1 22 v1 rfl rfl) h1 (small_of hsz1 (j := 1) rfl rfl)
  have hU := of_laid hL
  clear hA0 hval0
  refine (treeSames_any he0 hf0 hn0 he1 hf1 hn1 hU).mono fun e W' ⟨he, ho⟩ => ?_
  subst he
  have bel : Below W.heap.size W W' := ho.below (Nat.le_refl _) (fun _ _ x => x)
  exact ⟨_, rfl, _, _, _, [], _, [], hW', trodAll_mk1 (shut_bool Tryd.underlying4 _), trodAll_mk2 (Below.trod laid_out (by kernel_rfl) (of_decide_eq_true (by kernel_rfl)) k0 bel lt0) (Below.trod laid_out (by kernel_rfl) (of_decide_eq_true (by kernel_rfl)) k1 bel lt1), rfl, bel.frame _, fun h => by cases h⟩

theorem treeSames_holds : Rows.TreeSamesSaid :=
  OpenClaim.holds_of_wide 6 Tryd.f6 rfl rfl rfl rfl rfl rfl rfl ⟨rfl, rfl, rfl, rfl, rfl⟩ rfl rfl rfl rfl rfl (by kernel_rfl) Tryd.func6 (by kernel_rfl)
    (of_decide_eq_true (by kernel_rfl)) (by unfold Func.isWrapper; first | (rw [if_pos (by decide +kernel)]; kernel_rfl) | (rw [if_neg (by decide +kernel)]; exact ⟨rfl, rfl⟩))
    (fun os started H enc _ => treeSames_lifted os started H enc)

theorem treeSames_card : Rows.TreeSamesCardSaid :=
  Claim7.holds_tied_plain_at .later [] [.data, .pinned] true Rows.treeSamesCard.stood.harness true
    treeSames_holds (fun _ h => by cases h) (by kernel_rfl) (fun _ h => by cases h) treeSames_row_tie rfl ⟨rfl, rfl⟩ (by kernel_rfl) rfl
    (fun f fn hf hfn => by
      obtain rfl : f = 6 := Option.some.inj ((show Tryd.prog.funcNamed "amphora/amphoralaw09.TreeSames" = some 6 by kernel_rfl).symm.trans hf) |>.symm
      obtain rfl : fn = Tryd.f6 := (Option.some.inj (Tryd.func6.symm.trans hfn)).symm
      exact ⟨by kernel_rfl, fun j t ht => by
        rw [Tryd.params6] at ht
        have hm : t ∈ [22] := by simpa using Array.mem_of_getElem? ht
        have hall : ([22].all fun u => !Tryd.prog.wantsStandIn u) = true := by kernel_rfl
        exact (show Tryd.prog.wantsStandIn t = false by simpa using List.all_eq_true.1 hall t hm)⟩)
    (by kernel_rfl)

end Go.Proofs.YtikkfmmdgicigaaDoor
