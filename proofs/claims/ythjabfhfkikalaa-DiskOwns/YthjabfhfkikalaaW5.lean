/- alter. Conditions: counts far from an int's end; names no longer than Go's own limit. -/
import Derived.Test.YthjabfhfkikalaaW4
import Derived.StillTailTactics
import Derived.Deep.AppendLies
import Derived.Deep.RegionLaw
import Derived.BigRegion
namespace Go.Proofs.Ythjabfhfkikalaa
open Go.RowKit Go.Maps Go.WideMaps

theorem info_change : (Try.prog.info? 82).map (fun i => (i.zero, i.size, i.bytes)) = some (some (.agg #[.string ⟨#[]⟩, .string ⟨#[]⟩, .pointer none]), 3, 40) := by kernel_rfl

set_option maxHeartbeats 400000 in
theorem alter_fails {w : World} {b : Nat} {ρ : Roles} {L : Lay} {s : Dm.St} (h : Rep w b ρ L s) (hwf : s.WF) (hst : s.steps < 2 ^ 62) (s1 s2 : ByteArray) (p : Option Addr) (c : Dm.Chg) (nf : List Dm.Fil) (he : s.step.1 ≠ 0) :
    Calls Try.prog 48 #[.pointer (some ⟨b, 0, none⟩), .agg #[.string s1, .string s2, .pointer p]] w (OpPost b ρ w (s.alter c nf)) := by
  have hal : Only (fun _ => False) w (w.alloc (.cells #[.string s1, .string s2, .pointer p] 82)) := Only.alloc _
  have hs := step_rep (h.only_none hal) hwf hst
  rw [errV_pos he] at hs
  have e : s.alter c nf = (s.step.1, s.step.2) := by simp [Dm.St.alter, he]
  rw [e]
  generalize hx : s.step.1 = x at *
  generalize s.step.2 = t at *
  have HL : Hid (∀ g, L.fo = some g → ρ g = some .fails) := h.rf
  have HB : Hid (ρ b = some .disk) := h.rb
  have HA := Lib.hid hal
  have HE := Lib.hid he
  clear e he hal h hwf hst hx
  go_enter Try.func48, Try.ntmps48
  go_wp2_with (go_at_call 50; refine hs.mono ?_; rintro e w' ⟨rfl, L', hr, -, -, -, -, ho⟩; have HR := Lib.hid hr; have HO := Lib.hid ho; clear hr ho)
  go_ret
  refine ⟨by rw [errV_pos HE.out]; rfl, ρ, L', HR.out, (Moves.none HA.out).trans (Moves.of_only HO.out ?_)⟩
  rintro k _ (rfl | hk)
  · rw [HB.out]; simp
  · rw [HL.out k hk.symm]; simp

theorem str_data (n : ByteArray) : str n.data.toList = .string n := by simp [str]

/-- What stands behind an alter that was done. -/
theorem alter_end {w w2 w4 w5 : World} {b : Nat} {ρ : Roles} {L L' : Lay} {s : Dm.St} {c : Dm.Chg} {nf : List Dm.Fil} {nfl : List Fl} {d' : Dm.Dir} {o o' : Obj} {gg cap : Nat} {news : List Value}
    (HH : Rep w b ρ L s) (HW : s.WF) (HR : Rep w2 b ρ L' s.step.2) (HL1 : L'.dir = L.dir) (HL2 : L'.syn = L.syn) (_ : L'.cv = L.cv) (HL4 : L'.fls = L.fls)
    (HO : Only (fun k => k = b ∨ some k = L.fo) (w.alloc o) w2) (HO24 : Only (fun k => k = L.dir) w2 w4) (HD4 : DirAt w4 L.dir d') (hd' : d' = phys (L.fls ++ nfl) (Dm.app s.dir c))
    (HOWN : w5.ownsRow 0 82 3 (.slice (some ⟨gg, 0, none⟩) (s.chg.length + 1) cap) (s.chg.length + 1) (s.chg.flatMap (chgCells L.fls) ++ news)) (hnews : news = chgCells (L.fls ++ nfl) c)
    (HGROW : (w4.alloc o').drew.grownBy w5 L.cv.ownBlock) (HAT : L.cv.ownBlock = some gg ∨ gg = w4.heap.size + 1)
    (hn : nfl.length = nf.length) (hnf : ∀ j f, nf[j]? = some f → ∃ fl, nfl[j]? = some fl ∧ FileAt w ρ (s.files.length + j) fl f) :
    ∃ ρ' L'', Rep (w5.setCell ⟨b, 8, none⟩ (.slice (some ⟨gg, 0, none⟩) (s.chg.length + 1) cap)) b ρ' L'' { s.step.2 with dir := Dm.app s.dir c, chg := s.chg ++ [c], files := s.files ++ nf } ∧
      Moves ρ ρ' w (w5.setCell ⟨b, 8, none⟩ (.slice (some ⟨gg, 0, none⟩) (s.chg.length + 1) cap)) := by
  obtain ⟨e1, e2, e3, e4, e5, e6, _⟩ := s.step_same
  have z12 : w.heap.size < w2.heap.size := by have := HO.size; simp at this; omega
  have z24 := HO24.size
  have z45 : w4.heap.size < w5.heap.size := by have := HGROW.size; simp at this; omega
  -- blocks behind it
  have k5 : ∀ k, k < w4.heap.size → ρ k ≠ some .disk → ρ k ≠ some .chg → (w5.setCell ⟨b, 8, none⟩ (.slice (some ⟨gg, 0, none⟩) (s.chg.length + 1) cap)).heap[k]? = w4.heap[k]? := by
    intro k hk h1 h2
    rw [heap_setCell_ne _ _ (fun e => h1 (by rw [show k = b from e]; exact HH.rb))]
    rw [HGROW.block k (by simp; omega) (fun e => h2 (HH.rc k e.symm))]
    exact Below.heap_alloc _ _ _ hk
  have k2 : ∀ k r, ρ k = some r → r ≠ .disk → r ≠ .chg → r ≠ .map → (w5.setCell ⟨b, 8, none⟩ (.slice (some ⟨gg, 0, none⟩) (s.chg.length + 1) cap)).heap[k]? = w2.heap[k]? := by
    intro k r hr h1 h2 h3
    have hk := HR.low k (by rw [hr]; simp)
    rw [k5 k (by omega) (by rw [hr]; simpa using h1) (by rw [hr]; simpa using h2)]
    exact HO24.block k hk (fun e => by rw [e, HH.rd] at hr; exact h3 (Option.some.inj hr).symm)
  have k0 : ∀ k r, ρ k = some r → k < w.heap.size → r ≠ .disk → r ≠ .chg → r ≠ .map → r ≠ .fails → (w5.setCell ⟨b, 8, none⟩ (.slice (some ⟨gg, 0, none⟩) (s.chg.length + 1) cap)).heap[k]? = w.heap[k]? := by
    intro k r hr hk h1 h2 h3 h4
    rw [k2 k r hr h1 h2 h3, HO.block k (by simp; omega) ?_]
    · exact Below.heap_alloc _ _ _ hk
    · rintro (e | e)
      · rw [e, HH.rb] at hr; exact h1 (Option.some.inj hr).symm
      · rw [HH.rf k e.symm] at hr; exact h4 (Option.some.inj hr).symm
  have hg0 : ρ gg = some .chg ∨ (ρ gg = none ∧ w4.heap.size < gg) := by
    rcases HAT with h | h
    · exact .inl (HH.rc gg h)
    · refine .inr ⟨?_, by omega⟩
      cases hx : ρ gg with
      | none => rfl
      | some r => have := HR.low gg (by rw [hx]; simp); omega
  have hrk : ∀ k, ρ k ≠ none → (if k = gg then some Role.chg else ρ k) = ρ k := by
    intro k hk
    split
    · rename_i e; subst e
      rcases hg0 with h | h
      · exact h.symm
      · exact absurd h.1 hk
    · rfl
  have hgb : gg ≠ b := fun e => by
    rcases hg0 with h | h
    · rw [e, HH.rb] at h; cases h
    · rw [e, HH.rb] at h; cases h.1
  have hb5 : w5.heap[b]? = w4.heap[b]? := (HGROW.block b (by have := HR.blk.lt; simp; omega) (fun e => by have := HH.rc b e.symm; rw [HH.rb] at this; cases this)).trans (Below.heap_alloc _ _ _ (by have := HR.blk.lt; omega))
  have hb4 : w4.heap[b]? = w2.heap[b]? := HO24.block b HR.blk.lt (fun e => by have := HH.rd; rw [← e, HH.rb] at this; cases this)
  refine ⟨fun k => if k = gg then some .chg else ρ k, ⟨L.dir, L.syn, L'.fv, L'.fo, .slice (some ⟨gg, 0, none⟩) (s.chg.length + 1) cap, L.fls ++ nfl⟩, ?_, ?_, ?_⟩
  · exact {
      blk := by
        have h0 : w5.heap[b]? = some (.cells (diskCells s.step.2.steps s.step.2.down s.step.2.armed s.step.2.left L'.fv s.step.2.size L'.dir L'.syn L'.cv) 77 (0, 0)) := by rw [hb5, hb4]; exact HR.blk
        rw [HL1, HL2] at h0
        have := heap_setCell_self h0 8 (.slice (some ⟨gg, 0, none⟩) (s.chg.length + 1) cap)
        simpa [DB, diskCells] using this
      rb := by rw [hrk _ (by rw [HH.rb]; simp)]; exact HH.rb
      fails := HR.fails.kept fun g hg => k2 g .fails (HR.rf g hg) (by simp) (by simp) (by simp)
      rf := fun g hg => by have := HR.rf g hg; rw [hrk _ (by rw [this]; simp)]; exact this
      dir := by
        show DirAt _ L.dir (phys (L.fls ++ nfl) (Dm.app s.dir c))
        rw [← hd']
        refine HD4.kept (k5 _ HD4.lt (by rw [HH.rd]; simp) (by rw [HH.rd]; simp))
      rd := by rw [hrk _ (by rw [HH.rd]; simp)]; exact HH.rd
      syn := by
        show DirAt _ L.syn (phys (L.fls ++ nfl) s.step.2.syn)
        rw [e2, phys_append nfl (fun p hp => by rw [HH.nfl]; exact HW.syn.id p hp)]
        have h2 := HR.syn
        rw [HL2, HL4, e2] at h2
        refine h2.kept ?_
        rw [k5 _ (by have := h2.lt; omega) (by rw [HH.rs]; simp) (by rw [HH.rs]; simp)]
        exact HO24.block _ h2.lt (Ne.symm HH.ne)
      rs := by rw [hrk _ (by rw [HH.rs]; simp)]; exact HH.rs
      ne := HH.ne
      chg := by
        show World.ownsRow _ 0 82 3 _ (s.chg ++ [c]).length ((s.chg ++ [c]).flatMap (chgCells (L.fls ++ nfl)))
        have el : (s.chg ++ [c]).length = s.chg.length + 1 := by simp
        rw [el, List.flatMap_append, chgs_append nfl (fun x hx i hi => by rw [HH.nfl]; exact (HW.chg x hx).made i hi)]
        have e7 : [c].flatMap (chgCells (L.fls ++ nfl)) = news := by rw [hnews]; simp
        rw [e7]
        exact ownsRow_keep HOWN fun g hg => heap_setCell_ne _ _ (by simp [Value.ownBlock] at hg; rw [← hg]; exact hgb)
      rc := fun g hg => by
        simp [Value.ownBlock] at hg
        simp [hg]
      files := fun i f hf => by
        have hf' : (s.files ++ nf)[i]? = some f := hf
        by_cases hi : i < s.files.length
        · rw [List.getElem?_append_left hi] at hf'
          obtain ⟨fl, h1, h2⟩ := HH.files i f hf'
          have l1 := HH.low fl.blk (by rw [h2.rb]; simp)
          refine ⟨fl, by show (L.fls ++ nfl)[i]? = _; rw [List.getElem?_append_left (by rw [HH.nfl]; exact hi)]; exact h1, h2.kept (k0 _ _ h2.rb l1 (by simp) (by simp) (by simp) (by simp)) (fun g hg => k0 _ _ (h2.rd g hg) (HH.low g (by rw [h2.rd g hg]; simp)) (by simp) (by simp) (by simp) (by simp)) hrk⟩
        · rw [List.getElem?_append_right (by omega)] at hf'
          obtain ⟨fl, h1, h2⟩ := hnf _ f hf'
          rw [show s.files.length + (i - s.files.length) = i by omega] at h2
          have l1 := HH.low fl.blk (by rw [h2.rb]; simp)
          refine ⟨fl, by show (L.fls ++ nfl)[i]? = _; rw [List.getElem?_append_right (by rw [HH.nfl]; omega), HH.nfl]; exact h1, h2.kept (k0 _ _ h2.rb l1 (by simp) (by simp) (by simp) (by simp)) (fun g hg => k0 _ _ (h2.rd g hg) (HH.low g (by rw [h2.rd g hg]; simp)) (by simp) (by simp) (by simp) (by simp)) hrk⟩
      nfl := by show (L.fls ++ nfl).length = (s.files ++ nf).length; simp [HH.nfl, hn]
      low := fun k hk => by
        rw [size_setCell]
        by_cases hkg : k = gg
        · subst hkg
          rcases HOWN.2 with ⟨h, _⟩ | ⟨g, cp, cur, h, _, h2, _⟩
          · cases h
          · cases h; exact lt_of_heap h2
        · simp [hkg] at hk
          have := HR.low k (by cases hx : ρ k <;> simp_all)
          omega }
  · refine ⟨?_, ?_, ?_, ?_, ?_⟩
    · exact HGROW.os.trans (HO24.os.trans HO.os)
    · exact HGROW.tape.trans (HO24.tape.trans HO.tape)
    · exact HGROW.output.trans (HO24.output.trans HO.output)
    · rw [size_setCell]; omega
    · intro k hk hns
      have hn0 : ρ k = none := by cases hx : ρ k <;> simp_all
      rw [k5 k (by omega) (by rw [hn0]; simp) (by rw [hn0]; simp), HO24.block k (by omega) (fun e => by rw [e, HH.rd] at hn0; cases hn0), HO.block k (by simp; omega) ?_]
      · exact Below.heap_alloc _ _ _ hk
      · rintro (e | e)
        · rw [e, HH.rb] at hn0; cases hn0
        · rw [HH.rf k e.symm] at hn0; cases hn0
  · intro k hk
    show (if k = gg then some Role.chg else ρ k) = ρ k
    split
    · rename_i e
      rcases hg0 with h | h
      · rw [e, h]
      · omega
    · rfl

set_option maxRecDepth 100000 in
set_option maxHeartbeats 400000 in
theorem alter_does {w : World} {b : Nat} {ρ : Roles} {L : Lay} {s : Dm.St} (h : Rep w b ρ L s) (hwf : s.WF) (hst : s.steps < 2 ^ 62) (s1 s2 : ByteArray) (p : Option Addr) (c : Dm.Chg) (nf : List Dm.Fil) (he : s.step.1 = 0) (hch : s.chg.length < 2 ^ 32)
    (d' : Dm.Dir) (nfl : List Fl) (hd' : d' = phys (L.fls ++ nfl) (Dm.app s.dir c)) (hnews : [.string s1, .string s2, .pointer p] = chgCells (L.fls ++ nfl) c)
    (hn : nfl.length = nf.length) (hnf : ∀ j f, nf[j]? = some f → ∃ fl, nfl[j]? = some fl ∧ FileAt w ρ (s.files.length + j) fl f)
    (ha : ∀ w1 : World, DirAt w1 L.dir (phys L.fls s.dir) → Calls Try.prog 40 #[.map (some L.dir), .agg #[.string s1, .string s2, .pointer p]] w1 fun e w' => e = .returned (.tuple #[]) ∧ DirAt w' L.dir d' ∧ Only (fun k => k = L.dir) w1 w') :
    Calls Try.prog 48 #[.pointer (some ⟨b, 0, none⟩), .agg #[.string s1, .string s2, .pointer p]] w (OpPost b ρ w (s.alter c nf)) := by
  have hal : Only (fun _ => False) w (w.alloc (.cells #[.string s1, .string s2, .pointer p] 82)) := Only.alloc _
  have hs := step_rep (h.only_none hal) hwf hst
  rw [he, errV_zero] at hs
  have e : s.alter c nf = (0, { s.step.2 with dir := Dm.app s.dir c, chg := s.chg ++ [c], files := s.files ++ nf }) := by simp [Dm.St.alter, he]
  rw [e]
  have HE := Lib.hid he
  have HH := Lib.hid h
  have HA := Lib.hid hal
  have HF := Lib.hid ha
  have HD := Lib.hid hd'; have HN := Lib.hid hnews; have HNL := Lib.hid hn; have HNF := Lib.hid hnf
  clear hd' hnews hn hnf
  have HW := Lib.hid hwf
  have hbl := h.blk.lt
  clear e he hal h hwf hst ha
  go_enter Try.func48, Try.ntmps48
  go_wp2_with (go_at_call 50; refine hs.mono ?_; rintro e w2 ⟨rfl, L', hr, hL1, hL2, hL3, hL4, ho⟩; have HR := Lib.hid hr; have HO := Lib.hid ho; have HL1 := Lib.hid hL1; have HL2 := Lib.hid hL2; have HL3 := Lib.hid hL3; have HL4 := Lib.hid hL4; clear hr ho hL1 hL2 hL3 hL4)
  have hL1 : L'.dir = L.dir := HL1.out
  have hc6 : w2.cell? ⟨b, 6, none⟩ = some (.map (some L.dir)) := by rw [HR.out.blk.c6, hL1]
  have hbx : w2.heap[w.heap.size]? = some (.cells #[.string s1, .string s2, .pointer p] 82) := by
    refine HO.out.keep (heap_alloc_new w _) ?_
    rintro (hx | hx)
    · omega
    · have := HH.out.low _ (by rw [HH.out.rf _ hx.symm]; simp); omega
  have hx0 : w2.cell? ⟨w.heap.size, 0, none⟩ = some (.string s1) := by rw [cell_of hbx]; rfl
  have hx1 : w2.cell? ⟨w.heap.size, 1, none⟩ = some (.string s2) := by rw [cell_of hbx]; rfl
  have hx2 : w2.cell? ⟨w.heap.size, 2, none⟩ = some (.pointer p) := by rw [cell_of hbx]; rfl
  have HX := Lib.hid hbx; clear hbx hL1
  go_still_tail 5, (by kernel_rfl)
  change wpList _ _ _ _ _ w2.drew
  have ho3 : Only (fun _ => False) w2 w2.drew := Only.drew
  have hd3 : DirAt w2.drew L.dir (phys L.fls s.dir) := by
    have := HR.out.dir
    rw [HL1.out, HL4.out, s.step_same.1] at this
    exact this
  have ha3 := HF.out _ hd3
  have HO3 := Lib.hid ho3
  clear hd3 ho3 hc6 hx0 hx1 hx2
  generalize w2.drew = w3 at *
  go_wp2_with (go_at_call 40; refine ha3.mono ?_; rintro e w4 ⟨rfl, hd4, ho4⟩; have HD4 := Lib.hid hd4; have HO4 := Lib.hid ho4; clear hd4 ho4)
  clear ha3 hs HF
  -- what w4 holds
  have ho24 : Only (fun k => k = L.dir) w2 w4 := (HO3.out.mono (fun _ _ h => h.elim)).trans HO4.out
  have hrd : ρ L.dir = some .map := HH.out.rd
  have kr : ∀ k r, ρ k = some r → r ≠ .map → w4.heap[k]? = w2.heap[k]? := fun k r hr hne => ho24.block k (HR.out.low k (by rw [hr]; simp)) (fun e => by rw [e, hrd] at hr; exact hne (Option.some.inj hr).symm)
  have hb4 : DB w4 b s.step.2 L'.fv L.dir L.syn L.cv := by
    have := HR.out.blk
    rw [HL1.out, HL2.out, HL3.out] at this
    rw [DB, kr b .disk HH.out.rb (by simp)]
    exact this
  have hc8 := hb4.c8
  have hf8 := hb4.fr 8
  have hbx : w4.heap[w.heap.size]? = some (.cells #[.string s1, .string s2, .pointer p] 82) := by
    refine ho24.keep HX.out ?_
    have := HH.out.dir.lt
    show ¬ w.heap.size = L.dir
    omega
  have hx0 : w4.cell? ⟨w.heap.size, 0, none⟩ = some (.string s1) := by rw [cell_of hbx]; rfl
  have hx1 : w4.cell? ⟨w.heap.size, 1, none⟩ = some (.string s2) := by rw [cell_of hbx]; rfl
  have hx2 : w4.cell? ⟨w.heap.size, 2, none⟩ = some (.pointer p) := by rw [cell_of hbx]; rfl
  have KR := Lib.hid kr
  have HB4 := Lib.hid hb4
  have HO24 := Lib.hid ho24
  have hcr : w4.ownsRow 0 82 3 L.cv s.chg.length (s.chg.flatMap (chgCells L.fls)) := by
    have := HR.out.chg
    rw [HL3.out, HL4.out, s.step_same.2.2.1] at this
    exact ownsRow_keep this fun g hg => kr g .chg (HH.out.rc g hg) (by simp)
  have HCR := Lib.hid hcr
  clear kr hb4 ho24 hrd hbx hcr
  obtain ⟨i0, hi0, hz0, hz1, hz2⟩ := info_parts info_change
  have h63 : s.chg.length + 1 ≤ maxLen := by unfold maxLen; omega
  have hby : (s.chg.length + 1) * 40 ≤ 140737488355328 := by omega
  have hcb : L.cv.ownBlock ≠ some b := fun e => by have := HH.out.rc b e; rw [HH.out.rb] at this; cases this
  have hb4l : b < w4.heap.size := HB4.out.lt
  have H63 := Lib.hid h63; have HBY := Lib.hid hby; clear h63 hby hch
  have HCB := Lib.hid hcb; clear hcb
  go_region_law (refine step_append_lies _ (by rfl) _ _ _ (by rfl) 0 82 i0 _ 3 40 Try.underlying75 hi0 hz0 hz1 hz2 rfl (by omega) L.cv s.chg.length _ (by rfl) ((HCR.out.alloc _).drew) ⟨w4.heap.size, 0, none⟩ 1 1 [.string s1, .string s2, .pointer p] (by rfl) (by rfl) (World.news_of_block (cs := #[.string s1, .string s2, .pointer p]) (t := 82) (fr := (0, 0)) (heap_alloc_new w4 _)) (by simp [Value.oneCell']) (by omega) H63.out HBY.out (Nat.zero_le _) (w4.heap.size + 1) (by simp) ?_; intro gg cap w5 hown5 hgrow hat hlt; have hb5 : w5.heap[b]? = w4.heap[b]? := (hgrow.block b (by simp; omega) (Ne.symm HCB.out)).trans (Below.heap_alloc w4 _ b hb4l); have hc5 : w5.cell? ⟨b, 8, none⟩ = some L.cv := (World.cell?_of_block hb5).trans hc8; have hf5 : w5.frozen? ⟨b, 8, none⟩ = false := (World.frozen?_of_block hb5).trans hf8; have HB5 := Lib.hid hb5; clear hb5; have HOWN := Lib.hid hown5; have HGROW := Lib.hid hgrow; have HAT := Lib.hid hat; clear hown5 hgrow hat)
  all_goals
    go_wp2
    go_ret
    exact ⟨rfl, alter_end HH.out HW.out HR.out HL1.out HL2.out HL3.out HL4.out HO.out HO24.out HD4.out HD.out HOWN.out HN.out HGROW.out HAT.out HNL.out HNF.out⟩

end Go.Proofs.Ythjabfhfkikalaa
