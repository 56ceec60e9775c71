/- A disk without its synced directory: what settle makes a whole one; SyncDir. Conditions: counts far from an int's end. -/
import Derived.Test.YthjabfhfkikalaaW9
namespace Go.Proofs.Ythjabfhfkikalaa
open Go.RowKit Go.Maps Go.WideMaps

structure Core (w : World) (b : Nat) (ρ : Roles) (L : Lay) (s : Dm.St) : Prop where
  blk : DB w b s L.fv L.dir L.syn L.cv
  rb : ρ b = some .disk
  fails : FailsAt w L.fv s.fails L.fo
  rf : ∀ g, L.fo = some g → ρ g = some .fails
  dir : DirAt w L.dir (phys L.fls s.dir)
  rd : ρ L.dir = some .map
  files : ∀ i f, s.files[i]? = some f → ∃ fl, L.fls[i]? = some fl ∧ FileAt w ρ i fl f
  nfl : L.fls.length = s.files.length
  low : ∀ k, ρ k ≠ none → k < w.heap.size

theorem Rep.core {w : World} {b : Nat} {ρ : Roles} {L : Lay} {s : Dm.St} (h : Rep w b ρ L s) : Core w b ρ L s :=
  ⟨h.blk, h.rb, h.fails, h.rf, h.dir, h.rd, h.files, h.nfl, h.low⟩

theorem Core.kept {w w' : World} {b : Nat} {ρ : Roles} {L : Lay} {s : Dm.St} (h : Core w b ρ L s) (hk : ∀ k, ρ k ≠ none → w'.heap[k]? = w.heap[k]?) (hz : w.heap.size ≤ w'.heap.size) : Core w' b ρ L s where
  blk := by rw [DB, hk b (by rw [h.rb]; simp)]; exact h.blk
  rb := h.rb
  fails := h.fails.kept fun g hg => hk g (by rw [h.rf g hg]; simp)
  rf := h.rf
  dir := h.dir.kept (hk _ (by rw [h.rd]; simp))
  rd := h.rd
  files := fun i f hf => by
    obtain ⟨fl, h1, h2⟩ := h.files i f hf
    exact ⟨fl, h1, h2.kept (hk _ (by rw [h2.rb]; simp)) (fun g hg => hk g (by rw [h2.rd g hg]; simp)) (fun _ _ => rfl)⟩
  nfl := h.nfl
  low := fun k hk' => Nat.lt_of_lt_of_le (h.low k hk') hz

theorem Core.only_none {w w' : World} {b : Nat} {ρ : Roles} {L : Lay} {s : Dm.St} (h : Core w b ρ L s) (ho : Only (fun _ => False) w w') : Core w' b ρ L s :=
  h.kept (fun k hk => ho.block k (h.low k hk) (fun x => x)) ho.size

/-- One file turned. -/
theorem Core.updFile {w w' : World} {b : Nat} {ρ ρ' : Roles} {L : Lay} {s : Dm.St} (h : Core w b ρ L s) {i : Nat} {f : Dm.Fil} {fl fl' : Fl} {g : Dm.Fil → Dm.Fil}
    (hf : s.files[i]? = some f) (hfl : L.fls[i]? = some fl) (hb : fl'.blk = fl.blk) (ho : Only (fun k => k = fl.blk ∨ some k = fl.v.ownBlock) w w')
    (hr : ∀ k, ρ k ≠ none → ρ' k = ρ k) (hl : ∀ k, ρ' k ≠ none → k < w'.heap.size) (hfa : FileAt w' ρ' i fl' (g f)) : Core w' b ρ' { L with fls := L.fls.set i fl' } (s.atFile i g) := by
  obtain ⟨fl0, hfl0, hfa0⟩ := h.files i f hf
  rw [hfl] at hfl0
  cases hfl0
  have hs : ∀ k r, ρ k = some r → ρ' k = some r := fun k r e => by rw [hr k (by rw [e]; simp)]; exact e
  have keep : ∀ k r, ρ k = some r → r ≠ .file i → r ≠ .data i → w'.heap[k]? = w.heap[k]? := fun k r e h1 h2 => ho.block k (h.low k (by rw [e]; simp)) (by
    rintro (hx | hx)
    · rw [hx, hfa0.rb] at e; exact h1 (Option.some.inj e).symm
    · rw [hfa0.rd k hx.symm] at e; exact h2 (Option.some.inj e).symm)
  have hi : i < L.fls.length := (List.getElem?_eq_some_iff.1 hfl).1
  obtain ⟨hp, hc⟩ := phys_blk (blkOf_set hfl hb)
  exact {
    blk := by
      have := h.blk
      rw [DB, ← keep b .disk h.rb (by simp) (by simp)] at this
      exact this
    rb := hs _ _ h.rb
    fails := h.fails.kept fun g hg => keep _ _ (h.rf g hg) (by simp) (by simp)
    rf := fun g hg => hs _ _ (h.rf g hg)
    dir := by show DirAt w' L.dir (phys (L.fls.set i fl') s.dir); rw [hp]; exact h.dir.kept (keep _ _ h.rd (by simp) (by simp))
    rd := hs _ _ h.rd
    files := fun j x hx => by
      have hx' : (s.files.modify i g)[j]? = some x := hx
      simp only [List.getElem?_modify, Option.map_eq_map, Option.map_eq_some_iff] at hx'
      obtain ⟨y, hy, rfl⟩ := hx'
      by_cases hij : i = j
      · subst hij
        rw [hf] at hy
        cases hy
        refine ⟨fl', ?_, by simpa using hfa⟩
        show (L.fls.set i fl')[i]? = some fl'
        simp [hi]
      · obtain ⟨flj, h1, h2⟩ := h.files j y hy
        refine ⟨flj, ?_, ?_⟩
        · show (L.fls.set i fl')[j]? = some flj
          rw [List.getElem?_set_ne hij]; exact h1
        · simp only [hij, if_false]
          exact h2.kept (keep _ _ h2.rb (by simp; omega) (by simp)) (fun g hg => keep _ _ (h2.rd g hg) (by simp) (by simp; omega)) hr
    nfl := by show (L.fls.set i fl').length = (s.files.modify i g).length; simp [h.nfl]
    low := hl }

/-- A file's sync, in a disk. -/
theorem fsync_core {w : World} {b : Nat} {ρ : Roles} {L : Lay} {s : Dm.St} (h : Core w b ρ L s) {i : Nat} (hi : i < s.files.length) :
    Calls Try.prog 51 #[.pointer (some ⟨blkOf L.fls i, 0, none⟩)] w fun e w' => e = .returned (.tuple #[]) ∧ Core w' b ρ L (s.atFile i Dm.Fil.sync) ∧ Only (fun k => ρ k = some (.file i)) w w' ∧ w'.heap.size = w.heap.size := by
  obtain ⟨f, hf⟩ : ∃ f, s.files[i]? = some f := ⟨_, List.getElem?_eq_getElem hi⟩
  obtain ⟨fl, hfl, hfa⟩ := h.files i f hf
  rw [blkOf_some hfl]
  obtain ⟨a, cap, hv⟩ := row_shape hfa.row
  refine (fsync_any fl.blk f.data.length cap a (.int .i64 f.synced) w (by rw [cell_of hfa.blk, hv]; rfl) (by rw [cell_of hfa.blk]; rfl) (frozen_of hfa.blk 1)).mono ?_
  rintro e w' ⟨rfl, rfl⟩
  have hil : i < L.fls.length := (List.getElem?_eq_some_iff.1 hfl).1
  have hset : L.fls.set i fl = L.fls := by
    apply List.ext_getElem?
    intro j
    by_cases hij : i = j
    · subst hij; rw [hfl, List.getElem?_set_self hil]
    · rw [List.getElem?_set_ne hij]
  refine ⟨rfl, ?_, (Only.setCell _ _).mono fun k _ hk => by rw [show k = fl.blk from hk]; exact hfa.rb, size_setCell _ _ _⟩
  have hne : ∀ g, fl.v.ownBlock = some g → g ≠ fl.blk := fun g hg e => by have := hfa.rd g hg; rw [e, hfa.rb] at this; cases this
  have := h.updFile (fl' := fl) (g := Dm.Fil.sync) hf hfl rfl ((Only.setCell _ _).mono fun _ _ h => .inl h) (fun _ _ => rfl) (fun k hk => by rw [size_setCell]; exact h.low k hk)
    ⟨heap_setCell_self hfa.blk 1 _, ownsRow_keep hfa.row fun g hg => heap_setCell_ne _ _ (hne g hg), hfa.rb, hfa.rd⟩
  rw [hset] at this
  exact this

/-- settle: a whole disk, whatever was synced before. -/
theorem settle_rep {w : World} {b : Nat} {ρ : Roles} {L : Lay} {s : Dm.St} (h : Core w b ρ L s) :
    Calls Try.prog 52 #[.pointer (some ⟨b, 0, none⟩)] w fun e w' => e = .returned (.tuple #[]) ∧ ∃ ρ' L', Rep w' b ρ' L' s.settle ∧ L'.fls = L.fls ∧ Moves ρ ρ' w w' := by
  refine (settle_any h.dir h.blk.c6 h.blk.c7 h.blk.c8 (h.blk.fr 7) (h.blk.fr 8)).mono ?_
  rintro e w' ⟨rfl, w1, rfl, hd1, ho⟩
  have hnew : w.heap.size < w1.heap.size := hd1.lt
  have hnone : ρ w.heap.size = none := by
    cases hx : ρ w.heap.size with
    | none => rfl
    | some r => have := h.low _ (by rw [hx]; simp); omega
  have hbl := h.blk.lt
  have hk : ∀ k, k < w.heap.size → k ≠ b → ((w1.setCell ⟨b, 7, none⟩ (.map (some w.heap.size))).setCell ⟨b, 8, none⟩ (.slice none 0 0)).heap[k]? = w.heap[k]? := fun k hk hb => by
    rw [heap_setCell_ne _ _ hb, heap_setCell_ne _ _ hb]; exact ho.block k hk (fun x => x)
  have kr : ∀ k r, ρ k = some r → r ≠ .disk → ((w1.setCell ⟨b, 7, none⟩ (.map (some w.heap.size))).setCell ⟨b, 8, none⟩ (.slice none 0 0)).heap[k]? = w.heap[k]? := fun k r hr hne =>
    hk k (h.low k (by rw [hr]; simp)) (fun e => by rw [e, h.rb] at hr; exact hne (Option.some.inj hr).symm)
  have hr : ∀ k, ρ k ≠ none → (if k = w.heap.size then some Role.map else ρ k) = ρ k := fun k hk => by
    rw [if_neg]; rintro rfl; exact hk hnone
  have hs : ∀ k r, ρ k = some r → (if k = w.heap.size then some Role.map else ρ k) = some r := fun k r e => by rw [hr k (by rw [e]; simp)]; exact e
  refine ⟨rfl, fun k => if k = w.heap.size then some .map else ρ k, ⟨L.dir, w.heap.size, L.fv, L.fo, .slice none 0 0, L.fls⟩, ?_, rfl, ?_, ?_⟩
  · exact {
      blk := by
        have h0 : w1.heap[b]? = some (.cells (diskCells s.steps s.down s.armed s.left L.fv s.size L.dir L.syn L.cv) 77 (0, 0)) := by rw [ho.block b hbl (fun x => x)]; exact h.blk
        have := heap_setCell_self (heap_setCell_self h0 7 (.map (some w.heap.size))) 8 (.slice none 0 0)
        simpa [DB, diskCells, Dm.St.settle] using this
      rb := hs _ _ h.rb
      fails := h.fails.kept fun g hg => kr _ _ (h.rf g hg) (by simp)
      rf := fun g hg => hs _ _ (h.rf g hg)
      dir := h.dir.kept (kr _ _ h.rd (by simp))
      rd := hs _ _ h.rd
      syn := by
        refine hd1.kept ?_
        rw [heap_setCell_ne _ _ (by show w.heap.size ≠ b; omega), heap_setCell_ne _ _ (by show w.heap.size ≠ b; omega)]
      rs := by simp
      ne := by have := h.dir.lt; show L.dir ≠ w.heap.size; omega
      chg := World.ownsRow_nil _ _ _ _
      rc := by simp [Value.ownBlock]
      files := fun i f hf => by
        obtain ⟨fl, h1, h2⟩ := h.files i f hf
        exact ⟨fl, h1, h2.kept (kr _ _ h2.rb (by simp)) (fun g hg => kr _ _ (h2.rd g hg) (by simp)) hr⟩
      nfl := h.nfl
      low := fun k hk => by
        rw [size_setCell, size_setCell]
        by_cases e : k = w.heap.size
        · omega
        · simp [e] at hk
          have := h.low k (by cases hx : ρ k <;> simp_all)
          omega }
  · refine ⟨ho.os, ho.tape, ho.output, by rw [size_setCell, size_setCell]; exact ho.size, fun k hk' hn => hk k hk' (fun e => ?_)⟩
    rw [e, h.rb] at hn; simp at hn
  · intro k hk
    show (if k = w.heap.size then some Role.map else ρ k) = ρ k
    rw [if_neg (by omega)]

set_option maxHeartbeats 400000 in
theorem syncDir_rep {w : World} {b : Nat} {ρ : Roles} {L : Lay} {s : Dm.St} (h : Rep w b ρ L s) (hwf : s.WF) (hst : s.steps < 2 ^ 62) :
    Calls Try.prog 23 #[.pointer (some ⟨b, 0, none⟩)] w (OpPost b ρ w s.syncDir) := by
  have hd1 := h.blk.c1
  have hs := step_rep h hwf hst
  have HH := Lib.hid h
  cases hdn : s.down with
  | true =>
    have e : s.syncDir = (1, s) := by simp [Dm.St.syncDir, hdn]
    rw [hdn] at hd1
    have hr := ready_down b (.slice none 0 0) w hd1
    rw [errV_pos (by omega)] at hr
    rw [e]
    clear e h hd1 hdn hs hwf hst
    go_enter Try.func23, Try.ntmps23
    go_wp2_with (go_at_call 45; refine hr.mono ?_; rintro e w' ⟨rfl, rfl⟩)
    go_ret
    exact OpPost.same HH.out (Only.refl _ _) rfl
  | false =>
    rw [hdn] at hd1
    have hr := ready_none b w hd1
    rw [errV_zero] at hr
    by_cases he : s.step.1 = 0
    · have e : s.syncDir = (0, s.step.2.settle) := by simp [Dm.St.syncDir, hdn, he]
      rw [e]
      rw [he, errV_zero] at hs
      generalize s.step.2 = t at *
      clear e h hd1 hdn hwf hst he
      go_enter Try.func23, Try.ntmps23
      go_wp2_with (first
        | (go_at_call 45; refine hr.mono ?_; rintro e w' ⟨rfl, rfl⟩)
        | (go_at_call 50; refine hs.mono ?_; rintro e w2 ⟨rfl, L', hr2, -, -, -, -, ho2⟩; have HR := Lib.hid hr2; have HO2 := Lib.hid ho2; clear hr2 ho2)
        | (go_at_call 52; refine (settle_rep HR.out.core).mono ?_; rintro e w3 ⟨rfl, ρ', L3, hr3, -, hm3⟩; have HR3 := Lib.hid hr3; have HM3 := Lib.hid hm3; clear hr3 hm3))
      go_ret
      exact ⟨rfl, ρ', L3, HR3.out, (HH.out.moves_only HO2.out).trans HM3.out⟩
    · have e : s.syncDir = (s.step.1, s.step.2) := by simp [Dm.St.syncDir, hdn, he]
      rw [e]
      rw [errV_pos he] at hs
      have HE := Lib.hid he
      generalize s.step.1 = x at *
      generalize s.step.2 = t at *
      clear e h hd1 hdn hwf hst he
      go_enter Try.func23, Try.ntmps23
      go_wp2_with (first
        | (go_at_call 45; refine hr.mono ?_; rintro e w' ⟨rfl, rfl⟩)
        | (go_at_call 50; refine hs.mono ?_; rintro e w2 ⟨rfl, L', hr2, -, -, -, -, ho2⟩; have HR := Lib.hid hr2; have HO2 := Lib.hid ho2; clear hr2 ho2))
      go_ret
      exact ⟨by rw [errV_pos HE.out]; rfl, ρ, L', HR.out, HH.out.moves_only HO2.out⟩

end Go.Proofs.Ythjabfhfkikalaa
