/- Files: sync; Sync. Conditions: counts far from an int's end; names no longer than Go's own limit. -/
import Derived.Test.YthjabfhfkikalaaW7
namespace Go.Proofs.Ythjabfhfkikalaa
open Go.RowKit Go.Maps Go.WideMaps

theorem row_shape {w : World} {e : TypeId} {size n : Nat} {v : Value} {xs : List Value} (h : w.ownsRow 0 e size v n xs) : ∃ a cap, v = .slice a n cap := by
  rcases h.2 with ⟨rfl, rfl⟩ | ⟨g, cap, cur, rfl, _⟩
  · exact ⟨none, 0, rfl⟩
  · exact ⟨_, cap, rfl⟩

theorem blkOf_set {fls : List Fl} {i : Nat} {fl fl' : Fl} (hfl : fls[i]? = some fl) (hb : fl'.blk = fl.blk) (j : Nat) : blkOf (fls.set i fl') j = blkOf fls j := by
  have hi : i < fls.length := (List.getElem?_eq_some_iff.1 hfl).1
  unfold blkOf
  by_cases hij : i = j
  · subst hij
    rw [hfl, List.getElem?_set_self hi]
    simp [hb]
  · rw [List.getElem?_set_ne hij]

/-- One file turned. -/
theorem Rep.updFile {w w' : World} {b : Nat} {ρ ρ' : Roles} {L : Lay} {s : Dm.St} (h : Rep w b ρ L s) {i : Nat} {f : Dm.Fil} {fl fl' : Fl} {g : Dm.Fil → Dm.Fil}
    (hf : s.files[i]? = some f) (hfl : L.fls[i]? = some fl) (hb : fl'.blk = fl.blk) (ho : Only (fun k => k = fl.blk ∨ some k = fl.v.ownBlock) w w')
    (hr : ∀ k, ρ k ≠ none → ρ' k = ρ k) (hl : ∀ k, ρ' k ≠ none → k < w'.heap.size) (hfa : FileAt w' ρ' i fl' (g f)) : Rep w' b ρ' { L with fls := L.fls.set i fl' } (s.atFile i g) := by
  obtain ⟨fl0, hfl0, hfa0⟩ := h.files i f hf
  rw [hfl] at hfl0
  cases hfl0
  have hs : ∀ k r, ρ k = some r → ρ' k = some r := fun k r e => by rw [hr k (by rw [e]; simp)]; exact e
  have keep : ∀ k r, ρ k = some r → r ≠ .file i → r ≠ .data i → w'.heap[k]? = w.heap[k]? := fun k r e h1 h2 => ho.block k (h.low k (by rw [e]; simp)) (by
    rintro (hx | hx)
    · rw [hx, hfa0.rb] at e; exact h1 (Option.some.inj e).symm
    · rw [hfa0.rd k hx.symm] at e; exact h2 (Option.some.inj e).symm)
  have hi : i < L.fls.length := (List.getElem?_eq_some_iff.1 hfl).1
  have hblk : ∀ j, blkOf (L.fls.set i fl') j = blkOf L.fls j := blkOf_set hfl hb
  obtain ⟨hp, hc⟩ := phys_blk hblk
  exact {
    blk := by
      have := h.blk
      rw [DB, ← keep b .disk h.rb (by simp) (by simp)] at this
      exact this
    rb := hs _ _ h.rb
    fails := h.fails.kept fun g hg => keep _ _ (h.rf g hg) (by simp) (by simp)
    rf := fun g hg => hs _ _ (h.rf g hg)
    dir := by show DirAt w' L.dir (phys (L.fls.set i fl') s.dir); rw [hp]; exact h.dir.kept (keep _ _ h.rd (by simp) (by simp))
    rd := hs _ _ h.rd
    syn := by show DirAt w' L.syn (phys (L.fls.set i fl') s.syn); rw [hp]; exact h.syn.kept (keep _ _ h.rs (by simp) (by simp))
    rs := hs _ _ h.rs
    ne := h.ne
    chg := by
      show w'.ownsRow 0 82 3 L.cv s.chg.length (s.chg.flatMap (chgCells (L.fls.set i fl')))
      rw [hc]
      exact ownsRow_keep h.chg fun g hg => keep _ _ (h.rc g hg) (by simp) (by simp)
    rc := fun g hg => hs _ _ (h.rc g hg)
    files := fun j x hx => by
      have hx' : (s.files.modify i g)[j]? = some x := hx
      simp only [List.getElem?_modify, Option.map_eq_map, Option.map_eq_some_iff] at hx'
      obtain ⟨y, hy, rfl⟩ := hx'
      by_cases hij : i = j
      · subst hij
        rw [hf] at hy
        cases hy
        refine ⟨fl', ?_, by simpa using hfa⟩
        show (L.fls.set i fl')[i]? = some fl'
        simp [hi]
      · obtain ⟨flj, h1, h2⟩ := h.files j y hy
        refine ⟨flj, ?_, ?_⟩
        · show (L.fls.set i fl')[j]? = some flj
          rw [List.getElem?_set_ne hij]; exact h1
        · simp only [hij, if_false]
          exact h2.kept (keep _ _ h2.rb (by simp; omega) (by simp)) (fun g hg => keep _ _ (h2.rd g hg) (by simp) (by simp; omega)) hr
    nfl := by show (L.fls.set i fl').length = (s.files.modify i g).length; simp [h.nfl]
    low := hl }

set_option maxHeartbeats 400000 in
theorem fsync_any (F n cap : Nat) (a : Option Addr) (u : Value) (w : World) (h0 : w.cell? ⟨F, 0, none⟩ = some (.slice a n cap)) (h1 : w.cell? ⟨F, 1, none⟩ = some u) (f1 : w.frozen? ⟨F, 1, none⟩ = false) :
    Calls Try.prog 51 #[.pointer (some ⟨F, 0, none⟩)] w fun e w' => e = .returned (.tuple #[]) ∧ w' = w.setCell ⟨F, 1, none⟩ (.int .i64 n) := by
  go_enter Try.func51, Try.ntmps51
  go_wp2
  go_end0
  exact ⟨rfl, rfl⟩

/-- A file's sync, in a disk. -/
theorem fsync_rep {w : World} {b : Nat} {ρ : Roles} {L : Lay} {s : Dm.St} (h : Rep w b ρ L s) {i : Nat} (hi : i < s.files.length) :
    Calls Try.prog 51 #[.pointer (some ⟨blkOf L.fls i, 0, none⟩)] w fun e w' => e = .returned (.tuple #[]) ∧ (∃ L', Rep w' b ρ L' (s.atFile i Dm.Fil.sync) ∧ L'.dir = L.dir ∧ L'.syn = L.syn ∧ (∀ j, blkOf L'.fls j = blkOf L.fls j)) ∧ Only (fun k => ρ k = some (.file i)) w w' ∧ w'.heap.size = w.heap.size := by
  obtain ⟨f, hf⟩ : ∃ f, s.files[i]? = some f := ⟨_, List.getElem?_eq_getElem hi⟩
  obtain ⟨fl, hfl, hfa⟩ := h.files i f hf
  rw [blkOf_some hfl]
  obtain ⟨a, cap, hv⟩ := row_shape hfa.row
  refine (fsync_any fl.blk f.data.length cap a (.int .i64 f.synced) w (by rw [cell_of hfa.blk, hv]; rfl) (by rw [cell_of hfa.blk]; rfl) (frozen_of hfa.blk 1)).mono ?_
  rintro e w' ⟨rfl, rfl⟩
  have hil : i < L.fls.length := (List.getElem?_eq_some_iff.1 hfl).1
  refine ⟨rfl, ⟨{ L with fls := L.fls.set i fl }, h.updFile hf hfl rfl ((Only.setCell _ _).mono fun _ _ h => .inl h) (fun _ _ => rfl) (fun k hk => by rw [size_setCell]; exact h.low k hk) ?_, rfl, rfl, ?_⟩, (Only.setCell _ _).mono fun k _ hk => by rw [show k = fl.blk from hk]; exact hfa.rb, size_setCell _ _ _⟩
  · have hne : ∀ g, fl.v.ownBlock = some g → g ≠ fl.blk := fun g hg e => by have := hfa.rd g hg; rw [e, hfa.rb] at this; cases this
    exact ⟨heap_setCell_self hfa.blk 1 _, ownsRow_keep hfa.row fun g hg => heap_setCell_ne _ _ (hne g hg), hfa.rb, hfa.rd⟩
  · exact blkOf_set hfl rfl

theorem Rep.moves_only {w w' : World} {b : Nat} {ρ : Roles} {L : Lay} {s : Dm.St} (h : Rep w b ρ L s) (ho : Only (fun k => k = b ∨ some k = L.fo) w w') : Moves ρ ρ w w' :=
  Moves.of_only ho (by
    rintro k _ (rfl | hk)
    · rw [h.rb]; simp
    · rw [h.rf k hk.symm]; simp)

set_option maxHeartbeats 400000 in
theorem sync_rep {w : World} {b : Nat} {ρ : Roles} {L : Lay} {s : Dm.St} (h : Rep w b ρ L s) (hwf : s.WF) (hst : s.steps < 2 ^ 62) (n : ByteArray) (hn : n.size ≤ maxLen) :
    Calls Try.prog 22 #[.pointer (some ⟨b, 0, none⟩), .string n] w (OpPost b ρ w (s.sync n.data.toList)) := by
  rcases s.find_cases n.data.toList with ⟨i, hi⟩ | ⟨x, hx, hx0⟩
  · have hf := find_ok h n hn hi
    obtain ⟨_, _, hget⟩ := Dm.St.find_some hi
    have HI : Hid (i < s.files.length) := hwf.dir.id _ (Dm.get_mem hget)
    have HH := Lib.hid h
    have HS : Hid (∀ w1, Only (fun _ => False) w w1 → Calls Try.prog 50 #[.pointer (some ⟨b, 0, none⟩)] w1 fun e w' => e = .returned (errV s.step.1) ∧ ∃ L', Rep w' b ρ L' s.step.2 ∧ L'.dir = L.dir ∧ L'.syn = L.syn ∧ L'.cv = L.cv ∧ L'.fls = L.fls ∧ Only (fun k => k = b ∨ some k = L.fo) w1 w') :=
      fun w1 ho => step_rep (h.only_none ho) hwf hst
    have HF4 : Hid (s.step.2.files = s.files) := s.step_same.2.2.2.1
    by_cases he : s.step.1 = 0
    · have e : s.sync n.data.toList = (0, s.step.2.atFile i Dm.Fil.sync) := by simp [Dm.St.sync, hi, he]; rfl
      rw [e]
      rw [he, errV_zero] at HS
      generalize s.step.2 = t at *
      clear e hi h hn hwf hst he hget
      go_enter Try.func22, Try.ntmps22
      go_wp2_with (first
        | (go_at_call 44; refine hf.mono ?_; rintro e w1 ⟨rfl, ho⟩; have hs := HS.out _ ho; have HO := Lib.hid ho; clear ho)
        | (go_at_call 50; refine hs.mono ?_; rintro e w2 ⟨rfl, L', hr, -, -, -, hL4, ho2⟩; have HR := Lib.hid hr; have HL4 := Lib.hid hL4; have HO2 := Lib.hid ho2; clear hr hL4 ho2)
        | (go_at_call 51; refine (show Calls Try.prog 51 #[.pointer (some ⟨blkOf L.fls i, 0, none⟩)] w2 _ by have := fsync_rep HR.out (i := i) (by rw [HF4.out]; exact HI.out); rw [HL4.out] at this; exact this).mono ?_; rintro e w3 ⟨rfl, ⟨L3, hr3, -⟩, ho3, -⟩; have HR3 := Lib.hid hr3; have HO3 := Lib.hid ho3; clear hr3 ho3))
      go_ret
      exact ⟨rfl, ρ, L3, HR3.out, ((Moves.none HO.out).trans ((HH.out.only_none HO.out).moves_only HO2.out)).trans (Moves.of_only HO3.out fun k _ hk => by rw [hk]; simp)⟩
    · have e : s.sync n.data.toList = (s.step.1, s.step.2) := by simp [Dm.St.sync, hi, he]
      rw [e]
      rw [errV_pos he] at HS
      have HE := Lib.hid he
      generalize s.step.1 = x at *
      generalize s.step.2 = t at *
      clear e hi h hn hwf hst he hget
      go_enter Try.func22, Try.ntmps22
      go_wp2_with (first
        | (go_at_call 44; refine hf.mono ?_; rintro e w1 ⟨rfl, ho⟩; have hs := HS.out _ ho; have HO := Lib.hid ho; clear ho)
        | (go_at_call 50; refine hs.mono ?_; rintro e w2 ⟨rfl, L', hr, -, -, -, hL4, ho2⟩; have HR := Lib.hid hr; have HL4 := Lib.hid hL4; have HO2 := Lib.hid ho2; clear hr hL4 ho2))
      go_ret
      exact ⟨by rw [errV_pos HE.out]; rfl, ρ, L', HR.out, (Moves.none HO.out).trans ((HH.out.only_none HO.out).moves_only HO2.out)⟩
  · have e : s.sync n.data.toList = (x, s) := by
      unfold Dm.St.sync
      rw [hx]
      cases x with
      | zero => exact absurd rfl hx0
      | succ x => rfl
    have hf := find_no h n hn hx hx0
    rw [e]
    have HH := Lib.hid h
    have HX := Lib.hid hx0
    clear e hx h hn hwf hst hx0
    go_enter Try.func22, Try.ntmps22
    go_wp2_with (go_at_call 44; refine hf.mono ?_; rintro e w1 ⟨rfl, ho⟩; have HO := Lib.hid ho; clear ho)
    go_ret
    exact OpPost.same HH.out HO.out (by rw [errV_pos HX.out]; rfl)

end Go.Proofs.Ythjabfhfkikalaa
