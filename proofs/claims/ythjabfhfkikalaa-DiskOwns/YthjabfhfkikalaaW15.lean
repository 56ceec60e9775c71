/- settleAll. Conditions: none. -/
import Derived.Test.YthjabfhfkikalaaW14
namespace Go.Proofs.Ythjabfhfkikalaa
open Go.RowKit Go.Maps Go.WideMaps

theorem sync_sync (f : Dm.Fil) : f.sync.sync = f.sync := rfl

theorem syncIf_at (q : Nat → Bool) (s : Dm.St) (i : Nat) : (Dm.syncIf q s).atFile i Dm.Fil.sync = Dm.syncIf (fun j => q j || j == i) s := by
  unfold Dm.syncIf Dm.St.atFile
  congr 1
  apply List.ext_getElem?
  intro j
  simp only [List.getElem?_modify, List.getElem?_mapIdx]
  cases hj : s.files[j]? with
  | none => simp
  | some f =>
    by_cases hij : i = j
    · subst hij
      simp
      split <;> rfl
    · have : (j == i) = false := by simpa using fun e => hij e.symm
      simp [hij, this]

theorem syncIf_none (s : Dm.St) : Dm.syncIf (fun _ => false) s = s := by
  unfold Dm.syncIf
  have : s.files.mapIdx (fun i f => if (fun _ => false) i = true then f.sync else f) = s.files := by
    apply List.ext_getElem?
    intro j
    rw [List.getElem?_mapIdx]
    cases s.files[j]? <;> simp
  rw [this]

theorem mem_phys {fls : List Fl} {d : Dm.Dir} {k : Dm.Nm} {B : Nat} (h : (k, B) ∈ phys fls d) : ∃ i, (k, i) ∈ d ∧ B = blkOf fls i := by
  obtain ⟨p, hp, e⟩ := List.mem_map.1 h
  cases e
  exact ⟨p.2, hp, rfl⟩

theorem apart_mem {d : Dm.Dir} (h : d.Pairwise (fun p q => p.1 ≠ q.1)) {k : Dm.Nm} {i j : Nat} (hi : (k, i) ∈ d) (hj : (k, j) ∈ d) : i = j := by
  induction d with
  | nil => cases hi
  | cons p r ih =>
    rw [List.pairwise_cons] at h
    rcases List.mem_cons.1 hi with hi' | hi'
    · rcases List.mem_cons.1 hj with hj' | hj'
      · rw [← hj'] at hi'; cases hi'; rfl
      · exact absurd (congrArg Prod.fst hi').symm (h.1 (k, j) hj')
    · rcases List.mem_cons.1 hj with hj' | hj'
      · exact absurd (congrArg Prod.fst hj').symm (h.1 (k, i) hi')
      · exact ih h.2 hi' hj'

theorem apart_phys {fls : List Fl} {d : Dm.Dir} (h : (phys fls d).Pairwise (fun p q => p.1 ≠ q.1)) : d.Pairwise (fun p q => p.1 ≠ q.1) := by
  unfold phys at h
  rw [List.pairwise_map] at h
  exact h

/-- A step of the range: nothing that has a role turns. -/
theorem Core.iter {w w' : World} {b r : Nat} {ρ : Roles} {L : Lay} {s : Dm.St} (h : Core w b ρ L s) (hg : w.grownBy w' (some r)) (hr : ρ r = none) : Core w' b ρ L s :=
  h.kept (fun k hk => hg.block k (h.low k hk) (fun e => by cases e; exact hk hr)) hg.size

set_option maxHeartbeats 1000000 in
theorem settleAll_rep {w : World} {b : Nat} {ρ : Roles} {L : Lay} {s : Dm.St} (h : Core w b ρ L s) (hids : ∀ p ∈ s.dir, p.2 < s.files.length) :
    Calls Try.prog 42 #[.pointer (some ⟨b, 0, none⟩)] w fun e w' => e = .returned (.tuple #[]) ∧ ∃ ρ' L', Rep w' b ρ' L' s.settleAll ∧ Moves ρ ρ' w w' := by
  obtain ⟨w1, hrun, hrg, hgr, hsz⟩ := h.dir.range
  have hc6 := h.blk.c6
  have hap := h.dir.apart
  have hap0 := apart_phys hap
  have hrN : ρ w.heap.size = none := by
    cases hx : ρ w.heap.size with
    | none => rfl
    | some r => have := h.low _ (by rw [hx]; simp); omega
  have hgo : Only (fun _ => False) w w1 := (Only.of_grown hgr).mono fun _ _ e => by cases e
  have HS : Hid (∀ (w2 : World) (t : Dm.St), Core w2 b ρ L t → Calls Try.prog 52 #[.pointer (some ⟨b, 0, none⟩)] w2 fun e w' => e = .returned (.tuple #[]) ∧ ∃ ρ' L', Rep w' b ρ' L' t.settle ∧ L'.fls = L.fls ∧ Moves ρ ρ' w2 w') := fun w2 t h2 => settle_rep h2
  have H0 : Hid (Core w1 b ρ L (Dm.syncIf (fun _ => false) s)) := by unfold Hid; rw [syncIf_none]; exact h.only_none hgo
  have HA := Lib.hid hap0; have HI := Lib.hid hids; have HR := Lib.hid hrg; have HGO := Lib.hid hgo; have HRN := Lib.hid hrN; have HRD := Lib.hid h.rd; have HAP := Lib.hid hap
  clear h hids hap hap0 hrg hgr hsz hrN hgo
  go_enter Try.func42, Try.ntmps42
  go_wp2
  go_loopw [] (fun wr => ∃ (q : Nat → Bool) (rest : Dm.Dir), RangeAt wr L.dir w.heap.size (phys L.fls s.dir) rest ∧ Core wr b ρ L (Dm.syncIf q s) ∧ (∀ i, q i = true → ∃ k, (k, i) ∈ s.dir) ∧ (∀ p ∈ s.dir, q p.2 = true ∨ (p.1, blkOf L.fls p.2) ∈ rest) ∧ Moves ρ ρ w wr) (fun wr => wr.rangeLeft L.dir w.heap.size)
  case atStart => exact ⟨_, _, HR.out, H0.out, by simp, fun p hp => .inr (List.mem_map.2 ⟨p, hp, rfl⟩), Moves.none HGO.out⟩
  case round =>
    obtain ⟨q, rest, hra, hco, hq1, hq2, hmv⟩ := hrel
    have hsub : rest.Sublist (phys L.fls s.dir) := by obtain ⟨left, cnt, _, rfl⟩ := hra; exact List.filter_sublist
    rcases hra.next 0 with ⟨rfl, hrun2⟩ | ⟨nm, f, w2, hmem, hrun2, hra2, hgr2, hsz2, hen2, hlt⟩
    · have hfin : Dm.syncIf q s = Dm.syncAll s.dir s := by
        unfold Dm.syncAll
        suffices hq : q = fun i => s.dir.any fun p => p.2 == i by rw [hq]
        funext i
        rw [Bool.eq_iff_iff, List.any_eq_true]
        constructor
        · intro h
          obtain ⟨k, hk⟩ := hq1 i h
          exact ⟨_, hk, by simp⟩
        · rintro ⟨p, hp, hpi⟩
          simp at hpi
          rcases hq2 p hp with h | h
          · rw [← hpi]; exact h
          · cases h
      rw [hfin] at hco
      have hset := HS.out wr _ hco
      have HMV := Lib.hid hmv
      clear hra hco hq1 hq2 hmv hsub hrun hfin
      go_wp2_with (go_at_call 52; refine hset.mono ?_; rintro e w3 ⟨rfl, ρ', L3, hr3, -, hm3⟩; have HR3 := Lib.hid hr3; have HM3 := Lib.hid hm3; clear hr3 hm3)
      go_end0
      exact ⟨rfl, ρ', L3, HR3.out, HMV.out.trans HM3.out⟩
    · obtain ⟨i, hid, hfb⟩ := mem_phys (hsub.subset hmem)
      have hco2 := hco.iter hgr2 HRN.out
      have hlen : (Dm.syncIf q s).files.length = s.files.length := by simp [Dm.syncIf]
      have hsync := fsync_core hco2 (i := i) (by rw [hlen]; exact HI.out _ hid)
      rw [← hfb, syncIf_at] at hsync
      have HQ1 : Hid (∀ j, (q j || j == i) = true → ∃ k, (k, j) ∈ s.dir) := by
        intro j hj
        rw [Bool.or_eq_true] at hj
        rcases hj with hj | hj
        · exact hq1 j hj
        · have : j = i := by simpa using hj
          subst this
          exact ⟨_, hid⟩
      have HQ2 : Hid (∀ p ∈ s.dir, (q p.2 || p.2 == i) = true ∨ (p.1, blkOf L.fls p.2) ∈ rest.filter fun p => !(p.1 == nm.data.toList)) := by
        intro p hp
        rcases hq2 p hp with h | h
        · exact .inl (by simp [h])
        · by_cases hk : p.1 = nm.data.toList
          · have : p.2 = i := apart_mem HA.out (k := nm.data.toList) (by rw [← hk]; exact hp) hid
            exact .inl (by simp [this])
          · exact .inr (List.mem_filter.2 ⟨h, by simpa using hk⟩)
      have HMV : Hid (∀ w3, Only (fun k => ρ k = some (.file i)) w2 w3 → Moves ρ ρ w w3) := fun w3 ho3 =>
        ⟨(hmv.only.andThen (Only.of_grown hgr2) (fun k hk e => by cases e; omega)).andThen ho3 (fun k _ hx => by rw [hx]; simp), fun _ _ => rfl⟩
      have HRA : Hid (∀ w3, Only (fun k => ρ k = some (.file i)) w2 w3 → RangeAt w3 L.dir w.heap.size (phys L.fls s.dir) (rest.filter fun p => !(p.1 == nm.data.toList)) ∧ w3.rangeLeft L.dir w.heap.size = w2.rangeLeft L.dir w.heap.size) := by
        intro w3 ho3
        have hm3 : w3.heap[L.dir]? = w2.heap[L.dir]? := ho3.block _ hco2.dir.lt (fun e => by rw [HRD.out] at e; cases e)
        obtain ⟨left, cnt, hr, hrest⟩ := hra2
        have hr3 : w3.heap[w.heap.size]? = w2.heap[w.heap.size]? := ho3.block _ hr.lt (fun e => by rw [HRN.out] at e; cases e)
        refine ⟨?_, ?_⟩
        · obtain ⟨es, clock, since, seen, c0, x1, x2, x3, x4, x5, x6⟩ := hr
          exact ⟨left, cnt, ⟨es, clock, since, seen, c0, by rw [hm3]; exact x1, x2, x3, x4, by rw [hr3]; exact x5, x6⟩, hrest⟩
        · simp only [World.rangeLeft, hm3, hr3]
      have HLT := Lib.hid hlt
      clear hra hco hq1 hq2 hmv hsub hrun hmem hra2 hgr2 hsz2 hlt hco2 hlen hid hfb
      go_wp2_with (go_at_call 51; refine hsync.mono ?_; rintro e w3 ⟨rfl, hco3, ho3, -⟩; have HC3 := Lib.hid hco3; have HO3 := Lib.hid ho3; clear hco3 ho3)
      go_roundw
      case rel => exact ⟨_, _, (HRA.out _ HO3.out).1, HC3.out, HQ1.out, HQ2.out, HMV.out _ HO3.out⟩
      case measure => rw [(HRA.out _ HO3.out).2]; exact HLT.out

end Go.Proofs.Ythjabfhfkikalaa
