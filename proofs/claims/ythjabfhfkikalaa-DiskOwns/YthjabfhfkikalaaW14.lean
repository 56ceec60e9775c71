/- What a crash does to one file; restart. Conditions: none. -/
import Derived.Test.YthjabfhfkikalaaW13
import Derived.RegionTactic
import Derived.ChangeAlike
import Derived.BigQuiet
namespace Go.Proofs.Ythjabfhfkikalaa
open Go.RowKit Go.Maps Go.WideMaps

set_option maxHeartbeats 400000 in
theorem restart_any (b : Nat) (w : World) {u1 u2 u3 u4 : Value} (h1 : w.cell? ⟨b, 1, none⟩ = some u1) (h2 : w.cell? ⟨b, 2, none⟩ = some u2) (h3 : w.cell? ⟨b, 3, none⟩ = some u3) (h4 : w.cell? ⟨b, 4, none⟩ = some u4)
    (f1 : w.frozen? ⟨b, 1, none⟩ = false) (f2 : w.frozen? ⟨b, 2, none⟩ = false) (f3 : w.frozen? ⟨b, 3, none⟩ = false) (f4 : w.frozen? ⟨b, 4, none⟩ = false) :
    Calls Try.prog 43 #[.pointer (some ⟨b, 0, none⟩)] w fun e w' => e = .returned (.tuple #[]) ∧ w' = (((w.setCell ⟨b, 1, none⟩ (.bool false)).setCell ⟨b, 2, none⟩ (.bool false)).setCell ⟨b, 3, none⟩ (.int .i64 0)).setCell ⟨b, 4, none⟩ (.slice none 0 0) := by
  go_enter Try.func43, Try.ntmps43
  go_wp2
  go_end0
  exact ⟨rfl, rfl⟩

theorem restart_rep {w : World} {b : Nat} {ρ : Roles} {L : Lay} {s : Dm.St} (h : Rep w b ρ L s) :
    Calls Try.prog 43 #[.pointer (some ⟨b, 0, none⟩)] w fun e w' => e = .returned (.tuple #[]) ∧ ∃ L', Rep w' b ρ L' s.restart ∧ Moves ρ ρ w w' := by
  refine (restart_any b w h.blk.c1 h.blk.c2 h.blk.c3 h.blk.c4 (h.blk.fr 1) (h.blk.fr 2) (h.blk.fr 3) (h.blk.fr 4)).mono ?_
  rintro e w' ⟨rfl, rfl⟩
  have ho : Only (fun k => k = b) w ((((w.setCell ⟨b, 1, none⟩ (.bool false)).setCell ⟨b, 2, none⟩ (.bool false)).setCell ⟨b, 3, none⟩ (.int .i64 0)).setCell ⟨b, 4, none⟩ (.slice none 0 0)) :=
    (((Only.setCell (w := w) ⟨b, 1, none⟩ _).trans (Only.setCell ⟨b, 2, none⟩ _)).trans (Only.setCell ⟨b, 3, none⟩ _)).trans (Only.setCell ⟨b, 4, none⟩ _)
  refine ⟨rfl, { L with fv := .slice none 0 0, fo := none }, h.reblk (L' := { L with fv := .slice none 0 0, fo := none }) ho ?_ rfl ?_ (by simp) rfl rfl rfl rfl, Moves.of_only ho fun k _ hk => by rw [show k = b from hk, h.rb]; simp⟩
  · have := heap_setCell_self (heap_setCell_self (heap_setCell_self (heap_setCell_self h.blk 1 (.bool false)) 2 (.bool false)) 3 (.int .i64 0)) 4 (.slice none 0 0)
    simpa [DB, diskCells, Dm.St.restart] using this
  · exact .inl ⟨rfl, rfl, none, 0, rfl⟩

def keepLen (sy n : Nat) (extra : Int) : Nat := sy + min (max extra 0).toNat (n - sy)

set_option maxRecDepth 100000 in
set_option maxHeartbeats 1000000 in
theorem fcrash_any (F n cap sy : Nat) (a : Option Addr) (extra : Int) (w : World) (h0 : w.cell? ⟨F, 0, none⟩ = some (.slice a n cap)) (h1 : w.cell? ⟨F, 1, none⟩ = some (.int .i64 sy)) (f0 : w.frozen? ⟨F, 0, none⟩ = false)
    (hs : sy ≤ n) (hc : n ≤ cap) (hb : n ≤ 140737488355328) :
    Calls Try.prog 41 #[.pointer (some ⟨F, 0, none⟩), .int .i64 extra] w fun e w' => e = .returned (.tuple #[]) ∧ ∃ w1, w' = w1.setCell ⟨F, 0, none⟩ (.slice a (keepLen sy n extra) cap) ∧ w1.heap = w.heap ∧ Only (fun _ => False) w w1 := by
  have hw1 : IntKind.i64.wrap ((n : Int) - sy) = (n : Int) - sy := IntWalk.i64_in _ (by omega)
  go_enter Try.func41, Try.ntmps41
  go_wp2
  go_quiet (fail)
  go_wp2
  have ho : Only (fun _ => False) w (w.drewN nq) := ⟨rfl, rfl, rfl, Nat.le_refl _, fun _ _ _ => rfl⟩
  have hh : (w.drewN nq).heap = w.heap := heap_drewN nq
  have h0' : (w.drewN nq).cell? ⟨F, 0, none⟩ = some (.slice a n cap) := h0
  have h1' : (w.drewN nq).cell? ⟨F, 1, none⟩ = some (.int .i64 sy) := h1
  have f0' : (w.drewN nq).frozen? ⟨F, 0, none⟩ = false := f0
  have HO := Lib.hid ho; have HH := Lib.hid hh
  clear ho hh h0 h1 f0
  generalize w.drewN nq = w2 at *
  have hmm : min (max extra 0) ((n : Int) - sy) = ((min (max extra 0).toNat (n - sy) : Nat) : Int) := by omega
  have hsum : IntKind.i64.wrap ((sy : Int) + min (max extra 0) ((n : Int) - sy)) = (keepLen sy n extra : Int) := by
    rw [hmm]
    unfold keepLen
    rw [IntWalk.i64_in _ (by omega)]
    omega
  have hkc : keepLen sy n extra ≤ cap := by unfold keepLen; omega
  have hsl : ∀ w : World, (Instr.slice 22 (.slice a n cap) none (some (.int .i64 (keepLen sy n extra : Int))) none).run Try.prog w = .ok (.slice a (keepLen sy n extra) cap) w := by
    intro w
    rw [run_slice_h (ht := by kernel_rfl) (h0 := by omega) (h2 := by omega)]
    have hsz : (sizeOf (Try.prog.elem 22)).run Try.prog w = .ok 1 w := by kernel_rfl
    rw [hsz]
    cases a <;> simp [Result.andThen, sliced, Addr.add]
  clear hmm
  go_region
  go_end0
  exact ⟨rfl, w2.drew, rfl, HH.out, HO.out.trans Only.drew⟩

/-- A file's crash, in a disk. -/
theorem fcrash_core {w : World} {b : Nat} {ρ : Roles} {L : Lay} {s : Dm.St} (h : Core w b ρ L s) (hf : ∀ f ∈ s.files, Dm.FilWF f) {i : Nat} (hi : i < s.files.length) (extra : Int) :
    Calls Try.prog 41 #[.pointer (some ⟨blkOf L.fls i, 0, none⟩), .int .i64 extra] w fun e w' => e = .returned (.tuple #[]) ∧ ∃ L', Core w' b ρ L' (s.atFile i (Dm.Fil.crash extra)) ∧ L'.dir = L.dir ∧ (∀ j, blkOf L'.fls j = blkOf L.fls j) ∧ Only (fun k => ρ k = some (.file i)) w w' := by
  have hfi : s.files[i]? = some s.files[i] := List.getElem?_eq_getElem hi
  have hw := hf _ (List.getElem_mem hi)
  generalize s.files[i] = f at *
  obtain ⟨fl, hfl, hfa⟩ := h.files i f hfi
  rw [blkOf_some hfl]
  have hrow := hfa.row
  obtain ⟨a, cap, hv⟩ := row_shape hrow
  have hcap : f.data.length ≤ cap := by
    rcases hrow.2 with ⟨h1, h2⟩ | ⟨g, cap', cur, h1, _, _, h2, _⟩
    · omega
    · rw [hv] at h1; cases h1; exact h2
  refine (fcrash_any fl.blk f.data.length cap f.synced a extra w (by rw [cell_of hfa.blk, hv]; rfl) (by rw [cell_of hfa.blk]; rfl) (frozen_of hfa.blk 0) hw.syn hcap hw.len).mono ?_
  rintro e w' ⟨rfl, w1, rfl, hheap, ho⟩
  have hne : ∀ g, fl.v.ownBlock = some g → g ≠ fl.blk := fun g hg e => by have := hfa.rd g hg; rw [e, hfa.rb] at this; cases this
  have hkl : keepLen f.synced f.data.length extra ≤ f.data.length := by unfold keepLen; have := hw.syn; omega
  have hcr : (f.crash extra).data = f.data.take (keepLen f.synced f.data.length extra) := rfl
  have hlen : (f.crash extra).data.length = keepLen f.synced f.data.length extra := by rw [hcr, List.length_take]; omega
  have hob : (Value.slice a (keepLen f.synced f.data.length extra) cap).ownBlock = fl.v.ownBlock := by rw [hv]; cases a <;> rfl
  have hb1 : w1.heap[fl.blk]? = some (.cells #[fl.v, .int .i64 f.synced] 79 (0, 0)) := by rw [hheap]; exact hfa.blk
  have hon : Only (fun k => k = fl.blk) w (w1.setCell ⟨fl.blk, 0, none⟩ (.slice a (keepLen f.synced f.data.length extra) cap)) := (ho.mono (fun _ _ h => h.elim)).trans (Only.setCell ⟨fl.blk, 0, none⟩ _)
  refine ⟨rfl, { L with fls := L.fls.set i ⟨fl.blk, .slice a (keepLen f.synced f.data.length extra) cap⟩ }, ?_, rfl, blkOf_set hfl rfl, hon.mono fun k _ hk => by rw [show k = fl.blk from hk]; exact hfa.rb⟩
  refine h.updFile (fl' := ⟨fl.blk, .slice a (keepLen f.synced f.data.length extra) cap⟩) hfi hfl rfl (hon.mono fun _ _ h => .inl h) (fun _ _ => rfl) (fun k hk => by rw [size_setCell]; exact Nat.lt_of_lt_of_le (h.low k hk) ho.size) ⟨?_, ?_, hfa.rb, fun g hg => hfa.rd g (by rw [← hob]; exact hg)⟩
  · exact heap_setCell_self hb1 0 _
  · show World.ownsRow _ 0 5 1 (.slice a (keepLen f.synced f.data.length extra) cap) (f.crash extra).data.length ((f.crash extra).data.map byteV)
    rw [hlen, hcr]
    have hrow1 : w1.ownsRow 0 5 1 fl.v f.data.length (f.data.map byteV) := ownsRow_keep hrow fun g _ => by rw [hheap]
    have hrow2 := ownsRow_keep (w' := w1.setCell ⟨fl.blk, 0, none⟩ (.slice a (keepLen f.synced f.data.length extra) cap)) hrow1 fun g hg => heap_setCell_ne _ _ (hne g hg)
    refine ⟨by simp; omega, ?_⟩
    rcases hrow2.2 with ⟨h1, h2⟩ | ⟨g, cap', cur, h1, h2, h3, h4, h5, h6, h7⟩
    · rw [hv] at h1
      obtain ⟨ha, hn, hcp⟩ := Value.slice.inj h1
      have hk0 : keepLen f.synced f.data.length extra = 0 := by omega
      exact .inl ⟨by rw [ha, hcp, hk0], hk0⟩
    · rw [hv] at h1
      cases h1
      refine .inr ⟨g, cap, cur, rfl, h2, h3, by omega, h5, h6, ?_⟩
      have h8 := congrArg (List.take (keepLen f.synced f.data.length extra)) h7
      rw [List.take_take, ← List.map_take] at h8
      rw [← h8]
      congr 1
      omega

end Go.Proofs.Ythjabfhfkikalaa
