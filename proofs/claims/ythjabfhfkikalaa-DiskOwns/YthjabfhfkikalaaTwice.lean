/- Two disks in one memory; a crash behind a crash. Conditions: none. -/
import Derived.Test.YthjabfhfkikalaaFSame
import Derived.Test.YthjabfhfkikalaaKeep
import Derived.Test.YthjabfhfkikalaaNil
namespace Go.Proofs.Ythjabfhfkikalaa
open Go.RowKit Go.Maps Go.WideMaps

/-- What lies beside a disk. -/
structure Beside (w0 wr : World) (ρ : Roles) : Prop where
  only : Only (fun _ => False) w0 wr
  none : ∀ k, k < w0.heap.size → ρ k = none
theorem Beside.move {w0 wr w' : World} {ρ ρ' : Roles} (h : Beside w0 wr ρ) (m : Moves ρ ρ' wr w') : Beside w0 w' ρ' :=
  ⟨h.only.andThen m.only fun k hk hs => hs (h.none k hk), fun k hk => (m.old k (Nat.lt_of_lt_of_le hk h.only.size)).trans (h.none k hk)⟩

structure Two (w0 w : World) (a b : Nat) (ρ σ : Roles) (L M : Lay) (s t : Dm.St) : Prop where
  ra : Rep w a ρ L s
  rb : Rep w b σ M t
  dis : ∀ k, ρ k ≠ none → σ k = none
  sa : Beside w0 w ρ
  sb : Beside w0 w σ

theorem Two.rest {w0 w w' : World} {a b : Nat} {ρ σ : Roles} {L M : Lay} {s t : Dm.St} (h : Two w0 w a b ρ σ L M s t) (ho : Only (fun _ => False) w w') : Two w0 w' a b ρ σ L M s t :=
  ⟨h.ra.only_none ho, h.rb.only_none ho, h.dis, h.sa.move (Moves.none ho), h.sb.move (Moves.none ho)⟩

theorem Two.left {w0 w w' : World} {a b : Nat} {ρ σ ρ' : Roles} {L M L' : Lay} {s t s' : Dm.St} (h : Two w0 w a b ρ σ L M s t) (r : Rep w' a ρ' L' s') (m : Moves ρ ρ' w w') : Two w0 w' a b ρ' σ L' M s' t where
  ra := r
  rb := h.rb.kept (fun k hk => m.only.block k (h.rb.low k hk) (fun e => hk (h.dis k e))) m.only.size
  dis := fun k hk => by
    rcases Nat.lt_or_ge k w.heap.size with h1 | h1
    · exact h.dis k (by rw [← m.old k h1]; exact hk)
    · cases hx : σ k with
      | none => rfl
      | some r => have := h.rb.low k (by rw [hx]; simp); omega
  sa := h.sa.move m
  sb := ⟨(h.sa.move m).only, h.sb.none⟩

theorem Two.swap {w0 w : World} {a b : Nat} {ρ σ : Roles} {L M : Lay} {s t : Dm.St} (h : Two w0 w a b ρ σ L M s t) : Two w0 w b a σ ρ M L t s :=
  ⟨h.rb, h.ra, fun k hk => by cases hx : ρ k with | none => rfl | some r => exact absurd (h.dis k (by rw [hx]; simp)) hk, h.sb, h.sa⟩

theorem Two.right {w0 w w' : World} {a b : Nat} {ρ σ σ' : Roles} {L M M' : Lay} {s t t' : Dm.St} (h : Two w0 w a b ρ σ L M s t) (r : Rep w' b σ' M' t') (m : Moves σ σ' w w') : Two w0 w' a b ρ σ' L M' s t' :=
  (h.swap.left r m).swap

theorem Two.start {w w1 w2 : World} {a b : Nat} {ρ σ : Roles} {L M : Lay} {s t : Dm.St} (ra : Rep w1 a ρ L s) (oa : Only (fun _ => False) w w1) (na : ∀ k, k < w.heap.size → ρ k = none) (rb : Rep w2 b σ M t) (ob : Only (fun _ => False) w1 w2) (nb : ∀ k, k < w1.heap.size → σ k = none) :
    Two w w2 a b ρ σ L M s t where
  ra := ra.only_none ob
  rb := rb
  dis := fun k hk => nb k (ra.low k hk)
  sa := ⟨oa.trans ob, na⟩
  sb := ⟨oa.trans ob, fun k hk => nb k (Nat.lt_of_lt_of_le hk oa.size)⟩

theorem num_any (n : Nat) (w : World) : Calls Try.prog 17 #[errV n] w fun e w' => e = .returned (.int .i64 n) ∧ w = w' := by
  by_cases h : n = 0
  · subst h; exact num_nil w
  · rw [errV_pos h]; exact num_err n w h

namespace Dm
/-- Every file that has a name is synced, and the directory too. -/
structure St.Still (s : St) : Prop where
  chg : s.chg = []
  syn : s.syn = s.dir
  fil : ∀ p ∈ s.dir, ∀ f, s.files[p.2]? = some f → f.synced = f.data.length

theorem settleAll_still (s : St) : s.settleAll.Still where
  chg := rfl
  syn := rfl
  fil := fun p hp f hf => by
    have hp : p ∈ s.dir := hp
    have hf : (s.files.mapIdx fun i f => if (s.dir.any fun q => q.2 == i) then f.sync else f)[p.2]? = some f := hf
    rw [List.getElem?_mapIdx, Option.map_eq_some_iff] at hf
    obtain ⟨g, _, rfl⟩ := hf
    rw [if_pos (by rw [List.any_eq_true]; exact ⟨p, hp, by simp⟩)]
    rfl

theorem crash_still (s : St) (dirs : Int) (cuts : List Int) : (s.crash dirs cuts).Still := by
  have := settleAll_still (cutAll cuts 0 ((s.chg.take (max dirs 0).toNat).foldl app s.syn) { s with dir := (s.chg.take (max dirs 0).toNat).foldl app s.syn })
  exact ⟨this.chg, this.syn, this.fil⟩

theorem Fil.crash_synced {f : Fil} (h : f.synced = f.data.length) (e : Int) : f.crash e = f := by
  obtain ⟨d, n⟩ := f
  simp only at h
  subst h
  simp [Fil.crash]

theorem cutAll_synced (cuts : List Int) (d : Dir) : ∀ (n : Nat) (s : St), (∀ p ∈ d, ∀ f, s.files[p.2]? = some f → f.synced = f.data.length) → cutAll cuts n d s = s := by
  induction d with
  | nil => intro n s _; rfl
  | cons p r ih =>
    intro n s h
    unfold cutAll
    have e : s.atFile p.2 (Fil.crash (cuts.getD n 0)) = s := by
      have hm : s.files.modify p.2 (Fil.crash (cuts.getD n 0)) = s.files := by
        apply List.ext_getElem?
        intro i
        rw [List.getElem?_modify]
        by_cases hi : p.2 = i
        · subst hi
          cases hx : s.files[p.2]? with
          | none => simp
          | some f => simp [Fil.crash_synced (h p (by simp) f hx)]
        · simp [hi]
      show { s with files := s.files.modify p.2 (Fil.crash (cuts.getD n 0)) } = s
      rw [hm]
    rw [e]
    exact ih (n + 1) s fun q hq => h q (by simp [hq])

/-- A crash takes nothing of what is still. -/
theorem St.Still.crash {s : St} (h : s.Still) (dirs : Int) (cuts : List Int) : (s.crash dirs cuts).all = s.all ∧ (s.crash dirs cuts).steps = s.steps := by
  have hd : (s.chg.take (max dirs 0).toNat).foldl app s.syn = s.dir := by rw [h.chg, h.syn]; simp
  have hc : s.crash dirs cuts = s.settleAll.restart := by
    unfold St.crash
    rw [hd]
    have : cutAll cuts 0 s.dir { s with dir := s.dir } = s := cutAll_synced cuts s.dir 0 s h.fil
    show (cutAll cuts 0 s.dir { s with dir := s.dir }).settleAll.restart = _
    rw [this]
  rw [hc]
  refine ⟨?_, rfl⟩
  unfold St.all
  show s.dir.map _ = s.dir.map _
  refine List.map_congr_left fun p hp => ?_
  congr 1
  unfold St.dataOf
  show (((s.files.mapIdx fun i f => if (s.dir.any fun q => q.2 == i) then f.sync else f)[p.2]?).map (·.data)).getD [] = _
  rw [List.getElem?_mapIdx]
  cases s.files[p.2]? with
  | none => rfl
  | some f =>
    simp only [Option.map_some]
    split <;> rfl
end Dm

end Go.Proofs.Ythjabfhfkikalaa
