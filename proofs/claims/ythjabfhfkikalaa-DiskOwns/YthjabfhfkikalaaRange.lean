/- Going over a directory in whatever order; how many bytes its files have. Conditions: none. -/
import Derived.Test.YthjabfhfkikalaaW10
import Derived.Sort.KeysCollected
namespace Go.Proofs.Ythjabfhfkikalaa
open Go.RowKit Go.Maps Go.WideMaps

/-- A range over directory d under way: 'rest' is still to come. -/
def RangeAt (w : World) (m r : Nat) (d rest : Dm.Dir) : Prop :=
  ∃ left cnt, w.ranges Try.prog 9 fileElem m r d.length (datum d) left cnt ∧ rest = d.filter fun p => left (.string p.1)

theorem RangeAt.kept {w w' : World} {m r : Nat} {d rest : Dm.Dir} {row : Option Nat} (h : RangeAt w m r d rest) (hg : w.grownBy w' row) (hm : some m ≠ row) (hr : some r ≠ row) : RangeAt w' m r d rest := by
  obtain ⟨left, cnt, h1, h2⟩ := h
  exact ⟨left, cnt, h1.kept hg hm hr, h2⟩

theorem get_of_atKey {d : Dm.Dir} {k : Dm.Nm} {y : DataW Unit × List MemPlace} {v : Value} (hv : fileElem v = some y) (hat : ∀ zd, (datum d).atKey (.string k) zd = y.1) : ∃ f, Dm.get d k = some f ∧ v = fptr f := by
  cases hg : Dm.get d k with
  | some f =>
    refine ⟨f, rfl, ?_⟩
    have h1 := hat .nil
    rw [atKey_datum, hg] at h1
    obtain ⟨y1, y2⟩ := y
    simp only at h1
    exact fileElem_inv (ps := y2) (by rw [hv, ← h1])
  | none =>
    exfalso
    have hs := has_datum d k
    rw [hg] at hs
    have h1 := atKey_of_not_has hs .nil
    have h2 := atKey_of_not_has hs (.lit (.bool true))
    rw [hat] at h1 h2
    rw [h1] at h2
    cases h2

theorem RangeAt.next {w : World} {m r : Nat} {d rest : Dm.Dir} (h : RangeAt w m r d rest) (ty : TypeId) :
    (rest = [] ∧ (Instr.next (.pointer (some ⟨r, 0, none⟩)) false ty).run Try.prog w = .ok (.tuple #[.bool false]) w) ∨
    ∃ (s : ByteArray) (f : Nat) (w' : World), (s.data.toList, f) ∈ rest ∧ (Instr.next (.pointer (some ⟨r, 0, none⟩)) false ty).run Try.prog w = .ok (.tuple #[.bool true, .string s, .pointer (some ⟨f, 0, none⟩)]) w' ∧
      RangeAt w' m r d (rest.filter fun p => !(p.1 == s.data.toList)) ∧ w.grownBy w' (some r) ∧ w'.heap.size = w.heap.size ∧ (Instr.entry (.pointer (some ⟨r, 0, none⟩))).run Try.prog w' = .ok (.tuple #[.string s, .pointer (some ⟨f, 0, none⟩)]) w' ∧ w'.rangeLeft m r < w.rangeLeft m r := by
  obtain ⟨left, cnt, h1, rfl⟩ := h
  rcases h1.next keyedS ty with ⟨_, hl, hrun⟩ | ⟨key, v, kl, y, w', cnt', hkey, hlk, hv, hat, hrun, hrg, hlt, hgr, hsz, hen⟩
  · exact .inl ⟨by simp [hl], hrun⟩
  · obtain ⟨x, rfl, rfl, hx⟩ := Maps.keyOf_str Try.underlying9 hkey
    obtain ⟨f, hg, rfl⟩ := get_of_atKey hv hat
    refine .inr ⟨⟨x.toArray⟩, f, w', ?_, hrun, ⟨_, cnt', hrg, ?_⟩, hgr, hsz, hen, by rw [hrg.left_eq, h1.left_eq]; exact hlt⟩
    · rw [List.mem_filter]
      exact ⟨by simpa using Dm.get_mem hg, by simpa using hlk⟩
    · rw [List.filter_filter]
      apply List.filter_congr
      intro p _
      have e : (Lit.string p.1).sameKey (.string x) = (p.1 == x) := rfl
      simp only [e]
      exact Bool.and_comm _ _

theorem DirAt.range {w : World} {m : Nat} {d : Dm.Dir} (h : DirAt w m d) :
    ∃ w', (Instr.range 72 (.map (some m))).run Try.prog w = .ok (.pointer (some ⟨w.heap.size, 0, none⟩)) w' ∧ RangeAt w' m w.heap.size d d ∧ w.grownBy w' none ∧ w'.heap.size = w.heap.size + 1 := by
  obtain ⟨w', hrun, hrg, hgr, hsz⟩ := World.ownsMap.range (t := 72) (e := 80) h keyedS Try.underlying72
  refine ⟨w', hrun, ⟨_, _, hrg, ?_⟩, hgr, hsz⟩
  symm
  rw [List.filter_eq_self]
  intro p hp
  rw [has_datum]
  unfold Dm.get
  rw [Option.isSome_map, List.find?_isSome]
  exact ⟨p, hp, by simp⟩

theorem DirAt.apart {w : World} {m : Nat} {d : Dm.Dir} (h : DirAt w m d) : d.Pairwise (fun p q => p.1 ≠ q.1) := by
  obtain ⟨es, he, hp⟩ := World.ownsMap.tidy h keyedS
  have e : es = d.map ent := (DataW.map.inj he).symm
  subst e
  rw [List.pairwise_map] at hp
  exact hp.imp (fun {a b} hne hab => hne (by simp [ent, hab]))

theorem sum_out (g : Nat → Nat) {k : Dm.Nm} {f : Nat} : ∀ {l : Dm.Dir}, l.Pairwise (fun p q => p.1 ≠ q.1) → (k, f) ∈ l → (l.map fun p => g p.2).sum = g f + ((l.filter fun p => !(p.1 == k)).map fun p => g p.2).sum
  | p :: r, hp, hm => by
    rw [List.pairwise_cons] at hp
    rcases List.mem_cons.1 hm with rfl | hm
    · have e : (r.filter fun p => !(p.1 == k)) = r := by
        rw [List.filter_eq_self]
        intro q hq
        have := hp.1 q hq
        simp
        exact fun e => this e.symm
      simp [e]
    · have hne : (p.1 == k) = false := by simpa using hp.1 _ hm
      have ih := sum_out g hp.2 hm
      simp only [List.map_cons, List.sum_cons, List.filter_cons, hne, Bool.not_false, if_true, ih]
      omega

theorem sum_le (g : Nat → Nat) (B : Nat) : ∀ (l : Dm.Dir), (∀ p ∈ l, g p.2 ≤ B) → (l.map fun p => g p.2).sum ≤ l.length * B
  | [], _ => by simp
  | p :: r, h => by
    have h1 := h p (by simp)
    have ih := sum_le g B r (fun q hq => h q (by simp [hq]))
    simp only [List.map_cons, List.sum_cons, List.length_cons, Nat.add_mul]
    omega

set_option maxHeartbeats 400000 in
theorem used_any {w : World} {m : Nat} {d : Dm.Dir} (h : DirAt w m d) (ln : Nat → Nat) (hc : ∀ p ∈ d, ∃ a cap, w.cell? ⟨p.2, 0, none⟩ = some (.slice a (ln p.2) cap)) (hb : ∀ p ∈ d, ln p.2 ≤ 140737488355328) (hd : d.length ≤ 4096) :
    Calls Try.prog 56 #[.map (some m)] w fun e w' => e = .returned (.int .i64 ((d.map fun p => ln p.2).sum : Nat)) ∧ Only (fun _ => False) w w' := by
  obtain ⟨w1, hrun, hrg, hgr, hsz⟩ := h.range
  have hap := h.apart
  have hml := h.lt
  have htot : (d.map fun p => ln p.2).sum ≤ 4096 * 140737488355328 := Nat.le_trans (sum_le ln _ d hb) (Nat.mul_le_mul_right _ hd)
  generalize ht : (d.map fun p => ln p.2).sum = tot at *
  have HT := Lib.hid ht; clear ht
  have HP := Lib.hid hap; have HC := Lib.hid hc; have HH := Lib.hid h; have HG := Lib.hid hgr; have HR := Lib.hid hrg; have HZ := Lib.hid hsz; have HB := Lib.hid hb
  clear hap hc h hgr hrg hsz hb hd
  go_enter Try.func56, Try.ntmps56
  go_wp2
  go_loopw [3] (fun n w' => ∃ (k : Nat) (rest : Dm.Dir), RangeAt w' m w.heap.size d rest ∧ n = .int .i64 k ∧ k + (rest.map fun p => ln p.2).sum = tot ∧ w.grownBy w' none) (fun _ w' => w'.rangeLeft m w.heap.size)
  case atStart => exact ⟨0, d, HR.out, rfl, by rw [HT.out]; simp, HG.out⟩
  case round =>
    obtain ⟨k, rest, hra, rfl, hsum, hgw⟩ := hrel
    have hsub : rest.Sublist d := by obtain ⟨left, cnt, _, rfl⟩ := hra; exact List.filter_sublist
    rcases hra.next 0 with ⟨rfl, hrun2⟩ | ⟨s, f, w2, hmem, hrun2, hra2, hgr2, hsz2, hen2, hlt⟩
    · have hk : k = tot := by simpa using hsum
      have HW := Lib.hid hgw
      subst hk
      clear hra hsum hgw hsub hrun htot
      go_wp2
      go_ret
      exact ⟨rfl, (Only.of_grown HW.out).mono fun _ _ h => by cases h⟩
    · obtain ⟨a, cap, hcell⟩ := HC.out _ (hsub.subset hmem)
      have hfl : f < w.heap.size := World.block_lt_of_cell? w _ hcell
      have hcell2 : w2.cell? ⟨f, 0, none⟩ = some (.slice a (ln f) cap) := by
        rw [World.cell?_of_block (w := wr) (hgr2.block f (by have := hgw.size; omega) (by simp; omega)), World.cell?_of_block (w := w) (hgw.block f hfl (by simp))]
        exact hcell
      have hs2 := sum_out ln (HP.out.sublist hsub) hmem
      have hbd : k + ln f ≤ tot := by omega
      have hbi : (k : Int) + (ln f : Int) ≤ 4096 * 140737488355328 := by omega
      have HS : Hid (k + ln f + ((rest.filter fun p => !(p.1 == s.data.toList)).map fun p => ln p.2).sum = tot) := by unfold Hid; omega
      have HRA := Lib.hid hra2
      have HGW : Hid (w.grownBy w2 none) := hgw.andThen hgr2 (fun j hj => by cases hj; exact .inl (Nat.le_refl _))
      have HLT := Lib.hid hlt
      clear hra hsum hgw hsub hrun htot hmem hra2 hgr2 hsz2 hs2 hcell hlt hbd
      go_wp2
      go_roundw
      case rel => exact ⟨k + ln f, _, HRA.out, by go_num, HS.out, HGW.out⟩
      case measure => exact HLT.out

end Go.Proofs.Ythjabfhfkikalaa
