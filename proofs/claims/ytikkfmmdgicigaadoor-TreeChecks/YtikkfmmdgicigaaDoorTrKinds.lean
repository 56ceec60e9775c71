/- tree's kindsOf. Conditions: texts and rows within the reach. -/
import Derived.Test.YtikkfmmdgicigaaDoorTrCheck
import Derived.Test.YtikkfmmdgicigaaDoorTrMap
namespace Go.Proofs.YtikkfmmdgicigaaDoor
open Go.RowKit

namespace Tr
/-- Distinct paths. -/
abbrev Dist (l : List En) : Prop := l.Pairwise fun a b => a.path ≠ b.path
def kmOf (l : List En) : Km := l.foldl (fun d e => kput d e.path e.kind) []
theorem kmOf_snoc (l : List En) (e : En) : kmOf (l ++ [e]) = kput (kmOf l) e.path e.kind := by simp [kmOf]
theorem snoc_ind {α : Type} {P : List α → Prop} (h0 : P []) (h1 : ∀ l a, P l → P (l ++ [a])) : ∀ l, P l := by
  intro l
  have : ∀ n (l : List α), l.length = n → P l := by
    intro n
    induction n with
    | zero => intro l h; rw [List.eq_nil_of_length_eq_zero h]; exact h0
    | succ n ih =>
      intro l h
      rcases List.eq_nil_or_concat l with rfl | ⟨r, x, rfl⟩
      · simp at h
      · rw [List.concat_eq_append] at h ⊢
        exact h1 r x (ih r (by simpa using h))
  exact this _ l rfl
theorem named_snoc (l : List En) (e : En) (p : List UInt8) : named (l ++ [e]) p = (named l p || e.path == p) := by simp [named]
theorem kmOf_has (p : List UInt8) : ∀ l : List En, (kget (kmOf l) p).isSome = named l p := by
  refine snoc_ind rfl fun l e ih => ?_
  rw [kmOf_snoc, kget_put, named_snoc, ← ih]
  by_cases h : p = e.path
  · subst h; simp
  · rw [if_neg h, beq_eq_false_iff_ne.2 (Ne.symm h), Bool.or_false]
theorem dist_snoc {l : List En} {e : En} : Dist (l ++ [e]) ↔ Dist l ∧ named l e.path = false := by
  unfold Dist
  rw [List.pairwise_append, named_false]
  constructor
  · rintro ⟨h1, _, h3⟩
    exact ⟨h1, fun x hx => h3 x hx e (by simp)⟩
  · rintro ⟨h1, h3⟩
    refine ⟨h1, List.pairwise_singleton _ _, fun x hx y hy => ?_⟩
    rw [List.mem_singleton] at hy
    subst hy
    exact h3 x hx
theorem kmOf_le : ∀ l : List En, (kmOf l).length ≤ l.length := by
  refine snoc_ind (Nat.le_refl _) fun l e ih => ?_
  rw [kmOf_snoc]
  have := kput_le (kmOf l) e.path e.kind
  simp; omega
theorem kmOf_len : ∀ l : List En, Dist l ↔ (kmOf l).length = l.length := by
  refine snoc_ind (by simp [kmOf]) fun l e ih => ?_
  rw [kmOf_snoc, dist_snoc, ih]
  have hh := kmOf_has e.path l
  have hle := kmOf_le l
  cases hn : named l e.path
  · rw [hn] at hh
    rw [kput_new (by simpa using hh)]
    simp
  · rw [hn] at hh
    have := kput_old (d := kmOf l) (k := e.path) (v := e.kind) (by intro e1; rw [e1] at hh; simp at hh)
    simp
    omega
end Tr

set_option maxRecDepth 100000 in
set_option maxHeartbeats 1000000 in
theorem tkinds_any {w : World} {v : Value} {xs : List Ve} (h : EntsAt w (fun k => k < w.heap.size) v xs) (hf : Fit xs) (hn : xs.length ≤ 1000000) :
    Calls Tryd.prog 47 #[v] w fun e w' => e = .returned (.map (some w.heap.size)) ∧ KmAt w' w.heap.size (Tr.kmOf (ens xs)) ∧ Only (fun _ => False) w w' := by
  obtain ⟨a, c, rfl⟩ := h.shape
  have H := Lib.hid h
  clear h
  have hmm := @run_makeMap Tryd.prog
  go_enter Tryd.func47, Tryd.ntmps47
  go_wp2_with fail
  go_loopw [9] (fun iv wr => ∃ i : Nat, i ≤ xs.length ∧ iv = .int .i64 i ∧ KmAt wr w.heap.size (Tr.kmOf ((ens xs).take i)) ∧ Only (fun _ => False) w wr) (fun iv _ => xs.length - (intOf iv).toNat)
  case atStart => exact ⟨0, Nat.zero_le _, rfl, KmAt.empty w, Only.alloc _⟩
  case round =>
    obtain ⟨i, hi, rfl, hkm, how⟩ := hrel
    by_cases hlt : i < xs.length
    · obtain ⟨g, o, ua, uc, rfl, hg, k0, k1, k2, k3, k4, k5, k6, k7, hv, hb⟩ := (H.out.quiet how).at_ hlt
      have pz : 0 ≤ (i : Int) := by omega
      have mz : (i : Int) < (xs.length : Int) := by omega
      have hfx := hf xs[i] (List.getElem_mem hlt)
      have et : (ens xs).take (i + 1) = (ens xs).take i ++ [xs[i].2] := by rw [List.take_add_one, List.getElem?_eq_getElem (by rw [ens_len]; exact hlt), ens_at hlt]; rfl
      have hle := Tr.kmOf_le ((ens xs).take i)
      rw [List.length_take] at hle
      have hso : ∀ X : Obj, ∃ w', (Instr.mapUpdate 68 (.map (some w.heap.size)) (.string ⟨xs[i].2.path.toArray⟩) (.int .i64 xs[i].2.kind)).run Tryd.prog (wr.alloc X) = .ok () w' ∧ KmAt w' w.heap.size (Tr.kput (Tr.kmOf ((ens xs).take i)) xs[i].2.path xs[i].2.kind) ∧ Only (fun k => k = w.heap.size) (wr.alloc X) w' ∧ w'.heap.size = (wr.alloc X).heap.size :=
        fun X => (hkm.only (Only.alloc X) (fun x => x)).store xs[i].2.path (by unfold maxLen; omega) (by unfold maxLen; omega) xs[i].2.kind
      obtain ⟨w5, hrun, hd5, ho5, -⟩ := hso (.cells #[.string ⟨xs[i].2.path.toArray⟩, .int .i64 xs[i].2.kind, .int .i64 xs[i].2.mode, .int .i64 xs[i].2.uid, .int .i64 xs[i].2.gid, .int .i64 xs[i].2.time, .string ⟨xs[i].2.link.toArray⟩, .slice ua xs[i].2.data.length uc] 41)
      have HD := Lib.hid hd5; have HO := Lib.hid ho5; have HOW := Lib.hid how; have HE := Lib.hid et
      clear hso hd5 ho5 how et hkm hb hv hle
      go_wp2_with fail
      go_roundw
      case rel =>
        refine ⟨i + 1, by omega, by go_num, ?_, ?_⟩
        · rw [HE.out, Tr.kmOf_snoc]; exact HD.out
        · exact (HOW.out.trans (Only.alloc _)).andThen HO.out (fun k hk e => by omega)
      case measure => simp [intOf]; omega
    · have hin : i = xs.length := by omega
      subst hin
      have HK := Lib.hid hkm; have HOW := Lib.hid how
      clear hkm how
      go_wp2_with fail
      go_ret
      refine ⟨rfl, ?_, HOW.out⟩
      have := HK.out
      rw [List.take_of_length_le (by rw [ens_len]; exact Nat.le_refl _)] at this
      exact this

end Go.Proofs.YtikkfmmdgicigaaDoor
