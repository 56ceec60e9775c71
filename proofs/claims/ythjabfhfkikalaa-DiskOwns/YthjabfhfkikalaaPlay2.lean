/- One call of a script, whatever its kind. Conditions: counts far from an int's end; rows within reach. -/
import Derived.Test.YthjabfhfkikalaaPlay
namespace Go.Proofs.Ythjabfhfkikalaa
open Go.RowKit Go.Maps Go.WideMaps

set_option maxHeartbeats 1000000 in
theorem play_create {w : World} {b : Nat} {ρ : Roles} {L : Lay} {s : Dm.St} (h : Rep w b ρ L s) (hwf : s.WF) (hst : s.steps < 2 ^ 62) (hch : s.chg.length < 2 ^ 32) (o : OpD) (dv cv : Value) (ho : OpAt w (fun k => k < w.heap.size ∧ ρ k = none) o dv cv) (hk : o.kind = 0) :
    Calls Try.prog 14 #[.pointer (some ⟨b, 0, none⟩), .agg (opCells o dv cv)] w (OpPost b ρ w (s.create o.name.data.toList)) := by
  obtain ⟨da, dc, hds⟩ := ho.data.shape
  obtain ⟨ca, cc, hcs⟩ := ho.cuts.shape
  subst hds hcs
  obtain ⟨kind, name, dst, data, n, m, dirs, cuts⟩ := o
  simp only at hk
  subst hk
  simp only [opCells] at *
  have hon : Only (fun _ => False) w (w.alloc (.cells #[.int .i64 0, .string name, .string dst, .slice da data.length dc, .int .i64 n, .int .i64 m, .int .i64 dirs, .slice ca cuts.length cc] 39)) := Only.alloc _
  have hc := create_rep (h.only_none hon) hwf hst hch name ho.name
  generalize hr : s.create name.data.toList = r at *
  have HON := Lib.hid hon
  clear h hwf hst hch ho hon hr
  go_enter Try.func14, Try.ntmps14
  go_wp2_with (go_at_call 20; refine hc.mono ?_; rintro e w' hq; have HQ := Lib.hid hq; obtain ⟨rfl, -⟩ := hq)
  go_ret
  exact HQ.out.after (Moves.none HON.out)

set_option maxHeartbeats 1000000 in
theorem play_sync {w : World} {b : Nat} {ρ : Roles} {L : Lay} {s : Dm.St} (h : Rep w b ρ L s) (hwf : s.WF) (hst : s.steps < 2 ^ 62) (o : OpD) (dv cv : Value) (ho : OpAt w (fun k => k < w.heap.size ∧ ρ k = none) o dv cv) (hk : o.kind = 2) :
    Calls Try.prog 14 #[.pointer (some ⟨b, 0, none⟩), .agg (opCells o dv cv)] w (OpPost b ρ w (s.sync o.name.data.toList)) := by
  obtain ⟨da, dc, hds⟩ := ho.data.shape
  obtain ⟨ca, cc, hcs⟩ := ho.cuts.shape
  subst hds hcs
  obtain ⟨kind, name, dst, data, n, m, dirs, cuts⟩ := o
  simp only at hk
  subst hk
  simp only [opCells] at *
  have hon : Only (fun _ => False) w (w.alloc (.cells #[.int .i64 2, .string name, .string dst, .slice da data.length dc, .int .i64 n, .int .i64 m, .int .i64 dirs, .slice ca cuts.length cc] 39)) := Only.alloc _
  have hc := sync_rep (h.only_none hon) hwf hst name ho.name
  generalize hr : s.sync name.data.toList = r at *
  have HON := Lib.hid hon
  clear h hwf hst ho hon hr
  go_enter Try.func14, Try.ntmps14
  go_wp2_with (go_at_call 22; refine hc.mono ?_; rintro e w' hq; have HQ := Lib.hid hq; obtain ⟨rfl, -⟩ := hq)
  go_ret
  exact HQ.out.after (Moves.none HON.out)

set_option maxHeartbeats 1000000 in
theorem play_syncDir {w : World} {b : Nat} {ρ : Roles} {L : Lay} {s : Dm.St} (h : Rep w b ρ L s) (hwf : s.WF) (hst : s.steps < 2 ^ 62) (o : OpD) (dv cv : Value) (ho : OpAt w (fun k => k < w.heap.size ∧ ρ k = none) o dv cv) (hk : o.kind = 3) :
    Calls Try.prog 14 #[.pointer (some ⟨b, 0, none⟩), .agg (opCells o dv cv)] w (OpPost b ρ w (s.syncDir)) := by
  obtain ⟨da, dc, hds⟩ := ho.data.shape
  obtain ⟨ca, cc, hcs⟩ := ho.cuts.shape
  subst hds hcs
  obtain ⟨kind, name, dst, data, n, m, dirs, cuts⟩ := o
  simp only at hk
  subst hk
  simp only [opCells] at *
  have hon : Only (fun _ => False) w (w.alloc (.cells #[.int .i64 3, .string name, .string dst, .slice da data.length dc, .int .i64 n, .int .i64 m, .int .i64 dirs, .slice ca cuts.length cc] 39)) := Only.alloc _
  have hc := syncDir_rep (h.only_none hon) hwf hst
  generalize hr : s.syncDir = r at *
  have HON := Lib.hid hon
  clear h hwf hst ho hon hr
  go_enter Try.func14, Try.ntmps14
  go_wp2_with (go_at_call 23; refine hc.mono ?_; rintro e w' hq; have HQ := Lib.hid hq; obtain ⟨rfl, -⟩ := hq)
  go_ret
  exact HQ.out.after (Moves.none HON.out)

set_option maxHeartbeats 1000000 in
theorem play_rename {w : World} {b : Nat} {ρ : Roles} {L : Lay} {s : Dm.St} (h : Rep w b ρ L s) (hwf : s.WF) (hst : s.steps < 2 ^ 62) (hch : s.chg.length < 2 ^ 32) (o : OpD) (dv cv : Value) (ho : OpAt w (fun k => k < w.heap.size ∧ ρ k = none) o dv cv) (hk : o.kind = 4) :
    Calls Try.prog 14 #[.pointer (some ⟨b, 0, none⟩), .agg (opCells o dv cv)] w (OpPost b ρ w (s.rename o.name.data.toList o.dst.data.toList)) := by
  obtain ⟨da, dc, hds⟩ := ho.data.shape
  obtain ⟨ca, cc, hcs⟩ := ho.cuts.shape
  subst hds hcs
  obtain ⟨kind, name, dst, data, n, m, dirs, cuts⟩ := o
  simp only at hk
  subst hk
  simp only [opCells] at *
  have hon : Only (fun _ => False) w (w.alloc (.cells #[.int .i64 4, .string name, .string dst, .slice da data.length dc, .int .i64 n, .int .i64 m, .int .i64 dirs, .slice ca cuts.length cc] 39)) := Only.alloc _
  have hc := rename_rep (h.only_none hon) hwf hst hch name dst ho.name ho.dst
  generalize hr : s.rename name.data.toList dst.data.toList = r at *
  have HON := Lib.hid hon
  clear h hwf hst hch ho hon hr
  go_enter Try.func14, Try.ntmps14
  go_wp2_with (go_at_call 24; refine hc.mono ?_; rintro e w' hq; have HQ := Lib.hid hq; obtain ⟨rfl, -⟩ := hq)
  go_ret
  exact HQ.out.after (Moves.none HON.out)

set_option maxHeartbeats 1000000 in
theorem play_remove {w : World} {b : Nat} {ρ : Roles} {L : Lay} {s : Dm.St} (h : Rep w b ρ L s) (hwf : s.WF) (hst : s.steps < 2 ^ 62) (hch : s.chg.length < 2 ^ 32) (o : OpD) (dv cv : Value) (ho : OpAt w (fun k => k < w.heap.size ∧ ρ k = none) o dv cv) (hk : o.kind = 5) :
    Calls Try.prog 14 #[.pointer (some ⟨b, 0, none⟩), .agg (opCells o dv cv)] w (OpPost b ρ w (s.remove o.name.data.toList)) := by
  obtain ⟨da, dc, hds⟩ := ho.data.shape
  obtain ⟨ca, cc, hcs⟩ := ho.cuts.shape
  subst hds hcs
  obtain ⟨kind, name, dst, data, n, m, dirs, cuts⟩ := o
  simp only at hk
  subst hk
  simp only [opCells] at *
  have hon : Only (fun _ => False) w (w.alloc (.cells #[.int .i64 5, .string name, .string dst, .slice da data.length dc, .int .i64 n, .int .i64 m, .int .i64 dirs, .slice ca cuts.length cc] 39)) := Only.alloc _
  have hc := remove_rep (h.only_none hon) hwf hst hch name ho.name
  generalize hr : s.remove name.data.toList = r at *
  have HON := Lib.hid hon
  clear h hwf hst hch ho hon hr
  go_enter Try.func14, Try.ntmps14
  go_wp2_with (go_at_call 25; refine hc.mono ?_; rintro e w' hq; have HQ := Lib.hid hq; obtain ⟨rfl, -⟩ := hq)
  go_ret
  exact HQ.out.after (Moves.none HON.out)

set_option maxHeartbeats 1000000 in
theorem play_arm {w : World} {b : Nat} {ρ : Roles} {L : Lay} {s : Dm.St} (h : Rep w b ρ L s) (o : OpD) (dv cv : Value) (ho : OpAt w (fun k => k < w.heap.size ∧ ρ k = none) o dv cv) (hk : o.kind = 8) :
    Calls Try.prog 14 #[.pointer (some ⟨b, 0, none⟩), .agg (opCells o dv cv)] w (OpPost b ρ w (s.arm o.n)) := by
  obtain ⟨da, dc, hds⟩ := ho.data.shape
  obtain ⟨ca, cc, hcs⟩ := ho.cuts.shape
  subst hds hcs
  obtain ⟨kind, name, dst, data, n, m, dirs, cuts⟩ := o
  simp only at hk
  subst hk
  simp only [opCells] at *
  have hon : Only (fun _ => False) w (w.alloc (.cells #[.int .i64 8, .string name, .string dst, .slice da data.length dc, .int .i64 n, .int .i64 m, .int .i64 dirs, .slice ca cuts.length cc] 39)) := Only.alloc _
  have hc := arm_rep (h.only_none hon) n
  generalize hr : s.arm n = r at *
  have HON := Lib.hid hon
  clear h ho hon hr
  go_enter Try.func14, Try.ntmps14
  go_wp2_with (go_at_call 26; refine hc.mono ?_; rintro e w' hq; have HQ := Lib.hid hq; obtain ⟨rfl, -⟩ := hq)
  go_ret
  exact HQ.out.after (Moves.none HON.out)

set_option maxHeartbeats 1000000 in
theorem play_other {w : World} {b : Nat} {ρ : Roles} {L : Lay} {s : Dm.St} (h : Rep w b ρ L s) (o : OpD) (dv cv : Value) (ho : OpAt w (fun k => k < w.heap.size ∧ ρ k = none) o dv cv)
    (k0 : o.kind ≠ 0) (k1 : o.kind ≠ 1) (k2 : o.kind ≠ 2) (k3 : o.kind ≠ 3) (k4 : o.kind ≠ 4) (k5 : o.kind ≠ 5) (k8 : o.kind ≠ 8) (k9 : o.kind ≠ 9) :
    Calls Try.prog 14 #[.pointer (some ⟨b, 0, none⟩), .agg (opCells o dv cv)] w (OpPost b ρ w (0, s)) := by
  obtain ⟨da, dc, hds⟩ := ho.data.shape
  obtain ⟨ca, cc, hcs⟩ := ho.cuts.shape
  subst hds hcs
  obtain ⟨kind, name, dst, data, n, m, dirs, cuts⟩ := o
  simp only [opCells] at *
  have hon : Only (fun _ => False) w (w.alloc (.cells #[.int .i64 kind, .string name, .string dst, .slice da data.length dc, .int .i64 n, .int .i64 m, .int .i64 dirs, .slice ca cuts.length cc] 39)) := Only.alloc _
  have HON := Lib.hid hon
  have HH := Lib.hid h
  have e0 : (kind == 0) = false := by simpa using k0
  have e1 : (kind == 1) = false := by simpa using k1
  have e2 : (kind == 2) = false := by simpa using k2
  have e3 : (kind == 3) = false := by simpa using k3
  have e4 : (kind == 4) = false := by simpa using k4
  have e5 : (kind == 5) = false := by simpa using k5
  have e8 : (kind == 8) = false := by simpa using k8
  have e9 : (kind == 9) = false := by simpa using k9
  clear h ho hon k0 k1 k2 k3 k4 k5 k8 k9
  go_enter Try.func14, Try.ntmps14
  go_wp2
  go_ret
  exact OpPost.same HH.out HON.out rfl

set_option maxHeartbeats 1000000 in
theorem play_fail {w : World} {b : Nat} {ρ : Roles} {L : Lay} {s : Dm.St} (h : Rep w b ρ L s) (o : OpD) (dv cv : Value) (ho : OpAt w (fun k => k < w.heap.size ∧ ρ k = none) o dv cv) (hk : o.kind = 9) :
    Calls Try.prog 14 #[.pointer (some ⟨b, 0, none⟩), .agg (opCells o dv cv)] w (OpPost b ρ w (s.fail (o.n :: o.cuts))) := by
  obtain ⟨da, dc, hds⟩ := ho.data.shape
  obtain ⟨ca, cc, hcs⟩ := ho.cuts.shape
  subst hds hcs
  obtain ⟨kind, name, dst, data, n, m, dirs, cuts⟩ := o
  simp only at hk
  subst hk
  simp only [opCells] at *
  have hnone : ∀ k, w.heap.size ≤ k → ρ k = none := fun k hk => by
    cases hx : ρ k with
    | none => rfl
    | some r => have := h.low k (by rw [hx]; simp); omega
  generalize hw1 : w.alloc (.cells #[.int .i64 9, .string name, .string dst, .slice da data.length dc, .int .i64 n, .int .i64 m, .int .i64 dirs, .slice ca cuts.length cc] 39) = w1 at *
  have hon : Only (fun _ => False) w w1 := by rw [← hw1]; exact Only.alloc _
  have hz1 : w.heap.size < w1.heap.size := by rw [← hw1]; simp
  have hrow : (w1.alloc (.cells #[.int .i64 n] 3)).ownsRow 0 3 1 (.slice (some ⟨w1.heap.size, 0, none⟩) 1 1) 1 [.int .i64 n] := World.ownsRow_lit w1 #[.int .i64 n] 1 (Nat.zero_le _) (by decide) rfl
  have hsrc : IntsAt (w1.alloc (.cells #[.int .i64 n] 3)) (fun k => k < w.heap.size ∧ ρ k = none) (.slice ca cuts.length cc) cuts :=
    ho.cuts.kept (fun k hk => (Below.heap_alloc w1 _ k (by omega)).trans (hon.block k hk.1 (fun x => x))) (fun _ h => h)
  have hlen : 1 + cuts.length ≤ 17592186044416 := by have := ho.clen; simp only at this; omega
  have hF : (∀ (a' : Option Addr) (c' : Nat) (w2 : World), w2.ownsRow 0 3 1 (.slice a' (1 + cuts.length) c') (1 + cuts.length) ([.int .i64 n] ++ cuts.map (Value.int .i64)) → (w1.alloc (.cells #[.int .i64 n] 3)).grownBy w2 (Value.slice (some ⟨w1.heap.size, 0, none⟩) 1 1).ownBlock →
      ((Value.slice a' (1 + cuts.length) c').ownBlock = (Value.slice (some ⟨w1.heap.size, 0, none⟩) 1 1).ownBlock ∨ (Value.slice a' (1 + cuts.length) c').ownBlock = some (w1.alloc (.cells #[.int .i64 n] 3)).heap.size) →
      Calls Try.prog 27 #[.pointer (some ⟨b, 0, none⟩), .slice a' (1 + cuts.length) c'] w2 (OpPost b ρ w (s.fail (n :: cuts)))) := by
    intro a' c' w2 hown hgr hat
    have ho2 : Only (fun _ => False) w w2 := by
      refine hon.trans ((Only.alloc (.cells #[.int .i64 n] 3)).andThen (Only.of_grown hgr) fun k hk h => ?_)
      have h3 : k = w1.heap.size := Option.some.inj h
      omega
    have el : 1 + cuts.length = (n :: cuts).length := by simp; omega
    have em : [Value.int .i64 n] ++ cuts.map (Value.int .i64) = (n :: cuts).map (Value.int .i64) := rfl
    rw [el, em] at hown
    rw [el] at hat ⊢
    have hint : IntsAt w2 (fun k => k < w2.heap.size ∧ ρ k = none) (.slice a' (n :: cuts).length c') (n :: cuts) := by
      rcases hown.2 with ⟨_, h2⟩ | ⟨g, cap, cur, h1, _, h3, _⟩
      · simp at h2
      · obtain ⟨ha, _, hc⟩ := Value.slice.inj h1
        subst ha hc
        refine .inr ⟨⟨g, 0, none⟩, c', rfl, fun _ => ⟨lt_of_heap h3, hnone g ?_⟩, fun j x hx => ?_⟩
        · rcases hat with hat | hat
          · have h4 : g = w1.heap.size := Option.some.inj hat
            omega
          · have h4 := Option.some.inj hat
            simp at h4; omega
        · exact hown.cells (g := g) rfl j (.int .i64 x) (by rw [List.getElem?_map, hx]; rfl)
    refine (fail_rep (h.only_none ho2) hint (by have := ho.clen; simp only at this; simp; omega) ?_).mono fun e w' hq => hq.after (Moves.none ho2)
    intro x hx
    rcases List.mem_cons.1 hx with rfl | hx
    · exact ho.nlt
    · exact ho.clt x hx
  generalize s.fail (n :: cuts) = r at *
  subst hw1
  simp only [World.size_alloc] at hrow hF
  have HROW := Lib.hid hrow; have HSRC := Lib.hid hsrc; have HLEN := Lib.hid hlen; have HF := Lib.hid hF
  clear h ho hon hnone hrow hsrc hlen hz1 hF
  go_enter Try.func14, Try.ntmps14
  go_wp2_with (first
    | (at_builtin; refine wpList_append_ints _ rfl _ _ rfl (.slice (some ⟨w.heap.size + 1, 0, none⟩) 1 1) (.slice ca cuts.length cc) 1 [.int .i64 n] rfl rfl HROW.out HSRC.out HLEN.out ?_; intro a' c' w2 hown hgr hat; have hfl := HF.out a' c' w2 hown hgr (by simpa only [World.size_alloc] using hat); clear hown hgr hat)
    | (go_at_call 27; refine hfl.mono ?_; rintro e w' hq; have HQ := Lib.hid hq; obtain ⟨rfl, -⟩ := hq))
  go_ret
  exact HQ.out

/-- One call, whatever its kind. -/
theorem play_rep {w : World} {b : Nat} {ρ : Roles} {L : Lay} {s : Dm.St} (h : Rep w b ρ L s) (hwf : s.WF) (hst : s.steps < 2 ^ 62) (hch : s.chg.length < 2 ^ 32) (o : OpD) (dv cv : Value) (ho : OpAt w (fun k => k < w.heap.size ∧ ρ k = none) o dv cv) :
    Calls Try.prog 14 #[.pointer (some ⟨b, 0, none⟩), .agg (opCells o dv cv)] w (OpPost b ρ w (playS s o)) := by
  unfold playS
  split
  · exact play_create h hwf hst hch o dv cv ho ‹_›
  split
  · exact play_append h hwf hst o dv cv ho ‹_›
  split
  · exact play_sync h hwf hst o dv cv ho ‹_›
  split
  · exact play_syncDir h hwf hst o dv cv ho ‹_›
  split
  · exact play_rename h hwf hst hch o dv cv ho ‹_›
  split
  · exact play_remove h hwf hst hch o dv cv ho ‹_›
  split
  · exact play_arm h o dv cv ho ‹_›
  split
  · exact play_fail h o dv cv ho ‹_›
  · exact play_other h o dv cv ho ‹_› ‹_› ‹_› ‹_› ‹_› ‹_› ‹_› ‹_›

end Go.Proofs.Ythjabfhfkikalaa
