/- A synced file keeps its synced bytes, whatever is done to other names. Nothing of the program stands here but the plain play of a call. Conditions: none. -/
import Derived.Test.YthjabfhfkikalaaScript
namespace Go.Proofs.Ythjabfhfkikalaa
namespace Dm

theorem get_ins_ne {k n : Nm} {v : Nat} (h : n ≠ k) : ∀ d : Dir, get (ins (n, v) d) k = get d k
  | [] => by simp [get, ins, h]
  | y :: r => by
    have ih := get_ins_ne (v := v) h r
    unfold get at ih ⊢
    unfold ins
    split
    · simp [h]
    · simp only [List.find?_cons]
      cases hy : (y.1 == k)
      · exact ih
      · rfl
theorem get_del_ne {k n : Nm} (h : n ≠ k) : ∀ d : Dir, get (del d n) k = get d k
  | [] => rfl
  | y :: r => by
    have ih := get_del_ne h r
    unfold get del at ih ⊢
    simp only [List.filter_cons]
    cases hy : (y.1 == n)
    · simp only [Bool.not_false, if_true, List.find?_cons]
      cases hk : (y.1 == k)
      · exact ih
      · rfl
    · have hk : (y.1 == k) = false := by
        have e : y.1 = n := by simpa using hy
        rw [e]; simpa using h
      simp only [Bool.not_true, List.find?_cons, hk]
      exact ih
theorem get_put_ne {k n : Nm} {v : Nat} (h : n ≠ k) (d : Dir) : get (put d n v) k = get d k := by
  unfold put; rw [get_ins_ne h, get_del_ne h]

/-- A change of other names. -/
theorem get_app_ne {k : Nm} {c : Chg} (hf : c.frm ≠ k) (ht : c.to ≠ k) (d : Dir) : get (app d c) k = get d k := by
  unfold app
  split
  · split
    · exact get_put_ne ht d
    · rfl
  · split
    · exact get_del_ne hf d
    · split
      · rw [get_put_ne ht, get_del_ne hf]
      · exact get_del_ne hf d
theorem get_fold_ne {k : Nm} {l : List Chg} (h : ∀ c ∈ l, c.frm ≠ k ∧ c.to ≠ k) (d : Dir) : get (l.foldl app d) k = get d k := by
  induction l generalizing d with
  | nil => rfl
  | cons c r ih =>
    rw [List.foldl_cons, ih (fun c hc => h c (by simp [hc])), get_app_ne (h c (by simp)).1 (h c (by simp)).2]

/-- A file that begins with its synced 'data', of at most N bytes. -/
structure Fq (data : List UInt8) (N : Nat) (f : Fil) : Prop where
  pre : data <+: f.data
  syn : data.length ≤ f.synced
  len : f.data.length ≤ N

theorem Fq.crash {data : List UInt8} {N : Nat} {f : Fil} (h : Fq data N f) (e : Int) : Fq data N (f.crash e) := by
  refine ⟨?_, h.syn, ?_⟩
  · unfold Fil.crash
    obtain ⟨t, ht⟩ := h.pre
    have := h.syn
    rw [← ht]
    simp only
    rw [List.take_append, List.take_of_length_le (by omega)]
    exact List.prefix_append _ _
  · unfold Fil.crash
    have := h.len
    simp only [List.length_take]
    omega
theorem Fq.sync {data : List UInt8} {N : Nat} {f : Fil} (h : Fq data N f) : Fq data N { f with synced := f.data.length } := ⟨h.pre, h.pre.length_le, h.len⟩

/-- The disk keeps 'data' under the name k, in file i. -/
structure Kp (k : Nm) (i : Nat) (data : List UInt8) (N : Nat) (s : St) : Prop where
  dir : get s.dir k = some i
  syn : get s.syn k = some i
  chg : ∀ c ∈ s.chg, c.frm ≠ k ∧ c.to ≠ k
  one : ∀ p ∈ s.dir, p.2 = i → p.1 = k
  fil : ∃ f, s.files[i]? = some f ∧ Fq data N f

theorem Kp.of_same {k : Nm} {i : Nat} {data : List UInt8} {N : Nat} {s t : St} (h : Kp k i data N s) (e1 : t.dir = s.dir) (e2 : t.syn = s.syn) (e3 : t.chg = s.chg) (e4 : t.files = s.files) : Kp k i data N t :=
  ⟨by rw [e1]; exact h.dir, by rw [e2]; exact h.syn, by rw [e3]; exact h.chg, by rw [e1]; exact h.one, by rw [e4]; exact h.fil⟩
theorem Kp.step {k : Nm} {i : Nat} {data : List UInt8} {N : Nat} {s : St} (h : Kp k i data N s) : Kp k i data N s.step.2 := by
  obtain ⟨a, b, c, d, _⟩ := s.step_same
  exact h.of_same a b c d
theorem Kp.alter {k : Nm} {i : Nat} {data : List UInt8} {N : Nat} {s : St} (h : Kp k i data N s) (c : Chg) (fs : List Fil) (hf : c.frm ≠ k) (ht : c.to ≠ k) (hm : c.made ≠ some i) : Kp k i data N (s.alter c fs).2 := by
  unfold St.alter
  split
  · obtain ⟨a, b, e, d, _⟩ := s.step_same
    refine ⟨?_, by show get s.step.2.syn k = _; rw [b]; exact h.syn, ?_, ?_, ?_⟩
    · show get (app s.dir c) k = _
      rw [get_app_ne hf ht]; exact h.dir
    · intro x hx
      rcases List.mem_append.1 hx with hx | hx
      · exact h.chg x hx
      · rw [List.mem_singleton] at hx
        subst hx; exact ⟨hf, ht⟩
    · intro p hp hi
      have hp : p ∈ app s.dir c := hp
      have hput : ∀ {d : Dir} {v : Nat}, (∀ p ∈ d, p ∈ s.dir) → v ≠ i → p ∈ put d c.to v → p.1 = k := by
        intro d v hd hv hp
        rcases mem_put hp with rfl | hp
        · exact (hv hi).elim
        · exact h.one p (hd p hp) hi
      unfold app at hp
      split at hp
      · split at hp
        · rename_i j hj
          exact hput (fun _ h => h) (fun e => hm (by rw [hj, e])) hp
        · exact h.one p hp hi
      · split at hp
        · exact h.one p (mem_del hp) hi
        · split at hp
          · rename_i j hj
            exact hput (fun _ h => mem_del h) (fun e => hf (h.one (c.frm, j) (get_mem hj) e)) hp
          · exact h.one p (mem_del hp) hi
    · obtain ⟨f, h1, h2⟩ := h.fil
      refine ⟨f, ?_, h2⟩
      show (s.files ++ fs)[i]? = _
      rw [List.getElem?_append_left (List.getElem?_eq_some_iff.1 h1).1]
      exact h1
  · exact h.step
theorem Kp.atFile {k : Nm} {i : Nat} {data : List UInt8} {N : Nat} {s : St} (h : Kp k i data N s) (j : Nat) (g : Fil → Fil) (hg : j = i → ∀ f, s.files[i]? = some f → Fq data N f → Fq data N (g f)) : Kp k i data N (s.atFile j g) := by
  refine ⟨h.dir, h.syn, h.chg, h.one, ?_⟩
  obtain ⟨f, h1, h2⟩ := h.fil
  by_cases e : j = i
  · subst e
    refine ⟨g f, ?_, hg rfl f h1 h2⟩
    show (s.files.modify j g)[j]? = _
    rw [List.getElem?_modify]; simp [h1]
  · refine ⟨f, ?_, h2⟩
    show (s.files.modify j g)[i]? = _
    rw [List.getElem?_modify]; simp [h1, e]

theorem Kp.create {k : Nm} {i : Nat} {data : List UInt8} {N : Nat} {s : St} (h : Kp k i data N s) (hk : k ≠ []) (n : Nm) (hn : n ≠ k) : Kp k i data N (s.create n).2 := by
  unfold St.create
  split
  · exact h
  split
  · exact h
  split
  · exact h
  split
  · exact h
  refine h.alter _ _ (Ne.symm hk) hn fun e => ?_
  obtain ⟨f, h1, _⟩ := h.fil
  have := (List.getElem?_eq_some_iff.1 h1).1
  have e := Option.some.inj e
  omega
theorem Kp.append {k : Nm} {i : Nat} {data : List UInt8} {N : Nat} {s : St} (h : Kp k i data N s) (n : Nm) (hn : n ≠ k) (b : List UInt8) : Kp k i data N (s.append n b).2 := by
  unfold St.append
  split
  · rename_i j hj
    split
    · exact h
    split
    · exact h.step.atFile j _ fun e => by
        subst e
        exact (hn (h.one (n, j) (get_mem (St.find_some hj).2.2) rfl)).elim
    · exact h.step
  · exact h
/-- The file itself grows. -/
theorem Kp.grow {k : Nm} {i : Nat} {data : List UInt8} {M N : Nat} {s : St} (h : Kp k i data M s) (b : List UInt8) (hN : M + b.length ≤ N) : Kp k i data N (s.append k b).2 := by
  have up : ∀ {s : St}, Kp k i data M s → Kp k i data N s := fun h => ⟨h.dir, h.syn, h.chg, h.one, by
    obtain ⟨f, h1, h2⟩ := h.fil
    exact ⟨f, h1, h2.pre, h2.syn, by have := h2.len; omega⟩⟩
  unfold St.append
  split
  · rename_i j hj
    split
    · exact up h
    split
    · have h' := h.step
      refine ⟨h'.dir, h'.syn, h'.chg, h'.one, ?_⟩
      obtain ⟨f, h1, h2⟩ := h'.fil
      have hl := h2.len
      by_cases e : j = i
      · subst e
        refine ⟨{ f with data := f.data ++ b }, ?_, h2.pre.trans (List.prefix_append _ _), h2.syn, by simp; omega⟩
        show (s.step.2.files.modify j _)[j]? = _
        rw [List.getElem?_modify]; simp [h1]
      · refine ⟨f, ?_, h2.pre, h2.syn, by omega⟩
        show (s.step.2.files.modify j _)[i]? = _
        rw [List.getElem?_modify]; simp [h1, e]
    · exact up h.step
  · exact up h
theorem Kp.sync {k : Nm} {i : Nat} {data : List UInt8} {N : Nat} {s : St} (h : Kp k i data N s) (n : Nm) : Kp k i data N (s.sync n).2 := by
  unfold St.sync
  split
  · split
    · exact h.step.atFile _ _ fun _ f _ hq => hq.sync
    · exact h.step
  · exact h
theorem Kp.syncDir {k : Nm} {i : Nat} {data : List UInt8} {N : Nat} {s : St} (h : Kp k i data N s) : Kp k i data N s.syncDir.2 := by
  unfold St.syncDir
  split
  · exact h
  split
  · exact ⟨h.step.dir, h.step.dir, by simp [St.settle], h.step.one, h.step.fil⟩
  · exact h.step
theorem Kp.rename {k : Nm} {i : Nat} {data : List UInt8} {N : Nat} {s : St} (h : Kp k i data N s) (f t : Nm) (hf : f ≠ k) (ht : t ≠ k) : Kp k i data N (s.rename f t).2 := by
  unfold St.rename
  split
  · exact h
  split
  · exact h
  split
  · exact h
  exact h.alter _ _ hf ht (by simp)
theorem Kp.remove {k : Nm} {i : Nat} {data : List UInt8} {N : Nat} {s : St} (h : Kp k i data N s) (hk : k ≠ []) (n : Nm) (hn : n ≠ k) : Kp k i data N (s.remove n).2 := by
  unfold St.remove
  split
  · exact h.alter _ _ hn (Ne.symm hk) (by simp)
  · exact h
theorem Kp.arm {k : Nm} {i : Nat} {data : List UInt8} {N : Nat} {s : St} (h : Kp k i data N s) (n : Int) : Kp k i data N (s.arm n).2 := by
  unfold St.arm
  split
  · exact h
  · exact h.of_same rfl rfl rfl rfl
theorem Kp.fail {k : Nm} {i : Nat} {data : List UInt8} {N : Nat} {s : St} (h : Kp k i data N s) (l : List Int) : Kp k i data N (s.fail l).2 := by
  unfold St.fail
  split
  · exact h
  · exact h.of_same rfl rfl rfl rfl

theorem cutAll_fil {i : Nat} {data : List UInt8} {N : Nat} (cuts : List Int) (d : Dir) : ∀ (n : Nat) (s : St), (∃ f, s.files[i]? = some f ∧ Fq data N f) → (∃ f, (cutAll cuts n d s).files[i]? = some f ∧ Fq data N f) ∧ (cutAll cuts n d s).dir = s.dir := by
  induction d with
  | nil => intro n s h; exact ⟨h, rfl⟩
  | cons p r ih =>
    intro n s h
    unfold cutAll
    obtain ⟨h1, h2⟩ := ih (n + 1) (s.atFile p.2 (Fil.crash (cuts.getD n 0))) (by
      obtain ⟨f, h1, h2⟩ := h
      by_cases e : p.2 = i
      · refine ⟨f.crash (cuts.getD n 0), ?_, h2.crash _⟩
        show (s.files.modify p.2 _)[i]? = _
        rw [List.getElem?_modify]; simp [h1, e]
      · refine ⟨f, ?_, h2⟩
        show (s.files.modify p.2 _)[i]? = _
        rw [List.getElem?_modify]; simp [h1, e])
    exact ⟨h1, h2⟩

/-- What a crash leaves. -/
theorem Kp.crash {k : Nm} {i : Nat} {data : List UInt8} {N : Nat} {s : St} (h : Kp k i data N s) (hk : good k = true) (dirs : Int) (cuts : List Int) : ∃ bs, (s.crash dirs cuts).read k = (0, bs) ∧ data <+: bs ∧ bs.length ≤ N := by
  have hd : get ((s.chg.take (max dirs 0).toNat).foldl app s.syn) k = some i := by
    rw [get_fold_ne fun c hc => h.chg c (List.mem_of_mem_take hc)]; exact h.syn
  obtain ⟨⟨f, h1, h2⟩, h3⟩ := cutAll_fil (i := i) (data := data) (N := N) cuts ((s.chg.take (max dirs 0).toNat).foldl app s.syn) 0 { s with dir := (s.chg.take (max dirs 0).toNat).foldl app s.syn } h.fil
  have hf : ∃ f', (s.crash dirs cuts).files[i]? = some f' ∧ f'.data = f.data := by
    unfold St.crash
    dsimp only
    generalize cutAll cuts 0 _ _ = t at *
    unfold St.settleAll syncAll syncIf St.settle St.restart
    dsimp only
    rw [List.getElem?_mapIdx, h1]
    simp only [Option.map_some]
    refine ⟨_, rfl, ?_⟩
    split <;> rfl
  have hdir : (s.crash dirs cuts).dir = (s.chg.take (max dirs 0).toNat).foldl app s.syn := by
    unfold St.crash
    dsimp only
    generalize cutAll cuts 0 _ _ = t at *
    exact h3
  have hdown : (s.crash dirs cuts).down = false := rfl
  obtain ⟨f', hf1, hf2⟩ := hf
  refine ⟨f.data, ?_, h2.pre, h2.len⟩
  unfold St.read St.find
  rw [hdown, hk, hdir, hd]
  simp [St.dataOf, hf1, hf2]
end Dm

/-- One call grows the counts by at most one. -/
theorem playS_counts (s : Dm.St) (o : OpD) : (playS s o).2.steps ≤ s.steps + 1 ∧ (playS s o).2.chg.length ≤ s.chg.length + 1 := by
  have hst := s.step_same.2.2.2.2.2.2
  have hch := s.step_same.2.2.1
  have halt : ∀ c f, (s.alter c f).2.steps ≤ s.steps + 1 ∧ (s.alter c f).2.chg.length ≤ s.chg.length + 1 := by
    intro c f
    unfold Dm.St.alter
    split
    · exact ⟨hst, by simp⟩
    · exact ⟨hst, by show s.step.2.chg.length ≤ _; rw [hch]; omega⟩
  have hsame : s.steps ≤ s.steps + 1 ∧ s.chg.length ≤ s.chg.length + 1 := ⟨by omega, by omega⟩
  have hstep : s.step.2.steps ≤ s.steps + 1 ∧ s.step.2.chg.length ≤ s.chg.length + 1 := ⟨hst, by rw [hch]; omega⟩
  unfold playS
  split
  · unfold Dm.St.create
    repeat' split
    all_goals first | exact hsame | exact halt _ _
  split
  · unfold Dm.St.append
    repeat' split
    all_goals first | exact hsame | exact hstep
  split
  · unfold Dm.St.sync
    repeat' split
    all_goals first | exact hsame | exact hstep
  split
  · unfold Dm.St.syncDir
    repeat' split
    all_goals first | exact hsame | exact hstep | exact ⟨hst, by simp [Dm.St.settle]⟩
  split
  · unfold Dm.St.rename
    repeat' split
    all_goals first | exact hsame | exact halt _ _
  split
  · unfold Dm.St.remove
    repeat' split
    all_goals first | exact hsame | exact halt _ _
  split
  · unfold Dm.St.arm
    repeat' split
    all_goals first | exact hsame
  split
  · unfold Dm.St.fail
    repeat' split
    all_goals first | exact hsame
  · exact hsame

theorem playS_WF {s : Dm.St} (h : s.WF) (o : OpD) (hn : o.n < 2 ^ 63) : (playS s o).2.WF := by
  unfold playS
  split
  · exact h.create _
  split
  · exact h.append _ _
  split
  · exact h.sync _
  split
  · exact h.syncDir
  split
  · exact h.rename _ _
  split
  · exact h.remove _
  split
  · exact h.arm _ hn
  split
  · exact h.fail _
  · exact h

theorem playS_Kp {k : Dm.Nm} {i : Nat} {data : List UInt8} {N : Nat} {s : Dm.St} (h : Dm.Kp k i data N s) (hk : k ≠ []) (o : OpD) (hn : o.name.data.toList ≠ k) (hd : o.dst.data.toList ≠ k) : Dm.Kp k i data N (playS s o).2 := by
  unfold playS
  split
  · exact h.create hk _ hn
  split
  · exact h.append _ hn _
  split
  · exact h.sync _
  split
  · exact h.syncDir
  split
  · exact h.rename _ _ hn hd
  split
  · exact h.remove hk _ hn
  split
  · exact h.arm _
  split
  · exact h.fail _
  · exact h

/-! ### the start -/
def keptN : List UInt8 := [107, 101, 112, 116]
def kp0 : Dm.St := Dm.St.new 1048576
def kp1 : Dm.St := ⟨1, false, false, 0, [], 1048576, [(keptN, 0)], [], [⟨[], keptN, some 0⟩], [⟨[], 0⟩]⟩
def kp2 (data : List UInt8) : Dm.St := ⟨2, false, false, 0, [], 1048576, [(keptN, 0)], [], [⟨[], keptN, some 0⟩], [⟨data, 0⟩]⟩
def kp3 (data : List UInt8) : Dm.St := ⟨3, false, false, 0, [], 1048576, [(keptN, 0)], [], [⟨[], keptN, some 0⟩], [⟨data, data.length⟩]⟩
def kp4 (data : List UInt8) : Dm.St := ⟨4, false, false, 0, [], 1048576, [(keptN, 0)], [(keptN, 0)], [], [⟨data, data.length⟩]⟩
theorem kp1_ok : kp0.create keptN = (0, kp1) := by rfl
theorem kp2_ok (data : List UInt8) (h : data.length ≤ 65536) : kp1.append keptN data = (0, kp2 data) := by
  have e1 : kp1.find keptN = (0, some 0) := by rfl
  have e2 : kp1.used = 0 := by rfl
  unfold Dm.St.append
  rw [e1]
  simp only [e2]
  rw [if_neg (by show ¬ 1048576 < _; omega)]
  rfl
theorem kp3_ok (data : List UInt8) : (kp2 data).sync keptN = (0, kp3 data) := by
  have e1 : (kp2 data).find keptN = (0, some 0) := by rfl
  unfold Dm.St.sync
  rw [e1]
  rfl
theorem kp4_ok (data : List UInt8) : (kp3 data).syncDir = (0, kp4 data) := by rfl
theorem kp1_wf : kp1.WF := by have := (Dm.St.WF.new (n := 1048576) (by omega)).create keptN; exact this
theorem kp2_wf (data : List UInt8) (h : data.length ≤ 65536) : (kp2 data).WF := by have := kp1_wf.append keptN data; rw [kp2_ok data h] at this; exact this
theorem kp3_wf (data : List UInt8) (h : data.length ≤ 65536) : (kp3 data).WF := by have := (kp2_wf data h).sync keptN; rw [kp3_ok] at this; exact this
theorem kp4_wf (data : List UInt8) (h : data.length ≤ 65536) : (kp4 data).WF := by have := (kp3_wf data h).syncDir; rw [kp4_ok] at this; exact this
theorem kp4_Kp (data : List UInt8) : Dm.Kp keptN 0 data data.length (kp4 data) where
  dir := by rfl
  syn := by rfl
  chg := by simp [kp4]
  one := by simp [kp4]
  fil := ⟨⟨data, data.length⟩, rfl, List.prefix_refl _, Nat.le_refl _, Nat.le_refl _⟩

end Go.Proofs.Ythjabfhfkikalaa
