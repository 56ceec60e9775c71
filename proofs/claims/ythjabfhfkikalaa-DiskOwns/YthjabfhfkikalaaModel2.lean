/- What stays true of a disk as plain data. Conditions: none. -/
import Derived.Test.YthjabfhfkikalaaModel
namespace Go.Proofs.Ythjabfhfkikalaa.Dm

structure DirWF (d : Dir) (n : Nat) : Prop where
  nm : ∀ p ∈ d, good p.1 = true
  id : ∀ p ∈ d, p.2 < n
  len : d.length ≤ 4096

structure ChgWF (c : Chg) (n : Nat) : Prop where
  frm : c.frm = [] ∨ good c.frm = true
  to : c.to = [] ∨ good c.to = true
  made : ∀ i, c.made = some i → i < n

structure FilWF (f : Fil) : Prop where
  syn : f.synced ≤ f.data.length
  len : f.data.length ≤ 140737488355328

structure St.WF (s : St) : Prop where
  dir : DirWF s.dir s.files.length
  syn : DirWF s.syn s.files.length
  chg : ∀ c ∈ s.chg, ChgWF c s.files.length
  okc : okAll s.syn s.chg
  rep : s.chg.foldl app s.syn = s.dir
  fil : ∀ f ∈ s.files, FilWF f
  size : s.size ≤ 67108864
  left : s.left < 2 ^ 63

theorem DirWF.mono {d : Dir} {n n' : Nat} (h : DirWF d n) (hn : n ≤ n') : DirWF d n' := ⟨h.nm, fun p hp => Nat.lt_of_lt_of_le (h.id p hp) hn, h.len⟩
theorem ChgWF.mono {c : Chg} {n n' : Nat} (h : ChgWF c n) (hn : n ≤ n') : ChgWF c n' := ⟨h.frm, h.to, fun i hi => Nat.lt_of_lt_of_le (h.made i hi) hn⟩
theorem DirWF.del {d : Dir} {n : Nat} (h : DirWF d n) (k : Nm) : DirWF (del d k) n :=
  ⟨fun p hp => h.nm p (mem_del hp), fun p hp => h.id p (mem_del hp), Nat.le_trans (length_del_le d k) h.len⟩
theorem DirWF.put {d : Dir} {n : Nat} (h : DirWF d n) {k : Nm} {v : Nat} (hk : good k = true) (hv : v < n) (hl : (put d k v).length ≤ 4096) : DirWF (put d k v) n :=
  ⟨fun p hp => by rcases mem_put hp with rfl | hp; exact hk; exact h.nm p hp, fun p hp => by rcases mem_put hp with rfl | hp; exact hv; exact h.id p hp, hl⟩

/-- A change that can be made leaves a directory. -/
theorem DirWF.app {d : Dir} {n : Nat} {c : Chg} (h : DirWF d n) (hc : ChgWF c n) (ho : ok d c) (hl : (app d c).length ≤ 4096) : DirWF (app d c) n := by
  rcases ho with ⟨h1, h2, h3⟩ | ⟨h1, h2, h3⟩
  · obtain ⟨i, hi⟩ := Option.isSome_iff_exists.1 h3
    have e : Dm.app d c = Dm.put d c.to i := by simp [Dm.app, h1, hi]
    rw [e] at hl ⊢
    exact h.put (hc.to.resolve_left h2) (hc.made i hi) hl
  · obtain ⟨i, hi⟩ := Option.isSome_iff_exists.1 h3
    by_cases ht : c.to = []
    · have e : Dm.app d c = Dm.del d c.frm := by simp [Dm.app, h1, ht]
      rw [e]
      exact h.del _
    · have e : Dm.app d c = Dm.put (Dm.del d c.frm) c.to i := by simp [Dm.app, h1, ht, hi]
      rw [e] at hl ⊢
      exact (h.del _).put (hc.to.resolve_left ht) (h.id _ (get_mem hi)) hl

theorem okAll_snoc {d : Dir} {l : List Chg} {c : Chg} (h : okAll d l) (ho : ok (l.foldl app d) c) (hl : (app (l.foldl app d) c).length ≤ 4096) : okAll d (l ++ [c]) := by
  induction l generalizing d with
  | nil => exact ⟨ho, hl, trivial⟩
  | cons x r ih => exact ⟨h.1, h.2.1, ih h.2.2 ho hl⟩

theorem okAll_take {d : Dir} {l : List Chg} (h : okAll d l) (k : Nat) : okAll d (l.take k) := by
  induction l generalizing d k with
  | nil => simpa using h
  | cons x r ih =>
    cases k with
    | zero => exact trivial
    | succ k => exact ⟨h.1, h.2.1, ih h.2.2 k⟩

theorem DirWF.fold {d : Dir} {n : Nat} {l : List Chg} (h : DirWF d n) (hc : ∀ c ∈ l, ChgWF c n) (ho : okAll d l) : DirWF (l.foldl Dm.app d) n := by
  induction l generalizing d with
  | nil => exact h
  | cons x r ih => exact ih (h.app (hc x (by simp)) ho.1 ho.2.1) (fun c hc' => hc c (by simp [hc'])) ho.2.2

theorem St.step_same (s : St) : s.step.2.dir = s.dir ∧ s.step.2.syn = s.syn ∧ s.step.2.chg = s.chg ∧ s.step.2.files = s.files ∧ s.step.2.size = s.size ∧ s.step.2.left ≤ s.left ∧ s.step.2.steps ≤ s.steps + 1 := by
  cases ha : s.armed <;> rcases hf : s.fails with _ | ⟨_ | n, r⟩ <;> simp [St.step, ha, hf]
  all_goals (split <;> simp)

theorem St.WF.of_same {s t : St} (h : s.WF) (e1 : t.dir = s.dir) (e2 : t.syn = s.syn) (e3 : t.chg = s.chg) (e4 : t.files = s.files) (e5 : t.size = s.size) (e6 : t.left < 2 ^ 63) : t.WF := by
  obtain ⟨a, b, c, d, e, f, g, i⟩ := h
  exact ⟨by rw [e1, e4]; exact a, by rw [e2, e4]; exact b, by rw [e3, e4]; exact c, by rw [e2, e3]; exact d, by rw [e1, e2, e3]; exact e, by rw [e4]; exact f, by rw [e5]; exact g, e6⟩

theorem St.WF.step {s : St} (h : s.WF) : s.step.2.WF := by
  obtain ⟨a, b, c, d, e, f, _⟩ := s.step_same
  exact h.of_same a b c d e (Nat.lt_of_le_of_lt f h.left)

theorem St.WF.alter {s : St} {c : Chg} {f : List Fil} (h : s.WF) (hc : ChgWF c (s.files.length + f.length)) (ho : ok s.dir c) (hl : (app s.dir c).length ≤ 4096) (hf : ∀ x ∈ f, FilWF x) : (s.alter c f).2.WF := by
  unfold St.alter
  split
  · obtain ⟨_, e2, _, _, e5, e6, _⟩ := s.step_same
    have hn : s.files.length ≤ (s.files ++ f).length := by simp
    have hn' : s.files.length + f.length = (s.files ++ f).length := by simp
    refine ⟨(h.dir.mono hn).app (by rw [← hn']; exact hc) ho hl, ?_, ?_, ?_, ?_, ?_, ?_, Nat.lt_of_le_of_lt e6 h.left⟩
    · show DirWF s.step.2.syn _; rw [e2]; exact h.syn.mono hn
    · intro x hx
      rcases List.mem_append.1 hx with hx | hx
      · exact (h.chg x hx).mono hn
      · simp at hx; subst hx; rw [← hn']; exact hc
    · show okAll s.step.2.syn _; rw [e2]; exact okAll_snoc h.okc (by rw [h.rep]; exact ho) (by rw [h.rep]; exact hl)
    · show (s.chg ++ [c]).foldl _ s.step.2.syn = _; rw [e2, List.foldl_append, h.rep]; rfl
    · intro x hx
      rcases List.mem_append.1 hx with hx | hx
      · exact h.fil x hx
      · exact hf x hx
    · show s.step.2.size ≤ _; rw [e5]; exact h.size
  · exact h.step

theorem St.WF.atFile {s : St} (h : s.WF) (i : Nat) (g : Fil → Fil) (hg : ∀ f, s.files[i]? = some f → FilWF (g f)) : (s.atFile i g).WF := by
  obtain ⟨a, b, c, d, e, f, gg, ii⟩ := h
  refine ⟨by simpa [St.atFile] using a, by simpa [St.atFile] using b, by simpa [St.atFile] using c, d, e, ?_, gg, ii⟩
  intro x hx
  simp only [St.atFile] at hx
  obtain ⟨j, hj⟩ := List.getElem?_of_mem hx
  simp only [List.getElem?_modify, Option.map_eq_map, Option.map_eq_some_iff] at hj
  obtain ⟨y, hy, rfl⟩ := hj
  by_cases hij : i = j
  · subst hij; simp; exact hg y hy
  · simp [hij]; exact f y (List.mem_of_getElem? hy)

theorem St.WF.settle {s : St} (h : DirWF s.dir s.files.length) (hf : ∀ f ∈ s.files, FilWF f) (hs : s.size ≤ 67108864) (hl : s.left < 2 ^ 63) : s.settle.WF :=
  ⟨h, h, by simp [St.settle], trivial, rfl, hf, hs, hl⟩

theorem St.find_some {s : St} {n : Nm} {i : Nat} (h : s.find n = (0, some i)) : s.down = false ∧ good n = true ∧ get s.dir n = some i := by
  unfold St.find at h
  split at h
  · cases h
  · split at h
    · cases h
    · split at h
      · rename_i j hj
        cases h
        exact ⟨by simpa using ‹¬ s.down = true›, by simpa using ‹¬ good n = false›, hj⟩
      · cases h

theorem St.find_cases (s : St) (n : Nm) : (∃ i, s.find n = (0, some i)) ∨ ∃ e, s.find n = (e, none) ∧ e ≠ 0 := by
  unfold St.find
  split
  · exact .inr ⟨1, rfl, by omega⟩
  · split
    · exact .inr ⟨6, rfl, by omega⟩
    · split
      · exact .inl ⟨_, rfl⟩
      · exact .inr ⟨5, rfl, by omega⟩

theorem St.WF.create {s : St} (h : s.WF) (n : Nm) : (s.create n).2.WF := by
  unfold St.create
  split
  · exact h
  · split
    · exact h
    · split
      · exact h
      · split
        · exact h
        · have hg : good n = true := by simpa using ‹¬ good n = false›
          refine h.alter ⟨.inl rfl, .inr hg, fun i hi => by cases hi; simp⟩ (.inl ⟨rfl, good_ne hg, rfl⟩) ?_ (by simp; exact ⟨by simp, by simp⟩)
          have e : app s.dir ⟨[], n, some s.files.length⟩ = Dm.put s.dir n s.files.length := by simp [app]
          rw [e]
          have := length_put_le s.dir n s.files.length
          omega

theorem St.WF.rename {s : St} (h : s.WF) (f t : Nm) : (s.rename f t).2.WF := by
  unfold St.rename
  split
  · exact h
  · split
    · exact h
    · split
      · exact h
      · rename_i hg hn
        have hf : good f = true := by cases hx : good f <;> simp_all
        have ht : good t = true := by cases hx : good t <;> simp_all
        have hs : (get s.dir f).isSome := by cases hx : get s.dir f <;> simp_all
        obtain ⟨i, hi⟩ := Option.isSome_iff_exists.1 hs
        refine h.alter ⟨.inr hf, .inr ht, fun i hi => by cases hi⟩ (.inr ⟨good_ne hf, rfl, hs⟩) ?_ (by simp)
        have e : app s.dir ⟨f, t, none⟩ = Dm.put (Dm.del s.dir f) t i := by simp [app, good_ne hf, good_ne ht, hi]
        rw [e]
        have h1 := length_put_le (Dm.del s.dir f) t i
        have h2 := length_del_lt hs
        have h3 := h.dir.len
        omega

theorem St.WF.remove {s : St} (h : s.WF) (n : Nm) : (s.remove n).2.WF := by
  unfold St.remove
  split
  · rename_i i hi
    obtain ⟨_, hg, hs⟩ := St.find_some hi
    refine h.alter ⟨.inr hg, .inl rfl, fun i hi => by cases hi⟩ (.inr ⟨good_ne hg, rfl, by simp [hs]⟩) ?_ (by simp)
    have e : app s.dir ⟨n, [], none⟩ = Dm.del s.dir n := by simp [app, good_ne hg]
    rw [e]
    exact Nat.le_trans (length_del_le _ _) h.dir.len
  · exact h

theorem le_sum {x : Nat} : ∀ {l : List Nat}, x ∈ l → x ≤ l.sum
  | y :: r, h => by
    rcases List.mem_cons.1 h with rfl | h
    · simp
    · have := le_sum h; simp; omega

theorem used_ge {s : St} {n : Nm} {i : Nat} (h : get s.dir n = some i) : (s.dataOf i).length ≤ s.used := by
  unfold St.used
  exact le_sum (List.mem_map.2 ⟨_, get_mem h, rfl⟩)

theorem St.WF.append {s : St} (h : s.WF) (n : Nm) (b : List UInt8) : (s.append n b).2.WF := by
  unfold St.append
  split
  · rename_i i hi
    obtain ⟨_, hg, hs⟩ := St.find_some hi
    split
    · exact h
    · split
      · refine h.step.atFile i _ fun f hf => ?_
        rw [s.step_same.2.2.2.1] at hf
        have h1 := h.fil f (List.mem_of_getElem? hf)
        have h2 := used_ge hs
        have h3 : s.dataOf i = f.data := by simp [St.dataOf, hf]
        rw [h3] at h2
        have h4 := h.size
        refine ⟨?_, ?_⟩
        · have := h1.syn; simp; omega
        · simp; omega
      · exact h.step
  · exact h

theorem St.WF.sync {s : St} (h : s.WF) (n : Nm) : (s.sync n).2.WF := by
  unfold St.sync
  split
  · rename_i i hi
    split
    · refine h.step.atFile i _ fun f hf => ?_
      rw [s.step_same.2.2.2.1] at hf
      exact ⟨Nat.le_refl _, (h.fil f (List.mem_of_getElem? hf)).len⟩
    · exact h.step
  · exact h

theorem St.WF.syncDir {s : St} (h : s.WF) : s.syncDir.2.WF := by
  unfold St.syncDir
  split
  · exact h
  · split
    · exact St.WF.settle h.step.dir h.step.fil h.step.size h.step.left
    · exact h.step

theorem St.WF.arm {s : St} (h : s.WF) (n : Int) (hn : n < 2 ^ 63) : (s.arm n).2.WF := by
  unfold St.arm
  split
  · exact h
  · exact h.of_same rfl rfl rfl rfl rfl (by show n.toNat < _; omega)

theorem St.WF.fail {s : St} (h : s.WF) (l : List Int) : (s.fail l).2.WF := by
  unfold St.fail
  split
  · exact h
  · exact h.of_same rfl rfl rfl rfl rfl h.left

theorem St.WF.restart {s : St} (h : s.WF) : s.restart.WF := h.of_same rfl rfl rfl rfl rfl (by show 0 < _; omega)

theorem fil_mapIdx {l : List Fil} {q : Nat → Bool} (h : ∀ f ∈ l, FilWF f) : ∀ f ∈ l.mapIdx (fun i f => if q i then f.sync else f), FilWF f := by
  intro x hx
  obtain ⟨i, hi, rfl⟩ := List.mem_mapIdx.1 hx
  split
  · exact ⟨Nat.le_refl _, (h _ (List.getElem_mem hi)).len⟩
  · exact h _ (List.getElem_mem hi)

theorem St.settleAll_WF {s : St} (h : DirWF s.dir s.files.length) (hf : ∀ f ∈ s.files, FilWF f) (hs : s.size ≤ 67108864) (hl : s.left < 2 ^ 63) : s.settleAll.WF := by
  unfold St.settleAll
  exact St.WF.settle (by simpa [syncAll, syncIf] using h) (by unfold syncAll syncIf; exact fil_mapIdx hf) hs hl

theorem Fil.crash_WF {f : Fil} (e : Int) (h : FilWF f) : FilWF (f.crash e) := by
  have := h.syn
  have := h.len
  refine ⟨?_, ?_⟩
  · simp only [Fil.crash, List.length_take]; omega
  · simp only [Fil.crash, List.length_take]; omega

theorem cutAll_keeps (cuts : List Int) (d : Dir) : ∀ (i : Nat) (s : St), (∀ f ∈ s.files, FilWF f) → (cutAll cuts i d s).dir = s.dir ∧ (cutAll cuts i d s).files.length = s.files.length ∧ (cutAll cuts i d s).size = s.size ∧ (cutAll cuts i d s).left = s.left ∧ ∀ f ∈ (cutAll cuts i d s).files, FilWF f := by
  induction d with
  | nil => intro i s h; exact ⟨rfl, rfl, rfl, rfl, h⟩
  | cons p r ih =>
    intro i s h
    have h' : ∀ f ∈ (s.atFile p.2 (Fil.crash (cuts.getD i 0))).files, FilWF f := by
      intro x hx
      simp only [St.atFile] at hx
      obtain ⟨j, hj⟩ := List.getElem?_of_mem hx
      simp only [List.getElem?_modify, Option.map_eq_map, Option.map_eq_some_iff] at hj
      obtain ⟨y, hy, rfl⟩ := hj
      have hy' := h y (List.mem_of_getElem? hy)
      split
      · exact Fil.crash_WF _ hy'
      · exact hy'
    obtain ⟨a, b, c, d, e⟩ := ih (i + 1) _ h'
    exact ⟨a, by rw [cutAll, b]; simp [St.atFile], c, d, e⟩

theorem St.WF.crash {s : St} (h : s.WF) (dirs : Int) (cuts : List Int) : (s.crash dirs cuts).WF := by
  unfold St.crash
  have hd : DirWF ((s.chg.take (max dirs 0).toNat).foldl app s.syn) s.files.length :=
    h.syn.fold (fun c hc => h.chg c (List.mem_of_mem_take hc)) (okAll_take h.okc _)
  obtain ⟨a, b, c, d, e⟩ := cutAll_keeps cuts ((s.chg.take (max dirs 0).toNat).foldl app s.syn) 0 { s with dir := (s.chg.take (max dirs 0).toNat).foldl app s.syn } h.fil
  exact (St.settleAll_WF (by rw [a, b]; exact hd) e (by rw [c]; exact h.size) (by rw [d]; exact h.left)).restart

theorem St.WF.new {n : Nat} (h : n ≤ 67108864) : (St.new n).WF :=
  ⟨⟨by simp [St.new], by simp [St.new], by simp [St.new]⟩, ⟨by simp [St.new], by simp [St.new], by simp [St.new]⟩, by simp [St.new], trivial, rfl, by simp [St.new], h, by simp [St.new]⟩

end Go.Proofs.Ythjabfhfkikalaa.Dm
