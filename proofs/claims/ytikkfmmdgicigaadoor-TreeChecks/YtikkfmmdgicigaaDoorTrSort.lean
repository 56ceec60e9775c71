/- slices.SortFunc of entries by their paths. Conditions: rows within the reach. -/
import Derived.Test.YtikkfmmdgicigaaDoorTrMiss
import Derived.Test.YtikkfmmdgicigaaDoorGMono
import Derived.Test.YtikkfmmdgicigaaDoorLay10
import Derived.Shelf.SlSortCmp.WholeK
import Derived.Sort.OwnSorted
namespace Go.Proofs.YtikkfmmdgicigaaDoor
open Go.RowKit Go.Sort Go.Proofs

/-- An entry with a row of bytes, its path within the reach. -/
structure Se where
  sa : Option Addr
  sn : Nat
  sc : Nat
  en : Tr.En
  short : en.path.length ≤ 1000000
instance : Inhabited Se := ⟨⟨none, 0, 0, default, by decide⟩⟩
def Se.ve (x : Se) : Ve := (.slice x.sa x.sn x.sc, x.en)
def encS (x : Se) : List Value := enC x.ve
def cfS (x y : Se) : Int := Pt.cmp x.en.path y.en.path

theorem quiet_grown {w w' : World} (h : Quiet w w') (hd : w.drawn ≤ w'.drawn) : ∃ q os', w' = grow (w.drewN q) os' := by
  refine ⟨w'.drawn - w.drawn, w'.heap.extract w.heap.size w'.heap.size, ?_⟩
  obtain ⟨heap', tape', drawn', os', output'⟩ := w'
  have e1 : os' = w.os := h.os
  have e2 : tape' = w.tape := h.tape
  have e3 : output' = w.output := h.output
  have hs : w.heap.size ≤ heap'.size := h.size
  have hb : ∀ k, k < w.heap.size → heap'[k]? = w.heap[k]? := fun k hk => h.block k hk (fun x => x)
  have hd' : w.drawn ≤ drawn' := hd
  subst e1 e2 e3
  have eh : heap' = w.heap ++ heap'.extract w.heap.size heap'.size := by
    apply Array.ext_getElem?
    intro k
    by_cases hk : k < w.heap.size
    · rw [Array.getElem?_append_left hk]; exact hb k hk
    · rw [Array.getElem?_append_right (by omega), Array.getElem?_extract]
      by_cases hk2 : k < heap'.size
      · rw [if_pos (by omega)]; congr 1; omega
      · rw [if_neg (by omega), Array.getElem?_eq_none (by omega)]
  have ed : drawn' = w.drawn + (drawn' - w.drawn) := by omega
  simp only [grow, World.drewN]
  rw [← ed]
  congr 1

theorem ltS (x y : Se) : ltOf cfS x y = decide (cfS x y < 0) := rfl
theorem swoS : SWO (ltOf cfS) where
  irrefl x := by
    rw [ltS]
    unfold cfS
    rw [Pt.cmp_zero.2 rfl]
    simp
  trans x y z h1 h2 := by
    rw [ltS] at *
    simp only [decide_eq_true_eq] at *
    exact Tr.cmp_lt h1 h2
  ntrans x y z h1 h2 := by
    rw [ltS] at *
    simp only [decide_eq_false_iff_not] at *
    have := Pt.cmp_ge (a := x.en.path) (b := y.en.path) (c := z.en.path) (by unfold cfS at h1; omega) (by unfold cfS at h2; omega)
    unfold cfS
    omega

set_option maxHeartbeats 1000000 in
/-- The comparison of two entries by their paths. -/
theorem build1_any (x y : Se) (w : World) : Calls Tryd.prog 50 #[.agg (encS x).toArray, .agg (encS y).toArray] w fun e w' => e = .returned (.int .i64 (cfS x y)) ∧ Quiet w w' := by
  have HC : Hid (∀ W, Calls Tryd.prog 51 #[.string ⟨x.en.path.toArray⟩, .string ⟨y.en.path.toArray⟩] W fun e w' => e = .returned (.int .i64 (Pt.cmp x.en.path y.en.path)) ∧ Quiet W w') := fun W => compare_txt _ _ (by have := x.short; omega) (by have := y.short; omega) W
  obtain ⟨xa, xn, xc, ⟨p, k, m, u, g, t, l, d⟩, hx⟩ := x
  obtain ⟨ya, yn, yc, ⟨p', k', m', u', g', t', l', d'⟩, hy⟩ := y
  unfold encS enC Se.ve cfS
  simp only at HC ⊢
  go_enter Tryd.func50, Tryd.ntmps50
  go_wp2_with (go_at_call 51; refine (HC.out _).mono ?_; rintro e w1 ⟨rfl, hq⟩; have HQ := Lib.hid hq; clear hq)
  go_ret
  exact ⟨rfl, ((Only.alloc _).trans (Only.alloc _)).trans HQ.out⟩

theorem cmpS_lays (blk off size : Nat) (w : World) : CmpLays Tryd.prog 50 #[] encS 8 cfS blk off size w := fun m os dk _ x y => by
  rw [Array.append_empty]
  exact (calls_drawn (build1_any x y _)).mono fun e w' ⟨⟨he, hq⟩, hd⟩ => ⟨he, quiet_grown hq (hd _ he)⟩

theorem eins_none (p : Option Addr) (c : Nat) (fv : Value) (w : World) : Calls Tryd.prog 89 #[.slice p 0 c, .int .i64 0, .int .i64 0, fv] w fun e w' => e = .returned (.tuple #[]) ∧ w' = w := by
  go_enter Tryd.func89, Tryd.ntmps89
  go_wp2
  refine wp_loop_rounds 1 ?_
  rw [rounds_succ]
  go_wp2
  go_end0
  exact ⟨rfl, rfl⟩
theorem epdq_none (p : Option Addr) (c : Nat) (lim : Int) (fv : Value) (w : World) : Calls Tryd.prog 72 #[.slice p 0 c, .int .i64 0, .int .i64 0, .int .i64 lim, fv] w fun e w' => e = .returned (.tuple #[]) ∧ w' = w := by
  have hi := Lib.hid (fun W => eins_none p c fv W)
  go_enter Tryd.func72, Tryd.ntmps72
  go_wp2
  refine wp_loop_rounds 1 ?_
  rw [rounds_succ]
  go_wp2_with (go_at_call 89; refine (hi.out _).mono ?_; rintro e w' ⟨rfl, rfl⟩)
  (try simp only [Exit.inBlock, Exit.then]); refine bodyPost_ret (results_none rfl _ _ _) rfl ?_
  exact ⟨rfl, rfl⟩
theorem bLen_any (n : Int) (w : World) (h1 : 0 ≤ n) (h2 : n ≤ 18446744073709551615) : ∃ l : Int, Calls Tryd.prog 73 #[.int .u64 n] w fun e w' => e = .returned (.int .i64 l) ∧ w' = w :=
  ⟨_, Any.bits_Len (SlLaysF0.n15.bits (P := Tryd.prog) (ρ := Tryd.layS_ren) { Tryd.layS with }) n w h1 h2⟩
theorem esort_none (p : Option Addr) (c : Nat) (fv : Value) (w : World) : Calls Tryd.prog 49 #[.slice p 0 c, fv] w fun e w' => e = .returned (.tuple #[]) ∧ w' = w := by
  obtain ⟨l, hl⟩ := bLen_any 0 w (by omega) (by omega)
  have HL := Lib.hid hl
  have hp := Lib.hid (fun lim W => epdq_none p c lim fv W)
  clear hl
  go_enter Tryd.func49, Tryd.ntmps49
  go_wp2_with (first | (go_at_call 73; refine HL.out.mono ?_; rintro e w' ⟨rfl, rfl⟩) | (go_at_call 72; refine (hp.out _ _).mono ?_; rintro e w' ⟨rfl, rfl⟩))
  go_end0
  exact ⟨rfl, rfl⟩

theorem flat_S : ∀ l : List Se, (flatK encS 8 l.toArray).toList = enCs (l.map Se.ve) := by
  intro l
  apply List.ext_getElem?
  intro t
  by_cases ht : t < l.length * 8
  · have h1 : t / 8 < l.length := by omega
    have h2 := get_flatK encS 8 l.toArray t (by simpa using ht)
    have h3 : (flatK encS 8 l.toArray).toList[t]? = some ((flatK encS 8 l.toArray)[t]!) := by
      rw [Array.getElem?_toList, getElem!_pos _ t (by simpa using ht)]
      exact Array.getElem?_eq_getElem _
    rw [h3, h2]
    have h4 : t = (t / 8) * 8 + t % 8 := by omega
    conv => rhs; rw [h4]
    rw [enCs_at (by simpa using h1) (by omega)]
    have h5 : l.toArray[t / 8]! = l[t / 8] := by simp [h1]
    rw [h5, List.getElem_map]
    have h6 : t % 8 < (encS l[t / 8]).length := by show t % 8 < 8; omega
    rw [getElem!_pos (encS l[t / 8]) (t % 8) h6]
    exact (List.getElem?_eq_getElem h6).symm
  · rw [List.getElem?_eq_none (by simp; omega), List.getElem?_eq_none (by rw [enCs_len]; simp; omega)]

theorem lift_S {xs : List Ve} (h : ∀ x ∈ xs, (∃ a n c, x.1 = .slice a n c) ∧ x.2.path.length ≤ 1000000) : ∃ l : List Se, l.map Se.ve = xs := by
  induction xs with
  | nil => exact ⟨[], rfl⟩
  | cons x r ih =>
    obtain ⟨l, hl⟩ := ih (fun y hy => h y (by simp [hy]))
    obtain ⟨⟨a, n, c, e⟩, hs⟩ := h x (by simp)
    refine ⟨⟨a, n, c, x.2, hs⟩ :: l, ?_⟩
    rw [List.map_cons, hl]
    unfold Se.ve
    rw [← e]


theorem take_put (cur : Array Value) (d : Array Value) (h : d.size ≤ cur.size) : (putCells id 0 d cur).toList.take d.size = d.toList := by
  apply List.ext_getElem?
  intro j
  by_cases hj : j < d.size
  · rw [List.getElem?_take_of_lt hj, Array.getElem?_toList, Array.getElem?_toList]
    simp [putCells, hj, show j < cur.size by omega]
  · rw [List.getElem?_take_eq_none (by omega), List.getElem?_eq_none (by simp; omega)]

theorem esort_any {n0 : Nat} {w : World} {q c : Nat} {xs : List Ve} (h : ERow n0 w (.slice (some ⟨q, 0, none⟩) xs.length c) xs) (hs : ∀ x ∈ xs, x.2.path.length ≤ 1000000) (hn : xs.length ≤ 1000000) :
    Calls Tryd.prog 49 #[.slice (some ⟨q, 0, none⟩) xs.length c, .func (.func 50) #[] #[]] w fun e w' => e = .returned (.tuple #[]) ∧ ∃ ys : List Ve, ys.Perm xs ∧ ys.Pairwise (fun a b => Pt.cmp a.2.path b.2.path ≤ 0) ∧ ERow n0 w' (.slice (some ⟨q, 0, none⟩) ys.length c) ys ∧ Only (fun k => k = q) w w' := by
  obtain ⟨l, hl⟩ := lift_S (xs := xs) (fun x hx => ⟨(h.data x hx).shape.elim fun a h => ⟨a, _, h.choose, h.choose_spec⟩, hs x hx⟩)
  have hll : l.length = xs.length := by rw [← hl]; simp
  rcases h.row.2 with ⟨h1, _⟩ | ⟨g', cap, cur, h1, h2, h3, h4, h5, h6, h7⟩
  · cases h1
  cases h1
  have hH : HoldsK encS 8 w q 0 l.toArray := by
    intro j hj
    have hj2 : j < xs.length * 8 := by rw [size_flatK] at hj; simpa [hll] using hj
    have h8 : (flatK encS 8 l.toArray)[j]? = (enCs xs)[j]? := by rw [← Array.getElem?_toList, flat_S, hl]
    have h9 : (flatK encS 8 l.toArray)[j]? = some ((flatK encS 8 l.toArray)[j]!) := by rw [getElem!_pos _ j hj]; exact Array.getElem?_eq_getElem hj
    refine ⟨?_, frozen_of h3 _⟩
    have := h.row.cells (g := q) rfl j _ (h8.symm.trans h9)
    rw [add_lit] at this
    exact this
  have hc := AnyQ.slices_SortFunc Tryd.layS 8 Tryd.isAgg41 Tryd.sizeOf41 encS (fun _ => rfl) (fun x v hv => enC_one (x := x.ve) rfl v hv) cfS swoS 50 #[] q 0 c l.toArray w (enters_of Tryd.func50 (by kernel_rfl) rfl) (cmpS_lays q 0 l.toArray.size w) hH (lt_of_heap h3) (by simp [hll]; omega)
  have hsz : l.toArray.size = xs.length := by simp [hll]
  rw [hsz] at hc
  change Calls Tryd.prog 49 _ _ _ at hc
  refine hc.mono ?_
  rintro e w' ⟨rfl, d', n, os, hp, hso, rfl⟩
  have hds : d'.size = l.length := by rw [hp.1]; simp
  have hperm : d'.toList.Perm l := by
    have := hp.2.2
    rw [Array.extract_eq_self_of_le (by omega), Array.extract_eq_self_of_le (by omega)] at this
    simpa using this
  have hyl : (d'.toList.map Se.ve).length = xs.length := by simp [hds, hll]
  have hhq : (sortWorldK encS 8 w q 0 n d' os).heap[q]? = some (.cells (putCells id 0 (flatK encS 8 d') cur) 41 (0, 0)) := by
    unfold sortWorldK
    rw [heap_grow_old _ _ (by rw [size_putRowK]; exact lt_of_heap h3)]
    simp [putRowK, putRow, mapBlock, Sort.ahead, Array.getElem?_modify, h3, onCells]
  have hog : w.grownBy (sortWorldK encS 8 w q 0 n d' os) (some q) := by
    refine ⟨rfl, rfl, rfl, by unfold sortWorldK; simp [putRowK], fun k hk hne => ?_⟩
    unfold sortWorldK
    rw [heap_grow_old _ _ (by rw [size_putRowK]; exact hk)]
    have : q ≠ k := fun e => hne (by rw [e])
    simp [putRowK, putRow, mapBlock, Sort.ahead, Array.getElem?_modify, this]
  have ho : Only (fun k => k = q) w (sortWorldK encS 8 w q 0 n d' os) := (Only.of_grown hog).mono (fun k _ e => Option.some.inj e)
  have hq0 : n0 ≤ q := h.new q rfl
  have hmem : ∀ x ∈ d'.toList.map Se.ve, x ∈ xs := fun x hx => by rw [← hl]; exact (hperm.map Se.ve).mem_iff.1 hx
  have hfl : (flatK encS 8 d').size = xs.length * 8 := by rw [size_flatK, hds, hll]
  refine ⟨rfl, d'.toList.map Se.ve, by rw [← hl]; exact hperm.map Se.ve, ?_, ⟨⟨enCs_len _, .inr ⟨q, c, _, rfl, Nat.zero_le _, hhq, by rw [hyl]; exact h4, h5, by simp [putCells, h6], ?_⟩⟩, by simpa [Value.ownBlock] using hq0, fun x hx => (h.data x (hmem x hx)).kept (fun k hk => ho.block k (Nat.lt_of_lt_of_le hk h.low) (by omega)) (fun _ h => h), Nat.le_trans h.low ho.size⟩, ho⟩
  · rw [List.pairwise_map, List.pairwise_iff_getElem]
    intro i j hi hj hij
    have hi' : i < d'.size := by simpa using hi
    have hj' : j < d'.size := by simpa using hj
    have := hso i j (Nat.zero_le _) hij (by omega)
    rw [getElem!_pos d' i hi', getElem!_pos d' j hj', ltS, decide_eq_false_iff_not] at this
    have h9 := Pt.cmp_anti d'[i].en.path d'[j].en.path
    unfold cfS at this
    show Pt.cmp d'.toList[i].en.path d'.toList[j].en.path ≤ 0
    rw [Array.getElem_toList, Array.getElem_toList]
    omega
  · have h8 := take_put cur (flatK encS 8 d') (by rw [hfl, h6]; omega)
    rw [hfl] at h8
    rw [hyl, h8]
    have := flat_S d'.toList
    rwa [Array.toArray_toList] at this

theorem esort_row {n0 : Nat} {w : World} {a : Option Addr} {n c : Nat} {xs : List Ve} (h : ERow n0 w (.slice a n c) xs) (hs : ∀ x ∈ xs, x.2.path.length ≤ 1000000) (hn : xs.length ≤ 1000000) :
    Calls Tryd.prog 49 #[.slice a n c, .func (.func 50) #[] #[]] w fun e w' => e = .returned (.tuple #[]) ∧ ∃ ys : List Ve, ys.Perm xs ∧ ys.Pairwise (fun a b => Pt.cmp a.2.path b.2.path ≤ 0) ∧ ERow n0 w' (.slice a n c) ys ∧ Only (fun k => n0 ≤ k) w w' := by
  have hl : n = xs.length := by obtain ⟨a', c', e⟩ := h.shape; exact (Value.slice.inj e).2.1
  subst hl
  rcases h.row.2 with ⟨e, h0⟩ | ⟨q, cap, cur, e, _⟩
  · obtain ⟨rfl, _, rfl⟩ := Value.slice.inj e
    have hx : xs = [] := List.eq_nil_of_length_eq_zero h0
    subst hx
    refine (esort_none none 0 _ w).mono ?_
    rintro e w' ⟨rfl, rfl⟩
    exact ⟨rfl, [], List.Perm.refl _, List.Pairwise.nil, h, Only.refl _ _⟩
  · obtain ⟨rfl, _, rfl⟩ := Value.slice.inj e
    refine (esort_any h hs hn).mono ?_
    rintro e w' ⟨rfl, ys, h1, h2, h3, h4⟩
    refine ⟨rfl, ys, h1, h2, by rw [← h1.length_eq]; exact h3, h4.mono (fun k _ e => by have := h.new q rfl; omega)⟩

end Go.Proofs.YtikkfmmdgicigaaDoor
