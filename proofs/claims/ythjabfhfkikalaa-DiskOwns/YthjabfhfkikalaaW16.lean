/- Crash. Conditions: none but that the cuts are ints in memory of their own. -/
import Derived.Test.YthjabfhfkikalaaW15
namespace Go.Proofs.Ythjabfhfkikalaa
open Go.RowKit Go.Maps Go.WideMaps

/-- v holds the numbers l; its block is one of S. -/
def IntsAt (w : World) (S : Nat → Prop) (v : Value) (l : List Int) : Prop :=
  (v = .slice none 0 0 ∧ l = []) ∨ ∃ ad c, v = .slice (some ad) l.length c ∧ (l ≠ [] → S ad.block) ∧ ∀ j x, l[j]? = some x → w.cell? (ad.add j) = some (.int .i64 x)

theorem IntsAt.shape {w : World} {S : Nat → Prop} {v : Value} {l : List Int} (h : IntsAt w S v l) : ∃ a c, v = .slice a l.length c := by
  rcases h with ⟨rfl, rfl⟩ | ⟨ad, c, rfl, _⟩
  · exact ⟨none, 0, rfl⟩
  · exact ⟨some ad, c, rfl⟩

theorem IntsAt.kept {w w' : World} {S S' : Nat → Prop} {v : Value} {l : List Int} (h : IntsAt w S v l) (hk : ∀ k, S k → w'.heap[k]? = w.heap[k]?) (hs : ∀ k, S k → S' k) : IntsAt w' S' v l := by
  rcases h with h | ⟨ad, c, h1, h2, h3⟩
  · exact .inl h
  · refine .inr ⟨ad, c, h1, fun hne => hs _ (h2 hne), fun j x hx => ?_⟩
    rw [World.cell?_of_block (w := w) (by rw [add_block]; exact hk _ (h2 (by rintro rfl; simp at hx)))]
    exact h3 j x hx

/-- A change of a disk's list, made to a directory. -/
theorem apply_chg {w : World} {m n : Nat} {fls : List Fl} {d : Dm.Dir} (h : DirAt w m (phys fls d)) {c : Dm.Chg} (hc : Dm.ChgWF c n) (ho : Dm.ok d c) (hl : d.length ≤ 4096) :
    Calls Try.prog 40 #[.map (some m), .agg #[str c.frm, str c.to, optPtr (c.made.map (blkOf fls))]] w fun e w' => e = .returned (.tuple #[]) ∧ DirAt w' m (phys fls (Dm.app d c)) ∧ Only (fun k => k = m) w w' := by
  have hsz : ∀ l : List UInt8, l = [] ∨ Dm.good l = true → (⟨l.toArray⟩ : ByteArray).size ≤ maxLen := by
    intro l hl
    have e : (⟨l.toArray⟩ : ByteArray).size = l.length := by simp [ByteArray.size]
    rw [e]
    unfold maxLen
    rcases hl with rfl | hl
    · simp
    · have := Dm.good_len hl; omega
  have hlen : (phys fls d).length < maxLen := by rw [length_phys]; unfold maxLen; omega
  have hdat : ∀ l : List UInt8, (⟨l.toArray⟩ : ByteArray).data.toList = l := fun l => rfl
  obtain ⟨frm, dst, made⟩ := c
  rcases ho with ⟨h1, h2, h3⟩ | ⟨h1, h2, h3⟩
  · obtain ⟨i, hi⟩ := Option.isSome_iff_exists.1 h3
    simp only at h1 h2 hi
    subst h1 hi
    have e : Dm.app d ⟨[], dst, some i⟩ = Dm.put d dst i := by simp [Dm.app]
    rw [e, put_phys]
    exact apply_create h ⟨dst.toArray⟩ (hsz dst hc.to) (blkOf fls i) hlen h2
  · obtain ⟨i, hi⟩ := Option.isSome_iff_exists.1 h3
    simp only at h1 h2 hi
    subst h2
    by_cases ht : dst = []
    · subst ht
      have e : Dm.app d ⟨frm, [], none⟩ = Dm.del d frm := by simp [Dm.app, h1]
      rw [e, del_phys]
      exact apply_remove h ⟨frm.toArray⟩ (hsz frm hc.frm) h1
    · have e : Dm.app d ⟨frm, dst, none⟩ = Dm.put (Dm.del d frm) dst i := by simp [Dm.app, h1, ht, hi]
      rw [e, put_phys, del_phys]
      exact apply_rename h ⟨frm.toArray⟩ ⟨dst.toArray⟩ (hsz frm hc.frm) (hsz dst hc.to) (blkOf fls i) hlen h1 ht (by rw [get_phys]; show (Dm.get d frm).map _ = _; rw [hi]; rfl)

theorem okAll_at {d : Dm.Dir} {l : List Dm.Chg} (h : Dm.okAll d l) {k : Nat} (hk : k < l.length) : Dm.ok ((l.take k).foldl Dm.app d) l[k] := by
  induction l generalizing d k with
  | nil => simp at hk
  | cons x r ih =>
    cases k with
    | zero => exact h.1
    | succ k => exact ih h.2.2 (by simpa using hk)

theorem fold_take {d : Dm.Dir} {l : List Dm.Chg} {k : Nat} (hk : k < l.length) : (l.take (k + 1)).foldl Dm.app d = Dm.app ((l.take k).foldl Dm.app d) l[k] := by
  rw [List.take_succ_eq_append_getElem hk, List.foldl_append]; rfl

/-- The k-th change's cells. -/
theorem chg_cells {w : World} {fls : List Fl} {l : List Dm.Chg} {g n cap : Nat} (h : w.ownsRow 0 82 3 (.slice (some ⟨g, 0, none⟩) n cap) n (l.flatMap (chgCells fls))) {k : Nat} (hk : k < l.length) :
    w.cell? ⟨g, k * 3, none⟩ = some (str l[k].frm) ∧ w.cell? ⟨g, k * 3 + 1, none⟩ = some (str l[k].to) ∧ w.cell? ⟨g, k * 3 + 2, none⟩ = some (optPtr (l[k].made.map (blkOf fls))) := by
  have key : ∀ (l : List Dm.Chg) (k : Nat) (hk : k < l.length), (l.flatMap (chgCells fls))[k * 3]? = some (str l[k].frm) ∧ (l.flatMap (chgCells fls))[k * 3 + 1]? = some (str l[k].to) ∧ (l.flatMap (chgCells fls))[k * 3 + 2]? = some (optPtr (l[k].made.map (blkOf fls))) := by
    intro l
    induction l with
    | nil => intro k hk; simp at hk
    | cons x r ih =>
      intro k hk
      cases k with
      | zero => simp [List.flatMap_cons, chgCells]
      | succ k =>
        have h1 := ih k (by simpa using hk)
        have hl : (chgCells fls x).length = 3 := rfl
        rw [List.flatMap_cons, List.getElem?_append_right (by omega), List.getElem?_append_right (by omega), List.getElem?_append_right (by omega), hl]
        rw [show (k + 1) * 3 - 3 = k * 3 by omega, show (k + 1) * 3 + 1 - 3 = k * 3 + 1 by omega, show (k + 1) * 3 + 2 - 3 = k * 3 + 2 by omega]
        exact h1
  obtain ⟨h1, h2, h3⟩ := key l k hk
  have hn : l.length * 3 = n * 3 := by have := h.1; rw [length_chgs] at this; exact this
  exact ⟨by rw [h.cellAt _ (by omega)]; exact h1, by rw [h.cellAt _ (by omega)]; exact h2, by rw [h.cellAt _ (by omega)]; exact h3⟩

/-- The directory is the synced one. -/
theorem crash_start {w : World} {b : Nat} {ρ : Roles} {L : Lay} {s : Dm.St} (h : Rep w b ρ L s) (o : Obj) : Core ((w.setCell ⟨b, 6, none⟩ (.map (some L.syn))).alloc o).drew b ρ { L with dir := L.syn } { s with dir := s.syn } ∧
    Moves ρ ρ w ((w.setCell ⟨b, 6, none⟩ (.map (some L.syn))).alloc o).drew ∧ ((w.setCell ⟨b, 6, none⟩ (.map (some L.syn))).alloc o).drew.ownsRow 0 82 3 L.cv s.chg.length (s.chg.flatMap (chgCells L.fls)) := by
  have ho : Only (fun k => k = b) w ((w.setCell ⟨b, 6, none⟩ (.map (some L.syn))).alloc o).drew := (Only.setCell (w := w) ⟨b, 6, none⟩ _).trans (((Only.alloc o).trans Only.drew).mono fun _ _ h => h.elim)
  have keep : ∀ k r, ρ k = some r → r ≠ .disk → ((w.setCell ⟨b, 6, none⟩ (.map (some L.syn))).alloc o).drew.heap[k]? = w.heap[k]? := fun k r hr hne => ho.block k (h.low k (by rw [hr]; simp)) (fun e => by rw [e, h.rb] at hr; exact hne (Option.some.inj hr).symm)
  refine ⟨?_, Moves.of_only ho fun k _ hk => by rw [show k = b from hk, h.rb]; simp, ownsRow_keep h.chg fun g hg => keep _ _ (h.rc g hg) (by simp)⟩
  exact {
    blk := by
      have h0 := heap_setCell_self h.blk 6 (.map (some L.syn))
      have h1 : ((w.setCell ⟨b, 6, none⟩ (.map (some L.syn))).alloc o).drew.heap[b]? = (w.setCell ⟨b, 6, none⟩ (.map (some L.syn))).heap[b]? := Below.heap_alloc _ _ _ (by rw [size_setCell]; exact h.blk.lt)
      rw [DB, h1]
      simpa [diskCells] using h0
    rb := h.rb
    fails := h.fails.kept fun g hg => keep _ _ (h.rf g hg) (by simp)
    rf := h.rf
    dir := h.syn.kept (keep _ _ h.rs (by simp))
    rd := h.rs
    files := fun i f hf => by
      obtain ⟨fl, h1, h2⟩ := h.files i f hf
      exact ⟨fl, h1, h2.kept (keep _ _ h2.rb (by simp)) (fun g hg => keep _ _ (h2.rd g hg) (by simp)) (fun _ _ => rfl)⟩
    nfl := h.nfl
    low := fun k hk => Nat.lt_of_lt_of_le (h.low k hk) ho.size }

/-- The directory turned. -/
theorem Core.redir {w w' : World} {b : Nat} {ρ : Roles} {L : Lay} {s : Dm.St} (h : Core w b ρ L s) {d : Dm.Dir} (ho : Only (fun k => k = L.dir) w w') (hd : DirAt w' L.dir (phys L.fls d)) : Core w' b ρ L { s with dir := d } := by
  have keep : ∀ k r, ρ k = some r → r ≠ .map → w'.heap[k]? = w.heap[k]? := fun k r hr hne => ho.block k (h.low k (by rw [hr]; simp)) (fun e => by rw [e, h.rd] at hr; exact hne (Option.some.inj hr).symm)
  exact {
    blk := by rw [DB, keep b _ h.rb (by simp)]; exact h.blk
    rb := h.rb
    fails := h.fails.kept fun g hg => keep _ _ (h.rf g hg) (by simp)
    rf := h.rf
    dir := hd
    rd := h.rd
    files := fun i f hf => by
      obtain ⟨fl, h1, h2⟩ := h.files i f hf
      exact ⟨fl, h1, h2.kept (keep _ _ h2.rb (by simp)) (fun g hg => keep _ _ (h2.rd g hg) (by simp)) (fun _ _ => rfl)⟩
    nfl := h.nfl
    low := fun k hk => Nat.lt_of_lt_of_le (h.low k hk) ho.size }

theorem addr_of_cell {w : World} {a : Addr} {v : Value} (h : w.cell? a = some v) : a = ⟨a.block, a.off, none⟩ := by
  obtain ⟨b, o, sp⟩ := a
  cases sp with
  | none => rfl
  | some x =>
    exfalso
    unfold World.cell? at h
    split at h <;> simp at h

theorem IntsAt.at_ {w : World} {S : Nat → Prop} {a : Option Addr} {c : Nat} {l : List Int} (h : IntsAt w S (.slice a l.length c) l) {j : Nat} (hj : j < l.length) : ∃ g o, a = some ⟨g, o, none⟩ ∧ w.cell? ⟨g, o + j, none⟩ = some (.int .i64 l[j]) := by
  rcases h with ⟨_, rfl⟩ | ⟨ad, c', h1, h2, h3⟩
  · simp at hj
  · obtain ⟨ha, _, _⟩ := Value.slice.inj h1
    have h0 := h3 0 l[0] (List.getElem?_eq_getElem (by omega))
    have e0 : ad.add 0 = ad := by unfold Addr.add; simp
    rw [e0] at h0
    have e := addr_of_cell h0
    refine ⟨ad.block, ad.off, by rw [ha, ← e], ?_⟩
    have hx := h3 j l[j] (List.getElem?_eq_getElem hj)
    rw [e] at hx
    by_cases hj0 : j = 0
    · subst hj0; simpa [Addr.add] using hx
    · simpa [Addr.add, hj0] using hx

theorem get_of_mem {d : Dm.Dir} (h : d.Pairwise (fun p q => p.1 ≠ q.1)) {k : Dm.Nm} {i : Nat} (hm : (k, i) ∈ d) : Dm.get d k = some i := by
  cases hg : Dm.get d k with
  | some j => rw [apart_mem h (Dm.get_mem hg) hm]
  | none =>
    exfalso
    unfold Dm.get at hg
    rw [Option.map_eq_none_iff, List.find?_eq_none] at hg
    exact hg _ hm (by simp)

set_option maxRecDepth 100000 in
set_option maxHeartbeats 1000000 in
theorem crash_rep {w : World} {b : Nat} {ρ : Roles} {L : Lay} {s : Dm.St} (h : Rep w b ρ L s) (hwf : s.WF) (dirs : Int) (cv : Value) (cuts : List Int) (hci : IntsAt w (fun k => k < w.heap.size ∧ ρ k = none) cv cuts) (hch : s.chg.length < 2 ^ 32) :
    Calls Try.prog 15 #[.pointer (some ⟨b, 0, none⟩), .agg #[.int .i64 dirs, cv]] w fun e w' => e = .returned (.tuple #[]) ∧ ∃ ρ' L', Rep w' b ρ' L' (s.crash dirs cuts) ∧ Moves ρ ρ' w w' := by
  obtain ⟨ca, cc, hcs⟩ := hci.shape
  obtain ⟨ga, gc, hgs⟩ := row_shape h.chg
  have hbl := h.blk.lt
  have hc6 := h.blk.c6
  have hc7 := h.blk.c7
  have hc8 := h.blk.c8
  have hf6 := h.blk.fr 6
  rw [hgs] at hc8
  have hmin : min (max dirs 0) (s.chg.length : Int) = ((min (max dirs 0).toNat s.chg.length : Nat) : Int) := by omega
  generalize hkd : min (max dirs 0).toNat s.chg.length = kd at *
  have hkl : kd ≤ s.chg.length := by omega
  have hgcap : s.chg.length ≤ gc := by
    rcases h.chg.2 with ⟨h1, h2⟩ | ⟨g, cap', cur, h1, _, _, h2, _⟩
    · omega
    · rw [hgs] at h1; cases h1; exact h2
  have hsl : ∀ w : World, (Instr.slice 75 (.slice ga s.chg.length gc) none (some (.int .i64 (kd : Int))) none).run Try.prog w = .ok (.slice ga kd gc) w := by
    intro w
    rw [run_slice_h (ht := by kernel_rfl) (h0 := by omega) (h2 := by omega)]
    have hsz : (sizeOf (Try.prog.elem 75)).run Try.prog w = .ok 3 w := by kernel_rfl
    rw [hsz]
    cases ga <;> simp [Result.andThen, sliced, Addr.add]
  have HH := Lib.hid h; have HW := Lib.hid hwf; have HCI := Lib.hid hci; have HGS := Lib.hid hgs; have HKD := Lib.hid hkd
  subst hcs
  clear h hwf hci hgs hkd
  go_enter Try.func15, Try.ntmps15
  go_wp2
  obtain ⟨hcore, hmv, hrow⟩ := crash_start HH.out (.cells #[.int .i64 dirs, .slice ca cuts.length cc] 26)
  have HC := Lib.hid hcore; have HM := Lib.hid hmv; have HROW := Lib.hid hrow
  clear hcore hmv hrow
  go_region
  clear hsl hmin hc6 hc7 hc8 hf6 hgcap
  have hbox : ((w.setCell ⟨b, 6, none⟩ (.map (some L.syn))).alloc (.cells #[.int .i64 dirs, .slice ca cuts.length cc] 26)).drew.heap[w.heap.size]? = some (.cells #[.int .i64 dirs, .slice ca cuts.length cc] 26) := by
    have := heap_alloc_new (w.setCell ⟨b, 6, none⟩ (.map (some L.syn))) (.cells #[.int .i64 dirs, .slice ca cuts.length cc] 26)
    rw [size_setCell] at this
    exact this
  have HBOX := Lib.hid hbox; clear hbox
  generalize ((w.setCell ⟨b, 6, none⟩ (.map (some L.syn))).alloc (.cells #[.int .i64 dirs, .slice ca cuts.length cc] 26)).drew = w1 at *
  go_wp2
  go_loopw [33] (fun ix wr => ∃ k : Nat, k ≤ kd ∧ ix = .int .i64 k ∧ Core wr b ρ { L with dir := L.syn } { s with dir := (s.chg.take k).foldl Dm.app s.syn } ∧ Moves ρ ρ w1 wr ∧ wr.ownsRow 0 82 3 L.cv s.chg.length (s.chg.flatMap (chgCells L.fls))) (fun ix _ => kd - (intOf ix).toNat)
  case atStart => exact ⟨0, Nat.zero_le _, rfl, HC.out, Moves.refl _ _, HROW.out⟩
  case round =>
    obtain ⟨k, hk, rfl, hco, hm2, hrow⟩ := hrel
    by_cases hlt : k < kd
    · have hklt : k < s.chg.length := by omega
      rw [HGS.out] at hrow
      -- the list is not nil
      obtain ⟨g, rfl⟩ : ∃ g, ga = some ⟨g, 0, none⟩ := by
        rcases hrow.2 with ⟨h1, h2⟩ | ⟨g, cap', cur, h1, _⟩
        · omega
        · cases h1; exact ⟨g, rfl⟩
      obtain ⟨x0, x1, x2⟩ := chg_cells hrow hklt
      have hc6 := hco.blk.c6
      have hbl2 := hco.blk.lt
      have hsz2 := hco.low b (by rw [hco.rb]; simp)
      have hokk := okAll_at HW.out.okc hklt
      have hdl : ((s.chg.take k).foldl Dm.app s.syn).length ≤ 4096 := (HW.out.syn.fold (l := s.chg.take k) (fun c hc => HW.out.chg c (List.mem_of_mem_take hc)) (Dm.okAll_take HW.out.okc k)).len
      obtain ⟨s1, hs1⟩ : ∃ s1, str s.chg[k].frm = .string s1 := ⟨_, rfl⟩
      obtain ⟨s2, hs2⟩ : ∃ s2, str s.chg[k].to = .string s2 := ⟨_, rfl⟩
      obtain ⟨p, hp⟩ : ∃ p, optPtr (s.chg[k].made.map (blkOf L.fls)) = .pointer p := by cases s.chg[k].made.map (blkOf L.fls) <;> exact ⟨_, rfl⟩
      have HAP : Hid (∀ w2 : World, DirAt w2 L.syn (phys L.fls ((s.chg.take k).foldl Dm.app s.syn)) → Calls Try.prog 40 #[.map (some L.syn), .agg #[.string s1, .string s2, .pointer p]] w2 fun e w' => e = .returned (.tuple #[]) ∧ DirAt w' L.syn (phys L.fls ((s.chg.take (k + 1)).foldl Dm.app s.syn)) ∧ Only (fun k => k = L.syn) w2 w') := by
        intro w2 hd2
        have := apply_chg hd2 (HW.out.chg _ (List.getElem_mem hklt)) hokk hdl
        rw [hs1, hs2, hp, ← fold_take hklt] at this
        exact this
      rw [hs1] at x0
      rw [hs2] at x1
      rw [hp] at x2
      have HCO := Lib.hid hco; have HM2 := Lib.hid hm2; have HRW := Lib.hid (show wr.ownsRow 0 82 3 L.cv s.chg.length (s.chg.flatMap (chgCells L.fls)) by rw [HGS.out]; exact hrow)
      clear hokk hdl hs1 hs2 hp hco hm2 hrow
      go_wp2
      have hx6 : (wr.alloc (.cells #[.string s1, .string s2, .pointer p] 82)).cell? ⟨b, 6, none⟩ = some (.map (some L.syn)) := by rw [World.cell?_of_block (Below.heap_alloc wr _ b hbl2)]; exact hc6
      have y0 : (wr.alloc (.cells #[.string s1, .string s2, .pointer p] 82)).cell? ⟨wr.heap.size, 0, none⟩ = some (.string s1) := by rw [cell_of (heap_alloc_new wr _)]; rfl
      have y1 : (wr.alloc (.cells #[.string s1, .string s2, .pointer p] 82)).cell? ⟨wr.heap.size, 1, none⟩ = some (.string s2) := by rw [cell_of (heap_alloc_new wr _)]; rfl
      have y2 : (wr.alloc (.cells #[.string s1, .string s2, .pointer p] 82)).cell? ⟨wr.heap.size, 2, none⟩ = some (.pointer p) := by rw [cell_of (heap_alloc_new wr _)]; rfl
      have hon0 : Only (fun _ => False) wr (wr.alloc (.cells #[.string s1, .string s2, .pointer p] 82)) := Only.alloc _
      have HON0 := Lib.hid hon0
      clear hon0 x0 x1 x2 hc6
      generalize wr.alloc (.cells #[.string s1, .string s2, .pointer p] 82) = w1b at *
      go_still_tail 5, (by kernel_rfl)
      change wpList _ _ _ _ _ w1b.drew
      have hon : Only (fun _ => False) wr w1b.drew := HON0.out.trans Only.drew
      have hd2 : DirAt w1b.drew L.syn (phys L.fls ((s.chg.take k).foldl Dm.app s.syn)) := (HCO.out.only_none hon).dir
      have hap := HAP.out _ hd2
      have HON := Lib.hid hon
      clear hon hd2 hx6 y0 y1 y2
      generalize w1b.drew = w2 at *
      go_wp2_with (go_at_call 40; refine hap.mono ?_; rintro e w3 ⟨rfl, hd3, ho3⟩; have HD3 := Lib.hid hd3; have HO3 := Lib.hid ho3; clear hd3 ho3)
      have hrs : ρ L.syn = some .map := HCO.out.rd
      go_roundw
      case rel =>
        refine ⟨k + 1, by omega, by go_num, (HCO.out.only_none HON.out).redir HO3.out HD3.out, (HM2.out.trans (Moves.none HON.out)).trans (Moves.of_only HO3.out fun j _ hj => by rw [show j = L.syn from hj, hrs]; simp), ?_⟩
        refine ownsRow_keep (ownsRow_keep HRW.out (w' := w2) fun j hj => HON.out.block j (HRW.out.lt j hj).2 (fun x => x)) fun j hj => HO3.out.block j ?_ (fun e => ?_)
        · exact Nat.lt_of_lt_of_le (HRW.out.lt j hj).2 HON.out.size
        · have := HH.out.rc j hj
          rw [show j = L.syn from e, hrs] at this
          cases this
      case measure => simp [intOf]; omega
    · have hk' : k = kd := by omega
      subst hk'
      have hd0 : Dm.DirWF ((s.chg.take k).foldl Dm.app s.syn) s.files.length := HW.out.syn.fold (l := s.chg.take k) (fun c hc => HW.out.chg c (List.mem_of_mem_take hc)) (Dm.okAll_take HW.out.okc k)
      have hcr : s.crash dirs cuts = (Dm.cutAll cuts 0 ((s.chg.take k).foldl Dm.app s.syn) { s with dir := (s.chg.take k).foldl Dm.app s.syn }).settleAll.restart := by
        have e : s.chg.take (max dirs 0).toNat = s.chg.take k := by rw [← HKD.out]; simp
        unfold Dm.St.crash
        rw [e]
      have hnm := names_any hco.dir (by rw [length_phys]; exact hd0.len)
      rw [length_phys] at hnm
      have hc6 := hco.blk.c6
      have hrw' := hrow
      have HCO := Lib.hid hco; have HM2 := Lib.hid hm2; have HD0 := Lib.hid hd0; have HCR := Lib.hid hcr
      clear hco hm2 hrow hrw' hd0 hcr
      generalize hdd : (s.chg.take k).foldl Dm.app s.syn = d at *
      clear hdd
      simp only at hc6
      go_wp2_with (go_at_call 38; refine hnm.mono ?_; rintro e w2 ⟨na, nc, rfl, hnn, hno⟩; have HNN := Lib.hid hnn; have HNO := Lib.hid hno; clear hnn hno)
      have hap : d.Pairwise (fun p q => p.1 ≠ q.1) := apart_phys HCO.out.dir.apart
      have hcw2 : Core w2 b ρ { L with dir := L.syn } { s with dir := d } := HCO.out.only_none HNO.out
      have hz12 : w1.heap.size ≤ wr.heap.size := HM2.out.only.size
      have hz01 : w.heap.size < w1.heap.size := lt_of_heap HBOX.out
      have hnone : ∀ k, w.heap.size ≤ k → ρ k = none := fun k hk => by
        cases hx : ρ k with
        | none => rfl
        | some r => have := HH.out.low k (by rw [hx]; simp); omega
      have hmv2 : Moves ρ ρ w w2 := (HM.out.trans HM2.out).trans (Moves.none HNO.out)
      have hbox2 : w2.heap[w.heap.size]? = some (.cells #[.int .i64 dirs, .slice ca cuts.length cc] 26) := by
        rw [HNO.out.block _ (by omega) (fun x => x), HM2.out.only.block _ hz01 (by rw [hnone _ (Nat.le_refl _)]; simp)]
        exact HBOX.out
      have hci2 : IntsAt w2 (fun k => k < w.heap.size ∧ ρ k = none) (.slice ca cuts.length cc) cuts := HCI.out.kept (fun k hk => hmv2.only.block k hk.1 (by rw [hk.2]; simp)) (fun _ h => h)
      have hnr : w2.ownsRow 0 9 1 (.slice na d.length nc) d.length (d.map fun p => str p.1) := by
        have := HNN.out.1
        unfold phys at this
        rw [List.length_map, List.map_map] at this
        exact this
      have hnf : ∀ g, (Value.slice na d.length nc).ownBlock = some g → ρ g = none ∧ g < w2.heap.size := fun g hg => ⟨hnone g (by have := HNN.out.2 g hg; omega), (hnr.lt g hg).2⟩
      have HAP := Lib.hid hap; have HCW := Lib.hid hcw2; have HMV2 := Lib.hid hmv2; have HBX2 := Lib.hid hbox2; have HCI2 := Lib.hid hci2; have HNR := Lib.hid hnr; have HNF := Lib.hid hnf; have HNONE := Lib.hid hnone
      clear hap hcw2 hz12 hmv2 hbox2 hci2 hnr hnf hnone hnm hc6
      have hdlen := HD0.out.len
      go_loopw [50] (fun ix w5 => ∃ (j : Nat) (sj : Dm.St) (Lj : Lay), j ≤ d.length ∧ ix = .int .i64 j ∧ Core w5 b ρ Lj sj ∧ Lj.dir = L.syn ∧ (∀ i, blkOf Lj.fls i = blkOf L.fls i) ∧ Dm.cutAll cuts j (d.drop j) sj = Dm.cutAll cuts 0 d { s with dir := d } ∧ sj.dir = d ∧ sj.files.length = s.files.length ∧ (∀ f ∈ sj.files, Dm.FilWF f) ∧ Moves ρ ρ w2 w5) (fun ix _ => d.length - (intOf ix).toNat)
      case atStart => exact ⟨0, _, _, Nat.zero_le _, rfl, HCW.out, rfl, fun _ => rfl, rfl, rfl, rfl, HW.out.fil, Moves.refl _ _⟩
      case round =>
        obtain ⟨j, sj, Lj, hj, rfl, hcj, hjd, hjb, hjc, hjs, hjn, hjf, hjm⟩ := hrel
        by_cases hlt : j < d.length
        · -- the name, the file
          have hmem : (d[j].1, d[j].2) ∈ d := List.getElem_mem hlt
          obtain ⟨g2, hg2⟩ : ∃ g2, na = some ⟨g2, 0, none⟩ := by
            rcases HNR.out.2 with ⟨h1, h2⟩ | ⟨g, cap', cur, h1, _⟩
            · omega
            · cases h1; exact ⟨g, rfl⟩
          subst hg2
          obtain ⟨hng, hnl⟩ := HNF.out g2 rfl
          obtain ⟨nm, hnm⟩ : ∃ nm, str d[j].1 = .string nm ∧ nm.data.toList = d[j].1 := ⟨_, rfl, rfl⟩
          have hcn : wr.cell? ⟨g2, j, none⟩ = some (.string nm) := by
            rw [World.cell?_of_block (w := w2) (hjm.only.block g2 hnl (by rw [hng]; simp)), HNR.out.cellAt j (by omega), List.getElem?_map, List.getElem?_eq_getElem hlt, ← hnm.1]; rfl
          have hbxl : w.heap.size < w2.heap.size := lt_of_heap HBX2.out
          have hbx : wr.heap[w.heap.size]? = some (.cells #[.int .i64 dirs, .slice ca cuts.length cc] 26) := by
            rw [hjm.only.block _ hbxl (by rw [HNONE.out _ (Nat.le_refl _)]; simp)]; exact HBX2.out
          have hcc : wr.cell? ⟨w.heap.size, 1, none⟩ = some (.slice ca cuts.length cc) := by rw [cell_of hbx]; rfl
          have hci5 : IntsAt wr (fun k => k < w.heap.size ∧ ρ k = none) (.slice ca cuts.length cc) cuts := HCI2.out.kept (fun k hk => hjm.only.block k (by omega) (by rw [hk.2]; simp)) (fun _ h => h)
          have hc6 := hcj.blk.c6
          rw [hjd] at hc6
          have hgd : Dm.good d[j].1 = true := HD0.out.nm _ hmem
          have hns : nm.size ≤ maxLen := by
            have e : nm.size = nm.data.toList.length := by simp
            rw [e, hnm.2]
            have := Dm.good_len hgd
            unfold maxLen; omega
          have hlk := hcj.dir.look nm hns
          rw [hjd, get_phys, hjs, hnm.2, get_of_mem HAP.out hmem] at hlk
          simp only [Option.map_some, optPtr, fptr] at hlk
          have hidl : d[j].2 < sj.files.length := by rw [hjn]; exact HD0.out.id _ hmem
          have HFC : Hid (∀ extra : Int, extra = cuts.getD j 0 → Calls Try.prog 41 #[.pointer (some ⟨blkOf Lj.fls d[j].2, 0, none⟩), .int .i64 extra] wr fun e w' => e = .returned (.tuple #[]) ∧ ∃ (s' : Dm.St) (L' : Lay), Core w' b ρ L' s' ∧ L'.dir = L.syn ∧ (∀ i, blkOf L'.fls i = blkOf L.fls i) ∧ Dm.cutAll cuts (j + 1) (d.drop (j + 1)) s' = Dm.cutAll cuts 0 d { s with dir := d } ∧ s'.dir = d ∧ s'.files.length = s.files.length ∧ (∀ f ∈ s'.files, Dm.FilWF f) ∧ Moves ρ ρ w2 w') := by
            intro extra hex
            refine (fcrash_core hcj hjf hidl extra).mono ?_
            rintro e w' ⟨rfl, L', hc', hd', hb', ho'⟩
            refine ⟨rfl, _, L', hc', hd'.trans hjd, fun i => (hb' i).trans (hjb i), ?_, hjs, by simp [Dm.St.atFile, hjn], ?_, hjm.trans (Moves.of_only ho' fun k _ hk => by rw [hk]; simp)⟩
            · rw [← hjc, List.drop_eq_getElem_cons hlt, hex]; rfl
            · intro f hf
              simp only [Dm.St.atFile] at hf
              obtain ⟨x, hx⟩ := List.getElem?_of_mem hf
              simp only [List.getElem?_modify, Option.map_eq_map, Option.map_eq_some_iff] at hx
              obtain ⟨y, hy, rfl⟩ := hx
              have hy' := hjf y (List.mem_of_getElem? hy)
              split
              · exact Dm.Fil.crash_WF _ hy'
              · exact hy'
          generalize blkOf Lj.fls d[j].2 = F at *
          have HIC := Lib.hid hci5
          clear hmem hng hnl hnm hbx hci5 hgd hns hidl hcj hjd hjb hjc hjs hjn hjf hjm hbxl
          by_cases hjc2 : j < cuts.length
          · obtain ⟨g3, o3, hca, hc3⟩ := HIC.out.at_ hjc2
            subst hca
            have hfc := HFC.out cuts[j] (by simp [hjc2])
            generalize cuts[j] = ex at *
            clear HFC
            go_wp2_with (go_at_call 41; refine hfc.mono ?_; rintro e w6 ⟨rfl, s6, L6, r1, r2, r3, r4, r5, r6, r7, r8⟩; have R1 := Lib.hid r1; have R2 := Lib.hid r2; have R3 := Lib.hid r3; have R4 := Lib.hid r4; have R5 := Lib.hid r5; have R6 := Lib.hid r6; have R7 := Lib.hid r7; have R8 := Lib.hid r8; clear r1 r2 r3 r4 r5 r6 r7 r8)
            go_roundw
            case rel => exact ⟨j + 1, s6, L6, by omega, by go_num, R1.out, R2.out, R3.out, R4.out, R5.out, R6.out, R7.out, R8.out⟩
            case measure => simp [intOf]; omega
          · have hfc := HFC.out 0 (by simp [hjc2])
            clear HFC
            go_wp2_with (go_at_call 41; refine hfc.mono ?_; rintro e w6 ⟨rfl, s6, L6, r1, r2, r3, r4, r5, r6, r7, r8⟩; have R1 := Lib.hid r1; have R2 := Lib.hid r2; have R3 := Lib.hid r3; have R4 := Lib.hid r4; have R5 := Lib.hid r5; have R6 := Lib.hid r6; have R7 := Lib.hid r7; have R8 := Lib.hid r8; clear r1 r2 r3 r4 r5 r6 r7 r8)
            go_roundw
            case rel => exact ⟨j + 1, s6, L6, by omega, by go_num, R1.out, R2.out, R3.out, R4.out, R5.out, R6.out, R7.out, R8.out⟩
            case measure => simp [intOf]; omega
        · have hj' : j = d.length := by omega
          subst hj'
          rw [List.drop_length] at hjc
          have hfin : sj = Dm.cutAll cuts 0 d { s with dir := d } := hjc
          have hset := settleAll_rep hcj (by rw [hjs, hjn]; exact HD0.out.id)
          have HMJ := Lib.hid (HMV2.out.trans hjm)
          have HRE : Hid (∀ (w6 : World) (ρ6 : Roles) (L6 : Lay), Rep w6 b ρ6 L6 sj.settleAll → Calls Try.prog 43 #[.pointer (some ⟨b, 0, none⟩)] w6 fun e w' => e = .returned (.tuple #[]) ∧ ∃ L', Rep w' b ρ6 L' (s.crash dirs cuts) ∧ Moves ρ6 ρ6 w6 w') := by
            intro w6 ρ6 L6 h6
            have := restart_rep h6
            rw [HCR.out, ← hfin]
            exact this
          clear hcj hjd hjb hjc hjs hjn hjf hjm hfin
          go_wp2_with (first
            | (go_at_call 42; refine hset.mono ?_; rintro e w6 ⟨rfl, ρ6, L6, h6, m6⟩; have hre := HRE.out w6 ρ6 L6 h6; have HM6 := Lib.hid m6; clear h6 m6)
            | (go_at_call 43; refine hre.mono ?_; rintro e w7 ⟨rfl, L7, h7, m7⟩; have H7 := Lib.hid h7; have HM7 := Lib.hid m7; clear h7 m7))
          go_end0
          exact ⟨rfl, ρ6, L7, H7.out, (HMJ.out.trans HM6.out).trans HM7.out⟩

end Go.Proofs.Ythjabfhfkikalaa
