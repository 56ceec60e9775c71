/- Files: every file with its bytes, in new memory. Conditions: none. -/
import Derived.Test.YthjabfhfkikalaaScript
namespace Go.Proofs.Ythjabfhfkikalaa
open Go.RowKit Go.Maps Go.WideMaps

def Dm.St.all (s : Dm.St) : List (Dm.Nm × List UInt8) := s.dir.map fun p => (p.1, s.dataOf p.2)

/-- v holds the files l, in blocks of S. -/
def FilesAt (w : World) (S : Nat → Prop) (v : Value) (l : List (Dm.Nm × List UInt8)) : Prop :=
  ∃ a c, v = .slice a l.length c ∧ ∀ i (h : i < l.length), ∃ ad dv, a = some ad ∧ S ad.block ∧ w.cell? (ad.add (i * 2)) = some (str l[i].1) ∧ w.cell? (ad.add (i * 2 + 1)) = some dv ∧ BytesAt w S dv l[i].2

theorem FilesAt.kept {w w' : World} {S S' : Nat → Prop} {v : Value} {l : List (Dm.Nm × List UInt8)} (h : FilesAt w S v l) (hk : ∀ k, S k → w'.heap[k]? = w.heap[k]?) (hs : ∀ k, S k → S' k) : FilesAt w' S' v l := by
  obtain ⟨a, c, h1, h2⟩ := h
  refine ⟨a, c, h1, fun i hi => ?_⟩
  obtain ⟨ad, dv, e, hS, hc0, hc1, hb⟩ := h2 i hi
  refine ⟨ad, dv, e, hs _ hS, ?_, ?_, hb.kept hk hs⟩
  · rw [World.cell?_of_block (w := w) (by rw [add_block]; exact hk _ hS)]; exact hc0
  · rw [World.cell?_of_block (w := w) (by rw [add_block]; exact hk _ hS)]; exact hc1

theorem info_File : (Try.prog.info? 66).map (fun i => (i.zero, i.size, i.bytes)) = some (some (.agg #[.string ⟨#[]⟩, .slice none 0 0]), 2, 40) := by kernel_rfl

theorem run_append_file (w : World) (ty : TypeId) (v : Value) (n : Nat) (xs : List Value) (hown : w.ownsRow 0 66 2 v n xs) {g : Nat} {u0 u1 : Value} {fz : Nat × Nat} (hg : w.heap[g]? = some (.cells #[u0, u1] 66 fz)) (h0 : u0.oneCell' = true) (h1 : u1.oneCell' = true) (hn : n ≤ 4096) :
    ∃ a' c' w', (Builtin.append_ #[40, 40] ty #[v, .slice (some ⟨g, 0, none⟩) 1 1]).run Try.prog w = .ok (.slice a' (n + 1) c') w' ∧ w'.ownsRow 0 66 2 (.slice a' (n + 1) c') (n + 1) (xs ++ [u0, u1]) ∧ w.grownBy w' v.ownBlock ∧
      ((Value.slice a' (n + 1) c').ownBlock = v.ownBlock ∨ (Value.slice a' (n + 1) c').ownBlock = some w.heap.size) := by
  obtain ⟨i, hi, hz0, hz1, hz2⟩ := info_parts info_File
  obtain ⟨v', w', hrun, h2, h3, _, h5⟩ := run_append_own_at (P := Try.prog) w 0 40 ty 66 i _ 2 40 Try.underlying40 hi hz0 hz1 hz2 rfl (by omega) v n xs hown ⟨g, 0, none⟩ 1 1 [u0, u1] (by simp)
    (by
      intro j u hu
      match j, hu with
      | 0, hu => cases hu; simp [Addr.add, cell_of hg]
      | 1, hu => cases hu; simp [Addr.add, cell_of hg])
    (by
      intro u hu
      simp only [List.mem_cons, List.not_mem_nil, or_false] at hu
      rcases hu with rfl | rfl
      · exact h0
      · exact h1) (by unfold maxLen; omega) (by omega) (Nat.zero_le _)
  obtain ⟨a', c', rfl⟩ := row_shape h2
  exact ⟨a', c', w', hrun, h2, h3, h5⟩

theorem wpList_append_file (w : World) {ops : Array Oper} {rest : List Oper} {o : Oper} {a : Act} {Q : Exit → Act → World → Prop} (hgd : o.guard = none) (s x : Operand)
    (ho : o.op = .call { callee := .builtin .append, args := #[s, x], argTypes := #[40, 40] }) (v : Value) (n : Nat) (xs : List Value) (g : Nat) (u0 u1 : Value) (fz : Nat × Nat) (hs : a.eval s = v) (hx : a.eval x = .slice (some ⟨g, 0, none⟩) 1 1)
    (hown : w.ownsRow 0 66 2 v n xs) (hg : w.heap[g]? = some (.cells #[u0, u1] 66 fz)) (h0 : u0.oneCell' = true) (h1 : u1.oneCell' = true) (hn : n ≤ 4096)
    (h : ∀ a' c' w', w'.ownsRow 0 66 2 (.slice a' (n + 1) c') (n + 1) (xs ++ [u0, u1]) → w.grownBy w' v.ownBlock →
      ((Value.slice a' (n + 1) c').ownBlock = v.ownBlock ∨ (Value.slice a' (n + 1) c').ownBlock = some w.heap.size) → wpList Try.prog ops Q rest (a.put o.dst (.slice a' (n + 1) c')) w') :
    wpList Try.prog ops Q (o :: rest) a w := by
  refine wpList_plain hgd fun K hK => ?_
  obtain ⟨a', c', w', hrun, h2, h3, h4⟩ := run_append_file w o.type v n xs hown hg h0 h1 hn
  unfold Oper.wp execOp
  simp only [ho, resolve, invoke, builtin, Sem.run_bind, Sem.run_pure, Result.andThen_ok, List.map_toArray, List.map_cons, List.map_nil, hs, hx, hrun]
  exact hK _ _ (h a' c' w' h2 h3 h4)

/-- The row that Files builds; w0: the world ahead of it. -/
structure FilesRow (w0 wr : World) (fv : Value) (l : List (Value × Dm.Nm × List UInt8)) : Prop where
  row : wr.ownsRow 0 66 2 fv l.length (l.flatMap fun x => [str x.2.1, x.1])
  new : ∀ g, fv.ownBlock = some g → w0.heap.size ≤ g
  each : ∀ x ∈ l, BytesAt wr (fun k => w0.heap.size ≤ k ∧ k < wr.heap.size ∧ fv.ownBlock ≠ some k) x.1 x.2.2
  own : ∀ x ∈ l, wr.ownsRow 0 5 1 x.1 x.2.2.length (x.2.2.map byteV) ∧ ∀ k, x.1.ownBlock = some k → w0.heap.size ≤ k ∧ fv.ownBlock ≠ some k

theorem FilesRow.start (w0 : World) : FilesRow w0 w0 (.slice none 0 0) [] := ⟨World.ownsRow_nil _ _ _ _, by simp [Value.ownBlock], by simp, by simp⟩

theorem FilesRow.grow {w0 wr w1 w3 : World} {fv fv' v : Value} {l : List (Value × Dm.Nm × List UInt8)} {nm : Dm.Nm} {bs : List UInt8} {X : Obj} (h : FilesRow w0 wr fv l) (hz : w0.heap.size ≤ wr.heap.size) (ho : Only (fun _ => False) wr w1) (hnb : NewBytes wr w1 v bs)
    (hown : w3.ownsRow 0 66 2 fv' (l.length + 1) ((l.flatMap fun x => [str x.2.1, x.1]) ++ [str nm, v])) (hgr : (w1.alloc X).grownBy w3 fv.ownBlock) (hat : fv'.ownBlock = fv.ownBlock ∨ fv'.ownBlock = some (w1.alloc X).heap.size) :
    FilesRow w0 w3 fv' (l ++ [(v, nm, bs)]) := by
  have z1 := ho.size
  have z3 : w1.heap.size < w3.heap.size := by have := hgr.size; simp at this; omega
  have hlt : ∀ g, fv.ownBlock = some g → g < wr.heap.size := fun g hg => (h.row.lt g hg).2
  have keep : ∀ k, k < w1.heap.size → fv.ownBlock ≠ some k → w3.heap[k]? = w1.heap[k]? := fun k hk hne => (hgr.block k (by simp; omega) (fun e => hne e.symm)).trans (Below.heap_alloc w1 X k hk)
  have hne : ∀ k, k < w1.heap.size → fv.ownBlock ≠ some k → fv'.ownBlock ≠ some k := by
    intro k hk hne e
    rcases hat with h | h
    · exact hne (h ▸ e)
    · rw [e] at h
      have := Option.some.inj h
      simp at this
      omega
  refine ⟨by simpa using hown, fun g hg => ?_, fun x hx => ?_, fun x hx => ?_⟩
  · rcases hat with h' | h'
    · exact h.new g (h' ▸ hg)
    · rw [hg] at h'
      have := Option.some.inj h'
      simp at this
      omega
  · rcases List.mem_append.1 hx with hx | hx
    · refine (h.each x hx).kept (fun k hk => ?_) (fun k hk => ⟨hk.1, by omega, hne k (by omega) hk.2.2⟩)
      rw [keep k (by omega) hk.2.2]
      exact ho.block k hk.2.1 (fun x => x)
    · rw [List.mem_singleton] at hx
      subst hx
      have hb := hnb.1
      have key : ∀ k, v.ownBlock = some k → wr.heap.size ≤ k ∧ k < w1.heap.size ∧ fv.ownBlock ≠ some k := fun k hk => by
        have h1 := hnb.2 k hk
        exact ⟨h1, (hb.lt k hk).2, fun e => by have := hlt k e; omega⟩
      exact (BytesAt.of_row hb).kept (fun k hk => keep k (key k hk).2.1 (key k hk).2.2) (fun k hk => ⟨by have := (key k hk).1; omega, by have := (key k hk).2.1; omega, hne k (key k hk).2.1 (key k hk).2.2⟩)
  · rcases List.mem_append.1 hx with hx | hx
    · obtain ⟨h1, h2⟩ := h.own x hx
      refine ⟨ownsRow_keep h1 fun k hk => ?_, fun k hk => ⟨(h2 k hk).1, hne k (by have := (h1.lt k hk).2; omega) (h2 k hk).2⟩⟩
      rw [keep k (by have := (h1.lt k hk).2; omega) (h2 k hk).2]
      exact ho.block k (h1.lt k hk).2 (fun x => x)
    · rw [List.mem_singleton] at hx
      subst hx
      have hb := hnb.1
      have key : ∀ k, v.ownBlock = some k → wr.heap.size ≤ k ∧ k < w1.heap.size ∧ fv.ownBlock ≠ some k := fun k hk => by
        have h1 := hnb.2 k hk
        exact ⟨h1, (hb.lt k hk).2, fun e => by have := hlt k e; omega⟩
      exact ⟨ownsRow_keep hb fun k hk => keep k (key k hk).2.1 (key k hk).2.2, fun k hk => ⟨by have := (key k hk).1; omega, hne k (key k hk).2.1 (key k hk).2.2⟩⟩

theorem pair_get {l : List (Value × Dm.Nm × List UInt8)} {i : Nat} (hi : i < l.length) : (l.flatMap fun x => [str x.2.1, x.1])[i * 2]? = some (str l[i].2.1) ∧ (l.flatMap fun x => [str x.2.1, x.1])[i * 2 + 1]? = some l[i].1 := by
  induction l generalizing i with
  | nil => simp at hi
  | cons x r ih =>
    cases i with
    | zero => simp
    | succ j =>
      have := ih (i := j) (by simpa using hi)
      rw [show (j + 1) * 2 = j * 2 + 2 by omega, show j * 2 + 2 + 1 = (j * 2 + 1) + 2 by omega]
      simpa [List.flatMap_cons] using this

theorem FilesRow.files {w0 wr : World} {fv : Value} {l : List (Value × Dm.Nm × List UInt8)} (h : FilesRow w0 wr fv l) : FilesAt wr (fun k => w0.heap.size ≤ k ∧ k < wr.heap.size) fv (l.map (·.2)) := by
  rcases h.row.2 with ⟨e1, e2⟩ | ⟨g, cap, cur, e1, _, hg, _⟩
  · have : l = [] := List.eq_nil_of_length_eq_zero e2
    subst this
    exact ⟨none, 0, e1, fun i hi => absurd hi (by simp)⟩
  · refine ⟨some ⟨g, 0, none⟩, cap, by simpa using e1, fun i hi => ?_⟩
    have hi' : i < l.length := by simpa using hi
    obtain ⟨p0, p1⟩ := pair_get hi'
    have hgl : w0.heap.size ≤ g ∧ g < wr.heap.size := ⟨h.new g (by rw [e1]; rfl), lt_of_heap hg⟩
    have hc := h.row.cells (g := g) (by rw [e1]; rfl)
    refine ⟨⟨g, 0, none⟩, l[i].1, rfl, hgl, ?_, ?_, ?_⟩
    · have := hc _ _ p0
      simpa using this
    · have := hc _ _ p1
      simpa using this
    · have := h.each l[i] (List.getElem_mem hi')
      simpa using this.kept (fun _ _ => rfl) (fun k hk => (⟨hk.1, hk.2.1⟩ : w0.heap.size ≤ k ∧ k < wr.heap.size))

theorem before_ne : ∀ {a : List UInt8}, bytesBefore a a = false
  | [] => rfl
  | x :: r => by simp [bytesBefore, before_ne (a := r)]

theorem Rep.get_mem {w : World} {b : Nat} {ρ : Roles} {L : Lay} {s : Dm.St} (h : Rep w b ρ L s) {p : Dm.Nm × Nat} (hp : p ∈ s.dir) : Dm.get s.dir p.1 = some p.2 := by
  have hr := h.dir.rising
  unfold phys at hr
  rw [List.pairwise_map] at hr
  exact get_of_mem (hr.imp fun {p q} hb e => by rw [e] at hb; have hb' : bytesBefore q.1 q.1 = true := hb; rw [before_ne] at hb'; cases hb') hp

set_option maxRecDepth 100000 in
set_option maxHeartbeats 1000000 in
theorem files_own {w : World} {b : Nat} {ρ : Roles} {L : Lay} {s : Dm.St} (h : Rep w b ρ L s) (hwf : s.WF) :
    Calls Try.prog 12 #[.pointer (some ⟨b, 0, none⟩)] w fun e w' => ∃ v w1 l, e = .returned v ∧ l.map (·.2) = s.all ∧ FilesRow w1 w' v l ∧ w.heap.size ≤ w1.heap.size ∧ Only (fun _ => False) w w' := by
  have hn := names_any h.dir (by rw [length_phys]; exact hwf.dir.len)
  rw [length_phys] at hn
  obtain ⟨N, hN⟩ : ∃ N, N = s.dir.length := ⟨_, rfl⟩
  rw [← hN] at hn
  have HNN := Lib.hid hN
  have hc6 := h.blk.c6
  have HH := Lib.hid h; have HW := Lib.hid hwf
  clear h hwf hN
  go_enter Try.func12, Try.ntmps12
  go_wp2_with (go_at_call 38; refine hn.mono ?_; rintro e w1 ⟨a, c, rfl, hnn, ho⟩; have HN := Lib.hid hnn; have HO := Lib.hid ho; clear hnn ho hn)
  go_loopw [3, 14] (fun fv iv wr => ∃ (k : Nat) (fa : Option Addr) (fc : Nat) (l : List (Value × Dm.Nm × List UInt8)), k ≤ N ∧ iv = .int .i64 k ∧ fv = .slice fa k fc ∧ l.map (·.2) = s.all.take k ∧ FilesRow w1 wr fv l ∧ Only (fun _ => False) w1 wr) (fun _ iv _ => N - (intOf iv).toNat)
  case atStart => exact ⟨0, none, 0, [], Nat.zero_le _, rfl, rfl, rfl, FilesRow.start w1, Only.refl _ _⟩
  case round =>
    obtain ⟨k, fa, fc, l, hk, rfl, rfl, hl, hrow, how⟩ := hrel
    have hdl : N ≤ 4096 := by rw [HNN.out]; exact HW.out.dir.len
    have hll : l.length = k := by
      have := congrArg List.length hl
      simp [Dm.St.all] at this
      have := HNN.out
      omega
    by_cases hltN : k < N
    · have hlt : k < s.dir.length := by rw [← HNN.out]; exact hltN
      have hp := List.getElem_mem hlt
      have hgm := HH.out.get_mem hp
      have how1 := HO.out.trans how
      have hr1 := HH.out.only_none how1
      have hall : s.all[k]? = some (s.dir[k].1, s.dataOf s.dir[k].2) := by simp [Dm.St.all, hlt]
      obtain ⟨f, fl, hfi, hfl, hfa, hdo, hlen, _⟩ := file_of hr1 HW.out hgm
      have hgood := HW.out.dir.nm _ hp
      have hrw := HN.out.1
      obtain ⟨g, hg⟩ : ∃ g, a = some ⟨g, 0, none⟩ := by
        rcases hrw.2 with ⟨_, h2⟩ | ⟨g, cap, cur, h1, _⟩
        · have : (phys L.fls s.dir).length = 0 := h2
          rw [length_phys] at this
          omega
        · exact ⟨g, (Value.slice.inj h1).1⟩
      subst hg
      have hcn : wr.cell? ⟨g, k, none⟩ = some (str s.dir[k].1) := by
        have h1 := hrw.cells (g := g) rfl k (str s.dir[k].1) (by simp [phys, hlt])
        rw [add_lit, Nat.zero_add] at h1
        rw [World.cell?_of_block (w := w1) (how.block g (hrw.lt g rfl).2 (fun x => x))]
        exact h1
      generalize hpe : s.dir[k] = p at *
      have hlk := hr1.dir.look ⟨p.1.toArray⟩ (by
        have := Dm.good_len hgood
        simp [ByteArray.size, maxLen]; omega)
      have e1 : (⟨p.1.toArray⟩ : ByteArray).data.toList = p.1 := rfl
      rw [e1, get_phys, hgm, Option.map_some, blkOf_some hfl] at hlk
      replace hlk : (Instr.lookup 72 (.map (some L.dir)) (.string ⟨p.1.toArray⟩) false).run Try.prog wr = .ok (.pointer (some ⟨fl.blk, 0, none⟩)) wr := hlk
      have hbl := hfa.blk
      obtain ⟨va, vc, hvs⟩ := row_shape hfa.row
      have hc0 : wr.cell? ⟨fl.blk, 0, none⟩ = some (.slice va f.data.length vc) := by rw [cell_of hbl, hvs]; rfl
      have hba := BytesAt.of_row hfa.row
      rw [hvs] at hba
      have hcl := bclone_any hba (fun k hk => (hfa.row.lt k (by rw [hvs]; exact hk)).2) hlen
      have hc6' := hr1.blk.c6
      unfold str at hcn
      have HROW := Lib.hid hrow; have HOW := Lib.hid how; have HL := Lib.hid hl; have HLL := Lib.hid hll; have HALL := Lib.hid hall; have HDO := Lib.hid hdo
      have HK9 : Hid (k ≤ 4096) := by unfold Hid; omega
      clear hrow how hl hll hall how1 hr1 hfi hfl hfa hdo hlen hgood hrw hpe hbl hba hgm hp hvs
      go_wp2_with (first
        | (go_at_call 39; refine hcl.mono ?_; rintro e w2 ⟨ba, bc, rfl, hnb, ho2⟩; have HNB := Lib.hid hnb; have HO2 := Lib.hid ho2; have hrw2 := ownsRow_keep HROW.out.row (w' := w2.alloc (.cells #[.string ⟨p.1.toArray⟩, .slice ba f.data.length bc] 66)) (fun q hq => (Below.heap_alloc w2 _ q (Nat.lt_of_lt_of_le (HROW.out.row.lt q hq).2 ho2.size)).trans (ho2.block q (HROW.out.row.lt q hq).2 (fun x => x))); rw [HLL.out] at hrw2; have HRW2 := Lib.hid hrw2; clear hnb ho2 hcl hrw2)
        | (at_builtin; refine wpList_append_file _ rfl _ _ rfl (.slice fa k fc) k _ w2.heap.size (.string ⟨p.1.toArray⟩) (.slice ba f.data.length bc) (0, 0) rfl rfl HRW2.out (heap_alloc_new w2 _) rfl rfl HK9.out ?_; intro a' c' w3 hown hgr hat; have HOWN := Lib.hid hown; have HGR := Lib.hid hgr; have HAT := Lib.hid hat; clear hown hgr hat))
      go_roundw
      case rel =>
        have hrow' := HROW.out.grow HOW.out.size HO2.out HNB.out (nm := p.1) (by rw [HLL.out]; exact HOWN.out) HGR.out HAT.out
        refine ⟨k + 1, a', c', _, by omega, by go_num, rfl, ?_, hrow', ?_⟩
        · rw [List.map_append, HL.out]
          have hkl := (List.getElem?_eq_some_iff.1 HALL.out)
          rw [List.take_add_one, HALL.out, HDO.out]
          rfl
        · refine (HOW.out.trans (HO2.out.trans (Only.alloc _))).andThen (Only.of_grown HGR.out) fun q hq hs => ?_
          have := HROW.out.new q hs.symm
          omega
      case measure => simp [intOf]; omega
    · have hk' : k = N := by omega
      subst hk'
      have HFIN : Hid (l.map (·.2) = s.all ∧ FilesRow w1 wr (.slice fa k fc) l) := by
        rw [List.take_of_length_le (by have := HNN.out; simp [Dm.St.all]; omega)] at hl
        exact ⟨hl, hrow⟩
      have HOW := Lib.hid (HO.out.trans how)
      clear hrow how hl hll hdl hc6
      go_wp2
      go_ret
      exact ⟨_, w1, l, rfl, HFIN.out.1, HFIN.out.2, HO.out.size, HOW.out⟩

theorem files_rep {w : World} {b : Nat} {ρ : Roles} {L : Lay} {s : Dm.St} (h : Rep w b ρ L s) (hwf : s.WF) :
    Calls Try.prog 12 #[.pointer (some ⟨b, 0, none⟩)] w fun e w' => ∃ v, e = .returned v ∧ FilesAt w' (fun k => w.heap.size ≤ k ∧ k < w'.heap.size) v s.all ∧ Only (fun _ => False) w w' := by
  refine (files_own h hwf).mono ?_
  rintro e w' ⟨v, w1, l, rfl, hl, hrow, hz, ho⟩
  have h1 := hrow.files
  rw [hl] at h1
  exact ⟨v, rfl, h1.kept (fun _ _ => rfl) fun q hq => ⟨Nat.le_trans hz hq.1, hq.2⟩, ho⟩

end Go.Proofs.Ythjabfhfkikalaa
