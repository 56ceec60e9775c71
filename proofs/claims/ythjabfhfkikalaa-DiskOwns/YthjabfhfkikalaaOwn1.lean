/- Copy, Kept, Over, Texts, ReadAt from the start. Conditions: lengths far from an int's end. -/
import Derived.Test.YthjabfhfkikalaaFSame
import Derived.OwnWalk
namespace Go.Proofs.Ythjabfhfkikalaa
open Go.RowKit Go.Maps Go.WideMaps

theorem hsl_any {a : Option Addr} {n cap m : Nat} (h : m ≤ cap) (w : World) : (Instr.slice 22 (.slice a n cap) none (some (.int .i64 (m : Int))) none).run Try.prog w = .ok (.slice a m cap) w := by
  rw [run_slice_h (ht := by kernel_rfl) (h0 := by omega) (h2 := by omega)]
  have hsz : (sizeOf (Try.prog.elem 22)).run Try.prog w = .ok 1 w := by kernel_rfl
  rw [hsz]
  cases a <;> simp [Result.andThen, sliced, Addr.add]

theorem row_cap {w : World} {base : Nat} {e : TypeId} {size n cap : Nat} {a : Option Addr} {xs : List Value} (h : w.ownsRow base e size (.slice a n cap) n xs) : n ≤ cap := by
  rcases h.2 with ⟨h1, h2⟩ | ⟨g, c, cur, h1, _, _, h2, _⟩
  · omega
  · have := (Value.slice.inj h1).2.2
    omega

theorem marks_src (w : World) : BytesAt (w.alloc (.cells #[.int .u8 165, .int .u8 90] 5)) (fun _ => True) (.slice (some ⟨w.heap.size, 0, none⟩) 2 2) [165, 90] := by
  refine .inr ⟨⟨w.heap.size, 0, none⟩, 2, rfl, fun _ => trivial, fun j x hx => ?_⟩
  match j, hx with
  | 0, hx => cases hx; simp [Addr.add, byteV]
  | 1, hx => cases hx; simp [Addr.add, byteV]

set_option maxRecDepth 100000 in
set_option maxHeartbeats 1000000 in
theorem copy_any {w : World} {S : Nat → Prop} {v : Value} {bs : List UInt8} (h : BytesAt w S v bs) (hlt : ∀ k, S k → k < w.heap.size) (hlen : bs.length ≤ 1048576) :
    Calls Try.prog 33 #[v] w fun e w' => ∃ g c, e = .returned (.slice (some ⟨g, 0, none⟩) bs.length c) ∧ w'.ownsRow 0 5 1 (.slice (some ⟨g, 0, none⟩) (bs.length + 2) c) (bs.length + 2) ((bs ++ [165, 90]).map byteV) ∧ w.heap.size ≤ g ∧ Only (fun _ => False) w w' := by
  obtain ⟨va, vc, hv⟩ := h.shape
  subst hv
  obtain ⟨i0, hi0, hz0, hz1, hz2⟩ := info_parts info_u8
  have HSRC : Hid (∀ w1, w.grownBy w1 none → BytesAt w1 S (.slice va bs.length vc) bs) := fun w1 hg => h.kept (fun k hk => hg.block k (hlt k hk) (by simp)) (fun _ h => h)
  have HL := Lib.hid hlen
  have hb8 : i0.bytes * (bs.length + 2) ≤ 281474976710656 := by rw [hz2]; omega
  have hbm : bs.length + 2 ≤ maxLen := by unfold maxLen; omega
  have HB8 := Lib.hid hb8; have HBM := Lib.hid hbm
  clear h hlt hb8 hbm
  go_enter Try.func33, Try.ntmps33
  go_wp2_with (first
    | (at_make; refine wpList_make_own _ rfl _ _ 22 rfl 0 5 i0 _ 1 Try.underlying22 hi0 hz0 hz1 .i64 .i64 _ (bs.length + 2) rfl rfl (by simp) HB8.out HBM.out (Nat.zero_le _) ?_; intro w1 hr1 hg1; have HR1 := Lib.hid hr1; have HG1 := Lib.hid hg1; have hs1 := HSRC.out w1 hg1; have HS1 := Lib.hid hs1; clear hr1 hg1 hs1)
    | (at_builtin; refine wpList_append_bytes _ rfl _ _ rfl (.slice (some ⟨w.heap.size, 0, none⟩) 0 (bs.length + 2)) (.slice va bs.length vc) 0 [] rfl rfl HR1.out HS1.out (by rw [Nat.zero_add]; exact Nat.le_trans HL.out (by decide)) ?_; intro a1 c1 w2 hr2 hg2 hat2; have hr2' := hr2.alloc (.cells #[.int .u8 165, .int .u8 90] 5); rw [Nat.zero_add, List.nil_append] at hr2'; rw [Nat.zero_add] at hat2; have HR2 := Lib.hid hr2'; have HG2 := Lib.hid hg2; have HAT2 := Lib.hid hat2; clear hr2 hr2' hg2 hat2 HS1 HR1)
    | (at_builtin; refine wpList_append_bytes _ rfl _ _ rfl (.slice a1 bs.length c1) (.slice (some ⟨w2.heap.size, 0, none⟩) 2 2) bs.length (bs.map byteV) rfl rfl HR2.out (marks_src w2) (by have := HL.out; simp; omega) ?_; intro a2 c2 w3 hr3 hg3 hat3; have hsl := hsl_any (a := a2) (n := bs.length + 2) (cap := c2) (m := bs.length) (by have := row_cap hr3; simp at this; omega); have HR3 := Lib.hid hr3; have HG3 := Lib.hid hg3; have HAT3 := Lib.hid hat3; clear hr3 hg3 hat3))
  go_ret
  have h3 := HR3.out
  have hat3 := HAT3.out
  have hat2 := HAT2.out
  rcases h3.2 with ⟨_, h0⟩ | ⟨g, cap, cur, e1, _⟩
  · simp at h0
  · obtain ⟨e1, _, e3⟩ := Value.slice.inj e1
    subst e1 e3
    have hz1 := HG1.out.size
    have hz2 := HG2.out.size
    have hz3 := HG3.out.size
    simp only [World.size_alloc] at hz3
    have hown2 : ∀ q, (Value.slice a1 bs.length c1).ownBlock = some q → w.heap.size ≤ q := by
      intro q hq
      rcases hat2 with h | h
      · rw [hq] at h
        have h3 : q = w.heap.size := Option.some.inj h
        omega
      · rw [hq] at h
        have h3 := Option.some.inj h
        omega
    refine ⟨g, c2, rfl, by simpa using h3, ?_, ?_⟩
    · rcases hat3 with h | h
      · exact hown2 g h.symm
      · have h3 : g = (w2.alloc (.cells #[.int .u8 165, .int .u8 90] 5)).heap.size := Option.some.inj h
        simp at h3
        omega
    · refine (((Only.of_grown HG1.out).mono fun k _ h => by cases h).andThen (Only.of_grown HG2.out) fun k hk h => ?_).trans (Only.alloc _) |>.andThen (Only.of_grown HG3.out) fun k hk h => ?_
      · have h3 : k = w.heap.size := Option.some.inj h
        omega
      · have := hown2 k h.symm
        omega

/-- The cells of a copy. -/
theorem row_cell {w : World} {g c n : Nat} {l : List UInt8} (h : w.ownsRow 0 5 1 (.slice (some ⟨g, 0, none⟩) n c) n (l.map byteV)) {j : Nat} {x : UInt8} (hx : l[j]? = some x) : w.cell? ⟨g, j, none⟩ = some (byteV x) := by
  have := h.cells (g := g) rfl j (byteV x) (by rw [List.getElem?_map, hx]; rfl)
  rwa [add_lit, Nat.zero_add] at this

theorem row_pre {w : World} {g c n : Nat} {bs t : List UInt8} (h : w.ownsRow 0 5 1 (.slice (some ⟨g, 0, none⟩) n c) n ((bs ++ t).map byteV)) : BytesAt w (fun k => k = g) (.slice (some ⟨g, 0, none⟩) bs.length c) bs := by
  refine .inr ⟨⟨g, 0, none⟩, c, rfl, fun _ => rfl, fun j x hx => ?_⟩
  rw [add_lit, Nat.zero_add]
  exact row_cell h (by rw [List.getElem?_append_left (List.getElem?_eq_some_iff.1 hx).1]; exact hx)

set_option maxRecDepth 100000 in
set_option maxHeartbeats 1000000 in
theorem kept_any {w : World} {g c : Nat} {bs : List UInt8} (h : w.ownsRow 0 5 1 (.slice (some ⟨g, 0, none⟩) (bs.length + 2) c) (bs.length + 2) ((bs ++ [165, 90]).map byteV)) {S : Nat → Prop} {v : Value} (hv : BytesAt w S v bs) (hlen : bs.length ≤ 1048576) :
    Calls Try.prog 34 #[.slice (some ⟨g, 0, none⟩) bs.length c, v] w fun e w' => e = .returned (.bool true) ∧ w = w' := by
  obtain ⟨va, vc, hs⟩ := hv.shape
  subst hs
  have t1 := (row_pre h).text
  have t2 := hv.text
  have hcap := row_cap h
  have hsl := hsl_any (a := some ⟨g, 0, none⟩) (n := bs.length) (cap := c) (m := bs.length + 2) hcap
  have hsl' : ∀ w : World, (Instr.slice 22 (.slice (some ⟨g, 0, none⟩) bs.length c) none (some (.int .i64 ((bs.length : Int) + 2))) none).run Try.prog w = .ok (.slice (some ⟨g, 0, none⟩) (bs.length + 2) c) w := hsl
  have c1 : w.cell? ⟨g, bs.length, none⟩ = some (.int .u8 165) := row_cell (x := 165) h (by rw [List.getElem?_append_right (Nat.le_refl _)]; simp)
  have c2 : w.cell? ⟨g, bs.length + 1, none⟩ = some (.int .u8 90) := row_cell (x := 90) h (by rw [List.getElem?_append_right (by omega)]; simp)
  have hci : ¬ (c : Int) < (bs.length : Int) + 2 := by omega
  clear h hv
  go_enter Try.func34, Try.ntmps34
  go_wp2
  go_ret
  exact ⟨rfl, rfl⟩

/-- A block of bytes. -/
def ByteBlk (w : World) (g n : Nat) : Prop := ∃ cur, w.heap[g]? = some (.cells cur 5 (0, 0)) ∧ ∀ j, j < n → ∃ x : Int, cur[j]? = some (.int .u8 x)

set_option maxRecDepth 100000 in
set_option maxHeartbeats 1000000 in
theorem over_any {w : World} {g n c : Nat} (h : ByteBlk w g n) (hn : n ≤ 1048576) :
    Calls Try.prog 35 #[.slice (some ⟨g, 0, none⟩) n c] w fun e w' => e = .returned (.tuple #[]) ∧ Only (fun k => k = g) w w' := by
  have HB := Lib.hid h
  clear h
  go_enter Try.func35, Try.ntmps35
  go_wp2
  go_loopw [5] (fun iv wr => ∃ k : Nat, k ≤ n ∧ iv = .int .i64 k ∧ ByteBlk wr g n ∧ Only (fun k => k = g) w wr) (fun iv _ => n - (intOf iv).toNat)
  case atStart => exact ⟨0, Nat.zero_le _, rfl, HB.out, Only.refl _ _⟩
  case round =>
    obtain ⟨k, hk, rfl, ⟨cur, hg, hcur⟩, how⟩ := hrel
    by_cases hlt : k < n
    · obtain ⟨x, hx⟩ := hcur k hlt
      have c1 : wr.cell? ⟨g, k, none⟩ = some (.int .u8 x) := by rw [cell_of hg]; exact hx
      have f1 : wr.frozen? ⟨g, k, none⟩ = false := frozen_of hg k
      have HFIN : Hid (∀ y : Int, ByteBlk (wr.setCell ⟨g, k, none⟩ (.int .u8 y)) g n ∧ Only (fun k => k = g) w (wr.setCell ⟨g, k, none⟩ (.int .u8 y))) := by
        intro y
        refine ⟨⟨_, heap_setCell_self hg k (.int .u8 y), fun j hj => ?_⟩, how.trans (Only.setCell ⟨g, k, none⟩ _)⟩
        by_cases e : j = k
        · subst e
          obtain ⟨hj', _⟩ := Array.getElem?_eq_some_iff.1 hx
          exact ⟨y, by simp [hj']⟩
        · obtain ⟨z, hz⟩ := hcur j hj
          exact ⟨z, by rw [Array.getElem?_setIfInBounds_ne (fun h => e h.symm)]; exact hz⟩
      clear how hg hcur hx
      go_wp2
      go_roundw
      case rel => exact ⟨k + 1, by omega, by go_num, (HFIN.out _).1, (HFIN.out _).2⟩
      case measure => simp [intOf]; omega
    · have HOW := Lib.hid how
      clear hg hcur how
      go_wp2
      go_end0
      exact ⟨rfl, HOW.out⟩

/-- v holds the texts l. -/
def TextsAt (w : World) (v : Value) (l : List Dm.Nm) : Prop := ∃ a c, v = .slice a l.length c ∧ ∀ i (h : i < l.length), ∃ g, a = some ⟨g, 0, none⟩ ∧ w.cell? ⟨g, i, none⟩ = some (str l[i])

theorem NewNames.texts {w w' : World} {v : Value} {d : Dm.Dir} (h : NewNames w w' v d) : TextsAt w' v (d.map (·.1)) := by
  have hr := h.1
  rcases hr.2 with ⟨e1, e2⟩ | ⟨g, cap, cur, e1, _⟩
  · have : d = [] := List.eq_nil_of_length_eq_zero e2
    subst this
    exact ⟨none, 0, e1, fun i hi => absurd hi (by simp)⟩
  · refine ⟨some ⟨g, 0, none⟩, cap, by simpa using e1, fun i hi => ⟨g, rfl, ?_⟩⟩
    have hi' : i < d.length := by simpa using hi
    have := hr.cells (g := g) (by rw [e1]; rfl) i (str d[i].1) (by simp [hi'])
    rw [add_lit, Nat.zero_add] at this
    simpa using this

set_option maxRecDepth 100000 in
set_option maxHeartbeats 1000000 in
theorem texts_same {w : World} {va vb : Value} {l : List Dm.Nm} (ha : TextsAt w va l) (hb : TextsAt w vb l) (hl : l.length ≤ 4096) :
    Calls Try.prog 37 #[va, vb] w fun e w' => e = .returned (.bool true) ∧ Only (fun _ => False) w w' := by
  obtain ⟨aa, ac, e1, ha⟩ := ha
  obtain ⟨ba, bc, e2, hb⟩ := hb
  subst e1 e2
  have HA := Lib.hid ha; have HB := Lib.hid hb
  clear ha hb
  go_enter Try.func37, Try.ntmps37
  go_wp2
  go_loopw [13] (fun iv wr => ∃ k : Nat, k ≤ l.length ∧ iv = .int .i64 k ∧ wr.heap = w.heap ∧ Only (fun _ => False) w wr) (fun iv _ => l.length - (intOf iv).toNat)
  case atStart => exact ⟨0, Nat.zero_le _, rfl, rfl, Only.refl _ _⟩
  case round =>
    obtain ⟨k, hk, rfl, hh, how⟩ := hrel
    by_cases hlt : k < l.length
    · obtain ⟨g1, ea, a0⟩ := HA.out k hlt
      obtain ⟨g2, eb, b0⟩ := HB.out k hlt
      rw [← World.cell?_of_block (w' := wr) (by rw [hh])] at a0 b0
      subst ea eb
      generalize l[k] = x at *
      unfold str at a0 b0
      have hi1 : (0 : Int) ≤ (k : Int) := by omega
      have hi2 : (k : Int) < (l.length : Int) := by omega
      have HOW := Lib.hid how; have HH := Lib.hid hh
      clear how hh
      go_wp2
      go_quiet (fail)
      have hod : Only (fun _ => False) wr (wr.drewN nq) := ⟨rfl, rfl, rfl, Nat.le_refl _, fun _ _ _ => rfl⟩
      have HFIN := Lib.hid (HOW.out.trans hod)
      clear hod a0 b0
      go_wp2
      go_roundw
      case rel => exact ⟨k + 1, by omega, by go_num, HH.out, HFIN.out⟩
      case measure => simp [intOf]; omega
    · have hk' : k = l.length := by omega
      subst hk'
      have HOW := Lib.hid how
      clear how hh
      go_wp2
      go_ret
      exact ⟨rfl, HOW.out⟩

theorem hsl_zero {a : Option Addr} {n cap : Nat} (h : n ≤ cap) (w : World) : (Instr.slice 22 (.slice a n cap) (some (.int .i64 0)) (some (.int .i64 (n : Int))) none).run Try.prog w = .ok (.slice a n cap) w := by
  rw [run_slice_lh (ht := by kernel_rfl) (h0 := by omega) (h1 := by omega) (h2 := by omega)]
  have hsz : (sizeOf (Try.prog.elem 22)).run Try.prog w = .ok 1 w := by kernel_rfl
  rw [hsz]
  cases a <;> simp [Result.andThen, sliced, Addr.add]

set_option maxRecDepth 100000 in
set_option maxHeartbeats 1000000 in
/-- ReadAt of all. -/
theorem readAt_all {w : World} {b : Nat} {ρ : Roles} {L : Lay} {s : Dm.St} (h : Rep w b ρ L s) (hwf : s.WF) (n : ByteArray) (hn : n.size ≤ maxLen) {bs : List UInt8} (hr : s.read n.data.toList = (0, bs)) :
    Calls Try.prog 19 #[.pointer (some ⟨b, 0, none⟩), .string n, .int .i64 0, .int .i64 bs.length] w fun e w' => ∃ a c, e = .returned (.tuple #[.slice a bs.length c, .nilIface]) ∧ NewBytes w w' (.slice a bs.length c) bs ∧ Only (fun _ => False) w w' := by
  rcases s.find_cases n.data.toList with ⟨i, hi⟩ | ⟨x, hx, hx0⟩
  · have hf := find_ok h n hn hi
    obtain ⟨_, _, hget⟩ := Dm.St.find_some hi
    obtain ⟨f, fl, hfi, hfl, hfa, hdo, hlen, _⟩ := file_of h hwf hget
    have e : s.read n.data.toList = (0, f.data) := by simp [Dm.St.read, hi, hdo]
    rw [e] at hr
    have ebs : f.data = bs := (Prod.mk.inj hr).2
    subst ebs
    obtain ⟨va, vc, hvs⟩ := row_shape hfa.row
    have hcap : f.data.length ≤ vc := by have := hfa.row; rw [hvs] at this; exact row_cap this
    have hF : blkOf L.fls i = fl.blk := blkOf_some hfl
    rw [hF] at hf
    have HC : Hid (∀ w1, Only (fun _ => False) w w1 → w1.cell? ⟨fl.blk, 0, none⟩ = some (.slice va f.data.length vc) ∧ Calls Try.prog 39 #[.slice va f.data.length vc] w1 fun e w' => ∃ a c, e = .returned (.slice a f.data.length c) ∧ NewBytes w1 w' (.slice a f.data.length c) f.data ∧ Only (fun _ => False) w1 w') := by
      intro w1 ho
      have hb1 : w1.heap[fl.blk]? = some (.cells #[fl.v, .int .i64 f.synced] 79 (0, 0)) := ho.keep hfa.blk (fun x => x)
      refine ⟨by rw [cell_of hb1, hvs]; rfl, ?_⟩
      have hrow := ownsRow_keep hfa.row (w' := w1) fun g hg => ho.block g (h.low g (by rw [hfa.rd g hg]; simp)) (fun x => x)
      have hba := BytesAt.of_row hrow
      rw [hvs] at hba
      exact bclone_any hba (fun k hk => by have := (hrow.lt k (by rw [hvs]; exact hk)).2; exact this) hlen
    have hz := hsl_zero (a := va) hcap
    have hl47 : (f.data.length : Int) ≤ 140737488355328 := by omega
    clear e hi h hn hwf hget hfi hfl hfa hdo hlen hvs hF hr
    go_enter Try.func19, Try.ntmps19
    go_wp2_with (first
      | (go_at_call 44; refine hf.mono ?_; rintro e w1 ⟨rfl, ho⟩; obtain ⟨hc0, hcl⟩ := HC.out _ ho; have HO := Lib.hid ho; clear ho)
      | (go_at_call 39; refine hcl.mono ?_; rintro e w2 ⟨a, c, rfl, hnb, ho2⟩; have HNB := Lib.hid hnb; have HO2 := Lib.hid ho2; clear hnb ho2))
    go_ret2
    exact ⟨a, c, rfl, HNB.out.from HO.out.size, HO.out.trans HO2.out⟩
  · exfalso
    unfold Dm.St.read at hr
    rw [hx] at hr
    cases x with
    | zero => exact hx0 rfl
    | succ x => cases hr

end Go.Proofs.Ythjabfhfkikalaa
