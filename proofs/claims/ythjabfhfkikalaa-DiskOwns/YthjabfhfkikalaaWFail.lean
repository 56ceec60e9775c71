/- Fail. Conditions: at most 2^44 numbers, each an int. -/
import Derived.Test.YthjabfhfkikalaaAlive
namespace Go.Proofs.Ythjabfhfkikalaa
open Go.RowKit Go.Maps Go.WideMaps

theorem info_int : (Try.prog.info? 3).map (fun i => (i.zero, i.size, i.bytes)) = some (some (.int .i64 0), 1, 8) := by kernel_rfl

theorem run_append_ints (w : World) (ty : TypeId) (v vx : Value) (n : Nat) (xs : List Value) (hown : w.ownsRow 0 3 1 v n xs) {S : Nat → Prop} {l : List Int} (hsrc : IntsAt w S vx l) (hlen : n + l.length ≤ 17592186044416) :
    ∃ a' c' w', (Builtin.append_ #[24, 24] ty #[v, vx]).run Try.prog w = .ok (.slice a' (n + l.length) c') w' ∧ w'.ownsRow 0 3 1 (.slice a' (n + l.length) c') (n + l.length) (xs ++ l.map (Value.int .i64)) ∧ w.grownBy w' v.ownBlock ∧
      ((Value.slice a' (n + l.length) c').ownBlock = v.ownBlock ∨ (Value.slice a' (n + l.length) c').ownBlock = some w.heap.size) := by
  obtain ⟨i, hi, hz0, hz1, hz2⟩ := info_parts info_int
  rcases hsrc with ⟨rfl, rfl⟩ | ⟨ad, c, rfl, _, hcell⟩
  · obtain ⟨a', c', hv⟩ := row_shape hown
    have hrun := run_append_owned_none (P := Try.prog) w 0 24 ty 3 i 1 Try.underlying24 hi v n xs hown
    refine ⟨a', c', w, ?_, by simpa [← hv] using hown, World.grownBy.refl w _, .inl (by simp [hv])⟩
    rw [hrun, hv]
    rfl
  · have h63 : n + l.length ≤ maxLen := by unfold maxLen; omega
    obtain ⟨v', w', hrun, h2, h3, _, h5⟩ := run_append_own_at (P := Try.prog) w 0 24 ty 3 i _ 1 8 Try.underlying24 hi hz0 hz1 hz2 rfl (by omega) v n xs hown ad l.length c (l.map (Value.int .i64)) (by simp)
      (by
        intro j u hu
        rw [List.getElem?_map, Option.map_eq_some_iff] at hu
        obtain ⟨x, hx, rfl⟩ := hu
        exact hcell j x hx)
      (by
        intro u hu
        obtain ⟨x, _, rfl⟩ := List.mem_map.1 hu
        rfl) h63 (by omega) (Nat.zero_le _)
    obtain ⟨a', c', rfl⟩ := row_shape h2
    exact ⟨a', c', w', hrun, h2, h3, h5⟩

theorem wpList_append_ints (w : World) {ops : Array Oper} {rest : List Oper} {o : Oper} {a : Act} {Q : Exit → Act → World → Prop} (hgd : o.guard = none) (s x : Operand)
    (ho : o.op = .call { callee := .builtin .append, args := #[s, x], argTypes := #[24, 24] }) (v vx : Value) (n : Nat) (xs : List Value) (hs : a.eval s = v) (hx : a.eval x = vx)
    (hown : w.ownsRow 0 3 1 v n xs) {S : Nat → Prop} {l : List Int} (hsrc : IntsAt w S vx l) (hlen : n + l.length ≤ 17592186044416)
    (h : ∀ a' c' w', w'.ownsRow 0 3 1 (.slice a' (n + l.length) c') (n + l.length) (xs ++ l.map (Value.int .i64)) → w.grownBy w' v.ownBlock →
      ((Value.slice a' (n + l.length) c').ownBlock = v.ownBlock ∨ (Value.slice a' (n + l.length) c').ownBlock = some w.heap.size) → wpList Try.prog ops Q rest (a.put o.dst (.slice a' (n + l.length) c')) w') :
    wpList Try.prog ops Q (o :: rest) a w := by
  refine wpList_plain hgd fun K hK => ?_
  obtain ⟨a', c', w', hrun, h2, h3, h4⟩ := run_append_ints w o.type v vx n xs hown hsrc hlen
  unfold Oper.wp execOp
  simp only [ho, resolve, invoke, builtin, Sem.run_bind, Sem.run_pure, Result.andThen_ok, List.map_toArray, List.map_cons, List.map_nil, hs, hx, hrun]
  exact hK _ _ (h a' c' w' h2 h3 h4)

/-- A row of ints in memory that was not there in w. -/
def NewInts (w w' : World) (v : Value) (l : List Int) : Prop :=
  w'.ownsRow 0 3 1 v l.length (l.map (Value.int .i64)) ∧ ∀ g, v.ownBlock = some g → w.heap.size ≤ g

set_option maxHeartbeats 400000 in
theorem iclone_any {w : World} {S : Nat → Prop} {v : Value} {l : List Int} (h : IntsAt w S v l) (hlt : ∀ k, S k → k < w.heap.size) (hlen : l.length ≤ 17592186044416) :
    Calls Try.prog 61 #[v] w fun e w' => ∃ a c, e = .returned (.slice a l.length c) ∧ NewInts w w' (.slice a l.length c) l ∧ Only (fun _ => False) w w' := by
  rcases h with ⟨rfl, rfl⟩ | ⟨ad, c, rfl, hS, hcell⟩
  · have hq : ∀ w : World, (binOp .eql 24 (.slice none 0 0) (.slice none 0 0)).run Try.prog w = .ok (.bool true) w := fun w => Lib.run_eql_slice_nil w 24 3 none 0 0 0 0 Try.underlying24
    go_enter Try.func61, Try.ntmps61
    go_wp2
    go_ret
    exact ⟨none, 0, rfl, ⟨World.ownsRow_nil _ _ _ _, by simp [Value.ownBlock]⟩, Only.refl _ _⟩
  · have hq : ∀ w : World, (binOp .eql 24 (.slice (some ad) l.length c) (.slice none 0 0)).run Try.prog w = .ok (.bool false) w := fun w => Lib.run_eql_slice_nil w 24 3 (some ad) _ _ 0 0 Try.underlying24
    have hb0 : (w.alloc (.cells #[] 3)).ownsRow 0 3 1 (.slice (some ⟨w.heap.size, 0, none⟩) 0 0) 0 [] := World.ownsRow_made w #[] 0 (Nat.zero_le _) (Nat.zero_le _) rfl
    have hsrc : IntsAt (w.alloc (.cells #[] 3)) S (.slice (some ad) l.length c) l :=
      IntsAt.kept (.inr ⟨ad, c, rfl, hS, hcell⟩) (fun k hk => Below.heap_alloc _ _ _ (hlt k hk)) (fun _ h => h)
    have HB := Lib.hid hb0; have HS := Lib.hid hsrc; have HL := Lib.hid hlen
    clear hcell hlen hlt hS hb0 hsrc
    go_enter Try.func61, Try.ntmps61
    go_wp2_with (at_builtin; refine wpList_append_ints _ rfl _ _ rfl _ _ 0 [] rfl rfl HB.out HS.out (by rw [Nat.zero_add]; exact HL.out) ?_; intro a' c' w' hown hgr hat; have HOWN := Lib.hid hown; have HGR := Lib.hid hgr; have HAT := Lib.hid hat; clear hown hgr hat)
    go_ret
    refine ⟨a', c', rfl, ?_, ?_⟩
    · have h1 := HOWN.out
      rw [Nat.zero_add, List.nil_append] at h1
      refine ⟨h1, fun g hg => ?_⟩
      have h2 := HAT.out
      rw [Nat.zero_add, hg] at h2
      rcases h2 with h2 | h2
      · have h3 : g = w.heap.size := Option.some.inj h2
        omega
      · have h3 := Option.some.inj h2
        simp at h3; omega
    · refine (Only.alloc (.cells #[] 3)).andThen (Only.of_grown HGR.out) fun k hk h => ?_
      have h3 : k = w.heap.size := Option.some.inj h
      omega

theorem FailsAt.of_row {w : World} {v : Value} {l : List Int} (h : w.ownsRow 0 3 1 v l.length (l.map (Value.int .i64))) (hl : ∀ x ∈ l, 0 ≤ x ∧ x < 2 ^ 63) : FailsAt w v (l.map Int.toNat) v.ownBlock := by
  rcases h.2 with ⟨rfl, h0⟩ | ⟨g, cap, cur, rfl, hb, hg, h1, h2, h3, h4⟩
  · exact .inl ⟨by simp [List.eq_nil_of_length_eq_zero h0], rfl, none, 0, rfl⟩
  · refine .inr ⟨g, 0, cap, cur, rfl, by simp, by simpa using h1, h2, hg, by omega, fun i x hx => ?_⟩
    rw [List.getElem?_map, Option.map_eq_some_iff] at hx
    obtain ⟨y, hy, rfl⟩ := hx
    have hm := hl y (List.mem_of_getElem? hy)
    have hc := h.cells (g := g) rfl i (.int .i64 y) (by rw [List.getElem?_map, hy]; rfl)
    have hc' : w.cell? ⟨g, i, none⟩ = some (.int .i64 y) := by
      by_cases hi : i = 0
      · subst hi; simpa [Addr.add] using hc
      · simpa [Addr.add, hi] using hc
    rw [cell_of hg] at hc'
    rw [Nat.zero_add]
    refine ⟨?_, by omega⟩
    rw [hc', Int.toNat_of_nonneg hm.1]

set_option maxHeartbeats 1000000 in
theorem plan_rep {w : World} {b : Nat} {ρ : Roles} {L : Lay} {s : Dm.St} (h : Rep w b ρ L s) {v : Value} {l : List Int} (hv : IntsAt w (fun k => k < w.heap.size ∧ ρ k = none) v l) (hlen : l.length < 17592186044416) (hb : ∀ x ∈ l, x < 2 ^ 63) :
    Calls Try.prog 54 #[.pointer (some ⟨b, 0, none⟩), v] w (OpPost b ρ w (s.fail l)) := by
  obtain ⟨a, c, hs⟩ := hv.shape
  have hc4 := h.blk.c4
  have hf4 := h.blk.fr 4
  have hbl := h.blk.lt
  subst hs
  have HV := Lib.hid hv; have HH := Lib.hid h; have HB := Lib.hid hb
  have hcl := iclone_any hv (fun k hk => hk.1) (by omega)
  clear hv h hb
  go_enter Try.func54, Try.ntmps54
  go_wp2
  go_loop [9] (fun i => ∃ k : Nat, k ≤ l.length ∧ i = .int .i64 k ∧ (l.take k).any (· < 0) = false) (fun i => l.length - (intOf i).toNat)
  case atStart => exact ⟨0, Nat.zero_le _, rfl, rfl⟩
  case round =>
    obtain ⟨k, hk, rfl, hall⟩ := hrel
    have HA := Lib.hid hall; clear hall
    by_cases hlt : k < l.length
    · obtain ⟨g, o, hga, hcell⟩ := HV.out.at_ hlt
      subst hga
      have HT : Hid ((l.take (k + 1)).any (· < 0) = decide (l[k] < 0)) := by
        unfold Hid; rw [List.take_succ_eq_append_getElem hlt, List.any_append, HA.out]; simp
      by_cases hneg : l[k] < 0
      · have HE : Hid (s.fail l = (7, s)) := by
          have : l.any (· < 0) = true := List.any_eq_true.2 ⟨l[k], List.getElem_mem hlt, by simpa using hneg⟩
          unfold Hid Dm.St.fail; rw [this]; rfl
        generalize l[k] = x at *
        go_wp2
        go_ret
        rw [HE.out]
        exact OpPost.same HH.out (Only.refl _ _) rfl
      · have HN : Hid ((l.take (k + 1)).any (· < 0) = false) := by unfold Hid; rw [HT.out]; simpa using hneg
        generalize l[k] = x at *
        go_wp2
        go_round
        case rel => exact ⟨k + 1, by omega, by go_num, HN.out⟩
        case measure => simp [intOf]; omega
    · have hall : l.any (· < 0) = false := by have := HA.out; rwa [List.take_of_length_le (by omega)] at this
      have hnn : ∀ x ∈ l, 0 ≤ x := by
        intro x hx
        rw [List.any_eq_false] at hall
        have := hall x hx
        simpa using this
      have HE : Hid (s.fail l = (0, { s with fails := l.map Int.toNat })) := by unfold Hid Dm.St.fail; rw [hall]; rfl
      have HNN := Lib.hid hnn
      clear hall hnn
      go_wp2_with (go_at_call 61; refine hcl.mono ?_; rintro e w1 ⟨ra, rc, rfl, hni, ho⟩; have hx := ho.block b hbl (fun x => x); have hc4' := (World.cell?_of_block (a := ⟨b, 4, none⟩) hx).trans hc4; have hf4' := (World.frozen?_of_block (a := ⟨b, 4, none⟩) hx).trans hf4; have HNI := Lib.hid hni; have HO := Lib.hid ho; clear hni ho hx)
      go_ret
      rw [HE.out]
      -- the disk, with its new list
      have hnone : ∀ k, w.heap.size ≤ k → ρ k = none := fun k hk => by
        cases hx : ρ k with
        | none => rfl
        | some r => have := HH.out.low k (by rw [hx]; simp); omega
      generalize hvv : Value.slice ra l.length rc = vv at *
      have hrow := HNI.out.1
      have hnew := HNI.out.2
      have hlt : ∀ k, vv.ownBlock = some k → k < w1.heap.size := fun k hk => (hrow.lt k hk).2
      have h1 : Rep w1 b (fun k => if vv.ownBlock = some k then some .fails else ρ k) L s := by
        refine (HH.out.only_none HO.out).reroles (fun k hk => ?_) (fun k hk => ?_)
        · rw [if_neg]; intro e; exact hk (hnone k (hnew k e))
        · by_cases e : vv.ownBlock = some k
          · exact hlt k e
          · simp only [e, if_false] at hk
            exact Nat.lt_of_lt_of_le (HH.out.low k hk) HO.out.size
      have ho2 : Only (fun k => k = b) w1 (w1.setCell ⟨b, 4, none⟩ vv) := Only.setCell ⟨b, 4, none⟩ _
      have hvb : ∀ g, vv.ownBlock = some g → g ≠ b := fun g hg e => by have := hnew g hg; omega
      refine ⟨rfl, fun k => if vv.ownBlock = some k then some .fails else ρ k, { L with fv := vv, fo := vv.ownBlock }, h1.reblk (L' := { L with fv := vv, fo := vv.ownBlock }) ho2 ?_ rfl ?_ (fun g hg => by simp only at hg; simp [hg]) rfl rfl rfl rfl, ?_, ?_⟩
      · have := heap_setCell_self h1.blk 4 vv
        simpa [DB, diskCells] using this
      · exact FailsAt.of_row (ownsRow_keep hrow fun g hg => heap_setCell_ne _ _ (hvb g hg)) fun x hx => ⟨HNN.out x hx, HB.out x hx⟩
      · exact HO.out.mono (fun _ _ h => h.elim) |>.trans (ho2.mono fun k hk e => by rw [show k = b from e, HH.out.rb]; simp)
      · intro k hk
        show (if vv.ownBlock = some k then some Role.fails else ρ k) = ρ k
        rw [if_neg]
        intro e
        have := hnew k e
        omega

set_option maxHeartbeats 400000 in
theorem fail_rep {w : World} {b : Nat} {ρ : Roles} {L : Lay} {s : Dm.St} (h : Rep w b ρ L s) {v : Value} {l : List Int} (hv : IntsAt w (fun k => k < w.heap.size ∧ ρ k = none) v l) (hlen : l.length < 17592186044416) (hb : ∀ x ∈ l, x < 2 ^ 63) :
    Calls Try.prog 27 #[.pointer (some ⟨b, 0, none⟩), v] w (OpPost b ρ w (s.fail l)) := by
  have hp := plan_rep h hv hlen hb
  generalize s.fail l = r at *
  clear h hv hlen hb
  go_enter Try.func27, Try.ntmps27
  go_wp2_with (go_at_call 54; refine hp.mono ?_; rintro e w' hq; have HQ := Lib.hid hq; obtain ⟨rfl, -⟩ := hq)
  go_ret
  exact HQ.out

end Go.Proofs.Ythjabfhfkikalaa
