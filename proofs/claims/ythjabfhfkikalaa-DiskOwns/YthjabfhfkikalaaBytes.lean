/- Rows of bytes that lie somewhere; append of such a row to one that is owned; bytes.Clone. Conditions: lengths up to 2^47. -/
import Derived.Test.YthjabfhfkikalaaW11
namespace Go.Proofs.Ythjabfhfkikalaa
open Go.RowKit Go.Maps Go.WideMaps

/-- v holds the bytes bs; its block is one of S. -/
def BytesAt (w : World) (S : Nat → Prop) (v : Value) (bs : List UInt8) : Prop :=
  (v = .slice none 0 0 ∧ bs = []) ∨ ∃ ad c, v = .slice (some ad) bs.length c ∧ (bs ≠ [] → S ad.block) ∧ ∀ j x, bs[j]? = some x → w.cell? (ad.add j) = some (byteV x)

theorem add_block (a : Addr) (n : Nat) : (a.add n).block = a.block := by
  unfold Addr.add
  split <;> rfl

theorem BytesAt.shape {w : World} {S : Nat → Prop} {v : Value} {bs : List UInt8} (h : BytesAt w S v bs) : ∃ a c, v = .slice a bs.length c := by
  rcases h with ⟨rfl, rfl⟩ | ⟨ad, c, rfl, _⟩
  · exact ⟨none, 0, rfl⟩
  · exact ⟨some ad, c, rfl⟩

theorem BytesAt.kept {w w' : World} {S S' : Nat → Prop} {v : Value} {bs : List UInt8} (h : BytesAt w S v bs) (hk : ∀ k, S k → w'.heap[k]? = w.heap[k]?) (hs : ∀ k, S k → S' k) : BytesAt w' S' v bs := by
  rcases h with h | ⟨ad, c, h1, h2, h3⟩
  · exact .inl h
  · refine .inr ⟨ad, c, h1, fun hne => hs _ (h2 hne), fun j x hx => ?_⟩
    rw [World.cell?_of_block (w := w) (by rw [add_block]; exact hk _ (h2 (by rintro rfl; simp at hx)))]
    exact h3 j x hx

/-- A row that is owned holds its bytes. -/
theorem BytesAt.of_row {w : World} {base n : Nat} {v : Value} {bs : List UInt8} (h : w.ownsRow base 5 1 v n (bs.map byteV)) : BytesAt w (fun k => v.ownBlock = some k) v bs := by
  have hl : n = bs.length := by have := h.1; simpa using this.symm
  subst hl
  rcases h.2 with ⟨rfl, h0⟩ | ⟨g, cap, cur, rfl, hb, hg, h1⟩
  · exact .inl ⟨rfl, List.eq_nil_of_length_eq_zero h0⟩
  · refine .inr ⟨⟨g, 0, none⟩, cap, rfl, fun _ => rfl, fun j x hx => ?_⟩
    have := h.cells (g := g) rfl j (byteV x) (by rw [List.getElem?_map, hx]; rfl)
    exact this

theorem info_u8 : (Try.prog.info? 5).map (fun i => (i.zero, i.size, i.bytes)) = some (some (.int .u8 0), 1, 1) := by kernel_rfl

theorem run_append_bytes (w : World) (ty : TypeId) (v vx : Value) (n : Nat) (xs : List Value) (hown : w.ownsRow 0 5 1 v n xs) {S : Nat → Prop} {bs : List UInt8} (hsrc : BytesAt w S vx bs) (hlen : n + bs.length ≤ 140737488355328) :
    ∃ a' c' w', (Builtin.append_ #[22, 22] ty #[v, vx]).run Try.prog w = .ok (.slice a' (n + bs.length) c') w' ∧ w'.ownsRow 0 5 1 (.slice a' (n + bs.length) c') (n + bs.length) (xs ++ bs.map byteV) ∧ w.grownBy w' v.ownBlock ∧
      ((Value.slice a' (n + bs.length) c').ownBlock = v.ownBlock ∨ (Value.slice a' (n + bs.length) c').ownBlock = some w.heap.size) := by
  obtain ⟨i, hi, hz0, hz1, hz2⟩ := info_parts info_u8
  rcases hsrc with ⟨rfl, rfl⟩ | ⟨ad, c, rfl, _, hcell⟩
  · obtain ⟨a', c', hv⟩ := row_shape hown
    have hrun := run_append_owned_none (P := Try.prog) w 0 22 ty 5 i 1 Try.underlying22 hi v n xs hown
    refine ⟨a', c', w, ?_, by simpa [← hv] using hown, World.grownBy.refl w _, .inl (by simp [hv])⟩
    rw [hrun, hv]
    rfl
  · have h63 : n + bs.length ≤ maxLen := by unfold maxLen; omega
    obtain ⟨v', w', hrun, h2, h3, _, h5⟩ := run_append_own_at (P := Try.prog) w 0 22 ty 5 i _ 1 1 Try.underlying22 hi hz0 hz1 hz2 rfl (by omega) v n xs hown ad bs.length c (bs.map byteV) (by simp)
      (by
        intro j u hu
        rw [List.getElem?_map, Option.map_eq_some_iff] at hu
        obtain ⟨x, hx, rfl⟩ := hu
        exact hcell j x hx)
      (by
        intro u hu
        obtain ⟨x, _, rfl⟩ := List.mem_map.1 hu
        rfl) h63 (by omega) (Nat.zero_le _)
    obtain ⟨a', c', rfl⟩ := row_shape h2
    exact ⟨a', c', w', hrun, h2, h3, h5⟩

theorem wpList_append_bytes (w : World) {ops : Array Oper} {rest : List Oper} {o : Oper} {a : Act} {Q : Exit → Act → World → Prop} (hgd : o.guard = none) (s x : Operand)
    (ho : o.op = .call { callee := .builtin .append, args := #[s, x], argTypes := #[22, 22] }) (v vx : Value) (n : Nat) (xs : List Value) (hs : a.eval s = v) (hx : a.eval x = vx)
    (hown : w.ownsRow 0 5 1 v n xs) {S : Nat → Prop} {bs : List UInt8} (hsrc : BytesAt w S vx bs) (hlen : n + bs.length ≤ 140737488355328)
    (h : ∀ a' c' w', w'.ownsRow 0 5 1 (.slice a' (n + bs.length) c') (n + bs.length) (xs ++ bs.map byteV) → w.grownBy w' v.ownBlock →
      ((Value.slice a' (n + bs.length) c').ownBlock = v.ownBlock ∨ (Value.slice a' (n + bs.length) c').ownBlock = some w.heap.size) → wpList Try.prog ops Q rest (a.put o.dst (.slice a' (n + bs.length) c')) w') :
    wpList Try.prog ops Q (o :: rest) a w := by
  refine wpList_plain hgd fun K hK => ?_
  obtain ⟨a', c', w', hrun, h2, h3, h4⟩ := run_append_bytes w o.type v vx n xs hown hsrc hlen
  unfold Oper.wp execOp
  simp only [ho, resolve, invoke, builtin, Sem.run_bind, Sem.run_pure, Result.andThen_ok, List.map_toArray, List.map_cons, List.map_nil, hs, hx, hrun]
  exact hK _ _ (h a' c' w' h2 h3 h4)

/-- A row of bytes in memory that was not there in w. -/
def NewBytes (w w' : World) (v : Value) (bs : List UInt8) : Prop :=
  w'.ownsRow 0 5 1 v bs.length (bs.map byteV) ∧ ∀ g, v.ownBlock = some g → w.heap.size ≤ g

set_option maxHeartbeats 400000 in
theorem bclone_any {w : World} {S : Nat → Prop} {v : Value} {bs : List UInt8} (h : BytesAt w S v bs) (hlt : ∀ k, S k → k < w.heap.size) (hlen : bs.length ≤ 140737488355328) :
    Calls Try.prog 39 #[v] w fun e w' => ∃ a c, e = .returned (.slice a bs.length c) ∧ NewBytes w w' (.slice a bs.length c) bs ∧ Only (fun _ => False) w w' := by
  rcases h with ⟨rfl, rfl⟩ | ⟨ad, c, rfl, hS, hcell⟩
  · have hq : ∀ w : World, (binOp .eql 22 (.slice none 0 0) (.slice none 0 0)).run Try.prog w = .ok (.bool true) w := fun w => Lib.run_eql_slice_nil w 22 5 none 0 0 0 0 Try.underlying22
    go_enter Try.func39, Try.ntmps39
    go_wp2
    go_ret
    exact ⟨none, 0, rfl, ⟨World.ownsRow_nil _ _ _ _, by simp [Value.ownBlock]⟩, Only.refl _ _⟩
  · have hq : ∀ w : World, (binOp .eql 22 (.slice (some ad) bs.length c) (.slice none 0 0)).run Try.prog w = .ok (.bool false) w := fun w => Lib.run_eql_slice_nil w 22 5 (some ad) _ _ 0 0 Try.underlying22
    have hb0 : (w.alloc (.cells #[] 5)).ownsRow 0 5 1 (.slice (some ⟨w.heap.size, 0, none⟩) 0 0) 0 [] := World.ownsRow_made w #[] 0 (Nat.zero_le _) (Nat.zero_le _) rfl
    have hsrc : BytesAt (w.alloc (.cells #[] 5)) S (.slice (some ad) bs.length c) bs :=
      BytesAt.kept (.inr ⟨ad, c, rfl, hS, hcell⟩) (fun k hk => Below.heap_alloc _ _ _ (hlt k hk)) (fun _ h => h)
    have HB := Lib.hid hb0; have HS := Lib.hid hsrc; have HL := Lib.hid hlen
    clear hcell hlen hlt hS hb0 hsrc
    go_enter Try.func39, Try.ntmps39
    go_wp2_with (at_builtin; refine wpList_append_bytes _ rfl _ _ rfl _ _ 0 [] rfl rfl HB.out HS.out (by rw [Nat.zero_add]; exact HL.out) ?_; intro a' c' w' hown hgr hat; have HOWN := Lib.hid hown; have HGR := Lib.hid hgr; have HAT := Lib.hid hat; clear hown hgr hat)
    go_ret
    refine ⟨a', c', rfl, ?_, ?_⟩
    · have h1 := HOWN.out
      rw [Nat.zero_add, List.nil_append] at h1
      refine ⟨h1, fun g hg => ?_⟩
      have h2 := HAT.out
      rw [Nat.zero_add, hg] at h2
      rcases h2 with h2 | h2
      · have h3 : g = w.heap.size := Option.some.inj h2
        omega
      · have h3 := Option.some.inj h2
        simp at h3; omega
    · refine (Only.alloc (.cells #[] 5)).andThen (Only.of_grown HGR.out) fun k hk h => ?_
      have h3 : k = w.heap.size := Option.some.inj h
      omega

end Go.Proofs.Ythjabfhfkikalaa
