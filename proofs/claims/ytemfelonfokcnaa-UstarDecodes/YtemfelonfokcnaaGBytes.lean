/- Rows of bytes that lie somewhere; append of such a row to one that is owned. Conditions: lengths up to 2^47. -/
import Derived.Test.YtemfelonfokcnaaGBase
import Derived.OwnWalk
import Derived.Deep.MidRow
namespace Go.Proofs.Ytemfelonfokcnaa
open Go.RowKit

def byteV (b : UInt8) : Value := .int .u8 b.toNat
def wordV (x : Int) : Value := .int .u32 x

theorem add_block (a : Addr) (n : Nat) : (a.add n).block = a.block := by
  unfold Addr.add
  split <;> rfl

theorem add_lit (g o n : Nat) : (⟨g, o, none⟩ : Addr).add n = ⟨g, o + n, none⟩ := by
  unfold Addr.add
  by_cases h : n = 0
  · subst h; simp
  · simp [h]

theorem add_add (a : Addr) (m n : Nat) : (a.add m).add n = a.add (m + n) := by
  obtain ⟨b, o, s⟩ := a
  unfold Addr.add
  by_cases hm : m = 0
  · subst hm; simp
  · by_cases hn : n = 0
    · subst hn; simp
    · simp [hm, hn, Nat.add_assoc]

theorem row_shape {w : World} {e : TypeId} {size n : Nat} {v : Value} {xs : List Value} (h : w.ownsRow 0 e size v n xs) : ∃ a cap, v = .slice a n cap := by
  rcases h.2 with ⟨rfl, rfl⟩ | ⟨g, cap, cur, rfl, _⟩
  · exact ⟨none, 0, rfl⟩
  · exact ⟨_, cap, rfl⟩

theorem row_cap {w : World} {base : Nat} {e : TypeId} {size n cap : Nat} {a : Option Addr} {xs : List Value} (h : w.ownsRow base e size (.slice a n cap) n xs) : n ≤ cap := by
  rcases h.2 with ⟨h1, h2⟩ | ⟨g, c, cur, h1, _, _, h2, _⟩
  · omega
  · have := (Value.slice.inj h1).2.2
    omega

theorem ownsRow_keep {w w' : World} {e : TypeId} {size n : Nat} {v : Value} {xs : List Value} (h : w.ownsRow 0 e size v n xs) (hk : ∀ g, v.ownBlock = some g → w'.heap[g]? = w.heap[g]?) : w'.ownsRow 0 e size v n xs := by
  refine ⟨h.1, ?_⟩
  rcases h.2 with h1 | ⟨g, cap, cur, h1, h2, h3, h4⟩
  · exact .inl h1
  · exact .inr ⟨g, cap, cur, h1, h2, (hk g (by rw [h1]; rfl)).trans h3, h4⟩

/-- v holds the bytes bs; its block is one of S. -/
def BytesAt (w : World) (S : Nat → Prop) (v : Value) (bs : List UInt8) : Prop :=
  (v = .slice none 0 0 ∧ bs = []) ∨ ∃ ad c, v = .slice (some ad) bs.length c ∧ bs.length ≤ c ∧ (bs ≠ [] → S ad.block) ∧ ∀ j x, bs[j]? = some x → w.cell? (ad.add j) = some (byteV x)

theorem BytesAt.shape {w : World} {S : Nat → Prop} {v : Value} {bs : List UInt8} (h : BytesAt w S v bs) : ∃ a c, v = .slice a bs.length c := by
  rcases h with ⟨rfl, rfl⟩ | ⟨ad, c, rfl, _⟩
  · exact ⟨none, 0, rfl⟩
  · exact ⟨some ad, c, rfl⟩

theorem BytesAt.kept {w w' : World} {S S' : Nat → Prop} {v : Value} {bs : List UInt8} (h : BytesAt w S v bs) (hk : ∀ k, S k → w'.heap[k]? = w.heap[k]?) (hs : ∀ k, S k → S' k) : BytesAt w' S' v bs := by
  rcases h with h | ⟨ad, c, h1, h0, h2, h3⟩
  · exact .inl h
  · refine .inr ⟨ad, c, h1, h0, fun hne => hs _ (h2 hne), fun j x hx => ?_⟩
    rw [World.cell?_of_block (w := w) (by rw [add_block]; exact hk _ (h2 (by rintro rfl; simp at hx)))]
    exact h3 j x hx

theorem BytesAt.only {w w' : World} {S T : Nat → Prop} {v : Value} {bs : List UInt8} (h : BytesAt w S v bs) (ho : Only T w w') (hl : ∀ k, S k → k < w.heap.size) (hs : ∀ k, S k → ¬ T k) : BytesAt w' S v bs :=
  h.kept (fun k hk => ho.block k (hl k hk) (hs k hk)) (fun _ h => h)

theorem BytesAt.mono {w : World} {S S' : Nat → Prop} {v : Value} {bs : List UInt8} (h : BytesAt w S v bs) (hs : ∀ k, S k → S' k) : BytesAt w S' v bs := h.kept (fun _ _ => rfl) hs

/-- A row that is owned holds its bytes. -/
theorem BytesAt.of_row {w : World} {base n : Nat} {v : Value} {bs : List UInt8} (h : w.ownsRow base 5 1 v n (bs.map byteV)) : BytesAt w (fun k => v.ownBlock = some k) v bs := by
  have hl : n = bs.length := by have := h.1; simpa using this.symm
  subst hl
  rcases h.2 with ⟨rfl, h0⟩ | ⟨g, cap, cur, rfl, hb, hg, h1⟩
  · exact .inl ⟨rfl, List.eq_nil_of_length_eq_zero h0⟩
  · refine .inr ⟨⟨g, 0, none⟩, cap, rfl, row_cap h, fun _ => rfl, fun j x hx => ?_⟩
    have := h.cells (g := g) rfl j (byteV x) (by rw [List.getElem?_map, hx]; rfl)
    exact this

/-- Bytes in a block that is known whole. -/
theorem BytesAt.of_block {w : World} {g o c : Nat} {L : List Value} {t : TypeId} {bs : List UInt8} (h : w.heap[g]? = some (.cells L.toArray t (0, 0))) (hc : bs.length ≤ c) (hl : ∀ j x, bs[j]? = some x → L[o + j]? = some (byteV x)) :
    BytesAt w (fun k => k = g) (.slice (some ⟨g, o, none⟩) bs.length c) bs := by
  refine .inr ⟨⟨g, o, none⟩, c, rfl, hc, fun _ => rfl, fun j x hx => ?_⟩
  rw [add_lit, cell_of h]
  simpa using hl j x hx

/-- string(b). -/
theorem BytesAt.text {w : World} {S : Nat → Prop} {v : Value} {bs : List UInt8} (h : BytesAt w S v bs) : (convert 25 9 v).run Try.prog w = .ok (.string ⟨bs.toArray⟩) w := by
  rcases h with ⟨rfl, rfl⟩ | ⟨ad, c, rfl, _, _, hc⟩
  · kernel_rfl
  · exact run_convert_bytes_back w 25 9 5 ad c bs Try.underlying25 Try.underlying5 Try.underlying9 fun j hj => hc j bs[j] (List.getElem?_eq_getElem hj)

theorem info_u8 : (Try.prog.info? 5).map (fun i => (i.zero, i.size, i.bytes)) = some (some (.int .u8 0), 1, 1) := by kernel_rfl

theorem run_append_bytes (w : World) (ty : TypeId) (v vx : Value) (n : Nat) (xs : List Value) (hown : w.ownsRow 0 5 1 v n xs) {S : Nat → Prop} {bs : List UInt8} (hsrc : BytesAt w S vx bs) (hlen : n + bs.length ≤ 140737488355328) :
    ∃ a' c' w', (Builtin.append_ #[25, 25] ty #[v, vx]).run Try.prog w = .ok (.slice a' (n + bs.length) c') w' ∧ w'.ownsRow 0 5 1 (.slice a' (n + bs.length) c') (n + bs.length) (xs ++ bs.map byteV) ∧ w.grownBy w' v.ownBlock ∧
      ((Value.slice a' (n + bs.length) c').ownBlock = v.ownBlock ∨ (Value.slice a' (n + bs.length) c').ownBlock = some w.heap.size) := by
  obtain ⟨i, hi, hz0, hz1, hz2⟩ := info_parts info_u8
  rcases hsrc with ⟨rfl, rfl⟩ | ⟨ad, c, rfl, _, _, hcell⟩
  · obtain ⟨a', c', hv⟩ := row_shape hown
    have hrun := run_append_owned_none (P := Try.prog) w 0 25 ty 5 i 1 Try.underlying25 hi v n xs hown
    refine ⟨a', c', w, ?_, by simpa [← hv] using hown, World.grownBy.refl w _, .inl (by simp [hv])⟩
    rw [hrun, hv]
    rfl
  · have h63 : n + bs.length ≤ maxLen := by unfold maxLen; omega
    obtain ⟨v', w', hrun, h2, h3, _, h5⟩ := run_append_own_at (P := Try.prog) w 0 25 ty 5 i _ 1 1 Try.underlying25 hi hz0 hz1 hz2 rfl (by omega) v n xs hown ad bs.length c (bs.map byteV) (by simp)
      (by
        intro j u hu
        rw [List.getElem?_map, Option.map_eq_some_iff] at hu
        obtain ⟨x, hx, rfl⟩ := hu
        exact hcell j x hx)
      (by
        intro u hu
        obtain ⟨x, _, rfl⟩ := List.mem_map.1 hu
        rfl) h63 (by omega) (Nat.zero_le _)
    obtain ⟨a', c', rfl⟩ := row_shape h2
    exact ⟨a', c', w', hrun, h2, h3, h5⟩

theorem wpList_append_bytes (w : World) {ops : Array Oper} {rest : List Oper} {o : Oper} {a : Act} {Q : Exit → Act → World → Prop} (hgd : o.guard = none) (s x : Operand)
    (ho : o.op = .call { callee := .builtin .append, args := #[s, x], argTypes := #[25, 25] }) (v vx : Value) (n : Nat) (xs : List Value) (hs : a.eval s = v) (hx : a.eval x = vx)
    (hown : w.ownsRow 0 5 1 v n xs) {S : Nat → Prop} {bs : List UInt8} (hsrc : BytesAt w S vx bs) (hlen : n + bs.length ≤ 140737488355328)
    (h : ∀ a' c' w', w'.ownsRow 0 5 1 (.slice a' (n + bs.length) c') (n + bs.length) (xs ++ bs.map byteV) → w.grownBy w' v.ownBlock →
      ((Value.slice a' (n + bs.length) c').ownBlock = v.ownBlock ∨ (Value.slice a' (n + bs.length) c').ownBlock = some w.heap.size) → wpList Try.prog ops Q rest (a.put o.dst (.slice a' (n + bs.length) c')) w') :
    wpList Try.prog ops Q (o :: rest) a w := by
  refine wpList_plain hgd fun K hK => ?_
  obtain ⟨a', c', w', hrun, h2, h3, h4⟩ := run_append_bytes w o.type v vx n xs hown hsrc hlen
  unfold Oper.wp execOp
  simp only [ho, resolve, invoke, builtin, Sem.run_bind, Sem.run_pure, Result.andThen_ok, List.map_toArray, List.map_cons, List.map_nil, hs, hx, hrun]
  exact hK _ _ (h a' c' w' h2 h3 h4)

end Go.Proofs.Ytemfelonfokcnaa
