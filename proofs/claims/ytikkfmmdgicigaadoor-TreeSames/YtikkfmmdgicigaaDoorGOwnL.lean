/- Rows of bytes, each in a block of its own; lists of such rows. Conditions: none. -/
import Derived.Test.YtikkfmmdgicigaaDoorGOwn
import Derived.Maps.AppendAt
namespace Go.Proofs.YtikkfmmdgicigaaDoor
open Go.RowKit

/-- Rows of bytes, each in a block of its own, not below b. -/
structure Own (w : World) (b : Nat) (rs : List (Value × List UInt8)) : Prop where
  row : ∀ r ∈ rs, w.ownsRow 0 5 1 r.1 r.2.length (r.2.map byteV)
  low : ∀ r ∈ rs, ∀ g, r.1.ownBlock = some g → b ≤ g
  dis : rs.Pairwise (fun x y => ∀ g, x.1.ownBlock = some g → y.1.ownBlock ≠ some g)

theorem row_ty {w : World} {t : TypeId} {sz n : Nat} {v : Value} {cs : List Value} (h : w.ownsRow 0 t sz v n cs) {q : Nat} (hq : v.ownBlock = some q) : IsTy w q t := by
  rcases h.2 with ⟨rfl, _⟩ | ⟨g, cap, cur, rfl, _, hg, _⟩
  · cases hq
  · have : g = q := Option.some.inj hq
    subst this
    exact ⟨_, hg⟩
theorem Blk.isTy {w : World} {g : Nat} {L : List Value} {t : TypeId} (h : Blk w g L t) : IsTy w g t := ⟨_, h.heap⟩

theorem Own.keep {w w' : World} {b : Nat} {rs : List (Value × List UInt8)} {T : Nat → Prop} (h : Own w b rs) (ho : Only T w w') (hT : ∀ r ∈ rs, ∀ g, r.1.ownBlock = some g → ¬ T g) : Own w' b rs :=
  ⟨fun r hr => ownsRow_keep (h.row r hr) (fun q hq => ho.block q ((h.row r hr).lt q hq).2 (hT r hr q hq)), h.low, h.dis⟩
theorem Own.typed {w w' : World} {b : Nat} {rs : List (Value × List UInt8)} {T : Nat → Prop} (h : Own w b rs) (ho : Only T w w') (hT : ∀ k, T k → ∃ t, IsTy w k t ∧ t ≠ 5) : Own w' b rs :=
  h.keep ho (fun r hr g hg ht => by
    obtain ⟨t, h1, h2⟩ := hT g ht
    exact h2 (h1.eq (row_ty (h.row r hr) hg)))
theorem Own.perm {w : World} {b : Nat} {rs rs' : List (Value × List UInt8)} (h : Own w b rs) (hp : rs.Perm rs') : Own w b rs' :=
  ⟨fun r hr => h.row r (hp.mem_iff.2 hr), fun r hr => h.low r (hp.mem_iff.2 hr), (hp.pairwise_iff (fun h1 g h2 h3 => h1 g h3 h2)).1 h.dis⟩
theorem Own.tail {w : World} {b : Nat} {r : Value × List UInt8} {rs : List (Value × List UInt8)} (h : Own w b (r :: rs)) : Own w b rs :=
  ⟨fun x hx => h.row x (List.mem_cons_of_mem _ hx), fun x hx => h.low x (List.mem_cons_of_mem _ hx), (List.pairwise_cons.1 h.dis).2⟩
theorem Own.sub {w : World} {b : Nat} {rs rs' : List (Value × List UInt8)} (h : Own w b rs) (hs : rs'.Sublist rs) : Own w b rs' :=
  ⟨fun x hx => h.row x (hs.subset hx), fun x hx => h.low x (hs.subset hx), h.dis.sublist hs⟩
theorem Own.fresh {w : World} {b : Nat} {rs : List (Value × List UInt8)} (h : Own w b rs) : Own w b ((.slice none 0 0, []) :: rs) := by
  refine ⟨fun r hr => ?_, fun r hr g hg => ?_, List.pairwise_cons.2 ⟨fun y _ g hg => (by cases hg), h.dis⟩⟩
  · rcases List.mem_cons.1 hr with rfl | hr
    · exact ⟨rfl, .inl ⟨rfl, rfl⟩⟩
    · exact h.row r hr
  · rcases List.mem_cons.1 hr with rfl | hr
    · cases hg
    · exact h.low r hr g hg
/-- A new row beside them. -/
theorem Own.add {w w' : World} {b n : Nat} {rs : List (Value × List UInt8)} {v : Value} {bs : List UInt8} (h : Own w b rs) (ho : Only (fun _ => False) w w') (hr : w'.ownsRow 0 5 1 v n (bs.map byteV)) (hn : n = bs.length) (hb : b ≤ w.heap.size) (hnew : ∀ g, v.ownBlock = some g → w.heap.size ≤ g) : Own w' b ((v, bs) :: rs) := by
  subst hn
  have hk := h.keep ho (fun _ _ _ _ x => x)
  refine ⟨fun r hr' => ?_, fun r hr' g hg => ?_, List.pairwise_cons.2 ⟨fun y hy g hg e => ?_, h.dis⟩⟩
  · rcases List.mem_cons.1 hr' with rfl | hr'
    · exact hr
    · exact hk.row r hr'
  · rcases List.mem_cons.1 hr' with rfl | hr'
    · exact Nat.le_trans hb (hnew g hg)
    · exact h.low r hr' g hg
  · have h1 := hnew g hg
    have h2 := ((h.row y hy).lt g e).2
    omega
/-- The first row grows. -/
theorem Own.grow {w w1 w2 : World} {b n : Nat} {rs : List (Value × List UInt8)} {v v' : Value} {q y : List UInt8} (h : Own w b ((v, q) :: rs)) (ho : Only (fun _ => False) w w1) (hr : w2.ownsRow 0 5 1 v' n (q.map byteV ++ y.map byteV)) (hn : n = q.length + y.length) (hb : b ≤ w.heap.size) (hg : w1.grownBy w2 v.ownBlock)
    (hat : v'.ownBlock = v.ownBlock ∨ v'.ownBlock = some w1.heap.size) : Own w2 b ((v', q ++ y) :: rs) := by
  subst hn
  have hz := ho.size
  obtain ⟨hd1, hd2⟩ := List.pairwise_cons.1 h.dis
  refine ⟨fun r hr' => ?_, fun r hr' g hg' => ?_, List.pairwise_cons.2 ⟨fun z hz' g hg' e => ?_, hd2⟩⟩
  · rcases List.mem_cons.1 hr' with rfl | hr'
    · simp only [List.length_append, List.map_append]; exact hr
    · refine ownsRow_keep (h.row r (List.mem_cons_of_mem _ hr')) (fun k hk => ?_)
      have hlt := ((h.row r (List.mem_cons_of_mem _ hr')).lt k hk).2
      rw [hg.block k (by omega) (fun e => hd1 r hr' k e.symm hk)]
      exact ho.block k hlt (fun x => x)
  · rcases List.mem_cons.1 hr' with rfl | hr'
    · rcases hat with e | e
      · exact h.low _ (List.mem_cons_self ..) g (by rw [← e]; exact hg')
      · have e1 := Option.some.inj (hg'.symm.trans e)
        omega
    · exact h.low r (List.mem_cons_of_mem _ hr') g hg'
  · rcases hat with e1 | e1
    · exact hd1 z hz' g (by rw [← e1]; exact hg') e
    · have e2 := Option.some.inj (hg'.symm.trans e1)
      have := ((h.row z (List.mem_cons_of_mem _ hz')).lt g e).2
      omega

/-- A list of rows; its own block is not below b. -/
structure LRow (b : Nat) (wr : World) (ov : Value) (us : List Value) : Prop where
  row : wr.ownsRow 0 39 1 ov us.length us
  own : ∀ q, ov.ownBlock = some q → b ≤ q
theorem LRow.nil (b : Nat) (w : World) : LRow b w (.slice none 0 0) [] := ⟨⟨rfl, .inl ⟨rfl, rfl⟩⟩, fun _ h => (by cases h)⟩
theorem LRow.keep {b : Nat} {wr w' : World} {T : Nat → Prop} {ov : Value} {us : List Value} (h : LRow b wr ov us) (ho : Only T wr w') (hT : ∀ k, T k → ∃ t, IsTy wr k t ∧ t ≠ 39) : LRow b w' ov us :=
  ⟨ownsRow_keep h.row (fun q hq => ho.block q (h.row.lt q hq).2 (fun ht => by
    obtain ⟨t, h1, h2⟩ := hT q ht
    exact h2 (h1.eq (row_ty h.row hq)))), h.own⟩
theorem LRow.quiet {b : Nat} {wr w' : World} {ov : Value} {us : List Value} (h : LRow b wr ov us) (ho : Only (fun _ => False) wr w') : LRow b w' ov us := h.keep ho (fun _ x => x.elim)

theorem info_rowB : (Tryd.prog.info? 39).map (fun i => (i.zero, i.size, i.bytes)) = some (some (.slice none 0 0), 1, 24) := by kernel_rfl

/-- A row of values, as append takes it. -/
def ValsIn (w : World) (v : Value) (us : List Value) : Prop := (v = .slice none 0 0 ∧ us = []) ∨ ∃ ad c, v = .slice (some ad) us.length c ∧ ∀ j u, us[j]? = some u → w.cell? (ad.add j) = some u
theorem LRow.vals {b : Nat} {wr : World} {ov : Value} {us : List Value} (h : LRow b wr ov us) : ValsIn wr ov us := by
  rcases h.row.2 with ⟨rfl, h0⟩ | ⟨g, cap, cur, rfl, _⟩
  · exact .inl ⟨rfl, List.eq_nil_of_length_eq_zero h0⟩
  · refine .inr ⟨_, cap, rfl, fun j u hu => ?_⟩
    exact h.row.cells (g := g) rfl j u hu
theorem one_val (w : World) (v : Value) : ValsIn (w.alloc (.cells #[v] 39)) (.slice (some ⟨w.heap.size, 0, none⟩) 1 1) [v] := by
  refine .inr ⟨_, 1, rfl, fun j u hu => ?_⟩
  match j, hu with
  | 0, hu => cases hu; rw [add_lit, cell_of (heap_alloc_last _ _)]; rfl

theorem wpList_append_vals (w : World) {ops : Array Oper} {rest : List Oper} {o : Oper} {a : Act} {Q : Exit → Act → World → Prop} (hgd : o.guard = none) (s x : Operand)
    (ho : o.op = .call { callee := .builtin .append, args := #[s, x], argTypes := #[55, 55] }) (v vx : Value) (n : Nat) (xs : List Value) (hs : a.eval s = v) (hx : a.eval x = vx)
    (hown : w.ownsRow 0 39 1 v n xs) {us : List Value} (hsrc : ValsIn w vx us) (hone : ∀ u ∈ us, u.oneCell' = true) (hlen : n + us.length ≤ 1099511627776)
    (h : ∀ a' c' w', w'.ownsRow 0 39 1 (.slice a' (n + us.length) c') (n + us.length) (xs ++ us) → w.grownBy w' v.ownBlock →
      ((Value.slice a' (n + us.length) c').ownBlock = v.ownBlock ∨ (Value.slice a' (n + us.length) c').ownBlock = some w.heap.size) → (a' = none → v = .slice none 0 0) → wpList Tryd.prog ops Q rest (a.put o.dst (.slice a' (n + us.length) c')) w') :
    wpList Tryd.prog ops Q (o :: rest) a w := by
  obtain ⟨i, hi, hz0, hz1, hz2⟩ := info_parts info_rowB
  rcases hsrc with ⟨rfl, rfl⟩ | ⟨ad, c, rfl, hcell⟩
  · obtain ⟨a', c', hv⟩ := row_shape hown
    refine wpList_plain hgd fun K hK => ?_
    have hrun := run_append_owned_none (P := Tryd.prog) w 0 55 o.type 39 i 1 Tryd.underlying55 hi v n xs hown
    unfold Oper.wp execOp
    simp only [ho, resolve, invoke, builtin, Sem.run_bind, Sem.run_pure, Result.andThen_ok, List.map_toArray, List.map_cons, List.map_nil, hs, hx, hrun]
    have := h a' c' w (by simpa [← hv] using hown) (World.grownBy.refl w _) (.inl (by simp [hv])) (fun e => by
      subst e
      rcases hown.2 with ⟨h1, _⟩ | ⟨g, cap, cur, h1, _⟩
      · exact h1
      · rw [hv] at h1; cases h1)
    simp only [List.length_nil, Nat.add_zero, ← hv] at this
    exact hK _ _ this
  · refine wpList_append_own_at w hgd s x 55 ho 0 39 i _ 1 24 Tryd.underlying55 hi hz0 hz1 hz2 rfl (by omega) v n xs hs hown ad us.length c us hx (by simp) hcell hone (by unfold maxLen; omega) (by omega) (Nat.zero_le _) (fun v' w' h1 h2 h3 h4 => ?_)
    obtain ⟨a', c', rfl⟩ := row_shape h1
    refine h a' c' w' h1 h2 h4 (fun e => ?_)
    subst e
    rcases h1.2 with ⟨e1, _⟩ | ⟨g, cap, cur, e1, _⟩
    · exact (h3.1 e1).1
    · cases e1
/-- The list grows. -/
theorem LRow.app {b : Nat} {wr w1 w2 : World} {ov : Value} {us ys : List Value} {a : Option Addr} {n c : Nat} (h : LRow b wr ov us) (ho : Only (fun _ => False) wr w1) (hb : b ≤ wr.heap.size) (hn : n = us.length + ys.length) (hr : w2.ownsRow 0 39 1 (.slice a n c) n (us ++ ys))
    (hat : (Value.slice a n c).ownBlock = ov.ownBlock ∨ (Value.slice a n c).ownBlock = some w1.heap.size) : LRow b w2 (.slice a n c) (us ++ ys) := by
  subst hn
  have hz := ho.size
  refine ⟨by rw [List.length_append]; exact hr, fun q hq => ?_⟩
  rcases hat with e | e
  · exact h.own q (by rw [← e]; exact hq)
  · have := Option.some.inj (hq.symm.trans e)
    omega

end Go.Proofs.YtikkfmmdgicigaaDoor
