/- What RabinStreams keeps. Conditions: none. -/
import Derived.Test.YtobiajjcnpflgaaRbWrite
import Derived.Test.YtobiajjcnpflgaaGApart
import Derived.Test.YtobiajjcnpflgaaGOver
import Derived.Test.YtobiajjcnpflgaaWiSum
namespace Go.Proofs.Ytobiajjcnpflgaa
open Go.RowKit

theorem Blk.typed {w w' : World} {T : Nat → Prop} {g : Nat} {L : List Value} {t : TypeId} (h : Blk w g L t) (ho : Only T w w') (hT : ∀ k, T k → ∃ t', IsTy w k t' ∧ t' ≠ t) : Blk w' g L t :=
  h.keep ho (fun ht => by obtain ⟨t', h1, h2⟩ := hT g ht; exact h2 (h1.eq h.isTy))
theorem ChAt.typed {w w' : World} {T : Nat → Prop} {g r : Nat} {c : Rb.Cfg} {lv : Value} (h : ChAt w g c r lv) (ho : Only T w w') (hT : ∀ k, T k → ∃ t', IsTy w k t' ∧ t' ≠ 78) : ChAt w' g c r lv :=
  h.keep ho (fun ht => by obtain ⟨t', h1, h2⟩ := hT g ht; exact h2 (h1.eq h.ty))

/-- All but the rows of bytes. -/
structure Rest (w wr : World) (g : Nat) (c : Rb.Cfg) (r : Nat) (lv gv : Value) (us : List Value) : Prop where
  ch : ChAt wr g c r lv
  got : LRow w.heap.size wr gv us
  box : Blk wr w.heap.size (setL c.set) 24
  gw : w.heap.size ≤ g
  only : Quiet w wr

section
variable {w wr w' : World} {g : Nat} {c : Rb.Cfg} {r r' : Nat} {lv lv' gv gv' : Value} {us ys : List Value}

theorem Rest.u8 {T : Nat → Prop} (h : Rest w wr g c r lv gv us) (ho : Only T wr w') (hT : ∀ k, T k → IsTy wr k 5 ∧ w.heap.size ≤ k) : Rest w w' g c r lv gv us :=
  ⟨h.ch.typed ho (fun k hk => ⟨5, (hT k hk).1, by decide⟩), h.got.keep ho (fun k hk => ⟨5, (hT k hk).1, by decide⟩), h.box.typed ho (fun k hk => ⟨5, (hT k hk).1, by decide⟩), h.gw, h.only.andThen ho (fun k hk e => by have := (hT k e).2; omega)⟩
theorem Rest.quiet (h : Rest w wr g c r lv gv us) (ho : Quiet wr w') : Rest w w' g c r lv gv us := h.u8 ho (fun _ x => x.elim)
theorem Rest.write {b : Nat} {vs0 nw : List (Value × List UInt8)} {ov : Value} {q' : List UInt8} (h : Rest w wr g c r lv gv us) (hW : WrAt wr w' g c b vs0 lv ov r' q' nw lv') (hl : ∀ k, lv.ownBlock = some k → IsTy wr k 5 ∧ w.heap.size ≤ k) : Rest w w' g c r' lv' gv us := by
  have hT : ∀ k, (k = g ∨ lv.ownBlock = some k) → (IsTy wr k 78 ∨ IsTy wr k 5) ∧ w.heap.size ≤ k := fun k hk => by
    rcases hk with rfl | hk
    · exact ⟨.inl h.ch.ty, h.gw⟩
    · exact ⟨.inr (hl k hk).1, (hl k hk).2⟩
  refine ⟨hW.ch, h.got.keep hW.only (fun k hk => ?_), h.box.typed hW.only (fun k hk => ?_), h.gw, h.only.andThen hW.only (fun k hk e => by have := (hT k e).2; omega)⟩
  · rcases (hT k hk).1 with e | e
    · exact ⟨78, e, by decide⟩
    · exact ⟨5, e, by decide⟩
  · rcases (hT k hk).1 with e | e
    · exact ⟨78, e, by decide⟩
    · exact ⟨5, e, by decide⟩
theorem Rest.gty (h : Rest w wr g c r lv gv us) : ∀ k, some k = gv.ownBlock → IsTy wr k 25 := fun _ hk => row_ty h.got.row hk.symm
theorem Rest.more {a : Option Addr} {n k : Nat} (h : Rest w wr g c r lv gv us) (hn : n = us.length + ys.length) (hr : w'.ownsRow 0 25 1 (.slice a n k) n (us ++ ys)) (hg : wr.grownBy w' gv.ownBlock) (hat : (Value.slice a n k).ownBlock = gv.ownBlock ∨ (Value.slice a n k).ownBlock = some wr.heap.size) :
    Rest w w' g c r lv (.slice a n k) (us ++ ys) :=
  ⟨h.ch.typed (Only.of_grown hg) (fun j hj => ⟨25, h.gty j hj, by decide⟩), h.got.app (Only.refl _ _) h.only.size hn hr hat, h.box.typed (Only.of_grown hg) (fun j hj => ⟨25, h.gty j hj, by decide⟩), h.gw,
   h.only.andThen (Only.of_grown hg) (fun j hj e => by have := h.got.own j e.symm; omega)⟩
theorem Own.more {b : Nat} {rs : List (Value × List UInt8)} (ho : Own wr b rs) (h : Rest w wr g c r lv gv us) (hg : wr.grownBy w' gv.ownBlock) : Own w' b rs :=
  ho.typed (Only.of_grown hg) (fun j hj => ⟨25, h.gty j hj, by decide⟩)
end

theorem Own.one {w : World} {b : Nat} {rs : List (Value × List UInt8)} (h : Own w b rs) : ∀ u ∈ rs.map (·.1), u.oneCell' = true := by
  intro u hu
  obtain ⟨r, hr, rfl⟩ := List.mem_map.1 hu
  obtain ⟨a, k, e⟩ := row_shape (h.row r hr)
  rw [e]; rfl
theorem Own.shapes {w : World} {b : Nat} {rs : List (Value × List UInt8)} (h : Own w b rs) {i : Nat} (hi : i < rs.length) : ∃ a k, rs[i].1 = .slice a rs[i].2.length k := row_shape (h.row _ (List.getElem_mem hi))
theorem Own.ty {w : World} {b : Nat} {r : Value × List UInt8} {rs : List (Value × List UInt8)} (h : Own w b (r :: rs)) : ∀ k, r.1.ownBlock = some k → IsTy w k 5 ∧ b ≤ k := fun k hk => ⟨row_ty (h.row r (List.mem_cons_self ..)) hk, h.low r (List.mem_cons_self ..) k hk⟩
theorem Own.drop {w w' : World} {b : Nat} {r : Value × List UInt8} {rs : List (Value × List UInt8)} (h : Own w b (r :: rs)) (ho : Only (fun k => r.1.ownBlock = some k) w w') : Own w' b rs :=
  h.tail.keep ho (fun y hy g hg e => (List.pairwise_cons.1 h.dis).1 y hy g e hg)
theorem Own.bytes {w : World} {b : Nat} {rs : List (Value × List UInt8)} (h : Own w b rs) {r : Value × List UInt8} (hr : r ∈ rs) : BytesAt w (fun k => r.1.ownBlock = some k) r.1 r.2 := BytesAt.of_row (h.row r hr)
/-- Two lists, turned. -/
theorem perm3 {α : Type} (x y z : α) (l : List α) : (x :: y :: z :: l).Perm (z :: x :: y :: l) := by
  have h1 : (x :: y :: z :: l).Perm (x :: z :: y :: l) := List.Perm.cons x (List.Perm.swap z y l)
  exact h1.trans (List.Perm.swap z x (y :: l))

namespace Rb
theorem joined_piece {α : Type} : ∀ (L : List (List α)) (i : Nat) (h : i < L.length), (L.flatten.take ((L.take i).flatten.length + L[i].length)).drop (L.take i).flatten.length = L[i]
  | x :: L, 0, _ => by simp
  | x :: L, i + 1, h => by
    have ih := joined_piece L i (by simpa using h)
    simp only [List.take_succ_cons, List.flatten_cons, List.length_append, List.getElem_cons_succ]
    rw [Nat.add_assoc, List.take_length_add_append, List.drop_length_add_append, ih]
theorem lens_take {L : List (List UInt8)} (i : Nat) : (L.take i).flatten.length = ((L.map List.length).take i).sum := by
  rw [List.length_flatten, ← List.map_take]
theorem lens_next {L : List (List UInt8)} {i : Nat} (h : i < L.length) : (L.take (i + 1)).flatten.length = (L.take i).flatten.length + L[i].length := by
  rw [List.take_succ_eq_append_getElem h, List.flatten_append, List.length_append]; simp
theorem lens_le {L : List (List UInt8)} (i : Nat) : (L.take i).flatten.length ≤ L.flatten.length := flatten_take_le L i
end Rb

/-- Two rows, side by side in a new block; S holds the rows' blocks. -/
theorem parts_two {W : World} {S : Nat → Prop} {v u : Value} {x y : List UInt8} (hv : BytesAt W S v x) (hu : BytesAt W S u y) (hS : ∀ k, S k → k < W.heap.size) :
    PartsAt (W.alloc (.cells #[v, u] 25)) (fun k => S k ∨ k = W.heap.size) (.slice (some ⟨W.heap.size, 0, none⟩) 2 2) [x, y] := by
  have ho : Only (fun _ => False) W (W.alloc (.cells #[v, u] 25)) := Only.alloc _
  have hb := Blk.new W [v, u] 25
  refine ⟨some ⟨W.heap.size, 0, none⟩, 2, rfl, Nat.le_refl _, fun i hi => ?_⟩
  match i, hi with
  | 0, _ => exact ⟨_, v, rfl, .inr rfl, by rw [add_lit]; exact hb.cell 0, (hv.only ho hS (fun _ _ x => x)).mono (fun _ h => .inl h)⟩
  | 1, _ => exact ⟨_, u, rfl, .inr rfl, by rw [add_lit]; exact hb.cell 1, (hu.only ho hS (fun _ _ x => x)).mono (fun _ h => .inl h)⟩
theorem parts_one {W : World} {S : Nat → Prop} {v : Value} {x : List UInt8} (hv : BytesAt W S v x) (hS : ∀ k, S k → k < W.heap.size) :
    PartsAt (W.alloc (.cells #[v] 25)) (fun k => S k ∨ k = W.heap.size) (.slice (some ⟨W.heap.size, 0, none⟩) 1 1) [x] := by
  have ho : Only (fun _ => False) W (W.alloc (.cells #[v] 25)) := Only.alloc _
  have hb := Blk.new W [v] 25
  refine ⟨some ⟨W.heap.size, 0, none⟩, 1, rfl, Nat.le_refl _, fun i hi => ?_⟩
  match i, hi with
  | 0, _ => exact ⟨_, v, rfl, .inr rfl, by rw [add_lit]; exact hb.cell 0, (hv.only ho hS (fun _ _ x => x)).mono (fun _ h => .inl h)⟩

theorem slice_lg {g n cap j : Nat} (h : j ≤ n) (hn : n < cap) (w : World) : (Instr.slice 25 (.slice (some ⟨g, 0, none⟩) n cap) (some (.int .i64 (j : Int))) none none).run Try.prog w = .ok (.slice (some ⟨g, j, none⟩) (n - j) (cap - j)) w := by
  rw [run_slice_l (ht := by kernel_rfl) (h0 := by omega) (h1 := by omega)]
  have hsz : (sizeOf (Try.prog.elem 25)).run Try.prog w = .ok 1 w := by kernel_rfl
  rw [hsz]
  simp [Result.andThen, sliced, add_lit]
  omega
theorem BytesAt.pre7 {w : World} {S : Nat → Prop} {a : Option Addr} {n c k : Nat} {bs : List UInt8} (h : BytesAt w S (.slice a n c) bs) (hk : k ≤ bs.length) : BytesAt w S (.slice a k c) (bs.take k) := by
  have hl : (bs.take k).length = k := by rw [List.length_take]; omega
  rcases h with ⟨e, rfl⟩ | ⟨ad, c', e, hcap, hS, hcell⟩
  · obtain ⟨rfl, rfl, rfl⟩ := Value.slice.inj e
    have : k = 0 := by simpa using hk
    subst this
    exact .inl ⟨rfl, rfl⟩
  · obtain ⟨rfl, rfl, rfl⟩ := Value.slice.inj e
    refine .inr ⟨ad, c, by rw [hl], by omega, fun hne => hS (by rintro rfl; simp at hne), fun j x hx => hcell j x ?_⟩
    rw [List.getElem?_take] at hx
    split at hx
    · exact hx
    · cases hx
theorem BytesAt.suf {w : World} {S : Nat → Prop} {g n c j : Nat} {bs : List UInt8} (h : BytesAt w S (.slice (some ⟨g, 0, none⟩) n c) bs) (hj : j ≤ n) : BytesAt w S (.slice (some ⟨g, j, none⟩) (n - j) (c - j)) (bs.drop j) := by
  rcases h with ⟨e, _⟩ | ⟨ad, c', e, hcap, hS, hcell⟩
  · cases e
  · obtain ⟨e1, rfl, rfl⟩ := Value.slice.inj e
    obtain rfl := Option.some.inj e1
    refine .inr ⟨⟨g, j, none⟩, c - j, by rw [List.length_drop], by rw [List.length_drop]; omega, fun hne => hS (by rintro rfl; simp at hne), fun k x hx => ?_⟩
    have := hcell (j + k) x (by rw [← hx, List.getElem?_drop])
    rw [add_lit, Nat.zero_add] at this
    rwa [add_lit]

/-- The rows and lists of the law, as Apart wants them. -/
theorem apart_of {w : World} {b n G gc : Nat} {rs : List (Value × List UInt8)} (h : Own w b rs) (hg : LRow b w (.slice (some ⟨G, 0, none⟩) n gc) (rs.map (·.1))) (hlen : ∀ r ∈ rs, r.2.length ≤ 1048576) :
    Rows1 w G (rs.map fun r => (r.1, r.2.length)) 0 ∧ Dis G (rs.map fun r => (r.1, r.2.length)) := by
  have hgt : IsTy w G 25 := row_ty hg.row rfl
  refine ⟨⟨fun i hi => ?_, fun i hi => ?_, hgt.lt⟩, ⟨fun i j hi hj hne g h1 h2 => ?_, fun i hi h1 => ?_, fun i hi => ?_⟩⟩
  · have hi' : i < rs.length := by simpa using hi
    refine ⟨rs[i].2.map byteV, ?_, fun h => absurd h (by omega)⟩
    simpa using h.row rs[i] (List.getElem_mem hi')
  · have hi' : i < rs.length := by simpa using hi
    have := hg.row.cells (g := G) rfl i rs[i].1 (by simp [hi'])
    rw [add_lit, Nat.zero_add] at this
    simpa using this
  · have hi' : i < rs.length := by simpa using hi
    have hj' : j < rs.length := by simpa using hj
    simp only [List.getElem_map] at h1 h2
    rcases Nat.lt_or_ge i j with hlt | hge
    · exact List.pairwise_iff_getElem.1 h.dis i j hi' hj' hlt g h1 h2
    · exact List.pairwise_iff_getElem.1 h.dis j i hj' hi' (by omega) g h2 h1
  · have hi' : i < rs.length := by simpa using hi
    simp only [List.getElem_map] at h1
    have := (row_ty (h.row rs[i] (List.getElem_mem hi')) h1).eq hgt
    exact absurd this (by decide)
  · have hi' : i < rs.length := by simpa using hi
    simpa using hlen rs[i] (List.getElem_mem hi')

end Go.Proofs.Ytobiajjcnpflgaa
