/- Pieces of a row of bytes, lists of them. Conditions: none. -/
import Derived.Test.YtlfbdhgppmmahaaWiField
import Derived.Test.YtlfbdhgppmmahaaWiPack
namespace Go.Proofs.Ytlfbdhgppmmahaa
open Go.RowKit

/-- Block k holds cells of type t. -/
def TyAt (w : World) (k : Nat) (t : TypeId) : Prop := ∃ cur, w.heap[k]? = some (.cells cur t (0, 0))
theorem TyAt.eq {w : World} {k : Nat} {t u : TypeId} (h : TyAt w k t) (g : TyAt w k u) : t = u := by
  obtain ⟨c, h⟩ := h; obtain ⟨d, g⟩ := g
  rw [h] at g
  injection g with g
  injection g with _ g
theorem Blk.ty {w : World} {k : Nat} {L : List Value} {t : TypeId} (h : Blk w k L t) : TyAt w k t := ⟨_, h.heap⟩
theorem TyAt.lt {w : World} {k : Nat} {t : TypeId} (h : TyAt w k t) : k < w.heap.size := lt_of_heap h.choose_spec

theorem ReaderAt.ty {w : World} {b g o : Nat} {st : Option (List UInt8)} (h : ReaderAt w b g o st) : TyAt w b 57 := by
  cases st with
  | none => exact Blk.ty h
  | some r => exact h.choose_spec.1.ty

/-- What turns is of another type. -/
theorem RestAt.typed {w w' : World} {T : Nat → Prop} {g o : Nat} {v : Value} {rest : List UInt8} (h : RestAt w g o v rest) (ho : Only T w w') (hT : ∀ k, T k → ∃ t, TyAt w k t ∧ t ≠ 5) : RestAt w' g o v rest := by
  obtain ⟨a, c, h1, h2, h0, h3⟩ := h
  refine ⟨a, c, h1, h2, h0, fun hne => ?_⟩
  obtain ⟨e, cur, hg, hc⟩ := h3 hne
  refine ⟨e, cur, (ho.block g (lt_of_heap hg) fun ht => ?_).trans hg, hc⟩
  obtain ⟨t, h1, h2⟩ := hT g ht
  exact h2 (h1.eq ⟨_, hg⟩)

theorem ReaderAt.typed {w w' : World} {T : Nat → Prop} {b g o : Nat} {st : Option (List UInt8)} (h : ReaderAt w b g o st) (ho : Only T w w') (hT : ∀ k, T k → ∃ t, TyAt w k t ∧ t ≠ 5 ∧ t ≠ 57) : ReaderAt w' b g o st := by
  have hb : ¬ T b := fun ht => by
    obtain ⟨t, h1, _, h2⟩ := hT b ht
    exact h2 (h1.eq h.ty)
  cases st with
  | none => exact Blk.keep h ho hb
  | some r =>
    obtain ⟨v, h1, h2⟩ := h
    exact ⟨v, h1.keep ho hb, h2.typed ho (fun k hk => by obtain ⟨t, q1, q2, _⟩ := hT k hk; exact ⟨t, q1, q2⟩)⟩

/-- A piece: the value, the place, the bytes. -/
structure Pc where
  v : Value
  o : Nat
  b : List UInt8

structure PcAt (w : World) (g : Nat) (p : Pc) : Prop where
  shape : ∃ a, p.v = .slice a p.b.length p.b.length
  rest : RestAt w g p.o p.v p.b

/-- Pieces one behind the other, ahead of the place o. -/
structure Pcs (w : World) (g o : Nat) (ps : List Pc) : Prop where
  at_ : ∀ p ∈ ps, PcAt w g p
  top : ∀ p ∈ ps, p.o + p.b.length ≤ o
  apart : ps.Pairwise (fun p q => p.o + p.b.length ≤ q.o)

theorem Pcs.nil (w : World) (g o : Nat) : Pcs w g o [] := ⟨fun _ h => (by cases h), fun _ h => (by cases h), List.Pairwise.nil⟩
theorem Pcs.snoc {w : World} {g o o' : Nat} {ps : List Pc} {p : Pc} (h : Pcs w g o ps) (hp : PcAt w g p) (h1 : o ≤ p.o) (h2 : p.o + p.b.length ≤ o') : Pcs w g o' (ps ++ [p]) := by
  refine ⟨fun q hq => ?_, fun q hq => ?_, List.pairwise_append.2 ⟨h.apart, List.pairwise_singleton _ _, fun a ha b hb => ?_⟩⟩
  · rcases List.mem_append.1 hq with hq | hq
    · exact h.at_ q hq
    · rw [List.mem_singleton.1 hq]; exact hp
  · rcases List.mem_append.1 hq with hq | hq
    · have := h.top q hq; omega
    · rw [List.mem_singleton.1 hq]; exact h2
  · rw [List.mem_singleton.1 hb]; have := h.top a ha; omega
theorem Pcs.typed {w w' : World} {T : Nat → Prop} {g o : Nat} {ps : List Pc} (h : Pcs w g o ps) (ho : Only T w w') (hT : ∀ k, T k → ∃ t, TyAt w k t ∧ t ≠ 5) : Pcs w' g o ps :=
  ⟨fun p hp => ⟨(h.at_ p hp).shape, (h.at_ p hp).rest.typed ho hT⟩, h.top, h.apart⟩
theorem Pcs.only {w w' : World} {T : Nat → Prop} {g o : Nat} {ps : List Pc} (h : Pcs w g o ps) (ho : Only T w w') (hn : ¬ T g) : Pcs w' g o ps :=
  ⟨fun p hp => ⟨(h.at_ p hp).shape, (h.at_ p hp).rest.only ho hn⟩, h.top, h.apart⟩
theorem Pcs.mono {w : World} {g o o' : Nat} {ps : List Pc} (h : Pcs w g o ps) (ho : o ≤ o') : Pcs w g o' ps :=
  ⟨h.at_, fun p hp => Nat.le_trans (h.top p hp) ho, h.apart⟩

/-- A list of rows that the call itself has made. -/
structure Lst (w wr : World) (ov : Value) (us : List Value) : Prop where
  row : wr.ownsRow 0 22 1 ov us.length us
  own : ∀ q, ov.ownBlock = some q → w.heap.size ≤ q
  only : Only (fun _ => False) w wr

theorem Lst.nil (w wr : World) (ho : Only (fun _ => False) w wr) : Lst w wr (.slice none 0 0) [] := ⟨⟨rfl, .inl ⟨rfl, rfl⟩⟩, fun _ h => (by cases h), ho⟩
theorem Lst.ty {w wr : World} {ov : Value} {us : List Value} (h : Lst w wr ov us) {q : Nat} (hq : ov.ownBlock = some q) : TyAt wr q 22 := by
  rcases h.row.2 with ⟨rfl, _⟩ | ⟨g, cap, cur, rfl, _, hg, _⟩
  · cases hq
  · have : g = q := Option.some.inj hq
    subst this
    exact ⟨_, hg⟩
theorem Lst.shape {w wr : World} {ov : Value} {us : List Value} (h : Lst w wr ov us) : ∃ a c, ov = .slice a us.length c := row_shape h.row
theorem Lst.typed {w wr w' : World} {T : Nat → Prop} {ov : Value} {us : List Value} (h : Lst w wr ov us) (ho : Only T wr w') (hT : ∀ k, T k → w.heap.size ≤ k ∧ ∃ t, TyAt wr k t ∧ t ≠ 22) : Lst w w' ov us := by
  refine ⟨ownsRow_keep h.row (fun q hq => ho.block q (h.row.lt q hq).2 fun ht => ?_), h.own, h.only.andThen ho (fun k hk e => by have := (hT k e).1; omega)⟩
  obtain ⟨_, t, h1, h2⟩ := hT q ht
  exact h2 (h1.eq (h.ty hq))
theorem Lst.app {w wr w1 w2 : World} {ov u : Value} {us : List Value} {a : Option Addr} {c : Nat} (h : Lst w wr ov us) (ho : Only (fun _ => False) wr w1) (hr : w2.ownsRow 0 22 1 (.slice a (us.length + 1) c) (us.length + 1) (us ++ [u])) (hg : w1.grownBy w2 ov.ownBlock) (hat : (Value.slice a (us.length + 1) c).ownBlock = ov.ownBlock ∨ (Value.slice a (us.length + 1) c).ownBlock = some w1.heap.size) :
    Lst w w2 (.slice a (us.length + 1) c) (us ++ [u]) := by
  have hz := ho.size
  have hz0 := h.only.size
  refine ⟨by simpa using hr, fun q hq => ?_, ?_⟩
  · rcases hat with e | e
    · exact h.own q (by rw [← e]; exact hq)
    · rw [hq] at e
      have e1 : q = w1.heap.size := Option.some.inj e
      omega
  · refine (h.only.trans ho).andThen ((Only.of_grown hg).mono (S' := fun q => some q = ov.ownBlock) (fun q _ h => h)) (fun k hk e => ?_)
    have := h.own k e.symm
    omega
theorem Lst.keep {w wr w1 : World} {ov : Value} {us : List Value} (h : Lst w wr ov us) (ho : Only (fun _ => False) wr w1) : Lst w w1 ov us :=
  ⟨ownsRow_keep h.row (fun q hq => ho.block q (h.row.lt q hq).2 (fun x => x)), h.own, h.only.trans ho⟩

/-- A list of pieces, as parts. -/
theorem Lst.parts {w wr : World} {g o : Nat} {ov : Value} {ps : List Pc} (h : Lst w wr ov (ps.map (·.v))) (hp : Pcs wr g o ps) : PartsAt wr (fun k => k < wr.heap.size) ov (ps.map (·.b)) := by
  obtain ⟨a, c, rfl⟩ := h.shape
  refine ⟨a, c, by simp, by have := row_cap h.row; simpa using this, fun i hi => ?_⟩
  simp only [List.length_map] at hi
  rcases h.row.2 with ⟨_, h0⟩ | ⟨q, cap, cur, e, _⟩
  · rw [List.length_map] at h0; omega
  · obtain ⟨rfl, _, rfl⟩ := Value.slice.inj e
    refine ⟨⟨q, 0, none⟩, ps[i].v, rfl, (h.row.lt q rfl).2, ?_, ?_⟩
    · exact h.row.cells (g := q) rfl i ps[i].v (by simp [hi])
    · have := (hp.at_ ps[i] (List.getElem_mem hi)).rest.bytes.mono (S' := fun k => k < wr.heap.size) (fun k hk => hk.2)
      simpa using this

theorem info_bytes' : (Try.prog.info? 22).map (fun i => (i.zero, i.size, i.bytes)) = some (some (.slice none 0 0), 1, 24) := by kernel_rfl

end Go.Proofs.Ytlfbdhgppmmahaa
