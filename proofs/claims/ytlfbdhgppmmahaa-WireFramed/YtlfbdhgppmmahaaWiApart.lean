/- amphoranum.Apart of pieces of one row. Conditions: pieces that are few and short. -/
import Derived.Test.YtlfbdhgppmmahaaWiPcs
namespace Go.Proofs.Ytlfbdhgppmmahaa
open Go.RowKit

def mk (k j : Nat) : UInt8 := UInt8.ofNat (31 * k + 7 * j + 1)
def marks (k n : Nat) : List UInt8 := (List.range n).map (mk k)
theorem mkV (k j : Nat) : byteV (mk k j) = .int .u8 ((31 * (k : Int) + 7 * (j : Int) + 1) % 256) := by
  unfold byteV mk
  rw [byte_of_nat]
  congr 1
theorem marks_len (k n : Nat) : (marks k n).length = n := by simp [marks]
theorem marks_succ (k n : Nat) : marks k (n + 1) = marks k n ++ [mk k n] := by simp [marks, List.range_succ]
theorem marks_get {k n j : Nat} (h : j < n) : (marks k n)[j]? = some (mk k j) := by simp [marks, h]

theorem Pcs.of {w : World} {g O : Nat} {qs : List Pc} (h1 : ∀ i (h : i < qs.length), PcAt w g qs[i]) (h2 : ∀ i (h : i < qs.length), qs[i].o + qs[i].b.length ≤ O) (h3 : (qs.map fun p => (p.o, p.b.length)).Pairwise (fun a b => a.1 + a.2 ≤ b.1)) : Pcs w g O qs := by
  refine ⟨fun p hp => ?_, fun p hp => ?_, List.pairwise_map.1 h3⟩
  · obtain ⟨i, hi, rfl⟩ := List.getElem_of_mem hp; exact h1 i hi
  · obtain ⟨i, hi, rfl⟩ := List.getElem_of_mem hp; exact h2 i hi
theorem Pcs.keys {w : World} {g O : Nat} {qs : List Pc} (h : Pcs w g O qs) : (qs.map fun p => (p.o, p.b.length)).Pairwise (fun a b => a.1 + a.2 ≤ b.1) := List.pairwise_map.2 h.apart
theorem Pcs.get {w : World} {g O : Nat} {qs : List Pc} (h : Pcs w g O qs) {i : Nat} (hi : i < qs.length) : PcAt w g qs[i] := h.at_ _ (List.getElem_mem hi)

/-- A byte of one piece is written. -/
theorem Pcs.poke {w : World} {g O : Nat} {qs : List Pc} (h : Pcs w g O qs) {k j : Nat} (hk : k < qs.length) (hj : j < qs[k].b.length) (x : UInt8) :
    (∃ y, w.cell? ⟨g, qs[k].o + j, none⟩ = some (byteV y)) ∧ w.frozen? ⟨g, qs[k].o + j, none⟩ = false ∧ TyAt w g 5 ∧ qs[k].v = .slice (some ⟨g, qs[k].o, none⟩) qs[k].b.length qs[k].b.length ∧
      Pcs (w.setCell ⟨g, qs[k].o + j, none⟩ (byteV x)) g O (qs.set k ⟨qs[k].v, qs[k].o, qs[k].b.set j x⟩) := by
  obtain ⟨⟨a, hv⟩, a', c', e, hc, hz, hr⟩ := h.get hk
  have hne : qs[k].b ≠ [] := by intro e; rw [e] at hj; simp at hj
  obtain ⟨rfl, cur, hg, hcur⟩ := hr hne
  rw [hv] at e
  obtain ⟨rfl, _, _⟩ := Value.slice.inj e
  have hx := hcur j _ (List.getElem?_eq_getElem hj)
  have hkeys : (qs.set k ⟨qs[k].v, qs[k].o, qs[k].b.set j x⟩).map (fun p => (p.o, p.b.length)) = qs.map fun p => (p.o, p.b.length) := by
    apply List.ext_getElem?
    intro i
    rw [List.map_set, List.getElem?_set]
    split
    · rename_i e; subst e
      simp [hk]
    · rfl
  have hpw := List.pairwise_iff_getElem.1 h.apart
  refine ⟨⟨_, by rw [cell_of hg]; exact hx⟩, frozen_of hg _, ⟨_, hg⟩, hv, Pcs.of (fun i hi => ?_) (fun i hi => ?_) (by rw [hkeys]; exact h.keys)⟩
  · have hi' : i < qs.length := by simpa using hi
    have hset := heap_setCell_self hg (qs[k].o + j) (byteV x)
    by_cases e : i = k
    · subst e
      rw [List.getElem_set_self]
      refine ⟨⟨_, by simpa using hv⟩, some ⟨g, qs[i].o, none⟩, qs[i].b.length, by simpa using hv, by simp, (fun h => by cases h), fun _ => ⟨rfl, _, hset, fun q y hy => ?_⟩⟩
      simp only [List.getElem?_set] at hy
      show (cur.setIfInBounds (qs[i].o + j) (byteV x))[qs[i].o + q]? = some (byteV y)
      by_cases e2 : j = q
      · subst e2
        simp [hj] at hy
        subst hy
        obtain ⟨hlt, _⟩ := Array.getElem?_eq_some_iff.1 hx
        simp [hlt]
      · rw [if_neg e2] at hy
        rw [Array.getElem?_setIfInBounds_ne (by omega)]
        exact hcur q y hy
    · rw [List.getElem_set_ne (fun h => e h.symm)]
      obtain ⟨hs, a2, c2, e2, hc2, hz2, hr2⟩ := h.get hi'
      refine ⟨hs, a2, c2, e2, hc2, hz2, fun hne2 => ?_⟩
      obtain ⟨q1, cur2, q2, q3⟩ := hr2 hne2
      rw [hg] at q2
      injection q2 with q2
      injection q2 with q2
      subst q2
      refine ⟨q1, _, hset, fun q y hy => ?_⟩
      have hq := (List.getElem?_eq_some_iff.1 hy).1
      rw [Array.getElem?_setIfInBounds_ne]
      · exact q3 q y hy
      · rcases Nat.lt_or_ge i k with hik | hik
        · have := hpw i k hi' hk hik; omega
        · have := hpw k i hk hi' (by omega); omega
  · have hi' : i < qs.length := by simpa using hi
    have ht : ∀ i (h' : i < qs.length), qs[i].o + qs[i].b.length ≤ O := fun i h' => h.top _ (List.getElem_mem h')
    by_cases e : i = k
    · subst e; rw [List.getElem_set_self]; simpa using ht i hi'
    · rw [List.getElem_set_ne (fun h => e h.symm)]; exact ht i hi'

/-- The first k pieces are marked. -/
def mkd (k : Nat) (ps : List Pc) : List Pc := ps.mapIdx fun i p => if i < k then ⟨p.v, p.o, marks i p.b.length⟩ else p
theorem mkd_len (k : Nat) (ps : List Pc) : (mkd k ps).length = ps.length := by simp [mkd]
theorem mkd_zero (ps : List Pc) : mkd 0 ps = ps := by
  apply List.ext_getElem?; intro i; simp [mkd]
theorem mkd_get {k i : Nat} {ps : List Pc} (h : i < ps.length) : (mkd k ps)[i]? = some (if i < k then ⟨ps[i].v, ps[i].o, marks i ps[i].b.length⟩ else ps[i]) := by
  simp [mkd, h]
theorem mkd_step {k : Nat} {ps : List Pc} (h : k < ps.length) : (mkd k ps).set k ⟨ps[k].v, ps[k].o, marks k ps[k].b.length⟩ = mkd (k + 1) ps := by
  apply List.ext_getElem?
  intro i
  rw [List.getElem?_set]
  by_cases hi : i < ps.length
  · rw [mkd_get hi, mkd_get hi]
    by_cases e : k = i
    · subst e; simp [mkd_len, h]
    · rw [if_neg e]
      by_cases e2 : i < k
      · simp [e2, show i < k + 1 by omega]
      · simp [e2, show ¬ i < k + 1 by omega]
  · have h1 : (mkd k ps)[i]? = none := List.getElem?_eq_none (by rw [mkd_len]; omega)
    have h2 : (mkd (k + 1) ps)[i]? = none := List.getElem?_eq_none (by rw [mkd_len]; omega)
    rw [if_neg (by omega), h1, h2]

/-- One byte behind a piece without spare room: a new row. -/
theorem run_append_piece (w : World) (ty : TypeId) {S : Nat → Prop} {a : Option Addr} {n : Nat} {F : List UInt8} (h : BytesAt w S (.slice a n n) F) (hn : n ≤ 2097152) {g : Nat} {x : UInt8} (hg : w.heap[g]? = some (.cells #[byteV x] 5 (0, 0))) :
    ∃ c' w', (Builtin.append_ #[22, 22] ty #[.slice a n n, .slice (some ⟨g, 0, none⟩) 1 1]).run Try.prog w = .ok (.slice (some ⟨w.heap.size, 0, none⟩) (n + 1) c') w' ∧ Row w w' (.slice (some ⟨w.heap.size, 0, none⟩) (n + 1) c') (F ++ [x]) := by
  obtain ⟨i, hi, hz0, hz1, hz2⟩ := info_parts info_u8
  have hnl : n = F.length := by obtain ⟨_, _, e⟩ := h.shape; exact (Value.slice.inj e).2.1
  subst hnl
  have hnews : ∀ j u', [byteV x][j]? = some u' → w.cell? ((⟨g, 0, none⟩ : Addr).add j) = some u' := by
    intro j u' hu'
    match j, hu' with
    | 0, hu' => cases hu'; simp [Addr.add, cell_of hg]
  have grown : ∀ old, ∀ w', w' = w.drew.alloc (.cells ((F.map byteV).toArray ++ [byteV x].toArray ++ Builtin.zeroCells (Value.int .u8 0).cells (grownCap w (F.length + 1) old 5 - (F.length + 1))) 5) →
      Row w w' (.slice (some ⟨w.heap.size, 0, none⟩) (F.length + 1) (grownCap w (F.length + 1) old 5)) (F ++ [x]) := by
    intro old w' e
    subst e
    have hge := grownCap_ge w (F.length + 1) old 5
    have hcm : grownCap w (F.length + 1) old 5 ≤ maxLen := grownCap_le_maxLen w (F.length + 1) old 5 (by unfold maxLen; omega)
    refine ⟨?_, fun q hq => ?_, ⟨rfl, rfl, rfl, by simp, fun k hk _ => Below.heap_alloc w.drew _ k hk⟩⟩
    · rw [List.length_append, List.length_singleton]
      refine ⟨by simp, .inr ⟨w.heap.size, _, _, rfl, Nat.zero_le _, heap_alloc_new w.drew _, hge, hcm, ?_, ?_⟩⟩
      · simp only [Array.size_append, List.size_toArray, size_zeroCells, List.length_map, List.length_singleton]
        simp [Value.cells]
        omega
      · simp only [Array.toList_append, List.append_assoc, Nat.mul_one]
        rw [← List.append_assoc, List.take_left' (by simp)]
        simp
    · have : w.heap.size = q := Option.some.inj hq
      omega
  rcases h with ⟨e, rfl⟩ | ⟨ad, c, e, _, _, hcell⟩
  · obtain ⟨rfl, _, _⟩ := Value.slice.inj e
    have hr := run_append_nil (P := Try.prog) w 22 ty 5 i _ Try.underlying22 hi hz0 ⟨g, 0, none⟩ 1 1 [byteV x] (by rw [hz1]; rfl) hnews (by omega) (by omega) (by rw [hz2]; omega)
    exact ⟨_, _, hr, by have := grown 0 _ rfl; simpa using this⟩
  · obtain ⟨rfl, _, _⟩ := Value.slice.inj e
    have hr := run_append_grow (P := Try.prog) w 22 ty 5 i _ Try.underlying22 hi hz0 ad F.length F.length (F.map byteV) (by rw [hz1]; simp) (fun j u hu => by
      rw [List.getElem?_map, Option.map_eq_some_iff] at hu
      obtain ⟨y, hy, rfl⟩ := hu
      exact hcell j y hy) ⟨g, 0, none⟩ 1 1 [byteV x] (by rw [hz1]; rfl) hnews (by omega) (by omega) (growslice_fits (by omega) (by rw [hz2]; omega))
    exact ⟨_, _, hr, grown _ _ rfl⟩

theorem wpList_append_piece (w : World) {ops : Array Oper} {rest : List Oper} {o : Oper} {a : Act} {Q : Exit → Act → World → Prop} (hgd : o.guard = none) (s x : Operand)
    (ho : o.op = .call { callee := .builtin .append, args := #[s, x], argTypes := #[22, 22] }) (va : Option Addr) (n : Nat) (F : List UInt8) (g : Nat) (y : UInt8) (hs : a.eval s = .slice va n n) (hx : a.eval x = .slice (some ⟨g, 0, none⟩) 1 1)
    {S : Nat → Prop} (hb : BytesAt w S (.slice va n n) F) (hn : n ≤ 2097152) (hg : w.heap[g]? = some (.cells #[byteV y] 5 (0, 0)))
    (h : ∀ c' w', Row w w' (.slice (some ⟨w.heap.size, 0, none⟩) (n + 1) c') (F ++ [y]) → wpList Try.prog ops Q rest (a.put o.dst (.slice (some ⟨w.heap.size, 0, none⟩) (n + 1) c')) w') :
    wpList Try.prog ops Q (o :: rest) a w := by
  refine wpList_plain hgd fun K hK => ?_
  obtain ⟨c', w', hrun, h2⟩ := run_append_piece w o.type hb hn hg
  unfold Oper.wp execOp
  simp only [ho, resolve, invoke, builtin, Sem.run_bind, Sem.run_pure, Result.andThen_ok, List.map_toArray, List.map_cons, List.map_nil, hs, hx, hrun]
  exact hK _ _ (h c' w' h2)

/-- The grown lists. -/
def Grown (w : World) (ps : List Pc) (ls : List Value) : Prop := ls.length ≤ ps.length ∧ ∀ i (h : i < ls.length) (h' : i < ps.length), w.ownsRow 0 5 1 ls[i] (ps[i].b.length + 12) ((marks i (ps[i].b.length + 12)).map byteV)
theorem own_ty {w : World} {v : Value} {n : Nat} {xs : List Value} (h : w.ownsRow 0 5 1 v n xs) {q : Nat} (hq : v.ownBlock = some q) : TyAt w q 5 := by
  rcases h.2 with ⟨rfl, _⟩ | ⟨g, cap, cur, rfl, _, hg, _⟩
  · cases hq
  · have : g = q := Option.some.inj hq
    subst this
    exact ⟨_, hg⟩
theorem Grown.typed {w w' : World} {T : Nat → Prop} {ps : List Pc} {ls : List Value} (h : Grown w ps ls) (ho : Only T w w') (hT : ∀ k, T k → ∃ t, TyAt w k t ∧ t ≠ 5) : Grown w' ps ls :=
  ⟨h.1, fun i hi hi' => ownsRow_keep (h.2 i hi hi') fun q hq => ho.block q ((h.2 i hi hi').lt q hq).2 (fun ht => by
    obtain ⟨t, q1, q2⟩ := hT q ht
    exact q2 (q1.eq (own_ty (h.2 i hi hi') hq)))⟩
theorem Grown.snoc {w : World} {ps : List Pc} {ls : List Value} {u : Value} (h : Grown w ps ls) (hl : ls.length < ps.length) (hu : w.ownsRow 0 5 1 u (ps[ls.length].b.length + 12) ((marks ls.length (ps[ls.length].b.length + 12)).map byteV)) : Grown w ps (ls ++ [u]) := by
  refine ⟨by simp; omega, fun i hi hi' => ?_⟩
  by_cases e : i < ls.length
  · rw [List.getElem_append_left e]; exact h.2 i e hi'
  · have e' : i = ls.length := by simp at hi; omega
    subst e'
    simpa using hu

set_option maxRecDepth 100000 in
set_option maxHeartbeats 4000000 in
theorem apartP_any {w0 w : World} {ov : Value} {ps : List Pc} {g O : Nat} (hL : Lst w0 w ov (ps.map (·.v))) (hP : Pcs w g O ps) (hg : ∀ p ∈ ps, p.b ≠ [] → w0.heap.size ≤ g) (hc : ps.length ≤ 1048576) (hlen : ∀ p ∈ ps, p.b.length ≤ 1048576) :
    Calls Try.prog 13 #[ov] w fun e w' => e = .returned (.bool true) ∧ Only (fun _ => False) w0 w' := by
  obtain ⟨la, lc, rfl⟩ := hL.shape
  rw [List.length_map] at hL ⊢
  have HL := Lib.hid hL; have HP := Lib.hid hP; have HG := Lib.hid hg; have HLEN := Lib.hid hlen
  have HCELL : Hid (∀ w', Lst w0 w' (.slice la ps.length lc) (ps.map (·.v)) → ∀ i (h : i < ps.length), ∃ G, la = some ⟨G, 0, none⟩ ∧ w'.cell? ⟨G, i, none⟩ = some ps[i].v) := fun w' hL' i hi => by
    rcases hL'.row.2 with ⟨_, h0⟩ | ⟨q, cap, cur, e, _⟩
    · rw [List.length_map] at h0; omega
    · obtain ⟨rfl, _, _⟩ := Value.slice.inj e
      refine ⟨q, rfl, ?_⟩
      have := hL'.row.cells (g := q) rfl i ps[i].v (by simp [hi])
      rwa [add_lit, Nat.zero_add] at this
  clear hL hP hg hlen
  go_enter Try.func13, Try.ntmps13
  go_wp2
  go_loopw [15] (fun iv wr => ∃ k : Nat, k ≤ ps.length ∧ iv = .int .i64 k ∧ Lst w0 wr (.slice la ps.length lc) (ps.map (·.v)) ∧ Pcs wr g O (mkd k ps)) (fun iv _ => ps.length - (intOf iv).toNat)
  case atStart => exact ⟨0, Nat.zero_le _, rfl, HL.out, by rw [mkd_zero]; exact HP.out⟩
  case round =>
    obtain ⟨k, hk, rfl, hl1, hp1⟩ := hrel
    by_cases hlt : k < ps.length
    · obtain ⟨G, rfl, hcG⟩ := HCELL.out wr hl1 k hlt
      have hkm : k < (mkd k ps).length := by rw [mkd_len]; exact hlt
      have hgetk : (mkd k ps)[k] = ps[k] := by
        have := mkd_get (k := k) (i := k) hlt
        rw [List.getElem?_eq_getElem hkm] at this
        simpa using Option.some.inj this
      have hn := HLEN.out _ (List.getElem_mem hlt)
      have hshape := (hp1.get hkm).shape
      rw [hgetk] at hshape
      obtain ⟨pa, hpv⟩ := hshape
      have HGF : Hid (ps[k].b.length ≠ 0 → w0.heap.size ≤ g) := fun hne => HG.out _ (List.getElem_mem hlt) (by intro e; rw [e] at hne; exact hne rfl)
      have HST := Lib.hid (mkd_step hlt)
      have HP1 : Hid (Pcs wr g O ((mkd k ps).set k ⟨ps[k].v, ps[k].o, ps[k].b⟩)) := by
        have e : (mkd k ps).set k ⟨ps[k].v, ps[k].o, ps[k].b⟩ = mkd k ps := by
          rw [← hgetk]; exact List.set_getElem_self hkm
        rw [Hid, e]; exact hp1
      have HL1 := Lib.hid hl1
      have HBL : Hid (ps[k].b.length = ps[k].b.length) := rfl
      rw [hpv] at hcG HP1 HST
      generalize hQ : mkd k ps = Q at *
      generalize hpo : ps[k].o = po at *
      obtain ⟨B, hB⟩ : ∃ B, B = ps[k].b := ⟨_, rfl⟩
      rw [← hB] at hcG hn HP1 HST HGF
      have pz : 0 ≤ (k : Int) := by omega
      have mz : (k : Int) < (ps.length : Int) := by omega
      clear hl1 hp1 hgetk hpv HBL
      obtain ⟨w1, hw1⟩ : ∃ q, q = wr := ⟨_, rfl⟩
      subst hw1
      generalize hn' : B.length = n at *
      go_wp2
      go_loopw [22] (fun iv w2 => ∃ (j : Nat) (F : List UInt8), j ≤ n ∧ iv = .int .i64 j ∧ F.length = n ∧ F.take j = marks k j ∧ Lst w0 w2 (.slice (some ⟨G, 0, none⟩) ps.length lc) (ps.map (·.v)) ∧ Pcs w2 g O (Q.set k ⟨.slice pa n n, po, F⟩)) (fun iv _ => n - (intOf iv).toNat)
      case atStart => exact ⟨0, B, Nat.zero_le _, rfl, hn', by simp [marks], HL1.out, HP1.out⟩
      case round =>
        obtain ⟨j, F, hj, rfl, hFl, hFt, hl2, hp2⟩ := hrel
        by_cases hjn : j < n
        · have hkq : k < (Q.set k ⟨.slice pa n n, po, F⟩).length := by simpa using hkm
          have hqk : (Q.set k ⟨.slice pa n n, po, F⟩)[k] = ⟨.slice pa n n, po, F⟩ := List.getElem_set_self _
          have hpk := hp2.poke hkq (j := j) (by rw [hqk]; show j < F.length; omega) (mk k j)
          rw [hqk] at hpk
          obtain ⟨⟨y, c1⟩, f1, hty, hsv, hp3⟩ := hpk
          have hpa : pa = some ⟨g, po, none⟩ := (Value.slice.inj hsv).1
          subst hpa
          have hgz := HGF.out (by omega)
          have HFIN : Hid (Lst w0 (w1.setCell ⟨g, po + j, none⟩ (byteV (mk k j))) (.slice (some ⟨G, 0, none⟩) ps.length lc) (ps.map (·.v)) → True) := fun _ => trivial
          have HL3 := Lib.hid (hl2.typed (Only.setCell ⟨g, po + j, none⟩ (byteV (mk k j))) (fun q e => by subst e; exact ⟨hgz, _, hty, by decide⟩))
          have HP3 : Hid (Pcs (wr.setCell ⟨g, po + j, none⟩ (byteV (mk k j))) g O (Q.set k ⟨.slice (some ⟨g, po, none⟩) n n, po, F.set j (mk k j)⟩)) := by
            rw [List.set_set] at hp3; exact hp3
          have HFT : Hid ((F.set j (mk k j)).take (j + 1) = marks k (j + 1)) := by
            rw [Hid, List.take_add_one, marks_succ, List.take_set, hFt, List.getElem?_set_self (by omega), List.set_eq_of_length_le (by rw [marks_len]; omega)]
            rfl
          rw [mkV] at HL3 HP3
          have c1' : wr.cell? ⟨g, po + j, none⟩ = some (.int .u8 (y.toNat : Int)) := c1
          clear hl2 hp2 hp3 hsv hqk hkq hFt c1 hty HFIN
          go_wp2
          go_roundw
          case rel => exact ⟨j + 1, F.set j (mk k j), by omega, by go_num, by simpa using hFl, HFT.out, HL3.out, HP3.out⟩
          case measure => simp [intOf]; omega
        · have hFm : F = marks k n := by
            have : F.take j = F := List.take_of_length_le (by omega)
            rw [← this, hFt, show j = n by omega]
          rw [hFm, HST.out] at hp2
          have HL3 := Lib.hid hl2; have HP3 := Lib.hid hp2
          clear hl2 hp2 hFt hFm
          go_wp2
          go_roundw
          case rel => exact ⟨k + 1, by omega, by go_num, HL3.out, HP3.out⟩
          case measure => simp [intOf]; omega
    · have hkl : k = ps.length := by omega
      subst hkl
      have HL1 := Lib.hid hl1; have HP1 := Lib.hid hp1
      clear hl1 hp1
      obtain ⟨i1, hi1, hy0, hy1, hy2⟩ := info_parts info_bytes'
      obtain ⟨w1, hw1⟩ : ∃ q, q = wr := ⟨_, rfl⟩
      subst hw1
      have HE1 : Hid (Lst w1 (w1.alloc (.cells #[] 22)) (.slice (some ⟨w1.heap.size, 0, none⟩) 0 0) []) := by
        refine ⟨World.ownsRow_made w1 (e := 22) (size := 1) (base := 0) #[] 0 (Nat.zero_le _) (Nat.zero_le _) rfl, fun q hq => ?_, Only.alloc _⟩
        have : w1.heap.size = q := Option.some.inj hq
        omega
      go_wp2
      go_loopw [6, 40] (fun gv iv wr => ∃ ls : List Value, iv = .int .i64 ls.length ∧ Lst w1 wr gv ls ∧ Grown wr ps ls) (fun _ iv _ => ps.length - (intOf iv).toNat)
      case atStart => exact ⟨[], rfl, HE1.out, Nat.zero_le _, fun i h => absurd h (by simp)⟩
      case round =>
        obtain ⟨ls, rfl, hg2, hgr2⟩ := hrel
        have hle := hgr2.1
        obtain ⟨ga, gc, rfl⟩ := hg2.shape
        by_cases hlt2 : ls.length < ps.length
        · obtain ⟨w3, hw3⟩ : ∃ q, q = wr := ⟨_, rfl⟩
          subst hw3
          have hL3 := HL1.out.keep hg2.only
          have hP3 := HP1.out.only hg2.only (fun x => x)
          obtain ⟨G, rfl, hcG⟩ := HCELL.out w3 hL3 ls.length hlt2
          have hkm : ls.length < (mkd ps.length ps).length := by rw [mkd_len]; exact hlt2
          have hgetk : (mkd ps.length ps)[ls.length] = ⟨ps[ls.length].v, ps[ls.length].o, marks ls.length ps[ls.length].b.length⟩ := by
            have := mkd_get (k := ps.length) (i := ls.length) hlt2
            rw [List.getElem?_eq_getElem hkm, if_pos hlt2] at this
            exact Option.some.inj this
          have hpc := hP3.get hkm
          rw [hgetk] at hpc
          obtain ⟨pa, hpv⟩ := hpc.shape
          have hpv' : ps[ls.length].v = .slice pa ps[ls.length].b.length ps[ls.length].b.length := by simpa [marks_len] using hpv
          have hbb := hpc.rest.bytes
          have hn := HLEN.out _ (List.getElem_mem hlt2)
          have hbb' : BytesAt w3 (fun k => k = g ∧ k < w3.heap.size) (.slice pa ps[ls.length].b.length ps[ls.length].b.length) (marks ls.length ps[ls.length].b.length) := by rw [← hpv']; exact hbb
          rw [hpv'] at hcG
          have HSN : Hid (∀ w6 u, Grown w6 ps ls → w6.ownsRow 0 5 1 u (ps[ls.length].b.length + 12) ((marks ls.length (ps[ls.length].b.length + 12)).map byteV) → Grown w6 ps (ls ++ [u])) := fun w6 u h1 h2 => h1.snoc hlt2 h2
          have HBB := Lib.hid hbb'; have HG2 := Lib.hid hg2; have HGR2 := Lib.hid hgr2
          have pz : 0 ≤ (ls.length : Int) := by omega
          have mz : (ls.length : Int) < (ps.length : Int) := by omega
          have hk20 : ls.length ≤ 1048576 := by omega
          clear hg2 hgr2 hL3 hP3 hpc hpv hpv' hbb hbb' hgetk
          generalize ps[ls.length].b.length = n at *
          generalize hkk : ls.length = k at *
          go_wp2
          go_loopw [8] (fun lv wr => ∃ (la' : Option Addr) (lc' m : Nat), lv = .slice la' m lc' ∧ n ≤ m ∧ m ≤ n + 12 ∧ ((m = n ∧ lv = .slice pa n n ∧ wr = w3) ∨ Row w3 wr lv (marks k m))) (fun lv _ => n + 12 - (match lv with | .slice _ m _ => m | _ => 0))
          case atStart => exact ⟨pa, n, n, rfl, Nat.le_refl _, by omega, .inl ⟨rfl, rfl, rfl⟩⟩
          case round =>
            obtain ⟨la', lc', m, rfl, hm1, hm2, hst⟩ := hrel
            have hm20 : m ≤ 2097152 := by omega
            by_cases hmlt : m < n + 12
            · rcases hst with ⟨hmn, he, hwe⟩ | hrow
              · subst hmn hwe
                obtain ⟨rfl, _, rfl⟩ := Value.slice.inj he
                have HAB := Lib.hid (HBB.out.kept (w' := wr.alloc (.cells #[byteV (mk k lc')] 5)) (S' := fun _ => True) (fun q hq => heap_alloc_old' (x := _) (by exact (Array.getElem?_eq_getElem hq.2)) |>.trans (by rw [Array.getElem?_eq_getElem hq.2])) (fun _ _ => trivial))
                have HHG := Lib.hid (heap_alloc_new wr (.cells #[byteV (mk k lc')] 5))
                have HOA : Hid (Only (fun _ => False) wr (wr.alloc (.cells #[byteV (mk k lc')] 5))) := Only.alloc _
                have hmv := mkV k lc'
                have HMV := Lib.hid hmv
                rw [hmv] at HAB HHG HOA
                have HM20 := Lib.hid hm20
                clear he hmv
                go_wp2_with (at_builtin; refine wpList_append_piece _ rfl _ _ rfl la' lc' (marks k lc') wr.heap.size (mk k lc') rfl rfl HAB.out HM20.out (by rw [HMV.out]; exact HHG.out) ?_; intro c5 w5 hr5; have HR5 : Hid (Row wr w5 (.slice (some ⟨(wr.alloc (.cells #[.int .u8 ((31 * (k : Int) + 7 * (lc' : Int) + 1) % 256)] 5)).heap.size, 0, none⟩) (lc' + 1) c5) (marks k (lc' + 1))) := (by rw [marks_succ]; exact ⟨hr5.row, fun q hq => Nat.le_trans HOA.out.size (hr5.own q hq), HOA.out.trans hr5.only⟩); clear hr5)
                go_roundw
                case rel => exact ⟨_, c5, lc' + 1, rfl, by omega, by omega, .inr (by have := HR5.out; rwa [World.size_alloc] at this)⟩
                case measure => simp
              · have HRW := Lib.hid hrow
                have HSRC : Hid (BytesAt (wr.alloc (.cells #[.int .u8 ((31 * (k : Int) + 7 * (m : Int) + 1) % 256)] 5)) (fun q => q = wr.heap.size) (.slice (some ⟨wr.heap.size, 0, none⟩) 1 1) [mk k m]) := by rw [Hid, ← mkV]; exact one_byte wr _
                have HROW : Hid (∀ y, (wr.alloc y).ownsRow 0 5 1 (.slice la' m lc') m ((marks k m).map byteV)) := fun y => by have := hrow.row.alloc y; rwa [marks_len] at this
                have HLM : Hid (m + 1 ≤ 140737488355328) := by unfold Hid; omega
                clear hrow
                go_wp2_with (at_builtin; refine wpList_append_bytes _ rfl _ _ rfl (.slice la' m lc') (.slice (some ⟨wr.heap.size, 0, none⟩) 1 1) m ((marks k m).map byteV) rfl rfl (HROW.out _) HSRC.out HLM.out ?_; intro a5 c5 w5 hr5 hg5 hat5; have HR5 : Hid (Row w3 w5 (.slice a5 (m + 1) c5) (marks k (m + 1))) := (by rw [marks_succ]; exact HRW.out.app (y := [mk k m]) (Only.alloc _) (by rw [marks_len]; rfl) hr5 hg5 hat5); clear hr5 hg5 hat5)
                go_roundw
                case rel => exact ⟨a5, c5, m + 1, rfl, by omega, by omega, .inr HR5.out⟩
                case measure => simp; omega
            · have hmn : m = n + 12 := by omega
              subst hmn
              have hrow : Row w3 wr (.slice la' (n + 12) lc') (marks k (n + 12)) := by
                rcases hst with ⟨h, _⟩ | h
                · omega
                · exact h
              have HRW := Lib.hid hrow
              have HRG : Hid ((wr.alloc (.cells #[.slice la' (n + 12) lc'] 22)).ownsRow 0 22 1 (.slice ga k gc) k ls) := by
                have := (HG2.out.keep hrow.only).row.alloc (.cells #[.slice la' (n + 12) lc'] 22)
                rwa [hkk] at this
              have HNX : Hid (∀ (w6 : World) (a' : Option Addr) (c' : Nat), w6.ownsRow 0 22 1 (.slice a' (k + 1) c') (k + 1) (ls ++ [.slice la' (n + 12) lc']) → (wr.alloc (.cells #[.slice la' (n + 12) lc'] 22)).grownBy w6 (Value.slice ga k gc).ownBlock → ((Value.slice a' (k + 1) c').ownBlock = (Value.slice ga k gc).ownBlock ∨ (Value.slice a' (k + 1) c').ownBlock = some (wr.alloc (.cells #[.slice la' (n + 12) lc'] 22)).heap.size) →
                  Lst w1 w6 (.slice a' (k + 1) c') (ls ++ [.slice la' (n + 12) lc']) ∧ Grown w6 ps (ls ++ [.slice la' (n + 12) lc'])) := by
                intro w6 a' c' hown hgr hat
                have hL := HG2.out.keep HRW.out.only
                have hoA : Only (fun _ => False) wr (wr.alloc (.cells #[.slice la' (n + 12) lc'] 22)) := Only.alloc _
                have hLA := hL.keep hoA
                have ho6 : Only (fun q => (Value.slice ga k gc).ownBlock = some q) (wr.alloc (.cells #[.slice la' (n + 12) lc'] 22)) w6 := (Only.of_grown hgr).mono (fun q _ e => e.symm)
                have hT : ∀ q, (Value.slice ga k gc).ownBlock = some q → ∃ t, TyAt (wr.alloc (.cells #[.slice la' (n + 12) lc'] 22)) q t ∧ t ≠ 5 := fun q hq => ⟨_, hLA.ty hq, by decide⟩
                have hLf := hL.app hoA (u := .slice la' (n + 12) lc') (a := a') (c := c') (by rw [hkk]; exact hown) hgr (by rw [hkk]; exact hat)
                rw [hkk] at hLf
                refine ⟨hLf, HSN.out w6 _ ((((HGR2.out.typed HRW.out.only (fun _ x => x.elim)).typed hoA (fun _ x => x.elim)).typed ho6 hT)) ?_⟩
                have hr1 := HRW.out.row.alloc (.cells #[.slice la' (n + 12) lc'] 22)
                rw [marks_len] at hr1
                exact ownsRow_keep hr1 (fun q hq => ho6.block q (hr1.lt q hq).2 (fun ht => by
                  obtain ⟨t, q1, q2⟩ := hT q ht
                  exact q2 (q1.eq (own_ty hr1 hq))))
              have HU1 : Hid (k + 1 ≤ maxLen) := by unfold Hid maxLen; omega
              have HU2 : Hid ((k + 1) * 24 ≤ 140737488355328) := by unfold Hid; omega
              clear hst hrow
              go_wp2_with (at_builtin; refine wpList_append_own_at _ rfl _ _ 36 rfl 0 22 i1 _ 1 24 Try.underlying36 hi1 hy0 hy1 hy2 rfl (by omega) (.slice ga k gc) k ls rfl HRG.out ⟨wr.heap.size, 0, none⟩ 1 1 [.slice la' (n + 12) lc'] rfl rfl (cell_one_new _ _ _) (by intro u hu; simp only [List.mem_cons, List.not_mem_nil, or_false] at hu; subst hu; rfl) HU1.out HU2.out (Nat.zero_le _) ?_; intro v' w6 hown hgr hnil hat; obtain ⟨ga', gc', rfl⟩ := row_shape hown; have HNF := Lib.hid (HNX.out _ _ _ hown hgr hat); clear hown hgr hnil hat)
              go_roundw
              case rel => exact ⟨ls ++ [.slice la' (n + 12) lc'], by simp [hkk], HNF.out.1, HNF.out.2⟩
              case measure => simp [intOf]; omega
        · have hul : ls.length = ps.length := by omega
          have HUL := Lib.hid hul
          have hnl : ¬ (ls.length : Int) < (ps.length : Int) := by omega
          obtain ⟨w5, hw5⟩ : ∃ q, q = wr := ⟨_, rfl⟩
          subst hw5
          have HL5 := Lib.hid (HL1.out.keep hg2.only)
          have HP5 := Lib.hid (HP1.out.only hg2.only (fun x => x))
          have HGR := Lib.hid hgr2
          have hgs := hg2.row
          have HGS := Lib.hid hgs
          clear hg2 hgr2 hgs hul hlt2 hle
          go_wp2
          go_loopw [70] (fun iv wr => ∃ k : Nat, k ≤ ls.length ∧ iv = .int .i64 k ∧ wr.heap = w5.heap ∧ Only (fun _ => False) w5 wr) (fun iv _ => ls.length - (intOf iv).toNat)
          case atStart => exact ⟨0, Nat.zero_le _, rfl, rfl, Only.refl _ _⟩
          case round =>
            obtain ⟨k, hk3, rfl, hh3, how3⟩ := hrel
            by_cases hlt3 : k < ls.length
            · have hkv : k < ps.length := by have := HUL.out; omega
              obtain ⟨gg, rfl, hcu0⟩ : ∃ gg, ga = some ⟨gg, 0, none⟩ ∧ w5.cell? ⟨gg, k, none⟩ = some ls[k] := by
                rcases HGS.out.2 with ⟨_, h2⟩ | ⟨q, _, _, h1, _⟩
                · omega
                · obtain ⟨rfl, _, _⟩ := Value.slice.inj h1
                  refine ⟨q, rfl, ?_⟩
                  have := HGS.out.cells (g := q) rfl k ls[k] (List.getElem?_eq_getElem hlt3)
                  rwa [add_lit, Nat.zero_add] at this
              obtain ⟨G, rfl, hcv⟩ := HCELL.out w5 HL5.out k hkv
              have hcu : wr.cell? ⟨gg, k, none⟩ = some ls[k] := by rw [World.cell?_of_block (w := w5) (by rw [hh3])]; exact hcu0
              have hnew := HGR.out.2 k hlt3 hkv
              have hn3 := HLEN.out _ (List.getElem_mem hkv)
              obtain ⟨ua, uc, hus⟩ := row_shape hnew
              have hkm : k < (mkd ps.length ps).length := by rw [mkd_len]; exact hkv
              have hgetk : (mkd ps.length ps)[k] = ⟨ps[k].v, ps[k].o, marks k ps[k].b.length⟩ := by
                have := mkd_get (k := ps.length) (i := k) hkv
                rw [List.getElem?_eq_getElem hkm, if_pos hkv] at this
                exact Option.some.inj this
              have hpc := HP5.out.get hkm
              rw [hgetk] at hpc
              obtain ⟨pa, hpv⟩ := hpc.shape
              have hpv' : ps[k].v = .slice pa ps[k].b.length ps[k].b.length := by simpa [marks_len] using hpv
              have HPIE : Hid (∀ j, j < ps[k].b.length → pa = some ⟨g, ps[k].o, none⟩ ∧ w5.cell? ⟨g, ps[k].o + j, none⟩ = some (byteV (mk k j))) := by
                intro j hj
                obtain ⟨a2, c2, e2, _, _, hr2⟩ := hpc.rest
                have e3 : a2 = pa := by
                  have : Value.slice pa ps[k].b.length ps[k].b.length = .slice a2 (marks k ps[k].b.length).length c2 := by rw [← hpv']; exact e2
                  exact (Value.slice.inj this).1.symm
                obtain ⟨e4, cur, hg5, hcur⟩ := hr2 (fun e => by
                  have h0 : (marks k ps[k].b.length).length = 0 := by rw [show marks k ps[k].b.length = [] from e]; rfl
                  rw [marks_len] at h0
                  omega)
                refine ⟨by rw [← e3]; exact e4, ?_⟩
                rw [cell_of hg5]
                exact hcur j _ (marks_get hj)
              rw [hpv'] at hcv
              generalize hpo : ps[k].o = po at *
              generalize hnn : ps[k].b.length = n at *
              obtain ⟨gu, hgu⟩ : ∃ gu, ua = some ⟨gu, 0, none⟩ := by
                rw [hus] at hnew
                rcases hnew.2 with ⟨_, h2⟩ | ⟨q, _, _, h1, _⟩
                · omega
                · exact ⟨q, (Value.slice.inj h1).1⟩
              subst hgu
              rw [hus] at hnew hcu
              have HNEW : Hid (∀ j, j < n + 12 → w5.cell? ⟨gu, j, none⟩ = some (byteV (mk k j))) := by
                intro j hj
                have := hnew.cells (g := gu) rfl j (byteV (mk k j)) (by rw [List.getElem?_map, marks_get hj]; rfl)
                rwa [add_lit, Nat.zero_add] at this
              have HCV := Lib.hid hcv
              have HOW3 := Lib.hid how3; have HH3 := Lib.hid hh3
              have hk20 : k ≤ 1048576 := by have := HUL.out; omega
              clear hnew hus hcv how3 hcu0 hpc hpv hpv' hgetk hkm
              obtain ⟨w7, hw7⟩ : ∃ q, q = wr := ⟨_, rfl⟩
              subst hw7
              clear hh3
              go_wp2
              go_loopw [77] (fun iv wr => ∃ j : Nat, j ≤ n + 12 ∧ iv = .int .i64 j ∧ wr.heap = w5.heap ∧ Only (fun _ => False) w7 wr) (fun iv _ => n + 12 - (intOf iv).toNat)
              case atStart => exact ⟨0, Nat.zero_le _, rfl, HH3.out, Only.refl _ _⟩
              case round =>
                obtain ⟨j, hj4, rfl, hh4, how4⟩ := hrel
                by_cases hlt4 : j < n + 12
                · have d1 : wr.cell? ⟨gu, j, none⟩ = some (byteV (mk k j)) := by rw [World.cell?_of_block (w := w5) (by rw [hh4])]; exact HNEW.out j hlt4
                  have d2 : wr.cell? ⟨G, k, none⟩ = some (.slice pa n n) := by rw [World.cell?_of_block (w := w5) (by rw [hh4])]; exact HCV.out
                  rw [mkV] at d1
                  have HOW4 := Lib.hid how4; have HH4 := Lib.hid hh4
                  have p1 : IntKind.i64.wrap (31 * (k : Int)) = 31 * (k : Int) := IntWalk.i64_in _ (by omega)
                  have p2 : IntKind.i64.wrap (7 * (j : Int)) = 7 * (j : Int) := IntWalk.i64_in _ (by omega)
                  have p3 : IntKind.i64.wrap (31 * (k : Int) + 7 * (j : Int)) = 31 * (k : Int) + 7 * (j : Int) := IntWalk.i64_in _ (by omega)
                  have p4 : IntKind.i64.wrap (31 * (k : Int) + 7 * (j : Int) + 1) = 31 * (k : Int) + 7 * (j : Int) + 1 := IntWalk.i64_in _ (by omega)
                  have i1 : (0 : Int) ≤ (j : Int) := by omega
                  have i2 : (j : Int) < ((n + 12 : Nat) : Int) := by omega
                  have i3 : (0 : Int) ≤ (k : Int) := by omega
                  have i4 : (k : Int) < (ps.length : Int) := by omega
                  by_cases hjn : j < n
                  · obtain ⟨rfl, hg2⟩ := HPIE.out j hjn
                    have d3 : wr.cell? ⟨g, po + j, none⟩ = some (byteV (mk k j)) := by rw [World.cell?_of_block (w := w5) (by rw [hh4])]; exact hg2
                    rw [mkV] at d3
                    have i5 : (j : Int) < (n : Int) := by omega
                    clear how4 hh4 hg2
                    go_wp2
                    go_quiet (fail)
                    have HFIN := Lib.hid (HOW4.out.trans (Only.drewN (w := wr) nq))
                    clear p1 p2 p3 p4
                    go_wp2
                    go_roundw
                    case rel => exact ⟨j + 1, by omega, by go_num, HH4.out, HFIN.out⟩
                    case measure => simp [intOf]; omega
                  · have i5 : decide ((j : Int) < (n : Int)) = false := by simp; omega
                    clear how4 hh4
                    go_wp2
                    go_quiet (fail)
                    have HFIN := Lib.hid (HOW4.out.trans (Only.drewN (w := wr) nq))
                    clear p1 p2 p3 p4
                    go_wp2
                    go_roundw
                    case rel => exact ⟨j + 1, by omega, by go_num, HH4.out, HFIN.out⟩
                    case measure => simp [intOf]; omega
                · have hj' : j = n + 12 := by omega
                  subst hj'
                  have HFIN := Lib.hid (HOW3.out.trans how4); have HH4 := Lib.hid hh4
                  clear how4 hh4
                  go_wp2
                  go_roundw
                  case rel => exact ⟨k + 1, by omega, by go_num, HH4.out, HFIN.out⟩
                  case measure => simp [intOf]; omega
            · have hk' : k = ls.length := by omega
              subst hk'
              have HFIN := Lib.hid (HL5.out.only.trans how3)
              clear how3 hh3
              go_wp2
              go_ret
              exact ⟨rfl, HFIN.out⟩

end Go.Proofs.Ytlfbdhgppmmahaa
