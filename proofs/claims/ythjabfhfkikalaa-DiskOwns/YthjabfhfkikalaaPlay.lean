/- One call of a script: play. Conditions: counts far from an int's end; rows within reach. -/
import Derived.Test.YthjabfhfkikalaaWFail
import Derived.Deep.RegionHeld3
namespace Go.Proofs.Ythjabfhfkikalaa
open Go.RowKit Go.Maps Go.WideMaps

/-- One call of a script, as data. -/
structure OpD where
  kind : Int
  name : ByteArray
  dst : ByteArray
  data : List UInt8
  n : Int
  m : Int
  dirs : Int
  cuts : List Int

def playS (s : Dm.St) (o : OpD) : Nat × Dm.St :=
  if o.kind = 0 then s.create o.name.data.toList
  else if o.kind = 1 then s.append o.name.data.toList o.data
  else if o.kind = 2 then s.sync o.name.data.toList
  else if o.kind = 3 then s.syncDir
  else if o.kind = 4 then s.rename o.name.data.toList o.dst.data.toList
  else if o.kind = 5 then s.remove o.name.data.toList
  else if o.kind = 8 then s.arm o.n
  else if o.kind = 9 then s.fail (o.n :: o.cuts)
  else (0, s)

/-- The eight cells of a call. -/
def opCells (o : OpD) (dv cv : Value) : Array Value := #[.int .i64 o.kind, .string o.name, .string o.dst, dv, .int .i64 o.n, .int .i64 o.m, .int .i64 o.dirs, cv]

structure OpAt (w : World) (S : Nat → Prop) (o : OpD) (dv cv : Value) : Prop where
  name : o.name.size ≤ maxLen
  dst : o.dst.size ≤ maxLen
  data : BytesAt w S dv o.data
  dlen : o.data.length ≤ 140737488355328
  cuts : IntsAt w S cv o.cuts
  clen : o.cuts.length + 1 < 17592186044416
  nlt : o.n < 2 ^ 63
  clt : ∀ x ∈ o.cuts, x < 2 ^ 63

theorem OpAt.kept {w w' : World} {S S' : Nat → Prop} {o : OpD} {dv cv : Value} (h : OpAt w S o dv cv) (hk : ∀ k, S k → w'.heap[k]? = w.heap[k]?) (hs : ∀ k, S k → S' k) : OpAt w' S' o dv cv :=
  ⟨h.name, h.dst, h.data.kept hk hs, h.dlen, h.cuts.kept hk hs, h.clen, h.nlt, h.clt⟩

theorem step_append_bytes (w : World) {ops : Array Oper} {o : Oper} {a : Act} {K : Act → World → Prop} {Q : Exit → Act → World → Prop} {E : Prop} (hgd : o.guard = none) (s x : Operand)
    (ho : o.op = .call { callee := .builtin .append, args := #[s, x], argTypes := #[22, 22] }) (v vx : Value) (n : Nat) (xs : List Value) (hs : a.eval s = v) (hx : a.eval x = vx)
    (hown : w.ownsRow 0 5 1 v n xs) {S : Nat → Prop} {bs : List UInt8} (hsrc : BytesAt w S vx bs) (hlen : n + bs.length ≤ 140737488355328)
    (h : ∀ a' c' w', w'.ownsRow 0 5 1 (.slice a' (n + bs.length) c') (n + bs.length) (xs ++ bs.map byteV) → w.grownBy w' v.ownBlock →
      ((Value.slice a' (n + bs.length) c').ownBlock = v.ownBlock ∨ (Value.slice a' (n + bs.length) c').ownBlock = some w.heap.size) → K (a.put o.dst (.slice a' (n + bs.length) c')) w') :
    if Region.wanted o (yielded ops a.tmps) = true then Oper.wp Try.prog o a w K Q else E := by
  have hw : Region.wanted o (yielded ops a.tmps) = true := by simp [Region.wanted, hgd]
  rw [if_pos hw]
  obtain ⟨a', c', w', hrun, h2, h3, h4⟩ := run_append_bytes w o.type v vx n xs hown hsrc hlen
  unfold Oper.wp execOp
  simp only [ho, resolve, invoke, builtin, Sem.run_bind, Sem.run_pure, Result.andThen_ok, List.map_toArray, List.map_cons, List.map_nil, hs, hx, hrun]
  exact h a' c' w' h2 h3 h4

/-- An Append of one part that lies in new memory. -/
theorem append_one {w : World} {b : Nat} {ρ : Roles} {L : Lay} {s : Dm.St} (h : Rep w b ρ L s) (hwf : s.WF) (hst : s.steps < 2 ^ 62) (n : ByteArray) (hn : n.size ≤ maxLen) {v : Value} {bs : List UInt8}
    (hv : BytesAt w (fun k => k < w.heap.size ∧ ρ k = none) v bs) (hl : bs.length ≤ 140737488355328) :
    Calls Try.prog 21 #[.pointer (some ⟨b, 0, none⟩), .string n, .slice (some ⟨w.heap.size, 0, none⟩) 1 1] (w.alloc (.cells #[v] 22)) (OpPost b ρ w (s.append n.data.toList bs)) := by
  have ho : Only (fun _ => False) w (w.alloc (.cells #[v] 22)) := Only.alloc _
  have hp : Parts (w.alloc (.cells #[v] 22)) ρ w.heap.size [(v, bs)] := {
    cell := fun i hi => by
      match i, hi with
      | 0, _ => simp
    row := fun p hp => by
      simp only [List.mem_cons, List.not_mem_nil, or_false] at hp
      subst hp
      exact hv.kept (fun k hk => ho.block k hk.1 (fun x => x)) (fun k hk => ⟨Nat.lt_of_lt_of_le hk.1 ho.size, hk.2⟩)
    low := by simp
    rg := by
      cases hx : ρ w.heap.size with
      | none => rfl
      | some r => have := h.low _ (by rw [hx]; simp); omega
    few := by simp
    small := fun p hp => by
      simp only [List.mem_cons, List.not_mem_nil, or_false] at hp
      subst hp
      exact hl }
  have := append_rep (h.only_none ho) hwf hst n hn (cap := 1) hp
  simp only [List.flatMap_cons, List.flatMap_nil, List.append_nil, List.length_cons, List.length_nil] at this
  exact this.mono fun e w' hq => hq.after (Moves.none ho)

set_option maxRecDepth 100000 in
set_option maxHeartbeats 1000000 in
theorem play_append {w : World} {b : Nat} {ρ : Roles} {L : Lay} {s : Dm.St} (h : Rep w b ρ L s) (hwf : s.WF) (hst : s.steps < 2 ^ 62) (o : OpD) (dv cv : Value) (ho : OpAt w (fun k => k < w.heap.size ∧ ρ k = none) o dv cv) (hk : o.kind = 1) :
    Calls Try.prog 14 #[.pointer (some ⟨b, 0, none⟩), .agg (opCells o dv cv)] w (OpPost b ρ w (s.append o.name.data.toList o.data)) := by
  obtain ⟨da, dc, hds⟩ := ho.data.shape
  obtain ⟨ca, cc, hcs⟩ := ho.cuts.shape
  subst hds hcs
  obtain ⟨kind, name, dst, data, n, m, dirs, cuts⟩ := o
  simp only at hk
  subst hk
  simp only [opCells] at *
  have hon : Only (fun _ => False) w (w.alloc (.cells #[.int .i64 1, .string name, .string dst, .slice da data.length dc, .int .i64 n, .int .i64 m, .int .i64 dirs, .slice ca cuts.length cc] 39)) := Only.alloc _
  have hbox := heap_alloc_new w (.cells #[.int .i64 1, .string name, .string dst, .slice da data.length dc, .int .i64 n, .int .i64 m, .int .i64 dirs, .slice ca cuts.length cc] 39)
  have HN := Lib.hid ho.name
  have HDL := Lib.hid ho.dlen
  have HDA := Lib.hid (ho.data.kept (w' := w.alloc (.cells #[.int .i64 1, .string name, .string dst, .slice da data.length dc, .int .i64 n, .int .i64 m, .int .i64 dirs, .slice ca cuts.length cc] 39)) (fun k hk => hon.block k hk.1 (fun x => x)) (fun k hk => hk))
  have HH := Lib.hid h; have HW := Lib.hid hwf; have HST := Lib.hid hst
  clear h hwf hst ho
  go_enter Try.func14, Try.ntmps14
  go_wp2
  have x1 : (w.alloc (.cells #[.int .i64 1, .string name, .string dst, .slice da data.length dc, .int .i64 n, .int .i64 m, .int .i64 dirs, .slice ca cuts.length cc] 39)).cell? ⟨w.heap.size, 1, none⟩ = some (.string name) := by rw [cell_of hbox]; rfl
  have x3 : (w.alloc (.cells #[.int .i64 1, .string name, .string dst, .slice da data.length dc, .int .i64 n, .int .i64 m, .int .i64 dirs, .slice ca cuts.length cc] 39)).cell? ⟨w.heap.size, 3, none⟩ = some (.slice da data.length dc) := by rw [cell_of hbox]; rfl
  have hlt := lt_of_heap hbox
  have HON := Lib.hid hon
  clear hon hbox
  generalize w.alloc (.cells #[.int .i64 1, .string name, .string dst, .slice da data.length dc, .int .i64 n, .int .i64 m, .int .i64 dirs, .slice ca cuts.length cc] 39) = w1 at *
  have hb0 : (w1.alloc (.cells #[] 5)).drew.ownsRow 0 5 1 (.slice (some ⟨w1.heap.size, 0, none⟩) 0 0) 0 [] := World.ownsRow_made w1 #[] 0 (Nat.zero_le _) (Nat.zero_le _) rfl
  have HB0 := Lib.hid hb0
  have HSRC : Hid (BytesAt (w1.alloc (.cells #[] 5)).drew (fun k => k < w.heap.size ∧ ρ k = none) (.slice da data.length dc) data) := HDA.out.kept (fun k hk => Below.heap_alloc w1 _ k (by omega)) (fun _ h => h)
  have HAP : Hid (∀ (a' : Option Addr) (c' : Nat) (w2 : World), w2.ownsRow 0 5 1 (.slice a' (0 + data.length) c') (0 + data.length) ([] ++ data.map byteV) → (w1.alloc (.cells #[] 5)).drew.grownBy w2 (Value.slice (some ⟨w1.heap.size, 0, none⟩) 0 0).ownBlock →
      ((Value.slice a' (0 + data.length) c').ownBlock = (Value.slice (some ⟨w1.heap.size, 0, none⟩) 0 0).ownBlock ∨ (Value.slice a' (0 + data.length) c').ownBlock = some (w1.alloc (.cells #[] 5)).drew.heap.size) →
      Calls Try.prog 21 #[.pointer (some ⟨b, 0, none⟩), .string name, .slice (some ⟨w2.heap.size, 0, none⟩) 1 1] (w2.alloc (.cells #[.slice a' data.length c'] 22)) (fun e w' => OpPost b ρ w (s.append name.data.toList data) e w' ∧ w'.heap[w.heap.size]? = w1.heap[w.heap.size]?)) := by
    intro a' c' w2 hown hgr hat
    have hB2 : w2.heap[w.heap.size]? = w1.heap[w.heap.size]? := (hgr.block _ (by simp; omega) (fun e => by have h3 : w.heap.size = w1.heap.size := Option.some.inj e; omega)).trans (Below.heap_alloc w1 _ _ hlt)
    have hBn : ρ w.heap.size = none := by
      cases hx : ρ w.heap.size with
      | none => rfl
      | some r => have := HH.out.low _ (by rw [hx]; simp); omega
    have hB3 : w.heap.size < w2.heap.size := by have := hgr.size; simp at this; omega
    rw [Nat.zero_add, List.nil_append] at hown
    rw [Nat.zero_add] at hat
    have ho2 : Only (fun _ => False) w w2 := by
      refine HON.out.trans ((Only.alloc (.cells #[] 5)).trans Only.drew |>.andThen (Only.of_grown hgr) fun k hk h => ?_)
      have h3 : k = w1.heap.size := Option.some.inj h
      omega
    have hz : w.heap.size ≤ w1.heap.size := HON.out.size
    refine (append_one (HH.out.only_none ho2) HW.out HST.out name HN.out ((BytesAt.of_row hown).kept (fun _ _ => rfl) fun k hk => ⟨(hown.lt k hk).2, ?_⟩) HDL.out).mono fun e w' hq => ⟨hq.after (Moves.none ho2), by
      obtain ⟨_, _, _, _, hmv⟩ := hq
      rw [hmv.only.block _ hB3 (by rw [hBn]; simp)]
      exact hB2⟩
    cases hx : ρ k with
    | none => rfl
    | some r =>
      exfalso
      have h1 := HH.out.low k (by rw [hx]; simp)
      rw [hk] at hat
      rcases hat with hat | hat
      · have h3 : k = w1.heap.size := Option.some.inj hat
        omega
      · have h3 := Option.some.inj hat
        simp at h3
        omega
  clear hb0
  go_region_held3 (fun w' => w'.cell? ⟨w.heap.size, 1, none⟩ = some (.string name) ∧ w'.cell? ⟨w.heap.size, 3, none⟩ = some (.slice da data.length dc))
    (first
      | go_keep
      | (go_split_ands
         refine ⟨?_, ?_⟩
         · (rw [hgr.cell_far _ (by simp; omega) (by simp [Value.ownBlock]; omega)]; assumption)
         · (rw [hgr.cell_far _ (by simp; omega) (by simp [Value.ownBlock]; omega)]; assumption)))
    (first
      | (refine step_append_bytes _ (by rfl) _ _ (by rfl) _ _ 0 [] (by rfl) (by rfl) HB0.out HSRC.out (by rw [Nat.zero_add]; exact HDL.out) ?_; intro a' c' w2 hown hgr hat)
      | (go_at_call 21; refine (HAP.out a' c' w2 hown hgr hat).mono ?_; rintro e w3 ⟨hq, hB⟩; have y1 := (World.cell?_of_block (a := ⟨w.heap.size, 1, none⟩) hB).trans x1; have y3 := (World.cell?_of_block (a := ⟨w.heap.size, 3, none⟩) hB).trans x3; have HQ := Lib.hid hq; obtain ⟨rfl, -⟩ := hq; clear hB))
  all_goals
    go_wp2
    go_ret
    exact HQ.out

end Go.Proofs.Ythjabfhfkikalaa
