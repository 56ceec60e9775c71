/- FromMaster: three keys, in whatever order their rows are laid. Conditions: none. -/
import Derived.Test.YtgdnmbchhfbjoaaDoorSeKey
import Derived.RegionTactic
namespace Go.Proofs.YtgdnmbchhfbjoaaDoor
open Go.RowKit

theorem fold_set (off : Nat) : ∀ (vs : List Value) (k : Nat) (cells : Array Value), off + k + vs.length ≤ cells.size →
    ((vs.zipIdx k).foldl (fun (cs : Array Value) (p : Value × Nat) => cs.setIfInBounds (off + p.2) p.1) cells).toList = cells.toList.take (off + k) ++ vs ++ cells.toList.drop (off + k + vs.length)
  | [], k, cells, _ => by simp
  | v :: vs, k, cells, h => by
    rw [List.zipIdx_cons, List.foldl_cons, fold_set off vs (k + 1) _ (by simp at h ⊢; omega)]
    simp only [Array.toList_setIfInBounds, List.length_cons] at h ⊢
    have hlt : off + k < cells.toList.length := by simp; omega
    rw [List.drop_set, if_pos (by omega), show off + (k + 1) = off + k + 1 by omega, List.take_succ_eq_append_getElem (by simpa using hlt), List.take_set_of_le (Nat.le_refl _)]
    simp [show off + k + 1 + vs.length = off + k + (vs.length + 1) by omega]

theorem fill_step {place : Nat → Option (Nat × Nat)} {cells : Array Value} {i off : Nat} {bs : List UInt8} {rest : List (Nat × Value)} (hp : place i = some (off, bs.length)) (h : off + bs.length ≤ cells.size) :
    Instr.fill place cells ((i, digV bs) :: rest) = Instr.fill place (cells.toList.take off ++ bs.map byteV ++ cells.toList.drop (off + bs.length)).toArray rest := by
  have hsz : (digV bs).cells.size = bs.length := by simp [digV, Value.cells]
  have e := fold_set off (bs.map byteV) 0 cells (by simpa using h)
  have e2 : (digV bs).cells.zipIdx.foldl (fun cs (c, j) => cs.setIfInBounds (off + j) c) cells = (cells.toList.take off ++ bs.map byteV ++ cells.toList.drop (off + bs.length)).toArray := by
    apply Array.toList_inj.1
    simp only [Nat.add_zero, List.length_map] at e
    rw [← e]
    have e3 : List.mapIdx (fun i a => (a, i)) (bs.map byteV) = (bs.map byteV).zipIdx := by
      apply List.ext_getElem?
      intro k
      simp [List.getElem?_mapIdx, List.getElem?_zipIdx]
    simp [digV, Value.cells, Array.zipIdx, e3]
  rw [Instr.fill, hp]
  simp only [hsz]
  rw [if_neg (by simp; omega), e2]

theorem built_as (parts : List (Nat × Value)) : Tryd.prog.built 29 parts = Instr.fill (#[(0, 32), (32, 32), (64, 32)][·]?) (ocells 96 []).toArray parts := by kernel_rfl

theorem built_keys {a b c : List UInt8} (ha : a.length = 32) (hb : b.length = 32) (hc : c.length = 32) : Tryd.prog.built 29 [(0, digV a), (1, digV b), (2, digV c)] = some ((a ++ b ++ c).map byteV).toArray := by
  have hz : (ocells 96 []).length = 96 := by simp [ocells]
  rw [built_as, fill_step (off := 0) (by rw [ha]; rfl) (by simp [hz, ha]), fill_step (off := 32) (by rw [hb]; rfl) (by simp [hz, ha, hb]), fill_step (off := 64) (by rw [hc]; rfl) (by simp [hz, ha, hb, hc])]
  unfold Instr.fill
  have d3 : ∀ (X : List Value), X.length = 96 → X.drop 96 = [] := fun X h => List.drop_of_length_le (by omega)
  have t1 : (a.map byteV).take 64 = a.map byteV := List.take_of_length_le (by simp [ha])
  simp [ha, hb, hc, hz, List.take_append, List.drop_append, d3, t1]

theorem zero_keys : (∀ w, (zeroValue 29).run Tryd.prog w = .ok (.agg (ocells 96 []).toArray) w) ∧ (Tryd.prog.info? 29).map (·.size) = some 96 :=
  zero_of_info (v := .agg (ocells 96 []).toArray) (n := 96) (by kernel_rfl)

/-- The operations of the region that draws its order. -/
def secondOps : Option Code → Array Oper
  | some (.seq _ (.seq (.region _ ops _) _)) => ops
  | _ => #[]
theorem from0 : (secondOps Tryd.f11.body)[0]? = some { dst := some 3, op := Go.Op.buildSlice 23 7 #[(0, Go.Operand.const (Go.Value.int Go.IntKind.u8 97)), (1, Go.Operand.const (Go.Value.int Go.IntKind.u8 109)), (2, Go.Operand.const (Go.Value.int Go.IntKind.u8 112)), (3, Go.Operand.const (Go.Value.int Go.IntKind.u8 104)), (4, Go.Operand.const (Go.Value.int Go.IntKind.u8 111)), (5, Go.Operand.const (Go.Value.int Go.IntKind.u8 114)), (6, Go.Operand.const (Go.Value.int Go.IntKind.u8 97))], type := 23, pos := "seal.go:25", after := #[], guard := none } := by kernel_rfl
theorem from1 : (secondOps Tryd.f11.body)[1]? = some { dst := some 4, op := Go.Op.convert 23 23 (Go.Operand.tmp 3), type := 23, pos := "seal.go:25", after := #[{ on := 0, ground := Go.Ground.data }], guard := none } := by kernel_rfl
theorem from2 : (secondOps Tryd.f11.body)[2]? = some { dst := some 5, op := Go.Op.slice 22 (Go.Operand.tmp 1) none none none, type := 23, pos := "seal.go:25", after := #[], guard := none } := by kernel_rfl
theorem from3 : (secondOps Tryd.f11.body)[3]? = some { dst := some 6, op := Go.Op.call { callee := Go.Callee.value (Go.Operand.func 28), args := #[Go.Operand.tmp 4, Go.Operand.tmp 5, Go.Operand.const (Go.Value.string { data := #[99, 105, 112, 104, 101, 114] })], argTypes := #[23, 23, 9] }, type := 22, pos := "seal.go:26", after := #[{ on := 1, ground := Go.Ground.data }, { on := 2, ground := Go.Ground.data }], guard := none } := by kernel_rfl
theorem from4 : (secondOps Tryd.f11.body)[4]? = some { dst := some 7, op := Go.Op.buildSlice 23 7 #[(0, Go.Operand.const (Go.Value.int Go.IntKind.u8 97)), (1, Go.Operand.const (Go.Value.int Go.IntKind.u8 109)), (2, Go.Operand.const (Go.Value.int Go.IntKind.u8 112)), (3, Go.Operand.const (Go.Value.int Go.IntKind.u8 104)), (4, Go.Operand.const (Go.Value.int Go.IntKind.u8 111)), (5, Go.Operand.const (Go.Value.int Go.IntKind.u8 114)), (6, Go.Operand.const (Go.Value.int Go.IntKind.u8 97))], type := 23, pos := "seal.go:25", after := #[], guard := none } := by kernel_rfl
theorem from5 : (secondOps Tryd.f11.body)[5]? = some { dst := some 8, op := Go.Op.convert 23 23 (Go.Operand.tmp 7), type := 23, pos := "seal.go:25", after := #[{ on := 4, ground := Go.Ground.data }], guard := none } := by kernel_rfl
theorem from6 : (secondOps Tryd.f11.body)[6]? = some { dst := some 9, op := Go.Op.slice 22 (Go.Operand.tmp 1) none none none, type := 23, pos := "seal.go:25", after := #[], guard := none } := by kernel_rfl
theorem from7 : (secondOps Tryd.f11.body)[7]? = some { dst := some 10, op := Go.Op.call { callee := Go.Callee.value (Go.Operand.func 28), args := #[Go.Operand.tmp 8, Go.Operand.tmp 9, Go.Operand.const (Go.Value.string { data := #[109, 97, 99] })], argTypes := #[23, 23, 9] }, type := 22, pos := "seal.go:27", after := #[{ on := 5, ground := Go.Ground.data }, { on := 6, ground := Go.Ground.data }, { on := 3, ground := Go.Ground.chain }], guard := none } := by kernel_rfl
theorem from8 : (secondOps Tryd.f11.body)[8]? = some { dst := some 11, op := Go.Op.buildSlice 23 7 #[(0, Go.Operand.const (Go.Value.int Go.IntKind.u8 97)), (1, Go.Operand.const (Go.Value.int Go.IntKind.u8 109)), (2, Go.Operand.const (Go.Value.int Go.IntKind.u8 112)), (3, Go.Operand.const (Go.Value.int Go.IntKind.u8 104)), (4, Go.Operand.const (Go.Value.int Go.IntKind.u8 111)), (5, Go.Operand.const (Go.Value.int Go.IntKind.u8 114)), (6, Go.Operand.const (Go.Value.int Go.IntKind.u8 97))], type := 23, pos := "seal.go:25", after := #[], guard := none } := by kernel_rfl
theorem from9 : (secondOps Tryd.f11.body)[9]? = some { dst := some 12, op := Go.Op.convert 23 23 (Go.Operand.tmp 11), type := 23, pos := "seal.go:25", after := #[{ on := 8, ground := Go.Ground.data }], guard := none } := by kernel_rfl
theorem from10 : (secondOps Tryd.f11.body)[10]? = some { dst := some 13, op := Go.Op.slice 22 (Go.Operand.tmp 1) none none none, type := 23, pos := "seal.go:25", after := #[], guard := none } := by kernel_rfl
theorem from11 : (secondOps Tryd.f11.body)[11]? = some { dst := some 14, op := Go.Op.call { callee := Go.Callee.value (Go.Operand.func 28), args := #[Go.Operand.tmp 12, Go.Operand.tmp 13, Go.Operand.const (Go.Value.string { data := #[110, 97, 109, 101] })], argTypes := #[23, 23, 9] }, type := 22, pos := "seal.go:28", after := #[{ on := 9, ground := Go.Ground.data }, { on := 10, ground := Go.Ground.data }, { on := 7, ground := Go.Ground.chain }], guard := none } := by kernel_rfl
theorem from12 : (secondOps Tryd.f11.body)[12]? = some { dst := some 15, op := Go.Op.build 29 #[(0, Go.Operand.tmp 6), (1, Go.Operand.tmp 10), (2, Go.Operand.tmp 14)], type := 29, pos := "seal.go:25", after := #[{ on := 3, ground := Go.Ground.data }, { on := 7, ground := Go.Ground.data }, { on := 11, ground := Go.Ground.data }], guard := none } := by kernel_rfl
theorem from13 : (secondOps Tryd.f11.body)[13]? = some { dst := none, op := Go.Op.store 29 (Go.Operand.tmp 2) (Go.Operand.tmp 15), type := 0, pos := "seal.go:25", after := #[{ on := 12, ground := Go.Ground.data }, { on := 11, ground := Go.Ground.chain }, { on := 0, ground := Go.Ground.phase }, { on := 1, ground := Go.Ground.phase }, { on := 2, ground := Go.Ground.phase }, { on := 3, ground := Go.Ground.phase }, { on := 4, ground := Go.Ground.phase }, { on := 5, ground := Go.Ground.phase }, { on := 6, ground := Go.Ground.phase }, { on := 7, ground := Go.Ground.phase }, { on := 8, ground := Go.Ground.phase }, { on := 9, ground := Go.Ground.phase }, { on := 10, ground := Go.Ground.phase }, { on := 11, ground := Go.Ground.phase }, { on := 12, ground := Go.Ground.phase }], guard := none } := by kernel_rfl

/-- What is done: the three chains stand at s1, s2, s3. -/
def fromL (s1 s2 s3 : Nat) : Array Bool := #[decide (1 ≤ s1), decide (2 ≤ s1), true, decide (3 ≤ s1), decide (1 ≤ s2), decide (2 ≤ s2), true, decide (3 ≤ s2), decide (1 ≤ s3), decide (2 ≤ s3), true, decide (3 ≤ s3), false, false]

/-- Which operation goes on which chain, and from where. -/
def fromMay (s1 s2 s3 i : Nat) : Bool :=
  (i == 0 && s1 == 0) || (i == 1 && s1 == 1) || (i == 3 && s1 == 2) || (i == 4 && s2 == 0) || (i == 5 && s2 == 1) || (i == 7 && s2 == 2) || (i == 8 && s3 == 0) || (i == 9 && s3 == 1) || (i == 11 && s3 == 2)

theorem from_all : ((List.range 4).all fun s1 => (List.range 4).all fun s2 => (List.range 4).all fun s3 => s1 + s2 + s3 == 9 || (!(Region.ready .any (secondOps Tryd.f11.body) (fromL s1 s2 s3)).isEmpty && (Region.ready .any (secondOps Tryd.f11.body) (fromL s1 s2 s3)).all (fromMay s1 s2 s3))) = true := by kernel_rfl

theorem from_may {s1 s2 s3 : Nat} (h1 : s1 ≤ 3) (h2 : s2 ≤ 3) (h3 : s3 ≤ 3) (hs : s1 + s2 + s3 < 9) : Region.ready .any (secondOps Tryd.f11.body) (fromL s1 s2 s3) ≠ [] ∧ ∀ i ∈ Region.ready .any (secondOps Tryd.f11.body) (fromL s1 s2 s3),
    (i = 0 ∧ s1 = 0) ∨ (i = 1 ∧ s1 = 1) ∨ (i = 3 ∧ s1 = 2) ∨ (i = 4 ∧ s2 = 0) ∨ (i = 5 ∧ s2 = 1) ∨ (i = 7 ∧ s2 = 2) ∨ (i = 8 ∧ s3 = 0) ∨ (i = 9 ∧ s3 = 1) ∨ (i = 11 ∧ s3 = 2) := by
  have h := List.all_eq_true.1 (List.all_eq_true.1 (List.all_eq_true.1 from_all s1 (by simp; omega)) s2 (by simp; omega)) s3 (by simp; omega)
  have hn : (s1 + s2 + s3 == 9) = false := by simp; omega
  rw [hn, Bool.false_or, Bool.and_eq_true] at h
  refine ⟨fun e => by rw [e] at h; simp at h, fun i hi => ?_⟩
  have := List.all_eq_true.1 h.2 i hi
  simpa [fromMay, or_assoc] using this

/-- A chain: its row is laid, marked, its key is derived. -/
structure Chn (w0 w : World) (m info : List UInt8) (s : Nat) (x y z : Value) : Prop where
  one : s = 1 → ∃ (g : Nat) (f : Nat × Nat), x = .slice (some ⟨g, 0, none⟩) 7 7 ∧ w0.heap.size ≤ g ∧ w.heap[g]? = some (.cells (Se.amphora.map byteV).toArray 5 f)
  two : s = 2 → ∃ (g : Nat) (f : Nat × Nat), y = .slice (some ⟨g, 0, none⟩) 7 7 ∧ w.heap[g]? = some (.cells (Se.amphora.map byteV).toArray 5 f)
  three : s = 3 → z = digV (derived Se.amphora m info 32)

/-- Rows stay, but for their marks. -/
def Stays (w w' : World) : Prop := ∀ (g : Nat) (C : Array Value) (f : Nat × Nat), w.heap[g]? = some (.cells C 5 f) → ∃ f' : Nat × Nat, w'.heap[g]? = some (.cells C 5 f')

theorem Stays.only {w w' : World} (h : Only (fun _ => False) w w') : Stays w w' := fun _ _ f hg => ⟨f, h.keep hg (fun x => x)⟩
theorem Stays.freeze (w : World) (b k : Nat) : Stays w (w.freeze ⟨b, k, none⟩ 1) := fun g C f hg => by
  by_cases e : b = g
  · subst e
    obtain ⟨lo, hi⟩ := f
    exact ⟨_, by simp [World.freeze, Array.getElem?_modify, hg]; rfl⟩
  · exact ⟨f, by simp [World.freeze, Array.getElem?_modify, e, hg]⟩

theorem Chn.stays {w0 w w' : World} {m info : List UInt8} {s : Nat} {x y z : Value} (h : Chn w0 w m info s x y z) (hs : Stays w w') : Chn w0 w' m info s x y z := by
  refine ⟨fun e => ?_, fun e => ?_, h.three⟩
  · obtain ⟨g, f, e1, e2, e3⟩ := h.one e
    obtain ⟨f', e4⟩ := hs g _ f e3
    exact ⟨g, f', e1, e2, e4⟩
  · obtain ⟨g, f, e1, e3⟩ := h.two e
    obtain ⟨f', e4⟩ := hs g _ f e3
    exact ⟨g, f', e1, e4⟩

theorem conv_marked {W : World} {g : Nat} {C : Array Value} {f : Nat × Nat} (h : W.heap[g]? = some (.cells C 5 f)) (n c : Nat) :
    (convert 23 23 (.slice (some ⟨g, 0, none⟩) n c)).run Tryd.prog W = .ok (.slice (some ⟨g, 0, none⟩) n c) (W.freeze ⟨g, C.size, none⟩ 1) := by
  have hsh : W.shape? g = some (5, C.size) := by
    unfold World.shape?
    rw [h]
  simp [convert, run_underlying Tryd.underlying23, run_underlying Tryd.underlying5, markStringish, hsh]

theorem wpAny_as {Q : Exit → Act → World → Prop} {n : Nat} {L L' : Array Bool} {a : Act} {w : World} (h : L = L') (hh : wpAny Tryd.prog .any (secondOps Tryd.f11.body) Q n L a w) : wpAny Tryd.prog .any (secondOps Tryd.f11.body) Q n L' a w := h ▸ hh

/-- build, store and a call, each as one step of a region that draws its order. -/
theorem step_built {ops : Array Oper} {o : Oper} {a : Act} {w : World} {K : Act → World → Prop} {Q : Exit → Act → World → Prop} {E : Prop} (hw : Region.wanted o (yielded ops a.tmps) = true) (t : TypeId) (parts : Array (Nat × Operand)) (ho : o.op = .build t parts)
    (ps : List (Nat × Value)) (hps : (parts.map fun (i, x) => (i, a.eval x)).toList = ps) (cells : Array Value) (hb : Tryd.prog.built t ps = some cells) (h : K (a.put o.dst (.agg cells)) w) : if Region.wanted o (yielded ops a.tmps) = true then Oper.wp Tryd.prog o a w K Q else E := by
  rw [if_pos hw]
  refine wp_build t parts ho ?_ ?_
  · rw [hps, hb]; rfl
  · rw [hps, hb]; exact h
theorem step_store_row {ops : Array Oper} {o : Oper} {a : Act} {w : World} {K : Act → World → Prop} {Q : Exit → Act → World → Prop} {E : Prop} (hw : Region.wanted o (yielded ops a.tmps) = true) (ty : TypeId) (x y : Operand) (ho : o.op = .store ty x y)
    (g : Nat) (cells : Array Value) (hx : a.eval x = .pointer (some ⟨g, 0, none⟩)) (hy : a.eval y = .agg cells)
    (t : TypeId) (old : Array Value) (hg : w.heap[g]? = some (.cells old t (0, 0))) (hi : (Tryd.prog.info? ty).map (·.size) = some cells.size)
    (hold : old.size = cells.size) (h1 : cells.all (·.oneCell') = true) (h : K (a.put o.dst undef) (w.setRow g cells)) : if Region.wanted o (yielded ops a.tmps) = true then Oper.wp Tryd.prog o a w K Q else E := by
  rw [if_pos hw]
  exact wp_store_row ty x y ho g cells hx hy t old hg hi hold h1 h

set_option maxRecDepth 100000 in
set_option maxHeartbeats 1000000 in
theorem from_region {Q : Exit → Act → World → Prop} {w0 : World} {g1 g2 : Nat} {m : List UInt8} {mv : Value} (hm : m.length = 32) (hb : Blk w0 g1 (m.map byteV) 22) (hz : Blk w0 g2 (ocells 96 []) 29) (hf : Fst w0) (ht : Tab w0)
    (hQ : ∀ x3 x4 x6 x7 x8 x10 x11 x12 x14 x15 w, Only (fun _ => False) w0 w → Q .normal ⟨#[mv, .pointer (some ⟨g1, 0, none⟩), .pointer (some ⟨g2, 0, none⟩), x3, x4, .slice (some ⟨g1, 0, none⟩) 32 32, x6, x7, x8, .slice (some ⟨g1, 0, none⟩) 32 32, x10, x11, x12, .slice (some ⟨g1, 0, none⟩) 32 32, x14, x15], []⟩ (w.setRow g2 ((Se.keys m).map byteV).toArray)) :
    ∀ n s1 s2 s3, s1 ≤ 3 → s2 ≤ 3 → s3 ≤ 3 → s1 + s2 + s3 + n = 9 → ∀ x3 x4 x6 x7 x8 x10 x11 x12 x14 w, Only (fun _ => False) w0 w → Chn w0 w m Se.tCipher s1 x3 x4 x6 → Chn w0 w m Se.tMac s2 x7 x8 x10 → Chn w0 w m Se.tName s3 x11 x12 x14 →
      wpAny Tryd.prog .any (secondOps Tryd.f11.body) Q (n + 2) (fromL s1 s2 s3) ⟨#[mv, .pointer (some ⟨g1, 0, none⟩), .pointer (some ⟨g2, 0, none⟩), x3, x4, .slice (some ⟨g1, 0, none⟩) 32 32, x6, x7, x8, .slice (some ⟨g1, 0, none⟩) 32 32, x10, x11, x12, .slice (some ⟨g1, 0, none⟩) 32 32, x14, undef], []⟩ w := by
  intro n
  induction n with
  | zero =>
    intro s1 s2 s3 h1 h2 h3 hs x3 x4 x6 x7 x8 x10 x11 x12 x14 w ho c1 c2 c3
    obtain rfl : s1 = 3 := by omega
    obtain rfl : s2 = 3 := by omega
    obtain rfl : s3 = 3 := by omega
    obtain rfl := c1.three rfl
    obtain rfl := c2.three rfl
    obtain rfl := c3.three rfl
    have hz' : Blk w g2 (ocells 96 []) 29 := hz.keep ho (fun x => x)
    have l1 := derived_len Se.amphora m Se.tCipher 32
    have l2 := derived_len Se.amphora m Se.tMac 32
    have l3 := derived_len Se.amphora m Se.tName 32
    have hk : Se.keys m = derived Se.amphora m Se.tCipher 32 ++ derived Se.amphora m Se.tMac 32 ++ derived Se.amphora m Se.tName 32 := rfl
    have hkl := Se.keys_len m
    rw [hk] at hQ hkl
    clear hk c1 c2 c3
    generalize derived Se.amphora m Se.tCipher 32 = d1 at *
    generalize derived Se.amphora m Se.tMac 32 = d2 at *
    generalize derived Se.amphora m Se.tName 32 = d3 at *
    refine wpAny_ready (rs := [12]) (by kernel_rfl) (by simp) (AllReady.cons from12 (fun K hK => ?_) AllReady.nil)
    refine step_built (by rfl) 29 _ rfl [(0, digV d1), (1, digV d2), (2, digV d3)] (by kernel_rfl) _ (built_keys l1 l2 l3) ?_
    refine hK _ _ ?_
    refine wpAny_ready (rs := [13]) (by kernel_rfl) (by simp) (AllReady.cons from13 (fun K hK => ?_) AllReady.nil)
    refine step_store_row (by rfl) 29 (.tmp 2) (.tmp 15) rfl g2 ((d1 ++ d2 ++ d3).map byteV).toArray rfl rfl 29 (ocells 96 []).toArray hz'.heap (size_keys hkl) (by simp [ocells, l1, l2, l3]) (oneCell_bytes _) ?_
    refine hK _ _ (wpAny_done (by kernel_rfl) ?_ _)
    exact hQ _ _ _ _ _ _ _ _ _ _ w ho
  | succ n ih =>
    intro s1 s2 s3 h1 h2 h3 hs x3 x4 x6 x7 x8 x10 x11 x12 x14 w ho c1 c2 c3
    obtain ⟨hne, hmay⟩ := from_may h1 h2 h3 (by omega)
    refine ⟨fun e => absurd e hne, fun i hi => ?_⟩
    rcases hmay i hi with ⟨rfl, rfl⟩ | ⟨rfl, rfl⟩ | ⟨rfl, rfl⟩ | ⟨rfl, rfl⟩ | ⟨rfl, rfl⟩ | ⟨rfl, rfl⟩ | ⟨rfl, rfl⟩ | ⟨rfl, rfl⟩ | ⟨rfl, rfl⟩
    · refine wpOp_step from0 fun K hK => ?_
      go_simp
      refine hK _ _ (wpAny_as (by rfl) (ih 1 s2 s3 (by omega) h2 h3 (by omega) _ x4 x6 x7 x8 x10 x11 x12 x14 _ (ho.trans (Only.alloc _)) ⟨fun _ => ⟨_, _, rfl, ho.size, heap_alloc_last _ _⟩, fun e => by omega, fun e => by omega⟩ (c2.stays (Stays.only (Only.alloc _))) (c3.stays (Stays.only (Only.alloc _)))))
    · obtain ⟨g, f, rfl, hg, hh⟩ := c1.one rfl
      have hcv := conv_marked hh 7 7
      obtain ⟨f', hh'⟩ := Stays.freeze w g (Se.amphora.map byteV).toArray.size g _ f hh
      have hO : Only (fun _ => False) w0 (w.freeze ⟨g, (Se.amphora.map byteV).toArray.size, none⟩ 1) := ho.andThen (freeze_only _ _) (fun k hk e => by omega)
      refine wpOp_step from1 fun K hK => ?_
      go_simp
      refine hK _ _ (wpAny_as (by rfl) (ih 2 s2 s3 (by omega) h2 h3 (by omega) _ _ x6 x7 x8 x10 x11 x12 x14 _ hO ⟨fun e => by omega, fun _ => ⟨g, f', rfl, hh'⟩, fun e => by omega⟩ (c2.stays (Stays.freeze _ _ _)) (c3.stays (Stays.freeze _ _ _))))
    · obtain ⟨g, f, rfl, hh⟩ := c1.two rfl
      have hby : BytesAt w (fun k => k < w.heap.size) (.slice (some ⟨g, 0, none⟩) 7 7) Se.amphora := (BytesAt.of_marked (bs := Se.amphora) (c := 7) hh (by decide)).mono (fun k hk => by rw [hk]; exact lt_of_heap hh)
      have hmb : BytesAt w (fun k => k < w.heap.size) (.slice (some ⟨g1, 0, none⟩) 32 32) m := ((hb.keep ho (fun x => x)).whole hm).mono (fun _ h => h)
      have HC := Lib.hid (ederived_any Se.tCipher hby hmb (fun _ h => h) (by decide) (by omega) (by decide) (hf.only ho (fun x => x)) (ht.only ho (fun x => x)))
      refine wpOp_step from3 fun K hK => ?_
      go_simp
      refine HC.out.mono ?_
      rintro e w' ⟨rfl, ho'⟩
      refine hK _ _ (wpAny_as (by rfl) (ih 3 s2 s3 (by omega) h2 h3 (by omega) x3 _ _ x7 x8 x10 x11 x12 x14 _ (ho.trans ho') ⟨fun e => by omega, fun e => by omega, fun _ => rfl⟩ (c2.stays (Stays.only ho')) (c3.stays (Stays.only ho'))))
    · refine wpOp_step from4 fun K hK => ?_
      go_simp
      refine hK _ _ (wpAny_as (by rfl) (ih s1 1 s3 h1 (by omega) h3 (by omega) x3 x4 x6 _ x8 x10 x11 x12 x14 _ (ho.trans (Only.alloc _)) (c1.stays (Stays.only (Only.alloc _))) ⟨fun _ => ⟨_, _, rfl, ho.size, heap_alloc_last _ _⟩, fun e => by omega, fun e => by omega⟩ (c3.stays (Stays.only (Only.alloc _)))))
    · obtain ⟨g, f, rfl, hg, hh⟩ := c2.one rfl
      have hcv := conv_marked hh 7 7
      obtain ⟨f', hh'⟩ := Stays.freeze w g (Se.amphora.map byteV).toArray.size g _ f hh
      have hO : Only (fun _ => False) w0 (w.freeze ⟨g, (Se.amphora.map byteV).toArray.size, none⟩ 1) := ho.andThen (freeze_only _ _) (fun k hk e => by omega)
      refine wpOp_step from5 fun K hK => ?_
      go_simp
      refine hK _ _ (wpAny_as (by rfl) (ih s1 2 s3 h1 (by omega) h3 (by omega) x3 x4 x6 _ _ x10 x11 x12 x14 _ hO (c1.stays (Stays.freeze _ _ _)) ⟨fun e => by omega, fun _ => ⟨g, f', rfl, hh'⟩, fun e => by omega⟩ (c3.stays (Stays.freeze _ _ _))))
    · obtain ⟨g, f, rfl, hh⟩ := c2.two rfl
      have hby : BytesAt w (fun k => k < w.heap.size) (.slice (some ⟨g, 0, none⟩) 7 7) Se.amphora := (BytesAt.of_marked (bs := Se.amphora) (c := 7) hh (by decide)).mono (fun k hk => by rw [hk]; exact lt_of_heap hh)
      have hmb : BytesAt w (fun k => k < w.heap.size) (.slice (some ⟨g1, 0, none⟩) 32 32) m := ((hb.keep ho (fun x => x)).whole hm).mono (fun _ h => h)
      have HC := Lib.hid (ederived_any Se.tMac hby hmb (fun _ h => h) (by decide) (by omega) (by decide) (hf.only ho (fun x => x)) (ht.only ho (fun x => x)))
      refine wpOp_step from7 fun K hK => ?_
      go_simp
      refine HC.out.mono ?_
      rintro e w' ⟨rfl, ho'⟩
      refine hK _ _ (wpAny_as (by rfl) (ih s1 3 s3 h1 (by omega) h3 (by omega) x3 x4 x6 x7 _ _ x11 x12 x14 _ (ho.trans ho') (c1.stays (Stays.only ho')) ⟨fun e => by omega, fun e => by omega, fun _ => rfl⟩ (c3.stays (Stays.only ho'))))
    · refine wpOp_step from8 fun K hK => ?_
      go_simp
      refine hK _ _ (wpAny_as (by rfl) (ih s1 s2 1 h1 h2 (by omega) (by omega) x3 x4 x6 x7 x8 x10 _ x12 x14 _ (ho.trans (Only.alloc _)) (c1.stays (Stays.only (Only.alloc _))) (c2.stays (Stays.only (Only.alloc _))) ⟨fun _ => ⟨_, _, rfl, ho.size, heap_alloc_last _ _⟩, fun e => by omega, fun e => by omega⟩))
    · obtain ⟨g, f, rfl, hg, hh⟩ := c3.one rfl
      have hcv := conv_marked hh 7 7
      obtain ⟨f', hh'⟩ := Stays.freeze w g (Se.amphora.map byteV).toArray.size g _ f hh
      have hO : Only (fun _ => False) w0 (w.freeze ⟨g, (Se.amphora.map byteV).toArray.size, none⟩ 1) := ho.andThen (freeze_only _ _) (fun k hk e => by omega)
      refine wpOp_step from9 fun K hK => ?_
      go_simp
      refine hK _ _ (wpAny_as (by rfl) (ih s1 s2 2 h1 h2 (by omega) (by omega) x3 x4 x6 x7 x8 x10 _ _ x14 _ hO (c1.stays (Stays.freeze _ _ _)) (c2.stays (Stays.freeze _ _ _)) ⟨fun e => by omega, fun _ => ⟨g, f', rfl, hh'⟩, fun e => by omega⟩))
    · obtain ⟨g, f, rfl, hh⟩ := c3.two rfl
      have hby : BytesAt w (fun k => k < w.heap.size) (.slice (some ⟨g, 0, none⟩) 7 7) Se.amphora := (BytesAt.of_marked (bs := Se.amphora) (c := 7) hh (by decide)).mono (fun k hk => by rw [hk]; exact lt_of_heap hh)
      have hmb : BytesAt w (fun k => k < w.heap.size) (.slice (some ⟨g1, 0, none⟩) 32 32) m := ((hb.keep ho (fun x => x)).whole hm).mono (fun _ h => h)
      have HC := Lib.hid (ederived_any Se.tName hby hmb (fun _ h => h) (by decide) (by omega) (by decide) (hf.only ho (fun x => x)) (ht.only ho (fun x => x)))
      refine wpOp_step from11 fun K hK => ?_
      go_simp
      refine HC.out.mono ?_
      rintro e w' ⟨rfl, ho'⟩
      refine hK _ _ (wpAny_as (by rfl) (ih s1 s2 3 h1 h2 (by omega) (by omega) x3 x4 x6 x7 x8 x10 x11 _ _ _ (ho.trans ho') (c1.stays (Stays.only ho')) (c2.stays (Stays.only ho')) ⟨fun e => by omega, fun e => by omega, fun _ => rfl⟩))

set_option maxRecDepth 100000 in
set_option maxHeartbeats 1000000 in
theorem from_any {w : World} {m : List UInt8} (hm : m.length = 32) (hf : Fst w) (ht : Tab w) :
    Calls Tryd.prog 11 #[digV m] w fun e w' => e = .returned (digV (Se.keys m)) ∧ Only (fun _ => False) w w' := by
  obtain ⟨hzk, hzn⟩ := zero_keys
  obtain ⟨Z, hZ⟩ : ∃ Z, Z = (ocells 96 []).toArray := ⟨_, rfl⟩
  rw [← hZ] at hzk
  have hb0 : Blk (w.alloc (.cells (m.map byteV).toArray 22)) w.heap.size (m.map byteV) 22 := Blk.new _ _ _
  have hz0 : Blk ((w.alloc (.cells (m.map byteV).toArray 22)).alloc (.cells Z 29)) (w.heap.size + 1) (ocells 96 []) 29 := by
    rw [hZ]; exact Blk.new1 _ _ _ _
  have ho0 : Only (fun _ => False) w ((w.alloc (.cells (m.map byteV).toArray 22)).alloc (.cells Z 29)) := (Only.alloc _).trans (Only.alloc _)
  have HB0 := Lib.hid (hb0.alloc (.cells Z 29)); have HZ0 := Lib.hid hz0; have HO0 := Lib.hid ho0; have HF := Lib.hid (hf.only ho0 (fun x => x)); have HT := Lib.hid (ht.only ho0 (fun x => x)); have HM := Lib.hid hm
  have HKL := Lib.hid (Se.keys_len m)
  clear hm hf ht hb0 hz0 ho0 hZ
  unfold digV
  go_enter Tryd.func11, Tryd.ntmps11
  go_wp2_with fail
  refine wp_region_any (by kernel_rfl) ?_
  generalize hw0 : (w.alloc (.cells (m.map byteV).toArray 22)).alloc (.cells Z 29) = w0 at *
  change wpAny _ _ (secondOps Tryd.f11.body) _ 14 (Array.replicate 14 false) _ w0.drew
  refine wpAny_take (i := 2) (v := .slice (some ⟨w.heap.size, 0, none⟩) 32 32) from2 (by kernel_rfl) (by kernel_rfl) (by kernel_rfl) (fun _ _ _ h => h) (Or.inl ⟨by rfl, fun w => by go_simp⟩) ?_
  simp only [Act.put, List.setIfInBounds_toArray, List.set_cons_zero, List.set_cons_succ]
  refine wpAny_take (i := 6) (v := .slice (some ⟨w.heap.size, 0, none⟩) 32 32) from6 (by kernel_rfl) (by kernel_rfl) (by kernel_rfl) (fun _ _ _ h => h) (Or.inl ⟨by rfl, fun w => by go_simp⟩) ?_
  simp only [Act.put, List.setIfInBounds_toArray, List.set_cons_zero, List.set_cons_succ]
  refine wpAny_take (i := 10) (v := .slice (some ⟨w.heap.size, 0, none⟩) 32 32) from10 (by kernel_rfl) (by kernel_rfl) (by kernel_rfl) (fun _ _ _ h => h) (Or.inl ⟨by rfl, fun w => by go_simp⟩) ?_
  simp only [Act.put, List.setIfInBounds_toArray, List.set_cons_zero, List.set_cons_succ]
  refine wpAny_as (L := fromL 0 0 0) (by kernel_rfl) ?_
  have h0 : ∀ info x y z, Chn w0.drew w0.drew m info 0 x y z := fun _ _ _ _ => ⟨fun e => by omega, fun e => by omega, fun e => by omega⟩
  refine from_region HM.out HB0.out.drew HZ0.out.drew (HF.out.only Only.drew (fun x => x)) (HT.out.only Only.drew (fun x => x)) ?_ 9 0 0 0 (by omega) (by omega) (by omega) rfl _ _ _ _ _ _ _ _ _ _ (Only.refl _ _) (h0 _ _ _ _) (h0 _ _ _ _) (h0 _ _ _ _)
  intro x3 x4 x6 x7 x8 x10 x11 x12 x14 x15 w1 ho1
  have HO1 := Lib.hid ((HO0.out.trans Only.drew).trans ho1)
  have hz1 := HZ0.out.drew.keep ho1 (fun x => x)
  have hfin := hz1.row ((Se.keys m).map byteV)
  clear ho1 h0
  generalize hws : w1.setRow (w.heap.size + 1) ((Se.keys m).map byteV).toArray = ws at *
  have HOS : Hid (Only (fun _ => False) w ws) := by
    rw [← hws]; exact HO1.out.andThen (Only.setRow _ _) (fun k hk e => by omega)
  go_wp2_with fail
  exact bodyPost_ret (v := digV (Se.keys m)) (results_cell_row rfl _ _ (w.heap.size + 1) 29 _ (0, 0) _ rfl hfin Tryd.underlying29 rfl (size_keys HKL.out)) rfl ⟨rfl, HOS.out⟩

end Go.Proofs.YtgdnmbchhfbjoaaDoor
