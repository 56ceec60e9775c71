/- nonceOf. Conditions: few bytes. -/
import Derived.Test.YtgdnmbchhfbjoaaDoorSeTag
namespace Go.Proofs.YtgdnmbchhfbjoaaDoor
open Go.RowKit

theorem macsP_any {w : World} {vk v : Value} {key fs : List UInt8} (hv : PartsAt w (fun k => k < w.heap.size) v [fs]) (hk : BytesAt w (fun k => k < w.heap.size) vk key) (hkl : key.length = 32) (hl : fs.length ≤ 16777216) (hf : Fst w) (ht : Tab w) :
    Calls Tryd.prog 38 #[vk, v] w fun e w' => e = .returned (digV (Sh.mac key fs)) ∧ Only (fun _ => False) w w' := by
  have := sMac_any hk hv (fun _ h => h) (by omega) (by simp; omega) (by simp) hf ht
  simpa using this

/-- How far the nonce is: the rows that are laid, the block that is new. -/
structure NonSt (w0 w : World) (ks : List UInt8) (kind : UInt8) (ctx pl : List UInt8) (p q : Nat) (x9 x13 x16 x17 x18 x19 : Value) : Prop where
  one : p = 1 → BytesAt w (fun k => k < w.heap.size) x13 [kind]
  two : p = 2 → PartsAt w (fun k => k < w.heap.size) x16 [[kind], ctx, pl]
  three : p = 3 → BytesAt w (fun k => k < w.heap.size) x17 (Wi.pack [[kind], ctx, pl])
  four : p = 4 → PartsAt w (fun k => k < w.heap.size) x18 [Wi.pack [[kind], ctx, pl]]
  five : p = 5 → x19 = digV (Sh.mac (Se.name ks) (Wi.pack [[kind], ctx, pl]))
  new : q = 1 → ∃ g, x9 = .pointer (some ⟨g, 0, none⟩) ∧ w0.heap.size ≤ g ∧ Blk w g (ocells 32 []) 22

theorem PartsAt.here {w w' : World} {v : Value} {ps : List (List UInt8)} (h : PartsAt w (fun k => k < w.heap.size) v ps) (ho : Only (fun _ => False) w w') : PartsAt w' (fun k => k < w'.heap.size) v ps :=
  h.kept (fun k hk => ho.block k hk (fun x => x)) (fun _ hk => Nat.lt_of_lt_of_le hk ho.size)

theorem NonSt.newKept {w0 w w' : World} {ks : List UInt8} {kind : UInt8} {ctx pl : List UInt8} {p q : Nat} {x9 x13 x16 x17 x18 x19 : Value} (h : NonSt w0 w ks kind ctx pl p q x9 x13 x16 x17 x18 x19) (ho : Only (fun _ => False) w w') (e : q = 1) : ∃ g, x9 = .pointer (some ⟨g, 0, none⟩) ∧ w0.heap.size ≤ g ∧ Blk w' g (ocells 32 []) 22 := by
  obtain ⟨g, e1, e2, e3⟩ := h.new e
  exact ⟨g, e1, e2, e3.keep ho (fun x => x)⟩
theorem NonSt.kept {w0 w w' : World} {ks : List UInt8} {kind : UInt8} {ctx pl : List UInt8} {p q : Nat} {x9 x13 x16 x17 x18 x19 : Value} (h : NonSt w0 w ks kind ctx pl p q x9 x13 x16 x17 x18 x19) (ho : Only (fun _ => False) w w') : NonSt w0 w' ks kind ctx pl p q x9 x13 x16 x17 x18 x19 :=
  ⟨fun e => (h.one e).here ho (fun _ h => h), fun e => (h.two e).here ho, fun e => (h.three e).here ho (fun _ h => h), fun e => (h.four e).here ho, h.five, h.newKept ho⟩

theorem non0 : (secondOps Tryd.f30.body)[0]? = some { dst := some 10, op := Go.Op.fieldAddr 29 (Go.Operand.tmp 4) 2, type := 0, pos := "seal.go:53", after := #[], guard := none } := by kernel_rfl
theorem non1 : (secondOps Tryd.f30.body)[1]? = some { dst := some 11, op := Go.Op.slice 22 (Go.Operand.tmp 10) none none none, type := 23, pos := "seal.go:53", after := #[{ on := 0, ground := Go.Ground.data }], guard := none } := by kernel_rfl
theorem non2 : (secondOps Tryd.f30.body)[2]? = some { dst := some 12, op := Go.Op.move (Go.Operand.tmp 1), type := 5, pos := "seal.go:53", after := #[], guard := none } := by kernel_rfl
theorem non3 : (secondOps Tryd.f30.body)[3]? = some { dst := some 13, op := Go.Op.buildSlice 23 1 #[(0, Go.Operand.tmp 12)], type := 23, pos := "seal.go:53", after := #[{ on := 2, ground := Go.Ground.data }], guard := none } := by kernel_rfl
theorem non4 : (secondOps Tryd.f30.body)[4]? = some { dst := some 14, op := Go.Op.move (Go.Operand.tmp 2), type := 23, pos := "seal.go:53", after := #[], guard := none } := by kernel_rfl
theorem non5 : (secondOps Tryd.f30.body)[5]? = some { dst := some 15, op := Go.Op.move (Go.Operand.tmp 3), type := 23, pos := "seal.go:53", after := #[], guard := none } := by kernel_rfl
theorem non6 : (secondOps Tryd.f30.body)[6]? = some { dst := some 16, op := Go.Op.buildSlice 61 3 #[(0, Go.Operand.tmp 13), (1, Go.Operand.tmp 14), (2, Go.Operand.tmp 15)], type := 61, pos := "seal.go:53", after := #[{ on := 3, ground := Go.Ground.data }, { on := 4, ground := Go.Ground.data }, { on := 5, ground := Go.Ground.data }], guard := none } := by kernel_rfl
theorem non7 : (secondOps Tryd.f30.body)[7]? = some { dst := some 17, op := Go.Op.call { callee := Go.Callee.value (Go.Operand.func 39), args := #[Go.Operand.tmp 16], argTypes := #[61] }, type := 23, pos := "seal.go:53", after := #[{ on := 6, ground := Go.Ground.data }], guard := none } := by kernel_rfl
theorem non8 : (secondOps Tryd.f30.body)[8]? = some { dst := some 18, op := Go.Op.buildSlice 61 1 #[(0, Go.Operand.tmp 17)], type := 61, pos := "seal.go:53", after := #[{ on := 7, ground := Go.Ground.data }], guard := none } := by kernel_rfl
theorem non9 : (secondOps Tryd.f30.body)[9]? = some { dst := some 19, op := Go.Op.call { callee := Go.Callee.value (Go.Operand.func 38), args := #[Go.Operand.tmp 11, Go.Operand.tmp 18], argTypes := #[23, 61] }, type := 22, pos := "seal.go:53", after := #[{ on := 1, ground := Go.Ground.data }, { on := 8, ground := Go.Ground.data }, { on := 7, ground := Go.Ground.chain }], guard := none } := by kernel_rfl
theorem non10 : (secondOps Tryd.f30.body)[10]? = some { dst := some 9, op := Go.Op.alloc 22, type := 0, pos := "seal.go:53", after := #[], guard := none } := by kernel_rfl
theorem non11 : (secondOps Tryd.f30.body)[11]? = some { dst := none, op := Go.Op.store 22 (Go.Operand.tmp 9) (Go.Operand.tmp 19), type := 0, pos := "seal.go:53", after := #[{ on := 10, ground := Go.Ground.data }, { on := 9, ground := Go.Ground.data }, { on := 9, ground := Go.Ground.chain }, { on := 0, ground := Go.Ground.phase }, { on := 1, ground := Go.Ground.phase }, { on := 2, ground := Go.Ground.phase }, { on := 3, ground := Go.Ground.phase }, { on := 4, ground := Go.Ground.phase }, { on := 5, ground := Go.Ground.phase }, { on := 6, ground := Go.Ground.phase }, { on := 7, ground := Go.Ground.phase }, { on := 8, ground := Go.Ground.phase }, { on := 9, ground := Go.Ground.phase }, { on := 10, ground := Go.Ground.phase }], guard := none } := by kernel_rfl

def nonL (p q : Nat) : Array Bool := #[true, true, true, decide (1 ≤ p), true, true, decide (2 ≤ p), decide (3 ≤ p), decide (4 ≤ p), decide (5 ≤ p), decide (1 ≤ q), false]
def nonMay (p q i : Nat) : Bool := (i == 3 && p == 0) || (i == 6 && p == 1) || (i == 7 && p == 2) || (i == 8 && p == 3) || (i == 9 && p == 4) || (i == 10 && q == 0)
theorem non_all : ((List.range 6).all fun p => (List.range 2).all fun q => p + q == 6 || (!(Region.ready .any (secondOps Tryd.f30.body) (nonL p q)).isEmpty && (Region.ready .any (secondOps Tryd.f30.body) (nonL p q)).all (nonMay p q))) = true := by kernel_rfl
theorem non_may {p q : Nat} (h1 : p ≤ 5) (h2 : q ≤ 1) (hs : p + q < 6) : Region.ready .any (secondOps Tryd.f30.body) (nonL p q) ≠ [] ∧ ∀ i ∈ Region.ready .any (secondOps Tryd.f30.body) (nonL p q),
    (i = 3 ∧ p = 0) ∨ (i = 6 ∧ p = 1) ∨ (i = 7 ∧ p = 2) ∨ (i = 8 ∧ p = 3) ∨ (i = 9 ∧ p = 4) ∨ (i = 10 ∧ q = 0) := by
  have h := List.all_eq_true.1 (List.all_eq_true.1 non_all p (by simp; omega)) q (by simp; omega)
  have hn : (p + q == 6) = false := by simp; omega
  rw [hn, Bool.false_or, Bool.and_eq_true] at h
  refine ⟨fun e => by rw [e] at h; simp at h, fun i hi => ?_⟩
  have := List.all_eq_true.1 h.2 i hi
  simpa [nonMay, or_assoc] using this

theorem non_as {Q : Exit → Act → World → Prop} {n : Nat} {L L' : Array Bool} {a : Act} {w : World} (h : L = L') (hh : wpAny Tryd.prog .any (secondOps Tryd.f30.body) Q n L a w) : wpAny Tryd.prog .any (secondOps Tryd.f30.body) Q n L' a w := h ▸ hh

set_option maxRecDepth 100000 in
set_option maxHeartbeats 1000000 in
theorem non_region {Q : Exit → Act → World → Prop} {w0 : World} {gK gR : Nat} {ks ctx pl : List UInt8} {kind : UInt8} {vc vp : Value} (hk : ks.length = 96) (hK : Blk w0 gK (ks.map byteV) 29) (hc : BytesAt w0 (fun k => k < w0.heap.size) vc ctx) (hp : BytesAt w0 (fun k => k < w0.heap.size) vp pl) (hl : Sml (tot [[kind], ctx, pl])) (hf : Fst w0) (ht : Tab w0)
    (hQ : ∀ x9 x13 x16 x17 x18 x19 w g, Only (fun _ => False) w0 w → w0.heap.size ≤ g → Blk w g (ocells 32 []) 22 → x9 = .pointer (some ⟨g, 0, none⟩) → Q .normal ⟨#[.agg (ks.map byteV).toArray, .int .u8 (kind.toNat : Int), vc, vp, .pointer (some ⟨gK, 0, none⟩), undef, undef, undef, .pointer (some ⟨gR, 0, none⟩), x9, .pointer (some ⟨gK, 64, none⟩), .slice (some ⟨gK, 64, none⟩) 32 32, .int .u8 (kind.toNat : Int), x13, vc, vp, x16, x17, x18, x19, undef, undef, undef], []⟩ (w.setRow g ((Sh.mac (Se.name ks) (Wi.pack [[kind], ctx, pl])).map byteV).toArray)) :
    ∀ n p q, p ≤ 5 → q ≤ 1 → p + q + n = 6 → ∀ x9 x13 x16 x17 x18 x19 w, Only (fun _ => False) w0 w → NonSt w0 w ks kind ctx pl p q x9 x13 x16 x17 x18 x19 →
      wpAny Tryd.prog .any (secondOps Tryd.f30.body) Q (n + 1) (nonL p q) ⟨#[.agg (ks.map byteV).toArray, .int .u8 (kind.toNat : Int), vc, vp, .pointer (some ⟨gK, 0, none⟩), undef, undef, undef, .pointer (some ⟨gR, 0, none⟩), x9, .pointer (some ⟨gK, 64, none⟩), .slice (some ⟨gK, 64, none⟩) 32 32, .int .u8 (kind.toNat : Int), x13, vc, vp, x16, x17, x18, x19, undef, undef, undef], []⟩ w := by
  obtain ⟨ca, cc, rfl⟩ := hc.shape
  obtain ⟨pa, pc, rfl⟩ := hp.shape
  intro n
  induction n with
  | zero =>
    intro p q h1 h2 hs x9 x13 x16 x17 x18 x19 w ho st
    obtain rfl : p = 5 := by omega
    obtain rfl : q = 1 := by omega
    obtain ⟨g, rfl, hg, hb⟩ := st.new rfl
    obtain rfl := st.five rfl
    have hml : (Sh.mac (Se.name ks) (Wi.pack [[kind], ctx, pl])).length = 32 := sum_len _
    have hQ' := hQ (.pointer (some ⟨g, 0, none⟩)) x13 x16 x17 x18 (digV (Sh.mac (Se.name ks) (Wi.pack [[kind], ctx, pl]))) w g ho hg hb rfl
    generalize Sh.mac (Se.name ks) (Wi.pack [[kind], ctx, pl]) = M at *
    refine wpAny_ready (rs := [11]) (by kernel_rfl) (by simp) (AllReady.cons non11 (fun J hJ => ?_) AllReady.nil)
    refine step_store_row (by rfl) 22 (.tmp 9) (.tmp 19) rfl g (M.map byteV).toArray rfl rfl 22 (ocells 32 []).toArray hb.heap (size_a32 hml) (by simp [ocells, hml]) (oneCell_bytes _) ?_
    exact hJ _ _ (wpAny_done (by kernel_rfl) hQ' _)
  | succ n ih =>
    intro p q h1 h2 hs x9 x13 x16 x17 x18 x19 w ho st
    obtain ⟨hne, hmay⟩ := non_may h1 h2 (by omega)
    refine ⟨fun e => absurd e hne, fun i hi => ?_⟩
    rcases hmay i hi with ⟨rfl, rfl⟩ | ⟨rfl, rfl⟩ | ⟨rfl, rfl⟩ | ⟨rfl, rfl⟩ | ⟨rfl, rfl⟩ | ⟨rfl, rfl⟩
    · refine wpOp_step non3 fun J hJ => ?_
      go_simp
      refine hJ _ _ (non_as (by rfl) (ih 1 q (by omega) h2 (by omega) x9 _ x16 x17 x18 x19 _ (ho.trans (Only.alloc _)) ?_))
      exact ⟨fun _ => (one_byte w kind).mono (fun k hk => by rw [hk]; simp), fun e => by omega, fun e => by omega, fun e => by omega, fun e => by omega, fun e => st.newKept (Only.alloc _) e⟩
    · have h13 := st.one rfl
      obtain ⟨a13, c13, rfl⟩ := h13.shape
      refine wpOp_step non6 fun J hJ => ?_
      go_simp
      refine hJ _ _ (non_as (by rfl) (ih 2 q (by omega) h2 (by omega) x9 _ _ x17 x18 x19 _ (ho.trans (Only.alloc _)) ?_))
      exact ⟨fun e => by omega, fun _ => three_blk (Blk.new w [_, _, _] 23) (h13.here (Only.alloc _) (fun _ h => h)) (hc.here (ho.trans (Only.alloc _)) (fun _ h => h)) (hp.here (ho.trans (Only.alloc _)) (fun _ h => h)), fun e => by omega, fun e => by omega, fun e => by omega, fun e => st.newKept (Only.alloc _) e⟩
    · have HP := Lib.hid (packs_any (st.two rfl) (by simp) hl)
      refine wpOp_step non7 fun J hJ => ?_
      go_simp
      refine HP.out.mono ?_
      rintro e w' ⟨a, c, rfl, hb, ho'⟩
      refine hJ _ _ (non_as (by rfl) (ih 3 q (by omega) h2 (by omega) x9 x13 x16 _ x18 x19 _ (ho.trans ho') ?_))
      exact ⟨fun e => by omega, fun e => by omega, fun _ => hb, fun e => by omega, fun e => by omega, fun e => st.newKept ho' e⟩
    · have h17 := st.three rfl
      obtain ⟨a17, c17, rfl⟩ := h17.shape
      refine wpOp_step non8 fun J hJ => ?_
      go_simp
      refine hJ _ _ (non_as (by rfl) (ih 4 q (by omega) h2 (by omega) x9 x13 x16 _ _ x19 _ (ho.trans (Only.alloc _)) ?_))
      exact ⟨fun e => by omega, fun e => by omega, fun e => by omega, fun _ => part_at (Blk.new w [_] 23) (h17.here (Only.alloc _) (fun _ h => h)) (fun _ h => h), fun e => by omega, fun e => st.newKept (Only.alloc _) e⟩
    · have hkb := (hK.keep ho (fun x => x)).part (o := 64) (n := 32) (Se.name_len hk)
      have HM := Lib.hid (macsP_any (st.four rfl) hkb (Se.name_len hk) (packs_len (by simp) hl) (hf.only ho (fun x => x)) (ht.only ho (fun x => x)))
      refine wpOp_step non9 fun J hJ => ?_
      go_simp
      refine HM.out.mono ?_
      rintro e w' ⟨rfl, ho'⟩
      refine hJ _ _ (non_as (by rfl) (ih 5 q (by omega) h2 (by omega) x9 x13 x16 x17 x18 _ _ (ho.trans ho') ?_))
      exact ⟨fun e => by omega, fun e => by omega, fun e => by omega, fun e => by omega, fun _ => rfl, fun e => st.newKept ho' e⟩
    · refine wpOp_step non10 fun J hJ => ?_
      go_simp
      rw [← z32]
      refine hJ _ _ (non_as (by rfl) (ih p 1 h1 (by omega) (by omega) _ x13 x16 x17 x18 x19 _ (ho.trans (Only.alloc _)) ?_))
      have sk := st.kept (w' := w.alloc (.cells (ocells 32 []).toArray 22)) (Only.alloc _)
      exact ⟨sk.one, sk.two, sk.three, sk.four, sk.five, fun _ => ⟨_, rfl, ho.size, Blk.new _ _ _⟩⟩

set_option maxRecDepth 100000 in
set_option maxHeartbeats 1000000 in
theorem nonce_any {w : World} {S : Nat → Prop} {vc vp : Value} {ks ctx pl : List UInt8} {kind : UInt8} (hk : ks.length = 96) (hc : BytesAt w S vc ctx) (hp : BytesAt w S vp pl) (hS : ∀ k, S k → k < w.heap.size) (hl : Sml (tot [[kind], ctx, pl])) (hf : Fst w) (ht : Tab w) :
    Calls Tryd.prog 30 #[digV ks, byteV kind, vc, vp] w fun e w' => e = .returned (digV (Se.nonce ks kind ctx pl)) ∧ Only (fun _ => False) w w' := by
  have hr0 : Blk ((w.alloc (.cells (ks.map byteV).toArray 29)).alloc (.cells (ocells 12 []).toArray 64)) (w.heap.size + 1) (ocells 12 []) 64 := Blk.new1 _ _ _ _
  have hk0 := (Blk.new w (ks.map byteV) 29).alloc (.cells (ocells 12 []).toArray 64)
  have ho0 : Only (fun _ => False) w ((w.alloc (.cells (ks.map byteV).toArray 29)).alloc (.cells (ocells 12 []).toArray 64)) := (Only.alloc _).trans (Only.alloc _)
  have HR0 := Lib.hid hr0; have HK0 := Lib.hid hk0; have HO0 := Lib.hid ho0; have HKL := Lib.hid hk; have HC := Lib.hid hc; have HP := Lib.hid hp; have HS := Lib.hid hS; have HF := Lib.hid hf; have HT := Lib.hid ht
  have HNL := Lib.hid (Se.nonce_len ks kind ctx pl)
  clear hr0 hk0 ho0 hk hc hp hS hf ht
  unfold digV
  rw [show byteV kind = .int .u8 (kind.toNat : Int) from rfl]
  go_enter Tryd.func30, Tryd.ntmps30
  go_wp2_with fail
  refine wp_region_any (by kernel_rfl) ?_
  rw [← z12]
  change wpAny _ _ (secondOps Tryd.f30.body) _ 12 (Array.replicate 12 false) _ (World.drew ((w.alloc (.cells (ks.map byteV).toArray 29)).alloc (.cells (ocells 12 []).toArray 64)))
  generalize (w.alloc (.cells (ks.map byteV).toArray 29)).alloc (.cells (ocells 12 []).toArray 64) = w0 at *
  have HO1 : Hid (Only (fun _ => False) w w0.drew) := HO0.out.trans Only.drew
  have HR1 := Lib.hid HR0.out.drew; have HK1 := Lib.hid HK0.out.drew
  clear HO0 HR0 HK0
  generalize w0.drew = w1 at *
  refine wpAny_take (i := 0) (v := .pointer (some ⟨w.heap.size, 64, none⟩)) non0 (by kernel_rfl) (by kernel_rfl) (by kernel_rfl) (fun _ _ _ h => h) (Or.inl ⟨by rfl, fun w => by go_simp⟩) ?_
  simp only [Act.put, List.setIfInBounds_toArray, List.set_cons_zero, List.set_cons_succ]
  refine wpAny_take (i := 1) (v := .slice (some ⟨w.heap.size, 64, none⟩) 32 32) non1 (by kernel_rfl) (by kernel_rfl) (by kernel_rfl) (fun _ _ _ h => h) (Or.inl ⟨by rfl, fun w => by go_simp⟩) ?_
  simp only [Act.put, List.setIfInBounds_toArray, List.set_cons_zero, List.set_cons_succ]
  refine wpAny_take (i := 2) (v := .int .u8 kind.toNat) non2 (by kernel_rfl) (by kernel_rfl) (by kernel_rfl) (fun _ _ _ h => h) (Or.inl ⟨by rfl, fun w => by go_simp⟩) ?_
  simp only [Act.put, List.setIfInBounds_toArray, List.set_cons_zero, List.set_cons_succ]
  refine wpAny_take (i := 4) (v := vc) non4 (by kernel_rfl) (by kernel_rfl) (by kernel_rfl) (fun _ _ _ h => h) (Or.inl ⟨by rfl, fun w => by go_simp⟩) ?_
  simp only [Act.put, List.setIfInBounds_toArray, List.set_cons_zero, List.set_cons_succ]
  refine wpAny_take (i := 5) (v := vp) non5 (by kernel_rfl) (by kernel_rfl) (by kernel_rfl) (fun _ _ _ h => h) (Or.inl ⟨by rfl, fun w => by go_simp⟩) ?_
  simp only [Act.put, List.setIfInBounds_toArray, List.set_cons_zero, List.set_cons_succ]
  refine non_as (L := nonL 0 0) (by kernel_rfl) ?_
  refine non_region HKL.out HK1.out (HC.out.here HO1.out HS.out) (HP.out.here HO1.out HS.out) hl (HF.out.only HO1.out (fun x => x)) (HT.out.only HO1.out (fun x => x)) ?_ 6 0 0 (by omega) (by omega) rfl _ _ _ _ _ _ _ (Only.refl _ _) ⟨fun e => by omega, fun e => by omega, fun e => by omega, fun e => by omega, fun e => by omega, fun e => by omega⟩
  intro x9 x13 x16 x17 x18 x19 w2 g ho2 hg hb2 hx9
  subst hx9
  have hb3 := hb2.row ((Sh.mac (Se.name ks) (Wi.pack [[kind], ctx, pl])).map byteV)
  have ho3 : Only (fun k => k = g) w2 (w2.setRow g ((Sh.mac (Se.name ks) (Wi.pack [[kind], ctx, pl])).map byteV).toArray) := Only.setRow _ _
  have hml : (Sh.mac (Se.name ks) (Wi.pack [[kind], ctx, pl])).length = 32 := sum_len _
  have hz1 := HO1.out.size
  have hr1lt := HR1.out.lt
  have HR3 := Lib.hid ((HR1.out.keep ho2 (fun x => x)).keep ho3 (by omega))
  have HO3 : Hid (Only (fun _ => False) w (w2.setRow g ((Sh.mac (Se.name ks) (Wi.pack [[kind], ctx, pl])).map byteV).toArray)) := (HO1.out.trans ho2).andThen ho3 (fun k hk e => by omega)
  have hnd : Se.nonce ks kind ctx pl = ((Sh.mac (Se.name ks) (Wi.pack [[kind], ctx, pl])).drop 0).take 12 := rfl
  have HRG := Lib.hid (hb3.mid (o := 0) (n := 12))
  rw [← hnd] at HRG
  generalize w2.setRow g ((Sh.mac (Se.name ks) (Wi.pack [[kind], ctx, pl])).map byteV).toArray = w3 at *
  have hsl : ∀ W, (Instr.sliceAt 22 (.pointer (some ⟨g, 0, none⟩)) none (some (.int .i64 12)) none).run Tryd.prog W = .ok (.slice (some ⟨g, 0, none⟩) 12 32) W := fun W => slice_32_h g 12 (by decide) W
  have hpt := ptr_12 (some ⟨g, 0, none⟩) 12 32 (by decide)
  clear hb2 hb3 ho2 ho3 hml hnd hz1 hr1lt hg HR1 HK1 HO1 HC HP HS HF HT
  generalize hN : Se.nonce ks kind ctx pl = N at *
  go_wp2_with (first
    | (refine wpList_load_mid rfl 64 (.tmp 21) rfl g 0 rfl (N.map byteV) _ HRG.out Tryd.underlying64 rfl (by simpa using size_a12 HNL.out) ?_)
    | (refine wpList_store_row rfl 64 (.tmp 8) (.tmp 22) rfl (w.heap.size + 1) (N.map byteV).toArray rfl rfl 64 (ocells 12 []).toArray HR3.out.heap (size_a12 HNL.out) (by simp [ocells, HNL.out]) (oneCell_bytes _) ?_))
  have hfin := HR3.out.row (N.map byteV)
  exact bodyPost_ret (v := digV N) (results_cell_row rfl _ _ (w.heap.size + 1) 64 _ (0, 0) _ rfl hfin Tryd.underlying64 rfl (size_a12 HNL.out)) rfl ⟨by rw [hN]; rfl, HO3.out.andThen (Only.setRow _ _) (fun k hk e => by omega)⟩

end Go.Proofs.YtgdnmbchhfbjoaaDoor
