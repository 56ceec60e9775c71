/- The region of SealUnlocks that puts a byte behind the file, whatever its order. Conditions: none. -/
import Derived.Test.YtgdnmbchhfbjoaaDoorSeUnl
import Derived.RegionTactic
namespace Go.Proofs.YtgdnmbchhfbjoaaDoor
open Go.RowKit

/-- The operations of the region that puts a byte behind the file. -/
def appOps : Array Oper := #[{ dst := some 104, op := Go.Op.fieldAddr 49 (Go.Operand.tmp 2) 0, type := 0, pos := "law.go:134", after := #[], guard := none }, { dst := some 105, op := Go.Op.load 9 (Go.Operand.tmp 104), type := 9, pos := "law.go:134", after := #[{ on := 0, ground := Go.Ground.data }], guard := none }, { dst := some 106, op := Go.Op.buildSlice 23 0 #[], type := 23, pos := "law.go:134", after := #[], guard := none }, { dst := some 107, op := Go.Op.move (Go.Operand.tmp 5), type := 23, pos := "law.go:134", after := #[], guard := none }, { dst := some 108, op := Go.Op.call { callee := Go.Callee.builtin Go.Builtin.append, args := #[Go.Operand.tmp 106, Go.Operand.tmp 107], argTypes := #[23, 23] }, type := 23, pos := "law.go:134", after := #[{ on := 2, ground := Go.Ground.data }, { on := 3, ground := Go.Ground.data }], guard := none }, { dst := some 109, op := Go.Op.buildSlice 23 1 #[(0, Go.Operand.const (Go.Value.int Go.IntKind.u8 0))], type := 23, pos := "law.go:134", after := #[], guard := none }, { dst := some 110, op := Go.Op.call { callee := Go.Callee.builtin Go.Builtin.append, args := #[Go.Operand.tmp 108, Go.Operand.tmp 109], argTypes := #[23, 23] }, type := 23, pos := "law.go:134", after := #[{ on := 4, ground := Go.Ground.data }, { on := 5, ground := Go.Ground.data }, { on := 4, ground := Go.Ground.chain }], guard := none }, { dst := some 111, op := Go.Op.call { callee := Go.Callee.value (Go.Operand.func 23), args := #[Go.Operand.tmp 105, Go.Operand.tmp 110], argTypes := #[9, 23] }, type := 53, pos := "law.go:134", after := #[{ on := 1, ground := Go.Ground.data }, { on := 6, ground := Go.Ground.data }, { on := 6, ground := Go.Ground.chain }], guard := none }, { dst := some 103, op := Go.Op.move (Go.Operand.tmp 111), type := 53, pos := "law.go:134", after := #[{ on := 7, ground := Go.Ground.data }], guard := none }, { dst := some 112, op := Go.Op.extract (Go.Operand.tmp 103) 0, type := 22, pos := "law.go:134", after := #[{ on := 8, ground := Go.Ground.data }], guard := none }, { dst := some 113, op := Go.Op.extract (Go.Operand.tmp 103) 1, type := 42, pos := "law.go:134", after := #[{ on := 8, ground := Go.Ground.data }], guard := none }, { dst := some 10, op := Go.Op.assign (Go.Operand.tmp 113), type := 42, pos := "law.go:134", after := #[{ on := 10, ground := Go.Ground.data }, { on := 7, ground := Go.Ground.chain }, { on := 0, ground := Go.Ground.phase }, { on := 1, ground := Go.Ground.phase }, { on := 2, ground := Go.Ground.phase }, { on := 3, ground := Go.Ground.phase }, { on := 4, ground := Go.Ground.phase }, { on := 5, ground := Go.Ground.phase }, { on := 6, ground := Go.Ground.phase }, { on := 7, ground := Go.Ground.phase }, { on := 8, ground := Go.Ground.phase }, { on := 9, ground := Go.Ground.phase }, { on := 10, ground := Go.Ground.phase }], guard := none }]
theorem app0 : appOps[0]? = some { dst := some 104, op := Go.Op.fieldAddr 49 (Go.Operand.tmp 2) 0, type := 0, pos := "law.go:134", after := #[], guard := none } := by kernel_rfl
theorem app1 : appOps[1]? = some { dst := some 105, op := Go.Op.load 9 (Go.Operand.tmp 104), type := 9, pos := "law.go:134", after := #[{ on := 0, ground := Go.Ground.data }], guard := none } := by kernel_rfl
theorem app2 : appOps[2]? = some { dst := some 106, op := Go.Op.buildSlice 23 0 #[], type := 23, pos := "law.go:134", after := #[], guard := none } := by kernel_rfl
theorem app3 : appOps[3]? = some { dst := some 107, op := Go.Op.move (Go.Operand.tmp 5), type := 23, pos := "law.go:134", after := #[], guard := none } := by kernel_rfl
theorem app4 : appOps[4]? = some { dst := some 108, op := Go.Op.call { callee := Go.Callee.builtin Go.Builtin.append, args := #[Go.Operand.tmp 106, Go.Operand.tmp 107], argTypes := #[23, 23] }, type := 23, pos := "law.go:134", after := #[{ on := 2, ground := Go.Ground.data }, { on := 3, ground := Go.Ground.data }], guard := none } := by kernel_rfl
theorem app5 : appOps[5]? = some { dst := some 109, op := Go.Op.buildSlice 23 1 #[(0, Go.Operand.const (Go.Value.int Go.IntKind.u8 0))], type := 23, pos := "law.go:134", after := #[], guard := none } := by kernel_rfl
theorem app6 : appOps[6]? = some { dst := some 110, op := Go.Op.call { callee := Go.Callee.builtin Go.Builtin.append, args := #[Go.Operand.tmp 108, Go.Operand.tmp 109], argTypes := #[23, 23] }, type := 23, pos := "law.go:134", after := #[{ on := 4, ground := Go.Ground.data }, { on := 5, ground := Go.Ground.data }, { on := 4, ground := Go.Ground.chain }], guard := none } := by kernel_rfl
theorem app7 : appOps[7]? = some { dst := some 111, op := Go.Op.call { callee := Go.Callee.value (Go.Operand.func 23), args := #[Go.Operand.tmp 105, Go.Operand.tmp 110], argTypes := #[9, 23] }, type := 53, pos := "law.go:134", after := #[{ on := 1, ground := Go.Ground.data }, { on := 6, ground := Go.Ground.data }, { on := 6, ground := Go.Ground.chain }], guard := none } := by kernel_rfl
theorem app8 : appOps[8]? = some { dst := some 103, op := Go.Op.move (Go.Operand.tmp 111), type := 53, pos := "law.go:134", after := #[{ on := 7, ground := Go.Ground.data }], guard := none } := by kernel_rfl
theorem app9 : appOps[9]? = some { dst := some 112, op := Go.Op.extract (Go.Operand.tmp 103) 0, type := 22, pos := "law.go:134", after := #[{ on := 8, ground := Go.Ground.data }], guard := none } := by kernel_rfl
theorem app10 : appOps[10]? = some { dst := some 113, op := Go.Op.extract (Go.Operand.tmp 103) 1, type := 42, pos := "law.go:134", after := #[{ on := 8, ground := Go.Ground.data }], guard := none } := by kernel_rfl
theorem app11 : appOps[11]? = some { dst := some 10, op := Go.Op.assign (Go.Operand.tmp 113), type := 42, pos := "law.go:134", after := #[{ on := 10, ground := Go.Ground.data }, { on := 7, ground := Go.Ground.chain }, { on := 0, ground := Go.Ground.phase }, { on := 1, ground := Go.Ground.phase }, { on := 2, ground := Go.Ground.phase }, { on := 3, ground := Go.Ground.phase }, { on := 4, ground := Go.Ground.phase }, { on := 5, ground := Go.Ground.phase }, { on := 6, ground := Go.Ground.phase }, { on := 7, ground := Go.Ground.phase }, { on := 8, ground := Go.Ground.phase }, { on := 9, ground := Go.Ground.phase }, { on := 10, ground := Go.Ground.phase }], guard := none } := by kernel_rfl

def appL (a b c d : Nat) : Array Bool := #[true, decide (1 ≤ a), decide (1 ≤ b), true, decide (2 ≤ b), decide (1 ≤ c), decide (1 ≤ d), false, false, false, false, false]
def appMay (a b c d i : Nat) : Bool := (i == 1 && a == 0) || (i == 2 && b == 0) || (i == 4 && b == 1) || (i == 5 && c == 0) || (i == 6 && d == 0 && b == 2 && c == 1)
theorem app_all : ((List.range 2).all fun a => (List.range 3).all fun b => (List.range 2).all fun c => (List.range 2).all fun d => a + b + c + d == 5 || (!(Region.ready .any appOps (appL a b c d)).isEmpty && (d == 1 && b + c != 3 || (Region.ready .any appOps (appL a b c d)).all (appMay a b c d)))) = true := by kernel_rfl
theorem app_may {a b c d : Nat} (h1 : a ≤ 1) (h2 : b ≤ 2) (h3 : c ≤ 1) (h4 : d ≤ 1) (hd : d = 1 → b = 2 ∧ c = 1) (hs : a + b + c + d < 5) : Region.ready .any appOps (appL a b c d) ≠ [] ∧ ∀ i ∈ Region.ready .any appOps (appL a b c d),
    (i = 1 ∧ a = 0) ∨ (i = 2 ∧ b = 0) ∨ (i = 4 ∧ b = 1) ∨ (i = 5 ∧ c = 0) ∨ (i = 6 ∧ d = 0 ∧ b = 2 ∧ c = 1) := by
  have h := List.all_eq_true.1 (List.all_eq_true.1 (List.all_eq_true.1 (List.all_eq_true.1 app_all a (by simp; omega)) b (by simp; omega)) c (by simp; omega)) d (by simp; omega)
  have hn : (a + b + c + d == 5) = false := by simp; omega
  have hd' : (d == 1 && b + c != 3) = false := by
    by_cases e : d = 1
    · obtain ⟨rfl, rfl⟩ := hd e
      simp
    · simp [e]
  rw [hn, Bool.false_or, hd', Bool.false_or, Bool.and_eq_true] at h
  refine ⟨fun e => by rw [e] at h; simp at h, fun i hi => ?_⟩
  have := List.all_eq_true.1 h.2 i hi
  simp [appMay] at this
  omega

/-- How far it is. -/
structure ApSt (w0 w : World) (pw B : List UInt8) (a b c d : Nat) (x105 x106 x108 x109 x110 : Value) : Prop where
  one : a = 1 → x105 = textV pw
  empty : b = 1 → Row w0 w x106 []
  row : d = 0 → b = 2 → Row w0 w x108 B
  zero : d = 0 → c = 1 → ∃ g, x109 = .slice (some ⟨g, 0, none⟩) 1 1 ∧ Blk w g [byteV 0] 5 ∧ (b = 1 → x106.ownBlock ≠ some g) ∧ (b = 2 → x108.ownBlock ≠ some g)
  full : d = 1 → Row w0 w x110 (B ++ [0])

theorem app_as {Q : Exit → Act → World → Prop} {n : Nat} {L L' : Array Bool} {a : Act} {w : World} (h : L = L') (hh : wpAny Tryd.prog .any appOps Q n L a w) : wpAny Tryd.prog .any appOps Q n L' a w := h ▸ hh

set_option maxRecDepth 100000 in
set_option maxHeartbeats 2000000 in
theorem app_region {Q : Exit → Act → World → Prop} {w0 : World} {gL bc nB : Nat} {ba : Option Addr} {pw B : List UInt8} {f0 f1 f3 f4 f6 f7 f8 f9 f10 f11 f12 f13 f14 f15 f16 f17 f18 f19 f20 f21 f22 f23 f24 f25 f26 f27 f28 f29 f30 f31 f32 f33 f34 f35 f36 f37 f38 f39 f40 f41 f42 f43 f44 f45 f46 f47 f48 f49 f50 f51 f52 f53 f54 f55 f56 f57 f58 f59 f60 f61 f62 f63 f64 f65 f66 f67 f68 f69 f70 f71 f72 f73 f74 f75 f76 f77 f78 f79 f80 f81 f82 f83 f84 f85 f86 f87 f88 f89 f90 f91 f92 f93 f94 f95 f96 f97 f98 f99 f100 f101 f102 f103 f114 f115 f116 : Value} (hL : w0.cell? ⟨gL, 0, none⟩ = some (textV pw)) (hLl : gL < w0.heap.size) (hB : BytesAt w0 (fun k => k < w0.heap.size) (.slice ba nB bc) B) (hl : B.length ≤ 1048576) (hnB : B.length = nB)
    (hQ : ∀ x105 x106 x108 x109 x110 w, Only (fun _ => False) w0 w → x105 = textV pw → Row w0 w x110 (B ++ [0]) → wpAny Tryd.prog .any appOps Q 5 (appL 1 2 1 1) ⟨(List.toArray (f0 :: f1 :: .pointer (some ⟨gL, 0, none⟩) :: f3 :: f4 :: .slice ba nB bc :: f6 :: f7 :: f8 :: f9 :: f10 :: f11 :: f12 :: f13 :: f14 :: f15 :: f16 :: f17 :: f18 :: f19 :: f20 :: f21 :: f22 :: f23 :: f24 :: f25 :: f26 :: f27 :: f28 :: f29 :: f30 :: f31 :: f32 :: f33 :: f34 :: f35 :: f36 :: f37 :: f38 :: f39 :: f40 :: f41 :: f42 :: f43 :: f44 :: f45 :: f46 :: f47 :: f48 :: f49 :: f50 :: f51 :: f52 :: f53 :: f54 :: f55 :: f56 :: f57 :: f58 :: f59 :: f60 :: f61 :: f62 :: f63 :: f64 :: f65 :: f66 :: f67 :: f68 :: f69 :: f70 :: f71 :: f72 :: f73 :: f74 :: f75 :: f76 :: f77 :: f78 :: f79 :: f80 :: f81 :: f82 :: f83 :: f84 :: f85 :: f86 :: f87 :: f88 :: f89 :: f90 :: f91 :: f92 :: f93 :: f94 :: f95 :: f96 :: f97 :: f98 :: f99 :: f100 :: f101 :: f102 :: f103 :: .pointer (some ⟨gL, 0, none⟩) :: x105 :: x106 :: .slice ba nB bc :: x108 :: x109 :: x110 :: undef :: undef :: undef :: f114 :: f115 :: f116 :: [])), []⟩ w) :
    ∀ n a b c d, a ≤ 1 → b ≤ 2 → c ≤ 1 → d ≤ 1 → (d = 1 → b = 2 ∧ c = 1) → a + b + c + d + n = 5 → ∀ x105 x106 x108 x109 x110 w, Only (fun _ => False) w0 w → ApSt w0 w pw B a b c d x105 x106 x108 x109 x110 →
      wpAny Tryd.prog .any appOps Q (n + 5) (appL a b c d) ⟨(List.toArray (f0 :: f1 :: .pointer (some ⟨gL, 0, none⟩) :: f3 :: f4 :: .slice ba nB bc :: f6 :: f7 :: f8 :: f9 :: f10 :: f11 :: f12 :: f13 :: f14 :: f15 :: f16 :: f17 :: f18 :: f19 :: f20 :: f21 :: f22 :: f23 :: f24 :: f25 :: f26 :: f27 :: f28 :: f29 :: f30 :: f31 :: f32 :: f33 :: f34 :: f35 :: f36 :: f37 :: f38 :: f39 :: f40 :: f41 :: f42 :: f43 :: f44 :: f45 :: f46 :: f47 :: f48 :: f49 :: f50 :: f51 :: f52 :: f53 :: f54 :: f55 :: f56 :: f57 :: f58 :: f59 :: f60 :: f61 :: f62 :: f63 :: f64 :: f65 :: f66 :: f67 :: f68 :: f69 :: f70 :: f71 :: f72 :: f73 :: f74 :: f75 :: f76 :: f77 :: f78 :: f79 :: f80 :: f81 :: f82 :: f83 :: f84 :: f85 :: f86 :: f87 :: f88 :: f89 :: f90 :: f91 :: f92 :: f93 :: f94 :: f95 :: f96 :: f97 :: f98 :: f99 :: f100 :: f101 :: f102 :: f103 :: .pointer (some ⟨gL, 0, none⟩) :: x105 :: x106 :: .slice ba nB bc :: x108 :: x109 :: x110 :: undef :: undef :: undef :: f114 :: f115 :: f116 :: [])), []⟩ w := by
  subst hnB
  intro n
  induction n with
  | zero =>
    intro a b c d h1 h2 h3 h4 hd hs x105 x106 x108 x109 x110 w ho st
    obtain rfl : a = 1 := by omega
    obtain rfl : b = 2 := by omega
    obtain rfl : c = 1 := by omega
    obtain rfl : d = 1 := by omega
    exact hQ _ _ _ _ _ w ho (st.one rfl) (st.full rfl)
  | succ n ih =>
    intro a b c d h1 h2 h3 h4 hd hs x105 x106 x108 x109 x110 w ho st
    obtain ⟨hne, hmay⟩ := app_may h1 h2 h3 h4 hd (by omega)
    refine ⟨fun e => absurd e hne, fun i hi => ?_⟩
    rcases hmay i hi with ⟨rfl, rfl⟩ | ⟨rfl, rfl⟩ | ⟨rfl, rfl⟩ | ⟨rfl, rfl⟩ | ⟨rfl, rfl, rfl, rfl⟩
    · have hc : w.cell? ⟨gL, 0, none⟩ = some (textV pw) := by
        rw [World.cell?_of_block (w := w0) (ho.block _ hLl (fun x => x))]; exact hL
      refine wpOp_step app1 fun J hJ => ?_
      go_simp
      exact hJ _ _ (app_as (by rfl) (ih 1 b c d (by omega) h2 h3 h4 hd (by omega) _ x106 x108 x109 x110 _ ho ⟨fun _ => rfl, st.empty, st.row, st.zero, st.full⟩))
    · refine wpOp_step app2 fun J hJ => ?_
      go_simp
      have hz : Row w (w.alloc (.cells #[] 5)) (.slice (some ⟨w.heap.size, 0, none⟩) 0 0) [] := ⟨World.ownsRow_made w #[] 0 (Nat.zero_le _) (Nat.zero_le _) rfl, fun q hq => (by have : w.heap.size = q := Option.some.inj hq; omega), Only.alloc _⟩
      refine hJ _ _ (app_as (by rfl) (ih a 1 c d h1 (by omega) h3 h4 (fun e => by have := hd e; omega) (by omega) x105 _ x108 x109 x110 _ (ho.trans (Only.alloc _)) ⟨st.one, fun _ => Row.under ho hz, fun _ e => by omega, fun e1 e2 => ?_, fun e => by have := hd e; omega⟩))
      obtain ⟨g, e3, e4, _, _⟩ := st.zero e1 e2
      exact ⟨g, e3, e4.alloc _, fun _ e => by have := Option.some.inj e; have := e4.lt; simp at *; omega, fun e => by omega⟩
    · have hr := st.empty rfl
      obtain ⟨a6, c6, rfl⟩ := hr.shape
      refine wpOp_step app4 fun J hJ => ?_
      refine step_append_bytes (by rfl) _ _ (by rfl) (.slice a6 0 c6) (.slice ba B.length bc) 0 [] rfl rfl hr.row (hB.here ho (fun _ h => h)) (by omega) ?_
      intro a8 c8 w8 hr8 hg8 hat8
      have hR8 : Row w0 w8 (.slice a8 (0 + B.length) c8) ([] ++ B) := hr.app (Only.refl _ _) (by simp) hr8 hg8 hat8
      rw [Nat.zero_add, List.nil_append] at hR8
      rw [Nat.zero_add] at hat8 ⊢
      refine hJ _ _ (app_as (by rfl) (ih a 2 c d h1 (by omega) h3 h4 (fun e => by have := hd e; omega) (by omega) x105 _ _ x109 x110 _ hR8.only ⟨st.one, fun e => by omega, fun _ _ => hR8, fun e1 e2 => ?_, fun e => by have := hd e; omega⟩))
      obtain ⟨g, e3, e4, e5, _⟩ := st.zero e1 e2
      refine ⟨g, e3, (hg8.block g e4.lt (fun e => e5 rfl e.symm)).trans e4, fun e => by omega, fun _ e => ?_⟩
      rcases hat8 with h | h
      · exact e5 rfl (h.symm.trans e)
      · rw [e] at h
        have := Option.some.inj h
        have := e4.lt
        omega
    · refine wpOp_step app5 fun J hJ => ?_
      go_simp
      refine hJ _ _ (app_as (by rfl) (ih a b 1 d h1 h2 (by omega) h4 (fun e => by have := hd e; omega) (by omega) x105 x106 x108 _ x110 _ (ho.trans (Only.alloc _)) ⟨st.one, fun e => (st.empty e).kept (Only.alloc _), fun e1 e2 => (st.row e1 e2).kept (Only.alloc _), fun e1 _ => ⟨_, rfl, Blk.new w [byteV 0] 5, fun e h => ?_, fun e h => ?_⟩, fun e => by have := hd e; omega⟩))
      · have := ((st.empty e).row.lt _ h).2; omega
      · have := ((st.row e1 e).row.lt _ h).2; omega
    · have hr := st.row rfl rfl
      obtain ⟨g, rfl, e4, _, _⟩ := st.zero rfl rfl
      obtain ⟨a8, c8, rfl⟩ := hr.shape
      have hz : BytesAt w (fun k => k = g) (.slice (some ⟨g, 0, none⟩) 1 1) [0] := BytesAt.of_block (o := 0) (c := 1) (bs := [0]) e4.heap (Nat.le_refl _) (fun j x hx => by
        match j, hx with
        | 0, hx => cases hx; rfl)
      refine wpOp_step app6 fun J hJ => ?_
      refine step_append_bytes (by rfl) _ _ (by rfl) (.slice a8 B.length c8) (.slice (some ⟨g, 0, none⟩) 1 1) B.length (B.map byteV) rfl rfl hr.row hz (by simp; omega) ?_
      intro a9 c9 w9 hr9 hg9 hat9
      have hR9 : Row w0 w9 (.slice a9 (B.length + 1) c9) (B ++ [0]) := hr.app (Only.refl _ _) (by simp) hr9 hg9 hat9
      exact hJ _ _ (app_as (by rfl) (ih a 2 1 1 h1 (by omega) (by omega) (by omega) (fun _ => ⟨rfl, rfl⟩) (by omega) x105 x106 _ _ _ _ hR9.only ⟨st.one, fun e => by omega, fun e => by omega, fun e => by omega, fun _ => hR9⟩))

end Go.Proofs.YtgdnmbchhfbjoaaDoor
