/- wire.Reader: its calls. Conditions: none. -/
import Derived.Test.YtlfbdhgppmmahaaWiNum
namespace Go.Proofs.Ytlfbdhgppmmahaa
open Go.RowKit

/-- v is what is left of a row: it stands at o in block g. -/
def RestAt (w : World) (g o : Nat) (v : Value) (rest : List UInt8) : Prop :=
  ∃ a c, v = .slice a rest.length c ∧ rest.length ≤ c ∧ (a = none → c = 0) ∧ (rest ≠ [] → a = some ⟨g, o, none⟩ ∧ ∃ cur, w.heap[g]? = some (.cells cur 5 (0, 0)) ∧ ∀ j x, rest[j]? = some x → cur[o + j]? = some (byteV x))

theorem RestAt.kept {w w' : World} {g o : Nat} {v : Value} {rest : List UInt8} (h : RestAt w g o v rest) (hk : g < w.heap.size → w'.heap[g]? = w.heap[g]?) : RestAt w' g o v rest := by
  obtain ⟨a, c, h1, h2, h0, h3⟩ := h
  refine ⟨a, c, h1, h2, h0, fun hne => ?_⟩
  obtain ⟨e, cur, hg, hc⟩ := h3 hne
  exact ⟨e, cur, (hk (lt_of_heap hg)).trans hg, hc⟩

theorem RestAt.only {w w' : World} {T : Nat → Prop} {g o : Nat} {v : Value} {rest : List UInt8} (h : RestAt w g o v rest) (ho : Only T w w') (hn : ¬ T g) : RestAt w' g o v rest := h.kept (fun hl => ho.block g hl hn)

theorem byte_at_empty {w : World} {S : Nat → Prop} {a : Option Addr} {c : Nat} (h : a = none → c = 0) : BytesAt w S (.slice a 0 c) [] := by
  cases a with
  | none => rw [h rfl]; exact .inl ⟨rfl, rfl⟩
  | some ad => exact .inr ⟨ad, c, rfl, Nat.zero_le _, fun h => absurd rfl h, fun j x hx => by simp at hx⟩

theorem RestAt.bytes {w : World} {g o : Nat} {v : Value} {rest : List UInt8} (h : RestAt w g o v rest) : BytesAt w (fun k => k = g ∧ k < w.heap.size) v rest := by
  obtain ⟨a, c, rfl, h2, h0, h3⟩ := h
  by_cases hne : rest = []
  · subst hne; exact byte_at_empty h0
  · obtain ⟨rfl, cur, hg, hc⟩ := h3 hne
    refine .inr ⟨⟨g, o, none⟩, c, rfl, h2, fun _ => ⟨rfl, lt_of_heap hg⟩, fun j x hx => ?_⟩
    rw [add_lit, cell_of hg]
    exact hc j x hx

/-- What a clone leaves. -/
theorem Row.rest {w wr : World} {v : Value} {bs : List UInt8} (h : Row w wr v bs) : ∃ g, (bs ≠ [] → w.heap.size ≤ g ∧ g < wr.heap.size) ∧ RestAt wr g 0 v bs := by
  rcases h.row.2 with ⟨rfl, h0⟩ | ⟨g, cap, cur, rfl, hb, hg, h1, h2, h3, h4⟩
  · have : bs = [] := List.eq_nil_of_length_eq_zero h0
    subst this
    exact ⟨0, fun h => absurd rfl h, none, 0, rfl, Nat.le_refl _, fun _ => rfl, fun h => absurd rfl h⟩
  · refine ⟨g, fun _ => ⟨h.own g rfl, lt_of_heap hg⟩, some ⟨g, 0, none⟩, cap, rfl, h1, (fun h => by cases h), fun _ => ⟨rfl, cur, hg, fun j x hx => ?_⟩⟩
    have := h.row.cells (g := g) rfl j (byteV x) (by rw [List.getElem?_map, hx]; rfl)
    rw [add_lit, Nat.zero_add, cell_of hg] at this
    rwa [Nat.zero_add]

theorem nil_eql (W : World) : (binOp .eql 22 (.slice none 0 0) (.slice none 0 0)).run Try.prog W = .ok (.bool true) W := by kernel_rfl
theorem nil_eql_not (ad : Addr) (n c : Nat) (W : World) : (binOp .eql 22 (.slice (some ad) n c) (.slice none 0 0)).run Try.prog W = .ok (.bool false) W := by kernel_rfl

set_option maxRecDepth 100000 in
theorem clone_any {w : World} {S : Nat → Prop} {v : Value} {bs : List UInt8} (h : BytesAt w S v bs) (hlt : ∀ k, S k → k < w.heap.size) (hlen : bs.length ≤ 140737488355328) :
    Calls Try.prog 25 #[v] w fun e w' => ∃ a c, e = .returned (.slice a bs.length c) ∧ Row w w' (.slice a bs.length c) bs := by
  rcases h with ⟨rfl, rfl⟩ | hh
  · clear hlt hlen
    have hq := nil_eql
    go_enter Try.func25, Try.ntmps25
    go_wp2
    go_ret
    exact ⟨none, 0, rfl, Row.nil w⟩
  · have h : BytesAt w S v bs := .inr hh
    obtain ⟨ad, vc, hv, -⟩ := hh
    subst hv
    have HR0 : Hid (Row w (w.alloc (.cells #[] 5)) (.slice (some ⟨w.heap.size, 0, none⟩) 0 0) []) := by
      refine ⟨World.ownsRow_made w (e := 5) (size := 1) (base := 0) #[] 0 (Nat.zero_le _) (Nat.zero_le _) rfl, fun q hq => ?_, Only.alloc _⟩
      have : w.heap.size = q := Option.some.inj hq
      omega
    have HS : Hid (BytesAt (w.alloc (.cells #[] 5)) S (.slice (some ad) bs.length vc) bs) := h.only (Only.alloc _) hlt (fun _ _ x => x)
    have HL := Lib.hid hlen
    have hq := nil_eql_not ad bs.length vc
    clear h hlt hlen
    go_enter Try.func25, Try.ntmps25
    go_wp2_with (at_builtin; refine wpList_append_bytes _ rfl _ _ rfl (.slice (some ⟨w.heap.size, 0, none⟩) 0 0) (.slice (some ad) bs.length vc) 0 [] rfl rfl HR0.out.row HS.out (by rw [Nat.zero_add]; exact HL.out) ?_; intro a1 c1 w1 hr1 hg1 hat1; rw [Nat.zero_add] at hr1 hat1; rw [Nat.zero_add]; have HN := Lib.hid (HR0.out.app (y := bs) (Only.refl _ _) (by simp) hr1 hg1 hat1); clear hr1 hg1 hat1)
    go_ret
    exact ⟨a1, c1, rfl, HN.out⟩

/-- A Reader in block b; none: it is broken. -/
def ReaderAt (w : World) (b g o : Nat) : Option (List UInt8) → Prop
  | none => Blk w b [.slice none 0 0, .bool true] 57
  | some rest => ∃ v, Blk w b [v, .bool false] 57 ∧ RestAt w g o v rest

theorem ReaderAt.lt {w : World} {b g o : Nat} {st : Option (List UInt8)} (h : ReaderAt w b g o st) : b < w.heap.size := by
  cases st with
  | none => exact Blk.lt h
  | some r => exact h.choose_spec.1.lt

theorem ReaderAt.keep {w w' : World} {S : Nat → Prop} {b g o : Nat} {st : Option (List UInt8)} (h : ReaderAt w b g o st) (ho : Only S w w') (hb : ¬ S b) (hg : ¬ S g) : ReaderAt w' b g o st := by
  cases st with
  | none => exact Blk.keep h ho hb
  | some r =>
    obtain ⟨v, h1, h2⟩ := h
    exact ⟨v, h1.keep ho hb, h2.only ho hg⟩

/-- The reader's own block is no block of bytes. -/
theorem rest_set {w : World} {b g o : Nat} {v x u : Value} {rest : List UInt8} (hb : Blk w b [v, x] 57) (h : RestAt w g o u rest) (a : Addr) (y : Value) (ha : a.block = b) : RestAt (w.setCell a y) g o u rest := by
  obtain ⟨aa, c, h1, h2, h0, h3⟩ := h
  refine ⟨aa, c, h1, h2, h0, fun hne => ?_⟩
  obtain ⟨e, cur, hg, hc⟩ := h3 hne
  have hgb : g ≠ a.block := by
    rintro rfl
    rw [ha, hb.heap] at hg
    injection hg with hg
    injection hg with _ hg
    cases hg
  exact ⟨e, cur, (heap_setCell_ne a y hgb).trans hg, hc⟩

theorem RestAt.drop {w : World} {g o n c : Nat} {a a' : Option Addr} {rest : List UInt8} (h : RestAt w g o (.slice a rest.length c) rest) (hn : n ≤ rest.length) (ha : n < c → a' = a.map (·.add n)) (hz : a' = none → a = none) : RestAt w g (o + n) (.slice a' (rest.length - n) (c - n)) (rest.drop n) := by
  obtain ⟨aa, cc, h1, h2, h0, h3⟩ := h
  obtain ⟨rfl, _, rfl⟩ := Value.slice.inj h1
  refine ⟨a', c - n, by simp, by simp; omega, fun e => (by have := h0 (hz e); omega), fun hne => ?_⟩
  have hlt : n < rest.length := by
    rcases Nat.lt_or_ge n rest.length with h | h
    · exact h
    · exact absurd (List.drop_eq_nil_of_le h) hne
  obtain ⟨rfl, cur, hg, hc⟩ := h3 (by rintro rfl; simp at hlt)
  refine ⟨by rw [ha (by omega)]; simp [add_lit], cur, hg, fun j x hx => ?_⟩
  rw [List.getElem?_drop] at hx
  rw [Nat.add_assoc]
  exact hc _ x hx

theorem RestAt.take {w : World} {g o n c : Nat} {a : Option Addr} {rest : List UInt8} (h : RestAt w g o (.slice a rest.length c) rest) (hn : n ≤ rest.length) : RestAt w g o (.slice a n n) (rest.take n) := by
  obtain ⟨aa, cc, h1, h2, h0, h3⟩ := h
  obtain ⟨rfl, _, rfl⟩ := Value.slice.inj h1
  have hl : (rest.take n).length = n := by simp; omega
  refine ⟨a, n, by rw [hl], by omega, fun e => (by have := h0 e; omega), fun hne => ?_⟩
  obtain ⟨rfl, cur, hg, hc⟩ := h3 (by rintro rfl; simp at hne)
  refine ⟨rfl, cur, hg, fun j x hx => hc j x ?_⟩
  rw [List.getElem?_take] at hx
  split at hx
  · exact hx
  · cases hx

theorem slice_l {a : Option Addr} {n cap m : Nat} (h : m ≤ n) : ∃ a', (m < cap → a' = a.map (·.add m)) ∧ (a' = none → a = none) ∧ ∀ w : World, (Instr.slice 22 (.slice a n cap) (some (.int .i64 (m : Int))) none none).run Try.prog w = .ok (.slice a' (n - m) (cap - m)) w := by
  refine ⟨if cap = m then a else a.map (·.add m), fun hlt => by rw [if_neg (by omega)], fun e => ?_, fun w => ?_⟩
  · cases a with
    | none => rfl
    | some x => split at e <;> simp at e
  rw [run_slice_l (ht := by kernel_rfl) (h0 := by omega) (h1 := by omega)]
  have hsz : (sizeOf (Try.prog.elem 22)).run Try.prog w = .ok 1 w := by kernel_rfl
  rw [hsz]
  simp [Result.andThen, sliced]

theorem slice_hm {a : Option Addr} {n cap m : Nat} (h : m ≤ cap) (w : World) : (Instr.slice 22 (.slice a n cap) none (some (.int .i64 (m : Int))) (some (.int .i64 (m : Int)))).run Try.prog w = .ok (.slice a m m) w := by
  rw [run_slice_hm (ht := by kernel_rfl) (h0 := by omega) (h2 := by omega) (h3 := by omega)]
  have hsz : (sizeOf (Try.prog.elem 22)).run Try.prog w = .ok 1 w := by kernel_rfl
  rw [hsz]
  cases a <;> simp [Result.andThen, sliced, Addr.add]

theorem new_reader {w : World} {S : Nat → Prop} {v : Value} {bs : List UInt8} (h : BytesAt w S v bs) (hlt : ∀ k, S k → k < w.heap.size) (hlen : bs.length ≤ 140737488355328) :
    Calls Try.prog 18 #[v] w fun e w' => ∃ b g, e = .returned (.pointer (some ⟨b, 0, none⟩)) ∧ ReaderAt w' b g 0 (some bs) ∧ w.heap.size ≤ b ∧ (bs ≠ [] → w.heap.size ≤ g) ∧ Only (fun _ => False) w w' := by
  have HC := Lib.hid (clone_any h hlt hlen)
  clear h hlt hlen
  go_enter Try.func18, Try.ntmps18
  go_wp2_with (go_at_call 25; refine HC.out.mono ?_; rintro e w1 ⟨a, c, rfl, hr⟩; have HR := Lib.hid hr; clear hr)
  go_ret
  obtain ⟨g, h1, h2⟩ := HR.out.rest
  refine ⟨w1.heap.size, g, rfl, ⟨.slice a bs.length c, Blk.new w1 [.slice a bs.length c, .bool false] 57, h2.only (Only.alloc _) (fun x => x)⟩, HR.out.only.size, fun hne => (h1 hne).1, HR.out.only.trans (Only.alloc _)⟩

/-- The error that the reader tells. -/
def rdE : Option (List UInt8) → Value
  | none => .iface 54 (.int .i64 9)
  | some _ => .nilIface

theorem err_any {w : World} {b g o : Nat} {st : Option (List UInt8)} (h : ReaderAt w b g o st) :
    Calls Try.prog 22 #[.pointer (some ⟨b, 0, none⟩)] w fun e w' => e = .returned (rdE st) ∧ w' = w := by
  cases st with
  | none =>
    have c1 : w.cell? ⟨b, 1, none⟩ = some (.bool true) := by rw [Blk.cell h]; rfl
    clear h
    unfold rdE
    go_enter Try.func22, Try.ntmps22
    go_wp2
    go_ret
    exact ⟨rfl, rfl⟩
  | some r =>
    obtain ⟨v, hb, _⟩ := h
    have c1 : w.cell? ⟨b, 1, none⟩ = some (.bool false) := by rw [hb.cell]; rfl
    clear hb
    unfold rdE
    go_enter Try.func22, Try.ntmps22
    go_wp2
    go_ret
    exact ⟨rfl, rfl⟩

theorem err_nil {w : World} : Calls Try.prog 22 #[.pointer none] w fun e w' => e = .returned (.iface 54 (.int .i64 9)) ∧ w' = w := by
  go_enter Try.func22, Try.ntmps22
  go_wp2
  go_ret
  exact ⟨rfl, rfl⟩

/-- How many bytes are left. -/
def leftOf : Option (List UInt8) → Nat
  | none => 0
  | some r => r.length

theorem left_any {w : World} {b g o : Nat} {st : Option (List UInt8)} (h : ReaderAt w b g o st) :
    Calls Try.prog 19 #[.pointer (some ⟨b, 0, none⟩)] w fun e w' => e = .returned (.int .i64 (leftOf st : Int)) ∧ w' = w := by
  cases st with
  | none =>
    have c1 : w.cell? ⟨b, 0, none⟩ = some (.slice none 0 0) := by rw [Blk.cell h]; rfl
    clear h
    unfold leftOf
    go_enter Try.func19, Try.ntmps19
    go_wp2
    go_ret
    exact ⟨rfl, rfl⟩
  | some r =>
    obtain ⟨v, hb, a, c, rfl, _⟩ := h
    have c1 : w.cell? ⟨b, 0, none⟩ = some (.slice a r.length c) := by rw [hb.cell]; rfl
    clear hb
    unfold leftOf
    go_enter Try.func19, Try.ntmps19
    go_wp2
    go_ret
    exact ⟨rfl, rfl⟩

theorem left_nil {w : World} : Calls Try.prog 19 #[.pointer none] w fun e w' => e = .returned (.int .i64 0) ∧ w' = w := by
  go_enter Try.func19, Try.ntmps19
  go_wp2
  go_ret
  exact ⟨rfl, rfl⟩

/-- The error of Done. -/
def doneE (st : Option (List UInt8)) : Value := if st = some [] then .nilIface else .iface 54 (.int .i64 9)

theorem spoil_any {w : World} {b g o : Nat} {st : Option (List UInt8)} (h : ReaderAt w b g o st) :
    Calls Try.prog 26 #[.pointer (some ⟨b, 0, none⟩)] w fun e w' => e = .returned (.tuple #[]) ∧ ReaderAt w' b g o none ∧ Only (fun k => k = b) w w' := by
  obtain ⟨v, x, hb⟩ : ∃ v x, Blk w b [v, x] 57 := by
    cases st with
    | none => exact ⟨_, _, h⟩
    | some r => obtain ⟨v, hb, _⟩ := h; exact ⟨_, _, hb⟩
  have c0 : w.cell? ⟨b, 0, none⟩ = some v := by rw [hb.cell]; rfl
  have c1 : w.cell? ⟨b, 1, none⟩ = some x := by rw [hb.cell]; rfl
  have f0 := hb.frozen 0
  have f1 := hb.frozen 1
  have hb1 := hb.set 0 (.slice none 0 0)
  have c1' : (w.setCell ⟨b, 0, none⟩ (.slice none 0 0)).cell? ⟨b, 1, none⟩ = some x := by rw [hb1.cell]; rfl
  have f1' := hb1.frozen 1
  have HB := Lib.hid (hb1.set 1 (.bool true))
  clear h hb hb1
  go_enter Try.func26, Try.ntmps26
  go_wp2
  go_end0
  exact ⟨rfl, HB.out, (Only.setCell ⟨b, 0, none⟩ _).trans (Only.setCell ⟨b, 1, none⟩ _)⟩

end Go.Proofs.Ytlfbdhgppmmahaa
