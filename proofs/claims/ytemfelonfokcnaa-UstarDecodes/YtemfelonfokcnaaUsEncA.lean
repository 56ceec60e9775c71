/- ustar.Encode of what does not fit; steps of Encode. Conditions: texts within the reach. -/
import Derived.Test.YtemfelonfokcnaaUsFits
import Derived.Test.YtemfelonfokcnaaUsPutSum
namespace Go.Proofs.Ytemfelonfokcnaa
open Go.RowKit

theorem make_512 (w : World) : (Instr.makeSlice 25 (.int .i64 512) (.int .i64 512)).run Try.prog w = .ok (.slice (some ⟨w.heap.size, 0, none⟩) 512 512) (w.alloc (.cells ((Us.zs 512).map byteV).toArray 5)) := by
  obtain ⟨i0, hi0, hz0, hz1, hz2⟩ := info_parts info_u8
  rw [run_make w 25 5 i0 _ Try.underlying25 hi0 hz0 .i64 .i64 512 512 (by decide) (by decide) (by rw [hz2]; decide) (by decide), hz1]
  have e : madeCells (Value.int .u8 0).cells ((512 : Int).toNat * 1) = ((Us.zs 512).map byteV).toArray := by kernel_rfl
  rw [e]
  rfl

namespace Us
def fo (j : Nat) : Nat := [100, 108, 116, 124, 136].getD j 0
def fd (j : Nat) : Nat := [7, 7, 7, 11, 11].getD j 0
def fv (h : Hd) (j : Nat) : Int := [h.mode, h.uid, h.gid, h.size, h.time].getD j 0
theorem fields_get (h : Hd) (j : Nat) (hj : j < 5) : (fields h)[j]? = some (fo j, fd j, fv h j) := by
  match j, hj with
  | 0, _ => rfl
  | 1, _ => rfl
  | 2, _ => rfl
  | 3, _ => rfl
  | 4, _ => rfl
theorem fo_fd (j : Nat) (hj : j < 5) : 1 ≤ fo j ∧ fo j + fd j ≤ 147 := by
  match j, hj with
  | 0, _ => decide
  | 1, _ => decide
  | 2, _ => decide
  | 3, _ => decide
  | 4, _ => decide
theorem putNums_succ (l : By) (h : Hd) (j : Nat) (hj : j < 5) : putNums l ((fields h).take (j + 1)) = splice (putNums l ((fields h).take j)) (fo j) (oct (fd j) (fv h j).toNat) := by
  rw [List.take_add_one, fields_get h j hj]
  unfold putNums
  rw [List.foldl_append]
  rfl
theorem putNums_len (l : By) (h : Hd) (hl : l.length = 512) : ∀ j, j ≤ 5 → (putNums l ((fields h).take j)).length = 512 := by
  intro j
  induction j with
  | zero => intro _; exact hl
  | succ j ih =>
    intro hj
    have := ih (by omega)
    have h2 := fo_fd j (by omega)
    rw [putNums_succ l h j (by omega), length_splice _ _ _ (by rw [oct_len]; omega)]
    exact this
theorem fv_ok {h : Hd} {q nm : By} (f : Fit h q nm) (j : Nat) (hj : j < 5) : 0 ≤ fv h j ∧ fv h j < 8589934592 := by
  have := f.m1; have := f.m2; have := f.u1; have := f.u2; have := f.g1; have := f.g2; have := f.s1; have := f.s2; have := f.t1; have := f.t2
  match j, hj with
  | 0, _ => exact ⟨f.m1, by show h.mode < _; omega⟩
  | 1, _ => exact ⟨f.u1, by show h.uid < _; omega⟩
  | 2, _ => exact ⟨f.g1, by show h.gid < _; omega⟩
  | 3, _ => exact ⟨f.s1, f.s2⟩
  | 4, _ => exact ⟨f.t1, f.t2⟩
theorem fv_cell (h : Hd) (j : Nat) (hj : j < 5) : (hdL h)[j + 1]? = some (.int .i64 (fv h j)) := by
  match j, hj with
  | 0, _ => rfl
  | 1, _ => rfl
  | 2, _ => rfl
  | 3, _ => rfl
  | 4, _ => rfl
end Us

theorem num_index (g j : Nat) (hj : j < 5) : ∀ w : World, (Instr.index 54 (numV g) (.int .i64 (j : Int))).run Try.prog w = .ok (.agg #[.int .i64 (Us.fo j : Int), .int .i64 (Us.fd j : Int), .pointer (some ⟨g, j + 1, none⟩)]) w := by
  intro w
  obtain rfl | rfl | rfl | rfl | rfl : j = 0 ∨ j = 1 ∨ j = 2 ∨ j = 3 ∨ j = 4 := by omega
  · kernel_rfl
  · kernel_rfl
  · kernel_rfl
  · kernel_rfl
  · kernel_rfl

set_option maxRecDepth 100000 in
set_option maxHeartbeats 2000000 in
theorem encode_no (h : Hd) (hp : h.path.size ≤ 140737488351232) (hf : Us.fits h = false) (w : World) :
    Calls Try.prog 9 #[hdV h] w fun e w' => e = .returned (.tuple #[.slice none 0 0, errV 14]) ∧ Quiet w w' := by
  have HF := Lib.hid (fun W => fits_any h hp W)
  rw [hf] at HF
  have HB0 := Lib.hid (Blk.new w (hdL h) 23)
  have HQ0 : Hid (Quiet w (w.alloc (.cells (hdL h).toArray 23))) := Only.alloc _
  obtain ⟨path, mode, uid, gid, size, time, type, link⟩ := h
  unfold hdV at HF ⊢
  clear hp hf
  obtain ⟨c0, c1, c2, c3, c4, c5, c6, c7, fz⟩ := hd_cells HB0.out
  go_enter Try.func9, Try.ntmps9
  go_wp2_with (go_at_call 25; refine (HF.out _).mono ?_; rintro e w1 ⟨rfl, hq⟩; have HQ1 := Lib.hid (HQ0.out.trans hq); clear hq)
  go_ret2
  exact ⟨rfl, HQ1.out⟩


theorem blk_sl (g l : Nat) (h : l < 512) (w : World) : (Instr.slice 25 (.slice (some ⟨g, 0, none⟩) 512 512) (some (.int .i64 (l : Int))) none none).run Try.prog w = .ok (.slice (some ⟨g, l, none⟩) (512 - l) (512 - l)) w := by
  have := slice_o (g := g) (o := 0) (n := 512) (c := 512) (l := l) (by omega) h w
  rw [Nat.zero_add] at this
  exact this
theorem blk_sl0 (g : Nat) : ∀ w : World, (Instr.slice 25 (.slice (some ⟨g, 0, none⟩) 512 512) (some (.int .i64 0)) none none).run Try.prog w = .ok (.slice (some ⟨g, 0, none⟩) 512 512) w := fun w => blk_sl g 0 (by decide) w
theorem blk_sl345 (g : Nat) : ∀ w : World, (Instr.slice 25 (.slice (some ⟨g, 0, none⟩) 512 512) (some (.int .i64 345)) none none).run Try.prog w = .ok (.slice (some ⟨g, 345, none⟩) 167 167) w := fun w => blk_sl g 345 (by decide) w
theorem blk_sl157 (g : Nat) : ∀ w : World, (Instr.slice 25 (.slice (some ⟨g, 0, none⟩) 512 512) (some (.int .i64 157)) none none).run Try.prog w = .ok (.slice (some ⟨g, 157, none⟩) 355 355) w := fun w => blk_sl g 157 (by decide) w
theorem blk_sl257 (g : Nat) : ∀ w : World, (Instr.slice 25 (.slice (some ⟨g, 0, none⟩) 512 512) (some (.int .i64 257)) none none).run Try.prog w = .ok (.slice (some ⟨g, 257, none⟩) 255 255) w := fun w => blk_sl g 257 (by decide) w
theorem blk_sl329 (g : Nat) : ∀ w : World, (Instr.slice 25 (.slice (some ⟨g, 0, none⟩) 512 512) (some (.int .i64 329)) none none).run Try.prog w = .ok (.slice (some ⟨g, 329, none⟩) 183 183) w := fun w => blk_sl g 329 (by decide) w

theorem wpList_copy_txt {w : World} {ops : Array Oper} {rest : List Oper} {o : Oper} {a : Act} {Q : Exit → Act → World → Prop} (hgd : o.guard = none) (d s : Operand)
    (ho : o.op = .call { callee := .builtin .copy, args := #[d, s], argTypes := #[25, 9] }) (g off n c : Nat) (x : ByteArray) (hd : a.eval d = .slice (some ⟨g, off, none⟩) n c) (hs : a.eval s = .string x)
    {l : Us.By} {t : TypeId} (hb : Blk w g (l.map byteV) t) (hle : x.size ≤ n) (hfit : off + x.size ≤ l.length)
    (h : ∀ w', Blk w' g ((splice l off x.data.toList).map byteV) t → Only (fun k => k = g) w w' → wpList Try.prog ops Q rest (a.put o.dst (.int .i64 (x.size : Int))) w') :
    wpList Try.prog ops Q (o :: rest) a w :=
  wpList_copy_str hgd d s ho g off n c x hd hs hb hle (by rw [List.length_map]; exact hfit) fun w' h1 h2 => h w' (by rw [← Us.splice_map]; exact h1) h2

end Go.Proofs.Ytemfelonfokcnaa
