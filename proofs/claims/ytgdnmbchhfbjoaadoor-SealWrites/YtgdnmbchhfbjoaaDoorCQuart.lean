/- (*words).quarter, (*words).round. Conditions: none. -/
import Derived.Test.YtgdnmbchhfbjoaaDoorCRot
namespace Go.Proofs.YtgdnmbchhfbjoaaDoor
open Go.RowKit

/-- A block of sixteen words. -/
structure WordsAt (w : World) (b : Nat) (ws : List Int) (ty : TypeId) : Prop where
  blk : Blk w b (ws.map wordV) ty
  len : ws.length = 16

theorem WordsAt.cell {w : World} {b : Nat} {ws : List Int} {ty : TypeId} (h : WordsAt w b ws ty) {i : Nat} (hi : i < 16) : w.cell? ⟨b, i, none⟩ = some (.int .u32 (ws.getD i 0)) := by
  have hl := h.len
  rw [h.blk.cell]
  simp [wordV, hl, hi]

theorem WordsAt.set {w : World} {b : Nat} {ws : List Int} {ty : TypeId} (h : WordsAt w b ws ty) (i : Nat) (v : Int) : WordsAt (w.setCell ⟨b, i, none⟩ (.int .u32 v)) b (ws.set i v) ty := by
  refine ⟨?_, by rw [List.length_set]; exact h.len⟩
  have := h.blk.set i (wordV v)
  rw [← List.map_set] at this
  exact this
theorem WordsAt.drewN {w : World} {b : Nat} {ws : List Int} {ty : TypeId} (h : WordsAt w b ws ty) (n : Nat) : WordsAt (w.drewN n) b ws ty := ⟨h.blk.drewN n, h.len⟩
theorem WordsAt.keep {w w' : World} {S : Nat → Prop} {b : Nat} {ws : List Int} {ty : TypeId} (h : WordsAt w b ws ty) (ho : Only S w w') (hn : ¬ S b) : WordsAt w' b ws ty := ⟨h.blk.keep ho hn, h.len⟩

/-- Four places among sixteen words. -/
structure Four (i j k l : Nat) : Prop where
  (hi : i < 16) (hj : j < 16) (hk : k < 16) (hl : l < 16)
  (ij : i ≠ j) (ik : i ≠ k) (il : i ≠ l) (jk : j ≠ k) (jl : j ≠ l) (kl : k ≠ l)

set_option maxRecDepth 100000 in
set_option maxHeartbeats 1000000 in
theorem quarter_any {w : World} {b : Nat} {ws : List Int} {ty : TypeId} (h : WordsAt w b ws ty) {i j k l : Nat} (hf : Four i j k l) :
    Calls Tryd.prog 80 #[.pointer (some ⟨b, 0, none⟩), .int .i64 i, .int .i64 j, .int .i64 k, .int .i64 l] w fun e w' => e = .returned (.tuple #[]) ∧ WordsAt w' b (Ch.quart i j k l ws) ty ∧ Only (fun k => k = b) w w' := by
  have ci := h.cell hf.hi
  have cj := h.cell hf.hj
  have ck := h.cell hf.hk
  have cl := h.cell hf.hl
  have H := Lib.hid h; have HF := Lib.hid hf
  have li : (i : Int) < 16 := by have := hf.hi; omega
  have lj : (j : Int) < 16 := by have := hf.hj; omega
  have lk : (k : Int) < 16 := by have := hf.hk; omega
  have ll : (l : Int) < 16 := by have := hf.hl; omega
  have pi : 0 ≤ (i : Int) := by omega
  have pj : 0 ≤ (j : Int) := by omega
  have pk : 0 ≤ (k : Int) := by omega
  have pl : 0 ≤ (l : Int) := by omega
  have HP : Hid (Ch.quart i j k l ws = Ch.put ws i j k l (Ch.quarter ⟨ws.getD i 0, ws.getD j 0, ws.getD k 0, ws.getD l 0⟩)) := rfl
  clear h hf
  generalize ws.getD i 0 = x at *
  generalize ws.getD j 0 = y at *
  generalize ws.getD k 0 = z at *
  generalize ws.getD l 0 = u at *
  go_enter Tryd.func80, Tryd.ntmps80
  go_wp2
  go_quiet (fail)
  have H2 := Lib.hid (H.out.drewN nq)
  have HO2 : Hid (Only (fun k => k = b) w (w.drewN nq)) := (Only.drewN nq).mono (fun _ _ x => x.elim)
  clear ci cj ck cl
  generalize w.drewN nq = w2 at *
  go_wp2_with (go_at_call 81; refine (rotl_any _ _ (by decide) _).mono ?_; rintro e w' ⟨rfl, rfl⟩)
  have e1 : ((x + y + Ch.rot (bits .xor .u32 y ((z + Ch.rot (bits .xor .u32 u ((x + y) % 4294967296)) 16) % 4294967296)) 12) % 4294967296) = (Ch.quarter ⟨x, y, z, u⟩).a := by
    simp only [Ch.quarter, Ch.low, Ch.xo, Int.emod_add_emod]
  rw [e1]
  have e2 : Ch.rot (bits .xor .u32 (Ch.rot (bits .xor .u32 u ((x + y) % 4294967296)) 16) (Ch.quarter ⟨x, y, z, u⟩).a) 8 = (Ch.quarter ⟨x, y, z, u⟩).d := by
    simp only [Ch.quarter, Ch.low, Ch.xo, Int.emod_add_emod]
  rw [e2]
  have e3 : (z + Ch.rot (bits .xor .u32 u ((x + y) % 4294967296)) 16 + (Ch.quarter ⟨x, y, z, u⟩).d) % 4294967296 = (Ch.quarter ⟨x, y, z, u⟩).c := by
    simp only [Ch.quarter, Ch.low, Ch.xo, Int.emod_add_emod]
  rw [e3]
  have e4 : Ch.rot (bits .xor .u32 (Ch.rot (bits .xor .u32 y ((z + Ch.rot (bits .xor .u32 u ((x + y) % 4294967296)) 16) % 4294967296)) 12) (Ch.quarter ⟨x, y, z, u⟩).c) 7 = (Ch.quarter ⟨x, y, z, u⟩).b := by
    simp only [Ch.quarter, Ch.low, Ch.xo, Int.emod_add_emod]
  rw [e4]
  clear e1 e2 e3 e4
  generalize Ch.quarter ⟨x, y, z, u⟩ = q at *
  obtain ⟨a', b', c', d'⟩ := q
  have HW := H2.out
  have ci := HW.cell HF.out.hi
  have cj : (w2.setCell ⟨b, i, none⟩ (.int .u32 a')).cell? ⟨b, j, none⟩ = some (.int .u32 ((ws.set i a').getD j 0)) := (HW.set i a').cell HF.out.hj
  have ck : ((w2.setCell ⟨b, i, none⟩ (.int .u32 a')).setCell ⟨b, j, none⟩ (.int .u32 b')).cell? ⟨b, k, none⟩ = some (.int .u32 (((ws.set i a').set j b').getD k 0)) := ((HW.set i a').set j b').cell HF.out.hk
  have cl : (((w2.setCell ⟨b, i, none⟩ (.int .u32 a')).setCell ⟨b, j, none⟩ (.int .u32 b')).setCell ⟨b, k, none⟩ (.int .u32 c')).cell? ⟨b, l, none⟩ = some (.int .u32 ((((ws.set i a').set j b').set k c').getD l 0)) := (((HW.set i a').set j b').set k c').cell HF.out.hl
  have fi := HW.blk.frozen i
  have fj := (HW.set i a').blk.frozen j
  have fk := ((HW.set i a').set j b').blk.frozen k
  have fl := (((HW.set i a').set j b').set k c').blk.frozen l
  have HR := Lib.hid ((((HW.set i a').set j b').set k c').set l d')
  clear HW
  have HON : Hid (Only (fun k => k = b) w ((((w2.setCell ⟨b, i, none⟩ (.int .u32 a')).setCell ⟨b, j, none⟩ (.int .u32 b')).setCell ⟨b, k, none⟩ (.int .u32 c')).setCell ⟨b, l, none⟩ (.int .u32 d')).drew) :=
    ((((HO2.out.trans (Only.setCell ⟨b, i, none⟩ _)).trans (Only.setCell ⟨b, j, none⟩ _)).trans (Only.setCell ⟨b, k, none⟩ _)).trans (Only.setCell ⟨b, l, none⟩ _)).trans (Only.drew.mono (fun _ _ x => x.elim))
  go_region
  go_end0
  refine ⟨rfl, ?_, HON.out⟩
  rw [HP.out]
  exact ⟨HR.out.blk.drew, HR.out.len⟩

theorem four_any {w : World} {b : Nat} {ws : List Int} {ty : TypeId} (h : WordsAt w b ws ty) (i j k l : Nat) (hf : Four i j k l) {Q : Ending → World → Prop} (hq : ∀ w', WordsAt w' b (Ch.quart i j k l ws) ty → Only (fun k => k = b) w w' → Q (.returned (.tuple #[])) w') :
    Calls Tryd.prog 80 #[.pointer (some ⟨b, 0, none⟩), .int .i64 i, .int .i64 j, .int .i64 k, .int .i64 l] w Q :=
  (quarter_any h hf).mono fun _ w' ⟨he, h1, h2⟩ => by subst he; exact hq w' h1 h2

set_option maxRecDepth 100000 in
set_option maxHeartbeats 1000000 in
theorem round_any {w : World} {b : Nat} {ws : List Int} {ty : TypeId} (h : WordsAt w b ws ty) :
    Calls Tryd.prog 77 #[.pointer (some ⟨b, 0, none⟩)] w fun e w' => e = .returned (.tuple #[]) ∧ WordsAt w' b (Ch.round ws) ty ∧ Only (fun k => k = b) w w' := by
  have H := Lib.hid h
  clear h
  go_enter Tryd.func77, Tryd.ntmps77
  go_wp2_with fail
  refine four_any H.out 0 4 8 12 (by constructor <;> decide) fun w1 h1 o1 => ?_
  have H1 := Lib.hid h1; have O1 := Lib.hid o1
  clear h1 o1 H
  go_wp2_with fail
  refine four_any H1.out 1 5 9 13 (by constructor <;> decide) fun w2 h2 o2 => ?_
  have H2 := Lib.hid h2; have O2 := Lib.hid (O1.out.trans o2)
  clear h2 o2 H1 O1
  go_wp2_with fail
  refine four_any H2.out 2 6 10 14 (by constructor <;> decide) fun w3 h3 o3 => ?_
  have H3 := Lib.hid h3; have O3 := Lib.hid (O2.out.trans o3)
  clear h3 o3 H2 O2
  go_wp2_with fail
  refine four_any H3.out 3 7 11 15 (by constructor <;> decide) fun w4 h4 o4 => ?_
  have H4 := Lib.hid h4; have O4 := Lib.hid (O3.out.trans o4)
  clear h4 o4 H3 O3
  go_wp2_with fail
  refine four_any H4.out 0 5 10 15 (by constructor <;> decide) fun w5 h5 o5 => ?_
  have H5 := Lib.hid h5; have O5 := Lib.hid (O4.out.trans o5)
  clear h5 o5 H4 O4
  go_wp2_with fail
  refine four_any H5.out 1 6 11 12 (by constructor <;> decide) fun w6 h6 o6 => ?_
  have H6 := Lib.hid h6; have O6 := Lib.hid (O5.out.trans o6)
  clear h6 o6 H5 O5
  go_wp2_with fail
  refine four_any H6.out 2 7 8 13 (by constructor <;> decide) fun w7 h7 o7 => ?_
  have H7 := Lib.hid h7; have O7 := Lib.hid (O6.out.trans o7)
  clear h7 o7 H6 O6
  go_wp2_with fail
  refine four_any H7.out 3 4 9 14 (by constructor <;> decide) fun w8 h8 o8 => ?_
  have H8 := Lib.hid h8; have O8 := Lib.hid (O7.out.trans o8)
  clear h8 o8 H7 O7
  go_wp2_with fail
  go_end0
  exact ⟨rfl, H8.out, O8.out⟩

end Go.Proofs.YtgdnmbchhfbjoaaDoor
