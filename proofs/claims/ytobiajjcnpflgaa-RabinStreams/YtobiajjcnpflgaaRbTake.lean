/- (*taker).take, restart. Conditions: none. -/
import Derived.Test.YtobiajjcnpflgaaRbTab
namespace Go.Proofs.Ytobiajjcnpflgaa
open Go.RowKit

namespace Rb
theorem rm_small {p d x : Nat} (hd : Gf.Top d p) (h : x < 2 ^ d) : Gf.rm p x = x :=
  Gf.rm_of (by have := Gf.top_pos hd; omega) ⟨Gf.Cg.refl p x, fun d' hd' => by rw [Gf.top_one hd' hd]; exact h⟩
theorem or_byte (x : Nat) (b : Nat) (hb : b < 256) : (x * 256) ||| b = x * 256 + b := by
  have := Nat.shiftLeft_add_eq_or_of_lt (i := 8) (b := b) hb x
  rw [Nat.shiftLeft_eq] at this
  exact this.symm
theorem p64 {d : Nat} (h : d ≤ 64) : (18446744073709551616 : Nat) = 2 ^ (64 - d) * 2 ^ d := by
  rw [← Nat.pow_add, show 64 - d + d = 64 by omega]
/-- One byte more. -/
theorem take_step {p d r b : Nat} (hd : Gf.Top d p) (h8 : 8 ≤ d) (h63 : d ≤ 63) (hr : r < 2 ^ d) (hb : b < 256) :
    r / 2 ^ (d - 8) < 256 ∧ (((r * 256 % 18446744073709551616) ||| b) &&& (2 ^ d - 1)) ^^^ tb p (2 ^ d) (r / 2 ^ (d - 8)) = Gf.rm p ((r * 256) ^^^ b) := by
  have hp : p ≠ 0 := by have := Gf.top_pos hd; omega
  have e8 : (2 : Nat) ^ d = 256 * 2 ^ (d - 8) := by rw [show (256 : Nat) = 2 ^ 8 by decide, ← Nat.pow_add, show 8 + (d - 8) = d by omega]
  have h1 : r / 2 ^ (d - 8) < 256 := Nat.div_lt_of_lt_mul (by rw [Nat.mul_comm]; omega)
  refine ⟨h1, ?_⟩
  have e1 : (r * 256 % 18446744073709551616) ||| b = r * 256 % 18446744073709551616 + b := by
    have : r * 256 % 18446744073709551616 = (r % 72057594037927936) * 256 := by omega
    rw [this, or_byte _ _ hb]
  have e2 : (r * 256 % 18446744073709551616 + b) % 2 ^ d = (r * 256 + b) % 2 ^ d := by
    rw [p64 (d := d) (by omega), Nat.add_mod, Nat.mod_mul_left_mod, ← Nat.add_mod]
  rw [e1, Nat.and_two_pow_sub_one_eq_mod, e2]
  have e3 : (r * 256) ^^^ b = r * 256 + b := (shift_xor r b 8 hb).symm
  have e4 : (r * 256 + b) / 2 ^ d = r / 2 ^ (d - 8) := by
    rw [e8, ← Nat.div_div_eq_div_mul, show (r * 256 + b) / 256 = r by omega]
  have hlt := Nat.mod_lt (r * 256 + b) (Nat.two_pow_pos d)
  have e5 : r * 256 + b = (r / 2 ^ (d - 8) * 2 ^ d) ^^^ ((r * 256 + b) % 2 ^ d) := by
    rw [← shift_xor _ _ _ hlt, ← e4, Nat.mul_comm _ (2 ^ d)]
    exact (Nat.div_add_mod _ _).symm
  rw [e3]
  conv => rhs; rw [e5]
  rw [rm_xor hp, rm_small hd hlt, Nat.xor_comm]
  unfold tb
  rw [Gf.mul_shift]
end Rb

/-- A taker's cells. -/
noncomputable def kcells (p d r : Nat) : List Value := .int .u64 (r : Int) :: .int .i64 ((d - 8 : Nat) : Int) :: .int .u64 ((2 ^ d - 1 : Nat) : Int) :: Rb.tab p (2 ^ d)

/-- A taker at the begin of block g. -/
structure TakeAt (w : World) (g : Nat) (ty : TypeId) (p d r : Nat) (post : List Value) : Prop where
  blk : Blk w g (kcells p d r ++ post) ty
  top : Gf.Top d p
  d8 : 8 ≤ d
  d63 : d ≤ 63
  lt : r < 2 ^ d
  p64 : p < 18446744073709551616

theorem TakeAt.keep {w w' : World} {S : Nat → Prop} {g : Nat} {ty : TypeId} {p d r : Nat} {post : List Value} (h : TakeAt w g ty p d r post) (ho : Only S w w') (hn : ¬ S g) : TakeAt w' g ty p d r post :=
  ⟨h.blk.keep ho hn, h.top, h.d8, h.d63, h.lt, h.p64⟩
theorem TakeAt.set {w : World} {g : Nat} {ty : TypeId} {p d r : Nat} {post : List Value} (h : TakeAt w g ty p d r post) {r' : Nat} (hr : r' < 2 ^ d) : TakeAt (w.setCell ⟨g, 0, none⟩ (.int .u64 (r' : Int))) g ty p d r' post :=
  ⟨h.blk.set 0 _, h.top, h.d8, h.d63, hr, h.p64⟩
theorem TakeAt.r {w : World} {g : Nat} {ty : TypeId} {p d r : Nat} {post : List Value} (h : TakeAt w g ty p d r post) : w.cell? ⟨g, 0, none⟩ = some (.int .u64 (r : Int)) := by rw [h.blk.cell]; rfl
theorem TakeAt.t {w : World} {g : Nat} {ty : TypeId} {p d r : Nat} {post : List Value} (h : TakeAt w g ty p d r post) : w.cell? ⟨g, 1, none⟩ = some (.int .i64 ((d - 8 : Nat) : Int)) := by rw [h.blk.cell]; rfl
theorem TakeAt.b {w : World} {g : Nat} {ty : TypeId} {p d r : Nat} {post : List Value} (h : TakeAt w g ty p d r post) : w.cell? ⟨g, 2, none⟩ = some (.int .u64 ((2 ^ d - 1 : Nat) : Int)) := by rw [h.blk.cell]; rfl
theorem TakeAt.c {w : World} {g : Nat} {ty : TypeId} {p d r : Nat} {post : List Value} (h : TakeAt w g ty p d r post) {j : Nat} (hj : j < 256) : w.cell? ⟨g, 3 + j, none⟩ = some (.int .u64 (Rb.tb p (2 ^ d) j : Int)) := by
  rw [h.blk.cell, List.getElem?_append_left (by simp [kcells, Rb.tab_len]; omega), Nat.add_comm 3 j]
  show (Rb.tab p (2 ^ d))[j]? = _
  exact Rb.tab_get hj
theorem TakeAt.p0 {w : World} {g : Nat} {ty : TypeId} {p d r : Nat} {post : List Value} (h : TakeAt w g ty p d r post) : p ≠ 0 := by have := Gf.top_pos h.top; omega

theorem restart_any {w : World} {g : Nat} {ty : TypeId} {p d r : Nat} {post : List Value} (h : TakeAt w g ty p d r post) :
    Calls Try.prog 41 #[.pointer (some ⟨g, 0, none⟩)] w fun e w' => e = .returned (.tuple #[]) ∧ TakeAt w' g ty p d 0 post ∧ Only (fun k => k = g) w w' := by
  have c1 := h.r
  have f1 := h.blk.frozen 0
  have HN := Lib.hid (h.set (r' := 0) (Nat.two_pow_pos d))
  rw [show ((0 : Nat) : Int) = 0 from rfl] at HN
  clear h
  go_enter Try.func41, Try.ntmps41
  go_wp2
  go_end0
  exact ⟨rfl, HN.out, Only.setCell ⟨g, 0, none⟩ _⟩

set_option maxRecDepth 100000 in
set_option maxHeartbeats 1000000 in
theorem take7_any {w : World} {g : Nat} {ty : TypeId} {p d r : Nat} {post : List Value} (h : TakeAt w g ty p d r post) (b : UInt8) :
    Calls Try.prog 35 #[.pointer (some ⟨g, 0, none⟩), .int .u8 (b.toNat : Int)] w fun e w' => e = .returned (.tuple #[]) ∧ TakeAt w' g ty p d (Gf.rm p ((r * 256) ^^^ b.toNat)) post ∧ Only (fun k => k = g) w w' := by
  obtain ⟨hb1, hst⟩ := Rb.take_step (b := b.toNat) h.top h.d8 h.d63 h.lt b.toNat_lt
  have HST := Lib.hid hst
  have c1 := h.r
  have c2 := h.t
  have c3 := h.b
  have c4 := h.c hb1
  have f1 := h.blk.frozen 0
  have HSET : Hid (∀ w5, TakeAt w5 g ty p d r post → TakeAt (w5.setCell ⟨g, 0, none⟩ (.int .u64 (Gf.rm p ((r * 256) ^^^ b.toNat) : Int))) g ty p d (Gf.rm p ((r * 256) ^^^ b.toNat)) post) := fun w5 h => h.set (Gf.rm_lt _ h.top)
  have HC4 : Hid (∀ w5, TakeAt w5 g ty p d r post → w5.cell? ⟨g, 3 + r / 2 ^ (d - 8), none⟩ = some (.int .u64 (Rb.tb p (2 ^ d) (r / 2 ^ (d - 8)) : Int))) := fun w5 h => h.c hb1
  have H := Lib.hid h
  have hd63 := h.d63
  have hr64 : r < 18446744073709551616 := by
    have : (2 : Nat) ^ d ≤ 2 ^ 64 := Nat.pow_le_pow_right (by omega) (by omega)
    have := h.lt; omega
  have hb64 : (2 : Nat) ^ d - 1 < 18446744073709551616 := by
    have : (2 : Nat) ^ d ≤ 2 ^ 64 := Nat.pow_le_pow_right (by omega) (by omega)
    omega
  have ht64 := Rb.tb_64 h.p64 (2 ^ d) (r / 2 ^ (d - 8))
  have hb := b.toNat_lt
  obtain ⟨B, hB⟩ : ∃ B, (2 : Nat) ^ d - 1 = B := ⟨_, rfl⟩
  obtain ⟨T, hT⟩ : ∃ T, d - 8 = T := ⟨_, rfl⟩
  have hT64 : T < 64 := by omega
  obtain ⟨C, hC⟩ : ∃ C, Rb.tb p (2 ^ d) (r / 2 ^ (d - 8)) = C := ⟨_, rfl⟩
  obtain ⟨R, hR⟩ : ∃ R, Gf.rm p ((r * 256) ^^^ b.toNat) = R := ⟨_, rfl⟩
  rw [hR] at HSET HST ⊢
  rw [hC] at c4 HST ht64 HC4
  rw [hT] at c2 c4 hb1 HC4
  rw [hB] at c3 HST hb64
  have HB := Lib.hid hB
  clear h hst hC hR hB
  generalize b.toNat = x at *
  obtain ⟨q, hq⟩ : ∃ q, r / 2 ^ T = q := ⟨_, rfl⟩
  rw [hq] at c4 hb1 HC4
  have hsh : (r : Int) / 2 ^ T = (q : Int) := by
    rw [← hq, Int.natCast_ediv, Int.natCast_pow]
    rfl
  have hq8 : (q : Int) % 256 = (q : Int) := by omega
  have hx8 : x < 256 := hb
  obtain ⟨y, hy⟩ : ∃ y, r * 256 % 18446744073709551616 = y := ⟨_, rfl⟩
  have hyi : IntKind.u64.wrap ((r : Int) * 256) = (y : Int) := by rw [IntKind.wrap_u64]; omega
  have hy64 : y < 18446744073709551616 := by omega
  rw [hy] at HST
  have o1 := bits_or_u64 y x hy64 (by omega)
  have hO64 : y ||| x < 18446744073709551616 := Nat.or_lt_two_pow (n := 64) hy64 (by omega)
  generalize y ||| x = O at *
  have o2 := bits_and_u64 O B hO64 hb64
  have hA64 : O &&& B < 18446744073709551616 := Nat.and_lt_two_pow (n := 64) _ hb64
  generalize O &&& B = N at *
  have o3 := bits_xor_u64 N C hA64 ht64
  rw [HST.out] at o3
  have pq : 0 ≤ (q : Int) := by omega
  have mq : (q : Int) < 256 := by omega
  clear hy HST
  go_enter Try.func35, Try.ntmps35
  go_wp2
  go_quiet (fail)
  have HO := Lib.hid (Only.drewN (w := w) nq)
  have H5 := Lib.hid (H.out.keep HO.out (fun x => x))
  generalize w.drewN nq = w5 at *
  clear c1 c2 c3 c4 f1 H
  have c1 := H5.out.r
  have c3 := H5.out.b
  have c4 := HC4.out w5 H5.out
  have f1 := H5.out.blk.frozen 0
  have HN := Lib.hid (HSET.out w5 H5.out)
  rw [HB.out] at c3
  go_wp2
  go_region
  go_end0
  exact ⟨rfl, HN.out.keep Only.drew (fun x => x), ((HO.out.mono (fun _ _ x => x.elim)).trans (Only.setCell ⟨g, 0, none⟩ _)).trans (Only.drew.mono (fun _ _ x => x.elim))⟩

end Go.Proofs.Ytobiajjcnpflgaa
