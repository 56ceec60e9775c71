/- Headers compared. Conditions: none. -/
import Derived.Test.YtemfelonfokcnaaUsDec
import Derived.Laws.StructEq
namespace Go.Proofs.Ytemfelonfokcnaa
open Go.RowKit

theorem fields_hd : Try.prog.underlying 23 = some (.struct (Try.prog.fieldsOf 23)) := by kernel_rfl
theorem stood_hd : Try.prog.stoodInHeld 23 = false := by kernel_rfl
theorem fieldsOf_hd : (Try.prog.fieldsOf 23).toList = [{ name := "Path", type := 9, offset := 0, embedded := false, tag := "", pkgPath := "", byteOffset := 0 }, { name := "Mode", type := 3, offset := 1, embedded := false, tag := "", pkgPath := "", byteOffset := 16 },
    { name := "Uid", type := 3, offset := 2, embedded := false, tag := "", pkgPath := "", byteOffset := 24 }, { name := "Gid", type := 3, offset := 3, embedded := false, tag := "", pkgPath := "", byteOffset := 32 }, { name := "Size", type := 3, offset := 4, embedded := false, tag := "", pkgPath := "", byteOffset := 40 },
    { name := "Time", type := 3, offset := 5, embedded := false, tag := "", pkgPath := "", byteOffset := 48 }, { name := "Type", type := 5, offset := 6, embedded := false, tag := "", pkgPath := "", byteOffset := 56 }, { name := "Link", type := 9, offset := 7, embedded := false, tag := "", pkgPath := "", byteOffset := 64 }] := by kernel_rfl

def hdEq (a b : Hd) : Bool := (a.path.toList == b.path.toList) && ((a.mode == b.mode) && ((a.uid == b.uid) && ((a.gid == b.gid) && ((a.size == b.size) && ((a.time == b.time) && (((a.type.toNat : Int) == (b.type.toNat : Int)) && (a.link.toList == b.link.toList)))))))

set_option maxRecDepth 100000 in
theorem eqIn_hd (a b : Hd) (w : World) : (Op.equalIn 10000 23 (hdV a) (hdV b)).run Try.prog w = .ok (hdEq a b) w := by
  unfold hdV
  rw [run_equalIn_struct w 9999 23 _ _ fields_hd stood_hd, fieldsOf_hd]
  simp [Op.eqFields, go_sem]
  unfold hdEq
  repeat' split
  all_goals simp_all

theorem hdEq_iff (a b : Hd) : hdEq a b = true ↔ a = b := by
  unfold hdEq
  simp only [Bool.and_eq_true, beq_iff_eq, ByteArray.toList_eq]
  constructor
  · rintro ⟨h1, h2, h3, h4, h5, h6, h7, h8⟩
    obtain ⟨p, m, u, g, s, t, y, l⟩ := a
    obtain ⟨p', m', u', g', s', t', y', l'⟩ := b
    simp only at h1 h2 h3 h4 h5 h6 h7 h8
    have e1 : p = p' := ByteArray.ext (Array.toList_inj.1 h1)
    have e8 : l = l' := ByteArray.ext (Array.toList_inj.1 h8)
    have e7 : y = y' := by rw [← UInt8.toNat_inj]; exact Int.ofNat.inj h7
    subst e1 h2 h3 h4 h5 h6 e7 e8
    rfl
  · rintro rfl
    simp
theorem hdEq_self (a : Hd) : hdEq a a = true := (hdEq_iff a a).2 rfl
theorem hdEq_ne {a b : Hd} (h : a ≠ b) : hdEq a b = false := by
  cases e : hdEq a b with
  | false => rfl
  | true => exact (h ((hdEq_iff a b).1 e)).elim

theorem eql_hd (a b : Hd) (w : World) : (binOp .eql 23 (hdV a) (hdV b)).run Try.prog w = .ok (.bool (hdEq a b)) w := by
  have h := eqIn_hd a b w
  unfold hdV at h ⊢
  rw [run_eql_struct, h]
  rfl
theorem neq_hd (a b : Hd) (w : World) : (binOp .neq 23 (hdV a) (hdV b)).run Try.prog w = .ok (.bool (!hdEq a b)) w := by
  have h := eqIn_hd a b w
  unfold hdV at h ⊢
  rw [run_neq_struct, h]
  rfl

end Go.Proofs.Ytemfelonfokcnaa
