/- The fixed fact's own numbers, and what Open says of what Seal made. Conditions: none. -/
import Derived.Test.YtgdnmbchhfbjoaaDoorSeBase
namespace Go.Proofs.YtgdnmbchhfbjoaaDoor
open Go.RowKit

namespace Se
def m0 : List UInt8 := [1, 2, 3, 0, 0, 0, 0, 0, 0, 0, 0, 0, 0, 0, 0, 0, 0, 0, 0, 0, 0, 0, 0, 0, 0, 0, 0, 0, 0, 0, 0, 0]
def hello : List UInt8 := [104, 101, 108, 108, 111]
def fixC : List UInt8 := [25, 194, 45, 49, 183, 207, 83, 241, 242, 139, 46, 106, 41, 223, 25, 103, 66, 8, 224, 87, 56, 239, 195, 45, 37, 200, 31, 183, 82, 60, 120, 147]
def fixN : List UInt8 := [246, 117, 89, 46, 241, 160, 252, 137, 7, 75, 100, 10, 119, 234, 118, 6, 101, 4, 232, 227, 99, 7, 44, 164, 81, 22, 200, 66, 208, 47, 218, 132]
def fixD : List UInt8 := [90, 154, 236, 187, 176, 44, 202, 234, 249, 42, 10, 200, 183, 162, 169, 149, 7, 92, 70, 30, 249, 179, 55, 181, 184, 222, 200, 36, 11, 214, 51, 40]

set_option maxRecDepth 100000 in
theorem fix1 : derived amphora m0 tCipher 32 = fixC := by kernel_rfl
set_option maxRecDepth 100000 in
theorem fix2 : derived amphora m0 tName 32 = fixN := by kernel_rfl
set_option maxRecDepth 100000 in
theorem fix3 : Sh.mac fixN [1, 2, 1, 99, 5, 104, 101, 108, 108, 111] = fixD := by kernel_rfl
set_option maxRecDepth 100000 in
theorem fix4 : Ch.xor fixC (fixD.take 12) 0 hello = [214, 221, 65, 192, 233] := by kernel_rfl

theorem fix_pack : Wi.pack [[2], [99], hello] = [1, 2, 1, 99, 5, 104, 101, 108, 108, 111] := by
  have h1 : Wi.var 1 = [1] := by rw [Wi.var_small (by decide)]; rfl
  have h5 : Wi.var 5 = [5] := by rw [Wi.var_small (by decide)]; rfl
  simp [Wi.pack, Wi.fieldOf, h1, h5, hello]

theorem keys_cipher (m : List UInt8) : cipher (keys m) = derived amphora m tCipher 32 := by
  unfold cipher keys
  rw [List.append_assoc, List.take_append_of_le_length (by rw [derived_len]; exact Nat.le_refl _), List.take_of_length_le (by rw [derived_len]; exact Nat.le_refl _)]
theorem keys_name (m : List UInt8) : name (keys m) = derived amphora m tName 32 := by
  unfold name keys
  rw [List.drop_append_of_le_length (by simp [derived_len]), List.drop_of_length_le (by simp [derived_len]), List.nil_append, List.take_of_length_le (by rw [derived_len]; exact Nat.le_refl _)]

theorem fix_body : body (keys m0) (nonce (keys m0) 2 [99] hello) hello = [214, 221, 65, 192, 233] := by
  unfold body nonce
  rw [keys_cipher, keys_name, fix1, fix2, fix_pack, fix3, fix4]

section
variable (K : List UInt8) (kind : UInt8) (ctx pl : List UInt8)

theorem blob_eq : blob K kind ctx pl = kind :: (nonce K kind ctx pl ++ (body K (nonce K kind ctx pl) pl ++ tag K kind ctx (nonce K kind ctx pl) (body K (nonce K kind ctx pl) pl))) := by
  simp [blob]
theorem body_len (n : List UInt8) : (body K n pl).length = pl.length := Ch.xor_length _ _ _ _
theorem blob_len' : (blob K kind ctx pl).length = pl.length + 45 := by
  rw [blob_eq]; simp [nonce_len, tag_len, body_len]; omega
theorem blob_head : (blob K kind ctx pl)[0]? = some kind := by rw [blob_eq]; rfl
theorem blob_nonce : nonceIn (blob K kind ctx pl) = nonce K kind ctx pl := by
  unfold nonceIn
  rw [blob_eq, List.drop_succ_cons, List.drop_zero, List.take_append_of_le_length (by rw [nonce_len]; exact Nat.le_refl _), List.take_of_length_le (by rw [nonce_len]; exact Nat.le_refl _)]
theorem blob_drop13 : (blob K kind ctx pl).drop 13 = body K (nonce K kind ctx pl) pl ++ tag K kind ctx (nonce K kind ctx pl) (body K (nonce K kind ctx pl) pl) := by
  rw [blob_eq, List.drop_succ_cons, List.drop_append_of_le_length (by rw [nonce_len]; exact Nat.le_refl _), List.drop_of_length_le (by rw [nonce_len]; exact Nat.le_refl _), List.nil_append]
theorem blob_body : bodyIn (blob K kind ctx pl) = body K (nonce K kind ctx pl) pl := by
  unfold bodyIn
  rw [blob_drop13, blob_len', show pl.length + 45 - 32 - 13 = (body K (nonce K kind ctx pl) pl).length by rw [body_len]; omega, List.take_append_of_le_length (Nat.le_refl _), List.take_length]
theorem blob_tag : tagIn (blob K kind ctx pl) = tag K kind ctx (nonce K kind ctx pl) (body K (nonce K kind ctx pl) pl) := by
  unfold tagIn
  rw [blob_len', show pl.length + 45 - 32 = pl.length + 13 by omega, Nat.add_comm, ← List.drop_drop, blob_drop13, List.drop_append_of_le_length (by rw [body_len]; exact Nat.le_refl _), List.drop_of_length_le (by rw [body_len]; exact Nat.le_refl _), List.nil_append]

/-- What is sealed is opened. -/
theorem blob_takes : Takes K kind ctx (blob K kind ctx pl) := ⟨by rw [blob_len']; omega, blob_head K kind ctx pl, by rw [blob_nonce, blob_body, blob_tag]⟩
theorem blob_plain : plain K (blob K kind ctx pl) = pl := by
  unfold plain
  rw [blob_nonce, blob_body]
  exact Ch.xor_xor _ _ _ _
/-- Another kind is not taken. -/
theorem blob_other {k : UInt8} (h : k ≠ kind) (ctx' : List UInt8) : ¬ Takes K k ctx' (blob K kind ctx pl) := fun t => by
  have := t.2.1
  rw [blob_head] at this
  exact h (Option.some.inj this).symm
end
end Se

end Go.Proofs.YtgdnmbchhfbjoaaDoor
