/- Passwords: mayBePassword, passwordKeys. Conditions: few bytes. -/
import Derived.Test.YtgdnmbchhfbjoaaDoorSeFrom
namespace Go.Proofs.YtgdnmbchhfbjoaaDoor
open Go.RowKit

namespace Se
/-- Which passwords are taken. -/
def good (pw : List UInt8) : Bool := decide (0 < pw.length ∧ pw.length ≤ 1024)
def pass (pw salt : List UInt8) : List UInt8 := keys (derived salt pw tKey 32)
theorem pass_len (pw salt : List UInt8) : (pass pw salt).length = 96 := keys_len _
end Se

/-- A text of these bytes. -/
def textV (pw : List UInt8) : Value := .string ⟨pw.toArray⟩

theorem may_any {w : World} {pw : List UInt8} : Calls Tryd.prog 42 #[textV pw] w fun e w' => e = .returned (.bool (Se.good pw)) ∧ w' = w := by
  unfold textV
  by_cases h0 : pw = []
  · subst h0
    go_enter Tryd.func42, Tryd.ntmps42
    go_wp2
    go_ret
    exact ⟨rfl, rfl⟩
  · have he : pw.isEmpty = false := by simpa using h0
    by_cases h1 : pw.length ≤ 1024
    · have HG : Hid (Se.good pw = true) := decide_eq_true ⟨List.length_pos_iff.2 h0, h1⟩
      have h2 : (pw.length : Int) ≤ 1024 := by omega
      go_enter Tryd.func42, Tryd.ntmps42
      go_wp2
      go_ret
      exact ⟨by rw [HG.out]; rfl, rfl⟩
    · have HG : Hid (Se.good pw = false) := decide_eq_false (fun h => h1 h.2)
      have h2 : ¬ (pw.length : Int) ≤ 1024 := by omega
      go_enter Tryd.func42, Tryd.ntmps42
      go_wp2
      go_ret
      exact ⟨by rw [HG.out]; rfl, rfl⟩

set_option maxRecDepth 100000 in
set_option maxHeartbeats 1000000 in
theorem pass_any {w : World} {pw salt : List UInt8} (hs : salt.length = 16) (hl : pw.length ≤ 1048576) (hf : Fst w) (ht : Tab w) :
    Calls Tryd.prog 43 #[textV pw, digV salt] w fun e w' => e = .returned (digV (Se.pass pw salt)) ∧ Only (fun _ => False) w w' := by
  obtain ⟨hzk, hzn⟩ := zero_keys
  obtain ⟨Z, hZ⟩ : ∃ Z, Z = (ocells 96 []).toArray := ⟨_, rfl⟩
  rw [← hZ] at hzk
  have hz0 : Blk ((w.alloc (.cells (salt.map byteV).toArray 47)).alloc (.cells Z 29)) (w.heap.size + 1) (ocells 96 []) 29 := by rw [hZ]; exact Blk.new1 _ _ _ _
  have hs0 := (Blk.new w (salt.map byteV) 47).alloc (.cells Z 29)
  have ho0 : Only (fun _ => False) w ((w.alloc (.cells (salt.map byteV).toArray 47)).alloc (.cells Z 29)) := (Only.alloc _).trans (Only.alloc _)
  obtain ⟨c1, w1, hcv, hb1, hlt1, ho1⟩ := conv_text ((w.alloc (.cells (salt.map byteV).toArray 47)).alloc (.cells Z 29)) pw
  have ho01 := ho0.trans ho1
  have HD := Lib.hid (ederived_any Se.tKey ((hs0.keep ho1 (fun x => x)).whole hs) (hb1.mono (S' := fun k => k < w1.heap.size) (fun k hk => by omega)) (fun _ h => h) (by omega) hl (by decide) (hf.only ho01 (fun x => x)) (ht.only ho01 (fun x => x)))
  have HZ1 := Lib.hid (hz0.keep ho1 (fun x => x)); have HO1 := Lib.hid ho01; have HF := Lib.hid hf; have HT := Lib.hid ht
  have HPL := Lib.hid (Se.pass_len pw salt)
  rw [World.size_alloc, World.size_alloc] at hcv HD
  clear hs hl hf ht hz0 hs0 ho0 hb1 hlt1 ho1 ho01 hZ
  have ha16 := all_16 w.heap.size 0
  unfold digV textV
  go_enter Tryd.func43, Tryd.ntmps43
  go_wp2_with fail
  refine HD.out.mono ?_
  rintro e w2 ⟨rfl, ho2⟩
  have HM := Lib.hid (from_any (derived_len salt pw Se.tKey 32) (HF.out.only (HO1.out.trans ho2) (fun x => x)) (HT.out.only (HO1.out.trans ho2) (fun x => x)))
  have HZ2 := Lib.hid (HZ1.out.keep ho2 (fun x => x)); have HO2 := Lib.hid (HO1.out.trans ho2)
  clear ho2 HD HZ1 HO1 HF HT hcv hzk
  go_wp2_with fail
  refine HM.out.mono ?_
  rintro e w3 ⟨rfl, ho3⟩
  have HZ3 := Lib.hid (HZ2.out.keep ho3 (fun x => x)); have HO3 := Lib.hid (HO2.out.trans ho3)
  rw [show Se.keys (derived salt pw Se.tKey 32) = Se.pass pw salt from rfl]
  clear ho3 HM HZ2 HO2
  generalize hP : Se.pass pw salt = P at *
  go_wp2_with (refine wpList_store_row rfl 29 (.tmp 4) (.tmp 9) rfl (w.heap.size + 1) (P.map byteV).toArray rfl rfl 29 (ocells 96 []).toArray HZ3.out.heap (size_keys HPL.out) (by simp [ocells, HPL.out]) (oneCell_bytes _) ?_)
  have hfin := HZ3.out.row (P.map byteV)
  exact bodyPost_ret (v := digV P) (results_cell_row rfl _ _ (w.heap.size + 1) 29 _ (0, 0) _ rfl hfin Tryd.underlying29 rfl (size_keys HPL.out)) rfl ⟨by rw [hP]; rfl, HO3.out.andThen (Only.setRow _ _) (fun k hk e => by omega)⟩

end Go.Proofs.YtgdnmbchhfbjoaaDoor
