/- UstarSplits: a path that fits is the prefix, a / and the name, as they stand in the block. Conditions: texts within the reach. -/
import Derived.Test.YtemfelonfokcnaaUsAlive
import Derived.Test.YtemfelonfokcnaaUsRow
namespace Go.Proofs.Ytemfelonfokcnaa
open Go.RowKit

namespace Us
def filt (l : By) : By := l.filter fun b => b != 0
theorem filt_succ {l : By} {i : Nat} {b : UInt8} (h : l[i]? = some b) : filt (l.take (i + 1)) = if b = 0 then filt (l.take i) else filt (l.take i) ++ [b] := by
  rw [List.take_add_one, h]
  unfold filt
  rw [List.filter_append]
  by_cases hb : b = 0
  · simp [hb]
  · simp [hb]
theorem filt_len (l : By) (i : Nat) : (filt (l.take i)).length ≤ i := by
  have := List.length_filter_le (fun b : UInt8 => b != 0) (l.take i)
  have h2 : (l.take i).length ≤ i := by rw [List.length_take]; omega
  exact Nat.le_trans this h2
theorem filt_txt {s : By} (hc : clean s = true) (n : Nat) : filt (txt s n) = s := by
  unfold filt txt
  rw [List.filter_append]
  have h1 : s.filter (fun b => b != 0) = s := by
    rw [List.filter_eq_self]
    intro b hb
    unfold clean at hc
    rw [List.all_eq_true] at hc
    exact ne_zero (hc b hb)
  have h2 : (zs (n - s.length)).filter (fun b => b != 0) = [] := by
    rw [List.filter_eq_nil_iff]
    intro b hb
    unfold zs at hb
    rw [(List.mem_replicate.1 hb).2]
    decide
  rw [h1, h2, List.append_nil]
def pathH (p : ByteArray) : Hd := ⟨p, 0, 0, 0, 0, 0, 53, ⟨#[]⟩⟩
theorem pathH_fits (p : ByteArray) : fits (pathH p) = okPath p.data.toList := by
  have h : (okId 0 && (okId 0 && (okId 0 && (okTime 0 && (okTime 0 && okKind (pathH p)))))) = true := by
    have : okKind (pathH p) = true := rfl
    rw [this]
    decide
  show (okPath p.data.toList && (okId 0 && (okId 0 && (okId 0 && (okTime 0 && (okTime 0 && okKind (pathH p))))))) = _
  rw [h, Bool.and_true]
theorem str_snoc (l : By) (b : UInt8) : str (l ++ [b]) = str l ++ ⟨#[b]⟩ := by
  apply ByteArray.ext
  apply Array.toList_inj.1
  simp [str]
end Us

theorem splits_no (p : ByteArray) (hp : p.size ≤ 140737488351232) (hf : Us.okPath p.data.toList = false) {w : World} :
    Calls Try.prog 7 #[.string p] w fun e w' => e = .returned (.bool true) ∧ Quiet w w' := by
  have HA := Lib.hid (fun W => alive10_any W)
  have HE := Lib.hid (fun W => encode_no (Us.pathH p) hp (by rw [Us.pathH_fits]; exact hf) W)
  have HF := Lib.hid (fun W => fitsPath_any p hp W)
  rw [errV_pos (by decide)] at HE
  rw [hf] at HF
  change Hid (∀ W, Calls _ _ #[.agg #[.string p, .int .i64 0, .int .i64 0, .int .i64 0, .int .i64 0, .int .i64 0, .int .u8 53, .string ⟨#[]⟩]] W _) at HE
  have hne := neq_err14
  clear hp hf
  go_enter Try.func7, Try.ntmps7
  go_wp2_with (first
    | (go_at_call 8; refine (HA.out _).mono ?_; rintro e w1 ⟨rfl, hq⟩; have HQ1 := Lib.hid hq; clear hq)
    | (go_at_call 9; refine (HE.out _).mono ?_; rintro e w2 ⟨rfl, hq⟩; have HQ2 := Lib.hid (HQ1.out.trans hq); clear hq)
    | (go_at_call 13; refine (HF.out _).mono ?_; rintro e w3 ⟨rfl, hq⟩; have HQ3 := Lib.hid (HQ2.out.trans hq); clear hq))
  go_ret
  exact ⟨rfl, HQ3.out⟩

set_option maxRecDepth 100000 in
set_option maxHeartbeats 2000000 in
theorem splits_ok (p : ByteArray) (hp : p.size ≤ 140737488351232) (hf : Us.okPath p.data.toList = true) {w : World} :
    Calls Try.prog 7 #[.string p] w fun e w' => e = .returned (.bool true) ∧ Quiet w w' := by
  have HA := Lib.hid (fun W => alive10_any W)
  have hff : Us.fits (Us.pathH p) = true := by rw [Us.pathH_fits]; exact hf
  have HE := Lib.hid (fun W => encode_ok (Us.pathH p) hp hff W)
  have HF := Lib.hid (fun W => fitsPath_any p hp W)
  rw [hf] at HF
  change Hid (∀ W, Calls _ _ #[.agg #[.string p, .int .i64 0, .int .i64 0, .int .i64 0, .int .i64 0, .int .i64 0, .int .u8 53, .string ⟨#[]⟩]] W _) at HE
  obtain ⟨q, nm, F⟩ := Us.fit_of hff
  have HP := Lib.hid (Us.parts_of F.parts)
  change Hid (Us.Parts p.data.toList q nm) at HP
  have hcl := Us.parts_clean F.clean F.parts
  have hcuts := Us.put_cuts (s := Us.sumT (Us.tot (Us.put q nm (Us.pathH p) Us.blanks))) F (Us.sumT_len _)
  have henc := F.enc
  have HN : Hid (Us.filt (Us.cut (Us.enc (Us.pathH p)) 0 100) = nm) := by unfold Hid; rw [henc]; unfold Us.encAt; rw [hcuts.1, Us.filt_txt hcl.2]
  have HPR : Hid (Us.filt (Us.cut (Us.enc (Us.pathH p)) 345 155) = q) := by unfold Hid; rw [henc]; unfold Us.encAt; rw [hcuts.2.2.2.2.2.2.2.2, Us.filt_txt hcl.1]
  have HL := Lib.hid (Us.enc_len hff)
  have hne := neq_err0
  clear hp hf hff F hcl hcuts henc
  obtain ⟨E, hE⟩ : ∃ E, Us.enc (Us.pathH p) = E := ⟨_, rfl⟩
  rw [hE] at HE HL HN HPR
  clear hE
  have HSL1 : Hid (∀ (g : Nat) (W : World), (Instr.slice 25 (.slice (some ⟨g, 0, none⟩) 512 512) none (some (.int .i64 100)) none).run Try.prog W = .ok (.slice (some ⟨g, 0, none⟩) 100 512) W) := fun g W => slice_h (m := 100) (by decide) W
  have HSL2 : Hid (∀ (g : Nat) (W : World), (Instr.slice 25 (.slice (some ⟨g, 0, none⟩) 512 512) (some (.int .i64 345)) (some (.int .i64 500)) none).run Try.prog W = .ok (.slice (some ⟨g, 345, none⟩) 155 167) W) := fun g W => by
    have := slice_oh (g := g) (o := 0) (n := 512) (c := 512) (l := 345) (h := 500) (by omega) (by omega) (by omega) W
    exact this
  have HCELL : Hid (∀ W g, Blk W g (E.map byteV) 5 → ∀ o i, o + i < 512 → ∃ b, (E.drop o)[i]? = some b ∧ W.cell? ⟨g, o + i, none⟩ = some (byteV b)) := fun W g hb o i hi => by
    have hl := HL.out
    refine ⟨E[o + i]'(by omega), by rw [List.getElem?_drop, List.getElem?_eq_getElem (by omega)], ?_⟩
    rw [hb.cell, List.getElem?_map, List.getElem?_eq_getElem (by omega)]
    rfl
  go_enter Try.func7, Try.ntmps7
  go_wp2_with (first
    | (go_at_call 8; refine (HA.out _).mono ?_; rintro e w1 ⟨rfl, hq⟩; have HQ1 := Lib.hid hq; clear hq)
    | (go_at_call 9; refine (HE.out _).mono ?_; rintro e w2 ⟨g, rfl, hb, hg, hq⟩; have HQ2 := Lib.hid (HQ1.out.trans hq); have HB2 := Lib.hid hb; have s1 := HSL1.out g; have s2 := HSL2.out g; clear hq hb hg))
  go_loopw [5, 27] (fun nv iv wr => ∃ i : Nat, i ≤ 100 ∧ nv = .string (Us.str (Us.filt (E.take i))) ∧ iv = .int .i64 (i : Int) ∧ Quiet w2 wr) (fun _ iv _ => 100 - (intOf iv).toNat)
  case atStart => exact ⟨0, Nat.zero_le _, rfl, rfl, Only.refl _ _⟩
  case round =>
    obtain ⟨i, hi, rfl, rfl, ho⟩ := hrel
    by_cases hlt : i < 100
    · obtain ⟨b, hget, hc⟩ := HCELL.out wr g (HB2.out.keep ho (fun x => x)) 0 i (by omega)
      rw [List.drop_zero] at hget
      rw [Nat.zero_add] at hc
      have hs := Us.filt_succ hget
      have hfl := Us.filt_len E i
      have hz : (Us.str (Us.filt (E.take i))).size ≤ 100 := by show (Us.filt (E.take i)).length ≤ 100; omega
      have HO := Lib.hid ho
      unfold byteV at hc
      by_cases hb0 : b = 0
      · subst hb0
        rw [if_pos rfl] at hs
        have HS := Lib.hid hs
        clear ho hs hget hfl
        change wr.cell? ⟨g, i, none⟩ = some (.int .u8 0) at hc
        go_wp2
        go_roundw
        case rel => exact ⟨i + 1, by omega, by rw [HS.out], by go_num, HO.out⟩
        case measure => simp [intOf]; omega
      · rw [if_neg hb0] at hs
        have hbn : ¬ ((b.toNat : Int) = 0) := fun e => hb0 (by rw [← UInt8.toNat_inj]; exact Int.ofNat.inj e)
        have hct := conv_one wr b
        unfold byteV at hct
        have HS : Hid (Us.str (Us.filt (E.take (i + 1))) = Us.str (Us.filt (E.take i)) ++ ⟨#[b]⟩) := by unfold Hid; rw [hs, Us.str_snoc]
        have z3 : ¬ (9223372036854775807 < (Us.str (Us.filt (E.take i))).size + 1) := by omega
        clear ho hs hget hfl hb0
        generalize Us.str (Us.filt (E.take i)) = s at *
        generalize b.toNat = y at *
        go_wp2
        go_roundw
        case rel => exact ⟨i + 1, by omega, by rw [HS.out], by go_num, HO.out.trans (Only.alloc _)⟩
        case measure => simp [intOf]; omega
    · obtain rfl : i = 100 := by omega
      have hnm : Us.filt (E.take 100) = nm := HN.out
      rw [hnm]
      have HQ3 := Lib.hid (HQ2.out.trans ho)
      have HB3 := Lib.hid (HB2.out.keep ho (fun x => x))
      clear ho hnm
      obtain ⟨w3, hw3⟩ : ∃ x, x = wr := ⟨_, rfl⟩
      subst hw3
      go_wp2
      go_loopw [6, 42] (fun nv iv wr => ∃ i : Nat, i ≤ 155 ∧ nv = .string (Us.str (Us.filt ((E.drop 345).take i))) ∧ iv = .int .i64 (i : Int) ∧ Quiet w3 wr) (fun _ iv _ => 155 - (intOf iv).toNat)
      case atStart => exact ⟨0, Nat.zero_le _, rfl, rfl, Only.refl _ _⟩
      case round =>
        obtain ⟨i, hi, rfl, rfl, ho⟩ := hrel
        by_cases hlt2 : i < 155
        · obtain ⟨b, hget, hc⟩ := HCELL.out wr g (HB3.out.keep ho (fun x => x)) 345 i (by omega)
          have hs := Us.filt_succ hget
          have hfl := Us.filt_len (E.drop 345) i
          have hz : (Us.str (Us.filt ((E.drop 345).take i))).size ≤ 155 := by show (Us.filt ((E.drop 345).take i)).length ≤ 155; omega
          have HO := Lib.hid ho
          unfold byteV at hc
          by_cases hb0 : b = 0
          · subst hb0
            rw [if_pos rfl] at hs
            have HS := Lib.hid hs
            clear ho hs hget hfl
            change wr.cell? ⟨g, 345 + i, none⟩ = some (.int .u8 0) at hc
            go_wp2
            go_roundw
            case rel => exact ⟨i + 1, by omega, by rw [HS.out], by go_num, HO.out⟩
            case measure => simp [intOf]; omega
          · rw [if_neg hb0] at hs
            have hbn : ¬ ((b.toNat : Int) = 0) := fun e => hb0 (by rw [← UInt8.toNat_inj]; exact Int.ofNat.inj e)
            have hct := conv_one wr b
            unfold byteV at hct
            have HS : Hid (Us.str (Us.filt ((E.drop 345).take (i + 1))) = Us.str (Us.filt ((E.drop 345).take i)) ++ ⟨#[b]⟩) := by unfold Hid; rw [hs, Us.str_snoc]
            have z3 : ¬ (9223372036854775807 < (Us.str (Us.filt ((E.drop 345).take i))).size + 1) := by omega
            clear ho hs hget hfl hb0
            generalize Us.str (Us.filt ((E.drop 345).take i)) = s at *
            generalize b.toNat = y at *
            go_wp2
            go_roundw
            case rel => exact ⟨i + 1, by omega, by rw [HS.out], by go_num, HO.out.trans (Only.alloc _)⟩
            case measure => simp [intOf]; omega
        · obtain rfl : i = 155 := by omega
          have hqq : Us.filt ((E.drop 345).take 155) = q := HPR.out
          rw [hqq]
          have HQ4 := Lib.hid (HQ3.out.trans ho)
          clear ho hqq
          have hps : p.data.toList.length = p.size := by simp
          by_cases hq0 : q = []
          · obtain ⟨e1, e2⟩ := HP.out.short hq0
            have hsn : Us.str nm = p := by rw [e1]; rfl
            rw [hps] at e2
            rw [hsn, hq0]
            have hsz : (p.size : Int) ≤ 100 := by omega
            have he : Us.str [] = ⟨#[]⟩ := rfl
            rw [he]
            clear e1 hsn he hq0 hps
            go_wp2
            go_ret
            exact ⟨rfl, HQ4.out⟩
          · have e2 := HP.out.long hq0
            have hj := HP.out.join
            have hne0 := HP.out.ne
            have hql := HP.out.ql
            have hnl := HP.out.nl
            rw [hps] at e2
            have hX : (Us.str q ++ ⟨#[47]⟩) ++ Us.str nm = p := by
              apply ByteArray.ext
              apply Array.toList_inj.1
              unfold Us.join at hj
              rw [if_neg hq0] at hj
              rw [← hj]
              simp [Us.str, List.append_assoc]
            have hz1 : (Us.str q).size ≤ 155 := hql
            have hz2 : (Us.str nm).size ≤ 100 := hnl
            have z3 : ¬ (9223372036854775807 < (Us.str q).size + 1) := by omega
            have z4 : ¬ (9223372036854775807 < (Us.str q).size + 1 + (Us.str nm).size) := by omega
            have hsz : (100 : Int) < (p.size : Int) := by omega
            have m1 : (Us.str q).toList.isEmpty = false := by
              rw [ByteArray.toList_eq]
              cases hqq : q with
              | nil => exact (hq0 hqq).elim
              | cons a b => rfl
            have m2 : (Us.str nm).toList.isEmpty = false := by
              rw [ByteArray.toList_eq]
              cases hqq : nm with
              | nil => exact (hne0 hqq).elim
              | cons a b => rfl
            have m3 : ¬ (Us.str q).toList = [] := by rw [ByteArray.toList_eq]; exact hq0
            have m4 : ¬ (Us.str nm).toList = [] := by rw [ByteArray.toList_eq]; exact hne0
            clear e2 hj hne0 hql hnl hps hq0
            go_wp2_with (go_at_call 13; refine (HF.out _).mono ?_; rintro e w5 ⟨rfl, hq5⟩; have HQ5 := Lib.hid (HQ4.out.trans hq5); clear hq5)
            go_ret
            exact ⟨rfl, HQ5.out⟩

theorem ustarSplits_any (p : ByteArray) (hp : p.size ≤ 140737488351232) {w : World} :
    Calls Try.prog 7 #[.string p] w fun e w' => e = .returned (.bool true) ∧ Quiet w w' := by
  cases hf : Us.okPath p.data.toList with
  | false => exact splits_no p hp hf
  | true => exact splits_ok p hp hf

end Go.Proofs.Ytemfelonfokcnaa
