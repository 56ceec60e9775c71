/- The law ChachaBack. Conditions: rows within the reach. -/
import Derived.Test.YtjeccooodkogkaaCArgs
import Derived.Test.YtjeccooodkogkaaCAlive
import Derived.Test.YtjeccooodkogkaaCXor
import Derived.Deep.RegionHeld3
namespace Go.Proofs.Ytjeccooodkogkaa
open Go.RowKit

/-- A boxed Case in a new world. -/
theorem case_boxB {w : World} {key nonce : List UInt8} {at' : Int} {dv : Value} (hk : key.length = 32) (hn : nonce.length = 12) : CaseAt (w.alloc (.cells (caseCells key nonce at' dv).toArray 31)) w.heap.size key nonce at' dv := ⟨Blk.new _ _ _, hk, hn⟩

theorem text_of {w w1 : World} {u : Value} {n : Nat} {bs : List UInt8} (h : w.ownsRow 0 5 1 u n (bs.map byteV)) (ho : Only (fun _ => False) w w1) : (convert 29 9 u).run Try.prog w1 = .ok (.string ⟨bs.toArray⟩) w1 := by
  have hb := BytesAt.of_row h
  exact (hb.only ho (fun k hk => (h.lt k hk).2) (fun _ _ x => x)).text

/-- A piece of a row. -/
theorem piece_at {w : World} {S : Nat → Prop} {a : Option Addr} {c : Nat} {bs : List UInt8} (h : BytesAt w S (.slice a bs.length c) bs) {i j : Nat} (hij : i ≤ j) (hj : j ≤ bs.length) :
    ∃ u, (∀ w1 : World, (Instr.slice 29 (.slice a bs.length c) (some (.int .i64 (i : Int))) (some (.int .i64 (j : Int))) none).run Try.prog w1 = .ok u w1) ∧ BytesAt w S u ((bs.drop i).take (j - i)) := by
  have hlen : ((bs.drop i).take (j - i)).length = j - i := by simp; omega
  rcases h with ⟨e, rfl⟩ | ⟨ad, c', e, hc, hs, hcell⟩
  · obtain ⟨rfl, _, rfl⟩ := Value.slice.inj e
    have hj0 : j = 0 := by simpa using hj
    subst hj0
    have hi0 : i = 0 := by omega
    subst hi0
    refine ⟨.slice none 0 0, fun w1 => ?_, .inl ⟨rfl, by simp⟩⟩
    rw [run_slice_lh (ht := by kernel_rfl) (h0 := by omega) (h1 := by omega) (h2 := by simp)]
    have hsz : (sizeOf (Try.prog.elem 29)).run Try.prog w1 = .ok 1 w1 := by kernel_rfl
    rw [hsz]
    simp [Result.andThen, sliced]
  · obtain ⟨rfl, _, rfl⟩ := Value.slice.inj e
    refine ⟨.slice (some (if c = i then ad else ad.add i)) (j - i) (c - i), fun w1 => ?_, .inr ⟨_, c - i, by rw [hlen], by omega, fun hne => ?_, fun t x hx => ?_⟩⟩
    · rw [run_slice_lh (ht := by kernel_rfl) (h0 := by omega) (h1 := by omega) (h2 := by omega)]
      have hsz : (sizeOf (Try.prog.elem 29)).run Try.prog w1 = .ok 1 w1 := by kernel_rfl
      rw [hsz]
      by_cases e : c = i
      · simp [Result.andThen, sliced, e]
      · simp [Result.andThen, sliced, e]
    · have hb : (if c = i then ad else ad.add i).block = ad.block := by
        split
        · rfl
        · exact add_block _ _
      rw [hb]
      exact hs (by rintro rfl; simp at hne)
    · have ht : t < j - i := by
        have := (List.getElem?_eq_some_iff.1 hx).1
        omega
      rw [List.getElem?_take_of_lt ht, List.getElem?_drop] at hx
      rw [if_neg (by omega), add_add]
      exact hcell _ x hx

/-- A piece of what XOR answers. -/
theorem xor_piece (key nonce : List UInt8) (p : Nat) (bs : List UInt8) (i j : Nat) : Ch.xor key nonce (p + i) ((bs.drop i).take (j - i)) = ((Ch.xor key nonce p bs).drop i).take (j - i) := by
  rw [Ch.xor_drop, Ch.xor_take]

set_option maxRecDepth 100000 in
set_option maxHeartbeats 2000000 in
theorem chachaBack_any {w : World} {key nonce : List UInt8} {at' f t : Int} {dv : Value} {data : List UInt8} (hk : key.length = 32) (hn : nonce.length = 12) {S : Nat → Prop} (hd : BytesAt w S dv data) (hS : ∀ k, S k → k < w.heap.size) :
    Calls Try.prog 5 #[.agg (caseCells key nonce at' dv).toArray, .int .i64 f, .int .i64 t] w fun e w' => e = .returned (.bool true) ∧ Only (fun _ => False) w w' := by
  obtain ⟨da, dc, rfl⟩ := hd.shape
  have HK := Lib.hid hk; have HN := Lib.hid hn; have HD := Lib.hid hd; have HS := Lib.hid hS
  have HB0 := Lib.hid (case_boxB (w := w) (at' := at') (dv := .slice da data.length dc) hk hn)
  have HO0 : Hid (Only (fun _ => False) w (w.alloc (.cells (caseCells key nonce at' (.slice da data.length dc)).toArray 31))) := Only.alloc _
  generalize caseCells key nonce at' (.slice da data.length dc) = cc at *
  clear hk hn hd hS
  go_enter Try.func5, Try.ntmps5
  go_wp2_with fail
  generalize w.alloc (.cells cc.toArray 31) = w0 at *
  generalize w.heap.size = g at HB0 ⊢
  refine alive_any.mono ?_
  rintro e w1 ⟨rfl, ho1⟩
  have HB1 := Lib.hid (HB0.out.keep ho1 (fun x => x)); have HO1 := Lib.hid (HO0.out.trans ho1)
  have x3 := HB1.out.data
  have x2 := HB1.out.at
  clear ho1 HB0 HO0
  by_cases hlt : (data.length : Int) > 65536
  · go_wp2_with fail
    go_ret
    exact ⟨rfl, HO1.out⟩
  · have HL : Few data.length := ⟨by omega⟩
    have hx := cXOR_any (w := w1) HK.out HN.out (at' := at') (HD.out.here HO1.out HS.out) (fun _ h => h) HL
    have HX := Lib.hid hx
    unfold digV at HX
    clear hx
    go_wp2_with (first
      | (refine wpList_load_mid rfl 22 (.tmp 18) rfl g 0 rfl (key.map byteV) _ HB1.out.key Try.underlying22 rfl (size_key HK.out) ?_)
      | (refine wpList_load_mid rfl 24 (.tmp 20) rfl g 32 rfl (nonce.map byteV) _ HB1.out.nonce Try.underlying24 rfl (size_nonce HN.out) ?_)
      | fail)
    refine HX.out.mono ?_
    clear HX
    rintro e w2 (⟨hin, u, rfl, hr2, hn2, ho2⟩ | ⟨hin, rfl, ho2⟩)
    · obtain ⟨q, rfl⟩ := Int.eq_ofNat_of_zero_le hin.1
      rw [Int.toNat_natCast] at hr2
      have HB2 := Lib.hid (HB1.out.keep ho2 (fun x => x)); have HO2 := Lib.hid (HO1.out.trans ho2)
      obtain ⟨ua, uc, rfl⟩ := row_shape hr2
      have hbx : BytesAt w2 (fun k => k < w2.heap.size) (.slice ua data.length uc) (Ch.xor key nonce q data) := (BytesAt.of_row hr2).mono (fun k hk => (hr2.lt k hk).2)
      have hxl := Ch.xor_length key nonce q data
      have hy := cXOR_any (w := w2) HK.out HN.out (at' := (q : Int)) hbx (fun _ h => h) (by rw [hxl]; exact HL)
      rw [Int.toNat_natCast, Ch.xor_xor, hxl] at hy
      have HY := Lib.hid hy; have HR2 := Lib.hid hr2
      unfold digV at HY
      have x2' := HB2.out.at
      have HIN := Lib.hid hin
      clear hin hr2 hn2 ho2 hbx hy x2 x3 HB1 HO1
      go_wp2_with (first
        | (refine wpList_load_mid rfl 22 (.tmp 49) rfl g 0 rfl (key.map byteV) _ HB2.out.key Try.underlying22 rfl (size_key HK.out) ?_)
        | (refine wpList_load_mid rfl 24 (.tmp 51) rfl g 32 rfl (nonce.map byteV) _ HB2.out.nonce Try.underlying24 rfl (size_nonce HN.out) ?_)
        | fail)
      refine HY.out.mono ?_
      clear HY
      rintro e w3 (⟨_, y, rfl, hr3, hn3, ho3⟩ | ⟨hno, rfl, ho3⟩)
      · have HB3 := Lib.hid (HB2.out.keep ho3 (fun x => x)); have HO3 := Lib.hid (HO2.out.trans ho3)
        obtain ⟨ya, yc, rfl⟩ := row_shape hr3
        have t1 := text_of hr3 (Only.refl _ _)
        have t2 := (HD.out.here HO3.out HS.out).text
        have x3' := HB3.out.data
        have x2'' := HB3.out.at
        have HR3 : Hid (w3.ownsRow 0 5 1 (.slice ua data.length uc) data.length ((Ch.xor key nonce q data).map byteV)) := ownsRow_keep HR2.out (fun k hk => ho3.block k (HR2.out.lt k hk).2 (fun x => x))
        clear hr3 hn3 ho3 x2' HB2 HO2 HR2
        by_cases hout : f < 0 ∨ t < f ∨ (data.length : Int) < t
        · have hcond : (f < 0) ∨ (¬ f < 0 ∧ t < f) ∨ (¬ f < 0 ∧ ¬ t < f ∧ (data.length : Int) < t) := by omega
          clear hout
          rcases hcond with h | ⟨h1, h2⟩ | ⟨h1, h2, h3⟩
          · go_wp2_with fail
            go_ret
            exact ⟨rfl, HO3.out⟩
          · go_wp2_with fail
            go_ret
            exact ⟨rfl, HO3.out⟩
          · go_wp2_with fail
            go_ret
            exact ⟨rfl, HO3.out⟩
        · have h1 : ¬ f < 0 := by omega
          have h2 : ¬ t < f := by omega
          have h3 : ¬ (data.length : Int) < t := by omega
          obtain ⟨i, rfl⟩ := Int.eq_ofNat_of_zero_le (show 0 ≤ f by omega)
          obtain ⟨j, rfl⟩ := Int.eq_ofNat_of_zero_le (show 0 ≤ t by omega)
          have hij : i ≤ j := by omega
          have hj : j ≤ data.length := by omega
          clear hout
          obtain ⟨pv, hps, hpb⟩ := piece_at (HD.out.here HO3.out HS.out) hij hj
          have hpl : ((data.drop i).take (j - i)).length = j - i := by simp; omega
          have hz := cXOR_any (w := w3.drew) HK.out HN.out (at' := (q : Int) + (i : Int)) (hpb.kept (fun _ _ => rfl) (fun _ h => h)) (fun _ h => h) ⟨by rw [hpl]; have := HL.le; omega⟩
          have hqi : ((q : Int) + (i : Int)).toNat = q + i := by omega
          rw [hqi, xor_piece, hpl] at hz
          have HZ := Lib.hid hz
          have hrb : BytesAt w3 (fun k => k < w3.heap.size) (.slice ua data.length uc) (Ch.xor key nonce q data) := (BytesAt.of_row HR3.out).mono (fun k hk => (HR3.out.lt k hk).2)
          rw [← hxl] at hrb
          obtain ⟨rv, hrs, hrp⟩ := piece_at hrb hij (by rw [hxl]; exact hj)
          rw [hxl] at hrs
          have wq : IntKind.i64.wrap ((q : Int) + (i : Int)) = (q : Int) + (i : Int) := by have := HIN.out.2; exact IntWalk.i64_in _ (by omega)
          have HB3' := HB3.out.keep Only.drew (fun x => x)
          have k1 := HB3'.key; have k2 := HB3'.nonce; have k3 := HB3'.at; have k4 := HB3'.data
          have HB3D := Lib.hid HB3'
          clear HB3'
          have u32 := Try.underlying22; have u12 := Try.underlying24
          have s32 := size_key HK.out; have s12 := size_nonce HN.out
          have HRP := Lib.hid hrp
          clear hz hrb hrp hpb hpl hqi
          unfold digV at HZ
          go_wp2_with fail
          refine wp_region_held_drew (S := fun w' => w'.rangeAt g 0 (key.map byteV) ∧ w'.rangeAt g 32 (nonce.map byteV) ∧ w'.cell? ⟨g, 44, none⟩ = some (.int .i64 (q : Int)) ∧ w'.cell? ⟨g, 45, none⟩ = some (.slice da data.length dc)) (by kernel_rfl) ⟨k1, k2, k3, k4⟩ (fun hHeld => ?_)
          refine wpAnyH_take (i := 0) (v := .pointer (some ⟨g, 0, none⟩)) rfl (by kernel_rfl) (by kernel_rfl) (by kernel_rfl) (fun _ _ _ h => h) (Or.inl ⟨by rfl, fun w _ => by go_simp⟩) hHeld ?_
          refine wpAnyH_take (i := 1) rfl (by kernel_rfl) (by kernel_rfl) (by kernel_rfl) (fun _ _ _ h => h) (yieldsIf_load_mid (by rfl) 22 (.tmp 84) rfl g 0 rfl (key.map byteV) _ (fun w hS => hS.1) Try.underlying22 rfl (size_key HK.out)) hHeld ?_
          refine wpAnyH_take (i := 2) (v := .pointer (some ⟨g, 32, none⟩)) rfl (by kernel_rfl) (by kernel_rfl) (by kernel_rfl) (fun _ _ _ h => h) (Or.inl ⟨by rfl, fun w _ => by go_simp⟩) hHeld ?_
          refine wpAnyH_take (i := 3) rfl (by kernel_rfl) (by kernel_rfl) (by kernel_rfl) (fun _ _ _ h => h) (yieldsIf_load_mid (by rfl) 24 (.tmp 86) rfl g 32 rfl (nonce.map byteV) _ (fun w hS => hS.2.1) Try.underlying24 rfl (size_nonce HN.out)) hHeld ?_
          refine wpAnyH_take (i := 4) (v := .pointer (some ⟨g, 44, none⟩)) rfl (by kernel_rfl) (by kernel_rfl) (by kernel_rfl) (fun _ _ _ h => h) (Or.inl ⟨by rfl, fun w _ => by go_simp⟩) hHeld ?_
          refine wpAnyH_take (i := 5) (v := .int .i64 (q : Int)) rfl (by kernel_rfl) (by kernel_rfl) (by kernel_rfl) (fun _ _ _ h => h) (Or.inl ⟨by rfl, fun w hS => by obtain ⟨z1, z2, z3, z4⟩ := hS; go_simp⟩) hHeld ?_
          refine wpAnyH_take (i := 6) (v := .int .i64 (i : Int)) rfl (by kernel_rfl) (by kernel_rfl) (by kernel_rfl) (fun _ _ _ h => h) (Or.inl ⟨by rfl, fun w _ => by go_simp⟩) hHeld ?_
          refine wpAnyH_take (i := 7) (v := .int .i64 ((q : Int) + (i : Int))) rfl (by kernel_rfl) (by kernel_rfl) (by kernel_rfl) (fun _ _ _ h => h) (Or.inl ⟨by rfl, fun w _ => by go_simp⟩) hHeld ?_
          refine wpAnyH_take (i := 8) (v := .pointer (some ⟨g, 45, none⟩)) rfl (by kernel_rfl) (by kernel_rfl) (by kernel_rfl) (fun _ _ _ h => h) (Or.inl ⟨by rfl, fun w _ => by go_simp⟩) hHeld ?_
          refine wpAnyH_take (i := 9) (v := .slice da data.length dc) rfl (by kernel_rfl) (by kernel_rfl) (by kernel_rfl) (fun _ _ _ h => h) (Or.inl ⟨by rfl, fun w hS => by obtain ⟨z1, z2, z3, z4⟩ := hS; go_simp⟩) hHeld ?_
          refine wpAnyH_take (i := 10) (v := .int .i64 (i : Int)) rfl (by kernel_rfl) (by kernel_rfl) (by kernel_rfl) (fun _ _ _ h => h) (Or.inl ⟨by rfl, fun w _ => by go_simp⟩) hHeld ?_
          refine wpAnyH_take (i := 11) (v := .int .i64 (j : Int)) rfl (by kernel_rfl) (by kernel_rfl) (by kernel_rfl) (fun _ _ _ h => h) (Or.inl ⟨by rfl, fun w _ => by go_simp⟩) hHeld ?_
          refine wpAnyH_ready (rs := [12]) (by kernel_rfl) (by simp) (AllReadyH.cons rfl (fun K hK => ?_) AllReadyH.nil)
          go_simp
          refine hK.out _ _ ⟨k1, k2, k3, k4⟩ (fun hHeld => ?_)
          clear hK K
          refine wpAnyH_ready (rs := [13]) (by kernel_rfl) (by simp) (AllReadyH.cons rfl (fun K hK => ?_) AllReadyH.nil)
          go_simp
          refine HZ.out.mono ?_
          rintro e w4 (⟨_, z, rfl, hr4, hn4, ho4⟩ | ⟨hno, rfl, ho4⟩)
          · obtain ⟨za, zc, rfl⟩ := row_shape hr4
            have HB4 := HB3D.out.keep ho4 (fun x => x)
            refine hK.out _ _ ⟨HB4.key, HB4.nonce, HB4.at, HB4.data⟩ (fun hHeld => ?_)
            clear hK K
            refine wpAnyH_take (i := 14) (v := .tuple #[.slice za (j - i) zc, .nilIface]) rfl (by kernel_rfl) (by kernel_rfl) (by kernel_rfl) (fun _ _ _ h => h) (Or.inl ⟨by rfl, fun w _ => by go_simp⟩) hHeld ?_
            refine wpAnyH_take (i := 15) (v := .slice za (j - i) zc) rfl (by kernel_rfl) (by kernel_rfl) (by kernel_rfl) (fun _ _ _ h => h) (Or.inl ⟨by rfl, fun w _ => by go_simp⟩) hHeld ?_
            refine wpAnyH_take (i := 16) (v := .nilIface) rfl (by kernel_rfl) (by kernel_rfl) (by kernel_rfl) (fun _ _ _ h => h) (Or.inl ⟨by rfl, fun w _ => by go_simp⟩) hHeld ?_
            refine wpAnyH_take (i := 17) (v := .slice za (j - i) zc) rfl (by kernel_rfl) (by kernel_rfl) (by kernel_rfl) (fun _ _ _ h => h) (Or.inl ⟨by rfl, fun w _ => by go_simp⟩) hHeld ?_
            refine wpAnyH_take (i := 18) (v := .nilIface) rfl (by kernel_rfl) (by kernel_rfl) (by kernel_rfl) (fun _ _ _ h => h) (Or.inl ⟨by rfl, fun w _ => by go_simp⟩) hHeld ?_
            refine wpAnyH_done (by kernel_rfl) ?_ _
            have t3 := fun n => text_of hr4 (Only.drewN n)
            have t4 : ∀ n, (convert 29 9 rv).run Try.prog (w4.drewN n) = .ok (.string ⟨(((Ch.xor key nonce q data).drop i).take (j - i)).toArray⟩) (w4.drewN n) := fun n => ((HRP.out.only ((Only.drew.trans ho4).trans (Only.drewN n)) (fun _ h => h) (fun _ _ x => x))).text
            have HO4 := Lib.hid (HO3.out.trans (Only.drew.trans ho4))
            generalize ((Ch.xor key nonce q data).drop i).take (j - i) = ps at *
            clear hr4 hn4 ho4 HB4 hHeld HB3D HRP
            go_wp2_with fail
            go_quiet (fail)
            go_wp2_with fail
            go_ret
            exact ⟨rfl, HO4.out.trans (Only.drewN nq)⟩
          · exact absurd (by have := HIN.out; unfold Within at *; omega) hno
      · exact absurd HIN.out hno
    · have HW : (at' < 0) ∨ (¬ at' < 0 ∧ at' > 274877906944 - (data.length : Int)) := by
        unfold Within at hin
        omega
      have hw : IntKind.i64.wrap (274877906944 - (data.length : Int)) = 274877906944 - (data.length : Int) := IntWalk.i64_in _ (by omega)
      have HB2 := HB1.out.keep ho2 (fun x => x)
      have x2' := HB2.at; have x3' := HB2.data
      have HO2 := Lib.hid (HO1.out.trans ho2)
      clear hin ho2 HB2 x2 x3
      rcases HW with h | ⟨h1, h2⟩
      · go_wp2_with fail
        go_ret
        exact ⟨rfl, HO2.out⟩
      · go_wp2_with fail
        go_ret
        exact ⟨rfl, HO2.out⟩

end Go.Proofs.Ytjeccooodkogkaa
