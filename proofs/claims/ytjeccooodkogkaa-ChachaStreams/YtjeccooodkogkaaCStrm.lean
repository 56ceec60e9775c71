/- The law ChachaStreams. Conditions: rows within the reach. -/
import Derived.Test.YtjeccooodkogkaaCArgs
import Derived.Test.YtjeccooodkogkaaCAlive
import Derived.Test.YtjeccooodkogkaaCRefX
namespace Go.Proofs.Ytjeccooodkogkaa
open Go.RowKit

/-- What both XORs answer, side by side. -/
theorem both_texts {w w1 : World} {u : Value} {n : Nat} {bs : List UInt8} (h : w.ownsRow 0 5 1 u n (bs.map byteV)) (ho : Only (fun _ => False) w w1) : (convert 29 9 u).run Try.prog w1 = .ok (.string ⟨bs.toArray⟩) w1 := by
  have hb := BytesAt.of_row h
  exact (hb.only ho (fun k hk => (h.lt k hk).2) (fun _ _ x => x)).text

/-- A boxed Case in a new world. -/
theorem case_box {w : World} {key nonce : List UInt8} {at' : Int} {dv : Value} (hk : key.length = 32) (hn : nonce.length = 12) : CaseAt (w.alloc (.cells (caseCells key nonce at' dv).toArray 31)) w.heap.size key nonce at' dv := ⟨Blk.new _ _ _, hk, hn⟩

set_option maxRecDepth 100000 in
set_option maxHeartbeats 2000000 in
theorem chachaStreams_any {w : World} {key nonce : List UInt8} {at' : Int} {dv : Value} {data : List UInt8} (hk : key.length = 32) (hn : nonce.length = 12) {S : Nat → Prop} (hd : BytesAt w S dv data) (hS : ∀ k, S k → k < w.heap.size) :
    Calls Try.prog 4 #[.agg (caseCells key nonce at' dv).toArray] w fun e w' => e = .returned (.bool true) ∧ Only (fun _ => False) w w' := by
  obtain ⟨da, dc, rfl⟩ := hd.shape
  have HK := Lib.hid hk; have HN := Lib.hid hn; have HD := Lib.hid hd; have HS := Lib.hid hS
  have HB0 := Lib.hid (case_box (w := w) (at' := at') (dv := .slice da data.length dc) hk hn)
  have HO0 : Hid (Only (fun _ => False) w (w.alloc (.cells (caseCells key nonce at' (.slice da data.length dc)).toArray 31))) := Only.alloc _
  generalize caseCells key nonce at' (.slice da data.length dc) = cc at *
  clear hk hn hd hS
  go_enter Try.func4, Try.ntmps4
  go_wp2_with fail
  generalize w.alloc (.cells cc.toArray 31) = w0 at *
  generalize w.heap.size = g at HB0 ⊢
  refine alive_any.mono ?_
  rintro e w1 ⟨rfl, ho1⟩
  have HB1 := Lib.hid (HB0.out.keep ho1 (fun x => x)); have HO1 := Lib.hid (HO0.out.trans ho1)
  have x3 := HB1.out.data
  clear ho1 HB0 HO0
  by_cases hlt : (data.length : Int) > 16384
  · go_wp2_with fail
    go_ret
    exact ⟨rfl, HO1.out⟩
  · have HL : Few data.length := ⟨by omega⟩
    go_wp2_with fail
    refine (copy_any (HD.out.here HO1.out HS.out) (fun _ h => h) (by omega)).mono ?_
    rintro e w2 ⟨g2, c2, rfl, hc2, hg2, ho2⟩
    have HB2 := Lib.hid (HB1.out.keep ho2 (fun x => x)); have HO2 := Lib.hid (HO1.out.trans ho2); have HC2 := Lib.hid hc2
    have hx := cXOR_any (w := w2) HK.out HN.out (at' := at') (hc2.bytes) (fun k e => by subst e; exact hc2.lt) HL
    have HX := Lib.hid hx
    have x2 := HB2.out.at
    unfold digV at HX
    clear ho2 hc2 hg2 x3 HB1 HO1 hx
    go_wp2_with (first
      | (refine wpList_load_mid rfl 22 (.tmp 18) rfl g 0 rfl (key.map byteV) _ HB2.out.key Try.underlying22 rfl (size_key HK.out) ?_)
      | (refine wpList_load_mid rfl 24 (.tmp 20) rfl g 32 rfl (nonce.map byteV) _ HB2.out.nonce Try.underlying24 rfl (size_nonce HN.out) ?_)
      | fail)
    refine HX.out.mono ?_
    clear HX
    rintro e w3 (⟨hin, u, rfl, hr3, hn3, ho3⟩ | ⟨hin, rfl, ho3⟩)
    · obtain ⟨q, rfl⟩ := Int.eq_ofNat_of_zero_le hin.1
      have HB3 := Lib.hid (HB2.out.keep ho3 (fun x => x)); have HO3 := Lib.hid (HO2.out.trans ho3); have HC3 := Lib.hid (HC2.out.only ho3 (fun x => x))
      have hr := r3XOR_ok (w := w3) HK.out HN.out (p := q) (HD.out.here HO3.out HS.out) (fun _ h => h) HL ⟨by have := hin.2; omega⟩
      have HR := Lib.hid hr; have HR3 := Lib.hid hr3
      unfold digV at HR
      obtain ⟨ua, uc, rfl⟩ := row_shape hr3
      have x2' := HB3.out.at; have x3' := HB3.out.data
      clear hin hr3 hn3 ho3 hr x2 HB2 HO2 HC2
      rw [Int.toNat_natCast] at HR3
      go_wp2_with (first
        | (refine wpList_load_mid rfl 22 (.tmp 29) rfl g 0 rfl (key.map byteV) _ HB3.out.key Try.underlying22 rfl (size_key HK.out) ?_)
        | (refine wpList_load_mid rfl 24 (.tmp 31) rfl g 32 rfl (nonce.map byteV) _ HB3.out.nonce Try.underlying24 rfl (size_nonce HN.out) ?_)
        | fail)
      refine HR.out.mono ?_
      rintro e w4 ⟨ra, rc, rfl, hrow⟩
      have ho4 := hrow.only
      have t1 := both_texts HR3.out ho4
      have t2 := both_texts hrow.row (Only.refl _ _)
      have x3'' := (HB3.out.keep ho4 (fun x => x)).data
      have HO4 := Lib.hid (HO3.out.trans ho4)
      have HKP := Lib.hid (kept_any (HC3.out.only ho4 (fun x => x)) (HD.out.here HO4.out HS.out) (by have := HL.le; omega))
      generalize Ch.xor key nonce q data = xs at *
      clear HR hrow ho4 x2' x3' HB3 HR3 HC3
      go_wp2_with (first
        | (go_at_call 15; refine (num_nil _).mono ?_; rintro e w' ⟨rfl, rfl⟩)
        | (go_at_call 16; refine HKP.out.mono ?_; rintro e w' ⟨rfl, rfl⟩))
      go_ret
      exact ⟨rfl, HO4.out⟩
    · have HB3 := Lib.hid (HB2.out.keep ho3 (fun x => x)); have HO3 := Lib.hid (HO2.out.trans ho3); have HC3 := Lib.hid (HC2.out.only ho3 (fun x => x))
      have hr := r3XOR_err (w := w3) (key := key) (nonce := nonce) (a := da) (c := dc) hin
      have HR := Lib.hid hr
      unfold digV at HR
      have x2' := HB3.out.at; have x3' := HB3.out.data
      clear hin ho3 hr x2 HB2 HO2 HC2
      go_wp2_with (first
        | (refine wpList_load_mid rfl 22 (.tmp 29) rfl g 0 rfl (key.map byteV) _ HB3.out.key Try.underlying22 rfl (size_key HK.out) ?_)
        | (refine wpList_load_mid rfl 24 (.tmp 31) rfl g 32 rfl (nonce.map byteV) _ HB3.out.nonce Try.underlying24 rfl (size_nonce HN.out) ?_)
        | fail)
      refine HR.out.mono ?_
      rintro e w4 ⟨rfl, ho4⟩
      have t1 : (convert 29 9 (.slice none 0 0)).run Try.prog w4 = .ok (.string ⟨([] : List UInt8).toArray⟩) w4 := BytesAt.text (S := fun _ => True) (.inl ⟨rfl, rfl⟩)
      have x3'' := (HB3.out.keep ho4 (fun x => x)).data
      have HO4 := Lib.hid (HO3.out.trans ho4)
      have HKP := Lib.hid (kept_any (HC3.out.only ho4 (fun x => x)) (HD.out.here HO4.out HS.out) (by have := HL.le; omega))
      clear HR ho4 x2' x3' HB3 HC3
      go_wp2_with (first
        | (go_at_call 15; refine (num_err 8 _ (by decide)).mono ?_; rintro e w' ⟨rfl, rfl⟩)
        | (go_at_call 16; refine HKP.out.mono ?_; rintro e w' ⟨rfl, rfl⟩))
      go_ret
      exact ⟨rfl, HO4.out⟩

end Go.Proofs.Ytjeccooodkogkaa
