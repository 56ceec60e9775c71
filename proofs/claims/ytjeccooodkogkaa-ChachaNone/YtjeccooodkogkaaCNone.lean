/- The law ChachaNone. Conditions: rows within the reach. -/
import Derived.Test.YtjeccooodkogkaaCArgs
import Derived.Test.YtjeccooodkogkaaCAlive
import Derived.Test.YtjeccooodkogkaaCXor
import Derived.Test.YtjeccooodkogkaaGApart
namespace Go.Proofs.Ytjeccooodkogkaa
open Go.RowKit

/-- A boxed Case in a new world. -/
theorem case_boxed {w : World} {key nonce : List UInt8} {at' : Int} {dv : Value} (hk : key.length = 32) (hn : nonce.length = 12) : CaseAt (w.alloc (.cells (caseCells key nonce at' dv).toArray 31)) w.heap.size key nonce at' dv := ⟨Blk.new _ _ _, hk, hn⟩

/-- Three rows that lie apart. -/
theorem three_apart {w : World} {u0 u1 u2 : Value} {n : Nat} {x0 x1 x2 : List Value} (h0 : w.ownsRow 0 5 1 u0 n x0) (h1 : w.ownsRow 0 5 1 u1 n x1) (h2 : w.ownsRow 0 5 1 u2 n x2) {s0 s1 s2 : Nat} (l0 : ∀ g, u0.ownBlock = some g → s0 ≤ g ∧ g < s1) (l1 : ∀ g, u1.ownBlock = some g → s1 ≤ g ∧ g < s2) (l2 : ∀ g, u2.ownBlock = some g → s2 ≤ g) (h01 : s0 ≤ s1) (h12 : s1 ≤ s2) (hn : n ≤ 1048576) :
    Calls Try.prog 21 #[.slice (some ⟨w.heap.size, 0, none⟩) 3 3] (w.alloc (.cells #[u0, u1, u2] 29)) fun e w' => e = .returned (.bool true) ∧ Only (fun q => s0 ≤ q) (w.alloc (.cells #[u0, u1, u2] 29)) w' := by
  have hG := Blk.new w [u0, u1, u2] 29
  have hr : Rows1 (w.alloc (.cells #[u0, u1, u2] 29)) w.heap.size [(u0, n), (u1, n), (u2, n)] 0 := by
    refine ⟨fun i hi => ?_, fun i hi => ?_, hG.lt⟩
    · match i, hi with
      | 0, _ => exact ⟨_, h0.alloc _, fun h => by omega⟩
      | 1, _ => exact ⟨_, h1.alloc _, fun h => by omega⟩
      | 2, _ => exact ⟨_, h2.alloc _, fun h => by omega⟩
    · match i, hi with
      | 0, _ => exact hG.cell 0
      | 1, _ => exact hG.cell 1
      | 2, _ => exact hG.cell 2
  have hdis : Dis w.heap.size [(u0, n), (u1, n), (u2, n)] := by
    refine ⟨fun i j hi hj hne g e1 e2 => ?_, fun i hi h => ?_, fun i hi => ?_⟩
    · match i, j, hi, hj, hne, e1, e2 with
      | 0, 1, _, _, _, e1, e2 => have a := l0 g e1; have b := l1 g e2; omega
      | 0, 2, _, _, _, e1, e2 => have a := l0 g e1; have b := l2 g e2; omega
      | 1, 0, _, _, _, e1, e2 => have a := l0 g e2; have b := l1 g e1; omega
      | 1, 2, _, _, _, e1, e2 => have a := l1 g e1; have b := l2 g e2; omega
      | 2, 0, _, _, _, e1, e2 => have a := l0 g e2; have b := l2 g e1; omega
      | 2, 1, _, _, _, e1, e2 => have a := l1 g e2; have b := l2 g e1; omega
      | 0, 0, _, _, hne, _, _ => exact hne rfl
      | 1, 1, _, _, hne, _, _ => exact hne rfl
      | 2, 2, _, _, hne, _, _ => exact hne rfl
    · match i, hi, h with
      | 0, _, h => have a := (h0.lt _ h).2; omega
      | 1, _, h => have a := (h1.lt _ h).2; omega
      | 2, _, h => have a := (h2.lt _ h).2; omega
    · match i, hi with
      | 0, _ => exact hn
      | 1, _ => exact hn
      | 2, _ => exact hn
  refine (apart_any (c := 3) hr hdis (by simp)).mono ?_
  rintro e w' ⟨rfl, ho⟩
  refine ⟨rfl, ho.mono ?_⟩
  rintro q _ ⟨i, hi, h⟩
  match i, hi, h with
  | 0, _, h => exact (l0 q h).1
  | 1, _, h => have := (l1 q h).1; omega
  | 2, _, h => have := l2 q h; omega

set_option maxRecDepth 100000 in
set_option maxHeartbeats 2000000 in
theorem chachaNone_any {w : World} {key nonce : List UInt8} {at' : Int} {dv : Value} {data : List UInt8} (hk : key.length = 32) (hn : nonce.length = 12) {S : Nat → Prop} (hd : BytesAt w S dv data) (hS : ∀ k, S k → k < w.heap.size) :
    Calls Try.prog 8 #[.agg (caseCells key nonce at' dv).toArray] w fun e w' => e = .returned (.bool true) ∧ Only (fun _ => False) w w' := by
  obtain ⟨da, dc, rfl⟩ := hd.shape
  have HK := Lib.hid hk; have HN := Lib.hid hn; have HD := Lib.hid hd; have HS := Lib.hid hS
  have HB0 := Lib.hid (case_boxed (w := w) (at' := at') (dv := .slice da data.length dc) hk hn)
  have HO0 : Hid (Only (fun _ => False) w (w.alloc (.cells (caseCells key nonce at' (.slice da data.length dc)).toArray 31))) := Only.alloc _
  generalize caseCells key nonce at' (.slice da data.length dc) = cc at *
  clear hk hn hd hS
  go_enter Try.func8, Try.ntmps8
  go_wp2_with fail
  generalize w.alloc (.cells cc.toArray 31) = w0 at *
  generalize hgg : w.heap.size = g at HB0 ⊢
  have HWS := Lib.hid hgg
  clear hgg
  refine alive_any.mono ?_
  rintro e w1 ⟨rfl, ho1⟩
  have HB1 := Lib.hid (HB0.out.keep ho1 (fun x => x)); have HO1 := Lib.hid (HO0.out.trans ho1)
  have x3 := HB1.out.data
  have x2 := HB1.out.at
  clear ho1 HB0 HO0
  by_cases hlt : (data.length : Int) > 4096
  · go_wp2_with fail
    go_ret
    exact ⟨rfl, HO1.out⟩
  · have HL : Few data.length := ⟨by omega⟩
    have hdl : data.length ≤ 4096 := by omega
    have HDL : Hid (data.length ≤ 4096) := hdl
    clear hdl
    go_wp2_with fail
    refine sXOR_nil.mono ?_
    rintro e wx ⟨rfl, rfl⟩
    have HB2 := Lib.hid (HB1.out.keep (Only.alloc (.cells #[.slice da data.length dc] 29)) (fun x => x)); have HO2 := Lib.hid (HO1.out.trans (Only.alloc (.cells #[.slice da data.length dc] 29)))
    have x2' := HB2.out.at; have x3' := HB2.out.data
    clear x2 x3 HB1 HO1
    generalize w1.alloc (.cells #[.slice da data.length dc] 29) = w2 at *
    go_wp2_with (first
      | (go_at_call 15; refine (num_err 8 _ (by decide)).mono ?_; rintro e w' ⟨rfl, rfl⟩)
      | (go_at_call 18; refine seek_nil.mono ?_; rintro e w' ⟨rfl, rfl⟩)
      | (go_at_call 19; refine at_nil.mono ?_; rintro e w' ⟨rfl, rfl⟩))
    refine (copy_any (HD.out.here HO2.out HS.out) (fun _ h => h) (by have := HDL.out; omega)).mono ?_
    rintro e w3 ⟨g3, c3, rfl, hc3, hg3, ho3⟩
    have HB3 := Lib.hid (HB2.out.keep ho3 (fun x => x)); have HO3 := Lib.hid (HO2.out.trans ho3); have HC3 := Lib.hid hc3
    have hx := cXOR_any (w := w3) HK.out HN.out (at' := 5) (hc3.bytes) (fun k e => by subst e; exact hc3.lt) HL
    have HX := Lib.hid hx
    unfold digV at HX
    have HGB : Hid (g < w3.heap.size) := HB3.out.blk.lt
    clear ho3 hc3 hg3 x2' x3' HB2 HO2 hx
    go_wp2_with (first
      | (refine wpList_load_mid rfl 22 (.tmp 48) rfl g 0 rfl (key.map byteV) _ HB3.out.key Try.underlying22 rfl (size_key HK.out) ?_)
      | (refine wpList_load_mid rfl 24 (.tmp 50) rfl g 32 rfl (nonce.map byteV) _ HB3.out.nonce Try.underlying24 rfl (size_nonce HN.out) ?_)
      | fail)
    refine HX.out.mono ?_
    clear HX
    rintro e w4 (⟨_, u0, rfl, hr4, hn4, ho4⟩ | ⟨hin, rfl, ho4⟩)
    · have HB4 := Lib.hid (HB3.out.keep ho4 (fun x => x)); have HO4 := Lib.hid (HO3.out.trans ho4); have HC4 := Lib.hid (HC3.out.only ho4 (fun x => x))
      have HR4 := Lib.hid hr4; have HN4 := Lib.hid hn4
      have hz4 := ho4.size
      have HNEW : Hid (∀ w1, Calls Try.prog 17 #[.agg (key.map byteV).toArray, .agg (nonce.map byteV).toArray] w1 fun e w' => ∃ b, e = .returned (.pointer (some ⟨b, 0, none⟩)) ∧ StreamAt w' b key nonce 0 ∧ w1.heap.size ≤ b ∧ Only (fun _ => False) w1 w') := fun w1 => new_any HK.out HN.out
      obtain ⟨a0, c0, rfl⟩ := row_shape hr4
      clear hr4 hn4 ho4 HB3 HO3
      go_wp2_with (first
        | (refine wpList_load_mid rfl 22 (.tmp 57) rfl g 0 rfl (key.map byteV) _ HB4.out.key Try.underlying22 rfl (size_key HK.out) ?_)
        | (refine wpList_load_mid rfl 24 (.tmp 59) rfl g 32 rfl (nonce.map byteV) _ HB4.out.nonce Try.underlying24 rfl (size_nonce HN.out) ?_)
        | fail)
      refine (HNEW.out w4).mono ?_
      rintro e w5 ⟨b5, rfl, hs5, hb5, ho5⟩
      have HC5 := Lib.hid (HC4.out.only ho5 (fun x => x)); have HB5 := Lib.hid (HB4.out.keep ho5 (fun x => x)); have HO5 := Lib.hid (HO4.out.trans ho5)
      have hp5 := part_at (Blk.new w5 [.slice (some ⟨g3, 0, none⟩) data.length c3] 29) ((HC5.out.only (Only.alloc (.cells #[.slice (some ⟨g3, 0, none⟩) data.length c3] 29)) (fun x => x)).bytes) (fun k e => by subst e; exact Nat.lt_of_lt_of_le HC5.out.lt (by simp))
      have hx5 := sXOR_any (hs5.keep (Only.alloc (.cells #[.slice (some ⟨g3, 0, none⟩) data.length c3] 29)) (fun x => x)) hp5 (fun _ h => h) ⟨by simp⟩ (by simpa using HL)
      simp only [List.flatten_cons, List.flatten_nil, List.append_nil] at hx5
      have HX5 := Lib.hid hx5
      have hbl5 := hs5.blk.lt
      have hz5 := ho5.size
      have HOA : Hid (Only (fun _ => False) w5 (w5.alloc (.cells #[.slice (some ⟨g3, 0, none⟩) data.length c3] 29))) := Only.alloc _
      have hlA : (w5.alloc (.cells #[.slice (some ⟨g3, 0, none⟩) data.length c3] 29)).heap.size = w5.heap.size + 1 := by simp
      have HR5 : Hid (w5.ownsRow 0 5 1 (.slice a0 data.length c0) data.length ((Ch.xor key nonce (5 : Int).toNat data).map byteV)) := ownsRow_keep HR4.out (fun k hk => ho5.block k (HR4.out.lt k hk).2 (fun x => x))
      have HL4 : Hid (∀ g, (Value.slice a0 data.length c0).ownBlock = some g → w3.heap.size ≤ g ∧ g < w4.heap.size) := fun g hg => ⟨HN4.out g hg, (HR4.out.lt g hg).2⟩
      have hg3l := HC3.out.lt
      have HG3 := Lib.hid hg3l
      clear hs5 ho5 hp5 hx5 HB4 HO4 HC4 HR4 HN4 HC3 hg3l
      go_wp2_with fail
      refine HX5.out.mono ?_
      clear HX5
      rintro e w6 (⟨_, u1, rfl, hr6, hn6, _, ho6⟩ | ⟨hbig, _⟩)
      · have ho56 : Only (fun k => k = b5) w5 w6 := (HOA.out.mono (fun _ _ x => x.elim)).trans ho6
        have hz6 := ho56.size
        have HC6 := Lib.hid (HC5.out.only ho56 (by have := HC5.out.lt; have := HG3.out; omega))
        have HB6 := Lib.hid (HB5.out.keep ho56 (by have := HB5.out.blk.lt; have := HGB.out; omega))
        have hz0 := HO5.out.size
        have HO6 : Hid (Only (fun _ => False) w w6) := HO5.out.andThen ho56 (fun k hk e => by have := HWS.out; have := HGB.out; omega)
        have HR06 : Hid (w6.ownsRow 0 5 1 (.slice a0 data.length c0) data.length ((Ch.xor key nonce (5 : Int).toNat data).map byteV)) := ownsRow_keep HR5.out (fun k hk => ho56.block k (HR5.out.lt k hk).2 (by have := (HL4.out k hk).2; omega))
        obtain ⟨a1, c1, rfl⟩ := row_shape hr6
        have HR16 := Lib.hid hr6
        have HL1 : Hid (∀ g, (Value.slice a1 data.length c1).ownBlock = some g → w4.heap.size ≤ g ∧ g < w6.heap.size) := fun g hg => ⟨by have := hn6 g hg; omega, (hr6.lt g hg).2⟩
        clear hr6 hn6 ho6 ho56 HB5 HC5 HR5 HOA
        go_wp2_with (first
          | (refine wpList_load_mid rfl 22 (.tmp 68) rfl g 0 rfl (key.map byteV) _ HB6.out.key Try.underlying22 rfl (size_key HK.out) ?_)
          | (refine wpList_load_mid rfl 24 (.tmp 70) rfl g 32 rfl (nonce.map byteV) _ HB6.out.nonce Try.underlying24 rfl (size_nonce HN.out) ?_)
          | fail)
        refine (HNEW.out w6).mono ?_
        rintro e w7 ⟨b7, rfl, hs7, hb7, ho7⟩
        have hz7 := ho7.size
        have HC7 := Lib.hid (HC6.out.only ho7 (fun x => x)); have HB7 := Lib.hid (HB6.out.keep ho7 (fun x => x)); have HO7 := Lib.hid (HO6.out.trans ho7)
        have hp7 := new_two (w := w7) (v := .slice (some ⟨g3, 0, none⟩) data.length c3) (u := .slice none 0 0) (x := data) (y := []) (HC7.out.bytes.mono (fun k e => by subst e; exact HC7.out.lt)) (.inl ⟨rfl, rfl⟩)
        have hx7 := sXOR_any (hs7.keep (Only.alloc (.cells #[.slice (some ⟨g3, 0, none⟩) data.length c3, .slice none 0 0] 29)) (fun x => x)) hp7 (fun _ h => h) ⟨by simp⟩ (by simpa using HL)
        simp only [List.flatten_cons, List.flatten_nil, List.append_nil] at hx7
        have HX7 := Lib.hid hx7
        have hbl7 := hs7.blk.lt
        have HOA : Hid (Only (fun _ => False) w7 (w7.alloc (.cells #[.slice (some ⟨g3, 0, none⟩) data.length c3, .slice none 0 0] 29))) := Only.alloc _
        have hlA2 : (w7.alloc (.cells #[.slice (some ⟨g3, 0, none⟩) data.length c3, .slice none 0 0] 29)).heap.size = w7.heap.size + 1 := by simp
        have HR07 : Hid (w7.ownsRow 0 5 1 (.slice a0 data.length c0) data.length ((Ch.xor key nonce (5 : Int).toNat data).map byteV)) := ownsRow_keep HR06.out (fun k hk => ho7.block k (HR06.out.lt k hk).2 (fun x => x))
        have HR17 : Hid (w7.ownsRow 0 5 1 (.slice a1 data.length c1) data.length ((Ch.xor key nonce 0 data).map byteV)) := ownsRow_keep HR16.out (fun k hk => ho7.block k (HR16.out.lt k hk).2 (fun x => x))
        clear hs7 ho7 hp7 hx7 HB6 HO6 HC6 HR06 HR16
        go_wp2_with fail
        refine HX7.out.mono ?_
        clear HX7
        rintro e w8 (⟨_, u2, rfl, hr8, hn8, _, ho8⟩ | ⟨hbig, _⟩)
        · have ho78 : Only (fun k => k = b7) w7 w8 := (HOA.out.mono (fun _ _ x => x.elim)).trans ho8
          have hz8 := ho78.size
          have HC8 := Lib.hid (HC7.out.only ho78 (by have := HC7.out.lt; have := HG3.out; omega))
          have HB8 := Lib.hid (HB7.out.keep ho78 (by have := HB7.out.blk.lt; have := HGB.out; omega))
          have HO8 : Hid (Only (fun _ => False) w w8) := HO7.out.andThen ho78 (fun k hk e => by have := HWS.out; have := HGB.out; omega)
          have hr0 : w8.ownsRow 0 5 1 (.slice a0 data.length c0) data.length ((Ch.xor key nonce (5 : Int).toNat data).map byteV) := ownsRow_keep HR07.out (fun k hk => ho78.block k (HR07.out.lt k hk).2 (by have := (HL4.out k hk).2; omega))
          have hr1 : w8.ownsRow 0 5 1 (.slice a1 data.length c1) data.length ((Ch.xor key nonce 0 data).map byteV) := ownsRow_keep HR17.out (fun k hk => ho78.block k (HR17.out.lt k hk).2 (by have := (HL1.out k hk).2; omega))
          obtain ⟨a2, c2, rfl⟩ := row_shape hr8
          have hap := three_apart hr0 hr1 hr8 (s0 := w3.heap.size) (s1 := w4.heap.size) (s2 := w6.heap.size) HL4.out HL1.out (fun g hg => by have := hn8 g hg; omega) hz4 (by omega) (by have := HDL.out; omega)
          have HAP := Lib.hid hap
          have HKP : Hid (∀ w9, Only (fun q => w3.heap.size ≤ q) (w8.alloc (.cells #[.slice a0 data.length c0, .slice a1 data.length c1, .slice a2 data.length c2] 29)) w9 → w9.cell? ⟨g, 45, none⟩ = some (.slice da data.length dc) ∧ (Calls Try.prog 16 #[.slice (some ⟨g3, 0, none⟩) data.length c3, .slice da data.length dc] w9 fun e w' => e = .returned (.bool true) ∧ w9 = w') ∧ Only (fun _ => False) w w9) := by
            intro w9 ho9
            have hoA : Only (fun _ => False) w8 (w8.alloc (.cells #[.slice a0 data.length c0, .slice a1 data.length c1, .slice a2 data.length c2] 29)) := Only.alloc _
            have h1 := (HB8.out.keep hoA (fun x => x)).keep ho9 (by have := HGB.out; have := HG3.out; omega)
            have h2 := (HC8.out.only hoA (fun x => x)).only ho9 (by have := HG3.out; omega)
            have h3 : Only (fun _ => False) w w9 := (HO8.out.trans hoA).andThen ho9 (fun k hk e => by have := HWS.out; have := HGB.out; omega)
            exact ⟨h1.data, kept_any h2 (HD.out.here h3 HS.out) (by have := HDL.out; omega), h3⟩
          clear hr0 hr1 hr8 hn8 ho8 ho78 hap HR07 HR17 HC7 HC8 HB7 HB8 HO8 HO7
          go_wp2_with (first
            | (go_at_call 21; refine HAP.out.mono ?_; rintro e w9 ⟨rfl, ho9⟩; obtain ⟨x9, hk9, ho9'⟩ := HKP.out w9 ho9; have HK9 := Lib.hid hk9; have HO9 := Lib.hid ho9'; clear hk9 ho9 ho9')
            | (go_at_call 16; refine HK9.out.mono ?_; rintro e w' ⟨rfl, rfl⟩))
          go_ret
          exact ⟨rfl, HO9.out⟩
        · exact absurd hbig (by have := HDL.out; omega)
      · exact absurd hbig (by have := HDL.out; omega)
    · exact absurd ⟨by decide, by have := HDL.out; omega⟩ hin

end Go.Proofs.Ytjeccooodkogkaa
