/- The document's own XOR. Conditions: the row is short. -/
import Derived.Test.YtjeccooodkogkaaCRefB
import Derived.Test.YtjeccooodkogkaaGRow
namespace Go.Proofs.Ytjeccooodkogkaa
open Go.RowKit

theorem setRow_alloc3' (w : World) (a b c : Obj) (Z Z' : Array Value) (t : TypeId) : ((((w.alloc a).alloc b).alloc c).alloc (.cells Z t)).setRow (w.heap.size + 1 + 1 + 1) Z' = (((w.alloc a).alloc b).alloc c).alloc (.cells Z' t) := by
  have := World.setRow_alloc_new (((w.alloc a).alloc b).alloc c) Z Z' t
  rwa [World.size_alloc, World.size_alloc, World.size_alloc] at this

/-- What the loop of the document's XOR keeps: key and nonce, its block, the row so far. -/
structure Rx (w wr : World) (key nonce : List UInt8) (B : List UInt8) (ov : Value) (xs : List UInt8) : Prop where
  kn : KN w wr key nonce
  blk : Blk wr (w.heap.size + 1 + 1 + 1) (B.map byteV) 26
  len : B.length = 64
  row : wr.ownsRow 0 5 1 ov xs.length (xs.map byteV)
  own : ∀ q, ov.ownBlock = some q → q = w.heap.size + 1 + 1 ∨ w.heap.size + 1 + 1 + 1 < q

theorem Rx.keep {w wr w' : World} {key nonce B : List UInt8} {ov : Value} {xs : List UInt8} (h : Rx w wr key nonce B ov xs) (ho : Only (fun _ => False) wr w') : Rx w w' key nonce B ov xs :=
  ⟨h.kn.keep ho (fun _ x => x.elim), h.blk.keep ho (fun x => x), h.len, ownsRow_keep h.row (fun q hq => ho.block q (h.row.lt q hq).2 (fun x => x)), h.own⟩
theorem Rx.store {w wr : World} {key nonce B B' : List UInt8} {ov : Value} {xs : List UInt8} (h : Rx w wr key nonce B ov xs) (hl : B'.length = 64) : Rx w (wr.setRow (w.heap.size + 1 + 1 + 1) (B'.map byteV).toArray) key nonce B' ov xs :=
  ⟨h.kn.keep (Only.setRow _ _) (fun k e => by omega), h.blk.row _, hl, ownsRow_keep h.row (fun q hq => setRow_other _ _ _ _ (by have := h.own q hq; omega)), h.own⟩
theorem Rx.app {w wr w1 w2 : World} {key nonce B : List UInt8} {ov : Value} {xs y : List UInt8} {a : Option Addr} {n c : Nat} (h : Rx w wr key nonce B ov xs) (ho : Only (fun _ => False) wr w1) (hn : n = xs.length + y.length) (hr : w2.ownsRow 0 5 1 (.slice a n c) n (xs.map byteV ++ y.map byteV)) (hg : w1.grownBy w2 ov.ownBlock) (hat : (Value.slice a n c).ownBlock = ov.ownBlock ∨ (Value.slice a n c).ownBlock = some w1.heap.size) :
    Rx w w2 key nonce B (.slice a n c) (xs ++ y) := by
  subst hn
  have h1 := h.keep ho
  have ho2 : Only (fun q => some q = ov.ownBlock) w1 w2 := (Only.of_grown hg).mono (fun q _ h => h)
  have hb := h1.blk.lt
  refine ⟨h1.kn.keep ho2 (fun q e => by have := h.own q e.symm; omega), h1.blk.keep ho2 (fun e => by have := h.own _ e.symm; omega), h.len, by rw [List.length_append, List.map_append]; exact hr, fun q hq => ?_⟩
  rcases hat with e | e
  · exact h.own q (by rw [← e]; exact hq)
  · rw [hq] at e
    have e1 : q = w1.heap.size := Option.some.inj e
    omega

theorem xor_snoc (key nonce : List UInt8) (p : Nat) {bs : List UInt8} {i : Nat} (h : i < bs.length) : Ch.xor key nonce p (bs.take (i + 1)) = Ch.xor key nonce p (bs.take i) ++ [bs.getD i 0 ^^^ Ch.byte key nonce (p + i)] := by
  have e : bs.take (i + 1) = bs.take i ++ [bs.getD i 0] := by
    rw [List.take_succ_eq_append_getElem h]
    simp [h]
  have ht : (bs.take i).length = i := by simp; omega
  rw [e, Ch.xor_append, ht]
  rfl

theorem r3XOR_err {w : World} {key nonce : List UInt8} {at' : Int} {a : Option Addr} {n c : Nat} (h : ¬ Within at' n) :
    Calls Try.prog 14 #[digV key, digV nonce, .int .i64 at', .slice a n c] w fun e w' => e = .returned (.tuple #[.slice none 0 0, .int .i64 8]) ∧ Only (fun _ => False) w w' := by
  have HO : Hid (Only (fun _ => False) w ((w.alloc (.cells (key.map byteV).toArray 22)).alloc (.cells (nonce.map byteV).toArray 24))) := (KN.new w key nonce).only
  unfold digV
  by_cases h0 : at' < 0
  · go_enter Try.func14, Try.ntmps14
    go_wp2
    go_ret2
    exact ⟨rfl, HO.out⟩
  · by_cases h1 : 274877906944 < at'
    · have h0' : 0 ≤ at' := by omega
      go_enter Try.func14, Try.ntmps14
      go_wp2
      go_ret2
      exact ⟨rfl, HO.out⟩
    · have h2 : 274877906944 - at' < (n : Int) := by unfold Within at h; omega
      have h0' : 0 ≤ at' := by omega
      have h1' : at' ≤ 274877906944 := by omega
      have hw : IntKind.i64.wrap (274877906944 - at') = 274877906944 - at' := IntWalk.i64_in _ (by omega)
      clear h
      go_enter Try.func14, Try.ntmps14
      go_wp2
      go_ret2
      exact ⟨rfl, HO.out⟩

/-- The row ahead of the place i. -/
structure Upto (key nonce : List UInt8) (p : Nat) (bs : List UInt8) (i : Nat) (xs : List UInt8) : Prop where
  eq : Ch.xor key nonce p (bs.take i) = xs
  len : xs.length = i

theorem Upto.next {key nonce : List UInt8} {p : Nat} {bs : List UInt8} {i : Nat} {xs : List UInt8} (h : Upto key nonce p bs i xs) (hi : i < bs.length) {B : List UInt8} (hB : Ch.block key nonce ((p + i) / 64) = B) : Upto key nonce p bs (i + 1) (xs ++ [bs.getD i 0 ^^^ B.getD ((p + i) % 64) 0]) := by
  subst hB
  refine ⟨?_, by simp [h.len]⟩
  rw [xor_snoc key nonce p hi, h.eq]
  rfl

/-- B is the block that the place i needs, or one has to be made. -/
def Holds (key nonce : List UInt8) (p i : Nat) (B : List UInt8) : Prop := i = 0 ∨ (p + i) % 64 = 0 ∨ Ch.block key nonce ((p + i) / 64) = B

theorem Holds.next {key nonce : List UInt8} {p i : Nat} {B : List UInt8} (h : Ch.block key nonce ((p + i) / 64) = B) : Holds key nonce p (i + 1) B := by
  by_cases e : (p + (i + 1)) % 64 = 0
  · exact .inr (.inl e)
  · refine .inr (.inr ?_)
    rw [← h, show (p + (i + 1)) / 64 = (p + i) / 64 by omega]

/-- Facts on a place. -/
structure Place (p i d z : Nat) : Prop where
  d : (p + i) / 64 = d
  z : (p + i) % 64 = z

set_option maxRecDepth 100000 in
set_option maxHeartbeats 2000000 in
theorem r3XOR_ok {w : World} {key nonce : List UInt8} (hk : key.length = 32) (hn : nonce.length = 12) {p : Nat} {S : Nat → Prop} {v : Value} {bs : List UInt8} (hv : BytesAt w S v bs) (hS : ∀ k, S k → k < w.heap.size) (hlen : Few bs.length) (hfit : Fits p bs.length) :
    Calls Try.prog 14 #[digV key, digV nonce, .int .i64 (p : Int), v] w fun e w' => ∃ a c, e = .returned (.tuple #[.slice a bs.length c, .int .i64 0]) ∧ Row w w' (.slice a bs.length c) (Ch.xor key nonce p bs) := by
  obtain ⟨va, vc, rfl⟩ := hv.shape
  have HK := Lib.hid hk; have HN := Lib.hid hn; have HV := Lib.hid hv; have HS := Lib.hid hS
  have HB64 := Lib.hid built_out
  have HSZ := Lib.hid (show (Try.prog.info? 26).map (·.size) = some (ocells 64 []).toArray.size by kernel_rfl)
  have HONE := Lib.hid (show (ocells 64 []).toArray.all (·.oneCell') = true by simp [ocells, byteV, Value.oneCell'])
  have hle := hfit.le
  have g0 : ¬ (p : Int) < 0 := by omega
  have g1 : ¬ (p : Int) > 274877906944 := by omega
  have g2 : ¬ (bs.length : Int) > 274877906944 - (p : Int) := by omega
  have g3 : IntKind.i64.wrap (274877906944 - (p : Int)) = 274877906944 - (p : Int) := IntWalk.i64_in _ (by omega)
  have HR0 : Hid (∀ w1, w1 = (((w.alloc (.cells (key.map byteV).toArray 22)).alloc (.cells (nonce.map byteV).toArray 24)).alloc (.cells #[] 5)).alloc (.cells (ocells 64 []).toArray 26) → Rx w w1 key nonce (List.replicate 64 0) (.slice (some ⟨w.heap.size + 1 + 1, 0, none⟩) 0 0) []) := by
    intro w1 e
    subst e
    have h3 := Blk.new (((w.alloc (.cells (key.map byteV).toArray 22)).alloc (.cells (nonce.map byteV).toArray 24)).alloc (.cells #[] 5)) (ocells 64 []) 26
    rw [World.size_alloc, World.size_alloc, World.size_alloc] at h3
    have h2 := World.ownsRow_made ((w.alloc (.cells (key.map byteV).toArray 22)).alloc (.cells (nonce.map byteV).toArray 24)) (e := 5) (size := 1) (base := 0) #[] 0 (Nat.zero_le _) (Nat.zero_le _) rfl
    rw [World.size_alloc, World.size_alloc] at h2
    refine ⟨(KN.new w key nonce).alloc.alloc, by simpa [ocells] using h3, by simp, ?_, fun q hq => .inl ?_⟩
    · have := h2.alloc (.cells (ocells 64 []).toArray 26)
      simpa using this
    · exact (Option.some.inj hq).symm
  clear hk hn hv hS hle
  unfold digV
  go_enter Try.func14, Try.ntmps14
  go_wp2_with (first
    | (refine wpList_build_as rfl 26 #[] rfl [] (by simp [go_sem]) (ocells 64 []).toArray HB64.out ?_)
    | (refine wpList_store_row rfl 26 (.tmp 11) (.tmp 27) rfl (w.heap.size + 1 + 1 + 1) (ocells 64 []).toArray rfl rfl 26 (ocells 64 []).toArray (by have := heap_alloc_last (((w.alloc (.cells (key.map byteV).toArray 22)).alloc (.cells (nonce.map byteV).toArray 24)).alloc (.cells #[] 5)) (.cells (ocells 64 []).toArray 26); rw [World.size_alloc, World.size_alloc, World.size_alloc] at this; exact this) HSZ.out rfl HONE.out ?_
       rw [setRow_alloc3']
       generalize hw1 : World.alloc _ _ = w1
       have h0 := HR0.out w1 hw1.symm
       have H0 := Lib.hid h0
       clear hw1 h0 HR0 HB64 HSZ HONE g0 g1 g2 g3))
  go_loopw [10, 12] (fun ov iv wr => ∃ (i : Nat) (B xs : List UInt8), i ≤ bs.length ∧ iv = .int .i64 i ∧ Rx w wr key nonce B ov xs ∧ Upto key nonce p bs i xs ∧ Holds key nonce p i B) (fun _ iv _ => bs.length - (intOf iv).toNat)
  case atStart => exact ⟨0, List.replicate 64 0, [], Nat.zero_le _, rfl, H0.out, ⟨rfl, rfl⟩, .inl rfl⟩
  case round =>
    obtain ⟨i, B, xs, hi, rfl, hx, hup, hho⟩ := hrel
    have hl := hlen.le
    by_cases hlt : i < bs.length
    · obtain ⟨ad, rfl, hc1⟩ : ∃ ad, va = some ad ∧ ∀ w1, Only (fun _ => False) w w1 → w1.cell? (ad.add i) = some (.int .u8 ((bs.getD i 0).toNat : Int)) := by
        rcases HV.out with ⟨_, e⟩ | ⟨ad, c, e, _, h2, h3⟩
        · rw [e] at hlt; simp at hlt
        · obtain ⟨e1, _, _⟩ := Value.slice.inj e
          refine ⟨ad, e1, fun w1 ho => ?_⟩
          rw [World.cell?_of_block (w := w) (by rw [add_block]; exact ho.block _ (HS.out _ (h2 (by rintro rfl; simp at hlt))) (fun x => x)), h3 i _ (List.getElem?_eq_getElem hlt)]
          simp [byteV, hlt]
      obtain ⟨d, hd⟩ : ∃ d, (p + i) / 64 = d := ⟨_, rfl⟩
      obtain ⟨z, hz⟩ : ∃ z, (p + i) % 64 = z := ⟨_, rfl⟩
      have hle := hfit.le
      have wpi : IntKind.i64.wrap ((p : Int) + (i : Int)) = (p : Int) + (i : Int) := IntWalk.i64_in _ (by omega)
      have qd : ((p : Int) + (i : Int)) / 64 = (d : Int) := by omega
      have qz : ((p : Int) + (i : Int)) % 64 = (z : Int) := by omega
      have qd' : ((p : Int) + (i : Int)).tdiv 64 = (d : Int) := by rw [Int.tdiv_eq_ediv_of_nonneg (by omega)]; exact qd
      have qz' : ((p : Int) + (i : Int)).tmod 64 = (z : Int) := by rw [Int.tmod_eq_emod_of_nonneg (by omega)]; exact qz
      have wd : IntKind.i64.wrap (d : Int) = (d : Int) := IntWalk.i64_in _ (by omega)
      have wz : IntKind.i64.wrap (z : Int) = (z : Int) := IntWalk.i64_in _ (by omega)
      have wd32 : IntKind.u32.wrap (d : Int) = (d : Int) := by rw [IntKind.wrap_u32]; omega
      have hz64 : (z : Int) < 64 := by omega
      have hz0 : 0 ≤ (z : Int) := by omega
      have pz : 0 ≤ (i : Int) := by omega
      have mz : (i : Int) < (bs.length : Int) := by omega
      have wi1 : IntKind.i64.wrap ((i : Int) + 1) = (i : Int) + 1 := IntWalk.i64_in _ (by omega)
      have hxl := hup.len
      obtain ⟨oa, oc, rfl⟩ := row_shape hx.row
      rw [hxl]
      -- what follows once the block is there
      have HFIN : Hid (∀ w5 : World, Rx w w5 key nonce (Ch.block key nonce d) (.slice oa i oc) xs →
          w5.cell? (ad.add i) = some (.int .u8 ((bs.getD i 0).toNat : Int)) ∧ w5.cell? ⟨w.heap.size + 1 + 1 + 1, z, none⟩ = some (.int .u8 (((Ch.block key nonce d).getD z 0).toNat : Int)) ∧
          (w5.alloc (.cells #[.int .u8 (bits .xor .u8 ((bs.getD i 0).toNat : Int) (((Ch.block key nonce d).getD z 0).toNat : Int))] 5)).drew.ownsRow 0 5 1 (.slice oa i oc) i (xs.map byteV) ∧
          BytesAt ((w5.alloc (.cells #[.int .u8 (bits .xor .u8 ((bs.getD i 0).toNat : Int) (((Ch.block key nonce d).getD z 0).toNat : Int))] 5)).drew) (fun k => k = w5.heap.size) (.slice (some ⟨w5.heap.size, 0, none⟩) 1 1) [bs.getD i 0 ^^^ (Ch.block key nonce d).getD z 0] ∧
          ∀ a' c' w6, w6.ownsRow 0 5 1 (.slice a' (i + 1) c') (i + 1) (xs.map byteV ++ [bs.getD i 0 ^^^ (Ch.block key nonce d).getD z 0].map byteV) → (w5.alloc (.cells #[.int .u8 (bits .xor .u8 ((bs.getD i 0).toNat : Int) (((Ch.block key nonce d).getD z 0).toNat : Int))] 5)).drew.grownBy w6 (Value.slice oa i oc).ownBlock →
            ((Value.slice a' (i + 1) c').ownBlock = (Value.slice oa i oc).ownBlock ∨ (Value.slice a' (i + 1) c').ownBlock = some (w5.alloc (.cells #[.int .u8 (bits .xor .u8 ((bs.getD i 0).toNat : Int) (((Ch.block key nonce d).getD z 0).toNat : Int))] 5)).drew.heap.size) →
            ∃ (i' : Nat) (B xs : List UInt8), i' ≤ bs.length ∧ Value.int .i64 ((i : Int) + 1) = .int .i64 i' ∧ Rx w w6 key nonce B (.slice a' (i + 1) c') xs ∧ Upto key nonce p bs i' xs ∧ Holds key nonce p i' B) := by
        intro w5 h5
        rw [bits_xor_u8]
        have hal : Only (fun _ => False) w5 (w5.alloc (.cells #[.int .u8 ((bs.getD i 0 ^^^ (Ch.block key nonce d).getD z 0).toNat : Int)] 5)).drew := (Only.alloc _).trans Only.drew
        refine ⟨hc1 w5 h5.kn.only, byte_cell h5.blk (by rw [h5.len]; omega), ?_, (one_byte w5 _).kept (fun _ _ => rfl) (fun _ h => h), fun a' c' w6 h1 h2 h3 => ?_⟩
        · have := (h5.keep hal).row
          rwa [hxl] at this
        · have hbl : Ch.block key nonce ((p + i) / 64) = Ch.block key nonce d := by rw [hd]
          have hap := h5.app (y := [bs.getD i 0 ^^^ (Ch.block key nonce d).getD z 0]) hal (by rw [hxl]; rfl) h1 h2 h3
          refine ⟨i + 1, Ch.block key nonce d, _, by omega, by go_num, hap, ?_, Holds.next hbl⟩
          have := hup.next hlt hbl
          rwa [hz] at this
      have HBK : Hid (∀ w1, Calls Try.prog 11 #[.agg (key.map byteV).toArray, .int .u32 (d : Int), .agg (nonce.map byteV).toArray] w1 fun e w' => e = .returned (.agg ((Ch.block key nonce d).map byteV).toArray) ∧ Only (fun _ => False) w1 w') := fun w1 => r3Block_any HK.out HN.out d
      have HBL := Lib.hid (Ch.block_length key nonce d)
      rw [hxl] at hx
      have HX := Lib.hid hx
      have HCASE : Hid (i = 0 ∨ z = 0 ∨ Ch.block key nonce d = B) := by
        rcases hho with h | h | h
        · exact .inl h
        · exact .inr (.inl (by omega))
        · exact .inr (.inr (by rw [← h, hd]))
      have HEQ : Hid (∀ j : Nat, j = i → j < bs.length) := fun j e => e ▸ hlt
      clear hx hho hup hle hd hc1
      generalize Ch.block key nonce d = BD at *
      generalize bs.getD i 0 = x at *
      generalize BD.getD z 0 = y at *
      by_cases h0 : i = 0 ∨ z = 0
      · have hguard : ((i : Int) == 0) = true ∨ (((i : Int) == 0) = false ∧ ((z : Int) == 0) = true) := by
          rcases h0 with h | h
          · exact .inl (by simp [h])
          · by_cases e : i = 0
            · exact .inl (by simp [e])
            · exact .inr ⟨by simp; omega, by simp [h]⟩
        rcases hguard with hg | ⟨hg, hg2⟩
        · clear HCASE h0
          go_wp2_with (first
            | (refine wpList_load_row rfl 22 (.tmp 4) rfl w.heap.size rfl 22 (key.map byteV).toArray (0, 0) _ HX.out.kn.kb.heap Try.underlying22 rfl (size_a32 HK.out) ?_)
            | (refine wpList_load_row rfl 24 (.tmp 5) rfl (w.heap.size + 1) rfl 24 (nonce.map byteV).toArray (0, 0) _ HX.out.kn.nb.heap Try.underlying24 rfl (size_a12 HN.out) ?_)
            | (go_at_call 11; refine (HBK.out _).mono ?_; rintro e w4 ⟨rfl, ho4⟩; have HX4 := Lib.hid (HX.out.keep ho4); clear ho4)
            | (refine wpList_store_row rfl 26 (.tmp 11) (.tmp 50) rfl (w.heap.size + 1 + 1 + 1) (BD.map byteV).toArray rfl rfl 26 (B.map byteV).toArray HX4.out.blk.heap (size_a64 HBL.out) (by simp [HX4.out.len, HBL.out]) (oneCell_bytes _) ?_
               have hx5 := HX4.out.store HBL.out
               generalize w4.setRow (w.heap.size + 1 + 1 + 1) (BD.map byteV).toArray = w5 at *
               obtain ⟨c1, c2, hr5, hs5, hn5⟩ := HFIN.out w5 hx5
               have HR5 := Lib.hid hr5; have HS5 := Lib.hid hs5; have HN5 := Lib.hid hn5
               clear hr5 hs5 hn5 hx5))
          go_region_law (refine step_append_bytes (by rfl) _ _ (by rfl) (.slice oa i oc) (.slice (some ⟨w5.heap.size, 0, none⟩) 1 1) i (xs.map byteV) rfl rfl HR5.out HS5.out (by have := hlen.le; simp; omega) ?_; intro a1 c1' w6 hr6 hg6 hat6; have HN6 := Lib.hid (HN5.out a1 c1' w6 hr6 hg6 hat6); clear hr6 hg6 hat6)
          go_wp2
          all_goals exact ⟨HN6.out, by simp [intOf]; omega⟩
        · clear HCASE h0
          go_wp2_with (first
            | (refine wpList_load_row rfl 22 (.tmp 4) rfl w.heap.size rfl 22 (key.map byteV).toArray (0, 0) _ HX.out.kn.kb.heap Try.underlying22 rfl (size_a32 HK.out) ?_)
            | (refine wpList_load_row rfl 24 (.tmp 5) rfl (w.heap.size + 1) rfl 24 (nonce.map byteV).toArray (0, 0) _ HX.out.kn.nb.heap Try.underlying24 rfl (size_a12 HN.out) ?_)
            | (go_at_call 11; refine (HBK.out _).mono ?_; rintro e w4 ⟨rfl, ho4⟩; have HX4 := Lib.hid (HX.out.keep ho4); clear ho4)
            | (refine wpList_store_row rfl 26 (.tmp 11) (.tmp 50) rfl (w.heap.size + 1 + 1 + 1) (BD.map byteV).toArray rfl rfl 26 (B.map byteV).toArray HX4.out.blk.heap (size_a64 HBL.out) (by simp [HX4.out.len, HBL.out]) (oneCell_bytes _) ?_
               have hx5 := HX4.out.store HBL.out
               generalize w4.setRow (w.heap.size + 1 + 1 + 1) (BD.map byteV).toArray = w5 at *
               obtain ⟨c1, c2, hr5, hs5, hn5⟩ := HFIN.out w5 hx5
               have HR5 := Lib.hid hr5; have HS5 := Lib.hid hs5; have HN5 := Lib.hid hn5
               clear hr5 hs5 hn5 hx5))
          go_region_law (refine step_append_bytes (by rfl) _ _ (by rfl) (.slice oa i oc) (.slice (some ⟨w5.heap.size, 0, none⟩) 1 1) i (xs.map byteV) rfl rfl HR5.out HS5.out (by have := hlen.le; simp; omega) ?_; intro a1 c1' w6 hr6 hg6 hat6; have HN6 := Lib.hid (HN5.out a1 c1' w6 hr6 hg6 hat6); clear hr6 hg6 hat6)
          go_wp2
          all_goals exact ⟨HN6.out, by simp [intOf]; omega⟩
      · have hg : ((i : Int) == 0) = false := by simp; omega
        have hg2 : ((z : Int) == 0) = false := by simp; omega
        have hB : BD = B := by
          rcases HCASE.out with h | h | h
          · exact absurd (.inl h) h0
          · exact absurd (.inr h) h0
          · exact h
        rw [← hB] at HX
        clear HBK HCASE h0
        go_wp2
        obtain ⟨c1, c2, hr5, hs5, hn5⟩ := HFIN.out wr HX.out
        have HR5 := Lib.hid hr5; have HS5 := Lib.hid hs5; have HN5 := Lib.hid hn5
        clear hr5 hs5 hn5
        go_region_law (refine step_append_bytes (by rfl) _ _ (by rfl) (.slice oa i oc) (.slice (some ⟨wr.heap.size, 0, none⟩) 1 1) i (xs.map byteV) rfl rfl HR5.out HS5.out (by have := hlen.le; simp; omega) ?_; intro a1 c1' w6 hr6 hg6 hat6; have HN6 := Lib.hid (HN5.out a1 c1' w6 hr6 hg6 hat6); clear hr6 hg6 hat6)
        go_wp2
        all_goals exact ⟨HN6.out, by simp [intOf]; omega⟩
    · obtain rfl : i = bs.length := by omega
      have hxl := hup.len
      obtain ⟨oa, oc, rfl⟩ := row_shape hx.row
      have hrow : Row w wr (.slice oa bs.length oc) (Ch.xor key nonce p bs) := by
        have e := hup.eq
        rw [List.take_length] at e
        have h1 := hx.row
        have h2 := hx.own
        rw [hxl] at h1 h2
        refine ⟨by rw [Ch.xor_length, e]; exact h1, fun q hq => by have := h2 q hq; omega, hx.kn.only⟩
      have HROW := Lib.hid hrow
      rw [hxl]
      clear hx hup hho hrow hxl
      go_wp2
      go_ret2
      exact ⟨oa, oc, rfl, HROW.out⟩

end Go.Proofs.Ytjeccooodkogkaa
