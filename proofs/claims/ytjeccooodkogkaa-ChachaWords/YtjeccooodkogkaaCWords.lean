/- The law ChachaWords. Conditions: none. -/
import Derived.Test.YtjeccooodkogkaaCArgs
import Derived.Test.YtjeccooodkogkaaCAlive
import Derived.Test.YtjeccooodkogkaaCXor
import Derived.Deep.RegionHeld3
namespace Go.Proofs.Ytjeccooodkogkaa
open Go.RowKit

theorem block_xor (key nonce : List UInt8) (c : Nat) : Ch.xor key nonce (64 * c) (List.replicate 64 0) = Ch.block key nonce c := by
  apply List.ext_getElem?
  intro i
  rw [Ch.xor_getElem?, List.getElem?_replicate]
  by_cases h : i < 64
  · have hl := Ch.block_length key nonce c
    rw [if_pos h]
    unfold Ch.byte
    rw [show (64 * c + i) / 64 = c by omega, show (64 * c + i) % 64 = i by omega, Option.map_some]
    rw [List.getElem?_eq_getElem (by omega)]
    simp [List.getD, List.getElem?_eq_getElem (show i < (Ch.block key nonce c).length by omega)]
  · rw [if_neg h, List.getElem?_eq_none (by rw [Ch.block_length]; omega)]
    rfl
theorem one_xor (key nonce : List UInt8) (c : Nat) : Ch.xor key nonce (64 * c + 17) [0] = [(Ch.block key nonce c).getD 17 0] := by
  have e : Ch.byte key nonce (64 * c + 17 + 0) = (Ch.block key nonce c).getD 17 0 := by
    unfold Ch.byte
    rw [show (64 * c + 17 + 0) / 64 = c by omega, show (64 * c + 17 + 0) % 64 = 17 by omega]
  unfold Ch.xor
  simp only [List.mapIdx_cons, List.mapIdx_nil]
  rw [e]
  simp

/-- A boxed Case in a new world. -/
theorem case_boxW {w : World} {key nonce : List UInt8} {at' : Int} {dv : Value} (hk : key.length = 32) (hn : nonce.length = 12) : CaseAt (w.alloc (.cells (caseCells key nonce at' dv).toArray 31)) w.heap.size key nonce at' dv := ⟨Blk.new _ _ _, hk, hn⟩

/-- A row of noughts. -/
def zrow (n : Nat) : Array Value := (List.replicate n (byteV 0)).toArray

/-- A row of noughts that was made. -/
theorem noughts_at (w : World) (n : Nat) : BytesAt (w.alloc (.cells (zrow n) 5)) (fun k => k < (w.alloc (.cells (zrow n) 5)).heap.size) (.slice (some ⟨w.heap.size, 0, none⟩) n n) (List.replicate n 0) := by
  have hb := Blk.new w (List.replicate n (byteV 0)) 5
  have h := BytesAt.of_block (o := 0) (c := n) (bs := List.replicate n 0) hb.heap (by simp) (fun j x hx => by
    rw [List.getElem?_replicate] at hx
    rw [Nat.zero_add, List.getElem?_replicate]
    split at hx
    · rename_i hj
      rw [if_pos hj]
      cases hx
      rfl
    · cases hx)
  rw [List.length_replicate] at h
  exact h.mono (fun k e => by subst e; simp)

theorem make_64 (w : World) : (Instr.makeSlice 29 (.int .i64 64) (.int .i64 64)).run Try.prog w = .ok (.slice (some ⟨w.heap.size, 0, none⟩) 64 64) (w.alloc (.cells (zrow 64) 5)) := by
  obtain ⟨i0, hi0, hz0, hz1, hz2⟩ := info_parts info_u8
  rw [run_make w 29 5 i0 _ Try.underlying29 hi0 hz0 .i64 .i64 64 64 (by decide) (by decide) (by rw [hz2]; decide) (by decide), hz1]
  have e : madeCells (Value.int .u8 0).cells ((64 : Int).toNat * 1) = zrow 64 := by kernel_rfl
  rw [e]
  rfl
theorem make_1 (w : World) : (Instr.makeSlice 29 (.int .i64 1) (.int .i64 1)).run Try.prog w = .ok (.slice (some ⟨w.heap.size, 0, none⟩) 1 1) (w.alloc (.cells (zrow 1) 5)) := by
  obtain ⟨i0, hi0, hz0, hz1, hz2⟩ := info_parts info_u8
  rw [run_make w 29 5 i0 _ Try.underlying29 hi0 hz0 .i64 .i64 1 1 (by decide) (by decide) (by rw [hz2]; decide) (by decide), hz1]
  have e : madeCells (Value.int .u8 0).cells ((1 : Int).toNat * 1) = zrow 1 := by kernel_rfl
  rw [e]
  rfl

/-- A make, as one step of a region that draws its order. -/
theorem step_make {ops : Array Oper} {o : Oper} {a : Act} {w : World} {K : Act → World → Prop} {Q : Exit → Act → World → Prop} {E : Prop} (hw : Region.wanted o (yielded ops a.tmps) = true) (t : TypeId) (l c : Operand) (ho : o.op = .makeSlice t l c) (vl vc v : Value) (hl : a.eval l = vl) (hc : a.eval c = vc) (w' : World)
    (hr : (Instr.makeSlice t vl vc).run Try.prog w = .ok v w') (h : K (a.put o.dst v) w') : if Region.wanted o (yielded ops a.tmps) = true then Oper.wp Try.prog o a w K Q else E := by
  rw [if_pos hw]
  unfold Oper.wp execOp
  simp only [ho, hl, hc, Sem.run_bind, Sem.run_pure, Result.andThen_ok, hr]
  exact h

set_option maxRecDepth 100000 in
set_option maxHeartbeats 2000000 in
theorem chachaWords_any {w : World} {key nonce : List UInt8} {at' : Int} {dv : Value} {data : List UInt8} (hk : key.length = 32) (hn : nonce.length = 12) {S : Nat → Prop} (_hd : BytesAt w S dv data) (_hS : ∀ k, S k → k < w.heap.size) {c : Int} (hc : 0 ≤ c ∧ c ≤ 4294967295) :
    Calls Try.prog 7 #[.agg (caseCells key nonce at' dv).toArray, .int .u32 c] w fun e w' => e = .returned (.bool true) ∧ Only (fun _ => False) w w' := by
  clear _hd _hS
  obtain ⟨c, rfl⟩ := Int.eq_ofNat_of_zero_le hc.1
  have hcl : c < 4294967296 := by omega
  have HK := Lib.hid hk; have HN := Lib.hid hn
  have HB0 := Lib.hid (case_boxW (w := w) (at' := at') (dv := dv) hk hn)
  have HO0 : Hid (Only (fun _ => False) w (w.alloc (.cells (caseCells key nonce at' dv).toArray 31))) := Only.alloc _
  have w1 : IntKind.i64.wrap (c : Int) = (c : Int) := IntWalk.i64_in _ (by omega)
  have w2 : IntKind.i64.wrap (64 * (c : Int)) = 64 * (c : Int) := IntWalk.i64_in _ (by omega)
  have w3 : IntKind.i64.wrap (64 * (c : Int) + 17) = 64 * (c : Int) + 17 := IntWalk.i64_in _ (by omega)
  have HBK : Hid (∀ w1, Calls Try.prog 10 #[.agg (key.map byteV).toArray, .int .u32 (c : Int), .agg (nonce.map byteV).toArray] w1 fun e w' => e = .returned (digV (Ch.block key nonce c)) ∧ Only (fun _ => False) w1 w') := fun w1 => cBlock_any HK.out HN.out c
  have HX : Hid (∀ w1, Calls Try.prog 13 #[.agg (key.map byteV).toArray, .agg (nonce.map byteV).toArray, .int .i64 (64 * (c : Int)), .slice (some ⟨w1.heap.size, 0, none⟩) 64 64] (w1.alloc (.cells (zrow 64) 5)) fun e w' => ∃ u, e = .returned (.tuple #[u, .nilIface]) ∧ w'.ownsRow 0 5 1 u 64 ((Ch.block key nonce c).map byteV) ∧ Only (fun _ => False) w1 w') := by
    intro w1
    refine (cXOR_any (w := w1.alloc (.cells (zrow 64) 5)) HK.out HN.out (at' := 64 * (c : Int)) (noughts_at w1 64) (fun _ h => h) ⟨by simp⟩).mono ?_
    rintro e w' (⟨_, u, rfl, h1, _, h2⟩ | ⟨h, _⟩)
    · rw [show (64 * (c : Int)).toNat = 64 * c by omega, block_xor, List.length_replicate] at h1
      exact ⟨u, rfl, h1, (Only.alloc _).trans h2⟩
    · exact absurd (show Within _ _ from ⟨by omega, by simp; omega⟩) h
  have HY : Hid (∀ w1, Calls Try.prog 13 #[.agg (key.map byteV).toArray, .agg (nonce.map byteV).toArray, .int .i64 (64 * (c : Int) + 17), .slice (some ⟨w1.heap.size, 0, none⟩) 1 1] (w1.alloc (.cells (zrow 1) 5)) fun e w' => ∃ u, e = .returned (.tuple #[u, .nilIface]) ∧ w'.ownsRow 0 5 1 u 1 ([(Ch.block key nonce c).getD 17 0].map byteV) ∧ Only (fun _ => False) w1 w') := by
    intro w1
    refine (cXOR_any (w := w1.alloc (.cells (zrow 1) 5)) HK.out HN.out (at' := 64 * (c : Int) + 17) (noughts_at w1 1) (fun _ h => h) ⟨by simp⟩).mono ?_
    rintro e w' (⟨_, u, rfl, h1, _, h2⟩ | ⟨h, _⟩)
    · rw [show (64 * (c : Int) + 17).toNat = 64 * c + 17 by omega, show List.replicate 1 (0 : UInt8) = [0] from rfl, one_xor] at h1
      exact ⟨u, rfl, h1, (Only.alloc _).trans h2⟩
    · exact absurd (show Within _ _ from ⟨by omega, by simp; omega⟩) h
  have HBL := Lib.hid (Ch.block_length key nonce c)
  generalize Ch.block key nonce c = B at *
  generalize caseCells key nonce at' dv = cc at *
  clear hk hn hc hcl
  go_enter Try.func7, Try.ntmps7
  go_wp2_with fail
  generalize w.alloc (.cells cc.toArray 31) = w0 at *
  generalize w.heap.size = g at HB0 ⊢
  refine alive_any.mono ?_
  rintro e x1 ⟨rfl, ho1⟩
  have HB1 := Lib.hid (HB0.out.keep ho1 (fun x => x)); have HO1 := Lib.hid (HO0.out.trans ho1)
  clear ho1 HB0 HO0
  go_wp2_with (first
    | (refine wpList_load_mid rfl 22 (.tmp 12) rfl g 0 rfl (key.map byteV) _ HB1.out.key Try.underlying22 rfl (size_key HK.out) ?_)
    | (refine wpList_load_mid rfl 24 (.tmp 15) rfl g 32 rfl (nonce.map byteV) _ HB1.out.nonce Try.underlying24 rfl (size_nonce HN.out) ?_)
    | (go_at_call 10; refine (HBK.out _).mono ?_; rintro e x2 ⟨rfl, ho2⟩; have HB2 := Lib.hid (HB1.out.keep ho2 (fun x => x)); have HO2 := Lib.hid (HO1.out.trans ho2); clear ho2 HB1 HO1)
    | (refine wpList_store_row rfl 26 (.tmp 5) (.tmp 17) rfl x2.heap.size (B.map byteV).toArray rfl rfl 26 (ocells 64 []).toArray (heap_alloc_last _ _) (size_a64 HBL.out) (by simp [ocells, HBL.out]) (oneCell_bytes _) ?_; rw [World.setRow_alloc_new]
       have HB3 := Lib.hid (HB2.out.keep (Only.alloc (.cells (B.map byteV).toArray 26)) (fun x => x)); have HO3 := Lib.hid (HO2.out.trans (Only.alloc (.cells (B.map byteV).toArray 26))); have HV3 := Lib.hid (Blk.new x2 (B.map byteV) 26)
       clear HB2 HO2
       generalize x2.alloc (.cells (B.map byteV).toArray 26) = x3 at *
       generalize x2.heap.size = gb at *))
  have hb3 := HB3.out.keep Only.drew (fun x => x)
  refine wp_region_held_drew (S := fun w' => w'.rangeAt g 0 (key.map byteV) ∧ w'.rangeAt g 32 (nonce.map byteV)) (by kernel_rfl) ⟨hb3.key, hb3.nonce⟩ (fun hHeld => ?_)
  refine wpAnyH_take (i := 0) (v := .pointer (some ⟨g, 0, none⟩)) rfl (by kernel_rfl) (by kernel_rfl) (by kernel_rfl) (fun _ _ _ h => h) (Or.inl ⟨by rfl, fun w _ => by go_simp⟩) hHeld ?_
  refine wpAnyH_take (i := 1) rfl (by kernel_rfl) (by kernel_rfl) (by kernel_rfl) (fun _ _ _ h => h) (yieldsIf_load_mid (by rfl) 22 (.tmp 19) rfl g 0 rfl (key.map byteV) _ (fun w hS => hS.1) Try.underlying22 rfl (size_key HK.out)) hHeld ?_
  refine wpAnyH_take (i := 2) (v := .pointer (some ⟨g, 32, none⟩)) rfl (by kernel_rfl) (by kernel_rfl) (by kernel_rfl) (fun _ _ _ h => h) (Or.inl ⟨by rfl, fun w _ => by go_simp⟩) hHeld ?_
  refine wpAnyH_take (i := 3) rfl (by kernel_rfl) (by kernel_rfl) (by kernel_rfl) (fun _ _ _ h => h) (yieldsIf_load_mid (by rfl) 24 (.tmp 21) rfl g 32 rfl (nonce.map byteV) _ (fun w hS => hS.2) Try.underlying24 rfl (size_nonce HN.out)) hHeld ?_
  refine wpAnyH_take (i := 4) (v := .int .u32 (c : Int)) rfl (by kernel_rfl) (by kernel_rfl) (by kernel_rfl) (fun _ _ _ h => h) (Or.inl ⟨by rfl, fun w _ => by go_simp⟩) hHeld ?_
  refine wpAnyH_take (i := 5) (v := .int .i64 (c : Int)) rfl (by kernel_rfl) (by kernel_rfl) (by kernel_rfl) (fun _ _ _ h => h) (Or.inl ⟨by rfl, fun w _ => by go_simp⟩) hHeld ?_
  refine wpAnyH_take (i := 6) (v := .int .i64 (64 * (c : Int))) rfl (by kernel_rfl) (by kernel_rfl) (by kernel_rfl) (fun _ _ _ h => h) (Or.inl ⟨by rfl, fun w _ => by go_simp⟩) hHeld ?_
  refine wpAnyH_ready (rs := [7]) (by kernel_rfl) (by simp) (AllReadyH.cons rfl (fun K hK => ?_) AllReadyH.nil)
  refine step_make (by rfl) 29 _ _ rfl _ _ _ rfl rfl _ (make_64 _) ?_
  have hb4 := hb3.keep (Only.alloc (.cells (zrow 64) 5)) (fun x => x)
  have hX := HX.out x3.drew
  have HOD : Hid (Only (fun _ => False) x3 x3.drew) := Only.drew
  have HB3D := Lib.hid hb3
  generalize x3.drew.alloc (.cells (zrow 64) 5) = x4 at *
  generalize x3.drew.heap.size = gx at *
  generalize x3.drew = xd at *
  have HX4 := Lib.hid hX
  refine hK.out _ _ ⟨hb4.key, hb4.nonce⟩ (fun hHeld => ?_)
  clear hK K hX HX
  refine wpAnyH_ready (rs := [8]) (by kernel_rfl) (by simp) (AllReadyH.cons rfl (fun K hK => ?_) AllReadyH.nil)
  go_simp
  refine HX4.out.mono ?_
  rintro e x5 ⟨u, rfl, hr5, ho5'⟩
  obtain ⟨ua, uc, rfl⟩ := row_shape hr5
  have hb5 := HB3D.out.keep ho5' (fun x => x)
  have ho5 := HOD.out.trans ho5'
  refine hK.out _ _ ⟨hb5.key, hb5.nonce⟩ (fun hHeld => ?_)
  clear hK K
  refine wpAnyH_take (i := 9) (v := .tuple #[.slice ua 64 uc, .nilIface]) rfl (by kernel_rfl) (by kernel_rfl) (by kernel_rfl) (fun _ _ _ h => h) (Or.inl ⟨by rfl, fun w _ => by go_simp⟩) hHeld ?_
  refine wpAnyH_take (i := 10) (v := .slice ua 64 uc) rfl (by kernel_rfl) (by kernel_rfl) (by kernel_rfl) (fun _ _ _ h => h) (Or.inl ⟨by rfl, fun w _ => by go_simp⟩) hHeld ?_
  refine wpAnyH_take (i := 11) (v := .nilIface) rfl (by kernel_rfl) (by kernel_rfl) (by kernel_rfl) (fun _ _ _ h => h) (Or.inl ⟨by rfl, fun w _ => by go_simp⟩) hHeld ?_
  refine wpAnyH_take (i := 12) (v := .slice ua 64 uc) rfl (by kernel_rfl) (by kernel_rfl) (by kernel_rfl) (fun _ _ _ h => h) (Or.inl ⟨by rfl, fun w _ => by go_simp⟩) hHeld ?_
  refine wpAnyH_take (i := 13) (v := .nilIface) rfl (by kernel_rfl) (by kernel_rfl) (by kernel_rfl) (fun _ _ _ h => h) (Or.inl ⟨by rfl, fun w _ => by go_simp⟩) hHeld ?_
  refine wpAnyH_done (by kernel_rfl) ?_ _
  have HR5 := Lib.hid hr5; have HB5 := Lib.hid hb5; have HO5 := Lib.hid (HO3.out.trans ho5); have HV5 := Lib.hid (HV3.out.keep ho5 (fun x => x))
  clear hHeld hb3 hb4 hb5 hr5 ho5 ho5' HB3 HO3 HV3 HX4 HB3D HOD
  go_wp2_with fail
  simp only [Act.put, List.getElem_toArray, List.getElem_cons_succ, List.getElem_cons_zero, List.setIfInBounds_toArray, List.set_cons_zero, List.set_cons_succ]
  have hb5 := HB5.out.keep Only.drew (fun x => x)
  refine wp_region_held_drew (S := fun w' => w'.rangeAt g 0 (key.map byteV) ∧ w'.rangeAt g 32 (nonce.map byteV)) (by kernel_rfl) ⟨hb5.key, hb5.nonce⟩ (fun hHeld => ?_)
  refine wpAnyH_take (i := 0) (v := .pointer (some ⟨g, 0, none⟩)) rfl (by kernel_rfl) (by kernel_rfl) (by kernel_rfl) (fun _ _ _ h => h) (Or.inl ⟨by rfl, fun w _ => by go_simp⟩) hHeld ?_
  refine wpAnyH_take (i := 1) rfl (by kernel_rfl) (by kernel_rfl) (by kernel_rfl) (fun _ _ _ h => h) (yieldsIf_load_mid (by rfl) 22 (.tmp 31) rfl g 0 rfl (key.map byteV) _ (fun w hS => hS.1) Try.underlying22 rfl (size_key HK.out)) hHeld ?_
  refine wpAnyH_take (i := 2) (v := .pointer (some ⟨g, 32, none⟩)) rfl (by kernel_rfl) (by kernel_rfl) (by kernel_rfl) (fun _ _ _ h => h) (Or.inl ⟨by rfl, fun w _ => by go_simp⟩) hHeld ?_
  refine wpAnyH_take (i := 3) rfl (by kernel_rfl) (by kernel_rfl) (by kernel_rfl) (fun _ _ _ h => h) (yieldsIf_load_mid (by rfl) 24 (.tmp 33) rfl g 32 rfl (nonce.map byteV) _ (fun w hS => hS.2) Try.underlying24 rfl (size_nonce HN.out)) hHeld ?_
  refine wpAnyH_take (i := 4) (v := .int .u32 (c : Int)) rfl (by kernel_rfl) (by kernel_rfl) (by kernel_rfl) (fun _ _ _ h => h) (Or.inl ⟨by rfl, fun w _ => by go_simp⟩) hHeld ?_
  refine wpAnyH_take (i := 5) (v := .int .i64 (c : Int)) rfl (by kernel_rfl) (by kernel_rfl) (by kernel_rfl) (fun _ _ _ h => h) (Or.inl ⟨by rfl, fun w _ => by go_simp⟩) hHeld ?_
  refine wpAnyH_take (i := 6) (v := .int .i64 (64 * (c : Int))) rfl (by kernel_rfl) (by kernel_rfl) (by kernel_rfl) (fun _ _ _ h => h) (Or.inl ⟨by rfl, fun w _ => by go_simp⟩) hHeld ?_
  refine wpAnyH_take (i := 7) (v := .int .i64 (64 * (c : Int) + 17)) rfl (by kernel_rfl) (by kernel_rfl) (by kernel_rfl) (fun _ _ _ h => h) (Or.inl ⟨by rfl, fun w _ => by go_simp⟩) hHeld ?_
  refine wpAnyH_ready (rs := [8]) (by kernel_rfl) (by simp) (AllReadyH.cons rfl (fun K hK => ?_) AllReadyH.nil)
  refine step_make (by rfl) 29 _ _ rfl _ _ _ rfl rfl _ (make_1 _) ?_
  have hb6 := hb5.keep (Only.alloc (.cells (zrow 1) 5)) (fun x => x)
  have hY := HY.out x5.drew
  have HOD : Hid (Only (fun _ => False) x5 x5.drew) := Only.drew
  have HB5D := Lib.hid hb5
  generalize x5.drew.alloc (.cells (zrow 1) 5) = x6 at *
  generalize x5.drew.heap.size = gy' at *
  generalize x5.drew = xd' at *
  have HY6 := Lib.hid hY
  refine hK.out _ _ ⟨hb6.key, hb6.nonce⟩ (fun hHeld => ?_)
  clear hK K hY HY
  refine wpAnyH_ready (rs := [9]) (by kernel_rfl) (by simp) (AllReadyH.cons rfl (fun K hK => ?_) AllReadyH.nil)
  go_simp
  refine HY6.out.mono ?_
  rintro e x7 ⟨y, rfl, hr7, ho7⟩
  obtain ⟨ya, yc, rfl⟩ := row_shape hr7
  have hb7 := HB5D.out.keep ho7 (fun x => x)
  refine hK.out _ _ ⟨hb7.key, hb7.nonce⟩ (fun hHeld => ?_)
  clear hK K
  refine wpAnyH_take (i := 10) (v := .tuple #[.slice ya 1 yc, .nilIface]) rfl (by kernel_rfl) (by kernel_rfl) (by kernel_rfl) (fun _ _ _ h => h) (Or.inl ⟨by rfl, fun w _ => by go_simp⟩) hHeld ?_
  refine wpAnyH_take (i := 11) (v := .slice ya 1 yc) rfl (by kernel_rfl) (by kernel_rfl) (by kernel_rfl) (fun _ _ _ h => h) (Or.inl ⟨by rfl, fun w _ => by go_simp⟩) hHeld ?_
  refine wpAnyH_take (i := 12) (v := .nilIface) rfl (by kernel_rfl) (by kernel_rfl) (by kernel_rfl) (fun _ _ _ h => h) (Or.inl ⟨by rfl, fun w _ => by go_simp⟩) hHeld ?_
  refine wpAnyH_take (i := 13) (v := .slice ya 1 yc) rfl (by kernel_rfl) (by kernel_rfl) (by kernel_rfl) (fun _ _ _ h => h) (Or.inl ⟨by rfl, fun w _ => by go_simp⟩) hHeld ?_
  refine wpAnyH_take (i := 14) (v := .nilIface) rfl (by kernel_rfl) (by kernel_rfl) (by kernel_rfl) (fun _ _ _ h => h) (Or.inl ⟨by rfl, fun w _ => by go_simp⟩) hHeld ?_
  refine wpAnyH_done (by kernel_rfl) ?_ _
  have ho57 := HOD.out.trans ho7
  have HV7 := HV5.out.keep ho57 (fun x => x)
  have t1 : ∀ n, (convert 29 9 (.slice ua 64 uc)).run Try.prog (x7.drewN n) = .ok (.string ⟨B.toArray⟩) (x7.drewN n) := fun n => by
    have hb := BytesAt.of_row HR5.out
    exact (hb.only (ho57.trans (Only.drewN n)) (fun k hk => (HR5.out.lt k hk).2) (fun _ _ x => x)).text
  have t2 : ∀ n, (convert 29 9 (.slice (some ⟨gb, 0, none⟩) 64 64)).run Try.prog (x7.drewN n) = .ok (.string ⟨B.toArray⟩) (x7.drewN n) := fun n => by
    have hb := BytesAt.of_block (o := 0) (c := 64) (bs := B) (HV7.drewN n).heap (by rw [HBL.out]; omega) (fun j x hx => by rw [Nat.zero_add, List.getElem?_map, hx]; rfl)
    rw [HBL.out] at hb
    exact hb.text
  obtain ⟨gy, rfl, c1⟩ : ∃ gy, ya = some ⟨gy, 0, none⟩ ∧ ∀ n, (x7.drewN n).cell? ⟨gy, 0, none⟩ = some (.int .u8 ((B.getD 17 0).toNat : Int)) := by
    rcases hr7.2 with ⟨_, h⟩ | ⟨gy, cap, cur, e, _⟩
    · omega
    · obtain ⟨e1, _, _⟩ := Value.slice.inj e
      subst e1
      exact ⟨gy, rfl, fun n => copy_cell hr7 rfl⟩
  have c2 : ∀ n, (x7.drewN n).cell? ⟨gb, 17, none⟩ = some (.int .u8 ((B.getD 17 0).toNat : Int)) := fun n => byte_cell (HV7.drewN n) (by rw [HBL.out]; omega)
  have HO7 := Lib.hid (HO5.out.trans ho57)
  clear hHeld hb5 hb6 hb7 hr7 ho7 ho57 HV7 HR5 HB5 HV5 HO5 HY6 HB5D HOD
  generalize B.getD 17 0 = b17 at *
  go_wp2_with fail
  go_quiet (fail)
  go_wp2_with fail
  go_ret
  exact ⟨rfl, HO7.out.trans (Only.drewN nq)⟩

end Go.Proofs.Ytjeccooodkogkaa
