/- RabinRolls. Conditions: rows within the reach. -/
import Derived.Test.YtobiajjcnpflgaaRbPrts
import Derived.Laws.Cover1
namespace Go.Proofs.Ytobiajjcnpflgaa
open Go.RowKit

def xrow (a b : List UInt8) (n : Nat) : List UInt8 := List.zipWith (· ^^^ ·) (a.take n) (b.take n)
theorem xrow_len {a b : List UInt8} {n : Nat} (ha : n ≤ a.length) (hb : n ≤ b.length) : (xrow a b n).length = n := by simp [xrow]; omega
theorem xrow_next {a b : List UInt8} {n : Nat} (ha : n < a.length) (hb : n < b.length) : xrow a b (n + 1) = xrow a b n ++ [a[n] ^^^ b[n]] := by
  unfold xrow
  rw [List.take_succ_eq_append_getElem ha, List.take_succ_eq_append_getElem hb, List.zipWith_append (by simp; omega)]
  simp

theorem make_5 (w : World) : (Instr.makeSlice 25 (.int .i64 5) (.int .i64 5)).run Try.prog w = .ok (.slice (some ⟨w.heap.size, 0, none⟩) 5 5) (w.alloc (.cells ((List.replicate 5 (0 : UInt8)).map byteV).toArray 5)) := by
  obtain ⟨i, hi, hz0, hz1, hz2⟩ := info_parts info_u8
  have := run_make (P := Try.prog) w 25 5 i _ Try.underlying25 hi hz0 .i64 .i64 5 5 (by omega) (by omega) (by rw [hz2]; omega) (by omega)
  rw [this, hz1]
  have e : madeCells (Value.int .u8 0).cells ((5 : Int).toNat * 1) = ((List.replicate 5 (0 : UInt8)).map byteV).toArray := by kernel_rfl
  rw [e]
  rfl
theorem step_made {ops : Array Oper} {o : Oper} {a : Act} {w w' : World} {K : Act → World → Prop} {Q : Exit → Act → World → Prop} {E : Prop} (hw : Region.wanted o (yielded ops a.tmps) = true) (t : TypeId) (l c : Operand) (ho : o.op = .makeSlice t l c) (vl vc v : Value) (hl : a.eval l = vl) (hc : a.eval c = vc)
    (hr : (Instr.makeSlice t vl vc).run Try.prog w = .ok v w') (h : K (a.put o.dst v) w') : if Region.wanted o (yielded ops a.tmps) = true then Oper.wp Try.prog o a w K Q else E := by
  rw [if_pos hw]
  unfold Oper.wp execOp
  simp only [ho, hl, hc, Sem.run_bind, Sem.run_pure, Result.andThen_ok, hr]
  exact h

theorem BytesAt.pre {w : World} {S : Nat → Prop} {a : Option Addr} {n c k : Nat} {bs : List UInt8} (h : BytesAt w S (.slice a n c) bs) (hk : k ≤ bs.length) : BytesAt w S (.slice a k c) (bs.take k) := by
  have hl : (bs.take k).length = k := by rw [List.length_take]; omega
  rcases h with ⟨e, rfl⟩ | ⟨ad, c', e, hcap, hS, hcell⟩
  · obtain ⟨rfl, rfl, rfl⟩ := Value.slice.inj e
    have : k = 0 := by simpa using hk
    subst this
    exact .inl ⟨rfl, rfl⟩
  · obtain ⟨rfl, rfl, rfl⟩ := Value.slice.inj e
    refine .inr ⟨ad, c, by rw [hl], by omega, fun hne => hS (by rintro rfl; simp at hne), fun j x hx => hcell j x ?_⟩
    rw [List.getElem?_take] at hx
    split at hx
    · exact hx
    · cases hx
theorem BytesAt.cap {w : World} {S : Nat → Prop} {a : Option Addr} {n c : Nat} {bs : List UInt8} (h : BytesAt w S (.slice a n c) bs) : n = bs.length ∧ n ≤ c := by
  rcases h with ⟨e, rfl⟩ | ⟨ad, c', e, hcap, _⟩
  · obtain ⟨_, rfl, rfl⟩ := Value.slice.inj e; simp
  · obtain ⟨_, rfl, rfl⟩ := Value.slice.inj e; exact ⟨rfl, hcap⟩

set_option maxRecDepth 100000 in
set_option maxHeartbeats 1000000 in
theorem rabinRolls_any {w : World} {p : Nat} (h64 : p < 18446744073709551616) {S T : Nat → Prop} {v u : Value} {xa xb : List UInt8} (hv : BytesAt w S v xa) (hS : ∀ k, S k → k < w.heap.size) (_ : xa.length ≤ 140737488351232)
    (hu : BytesAt w T u xb) (hT : ∀ k, T k → k < w.heap.size) (_ : xb.length ≤ 140737488351232) :
    Calls Try.prog 8 #[.int .u64 (p : Int), v, u] w fun e w' => e = .returned (.bool true) ∧ Quiet w w' := by
  have HA := Lib.hid alive7_any
  by_cases hp : p = 0
  · subst hp
    clear h64 hv hS hu hT
    obtain ⟨v1, hv1⟩ : ∃ q, q = v := ⟨_, rfl⟩
    subst hv1
    go_enter Try.func8, Try.ntmps8
    go_wp2_with fail
    refine (HA.out _).mono ?_; rintro e w1 ⟨rfl, hq⟩; have HQ1 := Lib.hid hq; clear hq
    go_wp2_with fail
    refine (HA.out _).mono ?_; rintro e w2 ⟨rfl, hq⟩; have HQ2 := Lib.hid (HQ1.out.trans hq); clear hq
    go_wp2_with fail
    go_ret
    exact ⟨rfl, HQ2.out⟩
  have HV : Hid (∀ W, Quiet w W → BytesAt W (fun k => k < W.heap.size) v xa) := fun W hq => hv.here hq hS
  have HU : Hid (∀ W, Quiet w W → BytesAt W (fun k => k < W.heap.size) u xb) := fun W hq => hu.here hq hT
  obtain ⟨va, vc, rfl⟩ := hv.shape
  obtain ⟨ua, uc, rfl⟩ := hu.shape
  have hvc := hv.cap.2
  have huc := hu.cap.2
  clear hv hS hu hT
  obtain ⟨n, hn⟩ : ∃ n, min (min xa.length xb.length) 400 = n := ⟨_, rfl⟩
  have hna : n ≤ xa.length := by omega
  have hnb : n ≤ xb.length := by omega
  have hn4 : n ≤ 400 := by omega
  have hmin : ∀ (ts : Array TypeId) (t : TypeId) (W : World), (Builtin.min_ ts t #[.int .i64 (xa.length : Int), .int .i64 (xb.length : Int), .int .i64 400]).run Try.prog W = .ok (.int .i64 (n : Int)) W := fun ts t W => by
    rw [run_min_int3]
    congr 2
    split <;> split at * <;> omega
  have hsa := fun W => slice_h (a := va) (n := xa.length) (cap := vc) (m := n) (by omega) W
  have hsb := fun W => slice_h (a := ua) (n := xb.length) (cap := uc) (m := n) (by omega) W
  have h0 : ¬ (p : Int) = 0 := by omega
  have hpe : ((p : Int) == 0) = false := by simpa using hp
  have HP : Hid (∀ (W : World) (S : Nat → Prop) (z : Value) (bs : List UInt8), BytesAt W S z bs → (∀ k, S k → k < W.heap.size) → bs.length ≤ 400 → Calls Try.prog 19 #[.int .u64 (p : Int), .slice (some ⟨W.heap.size, 0, none⟩) 1 1] (W.alloc (.cells #[z] 25)) fun e w' => e = .returned (.tuple #[.int .u64 (Rb.fp p bs : Int), .nilIface]) ∧ Quiet W w') := fun W S z bs hz hS hl => by
    have h1 := print_any h64 hp (parts_new hz hS) (fun _ h => h) (by simp) (by intro q hq; simp at hq; subst hq; omega)
    rw [List.flatten_singleton] at h1
    exact h1.mono fun e w' ⟨h2, h3⟩ => ⟨h2, (Only.alloc _).trans h3⟩
  have hlx : (xa.take n).length = n := by simp; omega
  have hly : (xb.take n).length = n := by simp; omega
  have HX := Lib.hid (Rb.fp_xor hp (xa.take n) (xb.take n) (by omega))
  have hx64 : Rb.fp p (xa.take n) < 18446744073709551616 := Gf.rm_64 _ h64
  have hy64 : Rb.fp p (xb.take n) < 18446744073709551616 := Gf.rm_64 _ h64
  have HPA : Hid (∀ W, Quiet w W → Calls Try.prog 19 #[.int .u64 (p : Int), .slice (some ⟨W.heap.size, 0, none⟩) 1 1] (W.alloc (.cells #[.slice va n vc] 25)) fun e w' => e = .returned (.tuple #[.int .u64 (Rb.fp p (xa.take n) : Int), .nilIface]) ∧ Quiet W w') := fun W hq => HP.out W _ _ _ ((HV.out W hq).pre hna) (fun _ h => h) (by omega)
  have HPB : Hid (∀ W, Quiet w W → Calls Try.prog 19 #[.int .u64 (p : Int), .slice (some ⟨W.heap.size, 0, none⟩) 1 1] (W.alloc (.cells #[.slice ua n uc] 25)) fun e w' => e = .returned (.tuple #[.int .u64 (Rb.fp p (xb.take n) : Int), .nilIface]) ∧ Quiet W w') := fun W hq => HP.out W _ _ _ ((HU.out W hq).pre hnb) (fun _ h => h) (by omega)
  have HPS : Hid (∀ W1 W a c, Row w W1 (.slice a n c) (xrow xa xb n) → Quiet W1 W → Calls Try.prog 19 #[.int .u64 (p : Int), .slice (some ⟨W.heap.size, 0, none⟩) 1 1] (W.alloc (.cells #[.slice a n c] 25)) fun e w' => e = .returned (.tuple #[.int .u64 ((Rb.fp p (xa.take n) ^^^ Rb.fp p (xb.take n) : Nat) : Int), .nilIface]) ∧ Quiet W w') := fun W1 W a c hr hq => by
    have h1 := HP.out W _ _ _ ((hr.kept hq).bytes) (fun _ h => h) (by rw [xrow_len hna hnb]; omega)
    unfold xrow at h1
    rwa [HX.out] at h1
  have HPZ : Hid (∀ W, Quiet w W → Calls Try.prog 19 #[.int .u64 (p : Int), .slice (some ⟨W.heap.size + 1, 0, none⟩) 2 2] ((W.alloc (.cells ((List.replicate 5 (0 : UInt8)).map byteV).toArray 5)).alloc (.cells #[.slice (some ⟨W.heap.size, 0, none⟩) 5 5, .slice va n vc] 25)).drew fun e w' => e = .returned (.tuple #[.int .u64 (Rb.fp p (xa.take n) : Int), .nilIface]) ∧ Quiet W w') := fun W hq => by
    have h0 := new_two ((bytes_new W (List.replicate 5 0)).mono (size_new W _)) (((HV.out _ (hq.trans (Only.alloc (.cells ((List.replicate 5 (0 : UInt8)).map byteV).toArray 5)))).pre hna))
    have h2 := h0.kept (w' := ((W.alloc (.cells ((List.replicate 5 (0 : UInt8)).map byteV).toArray 5)).alloc (.cells #[.slice (some ⟨W.heap.size, 0, none⟩) 5 5, .slice va n vc] 25)).drew) (fun _ _ => rfl) (fun _ h => h)
    have h1 := print_any h64 hp h2 (fun _ h => h) (by simp) (by intro q hq; simp at hq; rcases hq with rfl | rfl <;> simp <;> omega)
    have e : ([List.replicate 5 (0 : UInt8), xa.take n] : List (List UInt8)).flatten = List.replicate 5 0 ++ xa.take n := by simp
    rw [e, Rb.fp_zeros, World.size_alloc] at h1
    exact h1.mono fun e w' ⟨h2, h3⟩ => ⟨h2, (((Only.alloc _).trans (Only.alloc _)).trans Only.drew).trans h3⟩
  have hmk := make_5
  obtain ⟨ZC, hZC⟩ : ∃ ZC, ((List.replicate 5 (0 : UInt8)).map byteV).toArray = ZC := ⟨_, rfl⟩
  rw [hZC] at HPZ hmk
  clear hZC
  have ex := bits_xor_u64 _ _ hx64 hy64
  have HNX := Lib.hid (fun i (ha : i < xa.length) (hb : i < xb.length) => xrow_next ha hb)
  have HXL := Lib.hid (fun i (ha : i ≤ xa.length) (hb : i ≤ xb.length) => xrow_len ha hb)
  clear hx64 hy64 HP hlx hly HX hn h64 hp
  generalize Rb.fp p (xa.take n) ^^^ Rb.fp p (xb.take n) = Z at *
  generalize Rb.fp p (xa.take n) = X at *
  generalize Rb.fp p (xb.take n) = Y at *
  go_enter Try.func8, Try.ntmps8
  go_wp2_with fail
  refine (HA.out _).mono ?_; rintro e w1 ⟨rfl, hq⟩; have HR0 := Lib.hid (Row.start hq); clear hq
  go_wp2_with fail
  go_loopw [8, 9] (fun sv iv wr => ∃ i : Nat, i ≤ n ∧ iv = .int .i64 (i : Int) ∧ ∃ oa oc, sv = .slice oa i oc ∧ Row w wr (.slice oa i oc) (xrow xa xb i)) (fun _ iv _ => n - (intOf iv).toNat)
  case atStart => exact ⟨0, Nat.zero_le _, rfl, _, _, rfl, HR0.out⟩
  case round =>
    clear HR0
    obtain ⟨i, hi, rfl, oa, oc, rfl, hrow⟩ := hrel
    have HR := Lib.hid hrow
    clear hrow
    by_cases hlt : i < n
    · obtain ⟨ad, rfl, _, c1⟩ := (HV.out _ HR.out.only).nth (j := i) (by omega)
      obtain ⟨bd, rfl, _, c2⟩ := (HU.out _ HR.out.only).nth (j := i) (by omega)
      have HN := Lib.hid (HNX.out i (by omega) (by omega))
      have ex8 := bits_xor_u8 xa[i] xb[i]
      have hxl := HXL.out i (by omega) (by omega)
      generalize xa[i] ^^^ xb[i] = x at *
      generalize xa[i].toNat = a at *
      generalize xb[i].toNat = b at *
      have HQ5 : Hid (Quiet wr ((wr.alloc (.cells #[.int .u8 (x.toNat : Int)] 5)).drew)) := (Only.alloc _).trans Only.drew
      have hr5 := HR.out.keep HQ5.out
      rw [hxl] at hr5
      have HR5 := Lib.hid hr5
      have HS5 : Hid (BytesAt ((wr.alloc (.cells #[.int .u8 (x.toNat : Int)] 5)).drew) (fun k => k = wr.heap.size) (.slice (some ⟨wr.heap.size, 0, none⟩) 1 1) [x]) := (one_byte wr x).kept (fun _ _ => rfl) (fun _ h => h)
      have HXLN := Lib.hid hxl
      have pz : 0 ≤ (i : Int) := by omega
      have m1 : (i : Int) < (xa.length : Int) := by omega
      have m2 : (i : Int) < (xb.length : Int) := by omega
      clear hr5 hxl
      go_wp2
      go_region_law (refine step_append_bytes (by rfl) _ _ (by rfl) (.slice oa i oc) (.slice (some ⟨wr.heap.size, 0, none⟩) 1 1) i ((xrow xa xb i).map byteV) rfl rfl HR5.out HS5.out (by simp; omega) ?_; intro a1 k1 w6 hr6 hg6 hat6; have HN6 := Lib.hid (HR.out.app HQ5.out (by rw [HXLN.out]) hr6 hg6 hat6); clear hr6 hg6 hat6)
      go_wp2
      all_goals rw [← HN.out] at HN6
      all_goals exact ⟨⟨i + 1, by omega, by go_num, a1, k1, rfl, HN6.out⟩, by simp [intOf]; omega⟩
    · obtain rfl : i = n := by omega
      clear HNX HXL
      go_wp2_with fail
      refine (HPA.out _ HR.out.only).mono ?_; rintro e w2 ⟨rfl, hq⟩; have HQ2 := Lib.hid hq; clear hq
      go_wp2_with fail
      refine (HPB.out _ (HR.out.only.trans HQ2.out)).mono ?_; rintro e w3 ⟨rfl, hq⟩; have HQ3 := Lib.hid (HQ2.out.trans hq); clear hq
      go_wp2_with fail
      refine (HPS.out _ _ _ _ HR.out HQ3.out).mono ?_; rintro e w4 ⟨rfl, hq⟩; have HQ4 := Lib.hid ((HR.out.only.trans HQ3.out).trans hq); clear hq
      have HPZ4 := Lib.hid (HPZ.out w4 HQ4.out)
      go_wp2_with fail
      go_region_held3 (fun W => Only (fun _ => False) w4 W) (first | exact HO5.out | exact Only.drew | exact Only.alloc _ | exact Only.drew.trans (Only.alloc _) | exact Only.drew.trans ((Only.alloc _).trans (Only.alloc _))) (first | (go_at_call 19; refine HPZ4.out.mono ?_; rintro e w5 ⟨rfl, hq⟩; have HO5 : Hid (Only (fun _ => False) w4 w5) := hq; have HQ5 := Lib.hid (HQ4.out.trans hq); clear hq))
      go_wp2_with fail
      go_ret
      exact ⟨rfl, HQ5.out⟩

end Go.Proofs.Ytobiajjcnpflgaa
