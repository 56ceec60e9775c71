/- rabin.Print. Conditions: none. -/
import Derived.Test.YtobiajjcnpflgaaRbNew
import Derived.Test.YtobiajjcnpflgaaGParts
namespace Go.Proofs.Ytobiajjcnpflgaa
open Go.RowKit

namespace Rb
theorem rm_dvd {p q : Nat} (hp : p ≠ 0) (hq : q ≠ 0) (h : Gf.Dvd p q) (x : Nat) : Gf.rm p (Gf.rm q x) = Gf.rm p x :=
  (Gf.rm_cg hp (Gf.Dvd.trans h (Gf.cg_rm hq x) : Gf.Cg p x (Gf.rm q x))).symm
theorem dvd_raise (p k : Nat) : Gf.Dvd p (p * 2 ^ k) := ⟨2 ^ k, by rw [Gf.mul_comm, Gf.mul_shift]⟩
end Rb

/-- The i-th part, at any later world. -/
theorem PartsAt.nth {w : World} {S : Nat → Prop} {va : Option Addr} {n vc i : Nat} {ps : List (List UInt8)} (h : PartsAt w S (.slice va n vc) ps) (hi : i < ps.length) : ∃ ad ua uc, va = some ad ∧ S ad.block ∧ w.cell? (ad.add i) = some (.slice ua ps[i].length uc) ∧ BytesAt w S (.slice ua ps[i].length uc) ps[i] := by
  obtain ⟨a, c, e, _, hat⟩ := h
  obtain ⟨rfl, _, _⟩ := Value.slice.inj e
  obtain ⟨ad, u, e1, e2, e3, e4⟩ := hat i hi
  obtain ⟨ua, uc, rfl⟩ := e4.shape
  exact ⟨ad, ua, uc, e1, e2, e3, e4⟩
theorem BytesAt.nth {w : World} {S : Nat → Prop} {va : Option Addr} {n vc j : Nat} {bs : List UInt8} (h : BytesAt w S (.slice va n vc) bs) (hj : j < bs.length) : ∃ ad, va = some ad ∧ S ad.block ∧ w.cell? (ad.add j) = some (.int .u8 (bs[j].toNat : Int)) := by
  rcases h with ⟨_, rfl⟩ | ⟨ad, c, e, _, h2, h3⟩
  · simp at hj
  · obtain ⟨rfl, _, _⟩ := Value.slice.inj e
    exact ⟨ad, rfl, h2 (by rintro rfl; simp at hj), h3 j bs[j] (List.getElem?_eq_getElem hj)⟩

set_option maxRecDepth 100000 in
theorem print_zero (v : Value) (w : World) : Calls Try.prog 19 #[.int .u64 0, v] w fun e w' => e = .returned (.tuple #[.int .u64 0, .iface 43 (.int .i64 27)]) ∧ w = w' := by
  go_enter Try.func19, Try.ntmps19
  go_wp2
  go_ret2
  exact ⟨rfl, rfl⟩

set_option maxRecDepth 100000 in
set_option maxHeartbeats 1000000 in
theorem print_any {w : World} {S : Nat → Prop} {v : Value} {ps : List (List UInt8)} {p : Nat} (h64 : p < 18446744073709551616) (hp : p ≠ 0) (hv : PartsAt w S v ps) (hS : ∀ k, S k → k < w.heap.size) (hps : ps.length ≤ 140737488355328) (hpl : ∀ q ∈ ps, q.length ≤ 140737488355328) :
    Calls Try.prog 19 #[.int .u64 (p : Int), v] w fun e w' => e = .returned (.tuple #[.int .u64 (Rb.fp p ps.flatten : Int), .nilIface]) ∧ Quiet w w' := by
  obtain ⟨d, hd⟩ := Gf.top_some hp
  have hl := Gf.len_of hd h64
  have hle := Gf.len_le h64
  obtain ⟨k, hk⟩ : ∃ k, 8 - d = k := ⟨_, rfl⟩
  have hd' : Gf.Top (d + k) (p * 2 ^ k) := Gf.top_shift k hd
  have h64' : p * 2 ^ k < 18446744073709551616 := by
    have h1 := hd'.2
    have h2 : (2 : Nat) ^ (d + k + 1) ≤ 2 ^ 64 := Nat.pow_le_pow_right (by omega) (by omega)
    omega
  have hp' : p * 2 ^ k ≠ 0 := by have := Gf.top_pos hd'; omega
  have HD : Hid (∀ W, Calls Try.prog 32 #[.int .u64 (p : Int)] W fun e w' => e = .returned (.int .i64 (d : Int)) ∧ W = w') := fun W => by
    have := deg_any h64 W
    rw [hl] at this
    simpa using this
  have HEND : Hid (∀ bs, Gf.rm p (Rb.fp (p * 2 ^ k) bs) = Rb.fp p bs) := fun bs => Rb.rm_dvd hp hp' (Rb.dvd_raise p k) _
  have HNT := Lib.hid (fun W => newTaker_any hd' (by omega) (by omega) h64' W)
  have HSNOC := Lib.hid (fun bs b => Rb.fp_snoc (p := p * 2 ^ k) hp' bs b)
  have HNIL := Lib.hid (Rb.fp_nil hp')
  have HF64 : Hid (∀ bs, Rb.fp (p * 2 ^ k) bs < 18446744073709551616) := fun bs => Gf.rm_64 _ h64'
  have HMOD : Hid (∀ (x : Nat) W, x < 18446744073709551616 → Calls Try.prog 36 #[.int .u64 0, .int .u64 (x : Int), .int .u64 (p : Int)] W fun e w' => e = .returned (.tuple #[.int .u64 (Gf.rm p x : Int), .nilIface]) ∧ Quiet W w') := fun x W hx => by
    have := mod_any (hi := 0) (by omega) hx h64 hp W
    rwa [Gf.pr_lo] at this
  have h0 : ¬ (p : Int) = 0 := by omega
  have hmax : ∀ (ts : Array TypeId) (t : TypeId) (W : World), (Builtin.max_ ts t #[.int .i64 (8 - (d : Int)), .int .i64 0]).run Try.prog W = .ok (.int .i64 (k : Int)) W := fun ts t W => by
    rw [run_max_int2]
    congr 2
    split <;> omega
  have hsh : IntKind.u64.wrap ((p : Int) * 2 ^ min k 64) = ((p * 2 ^ k : Nat) : Int) := by rw [wrap_shl, Nat.mod_eq_of_lt h64']
  have hsh2 : IntKind.u64.wrap ((p : Int) * 2 ^ k) = ((p * 2 ^ k : Nat) : Int) := by
    have e : (p : Int) * 2 ^ k = ((p * 2 ^ k : Nat) : Int) := by rw [Int.natCast_mul, Int.natCast_pow]; rfl
    rw [e, wrap_u64_nat _ h64']
  have hd63 : d < 64 := by omega
  have hk8 : k ≤ 8 := by omega
  generalize p * 2 ^ k = P at *
  obtain ⟨D, hDD⟩ : ∃ D, d + k = D := ⟨_, rfl⟩
  rw [hDD] at hd' HNT
  have hz := zero_taker.1
  have HSZ : Hid ((Try.prog.info? 68).map (·.size) = some (kcells P D 0).toArray.size) := by rw [zero_taker.2]; simp [kcells_len, Hid]
  have HWZ : Hid (zTaker.toArray.size = (kcells P D 0).toArray.size) := by simp [kcells_len, zTaker_len, Hid]
  have HONE := Lib.hid (kcells_one P D 0)
  have HTA : Hid (∀ (w5 : World) (g : Nat), Blk w5 g (kcells P D 0) 68 → TakeAt w5 g 68 P D (Rb.fp P []) []) := fun w5 g h => by
    rw [HNIL.out]
    exact ⟨by rwa [List.append_nil], hd', by omega, by omega, Nat.two_pow_pos _, h64'⟩
  have HKC : Hid (∃ K, (kcells P D 0).toArray = K) := ⟨_, rfl⟩
  obtain ⟨K, hK⟩ := HKC.out
  rw [hK] at HNT HSZ HWZ HONE
  have HK := Lib.hid hK
  obtain ⟨Z, hZ⟩ : ∃ Z, zTaker.toArray = Z := ⟨_, rfl⟩
  rw [hZ] at hz HWZ
  have HV := Lib.hid hv; have HS := Lib.hid hS; have HPL := Lib.hid hpl
  obtain ⟨va, vc, rfl, hcp, -⟩ := id hv
  clear hK hZ hd hd' hDD hpl hv hS hcp hl hle hk h64 h64' hp hp' HKC
  go_enter Try.func19, Try.ntmps19
  go_wp2_with fail
  refine (HD.out _).mono ?_
  rintro e w1 ⟨rfl, rfl⟩
  go_wp2_with fail
  refine (HNT.out _).mono ?_
  rintro e w2 ⟨rfl, hq⟩
  have HQ2 := Lib.hid hq
  clear hq
  obtain ⟨w3, hw3⟩ : ∃ w3, (w2.alloc (.cells Z 68)).setRow w2.heap.size K = w3 := ⟨_, rfl⟩
  have hb0 : Blk w3 w2.heap.size (kcells P D 0) 68 := by
    rw [← hw3, ← HK.out]; exact setRow_heap _ _ _ _ _ _ (heap_alloc_self w2 _)
  have HT3 := Lib.hid (HTA.out _ _ hb0)
  have HQ3 : Hid (Quiet w w3) := by
    rw [← hw3]
    exact (HQ2.out.trans (Only.alloc _)).andThen (Only.setRow _ _) (fun k hk e => by have := HQ2.out.size; omega)
  have hgw : w.heap.size ≤ w2.heap.size := HQ2.out.size
  go_wp2_with ((refine wpList_store_row rfl 68 (.tmp 6) (.tmp 20) rfl w2.heap.size K rfl rfl 68 Z (heap_alloc_self w2 _) HSZ.out HWZ.out HONE.out ?_; rw [hw3]))
  clear hw3 hb0 HTA HNT HD HSZ HWZ HONE
  generalize w2.heap.size = g at *
  clear HQ2 hz
  go_loopw [23] (fun iv wr => ∃ i : Nat, i ≤ ps.length ∧ iv = .int .i64 (i : Int) ∧ TakeAt wr g 68 P D (Rb.fp P (ps.take i).flatten) [] ∧ Quiet w wr) (fun iv _ => ps.length - (intOf iv).toNat)
  case atStart => exact ⟨0, Nat.zero_le _, rfl, by simpa using HT3.out, HQ3.out⟩
  case round =>
    clear HT3 HQ3
    obtain ⟨i, hi, rfl, ht, hq⟩ := hrel
    have HT := Lib.hid ht
    have HQ := Lib.hid hq
    clear ht hq
    by_cases hlt : i < ps.length
    · obtain ⟨ad, ua, uc, rfl, hsb, hc, hby⟩ := (HV.out.only HQ.out HS.out (fun _ _ x => x)).nth hlt
      have HBY := Lib.hid hby
      have HFL := Lib.hid (flatten_take_succ hlt)
      have hbl : ps[i].length ≤ 140737488355328 := HPL.out _ (List.getElem_mem hlt)
      have pz : 0 ≤ (i : Int) := by omega
      have mz : (i : Int) < (ps.length : Int) := by omega
      obtain ⟨w1, hw1⟩ : ∃ q, q = wr := ⟨_, rfl⟩
      subst hw1
      clear hby hsb
      generalize ps[i] = bs at *
      generalize (ps.take i).flatten = L at *
      have HSW : Hid (∀ k, S k → k < w1.heap.size) := fun k hk => Nat.lt_of_lt_of_le (HS.out k hk) HQ.out.size
      go_wp2_with fail
      go_loopw [29] (fun jv wr => ∃ j : Nat, j ≤ bs.length ∧ jv = .int .i64 (j : Int) ∧ TakeAt wr g 68 P D (Rb.fp P (L ++ bs.take j)) [] ∧ Only (fun k => k = g) w1 wr) (fun jv _ => bs.length - (intOf jv).toNat)
      case atStart => exact ⟨0, Nat.zero_le _, rfl, by simpa using HT.out, Only.refl _ _⟩
      case round =>
        obtain ⟨j, hj, rfl, ht2, ho⟩ := hrel
        have HT2 := Lib.hid ht2
        have HO := Lib.hid ho
        clear ht2 ho
        by_cases hjl : j < bs.length
        · obtain ⟨bd, rfl, hsb, hcell⟩ := (HBY.out.only HO.out HSW.out (fun k hk e => by have := HS.out k hk; omega)).nth hjl
          have HN := Lib.hid (HSNOC.out (L ++ bs.take j) bs[j])
          rw [List.append_assoc, List.take_append_getElem hjl] at HN
          have HTK := Lib.hid (fun W h => take7_any (w := W) (g := g) (ty := 68) (p := P) (d := D) (r := Rb.fp P (L ++ bs.take j)) (post := []) h bs[j])
          rw [← HN.out] at HTK
          have pz2 : 0 ≤ (j : Int) := by omega
          have mz2 : (j : Int) < (bs.length : Int) := by omega
          clear HN hsb
          generalize bs[j] = b at *
          go_wp2_with fail
          refine (HTK.out _ HT2.out).mono ?_
          rintro e w4 ⟨rfl, ht4, ho4⟩
          have HT4 := Lib.hid ht4
          have HO4 := Lib.hid (HO.out.trans ho4)
          clear ht4 ho4
          go_wp2_with fail
          exact ⟨⟨j + 1, by omega, by go_num, HT4.out, HO4.out⟩, by simp [intOf]; omega⟩
        · obtain rfl : j = bs.length := by omega
          have HT3 := HT2.out
          rw [List.take_length, ← HFL.out] at HT3
          have HTT := Lib.hid HT3
          have HQQ := Lib.hid (HQ.out.andThen HO.out (fun k hk e => by omega))
          clear HT3
          go_wp2_with fail
          exact ⟨⟨i + 1, by omega, by go_num, HTT.out, HQQ.out⟩, by simp [intOf]; omega⟩
    · obtain rfl : i = ps.length := by omega
      have ht := HT.out
      rw [List.take_length] at ht
      have c1 := ht.r
      have HM := Lib.hid (fun W => HMOD.out (Rb.fp P ps.flatten) W (HF64.out _))
      rw [HEND.out] at HM
      clear ht
      go_wp2_with fail
      refine (HM.out _).mono ?_
      rintro e w4 ⟨rfl, hq4⟩
      have HQ4 := Lib.hid (HQ.out.trans hq4)
      clear hq4
      go_wp2_with fail
      go_ret2
      exact ⟨rfl, HQ4.out⟩

end Go.Proofs.Ytobiajjcnpflgaa
