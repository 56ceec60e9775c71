/- The law WireBack. Conditions: rows within the reach. -/
import Derived.Test.YtnomgcbkaggmhaaWiAgain
import Derived.Test.YtnomgcbkaggmhaaWiCuts
import Derived.Test.YtnomgcbkaggmhaaWiSame
import Derived.Deep.RegionLaw
namespace Go.Proofs.Ytnomgcbkaggmhaa
open Go.RowKit

theorem frCells_get : ∀ (fs : List Fr) (i j : Nat) (h : i < fs.length), j < 3 → (frCells fs)[i * 3 + j]? = [.int .i64 (fs[i].k.toNat : Int), fs[i].p.v, .int .i64 (fs[i].at' : Int)][j]?
  | f :: fs, i, j, h, hj => by
    have e : frCells (f :: fs) = [.int .i64 (f.k.toNat : Int), f.p.v, .int .i64 (f.at' : Int)] ++ frCells fs := by simp [frCells]
    rw [e]
    cases i with
    | zero => rw [List.getElem?_append_left (by simpa using hj), Nat.zero_mul, Nat.zero_add]; rfl
    | succ i =>
      rw [List.getElem?_append_right (by simp; omega), show (i + 1) * 3 + j - [Value.int .i64 (f.k.toNat : Int), f.p.v, .int .i64 (f.at' : Int)].length = i * 3 + j by simp; omega]
      exact frCells_get fs i j (by simpa using h) hj

/-- What Frames left, for the loop that writes it again. -/
structure Lsd (w0 w : World) (bs : List UInt8) (la : Option Addr) (lc : Nat) (g : Nat) (frs : List Fr) (A : List UInt8) : Prop where
  lst : Frs w0 w (.slice la frs.length lc) frs
  pcs : Pcs w g bs.length (frs.map (·.p))
  again : Wi.Again 0 bs (frs.map frOf) A.length
  all : A = Wi.again (frs.map frOf)
  short : A.length ≤ 1048576
  cnt : frs.length ≤ 1048576

theorem Lsd.le {w0 w : World} {bs : List UInt8} {la : Option Addr} {lc g : Nat} {frs : List Fr} {A : List UInt8} (h : Lsd w0 w bs la lc g frs A) : A.length ≤ bs.length := by
  have := h.again.le; rw [← h.all] at this; exact this
theorem Lsd.form {w0 w : World} {bs : List UInt8} {la : Option Addr} {lc g : Nat} {frs : List Fr} {A : List UInt8} (h : Lsd w0 w bs la lc g frs A) : bs.take A.length = A := by
  have := h.again.form; rw [← h.all] at this; exact this.symm

theorem Lsd.get {w0 w w' : World} {bs : List UInt8} {la : Option Addr} {lc g : Nat} {frs : List Fr} {A : List UInt8} (h : Lsd w0 w bs la lc g frs A) (ho : Only (fun _ => False) w w') {i : Nat} (hi : i < frs.length) :
    ∃ (q : Nat) (xk : UInt8) (K : List UInt8) (bv : Value) (xn : Nat), la = some ⟨q, 0, none⟩ ∧ xk.toNat = xn ∧ K.length ≤ 1048576 ∧ xn < 256 ∧ w'.cell? ⟨q, i * 3, none⟩ = some (.int .i64 (xn : Int)) ∧ w'.cell? ⟨q, i * 3 + 1, none⟩ = some bv ∧ w'.cell? ⟨q, i * 3 + 2, none⟩ = some (.int .i64 ((Wi.again ((frs.map frOf).take i)).length : Int)) ∧
      BytesAt w' (fun k => k < w'.heap.size) bv K ∧ Wi.again ((frs.map frOf).take (i + 1)) = Wi.again ((frs.map frOf).take i) ++ Wi.frameOf xk K ∧ (Wi.again ((frs.map frOf).take i)).length + (Wi.frameOf xk K).length ≤ 1048576 := by
  have hl := h.lst.keep ho
  have hil : i < (frs.map frOf).length := by simpa using hi
  rcases hl.row.2 with ⟨_, h0⟩ | ⟨q, cap, cur, e, _⟩
  · omega
  · obtain ⟨rfl, _, rfl⟩ := Value.slice.inj e
    have hpc := h.pcs.at_ frs[i].p (List.mem_map.2 ⟨frs[i], List.getElem_mem hi, rfl⟩)
    have htp := h.pcs.top frs[i].p (List.mem_map.2 ⟨frs[i], List.getElem_mem hi, rfl⟩)
    have hst := Wi.again_take hil
    have e1 : (frs.map frOf)[i].1 = frs[i].k := by simp [frOf]
    have e2 : (frs.map frOf)[i].2.1 = frs[i].p.b := by simp [frOf]
    have e3 : (frs.map frOf)[i].2.2 = frs[i].at' := by simp [frOf]
    rw [e1, e2] at hst
    have hat := h.again.place i hil
    rw [e3, Nat.zero_add] at hat
    have hc : ∀ j u, (frCells frs)[j]? = some u → w'.cell? ⟨q, j, none⟩ = some u := fun j u hu => by
      have := hl.row.cells (g := q) rfl j u hu
      rwa [add_lit, Nat.zero_add] at this
    have htot : (Wi.again ((frs.map frOf).take (i + 1))).length ≤ A.length := by
      rw [h.all]
      conv => rhs; rw [← List.take_append_drop (i + 1) (frs.map frOf), Wi.again_append, List.length_append]
      omega
    have hsh := h.short
    rw [hst, List.length_append] at htot
    have hfl : frs[i].p.b.length ≤ (Wi.frameOf frs[i].k frs[i].p.b).length := by simp [Wi.frameOf, Wi.fieldOf]; omega
    refine ⟨q, frs[i].k, frs[i].p.b, frs[i].p.v, frs[i].k.toNat, rfl, rfl, by omega, frs[i].k.toNat_lt, ?_, ?_, ?_, ?_, hst, by omega⟩
    · exact hc _ _ (frCells_get frs i 0 hi (by omega))
    · exact hc _ _ (frCells_get frs i 1 hi (by omega))
    · rw [← hat]; exact hc _ _ (frCells_get frs i 2 hi (by omega))
    · exact (hpc.rest.only ho (fun x => x)).bytes.mono (fun k hk => hk.2)

set_option maxRecDepth 100000 in
set_option maxHeartbeats 8000000 in
theorem wireBack_any {w : World} {n : Int} (hn : -9223372036854775808 ≤ n ∧ n ≤ 9223372036854775807) {S : Nat → Prop} {v : Value} {fs : List (List UInt8)} (hv : PartsAt w S v fs) (hS : ∀ k, S k → k < w.heap.size) (hpl : (∀ p ∈ fs, p.length ≤ 140737488351232) ∧ fs.length ≤ 140737488355328) {S' : Nat → Prop} {bv : Value} {bs : List UInt8} (hb : BytesAt w S' bv bs) (hS' : ∀ k, S' k → k < w.heap.size) (_hbl : bs.length ≤ 140737488351232) :
    Calls Try.prog 6 #[.int .i64 n, v, bv] w fun e w' => e = .returned (.bool true) ∧ Only (fun _ => False) w w' := by
  obtain ⟨va, vc, rfl, hcp, -⟩ := id hv
  obtain ⟨ba, bc, rfl⟩ := hb.shape
  have HV := Lib.hid hv; have HS := Lib.hid hS; have HB := Lib.hid hb; have HS2 := Lib.hid hS'
  have HSUM : Hid (∀ w1, Only (fun _ => False) w w1 → Calls Try.prog 22 #[.slice va fs.length vc, .int .i64 1048576] w1 fun e w' => e = .returned (.int .i64 ((min (tot fs) 1048576 : Nat) : Int)) ∧ w1 = w') := fun w1 ho =>
    numSum_any (most := 1048576) (HV.out.only ho HS.out (fun _ _ x => x)) (fun p hp => Nat.le_trans (hpl.1 p hp) (by decide)) hpl.2 (Nat.le_refl _)
  have HNLE := Lib.hid hn
  clear hv hS hcp hb hS' hpl _hbl hn
  by_cases hcnt : (fs.length : Int) > 1000
  · clear HSUM HV HS HB HS2
    go_enter Try.func6, Try.ntmps6
    go_wp2_with (go_at_call 10; refine alive_any.mono ?_; rintro e w1 ⟨rfl, ho1⟩; have HO1 := Lib.hid ho1; clear ho1)
    go_ret
    exact ⟨rfl, HO1.out⟩
  obtain ⟨T, hT⟩ : ∃ T, min (tot fs) 1048576 = T := ⟨_, rfl⟩
  rw [hT] at HSUM
  by_cases hsum : (T : Int) > 262144
  · clear HV HS HB HS2 hT
    go_enter Try.func6, Try.ntmps6
    go_wp2_with (first
      | (go_at_call 10; refine alive_any.mono ?_; rintro e w1 ⟨rfl, ho1⟩; have HO1 := Lib.hid ho1; clear ho1)
      | (go_at_call 22; refine (HSUM.out _ HO1.out).mono ?_; rintro e w2 ⟨rfl, rfl⟩))
    go_ret
    exact ⟨rfl, HO1.out⟩
  by_cases hbl : (bs.length : Int) > 262144
  · clear HV HS HB HS2 hT
    go_enter Try.func6, Try.ntmps6
    go_wp2_with (first
      | (go_at_call 10; refine alive_any.mono ?_; rintro e w1 ⟨rfl, ho1⟩; have HO1 := Lib.hid ho1; clear ho1)
      | (go_at_call 22; refine (HSUM.out _ HO1.out).mono ?_; rintro e w2 ⟨rfl, rfl⟩))
    go_ret
    exact ⟨rfl, HO1.out⟩
  have hp : Parts fs := ⟨by omega, by omega⟩
  have hlim : ∀ f ∈ fs, f.length ≤ 67108864 := fun f hf => by have := hp.mem hf; omega
  have hPl : Short (Wi.pack fs).length := ⟨by
    have := Wi.pack_len fs (fun f hf => by have := hp.mem hf; omega)
    omega⟩
  have HBS : Short bs.length := ⟨by omega⟩
  have HBAT : Hid (∀ w1, Only (fun _ => False) w w1 → BytesAt w1 (fun k => k < w1.heap.size) (.slice ba bs.length bc) bs) := fun w1 ho => HB.out.here ho HS2.out
  have HPK : Hid (∀ w1, Only (fun _ => False) w w1 → Calls Try.prog 23 #[.slice va fs.length vc] w1 fun e w' => ∃ a c, e = .returned (.slice a (Wi.pack fs).length c) ∧ Row w1 w' (.slice a (Wi.pack fs).length c) (Wi.pack fs)) := fun w1 ho =>
    pack_any (HV.out.only ho HS.out (fun _ _ x => x)) (fun k hk => Nat.lt_of_lt_of_le (HS.out k hk) ho.size) hp
  have HUP : Hid (∀ (w1 : World) (v : Value), BytesAt w1 (fun k => k < w1.heap.size) v (Wi.pack fs) → Calls Try.prog 26 #[v, .int .i64 (fs.length : Int)] w1 fun e w' => ∃ a c, e = .returned (.tuple #[.slice a fs.length c, .nilIface]) ∧ PartsAt w' (fun k => k < w'.heap.size) (.slice a fs.length c) fs ∧ Only (fun _ => False) w1 w') := by
    intro w1 v hb
    refine (unpack_any hb (fun _ h => h) hPl (by omega)).mono ?_
    rintro e w' (⟨a, c, g, ps, rfl, hd⟩ | ⟨hno, _⟩)
    · have he := hd.eq
      rw [Wi.unpack_pack fs hlim] at he
      have e1 := Option.some.inj he
      have e2 : ps.length = fs.length := by rw [e1]; simp
      have hpt := hd.lst.parts hd.pcs
      rw [← e1] at hpt
      rw [e2] at hpt ⊢
      exact ⟨a, c, rfl, hpt, hd.lst.only⟩
    · rw [Wi.unpack_pack fs hlim] at hno; cases hno
  have HSM : Hid (∀ (w1 : World) (u : Value), Only (fun _ => False) w w1 → PartsAt w1 (fun k => k < w1.heap.size) u fs → Calls Try.prog 25 #[u, .slice va fs.length vc] w1 fun e w' => e = .returned (.bool true) ∧ Only (fun _ => False) w1 w') := fun w1 u ho hu =>
    same_true hu ((HV.out.only ho HS.out (fun _ _ x => x)).kept (fun _ _ => rfl) (fun k hk => Nat.lt_of_lt_of_le (HS.out k hk) ho.size)) (fun _ h => h) (by omega)
  have HFRS : Hid (∀ w1, Only (fun _ => False) w w1 → Calls Try.prog 30 #[.slice ba bs.length bc] w1 fun e w' => ∃ (la : Option Addr) (lc g : Nat) (frs : List Fr) (A : List UInt8), e = .returned (.tuple #[.slice la frs.length lc, .int .i64 (A.length : Int)]) ∧ Lsd w1 w' bs la lc g frs A) := by
    intro w1 ho
    refine (frames_any (HBAT.out w1 ho) (fun _ h => h) HBS).mono ?_
    rintro e w' ⟨a, c, g, frs, to', rfl, hd⟩
    have hag := Wi.frames_again _ _ _ _ _ hd.eq
    have hto := hag.to_
    rw [Nat.zero_add] at hto
    rw [hto] at hag ⊢
    have := hag.le
    have := HBS.le
    have := hd.cnt
    exact ⟨a, c, g, frs, _, rfl, hd.lst, hd.pcs, hag, rfl, by omega, by omega⟩
  have HNN : Hid (∀ w1 : World, Calls Try.prog 20 #[.int .i64 n] w1 fun e w' => ∃ a c, e = .returned (.slice a 8 c) ∧ Row w1 w' (.slice a 8 c) (Wi.num n)) := fun w1 => wNum_any
  have HRNN : Hid (∀ (w1 : World) (v : Value), BytesAt w1 (fun k => k < w1.heap.size) v (Wi.num n) → Calls Try.prog 14 #[v] w1 fun e w' => e = .returned (.tuple #[.int .i64 n, .nilIface]) ∧ w' = w1) := by
    intro w1 v hb
    refine (readNum_any hb (Wi.num_len n)).mono ?_
    rintro e w' ⟨rfl, rfl⟩
    rw [Wi.be_num HNLE.out.1 HNLE.out.2]
    exact ⟨rfl, rfl⟩
  have HSB : Hid (∀ k, k ≤ bs.length → ∀ W : World, (Instr.slice 22 (.slice ba bs.length bc) none (some (.int .i64 (k : Int))) none).run Try.prog W = .ok (.slice ba k bc) W) := fun k hk W => slice_h (by have := HB.out.cap'; omega) W
  have HCB : Hid (∀ (A : List UInt8) (W : World), bs.take A.length = A → Only (fun _ => False) w W → (convert 22 9 (.slice ba A.length bc)).run Try.prog W = .ok (.string ⟨A.toArray⟩) W) := fun A W hA ho => by
    have hle : A.length ≤ bs.length := by have := congrArg List.length hA; simp at this; omega
    have := ((HBAT.out W ho).pre' hle).text
    rwa [hA] at this
  clear hlim hp hT hPl
  generalize Wi.num n = NN at *
  generalize Wi.pack fs = P at *
  by_cases h0 : n < 0
  · cases hrb : Wi.readVar bs with
    | none =>
      have HRB : Hid (∀ w1, Only (fun _ => False) w w1 → Calls Try.prog 12 #[.slice ba bs.length bc] w1 fun e w' => e = .returned (.tuple #[.int .i64 0, .int .i64 0, .iface 75 (.int .i64 9)]) ∧ w' = w1) := fun w1 ho => by
        refine (readVar_any (HBAT.out w1 ho) (by have := HBS.le; omega)).mono ?_
        rintro e w' ⟨rfl, ⟨n', k', e1, rfl⟩ | ⟨e1, rfl⟩⟩
        · rw [hrb] at e1; cases e1
        · exact ⟨rfl, rfl⟩
      clear hrb
      have HVN : Hid (∀ w1 : World, Calls Try.prog 18 #[.int .i64 n] w1 fun e w' => e = .returned (.slice none 0 0) ∧ w' = w1) := fun w1 => wVar_neg h0
      have HRN : Hid (∀ w1 : World, Calls Try.prog 12 #[.slice none 0 0] w1 fun e w' => e = .returned (.tuple #[.int .i64 0, .int .i64 0, .iface 75 (.int .i64 9)]) ∧ w' = w1) := by
        intro w1
        refine (readVar_any (S := fun _ => True) (bs := []) (.inl ⟨rfl, rfl⟩) (by simp)).mono ?_
        rintro e w' ⟨rfl, ⟨n', k', e1, rfl⟩ | ⟨e1, rfl⟩⟩
        · cases e1
        · exact ⟨rfl, rfl⟩
      have gn : ¬ n ≥ 0 := by omega
      clear HNLE
      clear HB HS2 HV HS HBAT
      go_enter Try.func6, Try.ntmps6
      go_wp2_with (first
        | (go_at_call 10; refine alive_any.mono ?_; rintro e w1 ⟨rfl, ho1⟩; have HO1 := Lib.hid ho1; clear ho1)
        | (go_at_call 22; refine (HSUM.out _ HO1.out).mono ?_; rintro e w2 ⟨rfl, rfl⟩))
      clear HSUM
      go_wp2_with fail
      refine (HVN.out _).mono ?_
      rintro e w2 ⟨rfl, rfl⟩
      go_wp2_with fail
      refine (HRN.out _).mono ?_
      rintro e w3 ⟨rfl, rfl⟩
      go_wp2_with fail
      refine (HNN.out _).mono ?_
      rintro e w6 ⟨ma, mc, rfl, hr4⟩
      have HB4 := Lib.hid hr4.bytes; have HO6 := Lib.hid (HO1.out.trans hr4.only)
      clear hr4
      go_wp2_with fail
      refine (HRNN.out _ _ HB4.out).mono ?_
      rintro e w5 ⟨rfl, rfl⟩
      clear HB4
      go_wp2_with fail
      refine (HPK.out _ HO6.out).mono ?_
      rintro e w7 ⟨pa, pc, rfl, hr7⟩
      have HB7 := Lib.hid hr7.bytes; have HO7 := Lib.hid (HO6.out.trans hr7.only)
      clear hr7
      go_wp2_with fail
      refine (HUP.out _ _ HB7.out).mono ?_
      rintro e w8 ⟨ga, gc, rfl, hp8, ho8⟩
      have HP8 := Lib.hid hp8; have HO8 := Lib.hid (HO7.out.trans ho8)
      clear hp8 ho8 HB7 HO7 HO6
      go_wp2_with fail
      refine (HSM.out _ _ HO8.out HP8.out).mono ?_
      rintro e w9 ⟨rfl, ho9⟩
      have HO9 := Lib.hid (HO8.out.trans ho9)
      clear ho9 HP8 HO8
      go_wp2_with fail
      refine (HRB.out _ HO9.out).mono ?_
      rintro e w10 ⟨rfl, rfl⟩
      clear HVN HRN HNN HRNN HPK HUP HSM HRB
      go_wp2_with fail
      go_quiet ((fail))
      go_wp2_with fail
      have HO11 : Hid (Only (fun _ => False) w (w10.drewN nq)) := HO9.out.trans (Only.drewN nq)
      generalize w10.drewN nq = w11 at *
      go_wp2_with fail
      refine (HFRS.out _ HO11.out).mono ?_
      rintro e w12 ⟨la, lc, g, frs, A, rfl, hd⟩
      have HD := Lib.hid hd; have HO12 := Lib.hid (HO11.out.trans hd.lst.only)
      have hAl := hd.short
      have hfc := hd.cnt
      clear hd HFRS HO11
      go_wp2_with fail
      have HE0 := Lib.hid (Row.empty w12)
      go_loopw [15, 137] (fun av iv wr => ∃ i : Nat, i ≤ frs.length ∧ iv = .int .i64 i ∧ Row w12 wr av (Wi.again ((frs.map frOf).take i))) (fun _ iv _ => frs.length - (intOf iv).toNat)
      case atStart => exact ⟨0, Nat.zero_le _, rfl, by simpa [Wi.again] using HE0.out⟩
      case round =>
        obtain ⟨i, hi, rfl, hrow⟩ := hrel
        obtain ⟨aa, ac, rfl⟩ := hrow.shape
        by_cases hlt : i < frs.length
        · obtain ⟨q, xk, K, bv, xn, rfl, hxk, hkl, hx256, k0, k1, k2, hpa, hAs, hAl2⟩ := HD.out.get hrow.only hlt
          obtain ⟨bva, bvc, hbv⟩ := hpa.shape
          subst hbv
          have HROW := Lib.hid hrow
          have hX := Blk.new wr [.int .i64 (xn : Int), .slice bva K.length bvc, .int .i64 ((Wi.again ((frs.map frOf).take i)).length : Int)] 57
          have HX := Lib.hid hX
          have HOX : Hid (Only (fun _ => False) wr (wr.alloc (.cells #[.int .i64 (xn : Int), .slice bva K.length bvc, .int .i64 ((Wi.again ((frs.map frOf).take i)).length : Int)] 57))) := Only.alloc _
          have HSZ : Hid ((wr.alloc (.cells #[.int .i64 (xn : Int), .slice bva K.length bvc, .int .i64 ((Wi.again ((frs.map frOf).take i)).length : Int)] 57)).heap.size = wr.heap.size + 1) := World.size_alloc _ _
          have HPX := Lib.hid (hpa.here HOX.out (fun _ h => h))
          have HAS := Lib.hid hAs
          have HLIM : Hid ((Wi.again ((frs.map frOf).take i)).length + (Wi.frameOf xk K).length ≤ 140737488355328) := by unfold Hid; omega
          have HKS : Short K.length := ⟨hkl⟩
          have HXK := Lib.hid hxk
          have pz : 0 ≤ (i : Int) := by omega
          have mz : (i : Int) < (frs.length : Int) := by omega
          clear hrow hpa hAs hAl2 hxk hkl hX
          generalize hAX : Wi.again ((frs.map frOf).take i) = AX at *
          have g1 : ¬ (xn : Int) < 0 := by omega
          have g2 : ¬ (xn : Int) > 255 := by omega
          have x0 : (wr.alloc (.cells #[.int .i64 (xn : Int), .slice bva K.length bvc, .int .i64 (AX.length : Int)] 57)).cell? ⟨wr.heap.size, 0, none⟩ = some (.int .i64 (xn : Int)) := HX.out.cell 0
          have x1 : (wr.alloc (.cells #[.int .i64 (xn : Int), .slice bva K.length bvc, .int .i64 (AX.length : Int)] 57)).cell? ⟨wr.heap.size, 1, none⟩ = some (.slice bva K.length bvc) := HX.out.cell 1
          have x2 : (wr.alloc (.cells #[.int .i64 (xn : Int), .slice bva K.length bvc, .int .i64 (AX.length : Int)] 57)).cell? ⟨wr.heap.size, 2, none⟩ = some (.int .i64 (AX.length : Int)) := HX.out.cell 2
          clear hAX
          go_wp2_with fail
          generalize wr.alloc (.cells #[.int .i64 (xn : Int), .slice bva K.length bvc, .int .i64 (AX.length : Int)] 57) = wx at *
          generalize wr.heap.size = gx at *
          clear x0 x1 x2 k0 k1 k2 HX
          have hpp := part_at (Blk.new wx [.slice bva K.length bvc] 22) (HPX.out.only (Only.alloc (.cells #[.slice bva K.length bvc] 22)) (fun _ h => h) (fun _ _ x => x)) (fun k hk => Nat.lt_of_lt_of_le hk (by simp))
          have hfr := frame_any (x := xk) hpp (fun _ h => h) ⟨by simp, by unfold tot; have := HKS.le; simp; omega⟩
          simp only [List.flatten_cons, List.flatten_nil, List.append_nil] at hfr
          have hxe : byteV xk = .int .u8 (xn : Int) := by unfold byteV; rw [HXK.out]
          rw [hxe, HSZ.out] at hfr
          have HFR := Lib.hid hfr
          clear hpp hfr hxe HKS
          generalize hFX : Wi.frameOf xk K = FX at *
          have HFX := Lib.hid hFX
          clear hFX
          refine HFR.out.mono ?_
          rintro e y1 ⟨ya, yc, rfl, hy1⟩
          have HY := Lib.hid hy1.bytes; have HRY := Lib.hid (HROW.out.kept ((HOX.out.trans (Only.alloc _)).trans hy1.only))
          clear hy1 HFR
          go_wp2_with (at_builtin; refine wpList_append_bytes _ rfl _ _ rfl (.slice aa AX.length ac) (.slice ya FX.length yc) AX.length (AX.map byteV) rfl rfl HRY.out.row HY.out HLIM.out ?_; intro a5 c5 w5 hr5 hg5 hat5; have HR5 := Lib.hid (HRY.out.app (Only.refl _ _) rfl hr5 hg5 hat5); clear hr5 hg5 hat5)
          exact ⟨⟨i + 1, by omega, by go_num, by rw [HAS.out]; exact HR5.out⟩, by simp [intOf]; omega⟩
        · have hall : (frs.map frOf).take i = frs.map frOf := List.take_of_length_le (by simp; omega)
          rw [hall, ← HD.out.all] at hrow
          rw [hall, ← HD.out.all]
          have HROW := Lib.hid hrow
          have hAb : (A.length : Int) ≤ (bs.length : Int) := by have := HD.out.le; omega
          have hcon1 : ∀ W : World, Only (fun _ => False) wr W → (convert 22 9 (.slice aa A.length ac)).run Try.prog W = .ok (.string ⟨A.toArray⟩) W := fun W ho => (HROW.out.kept ho).bytes.text
          have hcon2 : ∀ W : World, Only (fun _ => False) wr W → (convert 22 9 (.slice ba A.length bc)).run Try.prog W = .ok (.string ⟨A.toArray⟩) W := fun W ho => HCB.out A W HD.out.form ((HO12.out.trans HROW.out.only).trans ho)
          have hsl := HSB.out A.length HD.out.le
          have HOF := Lib.hid ((HO12.out.trans HROW.out.only).trans (Only.drew (w := wr)))
          have HDW : Hid (Only (fun _ => False) wr wr.drew) := Only.drew
          clear hall hrow
          go_wp2_with fail
          go_region_held3 (fun W => Only (fun _ => False) wr W) (first | exact HDW.out) (first | fail)
          clear hcon1 hcon2 hsl
          go_wp2_with fail
          go_ret
          exact ⟨rfl, HOF.out⟩
    | some q =>
      obtain ⟨rn, rk⟩ := q
      have rr := Wi.readVar_some hrb
      have HRB : Hid (∀ w1, Only (fun _ => False) w w1 → Calls Try.prog 12 #[.slice ba bs.length bc] w1 fun e w' => e = .returned (.tuple #[.int .i64 (rn : Int), .int .i64 (rk : Int), .nilIface]) ∧ w' = w1) := fun w1 ho => by
        refine (readVar_any (HBAT.out w1 ho) (by have := HBS.le; omega)).mono ?_
        rintro e w' ⟨rfl, ⟨n', k', e1, rfl⟩ | ⟨e1, _⟩⟩
        · rw [hrb] at e1
          obtain ⟨rfl, rfl⟩ := Prod.mk.inj (Option.some.inj e1)
          exact ⟨rfl, rfl⟩
        · rw [hrb] at e1; cases e1
      have r0 : ¬ (rn : Int) < 0 := by omega
      have r1 : ¬ (rk : Int) < 1 := by have := rr.pos; omega
      have r2 : ¬ (rk : Int) > (bs.length : Int) := by have := rr.le; omega
      have r3 : rk ≤ bs.length := rr.le
      have hslb := HSB.out rk rr.le
      have HVR : Hid (∀ w1 : World, Calls Try.prog 18 #[.int .i64 (rn : Int)] w1 fun e w' => ∃ a c, e = .returned (.slice a (Wi.var rn).length c) ∧ Row w1 w' (.slice a (Wi.var rn).length c) (Wi.var rn)) := fun w1 => wVar_any rr.fits
      have HCON : Hid (∀ W : World, Only (fun _ => False) w W → (convert 22 9 (.slice ba rk bc)).run Try.prog W = .ok (.string ⟨(Wi.var rn).toArray⟩) W) := fun W ho => by
        have := HCB.out (Wi.var rn) W (by rw [rr.len, rr.form]) ho
        rwa [rr.len] at this
      clear hrb rr
      have HVN : Hid (∀ w1 : World, Calls Try.prog 18 #[.int .i64 n] w1 fun e w' => e = .returned (.slice none 0 0) ∧ w' = w1) := fun w1 => wVar_neg h0
      have HRN : Hid (∀ w1 : World, Calls Try.prog 12 #[.slice none 0 0] w1 fun e w' => e = .returned (.tuple #[.int .i64 0, .int .i64 0, .iface 75 (.int .i64 9)]) ∧ w' = w1) := by
        intro w1
        refine (readVar_any (S := fun _ => True) (bs := []) (.inl ⟨rfl, rfl⟩) (by simp)).mono ?_
        rintro e w' ⟨rfl, ⟨n', k', e1, rfl⟩ | ⟨e1, rfl⟩⟩
        · cases e1
        · exact ⟨rfl, rfl⟩
      have gn : ¬ n ≥ 0 := by omega
      clear HNLE
      clear HB HS2 HV HS HBAT
      go_enter Try.func6, Try.ntmps6
      go_wp2_with (first
        | (go_at_call 10; refine alive_any.mono ?_; rintro e w1 ⟨rfl, ho1⟩; have HO1 := Lib.hid ho1; clear ho1)
        | (go_at_call 22; refine (HSUM.out _ HO1.out).mono ?_; rintro e w2 ⟨rfl, rfl⟩))
      clear HSUM
      go_wp2_with fail
      refine (HVN.out _).mono ?_
      rintro e w2 ⟨rfl, rfl⟩
      go_wp2_with fail
      refine (HRN.out _).mono ?_
      rintro e w3 ⟨rfl, rfl⟩
      go_wp2_with fail
      refine (HNN.out _).mono ?_
      rintro e w6 ⟨ma, mc, rfl, hr4⟩
      have HB4 := Lib.hid hr4.bytes; have HO6 := Lib.hid (HO1.out.trans hr4.only)
      clear hr4
      go_wp2_with fail
      refine (HRNN.out _ _ HB4.out).mono ?_
      rintro e w5 ⟨rfl, rfl⟩
      clear HB4
      go_wp2_with fail
      refine (HPK.out _ HO6.out).mono ?_
      rintro e w7 ⟨pa, pc, rfl, hr7⟩
      have HB7 := Lib.hid hr7.bytes; have HO7 := Lib.hid (HO6.out.trans hr7.only)
      clear hr7
      go_wp2_with fail
      refine (HUP.out _ _ HB7.out).mono ?_
      rintro e w8 ⟨ga, gc, rfl, hp8, ho8⟩
      have HP8 := Lib.hid hp8; have HO8 := Lib.hid (HO7.out.trans ho8)
      clear hp8 ho8 HB7 HO7 HO6
      go_wp2_with fail
      refine (HSM.out _ _ HO8.out HP8.out).mono ?_
      rintro e w9 ⟨rfl, ho9⟩
      have HO9 := Lib.hid (HO8.out.trans ho9)
      clear ho9 HP8 HO8
      go_wp2_with fail
      refine (HRB.out _ HO9.out).mono ?_
      rintro e w10 ⟨rfl, rfl⟩
      clear HVN HRN HNN HRNN HPK HUP HSM HRB
      go_wp2_with fail
      have hcon : ∀ W : World, Only (fun _ => False) w10 W → (convert 22 9 (.slice ba rk bc)).run Try.prog W = .ok (.string ⟨(Wi.var rn).toArray⟩) W := fun W ho => HCON.out W (HO9.out.trans ho)
      generalize Wi.var rn = VR at *
      refine wp_region_held_drew (S := fun W => Only (fun _ => False) w10 W) (by kernel_rfl) Only.drew (fun hHeld => ?_)
      refine wpAnyH_take (i := 0) (v := .nilIface) rfl (by kernel_rfl) (by kernel_rfl) (by kernel_rfl) (fun _ _ _ h => h) (Or.inl ⟨by rfl, fun W hSw => by go_simp⟩) hHeld ?_
      simp only [Act.put, List.getElem_toArray, List.getElem_cons_zero, List.setIfInBounds_toArray, List.set_cons_zero, List.set_cons_succ]
      refine wpAnyH_take (i := 1) (v := .bool true) rfl (by kernel_rfl) (by kernel_rfl) (by kernel_rfl) (fun _ _ _ h => h) (Or.inl ⟨by rfl, fun W hSw => by go_simp⟩) hHeld ?_
      simp only [Act.put, List.getElem_toArray, List.getElem_cons_succ, List.getElem_cons_zero, List.setIfInBounds_toArray, List.set_cons_zero, List.set_cons_succ]
      refine wpAnyH_take (i := 2) (v := .bool true) rfl (by kernel_rfl) (by kernel_rfl) (by kernel_rfl) (fun _ _ _ h => h) (Or.inl ⟨by rfl, fun W hSw => by go_simp⟩) hHeld ?_
      simp only [Act.put, List.getElem_toArray, List.getElem_cons_succ, List.getElem_cons_zero, List.setIfInBounds_toArray, List.set_cons_zero, List.set_cons_succ]
      refine wpAnyH_take (i := 3) (v := .int .i64 (rn : Int)) rfl (by kernel_rfl) (by kernel_rfl) (by kernel_rfl) (fun _ _ _ h => h) (Or.inl ⟨by rfl, fun W hSw => by go_simp⟩) hHeld ?_
      simp only [Act.put, List.getElem_toArray, List.getElem_cons_succ, List.getElem_cons_zero, List.setIfInBounds_toArray, List.set_cons_zero, List.set_cons_succ]
      refine wpAnyH_take (i := 4) (v := .bool false) rfl (by kernel_rfl) (by kernel_rfl) (by kernel_rfl) (fun _ _ _ h => h) (Or.inl ⟨by rfl, fun W hSw => by go_simp⟩) hHeld ?_
      simp only [Act.put, List.getElem_toArray, List.getElem_cons_succ, List.getElem_cons_zero, List.setIfInBounds_toArray, List.set_cons_zero, List.set_cons_succ]
      refine wpAnyH_take (i := 5) (v := .bool false) rfl (by kernel_rfl) (by kernel_rfl) (by kernel_rfl) (fun _ _ _ h => h) (Or.inl ⟨by rfl, fun W hSw => by go_simp⟩) hHeld ?_
      simp only [Act.put, List.getElem_toArray, List.getElem_cons_succ, List.getElem_cons_zero, List.setIfInBounds_toArray, List.set_cons_zero, List.set_cons_succ]
      refine wpAnyH_take (i := 6) (v := .int .i64 (rk : Int)) rfl (by kernel_rfl) (by kernel_rfl) (by kernel_rfl) (fun _ _ _ h => h) (Or.inl ⟨by rfl, fun W hSw => by go_simp⟩) hHeld ?_
      simp only [Act.put, List.getElem_toArray, List.getElem_cons_succ, List.getElem_cons_zero, List.setIfInBounds_toArray, List.set_cons_zero, List.set_cons_succ]
      refine wpAnyH_take (i := 7) (v := .bool false) rfl (by kernel_rfl) (by kernel_rfl) (by kernel_rfl) (fun _ _ _ h => h) (Or.inl ⟨by rfl, fun W hSw => by go_simp⟩) hHeld ?_
      simp only [Act.put, List.getElem_toArray, List.getElem_cons_succ, List.getElem_cons_zero, List.setIfInBounds_toArray, List.set_cons_zero, List.set_cons_succ]
      refine wpAnyH_take (i := 8) (v := .bool false) rfl (by kernel_rfl) (by kernel_rfl) (by kernel_rfl) (fun _ _ _ h => h) (Or.inl ⟨by rfl, fun W hSw => by go_simp⟩) hHeld ?_
      simp only [Act.put, List.getElem_toArray, List.getElem_cons_succ, List.getElem_cons_zero, List.setIfInBounds_toArray, List.set_cons_zero, List.set_cons_succ]
      refine wpAnyH_take (i := 9) (v := .bool false) rfl (by kernel_rfl) (by kernel_rfl) (by kernel_rfl) (fun _ _ _ h => h) (Or.inl ⟨by rfl, fun W hSw => by go_simp⟩) hHeld ?_
      simp only [Act.put, List.getElem_toArray, List.getElem_cons_succ, List.getElem_cons_zero, List.setIfInBounds_toArray, List.set_cons_zero, List.set_cons_succ]
      refine wpAnyH_take (i := 10) (v := .int .i64 (rk : Int)) rfl (by kernel_rfl) (by kernel_rfl) (by kernel_rfl) (fun _ _ _ h => h) (Or.inl ⟨by rfl, fun W hSw => by go_simp⟩) hHeld ?_
      simp only [Act.put, List.getElem_toArray, List.getElem_cons_succ, List.getElem_cons_zero, List.setIfInBounds_toArray, List.set_cons_zero, List.set_cons_succ]
      refine wpAnyH_take (i := 11) (v := .slice ba bs.length bc) rfl (by kernel_rfl) (by kernel_rfl) (by kernel_rfl) (fun _ _ _ h => h) (Or.inl ⟨by rfl, fun W hSw => by go_simp⟩) hHeld ?_
      simp only [Act.put, List.getElem_toArray, List.getElem_cons_succ, List.getElem_cons_zero, List.setIfInBounds_toArray, List.set_cons_zero, List.set_cons_succ]
      refine wpAnyH_take (i := 12) (v := .int .i64 (bs.length : Int)) rfl (by kernel_rfl) (by kernel_rfl) (by kernel_rfl) (fun _ _ _ h => h) (Or.inl ⟨by rfl, fun W hSw => by go_simp⟩) hHeld ?_
      simp only [Act.put, List.getElem_toArray, List.getElem_cons_succ, List.getElem_cons_zero, List.setIfInBounds_toArray, List.set_cons_zero, List.set_cons_succ]
      refine wpAnyH_take (i := 13) (v := .bool false) rfl (by kernel_rfl) (by kernel_rfl) (by kernel_rfl) (fun _ _ _ h => h) (Or.inl ⟨by rfl, fun W hSw => by go_simp⟩) hHeld ?_
      simp only [Act.put, List.getElem_toArray, List.getElem_cons_succ, List.getElem_cons_zero, List.setIfInBounds_toArray, List.set_cons_zero, List.set_cons_succ]
      refine wpAnyH_take (i := 14) (v := .bool false) rfl (by kernel_rfl) (by kernel_rfl) (by kernel_rfl) (fun _ _ _ h => h) (Or.inl ⟨by rfl, fun W hSw => by go_simp⟩) hHeld ?_
      simp only [Act.put, List.getElem_toArray, List.getElem_cons_succ, List.getElem_cons_zero, List.setIfInBounds_toArray, List.set_cons_zero, List.set_cons_succ]
      refine wpAnyH_take (i := 15) (v := .bool false) rfl (by kernel_rfl) (by kernel_rfl) (by kernel_rfl) (fun _ _ _ h => h) (Or.inl ⟨by rfl, fun W hSw => by go_simp⟩) hHeld ?_
      simp only [Act.put, List.getElem_toArray, List.getElem_cons_succ, List.getElem_cons_zero, List.setIfInBounds_toArray, List.set_cons_zero, List.set_cons_succ]
      refine wpAnyH_take (i := 16) (v := .int .i64 (rn : Int)) rfl (by kernel_rfl) (by kernel_rfl) (by kernel_rfl) (fun _ _ _ h => h) (Or.inl ⟨by rfl, fun W hSw => by go_simp⟩) hHeld ?_
      simp only [Act.put, List.getElem_toArray, List.getElem_cons_succ, List.getElem_cons_zero, List.setIfInBounds_toArray, List.set_cons_zero, List.set_cons_succ]
      refine wpAnyH_take (i := 19) (v := .slice ba bs.length bc) rfl (by kernel_rfl) (by kernel_rfl) (by kernel_rfl) (fun _ _ _ h => h) (Or.inl ⟨by rfl, fun W hSw => by go_simp⟩) hHeld ?_
      simp only [Act.put, List.getElem_toArray, List.getElem_cons_succ, List.getElem_cons_zero, List.setIfInBounds_toArray, List.set_cons_zero, List.set_cons_succ]
      refine wpAnyH_take (i := 20) (v := .int .i64 (rk : Int)) rfl (by kernel_rfl) (by kernel_rfl) (by kernel_rfl) (fun _ _ _ h => h) (Or.inl ⟨by rfl, fun W hSw => by go_simp⟩) hHeld ?_
      simp only [Act.put, List.getElem_toArray, List.getElem_cons_succ, List.getElem_cons_zero, List.setIfInBounds_toArray, List.set_cons_zero, List.set_cons_succ]
      refine wpAnyH_take (i := 21) (v := .slice ba rk bc) rfl (by kernel_rfl) (by kernel_rfl) (by kernel_rfl) (fun _ _ _ h => h) (Or.inl ⟨by rfl, fun W hSw => by go_simp⟩) hHeld ?_
      simp only [Act.put, List.getElem_toArray, List.getElem_cons_succ, List.getElem_cons_zero, List.setIfInBounds_toArray, List.set_cons_zero, List.set_cons_succ]
      refine wpAnyH_take (i := 22) (v := .string ⟨VR.toArray⟩) rfl (by kernel_rfl) (by kernel_rfl) (by kernel_rfl) (fun _ _ _ h => h) (Or.inl ⟨by rfl, fun W hSw => by go_simp⟩) hHeld ?_
      simp only [Act.put, List.getElem_toArray, List.getElem_cons_succ, List.getElem_cons_zero, List.setIfInBounds_toArray, List.set_cons_zero, List.set_cons_succ]
      refine wpAnyH_ready (rs := [17]) (by kernel_rfl) (by simp) (AllReadyH.cons rfl (fun K hK => ?_) AllReadyH.nil)
      go_simp
      refine (HVR.out _).mono ?_
      rintro e x1 ⟨xa, xc, rfl, hx1⟩
      have hox : Only (fun _ => False) w10 x1 := Only.drew.trans hx1.only
      have htx := hx1.bytes.text
      refine hK.out _ _ hox (fun hHeld => ?_)
      clear hK K
      try simp only [Act.put, List.getElem_toArray, List.getElem_cons_succ, List.getElem_cons_zero, List.setIfInBounds_toArray, List.set_cons_zero, List.set_cons_succ]
      refine wpAnyH_ready (rs := [18]) (by kernel_rfl) (by simp) (AllReadyH.cons rfl (fun K hK => ?_) AllReadyH.nil)
      go_simp
      refine hK.out _ _ hHeld (fun hHeld => ?_)
      clear hK K
      try simp only [Act.put, List.getElem_toArray, List.getElem_cons_succ, List.getElem_cons_zero, List.setIfInBounds_toArray, List.set_cons_zero, List.set_cons_succ]
      refine wpAnyH_take (i := 23) (v := .bool false) rfl (by kernel_rfl) (by kernel_rfl) (by kernel_rfl) (fun _ _ _ h => h) (Or.inl ⟨by rfl, fun W hSw => by go_simp⟩) hHeld ?_
      simp only [Act.put, List.getElem_toArray, List.getElem_cons_succ, List.getElem_cons_zero, List.setIfInBounds_toArray, List.set_cons_zero, List.set_cons_succ]
      refine wpAnyH_take (i := 24) (v := .bool false) rfl (by kernel_rfl) (by kernel_rfl) (by kernel_rfl) (fun _ _ _ h => h) (Or.inl ⟨by rfl, fun W hSw => by go_simp⟩) hHeld ?_
      simp only [Act.put, List.getElem_toArray, List.getElem_cons_succ, List.getElem_cons_zero, List.setIfInBounds_toArray, List.set_cons_zero, List.set_cons_succ]
      refine wpAnyH_take (i := 25) (v := .bool false) rfl (by kernel_rfl) (by kernel_rfl) (by kernel_rfl) (fun _ _ _ h => h) (Or.inl ⟨by rfl, fun W hSw => by go_simp⟩) hHeld ?_
      simp only [Act.put, List.getElem_toArray, List.getElem_cons_succ, List.getElem_cons_zero, List.setIfInBounds_toArray, List.set_cons_zero, List.set_cons_succ]
      refine wpAnyH_done (by kernel_rfl) ?_ _
      have HO11 := Lib.hid (HO9.out.trans hox)
      clear hcon htx hox hx1 hHeld HO9 hslb
      generalize x1 = w11 at *
      go_wp2_with fail
      refine (HFRS.out _ HO11.out).mono ?_
      rintro e w12 ⟨la, lc, g, frs, A, rfl, hd⟩
      have HD := Lib.hid hd; have HO12 := Lib.hid (HO11.out.trans hd.lst.only)
      have hAl := hd.short
      have hfc := hd.cnt
      clear hd HFRS HO11
      go_wp2_with fail
      have HE0 := Lib.hid (Row.empty w12)
      go_loopw [15, 137] (fun av iv wr => ∃ i : Nat, i ≤ frs.length ∧ iv = .int .i64 i ∧ Row w12 wr av (Wi.again ((frs.map frOf).take i))) (fun _ iv _ => frs.length - (intOf iv).toNat)
      case atStart => exact ⟨0, Nat.zero_le _, rfl, by simpa [Wi.again] using HE0.out⟩
      case round =>
        obtain ⟨i, hi, rfl, hrow⟩ := hrel
        obtain ⟨aa, ac, rfl⟩ := hrow.shape
        by_cases hlt : i < frs.length
        · obtain ⟨q, xk, K, bv, xn, rfl, hxk, hkl, hx256, k0, k1, k2, hpa, hAs, hAl2⟩ := HD.out.get hrow.only hlt
          obtain ⟨bva, bvc, hbv⟩ := hpa.shape
          subst hbv
          have HROW := Lib.hid hrow
          have hX := Blk.new wr [.int .i64 (xn : Int), .slice bva K.length bvc, .int .i64 ((Wi.again ((frs.map frOf).take i)).length : Int)] 57
          have HX := Lib.hid hX
          have HOX : Hid (Only (fun _ => False) wr (wr.alloc (.cells #[.int .i64 (xn : Int), .slice bva K.length bvc, .int .i64 ((Wi.again ((frs.map frOf).take i)).length : Int)] 57))) := Only.alloc _
          have HSZ : Hid ((wr.alloc (.cells #[.int .i64 (xn : Int), .slice bva K.length bvc, .int .i64 ((Wi.again ((frs.map frOf).take i)).length : Int)] 57)).heap.size = wr.heap.size + 1) := World.size_alloc _ _
          have HPX := Lib.hid (hpa.here HOX.out (fun _ h => h))
          have HAS := Lib.hid hAs
          have HLIM : Hid ((Wi.again ((frs.map frOf).take i)).length + (Wi.frameOf xk K).length ≤ 140737488355328) := by unfold Hid; omega
          have HKS : Short K.length := ⟨hkl⟩
          have HXK := Lib.hid hxk
          have pz : 0 ≤ (i : Int) := by omega
          have mz : (i : Int) < (frs.length : Int) := by omega
          clear hrow hpa hAs hAl2 hxk hkl hX
          generalize hAX : Wi.again ((frs.map frOf).take i) = AX at *
          have g1 : ¬ (xn : Int) < 0 := by omega
          have g2 : ¬ (xn : Int) > 255 := by omega
          have x0 : (wr.alloc (.cells #[.int .i64 (xn : Int), .slice bva K.length bvc, .int .i64 (AX.length : Int)] 57)).cell? ⟨wr.heap.size, 0, none⟩ = some (.int .i64 (xn : Int)) := HX.out.cell 0
          have x1 : (wr.alloc (.cells #[.int .i64 (xn : Int), .slice bva K.length bvc, .int .i64 (AX.length : Int)] 57)).cell? ⟨wr.heap.size, 1, none⟩ = some (.slice bva K.length bvc) := HX.out.cell 1
          have x2 : (wr.alloc (.cells #[.int .i64 (xn : Int), .slice bva K.length bvc, .int .i64 (AX.length : Int)] 57)).cell? ⟨wr.heap.size, 2, none⟩ = some (.int .i64 (AX.length : Int)) := HX.out.cell 2
          clear hAX
          go_wp2_with fail
          generalize wr.alloc (.cells #[.int .i64 (xn : Int), .slice bva K.length bvc, .int .i64 (AX.length : Int)] 57) = wx at *
          generalize wr.heap.size = gx at *
          clear x0 x1 x2 k0 k1 k2 HX
          have hpp := part_at (Blk.new wx [.slice bva K.length bvc] 22) (HPX.out.only (Only.alloc (.cells #[.slice bva K.length bvc] 22)) (fun _ h => h) (fun _ _ x => x)) (fun k hk => Nat.lt_of_lt_of_le hk (by simp))
          have hfr := frame_any (x := xk) hpp (fun _ h => h) ⟨by simp, by unfold tot; have := HKS.le; simp; omega⟩
          simp only [List.flatten_cons, List.flatten_nil, List.append_nil] at hfr
          have hxe : byteV xk = .int .u8 (xn : Int) := by unfold byteV; rw [HXK.out]
          rw [hxe, HSZ.out] at hfr
          have HFR := Lib.hid hfr
          clear hpp hfr hxe HKS
          generalize hFX : Wi.frameOf xk K = FX at *
          have HFX := Lib.hid hFX
          clear hFX
          refine HFR.out.mono ?_
          rintro e y1 ⟨ya, yc, rfl, hy1⟩
          have HY := Lib.hid hy1.bytes; have HRY := Lib.hid (HROW.out.kept ((HOX.out.trans (Only.alloc _)).trans hy1.only))
          clear hy1 HFR
          go_wp2_with (at_builtin; refine wpList_append_bytes _ rfl _ _ rfl (.slice aa AX.length ac) (.slice ya FX.length yc) AX.length (AX.map byteV) rfl rfl HRY.out.row HY.out HLIM.out ?_; intro a5 c5 w5 hr5 hg5 hat5; have HR5 := Lib.hid (HRY.out.app (Only.refl _ _) rfl hr5 hg5 hat5); clear hr5 hg5 hat5)
          exact ⟨⟨i + 1, by omega, by go_num, by rw [HAS.out]; exact HR5.out⟩, by simp [intOf]; omega⟩
        · have hall : (frs.map frOf).take i = frs.map frOf := List.take_of_length_le (by simp; omega)
          rw [hall, ← HD.out.all] at hrow
          rw [hall, ← HD.out.all]
          have HROW := Lib.hid hrow
          have hAb : (A.length : Int) ≤ (bs.length : Int) := by have := HD.out.le; omega
          have hcon1 : ∀ W : World, Only (fun _ => False) wr W → (convert 22 9 (.slice aa A.length ac)).run Try.prog W = .ok (.string ⟨A.toArray⟩) W := fun W ho => (HROW.out.kept ho).bytes.text
          have hcon2 : ∀ W : World, Only (fun _ => False) wr W → (convert 22 9 (.slice ba A.length bc)).run Try.prog W = .ok (.string ⟨A.toArray⟩) W := fun W ho => HCB.out A W HD.out.form ((HO12.out.trans HROW.out.only).trans ho)
          have hsl := HSB.out A.length HD.out.le
          have HOF := Lib.hid ((HO12.out.trans HROW.out.only).trans (Only.drew (w := wr)))
          have HDW : Hid (Only (fun _ => False) wr wr.drew) := Only.drew
          clear hall hrow
          go_wp2_with fail
          go_region_held3 (fun W => Only (fun _ => False) wr W) (first | exact HDW.out) (first | fail)
          clear hcon1 hcon2 hsl
          go_wp2_with fail
          go_ret
          exact ⟨rfl, HOF.out⟩
  · cases hrb : Wi.readVar bs with
    | none =>
      have HRB : Hid (∀ w1, Only (fun _ => False) w w1 → Calls Try.prog 12 #[.slice ba bs.length bc] w1 fun e w' => e = .returned (.tuple #[.int .i64 0, .int .i64 0, .iface 75 (.int .i64 9)]) ∧ w' = w1) := fun w1 ho => by
        refine (readVar_any (HBAT.out w1 ho) (by have := HBS.le; omega)).mono ?_
        rintro e w' ⟨rfl, ⟨n', k', e1, rfl⟩ | ⟨e1, rfl⟩⟩
        · rw [hrb] at e1; cases e1
        · exact ⟨rfl, rfl⟩
      clear hrb
      obtain ⟨m, rfl⟩ := Int.eq_ofNat_of_zero_le (show 0 ≤ n by omega)
      have hm63 : m < 9223372036854775808 := by have := HNLE.out.2; omega
      have HVN : Hid (∀ w1 : World, Calls Try.prog 18 #[.int .i64 (m : Int)] w1 fun e w' => ∃ a c, e = .returned (.slice a (Wi.var m).length c) ∧ Row w1 w' (.slice a (Wi.var m).length c) (Wi.var m)) := fun w1 => wVar_any hm63
      have HRN : Hid (∀ (w1 : World) (v : Value), BytesAt w1 (fun k => k < w1.heap.size) v (Wi.var m) → Calls Try.prog 12 #[v] w1 fun e w' => e = .returned (.tuple #[.int .i64 (m : Int), .int .i64 ((Wi.var m).length : Int), .nilIface]) ∧ w' = w1) := by
        intro w1 v hb
        have hrd := Wi.readVar_var hm63 []
        rw [List.append_nil] at hrd
        refine (readVar_any hb (by have := Wi.var_length 8 m (by simpa using hm63); omega)).mono ?_
        rintro e w' ⟨rfl, ⟨n', k', e1, rfl⟩ | ⟨e1, _⟩⟩
        · rw [hrd] at e1
          obtain ⟨rfl, rfl⟩ := Prod.mk.inj (Option.some.inj e1)
          exact ⟨rfl, rfl⟩
        · rw [hrd] at e1; cases e1
      have gn : (m : Int) ≥ 0 := by omega
      have gm : ¬ (m : Int) < 0 := by omega
      clear h0 hm63 HNLE
      generalize Wi.var m = VN at *
      clear HB HS2 HV HS HBAT
      go_enter Try.func6, Try.ntmps6
      go_wp2_with (first
        | (go_at_call 10; refine alive_any.mono ?_; rintro e w1 ⟨rfl, ho1⟩; have HO1 := Lib.hid ho1; clear ho1)
        | (go_at_call 22; refine (HSUM.out _ HO1.out).mono ?_; rintro e w2 ⟨rfl, rfl⟩))
      clear HSUM
      go_wp2_with fail
      refine (HVN.out _).mono ?_
      rintro e w2 ⟨na, nc, rfl, hr2⟩
      have HB2 := Lib.hid hr2.bytes; have HO2 := Lib.hid (HO1.out.trans hr2.only)
      clear hr2
      go_wp2_with fail
      refine (HRN.out _ _ HB2.out).mono ?_
      rintro e w3 ⟨rfl, rfl⟩
      go_wp2_with fail
      refine (HNN.out _).mono ?_
      rintro e w4 ⟨ma, mc, rfl, hr4⟩
      have HB4 := Lib.hid hr4.bytes; have HO4 := Lib.hid (HO2.out.trans hr4.only)
      clear hr4
      go_wp2_with fail
      refine (HRNN.out _ _ HB4.out).mono ?_
      rintro e w5 ⟨rfl, rfl⟩
      go_wp2_with fail
      refine (HVN.out _).mono ?_
      rintro e w6 ⟨oa, oc, rfl, hr6⟩
      have HO6 := Lib.hid (HO4.out.trans hr6.only)
      clear hr6 HB2 HB4 HO2 HO4
      go_wp2_with fail
      refine (HPK.out _ HO6.out).mono ?_
      rintro e w7 ⟨pa, pc, rfl, hr7⟩
      have HB7 := Lib.hid hr7.bytes; have HO7 := Lib.hid (HO6.out.trans hr7.only)
      clear hr7
      go_wp2_with fail
      refine (HUP.out _ _ HB7.out).mono ?_
      rintro e w8 ⟨ga, gc, rfl, hp8, ho8⟩
      have HP8 := Lib.hid hp8; have HO8 := Lib.hid (HO7.out.trans ho8)
      clear hp8 ho8 HB7 HO7 HO6
      go_wp2_with fail
      refine (HSM.out _ _ HO8.out HP8.out).mono ?_
      rintro e w9 ⟨rfl, ho9⟩
      have HO9 := Lib.hid (HO8.out.trans ho9)
      clear ho9 HP8 HO8
      go_wp2_with fail
      refine (HRB.out _ HO9.out).mono ?_
      rintro e w10 ⟨rfl, rfl⟩
      clear HVN HRN HNN HRNN HPK HUP HSM HRB
      go_wp2_with fail
      go_quiet ((fail))
      go_wp2_with fail
      have HO11 : Hid (Only (fun _ => False) w (w10.drewN nq)) := HO9.out.trans (Only.drewN nq)
      generalize w10.drewN nq = w11 at *
      go_wp2_with fail
      refine (HFRS.out _ HO11.out).mono ?_
      rintro e w12 ⟨la, lc, g, frs, A, rfl, hd⟩
      have HD := Lib.hid hd; have HO12 := Lib.hid (HO11.out.trans hd.lst.only)
      have hAl := hd.short
      have hfc := hd.cnt
      clear hd HFRS HO11
      go_wp2_with fail
      have HE0 := Lib.hid (Row.empty w12)
      go_loopw [15, 137] (fun av iv wr => ∃ i : Nat, i ≤ frs.length ∧ iv = .int .i64 i ∧ Row w12 wr av (Wi.again ((frs.map frOf).take i))) (fun _ iv _ => frs.length - (intOf iv).toNat)
      case atStart => exact ⟨0, Nat.zero_le _, rfl, by simpa [Wi.again] using HE0.out⟩
      case round =>
        obtain ⟨i, hi, rfl, hrow⟩ := hrel
        obtain ⟨aa, ac, rfl⟩ := hrow.shape
        by_cases hlt : i < frs.length
        · obtain ⟨q, xk, K, bv, xn, rfl, hxk, hkl, hx256, k0, k1, k2, hpa, hAs, hAl2⟩ := HD.out.get hrow.only hlt
          obtain ⟨bva, bvc, hbv⟩ := hpa.shape
          subst hbv
          have HROW := Lib.hid hrow
          have hX := Blk.new wr [.int .i64 (xn : Int), .slice bva K.length bvc, .int .i64 ((Wi.again ((frs.map frOf).take i)).length : Int)] 57
          have HX := Lib.hid hX
          have HOX : Hid (Only (fun _ => False) wr (wr.alloc (.cells #[.int .i64 (xn : Int), .slice bva K.length bvc, .int .i64 ((Wi.again ((frs.map frOf).take i)).length : Int)] 57))) := Only.alloc _
          have HSZ : Hid ((wr.alloc (.cells #[.int .i64 (xn : Int), .slice bva K.length bvc, .int .i64 ((Wi.again ((frs.map frOf).take i)).length : Int)] 57)).heap.size = wr.heap.size + 1) := World.size_alloc _ _
          have HPX := Lib.hid (hpa.here HOX.out (fun _ h => h))
          have HAS := Lib.hid hAs
          have HLIM : Hid ((Wi.again ((frs.map frOf).take i)).length + (Wi.frameOf xk K).length ≤ 140737488355328) := by unfold Hid; omega
          have HKS : Short K.length := ⟨hkl⟩
          have HXK := Lib.hid hxk
          have pz : 0 ≤ (i : Int) := by omega
          have mz : (i : Int) < (frs.length : Int) := by omega
          clear hrow hpa hAs hAl2 hxk hkl hX
          generalize hAX : Wi.again ((frs.map frOf).take i) = AX at *
          have g1 : ¬ (xn : Int) < 0 := by omega
          have g2 : ¬ (xn : Int) > 255 := by omega
          have x0 : (wr.alloc (.cells #[.int .i64 (xn : Int), .slice bva K.length bvc, .int .i64 (AX.length : Int)] 57)).cell? ⟨wr.heap.size, 0, none⟩ = some (.int .i64 (xn : Int)) := HX.out.cell 0
          have x1 : (wr.alloc (.cells #[.int .i64 (xn : Int), .slice bva K.length bvc, .int .i64 (AX.length : Int)] 57)).cell? ⟨wr.heap.size, 1, none⟩ = some (.slice bva K.length bvc) := HX.out.cell 1
          have x2 : (wr.alloc (.cells #[.int .i64 (xn : Int), .slice bva K.length bvc, .int .i64 (AX.length : Int)] 57)).cell? ⟨wr.heap.size, 2, none⟩ = some (.int .i64 (AX.length : Int)) := HX.out.cell 2
          clear hAX
          go_wp2_with fail
          generalize wr.alloc (.cells #[.int .i64 (xn : Int), .slice bva K.length bvc, .int .i64 (AX.length : Int)] 57) = wx at *
          generalize wr.heap.size = gx at *
          clear x0 x1 x2 k0 k1 k2 HX
          have hpp := part_at (Blk.new wx [.slice bva K.length bvc] 22) (HPX.out.only (Only.alloc (.cells #[.slice bva K.length bvc] 22)) (fun _ h => h) (fun _ _ x => x)) (fun k hk => Nat.lt_of_lt_of_le hk (by simp))
          have hfr := frame_any (x := xk) hpp (fun _ h => h) ⟨by simp, by unfold tot; have := HKS.le; simp; omega⟩
          simp only [List.flatten_cons, List.flatten_nil, List.append_nil] at hfr
          have hxe : byteV xk = .int .u8 (xn : Int) := by unfold byteV; rw [HXK.out]
          rw [hxe, HSZ.out] at hfr
          have HFR := Lib.hid hfr
          clear hpp hfr hxe HKS
          generalize hFX : Wi.frameOf xk K = FX at *
          have HFX := Lib.hid hFX
          clear hFX
          refine HFR.out.mono ?_
          rintro e y1 ⟨ya, yc, rfl, hy1⟩
          have HY := Lib.hid hy1.bytes; have HRY := Lib.hid (HROW.out.kept ((HOX.out.trans (Only.alloc _)).trans hy1.only))
          clear hy1 HFR
          go_wp2_with (at_builtin; refine wpList_append_bytes _ rfl _ _ rfl (.slice aa AX.length ac) (.slice ya FX.length yc) AX.length (AX.map byteV) rfl rfl HRY.out.row HY.out HLIM.out ?_; intro a5 c5 w5 hr5 hg5 hat5; have HR5 := Lib.hid (HRY.out.app (Only.refl _ _) rfl hr5 hg5 hat5); clear hr5 hg5 hat5)
          exact ⟨⟨i + 1, by omega, by go_num, by rw [HAS.out]; exact HR5.out⟩, by simp [intOf]; omega⟩
        · have hall : (frs.map frOf).take i = frs.map frOf := List.take_of_length_le (by simp; omega)
          rw [hall, ← HD.out.all] at hrow
          rw [hall, ← HD.out.all]
          have HROW := Lib.hid hrow
          have hAb : (A.length : Int) ≤ (bs.length : Int) := by have := HD.out.le; omega
          have hcon1 : ∀ W : World, Only (fun _ => False) wr W → (convert 22 9 (.slice aa A.length ac)).run Try.prog W = .ok (.string ⟨A.toArray⟩) W := fun W ho => (HROW.out.kept ho).bytes.text
          have hcon2 : ∀ W : World, Only (fun _ => False) wr W → (convert 22 9 (.slice ba A.length bc)).run Try.prog W = .ok (.string ⟨A.toArray⟩) W := fun W ho => HCB.out A W HD.out.form ((HO12.out.trans HROW.out.only).trans ho)
          have hsl := HSB.out A.length HD.out.le
          have HOF := Lib.hid ((HO12.out.trans HROW.out.only).trans (Only.drew (w := wr)))
          have HDW : Hid (Only (fun _ => False) wr wr.drew) := Only.drew
          clear hall hrow
          go_wp2_with fail
          go_region_held3 (fun W => Only (fun _ => False) wr W) (first | exact HDW.out) (first | fail)
          clear hcon1 hcon2 hsl
          go_wp2_with fail
          go_ret
          exact ⟨rfl, HOF.out⟩
    | some q =>
      obtain ⟨rn, rk⟩ := q
      have rr := Wi.readVar_some hrb
      have HRB : Hid (∀ w1, Only (fun _ => False) w w1 → Calls Try.prog 12 #[.slice ba bs.length bc] w1 fun e w' => e = .returned (.tuple #[.int .i64 (rn : Int), .int .i64 (rk : Int), .nilIface]) ∧ w' = w1) := fun w1 ho => by
        refine (readVar_any (HBAT.out w1 ho) (by have := HBS.le; omega)).mono ?_
        rintro e w' ⟨rfl, ⟨n', k', e1, rfl⟩ | ⟨e1, _⟩⟩
        · rw [hrb] at e1
          obtain ⟨rfl, rfl⟩ := Prod.mk.inj (Option.some.inj e1)
          exact ⟨rfl, rfl⟩
        · rw [hrb] at e1; cases e1
      have r0 : ¬ (rn : Int) < 0 := by omega
      have r1 : ¬ (rk : Int) < 1 := by have := rr.pos; omega
      have r2 : ¬ (rk : Int) > (bs.length : Int) := by have := rr.le; omega
      have r3 : rk ≤ bs.length := rr.le
      have hslb := HSB.out rk rr.le
      have HVR : Hid (∀ w1 : World, Calls Try.prog 18 #[.int .i64 (rn : Int)] w1 fun e w' => ∃ a c, e = .returned (.slice a (Wi.var rn).length c) ∧ Row w1 w' (.slice a (Wi.var rn).length c) (Wi.var rn)) := fun w1 => wVar_any rr.fits
      have HCON : Hid (∀ W : World, Only (fun _ => False) w W → (convert 22 9 (.slice ba rk bc)).run Try.prog W = .ok (.string ⟨(Wi.var rn).toArray⟩) W) := fun W ho => by
        have := HCB.out (Wi.var rn) W (by rw [rr.len, rr.form]) ho
        rwa [rr.len] at this
      clear hrb rr
      obtain ⟨m, rfl⟩ := Int.eq_ofNat_of_zero_le (show 0 ≤ n by omega)
      have hm63 : m < 9223372036854775808 := by have := HNLE.out.2; omega
      have HVN : Hid (∀ w1 : World, Calls Try.prog 18 #[.int .i64 (m : Int)] w1 fun e w' => ∃ a c, e = .returned (.slice a (Wi.var m).length c) ∧ Row w1 w' (.slice a (Wi.var m).length c) (Wi.var m)) := fun w1 => wVar_any hm63
      have HRN : Hid (∀ (w1 : World) (v : Value), BytesAt w1 (fun k => k < w1.heap.size) v (Wi.var m) → Calls Try.prog 12 #[v] w1 fun e w' => e = .returned (.tuple #[.int .i64 (m : Int), .int .i64 ((Wi.var m).length : Int), .nilIface]) ∧ w' = w1) := by
        intro w1 v hb
        have hrd := Wi.readVar_var hm63 []
        rw [List.append_nil] at hrd
        refine (readVar_any hb (by have := Wi.var_length 8 m (by simpa using hm63); omega)).mono ?_
        rintro e w' ⟨rfl, ⟨n', k', e1, rfl⟩ | ⟨e1, _⟩⟩
        · rw [hrd] at e1
          obtain ⟨rfl, rfl⟩ := Prod.mk.inj (Option.some.inj e1)
          exact ⟨rfl, rfl⟩
        · rw [hrd] at e1; cases e1
      have gn : (m : Int) ≥ 0 := by omega
      have gm : ¬ (m : Int) < 0 := by omega
      clear h0 hm63 HNLE
      generalize Wi.var m = VN at *
      clear HB HS2 HV HS HBAT
      go_enter Try.func6, Try.ntmps6
      go_wp2_with (first
        | (go_at_call 10; refine alive_any.mono ?_; rintro e w1 ⟨rfl, ho1⟩; have HO1 := Lib.hid ho1; clear ho1)
        | (go_at_call 22; refine (HSUM.out _ HO1.out).mono ?_; rintro e w2 ⟨rfl, rfl⟩))
      clear HSUM
      go_wp2_with fail
      refine (HVN.out _).mono ?_
      rintro e w2 ⟨na, nc, rfl, hr2⟩
      have HB2 := Lib.hid hr2.bytes; have HO2 := Lib.hid (HO1.out.trans hr2.only)
      clear hr2
      go_wp2_with fail
      refine (HRN.out _ _ HB2.out).mono ?_
      rintro e w3 ⟨rfl, rfl⟩
      go_wp2_with fail
      refine (HNN.out _).mono ?_
      rintro e w4 ⟨ma, mc, rfl, hr4⟩
      have HB4 := Lib.hid hr4.bytes; have HO4 := Lib.hid (HO2.out.trans hr4.only)
      clear hr4
      go_wp2_with fail
      refine (HRNN.out _ _ HB4.out).mono ?_
      rintro e w5 ⟨rfl, rfl⟩
      go_wp2_with fail
      refine (HVN.out _).mono ?_
      rintro e w6 ⟨oa, oc, rfl, hr6⟩
      have HO6 := Lib.hid (HO4.out.trans hr6.only)
      clear hr6 HB2 HB4 HO2 HO4
      go_wp2_with fail
      refine (HPK.out _ HO6.out).mono ?_
      rintro e w7 ⟨pa, pc, rfl, hr7⟩
      have HB7 := Lib.hid hr7.bytes; have HO7 := Lib.hid (HO6.out.trans hr7.only)
      clear hr7
      go_wp2_with fail
      refine (HUP.out _ _ HB7.out).mono ?_
      rintro e w8 ⟨ga, gc, rfl, hp8, ho8⟩
      have HP8 := Lib.hid hp8; have HO8 := Lib.hid (HO7.out.trans ho8)
      clear hp8 ho8 HB7 HO7 HO6
      go_wp2_with fail
      refine (HSM.out _ _ HO8.out HP8.out).mono ?_
      rintro e w9 ⟨rfl, ho9⟩
      have HO9 := Lib.hid (HO8.out.trans ho9)
      clear ho9 HP8 HO8
      go_wp2_with fail
      refine (HRB.out _ HO9.out).mono ?_
      rintro e w10 ⟨rfl, rfl⟩
      clear HVN HRN HNN HRNN HPK HUP HSM HRB
      go_wp2_with fail
      have hcon : ∀ W : World, Only (fun _ => False) w10 W → (convert 22 9 (.slice ba rk bc)).run Try.prog W = .ok (.string ⟨(Wi.var rn).toArray⟩) W := fun W ho => HCON.out W (HO9.out.trans ho)
      generalize Wi.var rn = VR at *
      refine wp_region_held_drew (S := fun W => Only (fun _ => False) w10 W) (by kernel_rfl) Only.drew (fun hHeld => ?_)
      refine wpAnyH_take (i := 0) (v := .nilIface) rfl (by kernel_rfl) (by kernel_rfl) (by kernel_rfl) (fun _ _ _ h => h) (Or.inl ⟨by rfl, fun W hSw => by go_simp⟩) hHeld ?_
      simp only [Act.put, List.getElem_toArray, List.getElem_cons_zero, List.setIfInBounds_toArray, List.set_cons_zero, List.set_cons_succ]
      refine wpAnyH_take (i := 1) (v := .bool true) rfl (by kernel_rfl) (by kernel_rfl) (by kernel_rfl) (fun _ _ _ h => h) (Or.inl ⟨by rfl, fun W hSw => by go_simp⟩) hHeld ?_
      simp only [Act.put, List.getElem_toArray, List.getElem_cons_succ, List.getElem_cons_zero, List.setIfInBounds_toArray, List.set_cons_zero, List.set_cons_succ]
      refine wpAnyH_take (i := 2) (v := .bool true) rfl (by kernel_rfl) (by kernel_rfl) (by kernel_rfl) (fun _ _ _ h => h) (Or.inl ⟨by rfl, fun W hSw => by go_simp⟩) hHeld ?_
      simp only [Act.put, List.getElem_toArray, List.getElem_cons_succ, List.getElem_cons_zero, List.setIfInBounds_toArray, List.set_cons_zero, List.set_cons_succ]
      refine wpAnyH_take (i := 3) (v := .int .i64 (rn : Int)) rfl (by kernel_rfl) (by kernel_rfl) (by kernel_rfl) (fun _ _ _ h => h) (Or.inl ⟨by rfl, fun W hSw => by go_simp⟩) hHeld ?_
      simp only [Act.put, List.getElem_toArray, List.getElem_cons_succ, List.getElem_cons_zero, List.setIfInBounds_toArray, List.set_cons_zero, List.set_cons_succ]
      refine wpAnyH_take (i := 4) (v := .bool false) rfl (by kernel_rfl) (by kernel_rfl) (by kernel_rfl) (fun _ _ _ h => h) (Or.inl ⟨by rfl, fun W hSw => by go_simp⟩) hHeld ?_
      simp only [Act.put, List.getElem_toArray, List.getElem_cons_succ, List.getElem_cons_zero, List.setIfInBounds_toArray, List.set_cons_zero, List.set_cons_succ]
      refine wpAnyH_take (i := 5) (v := .bool false) rfl (by kernel_rfl) (by kernel_rfl) (by kernel_rfl) (fun _ _ _ h => h) (Or.inl ⟨by rfl, fun W hSw => by go_simp⟩) hHeld ?_
      simp only [Act.put, List.getElem_toArray, List.getElem_cons_succ, List.getElem_cons_zero, List.setIfInBounds_toArray, List.set_cons_zero, List.set_cons_succ]
      refine wpAnyH_take (i := 6) (v := .int .i64 (rk : Int)) rfl (by kernel_rfl) (by kernel_rfl) (by kernel_rfl) (fun _ _ _ h => h) (Or.inl ⟨by rfl, fun W hSw => by go_simp⟩) hHeld ?_
      simp only [Act.put, List.getElem_toArray, List.getElem_cons_succ, List.getElem_cons_zero, List.setIfInBounds_toArray, List.set_cons_zero, List.set_cons_succ]
      refine wpAnyH_take (i := 7) (v := .bool false) rfl (by kernel_rfl) (by kernel_rfl) (by kernel_rfl) (fun _ _ _ h => h) (Or.inl ⟨by rfl, fun W hSw => by go_simp⟩) hHeld ?_
      simp only [Act.put, List.getElem_toArray, List.getElem_cons_succ, List.getElem_cons_zero, List.setIfInBounds_toArray, List.set_cons_zero, List.set_cons_succ]
      refine wpAnyH_take (i := 8) (v := .bool false) rfl (by kernel_rfl) (by kernel_rfl) (by kernel_rfl) (fun _ _ _ h => h) (Or.inl ⟨by rfl, fun W hSw => by go_simp⟩) hHeld ?_
      simp only [Act.put, List.getElem_toArray, List.getElem_cons_succ, List.getElem_cons_zero, List.setIfInBounds_toArray, List.set_cons_zero, List.set_cons_succ]
      refine wpAnyH_take (i := 9) (v := .bool false) rfl (by kernel_rfl) (by kernel_rfl) (by kernel_rfl) (fun _ _ _ h => h) (Or.inl ⟨by rfl, fun W hSw => by go_simp⟩) hHeld ?_
      simp only [Act.put, List.getElem_toArray, List.getElem_cons_succ, List.getElem_cons_zero, List.setIfInBounds_toArray, List.set_cons_zero, List.set_cons_succ]
      refine wpAnyH_take (i := 10) (v := .int .i64 (rk : Int)) rfl (by kernel_rfl) (by kernel_rfl) (by kernel_rfl) (fun _ _ _ h => h) (Or.inl ⟨by rfl, fun W hSw => by go_simp⟩) hHeld ?_
      simp only [Act.put, List.getElem_toArray, List.getElem_cons_succ, List.getElem_cons_zero, List.setIfInBounds_toArray, List.set_cons_zero, List.set_cons_succ]
      refine wpAnyH_take (i := 11) (v := .slice ba bs.length bc) rfl (by kernel_rfl) (by kernel_rfl) (by kernel_rfl) (fun _ _ _ h => h) (Or.inl ⟨by rfl, fun W hSw => by go_simp⟩) hHeld ?_
      simp only [Act.put, List.getElem_toArray, List.getElem_cons_succ, List.getElem_cons_zero, List.setIfInBounds_toArray, List.set_cons_zero, List.set_cons_succ]
      refine wpAnyH_take (i := 12) (v := .int .i64 (bs.length : Int)) rfl (by kernel_rfl) (by kernel_rfl) (by kernel_rfl) (fun _ _ _ h => h) (Or.inl ⟨by rfl, fun W hSw => by go_simp⟩) hHeld ?_
      simp only [Act.put, List.getElem_toArray, List.getElem_cons_succ, List.getElem_cons_zero, List.setIfInBounds_toArray, List.set_cons_zero, List.set_cons_succ]
      refine wpAnyH_take (i := 13) (v := .bool false) rfl (by kernel_rfl) (by kernel_rfl) (by kernel_rfl) (fun _ _ _ h => h) (Or.inl ⟨by rfl, fun W hSw => by go_simp⟩) hHeld ?_
      simp only [Act.put, List.getElem_toArray, List.getElem_cons_succ, List.getElem_cons_zero, List.setIfInBounds_toArray, List.set_cons_zero, List.set_cons_succ]
      refine wpAnyH_take (i := 14) (v := .bool false) rfl (by kernel_rfl) (by kernel_rfl) (by kernel_rfl) (fun _ _ _ h => h) (Or.inl ⟨by rfl, fun W hSw => by go_simp⟩) hHeld ?_
      simp only [Act.put, List.getElem_toArray, List.getElem_cons_succ, List.getElem_cons_zero, List.setIfInBounds_toArray, List.set_cons_zero, List.set_cons_succ]
      refine wpAnyH_take (i := 15) (v := .bool false) rfl (by kernel_rfl) (by kernel_rfl) (by kernel_rfl) (fun _ _ _ h => h) (Or.inl ⟨by rfl, fun W hSw => by go_simp⟩) hHeld ?_
      simp only [Act.put, List.getElem_toArray, List.getElem_cons_succ, List.getElem_cons_zero, List.setIfInBounds_toArray, List.set_cons_zero, List.set_cons_succ]
      refine wpAnyH_take (i := 16) (v := .int .i64 (rn : Int)) rfl (by kernel_rfl) (by kernel_rfl) (by kernel_rfl) (fun _ _ _ h => h) (Or.inl ⟨by rfl, fun W hSw => by go_simp⟩) hHeld ?_
      simp only [Act.put, List.getElem_toArray, List.getElem_cons_succ, List.getElem_cons_zero, List.setIfInBounds_toArray, List.set_cons_zero, List.set_cons_succ]
      refine wpAnyH_take (i := 19) (v := .slice ba bs.length bc) rfl (by kernel_rfl) (by kernel_rfl) (by kernel_rfl) (fun _ _ _ h => h) (Or.inl ⟨by rfl, fun W hSw => by go_simp⟩) hHeld ?_
      simp only [Act.put, List.getElem_toArray, List.getElem_cons_succ, List.getElem_cons_zero, List.setIfInBounds_toArray, List.set_cons_zero, List.set_cons_succ]
      refine wpAnyH_take (i := 20) (v := .int .i64 (rk : Int)) rfl (by kernel_rfl) (by kernel_rfl) (by kernel_rfl) (fun _ _ _ h => h) (Or.inl ⟨by rfl, fun W hSw => by go_simp⟩) hHeld ?_
      simp only [Act.put, List.getElem_toArray, List.getElem_cons_succ, List.getElem_cons_zero, List.setIfInBounds_toArray, List.set_cons_zero, List.set_cons_succ]
      refine wpAnyH_take (i := 21) (v := .slice ba rk bc) rfl (by kernel_rfl) (by kernel_rfl) (by kernel_rfl) (fun _ _ _ h => h) (Or.inl ⟨by rfl, fun W hSw => by go_simp⟩) hHeld ?_
      simp only [Act.put, List.getElem_toArray, List.getElem_cons_succ, List.getElem_cons_zero, List.setIfInBounds_toArray, List.set_cons_zero, List.set_cons_succ]
      refine wpAnyH_take (i := 22) (v := .string ⟨VR.toArray⟩) rfl (by kernel_rfl) (by kernel_rfl) (by kernel_rfl) (fun _ _ _ h => h) (Or.inl ⟨by rfl, fun W hSw => by go_simp⟩) hHeld ?_
      simp only [Act.put, List.getElem_toArray, List.getElem_cons_succ, List.getElem_cons_zero, List.setIfInBounds_toArray, List.set_cons_zero, List.set_cons_succ]
      refine wpAnyH_ready (rs := [17]) (by kernel_rfl) (by simp) (AllReadyH.cons rfl (fun K hK => ?_) AllReadyH.nil)
      go_simp
      refine (HVR.out _).mono ?_
      rintro e x1 ⟨xa, xc, rfl, hx1⟩
      have hox : Only (fun _ => False) w10 x1 := Only.drew.trans hx1.only
      have htx := hx1.bytes.text
      refine hK.out _ _ hox (fun hHeld => ?_)
      clear hK K
      try simp only [Act.put, List.getElem_toArray, List.getElem_cons_succ, List.getElem_cons_zero, List.setIfInBounds_toArray, List.set_cons_zero, List.set_cons_succ]
      refine wpAnyH_ready (rs := [18]) (by kernel_rfl) (by simp) (AllReadyH.cons rfl (fun K hK => ?_) AllReadyH.nil)
      go_simp
      refine hK.out _ _ hHeld (fun hHeld => ?_)
      clear hK K
      try simp only [Act.put, List.getElem_toArray, List.getElem_cons_succ, List.getElem_cons_zero, List.setIfInBounds_toArray, List.set_cons_zero, List.set_cons_succ]
      refine wpAnyH_take (i := 23) (v := .bool false) rfl (by kernel_rfl) (by kernel_rfl) (by kernel_rfl) (fun _ _ _ h => h) (Or.inl ⟨by rfl, fun W hSw => by go_simp⟩) hHeld ?_
      simp only [Act.put, List.getElem_toArray, List.getElem_cons_succ, List.getElem_cons_zero, List.setIfInBounds_toArray, List.set_cons_zero, List.set_cons_succ]
      refine wpAnyH_take (i := 24) (v := .bool false) rfl (by kernel_rfl) (by kernel_rfl) (by kernel_rfl) (fun _ _ _ h => h) (Or.inl ⟨by rfl, fun W hSw => by go_simp⟩) hHeld ?_
      simp only [Act.put, List.getElem_toArray, List.getElem_cons_succ, List.getElem_cons_zero, List.setIfInBounds_toArray, List.set_cons_zero, List.set_cons_succ]
      refine wpAnyH_take (i := 25) (v := .bool false) rfl (by kernel_rfl) (by kernel_rfl) (by kernel_rfl) (fun _ _ _ h => h) (Or.inl ⟨by rfl, fun W hSw => by go_simp⟩) hHeld ?_
      simp only [Act.put, List.getElem_toArray, List.getElem_cons_succ, List.getElem_cons_zero, List.setIfInBounds_toArray, List.set_cons_zero, List.set_cons_succ]
      refine wpAnyH_done (by kernel_rfl) ?_ _
      have HO11 := Lib.hid (HO9.out.trans hox)
      clear hcon htx hox hx1 hHeld HO9 hslb
      generalize x1 = w11 at *
      go_wp2_with fail
      refine (HFRS.out _ HO11.out).mono ?_
      rintro e w12 ⟨la, lc, g, frs, A, rfl, hd⟩
      have HD := Lib.hid hd; have HO12 := Lib.hid (HO11.out.trans hd.lst.only)
      have hAl := hd.short
      have hfc := hd.cnt
      clear hd HFRS HO11
      go_wp2_with fail
      have HE0 := Lib.hid (Row.empty w12)
      go_loopw [15, 137] (fun av iv wr => ∃ i : Nat, i ≤ frs.length ∧ iv = .int .i64 i ∧ Row w12 wr av (Wi.again ((frs.map frOf).take i))) (fun _ iv _ => frs.length - (intOf iv).toNat)
      case atStart => exact ⟨0, Nat.zero_le _, rfl, by simpa [Wi.again] using HE0.out⟩
      case round =>
        obtain ⟨i, hi, rfl, hrow⟩ := hrel
        obtain ⟨aa, ac, rfl⟩ := hrow.shape
        by_cases hlt : i < frs.length
        · obtain ⟨q, xk, K, bv, xn, rfl, hxk, hkl, hx256, k0, k1, k2, hpa, hAs, hAl2⟩ := HD.out.get hrow.only hlt
          obtain ⟨bva, bvc, hbv⟩ := hpa.shape
          subst hbv
          have HROW := Lib.hid hrow
          have hX := Blk.new wr [.int .i64 (xn : Int), .slice bva K.length bvc, .int .i64 ((Wi.again ((frs.map frOf).take i)).length : Int)] 57
          have HX := Lib.hid hX
          have HOX : Hid (Only (fun _ => False) wr (wr.alloc (.cells #[.int .i64 (xn : Int), .slice bva K.length bvc, .int .i64 ((Wi.again ((frs.map frOf).take i)).length : Int)] 57))) := Only.alloc _
          have HSZ : Hid ((wr.alloc (.cells #[.int .i64 (xn : Int), .slice bva K.length bvc, .int .i64 ((Wi.again ((frs.map frOf).take i)).length : Int)] 57)).heap.size = wr.heap.size + 1) := World.size_alloc _ _
          have HPX := Lib.hid (hpa.here HOX.out (fun _ h => h))
          have HAS := Lib.hid hAs
          have HLIM : Hid ((Wi.again ((frs.map frOf).take i)).length + (Wi.frameOf xk K).length ≤ 140737488355328) := by unfold Hid; omega
          have HKS : Short K.length := ⟨hkl⟩
          have HXK := Lib.hid hxk
          have pz : 0 ≤ (i : Int) := by omega
          have mz : (i : Int) < (frs.length : Int) := by omega
          clear hrow hpa hAs hAl2 hxk hkl hX
          generalize hAX : Wi.again ((frs.map frOf).take i) = AX at *
          have g1 : ¬ (xn : Int) < 0 := by omega
          have g2 : ¬ (xn : Int) > 255 := by omega
          have x0 : (wr.alloc (.cells #[.int .i64 (xn : Int), .slice bva K.length bvc, .int .i64 (AX.length : Int)] 57)).cell? ⟨wr.heap.size, 0, none⟩ = some (.int .i64 (xn : Int)) := HX.out.cell 0
          have x1 : (wr.alloc (.cells #[.int .i64 (xn : Int), .slice bva K.length bvc, .int .i64 (AX.length : Int)] 57)).cell? ⟨wr.heap.size, 1, none⟩ = some (.slice bva K.length bvc) := HX.out.cell 1
          have x2 : (wr.alloc (.cells #[.int .i64 (xn : Int), .slice bva K.length bvc, .int .i64 (AX.length : Int)] 57)).cell? ⟨wr.heap.size, 2, none⟩ = some (.int .i64 (AX.length : Int)) := HX.out.cell 2
          clear hAX
          go_wp2_with fail
          generalize wr.alloc (.cells #[.int .i64 (xn : Int), .slice bva K.length bvc, .int .i64 (AX.length : Int)] 57) = wx at *
          generalize wr.heap.size = gx at *
          clear x0 x1 x2 k0 k1 k2 HX
          have hpp := part_at (Blk.new wx [.slice bva K.length bvc] 22) (HPX.out.only (Only.alloc (.cells #[.slice bva K.length bvc] 22)) (fun _ h => h) (fun _ _ x => x)) (fun k hk => Nat.lt_of_lt_of_le hk (by simp))
          have hfr := frame_any (x := xk) hpp (fun _ h => h) ⟨by simp, by unfold tot; have := HKS.le; simp; omega⟩
          simp only [List.flatten_cons, List.flatten_nil, List.append_nil] at hfr
          have hxe : byteV xk = .int .u8 (xn : Int) := by unfold byteV; rw [HXK.out]
          rw [hxe, HSZ.out] at hfr
          have HFR := Lib.hid hfr
          clear hpp hfr hxe HKS
          generalize hFX : Wi.frameOf xk K = FX at *
          have HFX := Lib.hid hFX
          clear hFX
          refine HFR.out.mono ?_
          rintro e y1 ⟨ya, yc, rfl, hy1⟩
          have HY := Lib.hid hy1.bytes; have HRY := Lib.hid (HROW.out.kept ((HOX.out.trans (Only.alloc _)).trans hy1.only))
          clear hy1 HFR
          go_wp2_with (at_builtin; refine wpList_append_bytes _ rfl _ _ rfl (.slice aa AX.length ac) (.slice ya FX.length yc) AX.length (AX.map byteV) rfl rfl HRY.out.row HY.out HLIM.out ?_; intro a5 c5 w5 hr5 hg5 hat5; have HR5 := Lib.hid (HRY.out.app (Only.refl _ _) rfl hr5 hg5 hat5); clear hr5 hg5 hat5)
          exact ⟨⟨i + 1, by omega, by go_num, by rw [HAS.out]; exact HR5.out⟩, by simp [intOf]; omega⟩
        · have hall : (frs.map frOf).take i = frs.map frOf := List.take_of_length_le (by simp; omega)
          rw [hall, ← HD.out.all] at hrow
          rw [hall, ← HD.out.all]
          have HROW := Lib.hid hrow
          have hAb : (A.length : Int) ≤ (bs.length : Int) := by have := HD.out.le; omega
          have hcon1 : ∀ W : World, Only (fun _ => False) wr W → (convert 22 9 (.slice aa A.length ac)).run Try.prog W = .ok (.string ⟨A.toArray⟩) W := fun W ho => (HROW.out.kept ho).bytes.text
          have hcon2 : ∀ W : World, Only (fun _ => False) wr W → (convert 22 9 (.slice ba A.length bc)).run Try.prog W = .ok (.string ⟨A.toArray⟩) W := fun W ho => HCB.out A W HD.out.form ((HO12.out.trans HROW.out.only).trans ho)
          have hsl := HSB.out A.length HD.out.le
          have HOF := Lib.hid ((HO12.out.trans HROW.out.only).trans (Only.drew (w := wr)))
          have HDW : Hid (Only (fun _ => False) wr wr.drew) := Only.drew
          clear hall hrow
          go_wp2_with fail
          go_region_held3 (fun W => Only (fun _ => False) wr W) (first | exact HDW.out) (first | fail)
          clear hcon1 hcon2 hsl
          go_wp2_with fail
          go_ret
          exact ⟨rfl, HOF.out⟩

end Go.Proofs.Ytnomgcbkaggmhaa
