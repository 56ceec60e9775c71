/- The document's Decode. Conditions: rows within the reach. -/
import Derived.Test.YtemfelonfokcnaaUsDec
import Derived.Test.YtemfelonfokcnaaUsEncR
namespace Go.Proofs.Ytemfelonfokcnaa
open Go.RowKit

theorem field_prefix {w : World} {S : Nat → Prop} {v : Value} {bs : List UInt8} (hv : BytesAt w S v bs) (h0 : bs ≠ []) (hl : bs.length ≤ 512) :
    Calls Try.prog 38 #[v] w fun e w' => e = .returned (.string (Us.str (Us.fld bs))) ∧ w' = w := r10field_any hv h0 hl

/-- The law of what is left once the header is read: its Encode, and the block compared. -/
theorem seemR_path (b : Us.By) : (Us.seemR b).path.size ≤ 140737488351232 ∧ (Us.seemR b).link.size ≤ 140737488351232 := by
  have h1 := Us.join_len (Us.fld (Us.cut b 345 155)) (Us.fld (Us.cut b 0 100))
  have h2 := Us.fld_len (Us.cut b 345 155); have h3 := Us.fld_len (Us.cut b 0 100)
  have h4 := Us.cut_len b 345 155; have h5 := Us.cut_len b 0 100
  have h6 : (Us.seemR b).path.size = (Us.join (Us.fld (Us.cut b 345 155)) (Us.fld (Us.cut b 0 100))).length := rfl
  have h7 : (Us.seemR b).link.size = (Us.fld (Us.cut b 157 100)).length := rfl
  have h8 := Us.fld_len (Us.cut b 157 100); have h9 := Us.cut_len b 157 100
  exact ⟨by omega, by omega⟩

set_option maxRecDepth 100000 in
set_option maxHeartbeats 8000000 in
theorem r10decode_512 {w : World} {S : Nat → Prop} {v : Value} {bs : List UInt8} (hv : BytesAt w S v bs) (hS : ∀ k, S k → k < w.heap.size) (hl : bs.length = 512) :
    Calls Try.prog 22 #[v] w fun e w' => e = .returned (.tuple #[hdV (Us.decH bs), .int .i64 (Us.decE bs : Int)]) ∧ Quiet w w' := by
  obtain ⟨ad, c, rfl⟩ : ∃ ad c, v = .slice (some ad) bs.length c := by
    rcases hv with ⟨_, e⟩ | ⟨ad, c, e, _⟩
    · rw [e] at hl; simp at hl
    · exact ⟨ad, c, e⟩
  rw [hl] at hv ⊢
  have hroom := hv.room
  have hc : 512 ≤ c := by omega
  obtain ⟨va, sa0, ba, na, la⟩ := piece_of hv 0 100 (by omega) (by decide)
  obtain ⟨vb, sb, bb, nb, lb⟩ := piece_of hv 157 100 (by omega) (by decide)
  obtain ⟨vc, sc, bc, nc, lc⟩ := piece_of hv 345 155 (by omega) (by decide)
  obtain ⟨vm0, sm0, bm0, nm0, lm0⟩ := piece_of hv 100 7 (by omega) (by decide)
  obtain ⟨vu0, su0, bu0, nu0, lu0⟩ := piece_of hv 108 7 (by omega) (by decide)
  obtain ⟨vg0, sg0, bg0, ng0, lg0⟩ := piece_of hv 116 7 (by omega) (by decide)
  obtain ⟨vk0, sk0, bk0, nk0, lk0⟩ := piece_of hv 124 11 (by omega) (by decide)
  obtain ⟨vt0, st0, bt0, nt0, lt0⟩ := piece_of hv 136 11 (by omega) (by decide)
  have sa : ∀ W : World, (Instr.slice 25 (.slice (some ad) 512 c) none (some (.int .i64 100)) none).run Try.prog W = .ok (.slice (some ad) 100 c) W := fun W => slice_h (m := 100) (by omega) W
  have hva : BytesAt w S (.slice (some ad) 100 c) (Us.cut bs 0 100) := by
    rcases hv with ⟨e, _⟩ | ⟨ad2, c2, e, hc2, hS2, hcell2⟩
    · cases e
    · obtain ⟨e1, _, e3⟩ := Value.slice.inj e
      cases e1; cases e3
      refine .inr ⟨ad, c, by rw [la], by rw [la]; omega, fun hne => hS2 (fun e => by rw [e] at hl; cases hl), fun j x hx => hcell2 j x ?_⟩
      unfold Us.cut at hx
      rw [List.drop_zero, List.getElem?_take] at hx
      split at hx
      · exact hx
      · cases hx
  have HT1 : Hid (∀ W, Quiet w W → Calls Try.prog 38 #[.slice (some ad) 100 c] W fun e w' => e = .returned (.string (Us.str (Us.fld (Us.cut bs 0 100)))) ∧ w' = W) := fun W ho => r10field_any (hva.only ho hS (fun _ _ x => x)) na (by omega)
  have HT2 : Hid (∀ W, Quiet w W → Calls Try.prog 38 #[vb] W fun e w' => e = .returned (.string (Us.str (Us.fld (Us.cut bs 157 100)))) ∧ w' = W) := fun W ho => r10field_any (bb.only ho hS (fun _ _ x => x)) nb (by omega)
  have HT3 : Hid (∀ W, Quiet w W → Calls Try.prog 38 #[vc] W fun e w' => e = .returned (.string (Us.str (Us.fld (Us.cut bs 345 155)))) ∧ w' = W) := fun W ho => r10field_any (bc.only ho hS (fun _ _ x => x)) nc (by omega)
  have HPm0 : Hid (∀ W, Quiet w W → Calls Try.prog 39 #[vm0] W fun e w' => e = .returned (.int .i64 (Us.numv (Us.cut bs 100 7))) ∧ w' = W) := fun W ho => r10number_any (bm0.only ho hS (fun _ _ x => x)) nm0 (by omega)
  have HPu0 : Hid (∀ W, Quiet w W → Calls Try.prog 39 #[vu0] W fun e w' => e = .returned (.int .i64 (Us.numv (Us.cut bs 108 7))) ∧ w' = W) := fun W ho => r10number_any (bu0.only ho hS (fun _ _ x => x)) nu0 (by omega)
  have HPg0 : Hid (∀ W, Quiet w W → Calls Try.prog 39 #[vg0] W fun e w' => e = .returned (.int .i64 (Us.numv (Us.cut bs 116 7))) ∧ w' = W) := fun W ho => r10number_any (bg0.only ho hS (fun _ _ x => x)) ng0 (by omega)
  have HPk0 : Hid (∀ W, Quiet w W → Calls Try.prog 39 #[vk0] W fun e w' => e = .returned (.int .i64 (Us.numv (Us.cut bs 124 11))) ∧ w' = W) := fun W ho => r10number_any (bk0.only ho hS (fun _ _ x => x)) nk0 (by omega)
  have HPt0 : Hid (∀ W, Quiet w W → Calls Try.prog 39 #[vt0] W fun e w' => e = .returned (.int .i64 (Us.numv (Us.cut bs 136 11))) ∧ w' = W) := fun W ho => r10number_any (bt0.only ho hS (fun _ _ x => x)) nt0 (by omega)
  have HTY : Hid (∀ W, Quiet w W → W.cell? (ad.add 156) = some (.int .u8 ((bs.getD 156 0).toNat : Int))) := fun W ho => byte_at (hv.only ho hS (fun _ _ x => x)) 156 (by omega)
  change ∀ W : World, (Instr.slice 25 (.slice (some ad) 512 c) (some (.int .i64 157)) (some (.int .i64 257)) none).run Try.prog W = .ok vb W at sb
  change ∀ W : World, (Instr.slice 25 (.slice (some ad) 512 c) (some (.int .i64 345)) (some (.int .i64 500)) none).run Try.prog W = .ok vc W at sc
  change ∀ W : World, (Instr.slice 25 (.slice (some ad) 512 c) (some (.int .i64 100)) (some (.int .i64 107)) none).run Try.prog W = .ok vm0 W at sm0
  change ∀ W : World, (Instr.slice 25 (.slice (some ad) 512 c) (some (.int .i64 108)) (some (.int .i64 115)) none).run Try.prog W = .ok vu0 W at su0
  change ∀ W : World, (Instr.slice 25 (.slice (some ad) 512 c) (some (.int .i64 116)) (some (.int .i64 123)) none).run Try.prog W = .ok vg0 W at sg0
  change ∀ W : World, (Instr.slice 25 (.slice (some ad) 512 c) (some (.int .i64 124)) (some (.int .i64 135)) none).run Try.prog W = .ok vk0 W at sk0
  change ∀ W : World, (Instr.slice 25 (.slice (some ad) 512 c) (some (.int .i64 136)) (some (.int .i64 147)) none).run Try.prog W = .ok vt0 W at st0
  have HSE : Hid (Us.seemR bs = ⟨Us.str (Us.join (Us.fld (Us.cut bs 345 155)) (Us.fld (Us.cut bs 0 100))), Us.numv (Us.cut bs 100 7), Us.numv (Us.cut bs 108 7), Us.numv (Us.cut bs 116 7), Us.numv (Us.cut bs 124 11), Us.numv (Us.cut bs 136 11), bs.getD 156 0, Us.str (Us.fld (Us.cut bs 157 100))⟩) := rfl
  have HSZ : Hid ((Us.fld (Us.cut bs 0 100)).length ≤ 100 ∧ (Us.fld (Us.cut bs 345 155)).length ≤ 155) := ⟨by have := (Us.fld_at (Us.cut bs 0 100)).1; omega, by have := (Us.fld_at (Us.cut bs 345 155)).1; omega⟩
  have HV : Hid (∀ W, Quiet w W → BytesAt W S (.slice (some ad) 512 c) bs) := fun W ho => hv.only ho hS (fun _ _ x => x)
  have HL := Lib.hid hl
  clear ba na la bb nb lb bc nc lc bm0 nm0 lm0 bu0 nu0 lu0 bg0 ng0 lg0 bk0 nk0 lk0 bt0 nt0 lt0 hv hS hroom hl hva sa0 va
  generalize hva2 : Value.slice (some ad) 100 c = va at *
  clear hva2
  generalize Us.fld (Us.cut bs 0 100) = name at *
  generalize Us.fld (Us.cut bs 157 100) = link at *
  generalize Us.fld (Us.cut bs 345 155) = pref at *
  generalize Us.numv (Us.cut bs 100 7) = nm0 at *
  generalize Us.numv (Us.cut bs 108 7) = nu0 at *
  generalize Us.numv (Us.cut bs 116 7) = ng0 at *
  generalize Us.numv (Us.cut bs 124 11) = nk0 at *
  generalize Us.numv (Us.cut bs 136 11) = nt0 at *
  generalize bs.getD 156 0 = ty at *
  go_enter Try.func22, Try.ntmps22
  go_upto_region 3 with (fail)
  have HB0 : Hid (Blk (w.alloc (.cells (hdL hd0).toArray 23)) w.heap.size (hdL hd0) 23) := Blk.new w _ _
  have HQ0 : Hid (Quiet w (w.alloc (.cells (hdL hd0).toArray 23))) := Only.alloc _
  change Code.wp _ _ _ _ (w.alloc (.cells (hdL hd0).toArray 23))
  generalize w.alloc (.cells (hdL hd0).toArray 23) = w0 at *
  go_cut [4] (fun s3 wx => ∃ g : Nat, s3 = .pointer (some ⟨g, 0, none⟩) ∧ Blk wx g (hdL ⟨Us.str name, nm0, nu0, ng0, nk0, nt0, ty, Us.str link⟩) 23 ∧ w0.heap.size ≤ g ∧ Quiet w0 wx)
  case first =>
    have hcell : ∀ W, Quiet w0 W → W.cell? ⟨ad.block, ad.off + 156, none⟩ = some (.int .u8 (ty.toNat : Int)) := fun W ho => HTY.out W (HQ0.out.trans ho)
    have HC1 : Hid (∀ W, Quiet w0 W → Calls Try.prog 38 #[va] W fun e w' => e = .returned (.string (Us.str name)) ∧ w' = W) := fun W ho => HT1.out W (HQ0.out.trans ho)
    have HC2 : Hid (∀ W, Quiet w0 W → Calls Try.prog 38 #[vb] W fun e w' => e = .returned (.string (Us.str link)) ∧ w' = W) := fun W ho => HT2.out W (HQ0.out.trans ho)
    have HNm0 : Hid (∀ W, Quiet w0 W → Calls Try.prog 39 #[vm0] W fun e w' => e = .returned (.int .i64 nm0) ∧ w' = W) := fun W ho => HPm0.out W (HQ0.out.trans ho)
    have HNu0 : Hid (∀ W, Quiet w0 W → Calls Try.prog 39 #[vu0] W fun e w' => e = .returned (.int .i64 nu0) ∧ w' = W) := fun W ho => HPu0.out W (HQ0.out.trans ho)
    have HNg0 : Hid (∀ W, Quiet w0 W → Calls Try.prog 39 #[vg0] W fun e w' => e = .returned (.int .i64 ng0) ∧ w' = W) := fun W ho => HPg0.out W (HQ0.out.trans ho)
    have HNk0 : Hid (∀ W, Quiet w0 W → Calls Try.prog 39 #[vk0] W fun e w' => e = .returned (.int .i64 nk0) ∧ w' = W) := fun W ho => HPk0.out W (HQ0.out.trans ho)
    have HNt0 : Hid (∀ W, Quiet w0 W → Calls Try.prog 39 #[vt0] W fun e w' => e = .returned (.int .i64 nt0) ∧ w' = W) := fun W ho => HPt0.out W (HQ0.out.trans ho)
    refine wp_region_held_drew (S := fun W => Quiet w0 W) (by kernel_rfl) Only.drew (fun hHeld => ?_)
    generalize w0.drew = wd at *
    refine wpAnyH_take (i := 0) (v := .slice (some ad) 512 c) rfl (by kernel_rfl) (by kernel_rfl) (by kernel_rfl) (fun _ _ _ h => h) (Or.inl ⟨by rfl, fun W hSw => by go_simp⟩) hHeld ?_
    try simp only [Act.put, List.getElem_toArray, List.getElem_cons_zero, List.setIfInBounds_toArray, List.set_cons_zero, List.set_cons_succ]
    refine wpAnyH_take (i := 1) (v := va) rfl (by kernel_rfl) (by kernel_rfl) (by kernel_rfl) (fun _ _ _ h => h) (Or.inl ⟨by rfl, fun W hSw => by go_simp⟩) hHeld ?_
    try simp only [Act.put, List.getElem_toArray, List.getElem_cons_succ, List.getElem_cons_zero, List.setIfInBounds_toArray, List.set_cons_zero, List.set_cons_succ]
    refine wpAnyH_take (i := 3) (v := .slice (some ad) 512 c) rfl (by kernel_rfl) (by kernel_rfl) (by kernel_rfl) (fun _ _ _ h => h) (Or.inl ⟨by rfl, fun W hSw => by go_simp⟩) hHeld ?_
    try simp only [Act.put, List.getElem_toArray, List.getElem_cons_succ, List.getElem_cons_zero, List.setIfInBounds_toArray, List.set_cons_zero, List.set_cons_succ]
    refine wpAnyH_take (i := 4) (v := vm0) rfl (by kernel_rfl) (by kernel_rfl) (by kernel_rfl) (fun _ _ _ h => h) (Or.inl ⟨by rfl, fun W hSw => by go_simp⟩) hHeld ?_
    try simp only [Act.put, List.getElem_toArray, List.getElem_cons_succ, List.getElem_cons_zero, List.setIfInBounds_toArray, List.set_cons_zero, List.set_cons_succ]
    refine wpAnyH_take (i := 6) (v := .slice (some ad) 512 c) rfl (by kernel_rfl) (by kernel_rfl) (by kernel_rfl) (fun _ _ _ h => h) (Or.inl ⟨by rfl, fun W hSw => by go_simp⟩) hHeld ?_
    try simp only [Act.put, List.getElem_toArray, List.getElem_cons_succ, List.getElem_cons_zero, List.setIfInBounds_toArray, List.set_cons_zero, List.set_cons_succ]
    refine wpAnyH_take (i := 7) (v := vu0) rfl (by kernel_rfl) (by kernel_rfl) (by kernel_rfl) (fun _ _ _ h => h) (Or.inl ⟨by rfl, fun W hSw => by go_simp⟩) hHeld ?_
    try simp only [Act.put, List.getElem_toArray, List.getElem_cons_succ, List.getElem_cons_zero, List.setIfInBounds_toArray, List.set_cons_zero, List.set_cons_succ]
    refine wpAnyH_take (i := 9) (v := .slice (some ad) 512 c) rfl (by kernel_rfl) (by kernel_rfl) (by kernel_rfl) (fun _ _ _ h => h) (Or.inl ⟨by rfl, fun W hSw => by go_simp⟩) hHeld ?_
    try simp only [Act.put, List.getElem_toArray, List.getElem_cons_succ, List.getElem_cons_zero, List.setIfInBounds_toArray, List.set_cons_zero, List.set_cons_succ]
    refine wpAnyH_take (i := 10) (v := vg0) rfl (by kernel_rfl) (by kernel_rfl) (by kernel_rfl) (fun _ _ _ h => h) (Or.inl ⟨by rfl, fun W hSw => by go_simp⟩) hHeld ?_
    try simp only [Act.put, List.getElem_toArray, List.getElem_cons_succ, List.getElem_cons_zero, List.setIfInBounds_toArray, List.set_cons_zero, List.set_cons_succ]
    refine wpAnyH_take (i := 12) (v := .slice (some ad) 512 c) rfl (by kernel_rfl) (by kernel_rfl) (by kernel_rfl) (fun _ _ _ h => h) (Or.inl ⟨by rfl, fun W hSw => by go_simp⟩) hHeld ?_
    try simp only [Act.put, List.getElem_toArray, List.getElem_cons_succ, List.getElem_cons_zero, List.setIfInBounds_toArray, List.set_cons_zero, List.set_cons_succ]
    refine wpAnyH_take (i := 13) (v := vk0) rfl (by kernel_rfl) (by kernel_rfl) (by kernel_rfl) (fun _ _ _ h => h) (Or.inl ⟨by rfl, fun W hSw => by go_simp⟩) hHeld ?_
    try simp only [Act.put, List.getElem_toArray, List.getElem_cons_succ, List.getElem_cons_zero, List.setIfInBounds_toArray, List.set_cons_zero, List.set_cons_succ]
    refine wpAnyH_take (i := 15) (v := .slice (some ad) 512 c) rfl (by kernel_rfl) (by kernel_rfl) (by kernel_rfl) (fun _ _ _ h => h) (Or.inl ⟨by rfl, fun W hSw => by go_simp⟩) hHeld ?_
    try simp only [Act.put, List.getElem_toArray, List.getElem_cons_succ, List.getElem_cons_zero, List.setIfInBounds_toArray, List.set_cons_zero, List.set_cons_succ]
    refine wpAnyH_take (i := 16) (v := vt0) rfl (by kernel_rfl) (by kernel_rfl) (by kernel_rfl) (fun _ _ _ h => h) (Or.inl ⟨by rfl, fun W hSw => by go_simp⟩) hHeld ?_
    try simp only [Act.put, List.getElem_toArray, List.getElem_cons_succ, List.getElem_cons_zero, List.setIfInBounds_toArray, List.set_cons_zero, List.set_cons_succ]
    refine wpAnyH_take (i := 18) (v := .slice (some ad) 512 c) rfl (by kernel_rfl) (by kernel_rfl) (by kernel_rfl) (fun _ _ _ h => h) (Or.inl ⟨by rfl, fun W hSw => by go_simp⟩) hHeld ?_
    try simp only [Act.put, List.getElem_toArray, List.getElem_cons_succ, List.getElem_cons_zero, List.setIfInBounds_toArray, List.set_cons_zero, List.set_cons_succ]
    refine wpAnyH_take (i := 19) (v := .pointer (some ⟨ad.block, ad.off + 156, none⟩)) rfl (by kernel_rfl) (by kernel_rfl) (by kernel_rfl) (fun _ _ _ h => h) (Or.inl ⟨by rfl, fun W hSw => by go_simp⟩) hHeld ?_
    try simp only [Act.put, List.getElem_toArray, List.getElem_cons_succ, List.getElem_cons_zero, List.setIfInBounds_toArray, List.set_cons_zero, List.set_cons_succ]
    refine wpAnyH_take (i := 20) (v := .int .u8 (ty.toNat : Int)) rfl (by kernel_rfl) (by kernel_rfl) (by kernel_rfl) (fun _ _ _ h => h) (Or.inl ⟨by rfl, fun W hSw => by have z := hcell W hSw; go_simp⟩) hHeld ?_
    try simp only [Act.put, List.getElem_toArray, List.getElem_cons_succ, List.getElem_cons_zero, List.setIfInBounds_toArray, List.set_cons_zero, List.set_cons_succ]
    refine wpAnyH_take (i := 21) (v := .slice (some ad) 512 c) rfl (by kernel_rfl) (by kernel_rfl) (by kernel_rfl) (fun _ _ _ h => h) (Or.inl ⟨by rfl, fun W hSw => by go_simp⟩) hHeld ?_
    try simp only [Act.put, List.getElem_toArray, List.getElem_cons_succ, List.getElem_cons_zero, List.setIfInBounds_toArray, List.set_cons_zero, List.set_cons_succ]
    refine wpAnyH_take (i := 22) (v := vb) rfl (by kernel_rfl) (by kernel_rfl) (by kernel_rfl) (fun _ _ _ h => h) (Or.inl ⟨by rfl, fun W hSw => by go_simp⟩) hHeld ?_
    try simp only [Act.put, List.getElem_toArray, List.getElem_cons_succ, List.getElem_cons_zero, List.setIfInBounds_toArray, List.set_cons_zero, List.set_cons_succ]
    refine wpAnyH_ready (rs := [2, 25]) (by kernel_rfl) (by simp) (AllReadyH.cons rfl (fun J hJ => ?_) (AllReadyH.cons rfl (fun J hJ => ?_) AllReadyH.nil))
    · skip
      go_simp
      refine (HC1.out _ hHeld).mono ?_
      rintro e x1 ⟨rfl, rfl⟩
      refine hJ.out _ _ hHeld (fun hHeld => ?_)
      clear hJ J
      try simp only [Act.put, List.getElem_toArray, List.getElem_cons_succ, List.getElem_cons_zero, List.setIfInBounds_toArray, List.set_cons_zero, List.set_cons_succ]
      refine wpAnyH_ready (rs := [5, 25]) (by kernel_rfl) (by simp) (AllReadyH.cons rfl (fun J hJ => ?_) (AllReadyH.cons rfl (fun J hJ => ?_) AllReadyH.nil))
      · skip
        go_simp
        refine (HNm0.out _ hHeld).mono ?_
        rintro e x2 ⟨rfl, rfl⟩
        refine hJ.out _ _ hHeld (fun hHeld => ?_)
        clear hJ J
        try simp only [Act.put, List.getElem_toArray, List.getElem_cons_succ, List.getElem_cons_zero, List.setIfInBounds_toArray, List.set_cons_zero, List.set_cons_succ]
        refine wpAnyH_ready (rs := [8, 25]) (by kernel_rfl) (by simp) (AllReadyH.cons rfl (fun J hJ => ?_) (AllReadyH.cons rfl (fun J hJ => ?_) AllReadyH.nil))
        · skip
          go_simp
          refine (HNu0.out _ hHeld).mono ?_
          rintro e x3 ⟨rfl, rfl⟩
          refine hJ.out _ _ hHeld (fun hHeld => ?_)
          clear hJ J
          try simp only [Act.put, List.getElem_toArray, List.getElem_cons_succ, List.getElem_cons_zero, List.setIfInBounds_toArray, List.set_cons_zero, List.set_cons_succ]
          refine wpAnyH_ready (rs := [11, 25]) (by kernel_rfl) (by simp) (AllReadyH.cons rfl (fun J hJ => ?_) (AllReadyH.cons rfl (fun J hJ => ?_) AllReadyH.nil))
          · skip
            go_simp
            refine (HNg0.out _ hHeld).mono ?_
            rintro e x4 ⟨rfl, rfl⟩
            refine hJ.out _ _ hHeld (fun hHeld => ?_)
            clear hJ J
            try simp only [Act.put, List.getElem_toArray, List.getElem_cons_succ, List.getElem_cons_zero, List.setIfInBounds_toArray, List.set_cons_zero, List.set_cons_succ]
            refine wpAnyH_ready (rs := [14, 25]) (by kernel_rfl) (by simp) (AllReadyH.cons rfl (fun J hJ => ?_) (AllReadyH.cons rfl (fun J hJ => ?_) AllReadyH.nil))
            · skip
              go_simp
              refine (HNk0.out _ hHeld).mono ?_
              rintro e x5 ⟨rfl, rfl⟩
              refine hJ.out _ _ hHeld (fun hHeld => ?_)
              clear hJ J
              try simp only [Act.put, List.getElem_toArray, List.getElem_cons_succ, List.getElem_cons_zero, List.setIfInBounds_toArray, List.set_cons_zero, List.set_cons_succ]
              refine wpAnyH_ready (rs := [17, 25]) (by kernel_rfl) (by simp) (AllReadyH.cons rfl (fun J hJ => ?_) (AllReadyH.cons rfl (fun J hJ => ?_) AllReadyH.nil))
              · skip
                go_simp
                refine (HNt0.out _ hHeld).mono ?_
                rintro e x6 ⟨rfl, rfl⟩
                refine hJ.out _ _ hHeld (fun hHeld => ?_)
                clear hJ J
                try simp only [Act.put, List.getElem_toArray, List.getElem_cons_succ, List.getElem_cons_zero, List.setIfInBounds_toArray, List.set_cons_zero, List.set_cons_succ]
                refine wpAnyH_ready (rs := [23, 25]) (by kernel_rfl) (by simp) (AllReadyH.cons rfl (fun J hJ => ?_) (AllReadyH.cons rfl (fun J hJ => ?_) AllReadyH.nil))
                · skip
                  go_simp
                  refine (HC2.out _ hHeld).mono ?_
                  rintro e x7 ⟨rfl, rfl⟩
                  refine hJ.out _ _ hHeld (fun hHeld => ?_)
                  clear hJ J
                  try simp only [Act.put, List.getElem_toArray, List.getElem_cons_succ, List.getElem_cons_zero, List.setIfInBounds_toArray, List.set_cons_zero, List.set_cons_succ]
                  refine wpAnyH_take (i := 24) (v := .agg #[.string (Us.str name), .int .i64 nm0, .int .i64 nu0, .int .i64 ng0, .int .i64 nk0, .int .i64 nt0, .int .u8 (ty.toNat : Int), .string (Us.str link)]) rfl (by kernel_rfl) (by kernel_rfl) (by kernel_rfl) (fun _ _ _ h => h) (Or.inl ⟨by rfl, fun W hSw => by go_simp⟩) hHeld ?_
                  try simp only [Act.put, List.getElem_toArray, List.getElem_cons_succ, List.getElem_cons_zero, List.setIfInBounds_toArray, List.set_cons_zero, List.set_cons_succ]
                  refine wpAnyH_ready (rs := [25]) (by kernel_rfl) (by simp) (AllReadyH.cons rfl (fun J hJ => ?_) AllReadyH.nil)
                  obtain ⟨gx8, HGx8⟩ : ∃ q, Hid (q = x7.heap.size) := ⟨_, rfl⟩
                  have HBx8 := Lib.hid (Blk.new x7 [.string ⟨#[]⟩, .int .i64 0, .int .i64 0, .int .i64 0, .int .i64 0, .int .i64 0, .int .u8 0, .string ⟨#[]⟩] 23)
                  have HOx8 : Hid (Quiet x7 (x7.alloc (.cells [.string ⟨#[]⟩, .int .i64 0, .int .i64 0, .int .i64 0, .int .i64 0, .int .i64 0, .int .u8 0, .string ⟨#[]⟩].toArray 23))) := Only.alloc _
                  have HLx8 : Hid (w0.heap.size ≤ x7.heap.size) := hHeld.size
                  rw [← HGx8.out] at HBx8 HLx8
                  go_simp
                  refine hJ.out _ _ (hHeld.trans HOx8.out) (fun hHeld => ?_)
                  clear hJ J
                  rw [← HGx8.out]
                  try simp only [Act.put, List.getElem_toArray, List.getElem_cons_succ, List.getElem_cons_zero, List.setIfInBounds_toArray, List.set_cons_zero, List.set_cons_succ]
                  obtain ⟨x8, HWx8⟩ : ∃ q, Hid (q = x7.alloc (.cells [.string ⟨#[]⟩, .int .i64 0, .int .i64 0, .int .i64 0, .int .i64 0, .int .i64 0, .int .u8 0, .string ⟨#[]⟩].toArray 23)) := ⟨_, rfl⟩
                  rw [← HWx8.out] at HBx8 hHeld
                  rw [← HWx8.out]
                  clear HWx8 HGx8 HOx8
                  refine wpAnyH_ready (rs := [26]) (by kernel_rfl) (by simp) (AllReadyH.cons rfl (fun J hJ => ?_) AllReadyH.nil)
                  obtain ⟨c0, c1, c2, c3, c4, c5, c6, c7, fz⟩ := hd_cells (h := hd0) HBx8.out
                  obtain ⟨hb, ho⟩ := Blk.puts_all (vs := (hdL ⟨Us.str name, nm0, nu0, ng0, nk0, nt0, ty, Us.str link⟩)) HBx8.out rfl
                  go_simp
                  have hfin : Quiet w0 (puts x8 gx8 0 ((hdL ⟨Us.str name, nm0, nu0, ng0, nk0, nt0, ty, Us.str link⟩))) := hHeld.andThen ho (fun k hk e => by have h1 := HLx8.out; omega)
                  refine hJ.out _ _ hfin (fun hHeld => ?_)
                  clear hJ J
                  try simp only [Act.put, List.getElem_toArray, List.getElem_cons_succ, List.getElem_cons_zero, List.setIfInBounds_toArray, List.set_cons_zero, List.set_cons_succ]
                  refine wpAnyH_done (by kernel_rfl) ?_ _
                  go_wp2_with fail
                  go_meet
                  exact ⟨gx8, rfl, hb, HLx8.out, hfin⟩
                · skip
                  obtain ⟨gx10, HGx10⟩ : ∃ q, Hid (q = x6.heap.size) := ⟨_, rfl⟩
                  have HBx10 := Lib.hid (Blk.new x6 [.string ⟨#[]⟩, .int .i64 0, .int .i64 0, .int .i64 0, .int .i64 0, .int .i64 0, .int .u8 0, .string ⟨#[]⟩] 23)
                  have HOx10 : Hid (Quiet x6 (x6.alloc (.cells [.string ⟨#[]⟩, .int .i64 0, .int .i64 0, .int .i64 0, .int .i64 0, .int .i64 0, .int .u8 0, .string ⟨#[]⟩].toArray 23))) := Only.alloc _
                  have HLx10 : Hid (w0.heap.size ≤ x6.heap.size) := hHeld.size
                  rw [← HGx10.out] at HBx10 HLx10
                  go_simp
                  refine hJ.out _ _ (hHeld.trans HOx10.out) (fun hHeld => ?_)
                  clear hJ J
                  rw [← HGx10.out]
                  try simp only [Act.put, List.getElem_toArray, List.getElem_cons_succ, List.getElem_cons_zero, List.setIfInBounds_toArray, List.set_cons_zero, List.set_cons_succ]
                  obtain ⟨x10, HWx10⟩ : ∃ q, Hid (q = x6.alloc (.cells [.string ⟨#[]⟩, .int .i64 0, .int .i64 0, .int .i64 0, .int .i64 0, .int .i64 0, .int .u8 0, .string ⟨#[]⟩].toArray 23)) := ⟨_, rfl⟩
                  rw [← HWx10.out] at HBx10 hHeld
                  rw [← HWx10.out]
                  clear HWx10 HGx10 HOx10
                  refine wpAnyH_ready (rs := [23]) (by kernel_rfl) (by simp) (AllReadyH.cons rfl (fun J hJ => ?_) AllReadyH.nil)
                  go_simp
                  refine (HC2.out _ hHeld).mono ?_
                  rintro e x11 ⟨rfl, rfl⟩
                  refine hJ.out _ _ hHeld (fun hHeld => ?_)
                  clear hJ J
                  try simp only [Act.put, List.getElem_toArray, List.getElem_cons_succ, List.getElem_cons_zero, List.setIfInBounds_toArray, List.set_cons_zero, List.set_cons_succ]
                  refine wpAnyH_take (i := 24) (v := .agg #[.string (Us.str name), .int .i64 nm0, .int .i64 nu0, .int .i64 ng0, .int .i64 nk0, .int .i64 nt0, .int .u8 (ty.toNat : Int), .string (Us.str link)]) rfl (by kernel_rfl) (by kernel_rfl) (by kernel_rfl) (fun _ _ _ h => h) (Or.inl ⟨by rfl, fun W hSw => by go_simp⟩) hHeld ?_
                  try simp only [Act.put, List.getElem_toArray, List.getElem_cons_succ, List.getElem_cons_zero, List.setIfInBounds_toArray, List.set_cons_zero, List.set_cons_succ]
                  refine wpAnyH_ready (rs := [26]) (by kernel_rfl) (by simp) (AllReadyH.cons rfl (fun J hJ => ?_) AllReadyH.nil)
                  obtain ⟨c0, c1, c2, c3, c4, c5, c6, c7, fz⟩ := hd_cells (h := hd0) HBx10.out
                  obtain ⟨hb, ho⟩ := Blk.puts_all (vs := (hdL ⟨Us.str name, nm0, nu0, ng0, nk0, nt0, ty, Us.str link⟩)) HBx10.out rfl
                  go_simp
                  have hfin : Quiet w0 (puts x11 gx10 0 ((hdL ⟨Us.str name, nm0, nu0, ng0, nk0, nt0, ty, Us.str link⟩))) := hHeld.andThen ho (fun k hk e => by have h1 := HLx10.out; omega)
                  refine hJ.out _ _ hfin (fun hHeld => ?_)
                  clear hJ J
                  try simp only [Act.put, List.getElem_toArray, List.getElem_cons_succ, List.getElem_cons_zero, List.setIfInBounds_toArray, List.set_cons_zero, List.set_cons_succ]
                  refine wpAnyH_done (by kernel_rfl) ?_ _
                  go_wp2_with fail
                  go_meet
                  exact ⟨gx10, rfl, hb, HLx10.out, hfin⟩
              · skip
                obtain ⟨gx13, HGx13⟩ : ∃ q, Hid (q = x5.heap.size) := ⟨_, rfl⟩
                have HBx13 := Lib.hid (Blk.new x5 [.string ⟨#[]⟩, .int .i64 0, .int .i64 0, .int .i64 0, .int .i64 0, .int .i64 0, .int .u8 0, .string ⟨#[]⟩] 23)
                have HOx13 : Hid (Quiet x5 (x5.alloc (.cells [.string ⟨#[]⟩, .int .i64 0, .int .i64 0, .int .i64 0, .int .i64 0, .int .i64 0, .int .u8 0, .string ⟨#[]⟩].toArray 23))) := Only.alloc _
                have HLx13 : Hid (w0.heap.size ≤ x5.heap.size) := hHeld.size
                rw [← HGx13.out] at HBx13 HLx13
                go_simp
                refine hJ.out _ _ (hHeld.trans HOx13.out) (fun hHeld => ?_)
                clear hJ J
                rw [← HGx13.out]
                try simp only [Act.put, List.getElem_toArray, List.getElem_cons_succ, List.getElem_cons_zero, List.setIfInBounds_toArray, List.set_cons_zero, List.set_cons_succ]
                obtain ⟨x13, HWx13⟩ : ∃ q, Hid (q = x5.alloc (.cells [.string ⟨#[]⟩, .int .i64 0, .int .i64 0, .int .i64 0, .int .i64 0, .int .i64 0, .int .u8 0, .string ⟨#[]⟩].toArray 23)) := ⟨_, rfl⟩
                rw [← HWx13.out] at HBx13 hHeld
                rw [← HWx13.out]
                clear HWx13 HGx13 HOx13
                refine wpAnyH_ready (rs := [17]) (by kernel_rfl) (by simp) (AllReadyH.cons rfl (fun J hJ => ?_) AllReadyH.nil)
                go_simp
                refine (HNt0.out _ hHeld).mono ?_
                rintro e x14 ⟨rfl, rfl⟩
                refine hJ.out _ _ hHeld (fun hHeld => ?_)
                clear hJ J
                try simp only [Act.put, List.getElem_toArray, List.getElem_cons_succ, List.getElem_cons_zero, List.setIfInBounds_toArray, List.set_cons_zero, List.set_cons_succ]
                refine wpAnyH_ready (rs := [23]) (by kernel_rfl) (by simp) (AllReadyH.cons rfl (fun J hJ => ?_) AllReadyH.nil)
                go_simp
                refine (HC2.out _ hHeld).mono ?_
                rintro e x15 ⟨rfl, rfl⟩
                refine hJ.out _ _ hHeld (fun hHeld => ?_)
                clear hJ J
                try simp only [Act.put, List.getElem_toArray, List.getElem_cons_succ, List.getElem_cons_zero, List.setIfInBounds_toArray, List.set_cons_zero, List.set_cons_succ]
                refine wpAnyH_take (i := 24) (v := .agg #[.string (Us.str name), .int .i64 nm0, .int .i64 nu0, .int .i64 ng0, .int .i64 nk0, .int .i64 nt0, .int .u8 (ty.toNat : Int), .string (Us.str link)]) rfl (by kernel_rfl) (by kernel_rfl) (by kernel_rfl) (fun _ _ _ h => h) (Or.inl ⟨by rfl, fun W hSw => by go_simp⟩) hHeld ?_
                try simp only [Act.put, List.getElem_toArray, List.getElem_cons_succ, List.getElem_cons_zero, List.setIfInBounds_toArray, List.set_cons_zero, List.set_cons_succ]
                refine wpAnyH_ready (rs := [26]) (by kernel_rfl) (by simp) (AllReadyH.cons rfl (fun J hJ => ?_) AllReadyH.nil)
                obtain ⟨c0, c1, c2, c3, c4, c5, c6, c7, fz⟩ := hd_cells (h := hd0) HBx13.out
                obtain ⟨hb, ho⟩ := Blk.puts_all (vs := (hdL ⟨Us.str name, nm0, nu0, ng0, nk0, nt0, ty, Us.str link⟩)) HBx13.out rfl
                go_simp
                have hfin : Quiet w0 (puts x15 gx13 0 ((hdL ⟨Us.str name, nm0, nu0, ng0, nk0, nt0, ty, Us.str link⟩))) := hHeld.andThen ho (fun k hk e => by have h1 := HLx13.out; omega)
                refine hJ.out _ _ hfin (fun hHeld => ?_)
                clear hJ J
                try simp only [Act.put, List.getElem_toArray, List.getElem_cons_succ, List.getElem_cons_zero, List.setIfInBounds_toArray, List.set_cons_zero, List.set_cons_succ]
                refine wpAnyH_done (by kernel_rfl) ?_ _
                go_wp2_with fail
                go_meet
                exact ⟨gx13, rfl, hb, HLx13.out, hfin⟩
            · skip
              obtain ⟨gx17, HGx17⟩ : ∃ q, Hid (q = x4.heap.size) := ⟨_, rfl⟩
              have HBx17 := Lib.hid (Blk.new x4 [.string ⟨#[]⟩, .int .i64 0, .int .i64 0, .int .i64 0, .int .i64 0, .int .i64 0, .int .u8 0, .string ⟨#[]⟩] 23)
              have HOx17 : Hid (Quiet x4 (x4.alloc (.cells [.string ⟨#[]⟩, .int .i64 0, .int .i64 0, .int .i64 0, .int .i64 0, .int .i64 0, .int .u8 0, .string ⟨#[]⟩].toArray 23))) := Only.alloc _
              have HLx17 : Hid (w0.heap.size ≤ x4.heap.size) := hHeld.size
              rw [← HGx17.out] at HBx17 HLx17
              go_simp
              refine hJ.out _ _ (hHeld.trans HOx17.out) (fun hHeld => ?_)
              clear hJ J
              rw [← HGx17.out]
              try simp only [Act.put, List.getElem_toArray, List.getElem_cons_succ, List.getElem_cons_zero, List.setIfInBounds_toArray, List.set_cons_zero, List.set_cons_succ]
              obtain ⟨x17, HWx17⟩ : ∃ q, Hid (q = x4.alloc (.cells [.string ⟨#[]⟩, .int .i64 0, .int .i64 0, .int .i64 0, .int .i64 0, .int .i64 0, .int .u8 0, .string ⟨#[]⟩].toArray 23)) := ⟨_, rfl⟩
              rw [← HWx17.out] at HBx17 hHeld
              rw [← HWx17.out]
              clear HWx17 HGx17 HOx17
              refine wpAnyH_ready (rs := [14]) (by kernel_rfl) (by simp) (AllReadyH.cons rfl (fun J hJ => ?_) AllReadyH.nil)
              go_simp
              refine (HNk0.out _ hHeld).mono ?_
              rintro e x18 ⟨rfl, rfl⟩
              refine hJ.out _ _ hHeld (fun hHeld => ?_)
              clear hJ J
              try simp only [Act.put, List.getElem_toArray, List.getElem_cons_succ, List.getElem_cons_zero, List.setIfInBounds_toArray, List.set_cons_zero, List.set_cons_succ]
              refine wpAnyH_ready (rs := [17]) (by kernel_rfl) (by simp) (AllReadyH.cons rfl (fun J hJ => ?_) AllReadyH.nil)
              go_simp
              refine (HNt0.out _ hHeld).mono ?_
              rintro e x19 ⟨rfl, rfl⟩
              refine hJ.out _ _ hHeld (fun hHeld => ?_)
              clear hJ J
              try simp only [Act.put, List.getElem_toArray, List.getElem_cons_succ, List.getElem_cons_zero, List.setIfInBounds_toArray, List.set_cons_zero, List.set_cons_succ]
              refine wpAnyH_ready (rs := [23]) (by kernel_rfl) (by simp) (AllReadyH.cons rfl (fun J hJ => ?_) AllReadyH.nil)
              go_simp
              refine (HC2.out _ hHeld).mono ?_
              rintro e x20 ⟨rfl, rfl⟩
              refine hJ.out _ _ hHeld (fun hHeld => ?_)
              clear hJ J
              try simp only [Act.put, List.getElem_toArray, List.getElem_cons_succ, List.getElem_cons_zero, List.setIfInBounds_toArray, List.set_cons_zero, List.set_cons_succ]
              refine wpAnyH_take (i := 24) (v := .agg #[.string (Us.str name), .int .i64 nm0, .int .i64 nu0, .int .i64 ng0, .int .i64 nk0, .int .i64 nt0, .int .u8 (ty.toNat : Int), .string (Us.str link)]) rfl (by kernel_rfl) (by kernel_rfl) (by kernel_rfl) (fun _ _ _ h => h) (Or.inl ⟨by rfl, fun W hSw => by go_simp⟩) hHeld ?_
              try simp only [Act.put, List.getElem_toArray, List.getElem_cons_succ, List.getElem_cons_zero, List.setIfInBounds_toArray, List.set_cons_zero, List.set_cons_succ]
              refine wpAnyH_ready (rs := [26]) (by kernel_rfl) (by simp) (AllReadyH.cons rfl (fun J hJ => ?_) AllReadyH.nil)
              obtain ⟨c0, c1, c2, c3, c4, c5, c6, c7, fz⟩ := hd_cells (h := hd0) HBx17.out
              obtain ⟨hb, ho⟩ := Blk.puts_all (vs := (hdL ⟨Us.str name, nm0, nu0, ng0, nk0, nt0, ty, Us.str link⟩)) HBx17.out rfl
              go_simp
              have hfin : Quiet w0 (puts x20 gx17 0 ((hdL ⟨Us.str name, nm0, nu0, ng0, nk0, nt0, ty, Us.str link⟩))) := hHeld.andThen ho (fun k hk e => by have h1 := HLx17.out; omega)
              refine hJ.out _ _ hfin (fun hHeld => ?_)
              clear hJ J
              try simp only [Act.put, List.getElem_toArray, List.getElem_cons_succ, List.getElem_cons_zero, List.setIfInBounds_toArray, List.set_cons_zero, List.set_cons_succ]
              refine wpAnyH_done (by kernel_rfl) ?_ _
              go_wp2_with fail
              go_meet
              exact ⟨gx17, rfl, hb, HLx17.out, hfin⟩
          · skip
            obtain ⟨gx22, HGx22⟩ : ∃ q, Hid (q = x3.heap.size) := ⟨_, rfl⟩
            have HBx22 := Lib.hid (Blk.new x3 [.string ⟨#[]⟩, .int .i64 0, .int .i64 0, .int .i64 0, .int .i64 0, .int .i64 0, .int .u8 0, .string ⟨#[]⟩] 23)
            have HOx22 : Hid (Quiet x3 (x3.alloc (.cells [.string ⟨#[]⟩, .int .i64 0, .int .i64 0, .int .i64 0, .int .i64 0, .int .i64 0, .int .u8 0, .string ⟨#[]⟩].toArray 23))) := Only.alloc _
            have HLx22 : Hid (w0.heap.size ≤ x3.heap.size) := hHeld.size
            rw [← HGx22.out] at HBx22 HLx22
            go_simp
            refine hJ.out _ _ (hHeld.trans HOx22.out) (fun hHeld => ?_)
            clear hJ J
            rw [← HGx22.out]
            try simp only [Act.put, List.getElem_toArray, List.getElem_cons_succ, List.getElem_cons_zero, List.setIfInBounds_toArray, List.set_cons_zero, List.set_cons_succ]
            obtain ⟨x22, HWx22⟩ : ∃ q, Hid (q = x3.alloc (.cells [.string ⟨#[]⟩, .int .i64 0, .int .i64 0, .int .i64 0, .int .i64 0, .int .i64 0, .int .u8 0, .string ⟨#[]⟩].toArray 23)) := ⟨_, rfl⟩
            rw [← HWx22.out] at HBx22 hHeld
            rw [← HWx22.out]
            clear HWx22 HGx22 HOx22
            refine wpAnyH_ready (rs := [11]) (by kernel_rfl) (by simp) (AllReadyH.cons rfl (fun J hJ => ?_) AllReadyH.nil)
            go_simp
            refine (HNg0.out _ hHeld).mono ?_
            rintro e x23 ⟨rfl, rfl⟩
            refine hJ.out _ _ hHeld (fun hHeld => ?_)
            clear hJ J
            try simp only [Act.put, List.getElem_toArray, List.getElem_cons_succ, List.getElem_cons_zero, List.setIfInBounds_toArray, List.set_cons_zero, List.set_cons_succ]
            refine wpAnyH_ready (rs := [14]) (by kernel_rfl) (by simp) (AllReadyH.cons rfl (fun J hJ => ?_) AllReadyH.nil)
            go_simp
            refine (HNk0.out _ hHeld).mono ?_
            rintro e x24 ⟨rfl, rfl⟩
            refine hJ.out _ _ hHeld (fun hHeld => ?_)
            clear hJ J
            try simp only [Act.put, List.getElem_toArray, List.getElem_cons_succ, List.getElem_cons_zero, List.setIfInBounds_toArray, List.set_cons_zero, List.set_cons_succ]
            refine wpAnyH_ready (rs := [17]) (by kernel_rfl) (by simp) (AllReadyH.cons rfl (fun J hJ => ?_) AllReadyH.nil)
            go_simp
            refine (HNt0.out _ hHeld).mono ?_
            rintro e x25 ⟨rfl, rfl⟩
            refine hJ.out _ _ hHeld (fun hHeld => ?_)
            clear hJ J
            try simp only [Act.put, List.getElem_toArray, List.getElem_cons_succ, List.getElem_cons_zero, List.setIfInBounds_toArray, List.set_cons_zero, List.set_cons_succ]
            refine wpAnyH_ready (rs := [23]) (by kernel_rfl) (by simp) (AllReadyH.cons rfl (fun J hJ => ?_) AllReadyH.nil)
            go_simp
            refine (HC2.out _ hHeld).mono ?_
            rintro e x26 ⟨rfl, rfl⟩
            refine hJ.out _ _ hHeld (fun hHeld => ?_)
            clear hJ J
            try simp only [Act.put, List.getElem_toArray, List.getElem_cons_succ, List.getElem_cons_zero, List.setIfInBounds_toArray, List.set_cons_zero, List.set_cons_succ]
            refine wpAnyH_take (i := 24) (v := .agg #[.string (Us.str name), .int .i64 nm0, .int .i64 nu0, .int .i64 ng0, .int .i64 nk0, .int .i64 nt0, .int .u8 (ty.toNat : Int), .string (Us.str link)]) rfl (by kernel_rfl) (by kernel_rfl) (by kernel_rfl) (fun _ _ _ h => h) (Or.inl ⟨by rfl, fun W hSw => by go_simp⟩) hHeld ?_
            try simp only [Act.put, List.getElem_toArray, List.getElem_cons_succ, List.getElem_cons_zero, List.setIfInBounds_toArray, List.set_cons_zero, List.set_cons_succ]
            refine wpAnyH_ready (rs := [26]) (by kernel_rfl) (by simp) (AllReadyH.cons rfl (fun J hJ => ?_) AllReadyH.nil)
            obtain ⟨c0, c1, c2, c3, c4, c5, c6, c7, fz⟩ := hd_cells (h := hd0) HBx22.out
            obtain ⟨hb, ho⟩ := Blk.puts_all (vs := (hdL ⟨Us.str name, nm0, nu0, ng0, nk0, nt0, ty, Us.str link⟩)) HBx22.out rfl
            go_simp
            have hfin : Quiet w0 (puts x26 gx22 0 ((hdL ⟨Us.str name, nm0, nu0, ng0, nk0, nt0, ty, Us.str link⟩))) := hHeld.andThen ho (fun k hk e => by have h1 := HLx22.out; omega)
            refine hJ.out _ _ hfin (fun hHeld => ?_)
            clear hJ J
            try simp only [Act.put, List.getElem_toArray, List.getElem_cons_succ, List.getElem_cons_zero, List.setIfInBounds_toArray, List.set_cons_zero, List.set_cons_succ]
            refine wpAnyH_done (by kernel_rfl) ?_ _
            go_wp2_with fail
            go_meet
            exact ⟨gx22, rfl, hb, HLx22.out, hfin⟩
        · skip
          obtain ⟨gx28, HGx28⟩ : ∃ q, Hid (q = x2.heap.size) := ⟨_, rfl⟩
          have HBx28 := Lib.hid (Blk.new x2 [.string ⟨#[]⟩, .int .i64 0, .int .i64 0, .int .i64 0, .int .i64 0, .int .i64 0, .int .u8 0, .string ⟨#[]⟩] 23)
          have HOx28 : Hid (Quiet x2 (x2.alloc (.cells [.string ⟨#[]⟩, .int .i64 0, .int .i64 0, .int .i64 0, .int .i64 0, .int .i64 0, .int .u8 0, .string ⟨#[]⟩].toArray 23))) := Only.alloc _
          have HLx28 : Hid (w0.heap.size ≤ x2.heap.size) := hHeld.size
          rw [← HGx28.out] at HBx28 HLx28
          go_simp
          refine hJ.out _ _ (hHeld.trans HOx28.out) (fun hHeld => ?_)
          clear hJ J
          rw [← HGx28.out]
          try simp only [Act.put, List.getElem_toArray, List.getElem_cons_succ, List.getElem_cons_zero, List.setIfInBounds_toArray, List.set_cons_zero, List.set_cons_succ]
          obtain ⟨x28, HWx28⟩ : ∃ q, Hid (q = x2.alloc (.cells [.string ⟨#[]⟩, .int .i64 0, .int .i64 0, .int .i64 0, .int .i64 0, .int .i64 0, .int .u8 0, .string ⟨#[]⟩].toArray 23)) := ⟨_, rfl⟩
          rw [← HWx28.out] at HBx28 hHeld
          rw [← HWx28.out]
          clear HWx28 HGx28 HOx28
          refine wpAnyH_ready (rs := [8]) (by kernel_rfl) (by simp) (AllReadyH.cons rfl (fun J hJ => ?_) AllReadyH.nil)
          go_simp
          refine (HNu0.out _ hHeld).mono ?_
          rintro e x29 ⟨rfl, rfl⟩
          refine hJ.out _ _ hHeld (fun hHeld => ?_)
          clear hJ J
          try simp only [Act.put, List.getElem_toArray, List.getElem_cons_succ, List.getElem_cons_zero, List.setIfInBounds_toArray, List.set_cons_zero, List.set_cons_succ]
          refine wpAnyH_ready (rs := [11]) (by kernel_rfl) (by simp) (AllReadyH.cons rfl (fun J hJ => ?_) AllReadyH.nil)
          go_simp
          refine (HNg0.out _ hHeld).mono ?_
          rintro e x30 ⟨rfl, rfl⟩
          refine hJ.out _ _ hHeld (fun hHeld => ?_)
          clear hJ J
          try simp only [Act.put, List.getElem_toArray, List.getElem_cons_succ, List.getElem_cons_zero, List.setIfInBounds_toArray, List.set_cons_zero, List.set_cons_succ]
          refine wpAnyH_ready (rs := [14]) (by kernel_rfl) (by simp) (AllReadyH.cons rfl (fun J hJ => ?_) AllReadyH.nil)
          go_simp
          refine (HNk0.out _ hHeld).mono ?_
          rintro e x31 ⟨rfl, rfl⟩
          refine hJ.out _ _ hHeld (fun hHeld => ?_)
          clear hJ J
          try simp only [Act.put, List.getElem_toArray, List.getElem_cons_succ, List.getElem_cons_zero, List.setIfInBounds_toArray, List.set_cons_zero, List.set_cons_succ]
          refine wpAnyH_ready (rs := [17]) (by kernel_rfl) (by simp) (AllReadyH.cons rfl (fun J hJ => ?_) AllReadyH.nil)
          go_simp
          refine (HNt0.out _ hHeld).mono ?_
          rintro e x32 ⟨rfl, rfl⟩
          refine hJ.out _ _ hHeld (fun hHeld => ?_)
          clear hJ J
          try simp only [Act.put, List.getElem_toArray, List.getElem_cons_succ, List.getElem_cons_zero, List.setIfInBounds_toArray, List.set_cons_zero, List.set_cons_succ]
          refine wpAnyH_ready (rs := [23]) (by kernel_rfl) (by simp) (AllReadyH.cons rfl (fun J hJ => ?_) AllReadyH.nil)
          go_simp
          refine (HC2.out _ hHeld).mono ?_
          rintro e x33 ⟨rfl, rfl⟩
          refine hJ.out _ _ hHeld (fun hHeld => ?_)
          clear hJ J
          try simp only [Act.put, List.getElem_toArray, List.getElem_cons_succ, List.getElem_cons_zero, List.setIfInBounds_toArray, List.set_cons_zero, List.set_cons_succ]
          refine wpAnyH_take (i := 24) (v := .agg #[.string (Us.str name), .int .i64 nm0, .int .i64 nu0, .int .i64 ng0, .int .i64 nk0, .int .i64 nt0, .int .u8 (ty.toNat : Int), .string (Us.str link)]) rfl (by kernel_rfl) (by kernel_rfl) (by kernel_rfl) (fun _ _ _ h => h) (Or.inl ⟨by rfl, fun W hSw => by go_simp⟩) hHeld ?_
          try simp only [Act.put, List.getElem_toArray, List.getElem_cons_succ, List.getElem_cons_zero, List.setIfInBounds_toArray, List.set_cons_zero, List.set_cons_succ]
          refine wpAnyH_ready (rs := [26]) (by kernel_rfl) (by simp) (AllReadyH.cons rfl (fun J hJ => ?_) AllReadyH.nil)
          obtain ⟨c0, c1, c2, c3, c4, c5, c6, c7, fz⟩ := hd_cells (h := hd0) HBx28.out
          obtain ⟨hb, ho⟩ := Blk.puts_all (vs := (hdL ⟨Us.str name, nm0, nu0, ng0, nk0, nt0, ty, Us.str link⟩)) HBx28.out rfl
          go_simp
          have hfin : Quiet w0 (puts x33 gx28 0 ((hdL ⟨Us.str name, nm0, nu0, ng0, nk0, nt0, ty, Us.str link⟩))) := hHeld.andThen ho (fun k hk e => by have h1 := HLx28.out; omega)
          refine hJ.out _ _ hfin (fun hHeld => ?_)
          clear hJ J
          try simp only [Act.put, List.getElem_toArray, List.getElem_cons_succ, List.getElem_cons_zero, List.setIfInBounds_toArray, List.set_cons_zero, List.set_cons_succ]
          refine wpAnyH_done (by kernel_rfl) ?_ _
          go_wp2_with fail
          go_meet
          exact ⟨gx28, rfl, hb, HLx28.out, hfin⟩
      · skip
        obtain ⟨gx35, HGx35⟩ : ∃ q, Hid (q = x1.heap.size) := ⟨_, rfl⟩
        have HBx35 := Lib.hid (Blk.new x1 [.string ⟨#[]⟩, .int .i64 0, .int .i64 0, .int .i64 0, .int .i64 0, .int .i64 0, .int .u8 0, .string ⟨#[]⟩] 23)
        have HOx35 : Hid (Quiet x1 (x1.alloc (.cells [.string ⟨#[]⟩, .int .i64 0, .int .i64 0, .int .i64 0, .int .i64 0, .int .i64 0, .int .u8 0, .string ⟨#[]⟩].toArray 23))) := Only.alloc _
        have HLx35 : Hid (w0.heap.size ≤ x1.heap.size) := hHeld.size
        rw [← HGx35.out] at HBx35 HLx35
        go_simp
        refine hJ.out _ _ (hHeld.trans HOx35.out) (fun hHeld => ?_)
        clear hJ J
        rw [← HGx35.out]
        try simp only [Act.put, List.getElem_toArray, List.getElem_cons_succ, List.getElem_cons_zero, List.setIfInBounds_toArray, List.set_cons_zero, List.set_cons_succ]
        obtain ⟨x35, HWx35⟩ : ∃ q, Hid (q = x1.alloc (.cells [.string ⟨#[]⟩, .int .i64 0, .int .i64 0, .int .i64 0, .int .i64 0, .int .i64 0, .int .u8 0, .string ⟨#[]⟩].toArray 23)) := ⟨_, rfl⟩
        rw [← HWx35.out] at HBx35 hHeld
        rw [← HWx35.out]
        clear HWx35 HGx35 HOx35
        refine wpAnyH_ready (rs := [5]) (by kernel_rfl) (by simp) (AllReadyH.cons rfl (fun J hJ => ?_) AllReadyH.nil)
        go_simp
        refine (HNm0.out _ hHeld).mono ?_
        rintro e x36 ⟨rfl, rfl⟩
        refine hJ.out _ _ hHeld (fun hHeld => ?_)
        clear hJ J
        try simp only [Act.put, List.getElem_toArray, List.getElem_cons_succ, List.getElem_cons_zero, List.setIfInBounds_toArray, List.set_cons_zero, List.set_cons_succ]
        refine wpAnyH_ready (rs := [8]) (by kernel_rfl) (by simp) (AllReadyH.cons rfl (fun J hJ => ?_) AllReadyH.nil)
        go_simp
        refine (HNu0.out _ hHeld).mono ?_
        rintro e x37 ⟨rfl, rfl⟩
        refine hJ.out _ _ hHeld (fun hHeld => ?_)
        clear hJ J
        try simp only [Act.put, List.getElem_toArray, List.getElem_cons_succ, List.getElem_cons_zero, List.setIfInBounds_toArray, List.set_cons_zero, List.set_cons_succ]
        refine wpAnyH_ready (rs := [11]) (by kernel_rfl) (by simp) (AllReadyH.cons rfl (fun J hJ => ?_) AllReadyH.nil)
        go_simp
        refine (HNg0.out _ hHeld).mono ?_
        rintro e x38 ⟨rfl, rfl⟩
        refine hJ.out _ _ hHeld (fun hHeld => ?_)
        clear hJ J
        try simp only [Act.put, List.getElem_toArray, List.getElem_cons_succ, List.getElem_cons_zero, List.setIfInBounds_toArray, List.set_cons_zero, List.set_cons_succ]
        refine wpAnyH_ready (rs := [14]) (by kernel_rfl) (by simp) (AllReadyH.cons rfl (fun J hJ => ?_) AllReadyH.nil)
        go_simp
        refine (HNk0.out _ hHeld).mono ?_
        rintro e x39 ⟨rfl, rfl⟩
        refine hJ.out _ _ hHeld (fun hHeld => ?_)
        clear hJ J
        try simp only [Act.put, List.getElem_toArray, List.getElem_cons_succ, List.getElem_cons_zero, List.setIfInBounds_toArray, List.set_cons_zero, List.set_cons_succ]
        refine wpAnyH_ready (rs := [17]) (by kernel_rfl) (by simp) (AllReadyH.cons rfl (fun J hJ => ?_) AllReadyH.nil)
        go_simp
        refine (HNt0.out _ hHeld).mono ?_
        rintro e x40 ⟨rfl, rfl⟩
        refine hJ.out _ _ hHeld (fun hHeld => ?_)
        clear hJ J
        try simp only [Act.put, List.getElem_toArray, List.getElem_cons_succ, List.getElem_cons_zero, List.setIfInBounds_toArray, List.set_cons_zero, List.set_cons_succ]
        refine wpAnyH_ready (rs := [23]) (by kernel_rfl) (by simp) (AllReadyH.cons rfl (fun J hJ => ?_) AllReadyH.nil)
        go_simp
        refine (HC2.out _ hHeld).mono ?_
        rintro e x41 ⟨rfl, rfl⟩
        refine hJ.out _ _ hHeld (fun hHeld => ?_)
        clear hJ J
        try simp only [Act.put, List.getElem_toArray, List.getElem_cons_succ, List.getElem_cons_zero, List.setIfInBounds_toArray, List.set_cons_zero, List.set_cons_succ]
        refine wpAnyH_take (i := 24) (v := .agg #[.string (Us.str name), .int .i64 nm0, .int .i64 nu0, .int .i64 ng0, .int .i64 nk0, .int .i64 nt0, .int .u8 (ty.toNat : Int), .string (Us.str link)]) rfl (by kernel_rfl) (by kernel_rfl) (by kernel_rfl) (fun _ _ _ h => h) (Or.inl ⟨by rfl, fun W hSw => by go_simp⟩) hHeld ?_
        try simp only [Act.put, List.getElem_toArray, List.getElem_cons_succ, List.getElem_cons_zero, List.setIfInBounds_toArray, List.set_cons_zero, List.set_cons_succ]
        refine wpAnyH_ready (rs := [26]) (by kernel_rfl) (by simp) (AllReadyH.cons rfl (fun J hJ => ?_) AllReadyH.nil)
        obtain ⟨c0, c1, c2, c3, c4, c5, c6, c7, fz⟩ := hd_cells (h := hd0) HBx35.out
        obtain ⟨hb, ho⟩ := Blk.puts_all (vs := (hdL ⟨Us.str name, nm0, nu0, ng0, nk0, nt0, ty, Us.str link⟩)) HBx35.out rfl
        go_simp
        have hfin : Quiet w0 (puts x41 gx35 0 ((hdL ⟨Us.str name, nm0, nu0, ng0, nk0, nt0, ty, Us.str link⟩))) := hHeld.andThen ho (fun k hk e => by have h1 := HLx35.out; omega)
        refine hJ.out _ _ hfin (fun hHeld => ?_)
        clear hJ J
        try simp only [Act.put, List.getElem_toArray, List.getElem_cons_succ, List.getElem_cons_zero, List.setIfInBounds_toArray, List.set_cons_zero, List.set_cons_succ]
        refine wpAnyH_done (by kernel_rfl) ?_ _
        go_wp2_with fail
        go_meet
        exact ⟨gx35, rfl, hb, HLx35.out, hfin⟩
    · skip
      obtain ⟨gx43, HGx43⟩ : ∃ q, Hid (q = wd.heap.size) := ⟨_, rfl⟩
      have HBx43 := Lib.hid (Blk.new wd [.string ⟨#[]⟩, .int .i64 0, .int .i64 0, .int .i64 0, .int .i64 0, .int .i64 0, .int .u8 0, .string ⟨#[]⟩] 23)
      have HOx43 : Hid (Quiet wd (wd.alloc (.cells [.string ⟨#[]⟩, .int .i64 0, .int .i64 0, .int .i64 0, .int .i64 0, .int .i64 0, .int .u8 0, .string ⟨#[]⟩].toArray 23))) := Only.alloc _
      have HLx43 : Hid (w0.heap.size ≤ wd.heap.size) := hHeld.size
      rw [← HGx43.out] at HBx43 HLx43
      go_simp
      refine hJ.out _ _ (hHeld.trans HOx43.out) (fun hHeld => ?_)
      clear hJ J
      rw [← HGx43.out]
      try simp only [Act.put, List.getElem_toArray, List.getElem_cons_succ, List.getElem_cons_zero, List.setIfInBounds_toArray, List.set_cons_zero, List.set_cons_succ]
      obtain ⟨x43, HWx43⟩ : ∃ q, Hid (q = wd.alloc (.cells [.string ⟨#[]⟩, .int .i64 0, .int .i64 0, .int .i64 0, .int .i64 0, .int .i64 0, .int .u8 0, .string ⟨#[]⟩].toArray 23)) := ⟨_, rfl⟩
      rw [← HWx43.out] at HBx43 hHeld
      rw [← HWx43.out]
      clear HWx43 HGx43 HOx43
      refine wpAnyH_ready (rs := [2]) (by kernel_rfl) (by simp) (AllReadyH.cons rfl (fun J hJ => ?_) AllReadyH.nil)
      go_simp
      refine (HC1.out _ hHeld).mono ?_
      rintro e x44 ⟨rfl, rfl⟩
      refine hJ.out _ _ hHeld (fun hHeld => ?_)
      clear hJ J
      try simp only [Act.put, List.getElem_toArray, List.getElem_cons_succ, List.getElem_cons_zero, List.setIfInBounds_toArray, List.set_cons_zero, List.set_cons_succ]
      refine wpAnyH_ready (rs := [5]) (by kernel_rfl) (by simp) (AllReadyH.cons rfl (fun J hJ => ?_) AllReadyH.nil)
      go_simp
      refine (HNm0.out _ hHeld).mono ?_
      rintro e x45 ⟨rfl, rfl⟩
      refine hJ.out _ _ hHeld (fun hHeld => ?_)
      clear hJ J
      try simp only [Act.put, List.getElem_toArray, List.getElem_cons_succ, List.getElem_cons_zero, List.setIfInBounds_toArray, List.set_cons_zero, List.set_cons_succ]
      refine wpAnyH_ready (rs := [8]) (by kernel_rfl) (by simp) (AllReadyH.cons rfl (fun J hJ => ?_) AllReadyH.nil)
      go_simp
      refine (HNu0.out _ hHeld).mono ?_
      rintro e x46 ⟨rfl, rfl⟩
      refine hJ.out _ _ hHeld (fun hHeld => ?_)
      clear hJ J
      try simp only [Act.put, List.getElem_toArray, List.getElem_cons_succ, List.getElem_cons_zero, List.setIfInBounds_toArray, List.set_cons_zero, List.set_cons_succ]
      refine wpAnyH_ready (rs := [11]) (by kernel_rfl) (by simp) (AllReadyH.cons rfl (fun J hJ => ?_) AllReadyH.nil)
      go_simp
      refine (HNg0.out _ hHeld).mono ?_
      rintro e x47 ⟨rfl, rfl⟩
      refine hJ.out _ _ hHeld (fun hHeld => ?_)
      clear hJ J
      try simp only [Act.put, List.getElem_toArray, List.getElem_cons_succ, List.getElem_cons_zero, List.setIfInBounds_toArray, List.set_cons_zero, List.set_cons_succ]
      refine wpAnyH_ready (rs := [14]) (by kernel_rfl) (by simp) (AllReadyH.cons rfl (fun J hJ => ?_) AllReadyH.nil)
      go_simp
      refine (HNk0.out _ hHeld).mono ?_
      rintro e x48 ⟨rfl, rfl⟩
      refine hJ.out _ _ hHeld (fun hHeld => ?_)
      clear hJ J
      try simp only [Act.put, List.getElem_toArray, List.getElem_cons_succ, List.getElem_cons_zero, List.setIfInBounds_toArray, List.set_cons_zero, List.set_cons_succ]
      refine wpAnyH_ready (rs := [17]) (by kernel_rfl) (by simp) (AllReadyH.cons rfl (fun J hJ => ?_) AllReadyH.nil)
      go_simp
      refine (HNt0.out _ hHeld).mono ?_
      rintro e x49 ⟨rfl, rfl⟩
      refine hJ.out _ _ hHeld (fun hHeld => ?_)
      clear hJ J
      try simp only [Act.put, List.getElem_toArray, List.getElem_cons_succ, List.getElem_cons_zero, List.setIfInBounds_toArray, List.set_cons_zero, List.set_cons_succ]
      refine wpAnyH_ready (rs := [23]) (by kernel_rfl) (by simp) (AllReadyH.cons rfl (fun J hJ => ?_) AllReadyH.nil)
      go_simp
      refine (HC2.out _ hHeld).mono ?_
      rintro e x50 ⟨rfl, rfl⟩
      refine hJ.out _ _ hHeld (fun hHeld => ?_)
      clear hJ J
      try simp only [Act.put, List.getElem_toArray, List.getElem_cons_succ, List.getElem_cons_zero, List.setIfInBounds_toArray, List.set_cons_zero, List.set_cons_succ]
      refine wpAnyH_take (i := 24) (v := .agg #[.string (Us.str name), .int .i64 nm0, .int .i64 nu0, .int .i64 ng0, .int .i64 nk0, .int .i64 nt0, .int .u8 (ty.toNat : Int), .string (Us.str link)]) rfl (by kernel_rfl) (by kernel_rfl) (by kernel_rfl) (fun _ _ _ h => h) (Or.inl ⟨by rfl, fun W hSw => by go_simp⟩) hHeld ?_
      try simp only [Act.put, List.getElem_toArray, List.getElem_cons_succ, List.getElem_cons_zero, List.setIfInBounds_toArray, List.set_cons_zero, List.set_cons_succ]
      refine wpAnyH_ready (rs := [26]) (by kernel_rfl) (by simp) (AllReadyH.cons rfl (fun J hJ => ?_) AllReadyH.nil)
      obtain ⟨c0, c1, c2, c3, c4, c5, c6, c7, fz⟩ := hd_cells (h := hd0) HBx43.out
      obtain ⟨hb, ho⟩ := Blk.puts_all (vs := (hdL ⟨Us.str name, nm0, nu0, ng0, nk0, nt0, ty, Us.str link⟩)) HBx43.out rfl
      go_simp
      have hfin : Quiet w0 (puts x50 gx43 0 ((hdL ⟨Us.str name, nm0, nu0, ng0, nk0, nt0, ty, Us.str link⟩))) := hHeld.andThen ho (fun k hk e => by have h1 := HLx43.out; omega)
      refine hJ.out _ _ hfin (fun hHeld => ?_)
      clear hJ J
      try simp only [Act.put, List.getElem_toArray, List.getElem_cons_succ, List.getElem_cons_zero, List.setIfInBounds_toArray, List.set_cons_zero, List.set_cons_succ]
      refine wpAnyH_done (by kernel_rfl) ?_ _
      go_wp2_with fail
      go_meet
      exact ⟨gx43, rfl, hb, HLx43.out, hfin⟩
  case rest =>
    obtain ⟨g, rfl, hbg, hge, hqg⟩ := hcut
    have HRB : Hid (Blk wc w.heap.size (hdL hd0) 23) := HB0.out.keep hqg (fun x => x)
    have HGW : Hid (w.heap.size < g) := Nat.lt_of_lt_of_le HB0.out.lt hge
    have HBG := Lib.hid hbg; have HQG := Lib.hid (HQ0.out.trans hqg)
    clear hbg hqg hge HT1 HT2 HTY HB0 HQ0 HPm0 HPu0 HPg0 HPk0 HPt0
    rcases empty_or (Us.str pref) with he | ⟨n1, n2, n3⟩
    have hpe : pref = [] := congrArg (fun b : ByteArray => b.data.toList) he
    rw [he] at HT3
    have HJ : Hid (Us.str (Us.join pref name) = Us.str name) := by unfold Hid Us.join; rw [if_pos hpe]
    clear he hpe
    go_upto_region 7 with (go_at_call 38; refine (HT3.out _ HQG.out).mono ?_; rintro e wy ⟨rfl, rfl⟩; have HBY : Hid (Blk wy g (hdL ⟨Us.str (Us.join pref name), nm0, nu0, ng0, nk0, nt0, ty, Us.str link⟩) 23) := (by (unfold Hid; rw [HJ.out]; exact HBG.out)); have HQY : Hid (Quiet w wy) := HQG.out; have HRY := HRB)
    clear HJ HT3
    rotate_left
    have HJ : Hid (Us.str (Us.join pref name) = (Us.str pref ++ ⟨#[47]⟩) ++ Us.str name) := by
      unfold Hid Us.join
      rw [if_neg (show ¬ pref = [] from n3)]
      apply ByteArray.ext
      apply Array.toList_inj.1
      simp [Us.str, List.append_assoc]
    have z1 : (Us.str pref).size ≤ 155 := HSZ.out.2
    have z2 : (Us.str name).size ≤ 100 := HSZ.out.1
    have z3 : ¬ (9223372036854775807 < (Us.str pref).size + 1) := by omega
    have z4 : ¬ (9223372036854775807 < (Us.str pref).size + 1 + (Us.str name).size) := by omega
    clear n3
    go_upto_region 7 with (go_at_call 38; refine (HT3.out _ HQG.out).mono ?_; rintro e w9 ⟨rfl, rfl⟩; obtain ⟨c0, c1, c2, c3, c4, c5, c6, c7, fz⟩ := hd_cells HBG.out)
    change Code.wp _ _ _ _ (w9.setCell ⟨g, 0, none⟩ (.string ((Us.str pref ++ ⟨#[47]⟩) ++ Us.str name)))
    obtain ⟨wy, hwy⟩ : ∃ wy, wy = w9.setCell ⟨g, 0, none⟩ (.string ((Us.str pref ++ ⟨#[47]⟩) ++ Us.str name)) := ⟨_, rfl⟩
    rw [← hwy]
    have HBY : Hid (Blk wy g (hdL ⟨Us.str (Us.join pref name), nm0, nu0, ng0, nk0, nt0, ty, Us.str link⟩) 23) := by unfold Hid; rw [hwy, HJ.out]; exact HBG.out.set 0 _
    have HQY : Hid (Quiet w wy) := by rw [hwy]; exact HQG.out.andThen (Only.setCell ⟨g, 0, none⟩ _) (fun k hk e => by have h1 := HGW.out; have e2 : k = g := e; omega)
    have HRY : Hid (Blk wy w.heap.size (hdL hd0) 23) := by rw [hwy]; exact HRB.out.setNe _ _ (fun e => by have h1 := HGW.out; have e2 : w.heap.size = g := e; omega)
    clear hwy z1 z2 z3 z4 n1 n2 HJ c0 c1 c2 c3 c4 c5 c6 c7 fz HT3
    all_goals (
      obtain ⟨hsp, hsl⟩ := seemR_path bs
      have hdr : ¬ Us.Says bs (Us.seemR bs) → Us.dec bs = none := Us.dec_R
      have hds : Us.Says bs (Us.seemR bs) → Us.dec bs = some (Us.seemR bs) := Us.dec_some.2
      rw [HSE.out] at hsp hsl hdr hds
      clear HSE
      generalize Us.str (Us.join pref name) = tp at *
      obtain ⟨c0, c1, c2, c3, c4, c5, c6, c7, fz⟩ := hd_cells HBY.out
      cases hf : Us.fits ⟨tp, nm0, nu0, ng0, nk0, nt0, ty, Us.str link⟩ with
      | false =>
        obtain ⟨e1, e2⟩ := Us.dec_no (hdr (fun h => by rw [h.1] at hf; cases hf))
        have HH1 := Lib.hid e1; have HH2 := Lib.hid e2
        have HE := Lib.hid (fun W => r10encode_no _ hsp hsl hf W)
        clear hdr hds e1 e2 hf hsp hsl
        unfold hdV at HE
        go_wp2_with (go_at_call 10; refine (HE.out _).mono ?_; rintro e w5 ⟨rfl, hq⟩; have HQ5 := Lib.hid (HQY.out.trans hq); have HR5 := Lib.hid (HRY.out.keep hq (fun x => x)); obtain ⟨d0, d1, d2, d3, d4, d5, d6, d7, dz⟩ := hd_cells HR5.out; clear hq)
        obtain ⟨hfin, hof⟩ := Blk.puts_all (vs := hdL hd0) HR5.out rfl
        refine bodyPost_ret (v := .tuple #[hdV hd0, .int .i64 14]) ?_ rfl ⟨by rw [HH1.out, HH2.out]; rfl, HQ5.out.andThen hof (fun k hk e => by omega)⟩
        refine results_row_tmp (p := 2) (u := 3) (ty := 23) rfl _ _ w.heap.size _ ?_ (load_hd hfin)
        rfl
      | true =>
        have HE := Lib.hid (fun W => r10encode_ok _ hsp hsl hf W)
        by_cases heq : Us.enc ⟨tp, nm0, nu0, ng0, nk0, nt0, ty, Us.str link⟩ = bs
        · obtain ⟨e1, e2⟩ := Us.dec_yes (hds ⟨hf, heq⟩)
          have HH1 := Lib.hid e1; have HH2 := Lib.hid e2
          rw [heq] at HE
          clear hdr hds e1 e2 hf hsp hsl heq
          unfold hdV at HE
          go_wp2_with (go_at_call 10; refine (HE.out _).mono ?_; rintro e w5 ⟨xa, xc, rfl, hr⟩; have HQ5 := Lib.hid (HQY.out.trans hr.only); have HR5 := Lib.hid (HRY.out.keep hr.only (fun x => x)); obtain ⟨d0, d1, d2, d3, d4, d5, d6, d7, dz⟩ := hd_cells HR5.out; obtain ⟨g0, g1, g2, g3, g4, g5, g6, g7, gz⟩ := hd_cells (HBY.out.keep hr.only (fun x => x)); have t1 := hr.bytes.text; have t2 := (HV.out _ HQ5.out).text; clear hr)
          obtain ⟨hfin, hof⟩ := Blk.puts_all (vs := hdL ⟨tp, nm0, nu0, ng0, nk0, nt0, ty, Us.str link⟩) HR5.out rfl
          refine bodyPost_ret (v := .tuple #[hdV ⟨tp, nm0, nu0, ng0, nk0, nt0, ty, Us.str link⟩, .int .i64 0]) ?_ rfl ⟨by rw [HH1.out, HH2.out]; rfl, HQ5.out.andThen hof (fun k hk e => by omega)⟩
          refine results_row_tmp (p := 2) (u := 3) (ty := 23) rfl _ _ w.heap.size _ ?_ (load_hd hfin)
          rfl
        · obtain ⟨e1, e2⟩ := Us.dec_no (hdr (fun h => heq h.2))
          have HH1 := Lib.hid e1; have HH2 := Lib.hid e2
          generalize Us.enc ⟨tp, nm0, nu0, ng0, nk0, nt0, ty, Us.str link⟩ = E at *
          have hnt : ¬ (E = bs) := heq
          have hnb : (E == bs) = false := by rw [beq_eq_false_iff_ne]; exact heq
          have hnb2 : (E != bs) = true := by rw [bne, hnb]; rfl
          clear hdr hds e1 e2 hf hsp hsl heq
          unfold hdV at HE
          go_wp2_with (go_at_call 10; refine (HE.out _).mono ?_; rintro e w5 ⟨xa, xc, rfl, hr⟩; have HQ5 := Lib.hid (HQY.out.trans hr.only); have HR5 := Lib.hid (HRY.out.keep hr.only (fun x => x)); obtain ⟨d0, d1, d2, d3, d4, d5, d6, d7, dz⟩ := hd_cells HR5.out; have t1 := hr.bytes.text; have t2 := (HV.out _ HQ5.out).text; clear hr)
          obtain ⟨hfin, hof⟩ := Blk.puts_all (vs := hdL hd0) HR5.out rfl
          refine bodyPost_ret (v := .tuple #[hdV hd0, .int .i64 14]) ?_ rfl ⟨by rw [HH1.out, HH2.out]; rfl, HQ5.out.andThen hof (fun k hk e => by omega)⟩
          refine results_row_tmp (p := 2) (u := 3) (ty := 23) rfl _ _ w.heap.size _ ?_ (load_hd hfin)
          rfl)

end Go.Proofs.Ytemfelonfokcnaa
