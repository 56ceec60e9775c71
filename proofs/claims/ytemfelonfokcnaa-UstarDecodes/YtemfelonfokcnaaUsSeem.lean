/- ustar.seeming: what a block seems to say. Conditions: none. -/
import Derived.Test.YtemfelonfokcnaaUsEncA
import Derived.Deep.RegionHeld3
import Derived.Deep.DeepCutAuto
namespace Go.Proofs.Ytemfelonfokcnaa
open Go.RowKit

/-- A piece of a row. -/
theorem piece_of {w : World} {S : Nat → Prop} {a : Option Addr} {n c : Nat} {bs : List UInt8} (hv : BytesAt w S (.slice a n c) bs) (l k : Nat) (hk : l + k ≤ bs.length) (hk0 : 0 < k) :
    ∃ v, (∀ W : World, (Instr.slice 25 (.slice a n c) (some (.int .i64 (l : Int))) (some (.int .i64 ((l + k : Nat) : Int))) none).run Try.prog W = .ok v W) ∧ BytesAt w S v (Us.cut bs l k) ∧ Us.cut bs l k ≠ [] ∧ (Us.cut bs l k).length = k := by
  obtain ⟨hn, hc⟩ := hv.room
  obtain ⟨a', h1, h2⟩ := slice_lo_hi (a := a) (n := n) (cap := c) (l := l) (h := l + k) (by omega) (by omega)
  have ha : ∃ ad, a = some ad := by
    rcases hv with ⟨e, rfl⟩ | ⟨ad, c2, e, _⟩
    · simp at hk; omega
    · exact ⟨ad, (Value.slice.inj e).1⟩
  obtain ⟨ad, rfl⟩ := ha
  have hcut := hv.cut (l := l) (h := l + k) (by omega) hk h1 (fun e => by rw [h1 (by omega)] at e; cases e)
  have hlen : (Us.cut bs l k).length = k := by unfold Us.cut; rw [List.length_take, List.length_drop]; omega
  refine ⟨_, h2, ?_, ?_, hlen⟩
  · have e : (bs.take (l + k)).drop l = Us.cut bs l k := by unfold Us.cut; rw [List.drop_take]; congr 1; omega
    rw [e] at hcut
    exact hcut
  · intro e
    rw [e] at hlen
    simp at hlen
    omega

theorem byte_at {w : World} {S : Nat → Prop} {ad : Addr} {n c : Nat} {bs : List UInt8} (hv : BytesAt w S (.slice (some ad) n c) bs) (j : Nat) (hj : j < bs.length) : w.cell? (ad.add j) = some (.int .u8 ((bs.getD j 0).toNat : Int)) := by
  rcases hv with ⟨e, _⟩ | ⟨ad2, c2, e, _, _, h⟩
  · cases e
  · obtain ⟨e1, _, _⟩ := Value.slice.inj e
    cases e1
    rw [h j _ (List.getElem?_eq_getElem hj)]
    simp [byteV, List.getD, hj]

def hd0 : Hd := ⟨⟨#[]⟩, 0, 0, 0, 0, 0, 0, ⟨#[]⟩⟩
def hd1 (p : ByteArray) (t : UInt8) (l : ByteArray) : Hd := ⟨p, 0, 0, 0, 0, 0, t, l⟩

theorem size_Header : (Try.prog.info? 23).map (·.size) = some 8 := by kernel_rfl

/-- The numbers of a header, the first j read. -/
def numsL (L : List Value) (bs : Us.By) : Nat → List Value
  | 0 => L
  | j + 1 => (numsL L bs j).set (j + 1) (.int .i64 ((Us.octv (Us.cut bs (Us.fo j) (Us.fd j)) : Nat) : Int))
theorem numsL_succ (L : List Value) (bs : Us.By) (j : Nat) : numsL L bs (j + 1) = (numsL L bs j).set (j + 1) (.int .i64 ((Us.octv (Us.cut bs (Us.fo j) (Us.fd j)) : Nat) : Int)) := rfl
theorem numsL_len (L : List Value) (bs : Us.By) : ∀ j, (numsL L bs j).length = L.length
  | 0 => rfl
  | j + 1 => by rw [numsL_succ, List.length_set]; exact numsL_len L bs j
theorem fd_pos (j : Nat) (hj : j < 5) : 0 < Us.fd j := by
  obtain rfl | rfl | rfl | rfl | rfl : j = 0 ∨ j = 1 ∨ j = 2 ∨ j = 3 ∨ j = 4 := by omega
  all_goals decide

set_option maxRecDepth 100000 in
set_option maxHeartbeats 4000000 in
theorem seeming_any {w : World} {S : Nat → Prop} {v : Value} {bs : List UInt8} (hv : BytesAt w S v bs) (hS : ∀ k, S k → k < w.heap.size) (hl : bs.length = 512) :
    Calls Try.prog 36 #[v] w fun e w' => e = .returned (hdV (Us.seemP bs)) ∧ Quiet w w' := by
  obtain ⟨ad, c, rfl⟩ : ∃ ad c, v = .slice (some ad) bs.length c := by
    rcases hv with ⟨_, e⟩ | ⟨ad, c, e, _⟩
    · rw [e] at hl; simp at hl
    · exact ⟨ad, c, e⟩
  rw [hl] at hv ⊢
  have hroom := hv.room
  have hc : 512 ≤ c := by omega
  obtain ⟨va, sa, ba, na, la⟩ := piece_of hv 0 100 (by omega) (by decide)
  obtain ⟨vb, sb, bb, nb, lb⟩ := piece_of hv 157 100 (by omega) (by decide)
  obtain ⟨vc, sc, bc, nc, lc⟩ := piece_of hv 345 155 (by omega) (by decide)
  have HT1 : Hid (∀ W, Quiet w W → Calls Try.prog 42 #[va] W fun e w' => e = .returned (.string (Us.str (Us.fld (Us.cut bs 0 100)))) ∧ Quiet W w') := fun W ho =>
    text_any (ba.only ho hS (fun _ _ x => x)) (fun k hk => Nat.lt_of_lt_of_le (hS k hk) ho.size) na (by omega)
  have HT2 : Hid (∀ W, Quiet w W → Calls Try.prog 42 #[vb] W fun e w' => e = .returned (.string (Us.str (Us.fld (Us.cut bs 157 100)))) ∧ Quiet W w') := fun W ho =>
    text_any (bb.only ho hS (fun _ _ x => x)) (fun k hk => Nat.lt_of_lt_of_le (hS k hk) ho.size) nb (by omega)
  have HT3 : Hid (∀ W, Quiet w W → Calls Try.prog 42 #[vc] W fun e w' => e = .returned (.string (Us.str (Us.fld (Us.cut bs 345 155)))) ∧ Quiet W w') := fun W ho =>
    text_any (bc.only ho hS (fun _ _ x => x)) (fun k hk => Nat.lt_of_lt_of_le (hS k hk) ho.size) nc (by omega)
  have HTY : Hid (∀ W, Quiet w W → W.cell? (ad.add 156) = some (.int .u8 ((bs.getD 156 0).toNat : Int))) := fun W ho => byte_at (hv.only ho hS (fun _ _ x => x)) 156 (by omega)
  change ∀ W : World, (Instr.slice 25 (.slice (some ad) 512 c) (some (.int .i64 0)) (some (.int .i64 100)) none).run Try.prog W = .ok va W at sa
  change ∀ W : World, (Instr.slice 25 (.slice (some ad) 512 c) (some (.int .i64 157)) (some (.int .i64 257)) none).run Try.prog W = .ok vb W at sb
  change ∀ W : World, (Instr.slice 25 (.slice (some ad) 512 c) (some (.int .i64 345)) (some (.int .i64 500)) none).run Try.prog W = .ok vc W at sc
  have HSE : Hid (Us.seemP bs = ⟨Us.str (Us.join (Us.fld (Us.cut bs 345 155)) (Us.fld (Us.cut bs 0 100))), Us.octv (Us.cut bs 100 7), Us.octv (Us.cut bs 108 7), Us.octv (Us.cut bs 116 7), Us.octv (Us.cut bs 124 11), Us.octv (Us.cut bs 136 11), bs.getD 156 0, Us.str (Us.fld (Us.cut bs 157 100))⟩) := rfl
  have HSZ : Hid ((Us.fld (Us.cut bs 0 100)).length ≤ 100 ∧ (Us.fld (Us.cut bs 345 155)).length ≤ 155) := ⟨by have := (Us.fld_at (Us.cut bs 0 100)).1; omega, by have := (Us.fld_at (Us.cut bs 345 155)).1; omega⟩
  have HV := Lib.hid hv; have HS := Lib.hid hS
  have HL := Lib.hid hl
  clear ba na la bb nb lb bc nc lc hv hS hroom hl
  generalize Us.fld (Us.cut bs 0 100) = name at *
  generalize Us.fld (Us.cut bs 157 100) = link at *
  generalize Us.fld (Us.cut bs 345 155) = pref at *
  generalize bs.getD 156 0 = ty at *
  go_enter Try.func36, Try.ntmps36
  go_upto_region 1 with (fail)
  have HB0 : Hid (Blk (w.alloc (.cells (hdL hd0).toArray 23)) w.heap.size (hdL hd0) 23) := Blk.new w _ _
  have HQ0 : Hid (Quiet w (w.alloc (.cells (hdL hd0).toArray 23))) := Only.alloc _
  change Code.wp _ _ _ _ (w.alloc (.cells (hdL hd0).toArray 23))
  generalize w.alloc (.cells (hdL hd0).toArray 23) = w0 at *
  go_cut [3] (fun s3 wx => ∃ g : Nat, s3 = .pointer (some ⟨g, 0, none⟩) ∧ Blk wx g (hdL (hd1 (Us.str name) ty (Us.str link))) 23 ∧ w0.heap.size ≤ g ∧ Quiet w0 wx)
  case first =>
    have hcell : ∀ W, Quiet w0 W → W.cell? ⟨ad.block, ad.off + 156, none⟩ = some (.int .u8 (ty.toNat : Int)) := fun W ho => HTY.out W (HQ0.out.trans ho)
    have HC1 : Hid (∀ W, Quiet w0 W → Calls Try.prog 42 #[va] W fun e w' => e = .returned (.string (Us.str name)) ∧ Quiet W w') := fun W ho => HT1.out W (HQ0.out.trans ho)
    have HC2 : Hid (∀ W, Quiet w0 W → Calls Try.prog 42 #[vb] W fun e w' => e = .returned (.string (Us.str link)) ∧ Quiet W w') := fun W ho => HT2.out W (HQ0.out.trans ho)
    -- BEGIN1
    refine wp_region_held_drew (S := fun W => Quiet w0 W) (by kernel_rfl) Only.drew (fun hHeld => ?_)
    generalize w0.drew = wd at *
    refine wpAnyH_take (i := 0) (v := .slice (some ad) 512 c) rfl (by kernel_rfl) (by kernel_rfl) (by kernel_rfl) (fun _ _ _ h => h) (Or.inl ⟨by rfl, fun W hSw => by go_simp⟩) hHeld ?_
    try simp only [Act.put, List.getElem_toArray, List.getElem_cons_zero, List.setIfInBounds_toArray, List.set_cons_zero, List.set_cons_succ]
    refine wpAnyH_take (i := 1) (v := va) rfl (by kernel_rfl) (by kernel_rfl) (by kernel_rfl) (fun _ _ _ h => h) (Or.inl ⟨by rfl, fun W hSw => by go_simp⟩) hHeld ?_
    try simp only [Act.put, List.getElem_toArray, List.getElem_cons_succ, List.getElem_cons_zero, List.setIfInBounds_toArray, List.set_cons_zero, List.set_cons_succ]
    refine wpAnyH_take (i := 3) (v := .slice (some ad) 512 c) rfl (by kernel_rfl) (by kernel_rfl) (by kernel_rfl) (fun _ _ _ h => h) (Or.inl ⟨by rfl, fun W hSw => by go_simp⟩) hHeld ?_
    try simp only [Act.put, List.getElem_toArray, List.getElem_cons_succ, List.getElem_cons_zero, List.setIfInBounds_toArray, List.set_cons_zero, List.set_cons_succ]
    refine wpAnyH_take (i := 4) (v := .pointer (some ⟨ad.block, ad.off + 156, none⟩)) rfl (by kernel_rfl) (by kernel_rfl) (by kernel_rfl) (fun _ _ _ h => h) (Or.inl ⟨by rfl, fun W hSw => by go_simp⟩) hHeld ?_
    try simp only [Act.put, List.getElem_toArray, List.getElem_cons_succ, List.getElem_cons_zero, List.setIfInBounds_toArray, List.set_cons_zero, List.set_cons_succ]
    refine wpAnyH_take (i := 5) (v := .int .u8 (ty.toNat : Int)) rfl (by kernel_rfl) (by kernel_rfl) (by kernel_rfl) (fun _ _ _ h => h) (Or.inl ⟨by rfl, fun W hSw => by have z := hcell W hSw; go_simp⟩) hHeld ?_
    try simp only [Act.put, List.getElem_toArray, List.getElem_cons_succ, List.getElem_cons_zero, List.setIfInBounds_toArray, List.set_cons_zero, List.set_cons_succ]
    refine wpAnyH_take (i := 6) (v := .slice (some ad) 512 c) rfl (by kernel_rfl) (by kernel_rfl) (by kernel_rfl) (fun _ _ _ h => h) (Or.inl ⟨by rfl, fun W hSw => by go_simp⟩) hHeld ?_
    try simp only [Act.put, List.getElem_toArray, List.getElem_cons_succ, List.getElem_cons_zero, List.setIfInBounds_toArray, List.set_cons_zero, List.set_cons_succ]
    refine wpAnyH_take (i := 7) (v := vb) rfl (by kernel_rfl) (by kernel_rfl) (by kernel_rfl) (fun _ _ _ h => h) (Or.inl ⟨by rfl, fun W hSw => by go_simp⟩) hHeld ?_
    try simp only [Act.put, List.getElem_toArray, List.getElem_cons_succ, List.getElem_cons_zero, List.setIfInBounds_toArray, List.set_cons_zero, List.set_cons_succ]
    refine wpAnyH_ready (rs := [2, 10]) (by kernel_rfl) (by simp) (AllReadyH.cons rfl (fun J hJ => ?_) (AllReadyH.cons rfl (fun J hJ => ?_) AllReadyH.nil))
    · skip
      go_simp
      refine (HC1.out _ hHeld).mono ?_
      rintro e x1 ⟨rfl, hqx1⟩
      refine hJ.out _ _ (hHeld.trans hqx1) (fun hHeld => ?_)
      clear hJ J hqx1
      try simp only [Act.put, List.getElem_toArray, List.getElem_cons_succ, List.getElem_cons_zero, List.setIfInBounds_toArray, List.set_cons_zero, List.set_cons_succ]
      refine wpAnyH_ready (rs := [8, 10]) (by kernel_rfl) (by simp) (AllReadyH.cons rfl (fun J hJ => ?_) (AllReadyH.cons rfl (fun J hJ => ?_) AllReadyH.nil))
      · skip
        go_simp
        refine (HC2.out _ hHeld).mono ?_
        rintro e x2 ⟨rfl, hqx2⟩
        refine hJ.out _ _ (hHeld.trans hqx2) (fun hHeld => ?_)
        clear hJ J hqx2
        try simp only [Act.put, List.getElem_toArray, List.getElem_cons_succ, List.getElem_cons_zero, List.setIfInBounds_toArray, List.set_cons_zero, List.set_cons_succ]
        refine wpAnyH_take (i := 9) (v := .agg #[.string (Us.str name), .int .i64 0, .int .i64 0, .int .i64 0, .int .i64 0, .int .i64 0, .int .u8 (ty.toNat : Int), .string (Us.str link)]) rfl (by kernel_rfl) (by kernel_rfl) (by kernel_rfl) (fun _ _ _ h => h) (Or.inl ⟨by rfl, fun W hSw => by go_simp⟩) hHeld ?_
        try simp only [Act.put, List.getElem_toArray, List.getElem_cons_succ, List.getElem_cons_zero, List.setIfInBounds_toArray, List.set_cons_zero, List.set_cons_succ]
        refine wpAnyH_ready (rs := [10]) (by kernel_rfl) (by simp) (AllReadyH.cons rfl (fun J hJ => ?_) AllReadyH.nil)
        obtain ⟨gx3, HGx3⟩ : ∃ q, Hid (q = x2.heap.size) := ⟨_, rfl⟩
        have HBx3 := Lib.hid (Blk.new x2 [.string ⟨#[]⟩, .int .i64 0, .int .i64 0, .int .i64 0, .int .i64 0, .int .i64 0, .int .u8 0, .string ⟨#[]⟩] 23)
        have HOx3 : Hid (Quiet x2 (x2.alloc (.cells [.string ⟨#[]⟩, .int .i64 0, .int .i64 0, .int .i64 0, .int .i64 0, .int .i64 0, .int .u8 0, .string ⟨#[]⟩].toArray 23))) := Only.alloc _
        have HLx3 : Hid (w0.heap.size ≤ x2.heap.size) := hHeld.size
        rw [← HGx3.out] at HBx3 HLx3
        go_simp
        refine hJ.out _ _ (hHeld.trans HOx3.out) (fun hHeld => ?_)
        clear hJ J
        rw [← HGx3.out]
        try simp only [Act.put, List.getElem_toArray, List.getElem_cons_succ, List.getElem_cons_zero, List.setIfInBounds_toArray, List.set_cons_zero, List.set_cons_succ]
        obtain ⟨x3, HWx3⟩ : ∃ q, Hid (q = x2.alloc (.cells [.string ⟨#[]⟩, .int .i64 0, .int .i64 0, .int .i64 0, .int .i64 0, .int .i64 0, .int .u8 0, .string ⟨#[]⟩].toArray 23)) := ⟨_, rfl⟩
        rw [← HWx3.out] at HBx3 hHeld
        rw [← HWx3.out]
        clear HWx3 HGx3 HOx3
        refine wpAnyH_ready (rs := [11]) (by kernel_rfl) (by simp) (AllReadyH.cons rfl (fun J hJ => ?_) AllReadyH.nil)
        obtain ⟨c0, c1, c2, c3, c4, c5, c6, c7, fz⟩ := hd_cells (h := hd0) HBx3.out
        obtain ⟨hb, ho⟩ := Blk.puts_all (vs := (hdL (hd1 (Us.str name) ty (Us.str link)))) HBx3.out rfl
        go_simp
        have hfin : Quiet w0 (puts x3 gx3 0 ((hdL (hd1 (Us.str name) ty (Us.str link))))) := hHeld.andThen ho (fun k hk e => by have h1 := HLx3.out; omega)
        refine hJ.out _ _ hfin (fun hHeld => ?_)
        clear hJ J
        try simp only [Act.put, List.getElem_toArray, List.getElem_cons_succ, List.getElem_cons_zero, List.setIfInBounds_toArray, List.set_cons_zero, List.set_cons_succ]
        refine wpAnyH_done (by kernel_rfl) ?_ _
        go_wp2_with fail
        go_meet
        exact ⟨gx3, rfl, hb, HLx3.out, hfin⟩
      · skip
        obtain ⟨gx5, HGx5⟩ : ∃ q, Hid (q = x1.heap.size) := ⟨_, rfl⟩
        have HBx5 := Lib.hid (Blk.new x1 [.string ⟨#[]⟩, .int .i64 0, .int .i64 0, .int .i64 0, .int .i64 0, .int .i64 0, .int .u8 0, .string ⟨#[]⟩] 23)
        have HOx5 : Hid (Quiet x1 (x1.alloc (.cells [.string ⟨#[]⟩, .int .i64 0, .int .i64 0, .int .i64 0, .int .i64 0, .int .i64 0, .int .u8 0, .string ⟨#[]⟩].toArray 23))) := Only.alloc _
        have HLx5 : Hid (w0.heap.size ≤ x1.heap.size) := hHeld.size
        rw [← HGx5.out] at HBx5 HLx5
        go_simp
        refine hJ.out _ _ (hHeld.trans HOx5.out) (fun hHeld => ?_)
        clear hJ J
        rw [← HGx5.out]
        try simp only [Act.put, List.getElem_toArray, List.getElem_cons_succ, List.getElem_cons_zero, List.setIfInBounds_toArray, List.set_cons_zero, List.set_cons_succ]
        obtain ⟨x5, HWx5⟩ : ∃ q, Hid (q = x1.alloc (.cells [.string ⟨#[]⟩, .int .i64 0, .int .i64 0, .int .i64 0, .int .i64 0, .int .i64 0, .int .u8 0, .string ⟨#[]⟩].toArray 23)) := ⟨_, rfl⟩
        rw [← HWx5.out] at HBx5 hHeld
        rw [← HWx5.out]
        clear HWx5 HGx5 HOx5
        refine wpAnyH_ready (rs := [8]) (by kernel_rfl) (by simp) (AllReadyH.cons rfl (fun J hJ => ?_) AllReadyH.nil)
        go_simp
        refine (HC2.out _ hHeld).mono ?_
        rintro e x6 ⟨rfl, hqx6⟩
        have HBx6 := Lib.hid (HBx5.out.keep hqx6 (fun z => z))
        refine hJ.out _ _ (hHeld.trans hqx6) (fun hHeld => ?_)
        clear hJ J hqx6
        try simp only [Act.put, List.getElem_toArray, List.getElem_cons_succ, List.getElem_cons_zero, List.setIfInBounds_toArray, List.set_cons_zero, List.set_cons_succ]
        refine wpAnyH_take (i := 9) (v := .agg #[.string (Us.str name), .int .i64 0, .int .i64 0, .int .i64 0, .int .i64 0, .int .i64 0, .int .u8 (ty.toNat : Int), .string (Us.str link)]) rfl (by kernel_rfl) (by kernel_rfl) (by kernel_rfl) (fun _ _ _ h => h) (Or.inl ⟨by rfl, fun W hSw => by go_simp⟩) hHeld ?_
        try simp only [Act.put, List.getElem_toArray, List.getElem_cons_succ, List.getElem_cons_zero, List.setIfInBounds_toArray, List.set_cons_zero, List.set_cons_succ]
        refine wpAnyH_ready (rs := [11]) (by kernel_rfl) (by simp) (AllReadyH.cons rfl (fun J hJ => ?_) AllReadyH.nil)
        obtain ⟨c0, c1, c2, c3, c4, c5, c6, c7, fz⟩ := hd_cells (h := hd0) HBx6.out
        obtain ⟨hb, ho⟩ := Blk.puts_all (vs := (hdL (hd1 (Us.str name) ty (Us.str link)))) HBx6.out rfl
        go_simp
        have hfin : Quiet w0 (puts x6 gx5 0 ((hdL (hd1 (Us.str name) ty (Us.str link))))) := hHeld.andThen ho (fun k hk e => by have h1 := HLx5.out; omega)
        refine hJ.out _ _ hfin (fun hHeld => ?_)
        clear hJ J
        try simp only [Act.put, List.getElem_toArray, List.getElem_cons_succ, List.getElem_cons_zero, List.setIfInBounds_toArray, List.set_cons_zero, List.set_cons_succ]
        refine wpAnyH_done (by kernel_rfl) ?_ _
        go_wp2_with fail
        go_meet
        exact ⟨gx5, rfl, hb, HLx5.out, hfin⟩
    · skip
      obtain ⟨gx8, HGx8⟩ : ∃ q, Hid (q = wd.heap.size) := ⟨_, rfl⟩
      have HBx8 := Lib.hid (Blk.new wd [.string ⟨#[]⟩, .int .i64 0, .int .i64 0, .int .i64 0, .int .i64 0, .int .i64 0, .int .u8 0, .string ⟨#[]⟩] 23)
      have HOx8 : Hid (Quiet wd (wd.alloc (.cells [.string ⟨#[]⟩, .int .i64 0, .int .i64 0, .int .i64 0, .int .i64 0, .int .i64 0, .int .u8 0, .string ⟨#[]⟩].toArray 23))) := Only.alloc _
      have HLx8 : Hid (w0.heap.size ≤ wd.heap.size) := hHeld.size
      rw [← HGx8.out] at HBx8 HLx8
      go_simp
      refine hJ.out _ _ (hHeld.trans HOx8.out) (fun hHeld => ?_)
      clear hJ J
      rw [← HGx8.out]
      try simp only [Act.put, List.getElem_toArray, List.getElem_cons_succ, List.getElem_cons_zero, List.setIfInBounds_toArray, List.set_cons_zero, List.set_cons_succ]
      obtain ⟨x8, HWx8⟩ : ∃ q, Hid (q = wd.alloc (.cells [.string ⟨#[]⟩, .int .i64 0, .int .i64 0, .int .i64 0, .int .i64 0, .int .i64 0, .int .u8 0, .string ⟨#[]⟩].toArray 23)) := ⟨_, rfl⟩
      rw [← HWx8.out] at HBx8 hHeld
      rw [← HWx8.out]
      clear HWx8 HGx8 HOx8
      refine wpAnyH_ready (rs := [2]) (by kernel_rfl) (by simp) (AllReadyH.cons rfl (fun J hJ => ?_) AllReadyH.nil)
      go_simp
      refine (HC1.out _ hHeld).mono ?_
      rintro e x9 ⟨rfl, hqx9⟩
      have HBx9 := Lib.hid (HBx8.out.keep hqx9 (fun z => z))
      refine hJ.out _ _ (hHeld.trans hqx9) (fun hHeld => ?_)
      clear hJ J hqx9
      try simp only [Act.put, List.getElem_toArray, List.getElem_cons_succ, List.getElem_cons_zero, List.setIfInBounds_toArray, List.set_cons_zero, List.set_cons_succ]
      refine wpAnyH_ready (rs := [8]) (by kernel_rfl) (by simp) (AllReadyH.cons rfl (fun J hJ => ?_) AllReadyH.nil)
      go_simp
      refine (HC2.out _ hHeld).mono ?_
      rintro e x10 ⟨rfl, hqx10⟩
      have HBx10 := Lib.hid (HBx9.out.keep hqx10 (fun z => z))
      refine hJ.out _ _ (hHeld.trans hqx10) (fun hHeld => ?_)
      clear hJ J hqx10
      try simp only [Act.put, List.getElem_toArray, List.getElem_cons_succ, List.getElem_cons_zero, List.setIfInBounds_toArray, List.set_cons_zero, List.set_cons_succ]
      refine wpAnyH_take (i := 9) (v := .agg #[.string (Us.str name), .int .i64 0, .int .i64 0, .int .i64 0, .int .i64 0, .int .i64 0, .int .u8 (ty.toNat : Int), .string (Us.str link)]) rfl (by kernel_rfl) (by kernel_rfl) (by kernel_rfl) (fun _ _ _ h => h) (Or.inl ⟨by rfl, fun W hSw => by go_simp⟩) hHeld ?_
      try simp only [Act.put, List.getElem_toArray, List.getElem_cons_succ, List.getElem_cons_zero, List.setIfInBounds_toArray, List.set_cons_zero, List.set_cons_succ]
      refine wpAnyH_ready (rs := [11]) (by kernel_rfl) (by simp) (AllReadyH.cons rfl (fun J hJ => ?_) AllReadyH.nil)
      obtain ⟨c0, c1, c2, c3, c4, c5, c6, c7, fz⟩ := hd_cells (h := hd0) HBx10.out
      obtain ⟨hb, ho⟩ := Blk.puts_all (vs := (hdL (hd1 (Us.str name) ty (Us.str link)))) HBx10.out rfl
      go_simp
      have hfin : Quiet w0 (puts x10 gx8 0 ((hdL (hd1 (Us.str name) ty (Us.str link))))) := hHeld.andThen ho (fun k hk e => by have h1 := HLx8.out; omega)
      refine hJ.out _ _ hfin (fun hHeld => ?_)
      clear hJ J
      try simp only [Act.put, List.getElem_toArray, List.getElem_cons_succ, List.getElem_cons_zero, List.setIfInBounds_toArray, List.set_cons_zero, List.set_cons_succ]
      refine wpAnyH_done (by kernel_rfl) ?_ _
      go_wp2_with fail
      go_meet
      exact ⟨gx8, rfl, hb, HLx8.out, hfin⟩
    -- END1
  case rest =>
    obtain ⟨g, rfl, hbg, hge, hqg⟩ := hcut
    have HRB : Hid (Blk wc w.heap.size (hdL hd0) 23) := HB0.out.keep hqg (fun x => x)
    have HGW : Hid (w.heap.size < g) := Nat.lt_of_lt_of_le HB0.out.lt hge
    have HBG := Lib.hid hbg; have HQG := Lib.hid (HQ0.out.trans hqg)
    clear hbg hqg hge HT1 HT2 HTY HB0 HQ0
    have HREST : Hid (∀ wy tp, tp = Us.str (Us.join pref name) → Only (fun k => k = g) wc wy → Blk wy g (hdL (hd1 tp ty (Us.str link))) 23 → True) := fun _ _ _ _ _ => trivial
    have HC8 : Hid (∀ W, Only (fun k => k = g) wc W → BytesAt W S (.slice (some ad) 512 c) bs) := fun W ho => HV.out.only (HQG.out.mono (fun _ _ x => x.elim) |>.trans ho) HS.out (fun k hk e => by have h1 := HS.out k hk; have h2 := HGW.out; omega)
    rcases empty_or (Us.str pref) with he | ⟨n1, n2, n3⟩
    have hpe : pref = [] := congrArg (fun b : ByteArray => b.data.toList) he
    rw [he] at HT3
    have HJ : Hid (Us.str (Us.join pref name) = Us.str name) := by unfold Hid Us.join; rw [if_pos hpe]
    clear he hpe
    go_upto_region 5 with (go_at_call 42; refine (HT3.out _ HQG.out).mono ?_; rintro e wy ⟨rfl, hq⟩; have HBY : Hid (Blk wy g (hdL (hd1 (Us.str (Us.join pref name)) ty (Us.str link))) 23) := (by (unfold Hid; rw [HJ.out]; exact HBG.out.keep hq (fun x => x))); have HQY : Hid (Only (fun k => k = g) wc wy) := hq.mono (fun _ _ x => x.elim); clear hq)
    clear HJ HT3
    rotate_left
    have HJ : Hid (Us.str (Us.join pref name) = (Us.str pref ++ ⟨#[47]⟩) ++ Us.str name) := by
      unfold Hid Us.join
      rw [if_neg (show ¬ pref = [] from n3)]
      apply ByteArray.ext
      apply Array.toList_inj.1
      simp [Us.str, List.append_assoc]
    have z1 : (Us.str pref).size ≤ 155 := HSZ.out.2
    have z2 : (Us.str name).size ≤ 100 := HSZ.out.1
    have z3 : ¬ (9223372036854775807 < (Us.str pref).size + 1) := by omega
    have z4 : ¬ (9223372036854775807 < (Us.str pref).size + 1 + (Us.str name).size) := by omega
    clear n3
    go_upto_region 5 with (go_at_call 42; refine (HT3.out _ HQG.out).mono ?_; rintro e w9 ⟨rfl, hq⟩; have HB9 := Lib.hid (HBG.out.keep hq (fun x => x)); have HQ9 : Hid (Only (fun k => k = g) wc w9) := hq.mono (fun _ _ x => x.elim); obtain ⟨c0, c1, c2, c3, c4, c5, c6, c7, fz⟩ := hd_cells HB9.out; clear hq)
    change Code.wp _ _ _ _ (w9.setCell ⟨g, 0, none⟩ (.string ((Us.str pref ++ ⟨#[47]⟩) ++ Us.str name)))
    obtain ⟨wy, hwy⟩ : ∃ wy, wy = w9.setCell ⟨g, 0, none⟩ (.string ((Us.str pref ++ ⟨#[47]⟩) ++ Us.str name)) := ⟨_, rfl⟩
    rw [← hwy]
    have HBY : Hid (Blk wy g (hdL (hd1 (Us.str (Us.join pref name)) ty (Us.str link))) 23) := by unfold Hid; rw [hwy, HJ.out]; exact HB9.out.set 0 _
    have HQY : Hid (Only (fun k => k = g) wc wy) := by rw [hwy]; exact HQ9.out.trans (Only.setCell ⟨g, 0, none⟩ _)
    clear hwy z1 z2 z3 z4 n1 n2 HJ HB9 HQ9 c0 c1 c2 c3 c4 c5 c6 c7 fz HT3
    all_goals (
      generalize Us.str (Us.join pref name) = tp at *
      have HNU := Lib.hid (fun W => numbers_any g W)
      go_wp2_with (go_at_call 27; refine (HNU.out _).mono ?_; rintro e wz ⟨rfl, hq⟩; have HBZ := Lib.hid (HBY.out.keep hq (fun x => x)); have HQZ : Hid (Only (fun k => k = g) wc wz) := HQY.out.trans (hq.mono (fun _ _ x => x.elim)); clear hq)
      go_loopw [29] (fun iv wr => ∃ j : Nat, j ≤ 5 ∧ iv = .int .i64 (j : Int) ∧ Blk wr g (numsL (hdL (hd1 tp ty (Us.str link))) bs j) 23 ∧ Only (fun k => k = g) wc wr) (fun iv _ => 5 - (intOf iv).toNat)
      case atStart => exact ⟨0, Nat.zero_le _, rfl, HBZ.out, HQZ.out⟩
      case round =>
        obtain ⟨j, hj, rfl, hb, ho⟩ := hrel
        by_cases hlt : j < 5
        · have hix := num_index g j hlt
          obtain ⟨f1, f2⟩ := Us.fo_fd j hlt
          have f3 := fd_pos j hlt
          have hsucc := numsL_succ (hdL (hd1 tp ty (Us.str link))) bs j
          have hlen := numsL_len (hdL (hd1 tp ty (Us.str link))) bs j
          obtain ⟨vp, sp, bp, np, lp⟩ := piece_of (HC8.out wr ho) (Us.fo j) (Us.fd j) (by have := HL.out; omega) f3
          have ccell : wr.cell? ⟨g, j + 1, none⟩ = some ((numsL (hdL (hd1 tp ty (Us.str link))) bs j)[j + 1]'(by rw [hlen]; show j + 1 < 8; omega)) := by rw [hb.cell, List.getElem?_eq_getElem]
          generalize (numsL (hdL (hd1 tp ty (Us.str link))) bs j)[j + 1]'(by rw [hlen]; show j + 1 < 8; omega) = old at ccell
          have HSU := Lib.hid hsucc; have HB8 := Lib.hid hb; have HO8 := Lib.hid ho; have HCC := Lib.hid ccell
          have HPB := Lib.hid bp
          have HPL := Lib.hid lp
          have HSW : Hid (∀ k, S k → k < wr.heap.size) := fun k hk => Nat.lt_of_lt_of_le (HS.out k hk) (Nat.le_trans HQG.out.size ho.size)
          have hlt8 : Hid (g < wr.heap.size) := hb.lt
          have sp' : ∀ W : World, (Instr.slice 25 (.slice (some ad) 512 c) (some (.int .i64 (Us.fo j : Int))) (some (.int .i64 ((Us.fo j : Int) + (Us.fd j : Int)))) none).run Try.prog W = .ok vp W := fun W => by
            have := sp W
            push_cast at this
            exact this
          clear hb ho ccell bp lp np sp hsucc hlen
          have HFO : Hid (Us.fo j + Us.fd j ≤ 147) := f2
          have HFD : Hid (Us.fd j ≤ 20) := by unfold Hid; have := f2; obtain rfl | rfl | rfl | rfl | rfl : j = 0 ∨ j = 1 ∨ j = 2 ∨ j = 3 ∨ j = 4 := (by omega) <;> decide
          have HOCT : Hid (∀ W, Only (fun k => k = g) wr W → Calls Try.prog 43 #[vp] W fun e w' => e = .returned (.int .i64 ((Us.octv (Us.cut bs (Us.fo j) (Us.fd j)) : Nat) : Int)) ∧ w' = W) := fun W hw => octal_any (HPB.out.only hw HSW.out (fun k hk e => by have h1 := HS.out k hk; have h2 := HGW.out; omega)) (by rw [HPL.out]; exact HFD.out)
          generalize Us.octv (Us.cut bs (Us.fo j) (Us.fd j)) = n at *
          generalize Us.fo j = o at *
          generalize Us.fd j = d at *
          go_wp2_with fail
          have hbN : Blk (wr.alloc (.cells #[.int .i64 (o : Int), .int .i64 (d : Int), .pointer (some ⟨g, j + 1, none⟩)] 53)) wr.heap.size [.int .i64 (o : Int), .int .i64 (d : Int), .pointer (some ⟨g, j + 1, none⟩)] 53 := Blk.new wr _ _
          have hoN : Only (fun _ => False) wr (wr.alloc (.cells #[.int .i64 (o : Int), .int .i64 (d : Int), .pointer (some ⟨g, j + 1, none⟩)] 53)) := Only.alloc _
          generalize wr.alloc (.cells #[.int .i64 (o : Int), .int .i64 (d : Int), .pointer (some ⟨g, j + 1, none⟩)] 53) = wN at *
          clear hix
          have hng : ¬ (wr.heap.size = g) := by have := hlt8.out; omega
          have hn0 : ∀ W, Only (fun k => k = g) wN W → W.cell? ⟨wr.heap.size, 0, none⟩ = some (.int .i64 (o : Int)) := fun W h => (hbN.keep h hng).cell 0
          have hn1 : ∀ W, Only (fun k => k = g) wN W → W.cell? ⟨wr.heap.size, 1, none⟩ = some (.int .i64 (d : Int)) := fun W h => (hbN.keep h hng).cell 1
          have hn2 : ∀ W, Only (fun k => k = g) wN W → W.cell? ⟨wr.heap.size, 2, none⟩ = some (.pointer (some ⟨g, j + 1, none⟩)) := fun W h => (hbN.keep h hng).cell 2
          have HBD := Lib.hid (HB8.out.keep (hoN.trans Only.drew) (fun x => x))
          have HOD : Hid (Only (fun k => k = g) wr wN.drew) := (hoN.trans Only.drew).mono (fun _ _ x => x.elim)
          have HCD : Hid (wN.drew.cell? ⟨g, j + 1, none⟩ = some old) := by
            unfold Hid
            rw [World.cell?_of_block ((hoN.trans Only.drew).block g hlt8.out (fun x => x))]; exact HCC.out
          have HSETD : Hid (Blk (wN.drew.setCell ⟨g, j + 1, none⟩ (.int .i64 (n : Int))) g (numsL (hdL (hd1 tp ty (Us.str link))) bs (j + 1)) 23) := by
            have h1 := HBD.out.set (j + 1) (.int .i64 (n : Int))
            rw [← HSU.out] at h1
            exact h1
          have hwr : IntKind.i64.wrap ((o : Int) + (d : Int)) = (o : Int) + (d : Int) := IntWalk.i64_in _ (by omega)
          clear hbN hoN
          refine wp_region_held_drew (S := fun W => Only (fun k => k = g) wN W) (by kernel_rfl) (Only.drew.mono (fun _ _ x => x.elim)) (fun hHeld => ?_)
          generalize wN.drew = wd at *
          refine wpAnyH_take (i := 0) (v := .pointer (some ⟨wr.heap.size, 2, none⟩)) rfl (by kernel_rfl) (by kernel_rfl) (by kernel_rfl) (fun _ _ _ h => h) (Or.inl ⟨by rfl, fun W hSw => by go_simp⟩) hHeld ?_
          try simp only [Act.put, List.getElem_toArray, List.getElem_cons_zero, List.setIfInBounds_toArray, List.set_cons_zero, List.set_cons_succ]
          refine wpAnyH_take (i := 1) (v := .pointer (some ⟨g, j + 1, none⟩)) rfl (by kernel_rfl) (by kernel_rfl) (by kernel_rfl) (fun _ _ _ h => h) (Or.inl ⟨by rfl, fun W hSw => by have z := hn2 W hSw; go_simp⟩) hHeld ?_
          try simp only [Act.put, List.getElem_toArray, List.getElem_cons_succ, List.getElem_cons_zero, List.setIfInBounds_toArray, List.set_cons_zero, List.set_cons_succ]
          refine wpAnyH_take (i := 2) (v := .slice (some ad) 512 c) rfl (by kernel_rfl) (by kernel_rfl) (by kernel_rfl) (fun _ _ _ h => h) (Or.inl ⟨by rfl, fun W hSw => by go_simp⟩) hHeld ?_
          try simp only [Act.put, List.getElem_toArray, List.getElem_cons_succ, List.getElem_cons_zero, List.setIfInBounds_toArray, List.set_cons_zero, List.set_cons_succ]
          refine wpAnyH_take (i := 3) (v := .pointer (some ⟨wr.heap.size, 0, none⟩)) rfl (by kernel_rfl) (by kernel_rfl) (by kernel_rfl) (fun _ _ _ h => h) (Or.inl ⟨by rfl, fun W hSw => by go_simp⟩) hHeld ?_
          try simp only [Act.put, List.getElem_toArray, List.getElem_cons_succ, List.getElem_cons_zero, List.setIfInBounds_toArray, List.set_cons_zero, List.set_cons_succ]
          refine wpAnyH_take (i := 4) (v := .int .i64 (o : Int)) rfl (by kernel_rfl) (by kernel_rfl) (by kernel_rfl) (fun _ _ _ h => h) (Or.inl ⟨by rfl, fun W hSw => by have z := hn0 W hSw; go_simp⟩) hHeld ?_
          try simp only [Act.put, List.getElem_toArray, List.getElem_cons_succ, List.getElem_cons_zero, List.setIfInBounds_toArray, List.set_cons_zero, List.set_cons_succ]
          refine wpAnyH_take (i := 5) (v := .pointer (some ⟨wr.heap.size, 0, none⟩)) rfl (by kernel_rfl) (by kernel_rfl) (by kernel_rfl) (fun _ _ _ h => h) (Or.inl ⟨by rfl, fun W hSw => by go_simp⟩) hHeld ?_
          try simp only [Act.put, List.getElem_toArray, List.getElem_cons_succ, List.getElem_cons_zero, List.setIfInBounds_toArray, List.set_cons_zero, List.set_cons_succ]
          refine wpAnyH_take (i := 6) (v := .int .i64 (o : Int)) rfl (by kernel_rfl) (by kernel_rfl) (by kernel_rfl) (fun _ _ _ h => h) (Or.inl ⟨by rfl, fun W hSw => by have z := hn0 W hSw; go_simp⟩) hHeld ?_
          try simp only [Act.put, List.getElem_toArray, List.getElem_cons_succ, List.getElem_cons_zero, List.setIfInBounds_toArray, List.set_cons_zero, List.set_cons_succ]
          refine wpAnyH_take (i := 7) (v := .pointer (some ⟨wr.heap.size, 1, none⟩)) rfl (by kernel_rfl) (by kernel_rfl) (by kernel_rfl) (fun _ _ _ h => h) (Or.inl ⟨by rfl, fun W hSw => by go_simp⟩) hHeld ?_
          try simp only [Act.put, List.getElem_toArray, List.getElem_cons_succ, List.getElem_cons_zero, List.setIfInBounds_toArray, List.set_cons_zero, List.set_cons_succ]
          refine wpAnyH_take (i := 8) (v := .int .i64 (d : Int)) rfl (by kernel_rfl) (by kernel_rfl) (by kernel_rfl) (fun _ _ _ h => h) (Or.inl ⟨by rfl, fun W hSw => by have z := hn1 W hSw; go_simp⟩) hHeld ?_
          try simp only [Act.put, List.getElem_toArray, List.getElem_cons_succ, List.getElem_cons_zero, List.setIfInBounds_toArray, List.set_cons_zero, List.set_cons_succ]
          refine wpAnyH_take (i := 9) (v := .int .i64 ((o : Int) + (d : Int))) rfl (by kernel_rfl) (by kernel_rfl) (by kernel_rfl) (fun _ _ _ h => h) (Or.inl ⟨by rfl, fun W hSw => by go_simp⟩) hHeld ?_
          try simp only [Act.put, List.getElem_toArray, List.getElem_cons_succ, List.getElem_cons_zero, List.setIfInBounds_toArray, List.set_cons_zero, List.set_cons_succ]
          refine wpAnyH_take (i := 10) (v := vp) rfl (by kernel_rfl) (by kernel_rfl) (by kernel_rfl) (fun _ _ _ h => h) (Or.inl ⟨by rfl, fun W hSw => by go_simp⟩) hHeld ?_
          try simp only [Act.put, List.getElem_toArray, List.getElem_cons_succ, List.getElem_cons_zero, List.setIfInBounds_toArray, List.set_cons_zero, List.set_cons_succ]
          refine wpAnyH_ready (rs := [11]) (by kernel_rfl) (by simp) (AllReadyH.cons rfl (fun J hJ => ?_) AllReadyH.nil)
          go_simp
          refine (HOCT.out _ HOD.out).mono ?_
          rintro e x1 ⟨rfl, rfl⟩
          refine hJ.out _ _ hHeld (fun hHeld => ?_)
          clear hJ J
          try simp only [Act.put, List.getElem_toArray, List.getElem_cons_succ, List.getElem_cons_zero, List.setIfInBounds_toArray, List.set_cons_zero, List.set_cons_succ]
          refine wpAnyH_take (i := 12) (v := .pointer (some ⟨g, j + 1, none⟩)) rfl (by kernel_rfl) (by kernel_rfl) (by kernel_rfl) (fun _ _ _ h => h) (Or.inl ⟨by rfl, fun W hSw => by go_simp⟩) hHeld ?_
          try simp only [Act.put, List.getElem_toArray, List.getElem_cons_succ, List.getElem_cons_zero, List.setIfInBounds_toArray, List.set_cons_zero, List.set_cons_succ]
          refine wpAnyH_ready (rs := [13]) (by kernel_rfl) (by simp) (AllReadyH.cons rfl (fun J hJ => ?_) AllReadyH.nil)
          have ccd := HCD.out
          have fzd := HBD.out.frozen (j + 1)
          go_simp
          refine hJ.out _ _ (hHeld.trans (Only.setCell ⟨g, j + 1, none⟩ _)) (fun hHeld => ?_)
          clear hJ J
          refine wpAnyH_done (by kernel_rfl) ?_ _
          clear hn0 hn1 hn2 hHeld sp' hwr ccd fzd
          go_wp2_with fail
          refine ⟨⟨j + 1, by omega, by go_num, HSETD.out, HO8.out.trans (HOD.out.trans (Only.setCell ⟨g, j + 1, none⟩ _))⟩, by simp [intOf]; omega⟩
        · obtain rfl : j = 5 := by omega
          have hbs : Blk wr g (hdL (Us.seemP bs)) 23 := by rw [HSE.out]; exact hb
          have hrb := HRB.out.keep ho (fun e => by have h1 := HGW.out; omega)
          have HO8 := Lib.hid ho
          clear hb ho HSE
          obtain ⟨H, hH⟩ : ∃ H, Us.seemP bs = H := ⟨_, rfl⟩
          rw [hH] at hbs
          have HH := Lib.hid hH
          clear hH
          have HRB8 := Lib.hid hrb
          obtain ⟨c0, c1, c2, c3, c4, c5, c6, c7, fz⟩ := hd_cells hbs
          obtain ⟨d0, d1, d2, d3, d4, d5, d6, d7, dz⟩ := hd_cells hrb
          clear hbs hrb
          go_wp2_with fail
          obtain ⟨hfin, hof⟩ := Blk.puts_all (vs := hdL H) HRB8.out rfl
          refine bodyPost_ret (v := hdV H) (results_cell_row rfl _ _ w.heap.size 23 _ (0, 0) _ rfl hfin.heap Try.underlying23 rfl size_Header) rfl ⟨by rw [HH.out], ?_⟩
          exact (HQG.out.andThen HO8.out (fun k hk e => by have h1 := HGW.out; omega)).andThen hof (fun k hk e => by omega))

end Go.Proofs.Ytemfelonfokcnaa
