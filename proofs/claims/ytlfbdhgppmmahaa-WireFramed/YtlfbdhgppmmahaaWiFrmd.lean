/- The law WireFramed: frames of any bytes. Conditions: rows within the reach. -/
import Derived.Test.YtlfbdhgppmmahaaWiFrmS
import Derived.Test.YtlfbdhgppmmahaaWiRefF
import Derived.Test.YtlfbdhgppmmahaaWiFrame
import Derived.Test.YtlfbdhgppmmahaaWiApart
import Derived.Test.YtlfbdhgppmmahaaWiAlive
import Derived.Test.YtlfbdhgppmmahaaGNum
namespace Go.Proofs.Ytlfbdhgppmmahaa
open Go.RowKit

/-- A region's condition may become a stronger one on the way. -/
theorem wpAnyH_more {P : Program} {md : Region.Mode} {ops : Array Oper} {Q : Exit → Act → World → Prop} {S S' : World → Prop} (hs : ∀ w, S' w → S w) : ∀ (fuel : Nat) (listed : Array Bool) (a : Act) (w : World), wpAnyH P md ops Q S' fuel listed a w → wpAnyH P md ops Q S fuel listed a w
  | 0, _, _, _, h => h
  | fuel + 1, _, _, _, h => ⟨h.1, fun i hi => wpOp_mono (fun a' w' h' => ⟨hs _ h'.1, wpAnyH_more hs fuel _ a' w' h'.2⟩) (h.2 i hi)⟩

theorem row_empty (w w1 : World) (ho : Only (fun _ => False) w w1) : Row w (w1.alloc (.cells #[] 5)) (.slice (some ⟨w1.heap.size, 0, none⟩) 0 0) [] := by
  refine ⟨World.ownsRow_made w1 (e := 5) (size := 1) (base := 0) #[] 0 (Nat.zero_le _) (Nat.zero_le _) rfl, fun q hq => ?_, ho.trans (Only.alloc _)⟩
  have : w1.heap.size = q := Option.some.inj hq
  have := ho.size
  omega

theorem Frs.at_ {w0 w : World} {a : Option Addr} {n c : Nat} {fs : List Fr} (h : Frs w0 w (.slice a n c) fs) (i : Nat) (hi : i < fs.length) :
    ∃ q, a = some ⟨q, 0, none⟩ ∧ w.cell? ⟨q, i * 3, none⟩ = some (.int .i64 (fs[i].k.toNat : Int)) ∧ w.cell? ⟨q, i * 3 + 1, none⟩ = some fs[i].p.v ∧ w.cell? ⟨q, i * 3 + 2, none⟩ = some (.int .i64 (fs[i].at' : Int)) := by
  rcases h.row.2 with ⟨_, h0⟩ | ⟨q, cap, cur, e, _, _⟩
  · omega
  · obtain ⟨rfl, _, _⟩ := Value.slice.inj e
    have hc := h.row.cells (g := q) rfl
    refine ⟨q, rfl, ?_, ?_, ?_⟩
    · simpa [add_lit] using hc _ _ (frCells_at fs i 0 hi (by omega))
    · simpa [add_lit] using hc _ _ (frCells_at fs i 1 hi (by omega))
    · simpa [add_lit] using hc _ _ (frCells_at fs i 2 hi (by omega))

set_option maxRecDepth 100000 in
set_option maxHeartbeats 8000000 in
theorem frames4_any {w : World} {k : UInt8} {av cv bv : Value} {xs cs bs : List UInt8} (ha : BytesAt w (fun k => k < w.heap.size) av xs) (hc : BytesAt w (fun k => k < w.heap.size) cv cs) (hb : BytesAt w (fun k => k < w.heap.size) bv bs) (hla : xs.length ≤ 140737488351232) (hlc : cs.length ≤ 140737488351232) (hlb : bs.length ≤ 140737488351232) :
    Calls Try.prog 4 #[byteV k, av, cv, bv] w fun e w' => e = .returned (.bool true) ∧ Only (fun _ => False) w w' := by
  obtain ⟨aa, ac, rfl⟩ := ha.shape
  obtain ⟨ca, cc, rfl⟩ := hc.shape
  obtain ⟨ba, bc, rfl⟩ := hb.shape
  have HA := Lib.hid ha; have HC := Lib.hid hc; have HB := Lib.hid hb
  clear ha hc hb
  unfold byteV
  by_cases h1 : (xs.length : Int) > 262144
  · clear HA HC HB
    go_enter Try.func4, Try.ntmps4
    go_wp2_with fail
    refine alive_any.mono ?_; rintro e w1 ⟨rfl, ho1⟩; have HO1 := Lib.hid ho1; clear ho1
    go_wp2_with fail
    go_ret
    exact ⟨rfl, HO1.out⟩
  by_cases h2 : (cs.length : Int) > 262144
  · clear HA HC HB
    go_enter Try.func4, Try.ntmps4
    go_wp2_with fail
    refine alive_any.mono ?_; rintro e w1 ⟨rfl, ho1⟩; have HO1 := Lib.hid ho1; clear ho1
    go_wp2_with fail
    go_ret
    exact ⟨rfl, HO1.out⟩
  by_cases h3 : (bs.length : Int) > 262144
  · clear HA HC HB
    go_enter Try.func4, Try.ntmps4
    go_wp2_with fail
    refine alive_any.mono ?_; rintro e w1 ⟨rfl, ho1⟩; have HO1 := Lib.hid ho1; clear ho1
    go_wp2_with fail
    go_ret
    exact ⟨rfl, HO1.out⟩
  have HBS : Short bs.length := ⟨by omega⟩
  have HAAT : Hid (∀ w1, Only (fun _ => False) w w1 → BytesAt w1 (fun k => k < w1.heap.size) (.slice aa xs.length ac) xs) := fun w1 ho => HA.out.here ho (fun _ h => h)
  have HCAT : Hid (∀ w1, Only (fun _ => False) w w1 → BytesAt w1 (fun k => k < w1.heap.size) (.slice ca cs.length cc) cs) := fun w1 ho => HC.out.here ho (fun _ h => h)
  have HBAT : Hid (∀ w1, Only (fun _ => False) w w1 → BytesAt w1 (fun k => k < w1.heap.size) (.slice ba bs.length bc) bs) := fun w1 ho => HB.out.here ho (fun _ h => h)
  have HL1 : Hid (0 + xs.length ≤ 140737488355328) := Lib.hid (by omega)
  have HL2 : Hid (xs.length + cs.length ≤ 140737488355328) := Lib.hid (by omega)
  have HP2 : Hid (Parts [xs, cs]) := ⟨by simp, by simp [tot]; omega⟩
  have HW2 : Hid ((xs ++ cs).length ≤ 1048576) := Lib.hid (by simp; omega)
  clear HA HC HB
  go_enter Try.func4, Try.ntmps4
  go_wp2_with fail
  refine alive_any.mono ?_; rintro e w1 ⟨rfl, ho1⟩; have HO1 := Lib.hid ho1; have HR1 := Lib.hid (row_empty w w1 ho1); clear ho1
  have HA1 := Lib.hid (HAAT.out _ (HO1.out.trans (Only.alloc (.cells #[] 5))))
  go_wp2_with (at_builtin; first
    | (refine wpList_append_bytes _ rfl _ _ rfl (.slice a2 xs.length c2) (.slice ca cs.length cc) xs.length (xs.map byteV) rfl rfl HR2.out.row (HCAT.out _ HR2.out.only) HL2.out ?_; intro a3 c3 w3 hr3 hg3 hat3; have HR3 := Lib.hid (HR2.out.app (y := cs) (Only.refl _ _) rfl hr3 hg3 hat3); clear hr3 hg3 hat3)
    | (refine wpList_append_bytes _ rfl _ _ rfl (.slice (some ⟨w1.heap.size, 0, none⟩) 0 0) (.slice aa xs.length ac) 0 [] rfl rfl HR1.out.row HA1.out HL1.out ?_; intro a2 c2 w2 hr2 hg2 hat2; simp only [Nat.zero_add, List.nil_append] at hr2 hg2 hat2; have HR2 := Lib.hid (HR1.out.app (y := xs) (Only.refl _ _) (by simp) hr2 hg2 hat2); rw [List.nil_append] at HR2; clear hr2 hg2 hat2))
  have HO3 := Lib.hid HR3.out.only
  have HFL : Hid (List.flatten [xs, cs] = xs ++ cs) := Lib.hid (by simp)
  have HF4 : Hid (∀ w4, Only (fun _ => False) w w4 → Calls Try.prog 6 #[.int .u8 (k.toNat : Int), .slice (some ⟨w4.heap.size, 0, none⟩) 2 2] (w4.alloc (.cells #[.slice aa xs.length ac, .slice ca cs.length cc] 22)) fun e w' => ∃ a c, e = .returned (.slice a (Wi.frameOf k (xs ++ cs)).length c) ∧ Row w4 w' (.slice a (Wi.frameOf k (xs ++ cs)).length c) (Wi.frameOf k (xs ++ cs))) := fun w4 ho => by
    have h := frame_any (x := k) (new_two (HAAT.out w4 ho) (HCAT.out w4 ho)) (fun _ h => h) HP2.out
    rw [HFL.out] at h
    exact h.mono fun e w' ⟨a, c, he, hr⟩ => ⟨a, c, he, ⟨hr.row, fun q hq => Nat.le_trans (by simp) (hr.own q hq), (Only.alloc _).trans hr.only⟩⟩
  have HF5 : Hid (∀ w5, Only (fun _ => False) w3 w5 → Calls Try.prog 7 #[.int .u8 (k.toNat : Int), .slice a3 (xs.length + cs.length) c3] w5 fun e w' => ∃ a c, e = .returned (.slice a (Wi.frameOf k (xs ++ cs)).length c) ∧ Row w5 w' (.slice a (Wi.frameOf k (xs ++ cs)).length c) (Wi.frameOf k (xs ++ cs))) := fun w5 ho => r4frame_any (x := k) ((HR3.out.kept ho).bytes) (fun _ h => h) HW2.out
  have HF6 : Hid (∀ w6, Calls Try.prog 6 #[.int .u8 (k.toNat : Int), .slice none 0 0] w6 fun e w' => ∃ a c, e = .returned (.slice a (Wi.frameOf k []).length c) ∧ Row w6 w' (.slice a (Wi.frameOf k []).length c) (Wi.frameOf k [])) := fun w6 => by
    have h := frame_any (w := w6) (x := k) (S := fun k => k < w6.heap.size) (v := .slice none 0 0) (fs := []) ⟨none, 0, rfl, Nat.le_refl _, fun i hi => absurd hi (by simp)⟩ (fun _ h => h) ⟨by simp, by simp [tot]⟩
    exact h
  have HF7 : Hid (∀ w7, Calls Try.prog 7 #[.int .u8 (k.toNat : Int), .slice none 0 0] w7 fun e w' => ∃ a c, e = .returned (.slice a (Wi.frameOf k []).length c) ∧ Row w7 w' (.slice a (Wi.frameOf k []).length c) (Wi.frameOf k [])) := fun w7 => r4frame_any (w := w7) (x := k) (S := fun k => k < w7.heap.size) (v := .slice none 0 0) (f := []) (.inl ⟨rfl, rfl⟩) (fun _ h => h) (by simp)
  generalize Wi.frameOf k (xs ++ cs) = F at *
  generalize Wi.frameOf k [] = F0 at *
  clear HR2 HR1 HA1 HL1 HL2 HFL
  refine wp_region_held_drew (S := fun W => Only (fun _ => False) w3 W) (by kernel_rfl) Only.drew (fun hHeld => ?_)
  refine wpAnyH_take (i := 0) (v := .int .u8 (k.toNat : Int)) rfl (by kernel_rfl) (by kernel_rfl) (by kernel_rfl) (fun _ _ _ h => h) (Or.inl ⟨by rfl, fun W hSw => by go_simp⟩) hHeld ?_
  simp only [Act.put, List.getElem_toArray, List.getElem_cons_zero, List.setIfInBounds_toArray, List.set_cons_zero, List.set_cons_succ]
  refine wpAnyH_take (i := 1) (v := .slice aa xs.length ac) rfl (by kernel_rfl) (by kernel_rfl) (by kernel_rfl) (fun _ _ _ h => h) (Or.inl ⟨by rfl, fun W hSw => by go_simp⟩) hHeld ?_
  simp only [Act.put, List.getElem_toArray, List.getElem_cons_succ, List.getElem_cons_zero, List.setIfInBounds_toArray, List.set_cons_zero, List.set_cons_succ]
  refine wpAnyH_take (i := 2) (v := .slice ca cs.length cc) rfl (by kernel_rfl) (by kernel_rfl) (by kernel_rfl) (fun _ _ _ h => h) (Or.inl ⟨by rfl, fun W hSw => by go_simp⟩) hHeld ?_
  simp only [Act.put, List.getElem_toArray, List.getElem_cons_succ, List.getElem_cons_zero, List.setIfInBounds_toArray, List.set_cons_zero, List.set_cons_succ]
  refine wpAnyH_take (i := 6) (v := .int .u8 (k.toNat : Int)) rfl (by kernel_rfl) (by kernel_rfl) (by kernel_rfl) (fun _ _ _ h => h) (Or.inl ⟨by rfl, fun W hSw => by go_simp⟩) hHeld ?_
  simp only [Act.put, List.getElem_toArray, List.getElem_cons_succ, List.getElem_cons_zero, List.setIfInBounds_toArray, List.set_cons_zero, List.set_cons_succ]
  refine wpAnyH_take (i := 7) (v := .slice a3 (xs.length + cs.length) c3) rfl (by kernel_rfl) (by kernel_rfl) (by kernel_rfl) (fun _ _ _ h => h) (Or.inl ⟨by rfl, fun W hSw => by go_simp⟩) hHeld ?_
  simp only [Act.put, List.getElem_toArray, List.getElem_cons_succ, List.getElem_cons_zero, List.setIfInBounds_toArray, List.set_cons_zero, List.set_cons_succ]
  have HD4 := Lib.hid (HF4.out w3.drew (HO3.out.trans hHeld))
  refine wpAnyH_ready (rs := [3]) (by kernel_rfl) (by simp) (AllReadyH.cons rfl (fun K hK => ?_) AllReadyH.nil)
  go_simp
  refine hK.out _ _ (hHeld.trans (Only.alloc _)) (fun hHeld => ?_)
  clear hK K
  try simp only [Act.put, List.getElem_toArray, List.getElem_cons_succ, List.getElem_cons_zero, List.setIfInBounds_toArray, List.set_cons_zero, List.set_cons_succ]
  refine wpAnyH_ready (rs := [4]) (by kernel_rfl) (by simp) (AllReadyH.cons rfl (fun K hK => ?_) AllReadyH.nil)
  go_simp
  refine HD4.out.mono ?_
  rintro e w5 ⟨fa, fc, rfl, hr5⟩
  have ho5 : Only (fun _ => False) w3 w5 := Only.drew.trans hr5.only
  have ht5 : ∀ W, Only (fun _ => False) w5 W → (convert 22 9 (.slice fa F.length fc)).run Try.prog W = .ok (.string ⟨F.toArray⟩) W := fun W h => (hr5.kept h).bytes.text
  clear hr5
  refine hK.out _ _ ho5 (fun hHeld => ?_)
  clear hK K
  try simp only [Act.put, List.getElem_toArray, List.getElem_cons_succ, List.getElem_cons_zero, List.setIfInBounds_toArray, List.set_cons_zero, List.set_cons_succ]
  refine wpAnyH_more (S' := fun W => Only (fun _ => False) w5 W) (fun W h => ho5.trans h) _ _ _ _ ?_
  clear hHeld
  have hHeld : Only (fun _ => False) w5 w5 := Only.refl _ _
  refine wpAnyH_take (i := 5) (v := .string ⟨F.toArray⟩) rfl (by kernel_rfl) (by kernel_rfl) (by kernel_rfl) (fun _ _ _ h => h) (Or.inl ⟨by rfl, fun W hSw => by go_simp⟩) hHeld ?_
  simp only [Act.put, List.getElem_toArray, List.getElem_cons_succ, List.getElem_cons_zero, List.setIfInBounds_toArray, List.set_cons_zero, List.set_cons_succ]
  have HD5 := Lib.hid (HF5.out w5 ho5)
  refine wpAnyH_ready (rs := [8]) (by kernel_rfl) (by simp) (AllReadyH.cons rfl (fun K hK => ?_) AllReadyH.nil)
  go_simp
  refine HD5.out.mono ?_
  rintro e w6 ⟨ga, gc, rfl, hr6⟩
  have ho6 : Only (fun _ => False) w5 w6 := hr6.only
  have ht6 : ∀ W, Only (fun _ => False) w6 W → (convert 22 9 (.slice ga F.length gc)).run Try.prog W = .ok (.string ⟨F.toArray⟩) W := fun W h => (hr6.kept h).bytes.text
  clear hr6
  refine hK.out _ _ ho6 (fun hHeld => ?_)
  clear hK K
  try simp only [Act.put, List.getElem_toArray, List.getElem_cons_succ, List.getElem_cons_zero, List.setIfInBounds_toArray, List.set_cons_zero, List.set_cons_succ]
  refine wpAnyH_more (S' := fun W => Only (fun _ => False) w6 W) (fun W h => ho6.trans h) _ _ _ _ ?_
  clear hHeld
  have hHeld : Only (fun _ => False) w6 w6 := Only.refl _ _
  refine wpAnyH_take (i := 9) (v := .string ⟨F.toArray⟩) rfl (by kernel_rfl) (by kernel_rfl) (by kernel_rfl) (fun _ _ _ h => h) (Or.inl ⟨by rfl, fun W hSw => by go_simp⟩) hHeld ?_
  simp only [Act.put, List.getElem_toArray, List.getElem_cons_succ, List.getElem_cons_zero, List.setIfInBounds_toArray, List.set_cons_zero, List.set_cons_succ]
  refine wpAnyH_take (i := 10) (v := .bool false) rfl (by kernel_rfl) (by kernel_rfl) (by kernel_rfl) (fun _ _ _ h => h) (Or.inl ⟨by rfl, fun W hSw => by go_simp⟩) hHeld ?_
  simp only [Act.put, List.getElem_toArray, List.getElem_cons_succ, List.getElem_cons_zero, List.setIfInBounds_toArray, List.set_cons_zero, List.set_cons_succ]
  refine wpAnyH_take (i := 11) (v := .bool false) rfl (by kernel_rfl) (by kernel_rfl) (by kernel_rfl) (fun _ _ _ h => h) (Or.inl ⟨by rfl, fun W hSw => by go_simp⟩) hHeld ?_
  simp only [Act.put, List.getElem_toArray, List.getElem_cons_succ, List.getElem_cons_zero, List.setIfInBounds_toArray, List.set_cons_zero, List.set_cons_succ]
  refine wpAnyH_take (i := 12) (v := .int .u8 (k.toNat : Int)) rfl (by kernel_rfl) (by kernel_rfl) (by kernel_rfl) (fun _ _ _ h => h) (Or.inl ⟨by rfl, fun W hSw => by go_simp⟩) hHeld ?_
  simp only [Act.put, List.getElem_toArray, List.getElem_cons_succ, List.getElem_cons_zero, List.setIfInBounds_toArray, List.set_cons_zero, List.set_cons_succ]
  refine wpAnyH_take (i := 15) (v := .int .u8 (k.toNat : Int)) rfl (by kernel_rfl) (by kernel_rfl) (by kernel_rfl) (fun _ _ _ h => h) (Or.inl ⟨by rfl, fun W hSw => by go_simp⟩) hHeld ?_
  simp only [Act.put, List.getElem_toArray, List.getElem_cons_succ, List.getElem_cons_zero, List.setIfInBounds_toArray, List.set_cons_zero, List.set_cons_succ]
  have HD6 := Lib.hid (HF6.out w6)
  refine wpAnyH_ready (rs := [13]) (by kernel_rfl) (by simp) (AllReadyH.cons rfl (fun K hK => ?_) AllReadyH.nil)
  go_simp
  refine HD6.out.mono ?_
  rintro e w7 ⟨ja, jc, rfl, hr7⟩
  have ho7 : Only (fun _ => False) w6 w7 := hr7.only
  have ht7 : ∀ W, Only (fun _ => False) w7 W → (convert 22 9 (.slice ja F0.length jc)).run Try.prog W = .ok (.string ⟨F0.toArray⟩) W := fun W h => (hr7.kept h).bytes.text
  clear hr7
  refine hK.out _ _ ho7 (fun hHeld => ?_)
  clear hK K
  try simp only [Act.put, List.getElem_toArray, List.getElem_cons_succ, List.getElem_cons_zero, List.setIfInBounds_toArray, List.set_cons_zero, List.set_cons_succ]
  refine wpAnyH_more (S' := fun W => Only (fun _ => False) w7 W) (fun W h => ho7.trans h) _ _ _ _ ?_
  clear hHeld
  have hHeld : Only (fun _ => False) w7 w7 := Only.refl _ _
  refine wpAnyH_take (i := 14) (v := .string ⟨F0.toArray⟩) rfl (by kernel_rfl) (by kernel_rfl) (by kernel_rfl) (fun _ _ _ h => h) (Or.inl ⟨by rfl, fun W hSw => by go_simp⟩) hHeld ?_
  simp only [Act.put, List.getElem_toArray, List.getElem_cons_succ, List.getElem_cons_zero, List.setIfInBounds_toArray, List.set_cons_zero, List.set_cons_succ]
  have HD7 := Lib.hid (HF7.out w7)
  refine wpAnyH_ready (rs := [16]) (by kernel_rfl) (by simp) (AllReadyH.cons rfl (fun K hK => ?_) AllReadyH.nil)
  go_simp
  refine HD7.out.mono ?_
  rintro e w8 ⟨ma, mc, rfl, hr8⟩
  have ho8 : Only (fun _ => False) w7 w8 := hr8.only
  have ht8 : ∀ W, Only (fun _ => False) w8 W → (convert 22 9 (.slice ma F0.length mc)).run Try.prog W = .ok (.string ⟨F0.toArray⟩) W := fun W h => (hr8.kept h).bytes.text
  clear hr8
  refine hK.out _ _ ho8 (fun hHeld => ?_)
  clear hK K
  try simp only [Act.put, List.getElem_toArray, List.getElem_cons_succ, List.getElem_cons_zero, List.setIfInBounds_toArray, List.set_cons_zero, List.set_cons_succ]
  refine wpAnyH_more (S' := fun W => Only (fun _ => False) w8 W) (fun W h => ho8.trans h) _ _ _ _ ?_
  clear hHeld
  have hHeld : Only (fun _ => False) w8 w8 := Only.refl _ _
  refine wpAnyH_take (i := 17) (v := .string ⟨F0.toArray⟩) rfl (by kernel_rfl) (by kernel_rfl) (by kernel_rfl) (fun _ _ _ h => h) (Or.inl ⟨by rfl, fun W hSw => by go_simp⟩) hHeld ?_
  simp only [Act.put, List.getElem_toArray, List.getElem_cons_succ, List.getElem_cons_zero, List.setIfInBounds_toArray, List.set_cons_zero, List.set_cons_succ]
  refine wpAnyH_take (i := 18) (v := .bool false) rfl (by kernel_rfl) (by kernel_rfl) (by kernel_rfl) (fun _ _ _ h => h) (Or.inl ⟨by rfl, fun W hSw => by go_simp⟩) hHeld ?_
  simp only [Act.put, List.getElem_toArray, List.getElem_cons_succ, List.getElem_cons_zero, List.setIfInBounds_toArray, List.set_cons_zero, List.set_cons_succ]
  refine wpAnyH_take (i := 19) (v := .bool false) rfl (by kernel_rfl) (by kernel_rfl) (by kernel_rfl) (fun _ _ _ h => h) (Or.inl ⟨by rfl, fun W hSw => by go_simp⟩) hHeld ?_
  simp only [Act.put, List.getElem_toArray, List.getElem_cons_succ, List.getElem_cons_zero, List.setIfInBounds_toArray, List.set_cons_zero, List.set_cons_succ]
  refine wpAnyH_done (by kernel_rfl) ?_ _
  have HO8 := Lib.hid ((((HO3.out.trans ho5).trans ho6).trans ho7).trans ho8)
  clear hHeld ho5 ho6 ho7 ho8 ht5 ht6 ht7 ht8 HD4 HD5 HD6 HD7 HF4 HF5 HF6 HF7 HO3 HR3
  go_wp2_with fail
  refine (copy_any (HBAT.out w8 HO8.out) (fun _ h => h) (by have := HBS.le; omega)).mono ?_
  rintro e w9 ⟨dg, dc, rfl, hc9, hg9, ho9⟩
  have HC9 := Lib.hid hc9; have HO9 := Lib.hid (HO8.out.trans ho9)
  clear hc9 hg9 ho9 HO8
  go_wp2_with fail
  refine (frames_any HC9.out.bytes (fun k e => by subst e; exact HC9.out.lt) HBS).mono ?_
  rintro e w10 ⟨ga, gc, g, fs, to', rfl, hd⟩
  have HD10 := Lib.hid hd; have HO10 := Lib.hid (HO9.out.trans hd.lst.only)
  clear hd
  go_wp2_with fail
  refine (r4frames_any (HBAT.out w10 HO10.out) HBS).mono ?_
  rintro e w11 ⟨qa, qc, gs, to2, rfl, heq, hl, hrows⟩
  have he2 := HD10.out.eq
  rw [heq] at he2
  obtain ⟨hmap, rfl⟩ := Prod.mk.inj he2
  have hlen : gs.length = fs.length := by have := congrArg List.length hmap; simpa using this
  have ho11 : Only (fun _ => False) w10 w11 := hl.only
  have hcnt : fs.length ≤ 1048576 := by have := HD10.out.cnt; have := HBS.le; omega
  have hF1 : FramesAt w11 (.slice ga fs.length gc) (fs.map frOf) := FramesAt.of (HD10.out.lst.keep ho11) (fun i hi => ((HD10.out.pcs.at_ fs[i].p (List.mem_map.2 ⟨fs[i], List.getElem_mem hi, rfl⟩)).rest.only ho11 (fun x => x)).bytes.mono (fun k hk => hk.2))
  have hF2 : FramesAt w11 (.slice qa gs.length qc) (gs.map frOf) := FramesAt.of hl (fun i hi => by
    obtain ⟨u, hu, hby⟩ := hrows.2 i (by simpa using hi)
    have e1 : u = gs[i].p.v := by
      rw [List.getElem?_map, List.getElem?_eq_getElem hi] at hu
      exact (Option.some.inj hu).symm
    subst e1
    have e2 : (gs.map (·.p.b))[i]'(by simpa using hi) = gs[i].p.b := by simp
    rw [e2] at hby
    exact hby.mono (fun k hk => hk.lt))
  rw [hmap] at hF2
  have HSM := Lib.hid (r4same_true hF1 hF2 (by simpa using hcnt))
  have HL11 := Lib.hid (HD10.out.lst.keep ho11)
  have HP11 := Lib.hid (HD10.out.pcs.only ho11 (fun x => x))
  have HC11 := Lib.hid ((HC9.out.only HD10.out.lst.only (fun x => x)).only ho11 (fun x => x))
  have HO11 := Lib.hid (HO10.out.trans ho11)
  have HN11 : Hid (Only (fun _ => False) w9 w11) := Lib.hid (HD10.out.lst.only.trans ho11)
  have HFR : Hid (bs ≠ [] → w9.heap.size ≤ g) := Lib.hid HD10.out.fresh
  clear heq hl hrows he2 ho11 hF1 hF2 hmap HC9 HD10 HO10
  rw [hlen] at HSM ⊢
  clear hlen
  go_wp2_with fail
  refine HSM.out.mono ?_
  rintro e w12 ⟨rfl, ho12⟩
  have HK := Lib.hid (kept_any (HC11.out.only ho12 (fun x => x)) (HBAT.out w12 (HO11.out.trans ho12)) (by have := HBS.le; omega))
  have HL12 := Lib.hid (HL11.out.keep ho12)
  have HP12 := Lib.hid (HP11.out.only ho12 (fun x => x))
  have HN12 := Lib.hid (HN11.out.trans ho12)
  clear ho12 HSM HC11 HL11 HP11 HN11 HO11
  go_wp2_with fail
  refine HK.out.mono ?_
  rintro e w13 ⟨rfl, rfl⟩
  clear HK
  have HE1 : Hid (Lst w12 (w12.alloc (.cells #[] 22)) (.slice (some ⟨w12.heap.size, 0, none⟩) 0 0) []) := by
    refine ⟨World.ownsRow_made w12 (e := 22) (size := 1) (base := 0) #[] 0 (Nat.zero_le _) (Nat.zero_le _) rfl, fun q hq => ?_, Only.alloc _⟩
    have : w12.heap.size = q := Option.some.inj hq
    omega
  obtain ⟨i1, hi1, hy0, hy1, hy2⟩ := info_parts info_bytes'
  go_wp2_with fail
  go_loopw [15, 88] (fun lv iv wr => ∃ i : Nat, i ≤ fs.length ∧ iv = .int .i64 i ∧ Lst w12 wr lv ((fs.take i).map (·.p.v))) (fun _ iv _ => fs.length - (intOf iv).toNat)
  case atStart => exact ⟨0, Nat.zero_le _, rfl, by simpa using HE1.out⟩
  case round =>
    clear HE1
    obtain ⟨i, hi, rfl, hlst⟩ := hrel
    obtain ⟨ma, mc, rfl⟩ := hlst.shape
    have hul : ((fs.take i).map (·.p.v)).length = i := by simp; omega
    rw [hul]
    rw [hul] at hlst
    by_cases hlt : i < fs.length
    · obtain ⟨q, rfl, k0, k1, k2⟩ := (HL12.out.keep hlst.only).at_ i hlt
      obtain ⟨pa, hpv⟩ := (HP12.out.at_ fs[i].p (List.mem_map.2 ⟨fs[i], List.getElem_mem hlt, rfl⟩)).shape
      have htk : (fs.take (i + 1)).map (·.p.v) = (fs.take i).map (·.p.v) ++ [fs[i].p.v] := by rw [List.take_succ_eq_append_getElem hlt, List.map_append]; rfl
      have HTK := Lib.hid htk
      have HLST := Lib.hid hlst
      have HUL := Lib.hid hul
      have HU1 : Hid (i + 1 ≤ maxLen) := by unfold Hid maxLen; omega
      have HU2 : Hid ((i + 1) * 24 ≤ 140737488355328) := by unfold Hid; omega
      have pz : 0 ≤ (i : Int) := by omega
      have mz : (i : Int) < (fs.length : Int) := by omega
      rw [hpv] at k1 HTK
      generalize fs[i].p.b.length = pl at *
      generalize fs[i].k.toNat = kn at *
      generalize fs[i].at' = at0 at *
      generalize hus : (fs.take i).map (·.p.v) = us at *
      have HRG : Hid (∀ (w3 : World) (y : Obj), Only (fun _ => False) wr w3 → (w3.alloc y).ownsRow 0 22 1 (.slice ma i mc) i us) := fun w3 y ho => by
        have := (HLST.out.keep ho).row.alloc y
        rwa [HUL.out] at this
      have HNX : Hid (∀ (w3 w6 : World) (a' : Option Addr) (c' : Nat), Only (fun _ => False) wr w3 → w6.ownsRow 0 22 1 (.slice a' (i + 1) c') (i + 1) (us ++ [.slice pa pl pl]) → (w3.alloc (.cells #[.slice pa pl pl] 22)).grownBy w6 (Value.slice ma i mc).ownBlock → ((Value.slice a' (i + 1) c').ownBlock = (Value.slice ma i mc).ownBlock ∨ (Value.slice a' (i + 1) c').ownBlock = some (w3.alloc (.cells #[.slice pa pl pl] 22)).heap.size) →
          Lst w12 w6 (.slice a' (i + 1) c') ((fs.take (i + 1)).map (·.p.v))) := by
        intro w3 w6 a' c' ho hown hgr hat
        have hLf := (HLST.out.keep ho).app (w1 := w3.alloc (.cells #[.slice pa pl pl] 22)) (u := .slice pa pl pl) (a := a') (c := c') (Only.alloc _) (by rw [HUL.out]; exact hown) hgr (by rw [HUL.out]; exact hat)
        rw [HUL.out] at hLf
        rw [HTK.out]
        exact hLf
      have HX := Lib.hid (Blk.new wr [.int .i64 (kn : Int), .slice pa pl pl, .int .i64 (at0 : Int)] 38)
      have HOX : Hid (Only (fun _ => False) wr (wr.alloc (.cells #[.int .i64 (kn : Int), .slice pa pl pl, .int .i64 (at0 : Int)] 38))) := Only.alloc _
      have HSZ : Hid ((wr.alloc (.cells #[.int .i64 (kn : Int), .slice pa pl pl, .int .i64 (at0 : Int)] 38)).heap.size = wr.heap.size + 1) := World.size_alloc _ _
      have x1 : (wr.alloc (.cells #[.int .i64 (kn : Int), .slice pa pl pl, .int .i64 (at0 : Int)] 38)).cell? ⟨wr.heap.size, 1, none⟩ = some (.slice pa pl pl) := HX.out.cell 1
      have HCE : Hid (∀ j u, [Value.slice pa pl pl][j]? = some u → ((wr.alloc (.cells #[.int .i64 (kn : Int), .slice pa pl pl, .int .i64 (at0 : Int)] 38)).alloc (.cells #[.slice pa pl pl] 22)).cell? ((⟨wr.heap.size + 1, 0, none⟩ : Addr).add j) = some u) := by
        rw [← HSZ.out]; exact cell_one_new _ _ _
      clear hlst hul htk hpv hus
      go_wp2_with (at_builtin; refine wpList_append_own_at _ rfl _ _ 36 rfl 0 22 i1 _ 1 24 Try.underlying36 hi1 hy0 hy1 hy2 rfl (by omega) (.slice ma i mc) i us rfl (HRG.out _ _ HOX.out) ⟨wr.heap.size + 1, 0, none⟩ 1 1 [.slice pa pl pl] rfl rfl HCE.out (by intro u hu; simp only [List.mem_cons, List.not_mem_nil, or_false] at hu; subst hu; rfl) HU1.out HU2.out (Nat.zero_le _) ?_; intro v' w6 hown hgr hnil hat; obtain ⟨ga', gc', rfl⟩ := row_shape hown; have HNF := Lib.hid (HNX.out _ _ _ _ HOX.out hown hgr hat); clear hown hgr hnil hat)
      exact ⟨⟨i + 1, by omega, by go_num, HNF.out⟩, by simp [intOf]; omega⟩
    · have hie : fs.take i = fs := List.take_of_length_le (by omega)
      rw [hie] at hlst
      have hie2 : i = fs.length := by omega
      subst hie2
      have hL9 : Lst w9 wr (.slice ma fs.length mc) ((fs.map (·.p)).map (·.v)) := by
        rw [List.map_map]
        exact ⟨hlst.row, fun q hq => Nat.le_trans HN12.out.size (hlst.own q hq), HN12.out.trans hlst.only⟩
      have HAP := Lib.hid (apartP_any hL9 (HP12.out.only hlst.only (fun x => x)) (fun p hp hne => HFR.out (by
        rintro rfl
        have h1 := HP12.out.top p hp
        have h2 := List.length_pos_iff.2 hne
        rw [List.length_nil] at h1
        omega)) (by simpa using hcnt) (fun p hp => by have := HP12.out.top p hp; have := HBS.le; omega))
      clear hlst hL9 hie hul
      go_wp2_with fail
      refine HAP.out.mono ?_
      rintro e w14 ⟨rfl, ho14⟩
      have HO14 := Lib.hid (HO9.out.trans ho14)
      clear ho14
      go_wp2_with fail
      go_ret
      exact ⟨rfl, HO14.out⟩

end Go.Proofs.Ytlfbdhgppmmahaa
