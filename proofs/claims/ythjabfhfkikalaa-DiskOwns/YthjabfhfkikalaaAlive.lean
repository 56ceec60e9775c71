/- The fixed fact: what was written and synced is there behind a crash. Conditions: none. -/
import Derived.Test.YthjabfhfkikalaaW16
import Derived.Lib.SlBytesConst
namespace Go.Proofs.Ythjabfhfkikalaa
open Go.RowKit Go.Maps Go.WideMaps

def al0 : Dm.St := Dm.St.new 10
def al1 : Dm.St := (al0.create [97]).2
def al2 : Dm.St := (al1.append [97] [104, 101, 108, 108, 111]).2
def al3 : Dm.St := (al2.sync [97]).2
def al4 : Dm.St := al3.syncDir.2
def al5 : Dm.St := (al4.create [98]).2
def al6 : Dm.St := al5.crash 0 []
theorem al1_ok : al0.create [97] = (0, al1) := by rfl
theorem al2_ok : al1.append [97] [104, 101, 108, 108, 111] = (0, al2) := by rfl
theorem al3_ok : al2.sync [97] = (0, al3) := by rfl
theorem al4_ok : al3.syncDir = (0, al4) := by rfl
theorem al5_ok : al4.create [98] = (0, al5) := by rfl
theorem al6_read : al6.read [97] = (0, [104, 101, 108, 108, 111]) := by rfl
theorem al6_len : al6.dir.length = 1 := by rfl
theorem al6_steps : al6.steps = 5 := by rfl
theorem al0_wf : al0.WF := Dm.St.WF.new (by omega)
theorem al1_wf : al1.WF := al0_wf.create _
theorem al2_wf : al2.WF := al1_wf.append _ _
theorem al3_wf : al3.WF := al2_wf.sync _
theorem al4_wf : al4.WF := al3_wf.syncDir
theorem al5_wf : al5.WF := al4_wf.create _
theorem al6_wf : al6.WF := al5_wf.crash _ _

/-- The post of a call that goes well. -/
def WellPost (b : Nat) (ρ : Roles) (w : World) (s : Dm.St) (e : Ending) (w' : World) : Prop :=
  e = .returned .nilIface ∧ ∃ ρ' L', Rep w' b ρ' L' s ∧ Moves ρ ρ' w w'

theorem OpPost.well {b : Nat} {ρ : Roles} {w : World} {r : Nat × Dm.St} {s : Dm.St} {e : Ending} {w' : World} (h : OpPost b ρ w r e w') (hr : r = (0, s)) : WellPost b ρ w s e w' := by
  subst hr; exact h

/-- string(b). -/
theorem BytesAt.text {w : World} {S : Nat → Prop} {v : Value} {bs : List UInt8} (h : BytesAt w S v bs) : (convert 22 9 v).run Try.prog w = .ok (.string ⟨bs.toArray⟩) w := by
  rcases h with ⟨rfl, rfl⟩ | ⟨ad, c, rfl, _, hc⟩
  · kernel_rfl
  · exact run_convert_bytes_back w 22 9 5 ad c bs Try.underlying22 Try.underlying5 Try.underlying9 fun j hj => hc j bs[j] (List.getElem?_eq_getElem hj)

theorem NewBytes.bytes {w w' : World} {v : Value} {bs : List UInt8} (h : NewBytes w w' v bs) : BytesAt w' (fun k => v.ownBlock = some k) v bs := BytesAt.of_row h.1

theorem read_ok {w : World} {b : Nat} {ρ : Roles} {L : Lay} {s : Dm.St} (h : Rep w b ρ L s) (hwf : s.WF) (n : ByteArray) (hn : n.size ≤ maxLen) {bs : List UInt8} (hr : s.read n.data.toList = (0, bs)) :
    Calls Try.prog 18 #[.pointer (some ⟨b, 0, none⟩), .string n] w fun e w' => ∃ a c, e = .returned (.tuple #[.slice a bs.length c, .nilIface]) ∧ NewBytes w w' (.slice a bs.length c) bs ∧ Only (fun _ => False) w w' := by
  refine (read_rep h hwf n hn).mono fun e w' hp => ?_
  rw [hr] at hp
  exact hp

/-- The two parts 'he', 'llo', laid behind a disk. -/
theorem alive_parts {w2 : World} {b : Nat} {ρ1 : Roles} {L1 : Lay} (h : Rep w2 b ρ1 L1 al1) :
    Calls Try.prog 21 #[.pointer (some ⟨b, 0, none⟩), .string ⟨#[97]⟩, .slice (some ⟨w2.heap.size + 1 + 1, 0, none⟩) 2 2] (((w2.alloc (.cells #[.int .u8 104, .int .u8 101] 5 (2, 3))).alloc (.cells #[.int .u8 108, .int .u8 108, .int .u8 111] 5 (3, 4))).alloc (.cells #[.slice (some ⟨w2.heap.size, 0, none⟩) 2 2, .slice (some ⟨w2.heap.size + 1, 0, none⟩) 3 3] 22))
      (fun e w' => e = .returned .nilIface ∧ ∃ ρ' L', Rep w' b ρ' L' al2 ∧ Moves ρ1 ρ' w2 w') := by
  generalize hw : (((w2.alloc (.cells #[.int .u8 104, .int .u8 101] 5 (2, 3))).alloc (.cells #[.int .u8 108, .int .u8 108, .int .u8 111] 5 (3, 4))).alloc (.cells #[.slice (some ⟨w2.heap.size, 0, none⟩) 2 2, .slice (some ⟨w2.heap.size + 1, 0, none⟩) 3 3] 22)) = w3
  have ho : Only (fun _ => False) w2 w3 := by rw [← hw]; exact ((Only.alloc _).trans (Only.alloc _)).trans (Only.alloc _)
  have hz : w3.heap.size = w2.heap.size + 3 := by rw [← hw]; simp
  have b0 : w3.heap[w2.heap.size]? = some (.cells #[.int .u8 104, .int .u8 101] 5 (2, 3)) := by
    rw [← hw, Below.heap_alloc _ _ _ (by simp; omega), Below.heap_alloc _ _ _ (by simp)]; exact heap_alloc_new w2 _
  have b1 : w3.heap[w2.heap.size + 1]? = some (.cells #[.int .u8 108, .int .u8 108, .int .u8 111] 5 (3, 4)) := by
    rw [← hw, Below.heap_alloc _ _ _ (by simp)]
    have := heap_alloc_new (w2.alloc (.cells #[.int .u8 104, .int .u8 101] 5 (2, 3))) (.cells #[.int .u8 108, .int .u8 108, .int .u8 111] 5 (3, 4))
    simpa using this
  have b2 : w3.heap[w2.heap.size + 1 + 1]? = some (.cells #[.slice (some ⟨w2.heap.size, 0, none⟩) 2 2, .slice (some ⟨w2.heap.size + 1, 0, none⟩) 3 3] 22) := by
    rw [← hw]
    have := heap_alloc_new ((w2.alloc (.cells #[.int .u8 104, .int .u8 101] 5 (2, 3))).alloc (.cells #[.int .u8 108, .int .u8 108, .int .u8 111] 5 (3, 4))) (.cells #[.slice (some ⟨w2.heap.size, 0, none⟩) 2 2, .slice (some ⟨w2.heap.size + 1, 0, none⟩) 3 3] 22)
    simpa using this
  have hnone : ∀ k, w2.heap.size ≤ k → ρ1 k = none := fun k hk => by
    cases hx : ρ1 k with
    | none => rfl
    | some r => have := h.low k (by rw [hx]; simp); omega
  have hp : Parts w3 ρ1 (w2.heap.size + 1 + 1) [(.slice (some ⟨w2.heap.size, 0, none⟩) 2 2, [104, 101]), (.slice (some ⟨w2.heap.size + 1, 0, none⟩) 3 3, [108, 108, 111])] := {
    cell := fun i hi => by
      rw [cell_of b2]
      match i, hi with
      | 0, _ => rfl
      | 1, _ => rfl
    row := fun p hp => by
      simp only [List.mem_cons, List.not_mem_nil, or_false] at hp
      rcases hp with rfl | rfl
      · refine .inr ⟨⟨w2.heap.size, 0, none⟩, 2, rfl, fun _ => ⟨by show w2.heap.size < _; omega, hnone _ (Nat.le_refl _)⟩, fun j x hx => ?_⟩
        match j, hx with
        | 0, hx => cases hx; simp [Addr.add, cell_of b0, byteV]
        | 1, hx => cases hx; simp [Addr.add, cell_of b0, byteV]
      · refine .inr ⟨⟨w2.heap.size + 1, 0, none⟩, 3, rfl, fun _ => ⟨by show w2.heap.size + 1 < _; omega, hnone _ (by show _ ≤ w2.heap.size + 1; omega)⟩, fun j x hx => ?_⟩
        match j, hx with
        | 0, hx => cases hx; simp [Addr.add, cell_of b1, byteV]
        | 1, hx => cases hx; simp [Addr.add, cell_of b1, byteV]
        | 2, hx => cases hx; simp [Addr.add, cell_of b1, byteV]
    low := by omega
    rg := hnone _ (by omega)
    few := by simp
    small := fun p hp => by
      simp only [List.mem_cons, List.not_mem_nil, or_false] at hp
      rcases hp with rfl | rfl <;> simp }
  refine (append_rep (h.only_none ho) al1_wf (by decide) ⟨#[97]⟩ (by decide) (cap := 2) hp).mono fun e w' hq => ?_
  exact (OpPost.well hq al2_ok).imp id fun ⟨ρ', L', r1, r2⟩ => ⟨ρ', L', r1, (Moves.none ho).trans r2⟩

set_option maxRecDepth 100000 in
set_option maxHeartbeats 1000000 in
theorem alive_any (w : World) : Calls Try.prog 9 #[] w fun e w' => e = .returned (.bool true) ∧ Only (fun _ => False) w w' := by
  have hnew := new_ok 10 w (by omega)
  have kc := fun (w : World) (C : Array Value) (n c : Nat) => Lib.run_convert_bytes_const (P := Try.prog) w 22 5 C n c Try.underlying22 Try.underlying5
  have kc2 : ∀ (w : World) (X : Obj) (C : Array Value) (n c : Nat), (convert 22 22 (.slice (some ⟨w.heap.size + 1, 0, none⟩) n c)).run Try.prog ((w.alloc X).alloc (.cells C 5)) = .ok (.slice (some ⟨w.heap.size + 1, 0, none⟩) n c) ((w.alloc X).alloc (.cells C 5 (C.size, C.size + 1))) := by
    intro w X C n c
    have := kc (w.alloc X) C n c
    simpa using this
  go_enter Try.func9, Try.ntmps9
  go_wp2_with (first
    | (go_at_call 11; refine hnew.mono ?_; rintro e w1 ⟨b, ρ0, L0, rfl, h0, ho0, hn0, hb0⟩; have HO0 := Lib.hid ho0; have HN0 := Lib.hid hn0; have hcr := (create_rep h0 al0_wf (by decide) (by decide) ⟨#[97]⟩ (by decide)).mono fun e w' hp => OpPost.well hp al1_ok; clear h0 ho0 hn0 hb0)
    | (go_at_call 20; refine hcr.mono ?_; rintro e w2 ⟨rfl, ρ1, L1, h1, m1⟩; have happ := alive_parts h1; have M1 := Lib.hid m1; clear h1 m1 hcr)
    | (go_at_call 21; refine happ.mono ?_; rintro e w3 ⟨rfl, ρ2, L2, h2, m2⟩; have hsy := (sync_rep h2 al2_wf (by decide) ⟨#[97]⟩ (by decide)).mono fun e w' hp => OpPost.well hp al3_ok; have M2 := Lib.hid m2; clear h2 m2 happ kc kc2)
    | (go_at_call 22; refine hsy.mono ?_; rintro e w4 ⟨rfl, ρ3, L3, h3, m3⟩; have hsd := (syncDir_rep h3 al3_wf (by decide)).mono fun e w' hp => OpPost.well hp al4_ok; have M3 := Lib.hid m3; clear h3 m3 hsy)
    | (go_at_call 23; refine hsd.mono ?_; rintro e w5 ⟨rfl, ρ4, L4, h4, m4⟩; have hcr := (create_rep h4 al4_wf (by decide) (by decide) ⟨#[98]⟩ (by decide)).mono fun e w' hp => OpPost.well hp al5_ok; have M4 := Lib.hid m4; clear h4 m4 hsd))
  refine hcr.mono ?_
  rintro e w6 ⟨rfl, ρ5, L5, h5, m5⟩
  have hcrash := crash_rep h5 al5_wf 0 (.slice none 0 0) [] (.inl ⟨rfl, rfl⟩) (by decide)
  have M5 := Lib.hid m5
  clear h5 m5 hcr
  go_wp2_with (first
    | (go_at_call 15; refine hcrash.mono ?_; rintro e w7 ⟨rfl, ρ6, L6, h6, m6⟩; have H6 := Lib.hid (show Rep w7 b ρ6 L6 al6 from h6); have hrd := read_ok (show Rep w7 b ρ6 L6 al6 from h6) al6_wf ⟨#[97]⟩ (by decide) al6_read; have M6 := Lib.hid m6; clear h6 m6 hcrash)
    | (go_at_call 18; refine hrd.mono ?_; rintro e w8 ⟨ra, rc, rfl, hnb, ho8⟩; have htx : (convert 22 9 (.slice ra 5 rc)).run Try.prog w8 = .ok (.string ⟨#[104, 101, 108, 108, 111]⟩) w8 := hnb.bytes.text; have hls := list_rep (H6.out.only_none ho8) al6_wf; rw [al6_len] at hls; have HO8 := Lib.hid ho8; clear hnb ho8 hrd)
    | (go_at_call 30; refine hls.mono ?_; rintro e w9 ⟨la, lc, rfl, hnn, ho9⟩; have hst := steps_rep (H6.out.only_none (HO8.out.trans ho9)); rw [al6_steps] at hst; have HO9 := Lib.hid ho9; clear hnn ho9 hls)
    | (go_at_call 13; refine hst.mono ?_; rintro e w' ⟨rfl, rfl⟩))
  go_ret
  have hmv : Moves ρ0 ρ6 w1 w9 := (((((((M1.out.trans M2.out).trans M3.out).trans M4.out).trans M5.out).trans M6.out).trans (Moves.none HO8.out)).trans (Moves.none HO9.out))
  exact ⟨rfl, HO0.out.andThen hmv.only fun k hk hx => hx (HN0.out k hk)⟩

end Go.Proofs.Ythjabfhfkikalaa
