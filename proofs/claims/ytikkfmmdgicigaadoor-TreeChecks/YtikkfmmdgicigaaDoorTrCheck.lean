/- tree.Check. Conditions: texts and rows within the reach. -/
import Derived.Test.YtikkfmmdgicigaaDoorTrAdd
namespace Go.Proofs.YtikkfmmdgicigaaDoor
open Go.RowKit

/-- The entries themselves. -/
def ens (xs : List Ve) : List Tr.En := xs.map (·.2)
theorem ens_len (xs : List Ve) : (ens xs).length = xs.length := by simp [ens]
theorem ens_at {xs : List Ve} {i : Nat} (h : i < xs.length) : (ens xs)[i]'(by rw [ens_len]; exact h) = xs[i].2 := by simp [ens]
/-- Within the reach. -/
def Fit (xs : List Ve) : Prop := ∀ x ∈ xs, x.2.path.length ≤ 1000000 ∧ x.2.link.length ≤ 1000000 ∧ x.2.data.length ≤ 140737488355328

theorem lastP_fit {xs : List Ve} (h : Fit xs) (i : Nat) : (Tr.lastP ((ens xs).take i)).length ≤ 1000000 := by
  unfold Tr.lastP
  cases hl : ((ens xs).take i).getLast? with
  | none => simp
  | some e =>
    have hm := List.mem_of_getLast? hl
    have := List.mem_of_mem_take hm
    unfold ens at this
    obtain ⟨x, hx, rfl⟩ := List.mem_map.1 this
    exact (h x hx).1

set_option maxRecDepth 100000 in
set_option maxHeartbeats 4000000 in
theorem tcheck_any {w : World} (hU : U8 w) {v : Value} {xs : List Ve} (h : EntsAt w (fun k => k < w.heap.size) v xs) (hf : Fit xs) (hn : xs.length ≤ 9223372036854775807) :
    Calls Tryd.prog 12 #[v] w fun e w' => e = .returned (.tuple #[.int .i64 (Tr.check (ens xs)).1, errV (Tr.check (ens xs)).2]) ∧ Only (fun _ => False) w w' := by
  obtain ⟨a, c, rfl⟩ := h.shape
  have H := Lib.hid h
  clear h
  by_cases hbig : 200 < xs.length
  · have e : Tr.check (ens xs) = (((xs.length : Nat) : Int), 19) := by unfold Tr.check; rw [ens_len, if_pos hbig]
    rw [e, show errV 19 = .iface 36 (.int .i64 19) from rfl]
    have q : (200 : Int) < (xs.length : Nat) := by omega
    go_enter Tryd.func12, Tryd.ntmps12
    go_wp2_with fail
    go_ret2
    exact ⟨rfl, Only.refl _ _⟩
  · have e : Tr.check (ens xs) = Tr.run [] (ens xs) := by unfold Tr.check; rw [ens_len, if_neg hbig]
    rw [e]
    clear e
    have q : ¬ (200 : Int) < (xs.length : Nat) := by omega
    have hmm := @run_makeMap Tryd.prog
    go_enter Tryd.func12, Tryd.ntmps12
    go_wp2_with fail
    go_loopw [18] (fun iv wr => ∃ i : Nat, i ≤ xs.length ∧ iv = .int .i64 i ∧ (∀ j (hj : j < i) (hx : j < xs.length), Tr.errE ((ens xs).take j) xs[j].2 = 0) ∧ CkAt wr (w.heap.size + 1) w.heap.size ((ens xs).take i) ∧ Only (fun _ => False) w wr) (fun iv _ => xs.length - (intOf iv).toNat)
    case atStart =>
      refine ⟨0, Nat.zero_le _, rfl, fun j hj => by omega, ⟨?_, ⟨[], ?_, by simp, fun p => rfl⟩, by omega⟩, ?_⟩
      · exact Blk.new1 w (.map #[] 0) [.map (some w.heap.size), .string ⟨#[]⟩, .int .i64 0] 70
      · exact (KmAt.empty w).only (Only.alloc _) (fun x => x)
      · exact (Only.alloc _).trans (Only.alloc _)
    case round =>
      obtain ⟨i, hi, rfl, hacc, hck, how⟩ := hrel
      by_cases hlt : i < xs.length
      · obtain ⟨g, o, ua, uc, rfl, hg, k0, k1, k2, k3, k4, k5, k6, k7, hv, hb⟩ := (H.out.quiet how).at_ hlt
        have pz : 0 ≤ (i : Int) := by omega
        have mz : (i : Int) < (xs.length : Int) := by omega
        have hfx := hf xs[i] (List.getElem_mem hlt)
        obtain ⟨hup, htot⟩ := Tr.fine_at (ens xs) i (by rw [ens_len]; omega) (fun j hj hx => by rw [ens_at (by rw [ens_len] at hx; exact hx)]; exact hacc j hj (by rw [ens_len] at hx; exact hx))
        have HADD : Hid (∀ W, Only (fun _ => False) wr W → Calls Tryd.prog 39 #[.pointer (some ⟨w.heap.size + 1, 0, none⟩), .agg #[.string ⟨xs[i].2.path.toArray⟩, .int .i64 xs[i].2.kind, .int .i64 xs[i].2.mode, .int .i64 xs[i].2.uid, .int .i64 xs[i].2.gid, .int .i64 xs[i].2.time, .string ⟨xs[i].2.link.toArray⟩, .slice ua xs[i].2.data.length uc]] W fun e w' => e = .returned (errV (Tr.errE ((ens xs).take i) xs[i].2)) ∧ (Tr.errE ((ens xs).take i) xs[i].2 = 0 → CkAt w' (w.heap.size + 1) w.heap.size ((ens xs).take i ++ [xs[i].2])) ∧ Only (fun k => k = w.heap.size + 1 ∨ k = w.heap.size) W w') := fun W ho => by
          have hbx : BytesAt W (fun k => k < W.heap.size) xs[i].1 xs[i].2.data := by rw [hv]; exact hb.here ho (fun _ h => h)
          have := add_any (hU.quiet (how.trans ho)) (hck.only ho (fun x => x) (fun x => x)) hup (by rw [List.length_take]; omega) htot (x := xs[i]) hbx hfx.1 hfx.2.1 hfx.2.2 (lastP_fit hf i)
          unfold enV at this
          rw [hv] at this
          exact this
        have HOW := Lib.hid how
        clear hb hv hck how
        by_cases hz : Tr.errE ((ens xs).take i) xs[i].2 = 0
        · go_wp2_with (go_at_call 39; refine (HADD.out _ (Only.alloc _)).mono ?_; rintro e w2 ⟨rfl, hck2, hq⟩; rw [hz, errV_zero]; have HCK2 := Lib.hid (hck2 hz); have HQ := Lib.hid hq; clear hck2 hq)
          go_roundw
          case rel =>
            have et : (ens xs).take (i + 1) = (ens xs).take i ++ [xs[i].2] := by rw [List.take_add_one, List.getElem?_eq_getElem (by rw [ens_len]; exact hlt), ens_at hlt]; rfl
            refine ⟨i + 1, by omega, by go_num, ?_, ?_, ?_⟩
            · intro j hj hx
              rcases Nat.lt_or_ge j i with hji | hji
              · exact hacc j hji hx
              · have : j = i := by omega
                subst this
                exact hz
            · rw [et]; exact HCK2.out
            · exact (HOW.out.trans (Only.alloc _)).andThen HQ.out (fun k hk e => by omega)
          case measure => simp [intOf]; omega
        · have hrun : Tr.run [] (ens xs) = (((i : Nat) : Int), Tr.errE ((ens xs).take i) xs[i].2) := by
            have := Tr.run_at (l := ens xs) (pre := []) (i := i) (by rw [ens_len]; exact hlt) (fun j hj => by rw [List.nil_append, ens_at (by omega)]; exact hacc j hj (by omega)) (by rw [List.nil_append, ens_at hlt]; exact hz)
            rw [List.nil_append, ens_at hlt] at this
            simpa using this
          go_wp2_with (go_at_call 39; refine (HADD.out _ (Only.alloc _)).mono ?_; rintro e w2 ⟨rfl, hck2, hq⟩; rw [errV_pos hz]; have HQ := Lib.hid hq; clear hck2 hq)
          go_ret2
          exact ⟨by rw [hrun, errV_pos hz]; rfl, (HOW.out.trans (Only.alloc _)).andThen HQ.out (fun k hk e => by omega)⟩
      · have hin : i = xs.length := by omega
        subst hin
        have hrun : Tr.run [] (ens xs) = (-1, 0) := Tr.run_acc fun j hj => by
          rw [List.nil_append, ens_at (by rw [ens_len] at hj; exact hj)]
          exact hacc j (by rw [ens_len] at hj; exact hj) (by rw [ens_len] at hj; exact hj)
        have HOW := Lib.hid how
        clear how hck
        go_wp2_with fail
        go_ret2
        exact ⟨by rw [hrun]; rfl, HOW.out⟩

end Go.Proofs.YtikkfmmdgicigaaDoor
