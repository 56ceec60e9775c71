/- Read, Steps, Used, Down, Arm, New. Conditions: names no longer than Go's own limit. -/
import Derived.Test.YthjabfhfkikalaaNames
namespace Go.Proofs.Ythjabfhfkikalaa
open Go.RowKit Go.Maps Go.WideMaps

/-- The post of a read: new bytes and an error's number. -/
def ReadPost (r : Nat × List UInt8) (w : World) (e : Ending) (w' : World) : Prop :=
  ∃ a c, e = .returned (.tuple #[.slice a r.2.length c, errV r.1]) ∧ NewBytes w w' (.slice a r.2.length c) r.2 ∧ Only (fun _ => False) w w'

theorem NewBytes.none (w w' : World) : NewBytes w w' (.slice none 0 0) [] := ⟨World.ownsRow_nil _ _ _ _, by simp [Value.ownBlock]⟩
theorem NewBytes.from {w w1 w' : World} {v : Value} {bs : List UInt8} (h : NewBytes w1 w' v bs) (hz : w.heap.size ≤ w1.heap.size) : NewBytes w w' v bs := ⟨h.1, fun g hg => Nat.le_trans hz (h.2 g hg)⟩

theorem file_of {w : World} {b : Nat} {ρ : Roles} {L : Lay} {s : Dm.St} (h : Rep w b ρ L s) (hwf : s.WF) {n : Dm.Nm} {i : Nat} (hget : Dm.get s.dir n = some i) : ∃ f fl, s.files[i]? = some f ∧ L.fls[i]? = some fl ∧ FileAt w ρ i fl f ∧ s.dataOf i = f.data ∧ f.data.length ≤ 140737488355328 ∧ f.synced ≤ f.data.length := by
  have hi : i < s.files.length := hwf.dir.id _ (Dm.get_mem hget)
  have hf : s.files[i]? = some s.files[i] := List.getElem?_eq_getElem hi
  obtain ⟨fl, h1, h2⟩ := h.files i _ hf
  have hw := hwf.fil _ (List.getElem_mem hi)
  exact ⟨_, fl, hf, h1, h2, by simp [Dm.St.dataOf, hf], hw.len, hw.syn⟩

set_option maxHeartbeats 400000 in
theorem read_rep {w : World} {b : Nat} {ρ : Roles} {L : Lay} {s : Dm.St} (h : Rep w b ρ L s) (hwf : s.WF) (n : ByteArray) (hn : n.size ≤ maxLen) :
    Calls Try.prog 18 #[.pointer (some ⟨b, 0, none⟩), .string n] w (ReadPost (s.read n.data.toList) w) := by
  rcases s.find_cases n.data.toList with ⟨i, hi⟩ | ⟨x, hx, hx0⟩
  · have hf := find_ok h n hn hi
    obtain ⟨_, _, hget⟩ := Dm.St.find_some hi
    obtain ⟨f, fl, hfi, hfl, hfa, hdo, hlen, _⟩ := file_of h hwf hget
    have e : s.read n.data.toList = (0, f.data) := by simp [Dm.St.read, hi, hdo]
    rw [e]
    obtain ⟨va, vc, hvs⟩ := row_shape hfa.row
    have hF : blkOf L.fls i = fl.blk := blkOf_some hfl
    rw [hF] at hf
    have HC : Hid (∀ w1, Only (fun _ => False) w w1 → w1.cell? ⟨fl.blk, 0, none⟩ = some (.slice va f.data.length vc) ∧ Calls Try.prog 39 #[.slice va f.data.length vc] w1 fun e w' => ∃ a c, e = .returned (.slice a f.data.length c) ∧ NewBytes w1 w' (.slice a f.data.length c) f.data ∧ Only (fun _ => False) w1 w') := by
      intro w1 ho
      have hb1 : w1.heap[fl.blk]? = some (.cells #[fl.v, .int .i64 f.synced] 79 (0, 0)) := ho.keep hfa.blk (fun x => x)
      refine ⟨by rw [cell_of hb1, hvs]; rfl, ?_⟩
      have hrow := ownsRow_keep hfa.row (w' := w1) fun g hg => ho.block g (h.low g (by rw [hfa.rd g hg]; simp)) (fun x => x)
      have hba := BytesAt.of_row hrow
      rw [hvs] at hba
      exact bclone_any hba (fun k hk => by have := (hrow.lt k (by rw [hvs]; exact hk)).2; exact this) hlen
    clear e hi h hn hwf hget hfi hfl hfa hdo hlen hvs hF
    go_enter Try.func18, Try.ntmps18
    go_wp2_with (first
      | (go_at_call 44; refine hf.mono ?_; rintro e w1 ⟨rfl, ho⟩; obtain ⟨hc0, hcl⟩ := HC.out _ ho; have HO := Lib.hid ho; clear ho)
      | (go_at_call 39; refine hcl.mono ?_; rintro e w2 ⟨a, c, rfl, hnb, ho2⟩; have HNB := Lib.hid hnb; have HO2 := Lib.hid ho2; clear hnb ho2))
    go_ret2
    exact ⟨a, c, rfl, HNB.out.from HO.out.size, HO.out.trans HO2.out⟩
  · have e : s.read n.data.toList = (x, []) := by
      unfold Dm.St.read
      rw [hx]
      cases x with
      | zero => exact absurd rfl hx0
      | succ x => rfl
    have hf := find_no h n hn hx hx0
    rw [e]
    have HX := Lib.hid hx0
    clear e hx h hn hwf hx0
    go_enter Try.func18, Try.ntmps18
    go_wp2_with (go_at_call 44; refine hf.mono ?_; rintro e w1 ⟨rfl, ho⟩; have HO := Lib.hid ho; clear ho)
    go_ret2
    exact ⟨none, 0, by rw [errV_pos HX.out]; rfl, NewBytes.none _ _, HO.out⟩

set_option maxHeartbeats 400000 in
theorem steps_rep {w : World} {b : Nat} {ρ : Roles} {L : Lay} {s : Dm.St} (h : Rep w b ρ L s) : Calls Try.prog 13 #[.pointer (some ⟨b, 0, none⟩)] w fun e w' => e = .returned (.int .i64 s.steps) ∧ w = w' := by
  have hc := h.blk.c0
  clear h
  go_enter Try.func13, Try.ntmps13
  go_wp2
  go_ret
  exact ⟨rfl, rfl⟩

set_option maxHeartbeats 400000 in
theorem arm_any (b : Nat) (n : Int) (w : World) {u2 u3 : Value} (h2 : w.cell? ⟨b, 2, none⟩ = some u2) (h3 : w.cell? ⟨b, 3, none⟩ = some u3) (f2 : w.frozen? ⟨b, 2, none⟩ = false) (f3 : w.frozen? ⟨b, 3, none⟩ = false) (hn : 0 ≤ n) :
    Calls Try.prog 53 #[.pointer (some ⟨b, 0, none⟩), .int .i64 n] w fun e w' => e = .returned (errV 0) ∧ w' = (w.setCell ⟨b, 2, none⟩ (.bool true)).setCell ⟨b, 3, none⟩ (.int .i64 n) := by
  go_enter Try.func53, Try.ntmps53
  go_wp2
  go_ret
  exact ⟨rfl, rfl⟩

set_option maxHeartbeats 400000 in
theorem arm_neg (b : Nat) (n : Int) (w : World) (hn : n < 0) :
    Calls Try.prog 53 #[.pointer (some ⟨b, 0, none⟩), .int .i64 n] w fun e w' => e = .returned (errV 7) ∧ w = w' := by
  go_enter Try.func53, Try.ntmps53
  go_wp2
  go_ret
  exact ⟨rfl, rfl⟩

/-- The disk's own block turned, its directories and its files as they were. -/
theorem Rep.reblk {w w' : World} {b : Nat} {ρ : Roles} {L L' : Lay} {s s' : Dm.St} (h : Rep w b ρ L s) (ho : Only (fun k => k = b) w w') (hb : DB w' b s' L'.fv L.dir L.syn L.cv)
    (hL : L' = { L with fv := L'.fv, fo := L'.fo }) (hf : FailsAt w' L'.fv s'.fails L'.fo) (hrf : ∀ g, L'.fo = some g → ρ g = some .fails)
    (e1 : s'.dir = s.dir) (e2 : s'.syn = s.syn) (e3 : s'.chg = s.chg) (e4 : s'.files = s.files) : Rep w' b ρ L' s' := by
  have keep : ∀ k r, ρ k = some r → r ≠ .disk → w'.heap[k]? = w.heap[k]? := fun k r hr hne => ho.block k (h.low k (by rw [hr]; simp)) (fun e => by rw [e, h.rb] at hr; exact hne (Option.some.inj hr).symm)
  rw [hL]
  exact {
    blk := hb
    rb := h.rb
    fails := hf
    rf := hrf
    dir := by rw [e1]; exact h.dir.kept (keep _ _ h.rd (by simp))
    rd := h.rd
    syn := by rw [e2]; exact h.syn.kept (keep _ _ h.rs (by simp))
    rs := h.rs
    ne := h.ne
    chg := by rw [e3]; exact ownsRow_keep h.chg fun g hg => keep _ _ (h.rc g hg) (by simp)
    rc := h.rc
    files := fun i f hf => by
      rw [e4] at hf
      obtain ⟨fl, h1, h2⟩ := h.files i f hf
      exact ⟨fl, h1, h2.kept (keep _ _ h2.rb (by simp)) (fun g hg => keep _ _ (h2.rd g hg) (by simp)) (fun _ _ => rfl)⟩
    nfl := by rw [e4]; exact h.nfl
    low := fun k hk => Nat.lt_of_lt_of_le (h.low k hk) ho.size }

theorem arm_rep0 {w : World} {b : Nat} {ρ : Roles} {L : Lay} {s : Dm.St} (h : Rep w b ρ L s) (n : Int) :
    Calls Try.prog 53 #[.pointer (some ⟨b, 0, none⟩), .int .i64 n] w (OpPost b ρ w (s.arm n)) := by
  by_cases hn : n < 0
  · have e : s.arm n = (7, s) := by simp [Dm.St.arm, hn]
    rw [e]
    refine (arm_neg b n w hn).mono ?_
    rintro e w' ⟨rfl, rfl⟩
    exact OpPost.same h (Only.refl _ _) rfl
  · have e : s.arm n = (0, { s with armed := true, left := n.toNat }) := by simp [Dm.St.arm, hn]
    rw [e]
    refine (arm_any b n w h.blk.c2 h.blk.c3 (h.blk.fr 2) (h.blk.fr 3) (by omega)).mono ?_
    rintro e w' ⟨rfl, rfl⟩
    have ho : Only (fun k => k = b) w ((w.setCell ⟨b, 2, none⟩ (.bool true)).setCell ⟨b, 3, none⟩ (.int .i64 n)) := (Only.setCell (w := w) ⟨b, 2, none⟩ _).trans (Only.setCell ⟨b, 3, none⟩ _)
    refine ⟨rfl, ρ, L, h.reblk (L' := L) ho ?_ rfl ?_ h.rf rfl rfl rfl rfl, Moves.of_only ho fun k _ hk => by rw [show k = b from hk, h.rb]; simp⟩
    · have := heap_setCell_self (heap_setCell_self h.blk 2 (.bool true)) 3 (.int .i64 n)
      have e2 : ((n.toNat : Nat) : Int) = n := by omega
      simpa [DB, diskCells, e2] using this
    · exact h.fails.kept fun g hg => ho.block g (h.low g (by rw [h.rf g hg]; simp)) (fun e => by have := h.rf g hg; rw [show g = b from e, h.rb] at this; cases this)

set_option maxHeartbeats 400000 in
theorem arm_rep {w : World} {b : Nat} {ρ : Roles} {L : Lay} {s : Dm.St} (h : Rep w b ρ L s) (n : Int) :
    Calls Try.prog 26 #[.pointer (some ⟨b, 0, none⟩), .int .i64 n] w (OpPost b ρ w (s.arm n)) := by
  have ha := arm_rep0 h n
  generalize s.arm n = r at *
  clear h
  go_enter Try.func26, Try.ntmps26
  go_wp2_with (go_at_call 53; refine ha.mono ?_; rintro e w' hp; have HP := Lib.hid hp; obtain ⟨rfl, -⟩ := hp)
  go_ret
  exact HP.out

theorem DirAt.empty (w : World) : DirAt (w.alloc (.map #[] 0)) w.heap.size [] := DirAt.of (World.ownsMap_made w Try.prog 9 fileElem)

set_option maxHeartbeats 400000 in
theorem new_bad (n : Int) (w : World) (hn : n < 0 ∨ 67108864 < n) :
    Calls Try.prog 11 #[.int .i64 n] w fun e w' => e = .returned (.tuple #[.pointer none, errV 7]) ∧ w = w' := by
  rcases hn with hn | hn
  · go_enter Try.func11, Try.ntmps11
    go_wp2
    go_ret2
    exact ⟨rfl, rfl⟩
  · have hn0 : 0 ≤ n := by omega
    go_enter Try.func11, Try.ntmps11
    go_wp2
    go_ret2
    exact ⟨rfl, rfl⟩

def newRoles (n : Nat) : Roles := fun k => if k = n + 2 then some .disk else if k = n ∨ k = n + 1 then some .map else none

theorem new_end (n : Nat) (w : World) : Rep (((w.alloc (.map #[] 0)).alloc (.map #[] 0)).alloc (.cells (diskCells 0 false false 0 (.slice none 0 0) n w.heap.size (w.heap.size + 1) (.slice none 0 0)) 77)) (w.heap.size + 2) (newRoles w.heap.size) ⟨w.heap.size, w.heap.size + 1, .slice none 0 0, none, .slice none 0 0, []⟩ (Dm.St.new n) where
  blk := by
    have := heap_alloc_new ((w.alloc (.map #[] 0)).alloc (.map #[] 0)) (.cells (diskCells 0 false false 0 (.slice none 0 0) n w.heap.size (w.heap.size + 1) (.slice none 0 0)) 77)
    simpa [DB, Dm.St.new] using this
  rb := by simp [newRoles]
  fails := .inl ⟨rfl, rfl, none, 0, rfl⟩
  rf := by simp
  dir := by
    have := (DirAt.empty w)
    refine this.kept ?_
    rw [Below.heap_alloc _ _ _ (by simp; omega), Below.heap_alloc _ _ _ (by simp)]
  rd := by simp [newRoles]
  syn := by
    have := (DirAt.empty (w.alloc (.map #[] 0)))
    simp only [World.size_alloc] at this
    refine this.kept ?_
    rw [Below.heap_alloc _ _ _ (by simp)]
  rs := by simp [newRoles]
  ne := by simp
  chg := World.ownsRow_nil _ _ _ _
  rc := by simp [Value.ownBlock]
  files := by simp [Dm.St.new]
  nfl := rfl
  low := fun k hk => by
    simp only [newRoles] at hk
    simp
    by_cases h1 : k = w.heap.size + 2
    · omega
    · by_cases h2 : k = w.heap.size ∨ k = w.heap.size + 1
      · omega
      · simp [h1, h2] at hk

set_option maxHeartbeats 400000 in
theorem new_ok (n : Nat) (w : World) (hn : n ≤ 67108864) :
    Calls Try.prog 11 #[.int .i64 n] w fun e w' => ∃ b ρ L, e = .returned (.tuple #[.pointer (some ⟨b, 0, none⟩), .nilIface]) ∧ Rep w' b ρ L (Dm.St.new n) ∧ Only (fun _ => False) w w' ∧ (∀ k, k < w.heap.size → ρ k = none) ∧ w.heap.size ≤ b := by
  have h1 : (n : Int) ≤ 67108864 := by omega
  have hmm := @run_makeMap Try.prog
  go_enter Try.func11, Try.ntmps11
  go_wp2
  go_ret2
  refine ⟨w.heap.size + 2, newRoles w.heap.size, _, rfl, new_end n w, ((Only.alloc _).trans (Only.alloc _)).trans (Only.alloc _), fun k hk => ?_, by omega⟩
  unfold newRoles
  rw [if_neg (by omega), if_neg (by omega)]

end Go.Proofs.Ythjabfhfkikalaa
