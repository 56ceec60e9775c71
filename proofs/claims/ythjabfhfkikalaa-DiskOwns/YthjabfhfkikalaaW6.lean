/- Create, Remove, Rename. Conditions: counts far from an int's end; names no longer than Go's own limit. -/
import Derived.Test.YthjabfhfkikalaaW5
namespace Go.Proofs.Ythjabfhfkikalaa
open Go.RowKit Go.Maps Go.WideMaps

theorem Rep.reroles {w : World} {b : Nat} {ρ ρ1 : Roles} {L : Lay} {s : Dm.St} (h : Rep w b ρ L s) (hr : ∀ k, ρ k ≠ none → ρ1 k = ρ k) (hl : ∀ k, ρ1 k ≠ none → k < w.heap.size) : Rep w b ρ1 L s := by
  have hs : ∀ k r, ρ k = some r → ρ1 k = some r := fun k r e => by rw [hr k (by rw [e]; simp)]; exact e
  exact { blk := h.blk, rb := hs _ _ h.rb, fails := h.fails, rf := fun g hg => hs _ _ (h.rf g hg), dir := h.dir, rd := hs _ _ h.rd, syn := h.syn, rs := hs _ _ h.rs, ne := h.ne, chg := h.chg,
          rc := fun g hg => hs _ _ (h.rc g hg), files := fun i f hf => by obtain ⟨fl, h1, h2⟩ := h.files i f hf; exact ⟨fl, h1, h2.kept rfl (fun _ _ => rfl) hr⟩, nfl := h.nfl, low := hl }

/-- alter, done or not. -/
theorem alter_rep {w : World} {b : Nat} {ρ : Roles} {L : Lay} {s : Dm.St} (h : Rep w b ρ L s) (hwf : s.WF) (hst : s.steps < 2 ^ 62) (hch : s.chg.length < 2 ^ 32) (s1 s2 : ByteArray) (p : Option Addr) (c : Dm.Chg) (nf : List Dm.Fil)
    (d' : Dm.Dir) (nfl : List Fl) (hd' : d' = phys (L.fls ++ nfl) (Dm.app s.dir c)) (hnews : [.string s1, .string s2, .pointer p] = chgCells (L.fls ++ nfl) c)
    (hn : nfl.length = nf.length) (hnf : ∀ j f, nf[j]? = some f → ∃ fl, nfl[j]? = some fl ∧ FileAt w ρ (s.files.length + j) fl f)
    (ha : ∀ w1 : World, DirAt w1 L.dir (phys L.fls s.dir) → Calls Try.prog 40 #[.map (some L.dir), .agg #[.string s1, .string s2, .pointer p]] w1 fun e w' => e = .returned (.tuple #[]) ∧ DirAt w' L.dir d' ∧ Only (fun k => k = L.dir) w1 w') :
    Calls Try.prog 48 #[.pointer (some ⟨b, 0, none⟩), .agg #[.string s1, .string s2, .pointer p]] w (OpPost b ρ w (s.alter c nf)) := by
  by_cases he : s.step.1 = 0
  · exact alter_does h hwf hst s1 s2 p c nf he hch d' nfl hd' hnews hn hnf ha
  · exact alter_fails h hwf hst s1 s2 p c nf he

/-- The value of an error's number, taken apart. -/
theorem errV_cases (n : Nat) : (n = 0 ∧ errV n = .nilIface) ∨ (n ≠ 0 ∧ errV n = .iface 46 (.int .i64 n)) := by
  by_cases h : n = 0
  · exact .inl ⟨h, by rw [h]; rfl⟩
  · exact .inr ⟨h, errV_pos h⟩

theorem OpPost.same {b : Nat} {ρ : Roles} {L : Lay} {w w' : World} {s : Dm.St} {n : Nat} {e : Ending} (h : Rep w b ρ L s) (ho : Only (fun _ => False) w w') (he : e = .returned (errV n)) : OpPost b ρ w (n, s) e w' :=
  ⟨he, ρ, L, h.only_none ho, Moves.none ho⟩

set_option maxHeartbeats 400000 in
theorem create_rep {w : World} {b : Nat} {ρ : Roles} {L : Lay} {s : Dm.St} (h : Rep w b ρ L s) (hwf : s.WF) (hst : s.steps < 2 ^ 62) (hch : s.chg.length < 2 ^ 32) (n : ByteArray) (hn : n.size ≤ maxLen) :
    Calls Try.prog 20 #[.pointer (some ⟨b, 0, none⟩), .string n] w (OpPost b ρ w (s.create n.data.toList)) := by
  have hbl := h.blk.lt
  have hd1 := h.blk.c1
  have hal : Only (fun _ => False) w (w.alloc (.cells #[.string n] 9)) := Only.alloc _
  cases hdn : s.down with
  | true =>
    have e : s.create n.data.toList = (1, s) := by simp [Dm.St.create, hdn]
    have hr := ready1 b n w true hbl (by rw [hd1, hdn]) (x := 1) rfl
    rw [errV_pos (by omega)] at hr
    rw [e]
    have HA := Lib.hid hal
    have HH := Lib.hid h
    clear e hal h hd1 hn hdn hwf hst hch
    go_enter Try.func20, Try.ntmps20
    go_wp2_with (go_at_call 45; refine hr.mono ?_; rintro e w' ⟨rfl, rfl⟩)
    go_ret
    exact OpPost.same HH.out HA.out rfl
  | false =>
    cases hg : Dm.good n.data.toList with
    | false =>
      have e : s.create n.data.toList = (6, s) := by simp [Dm.St.create, hdn, hg]
      have hr := ready1 b n w false hbl (by rw [hd1, hdn]) (x := 6) (by simp [readyE, nameErr, goods, hg])
      rw [errV_pos (by omega)] at hr
      rw [e]
      have HA := Lib.hid hal
      have HH := Lib.hid h
      clear e hal h hd1 hn hdn hg hwf hst hch
      go_enter Try.func20, Try.ntmps20
      go_wp2_with (go_at_call 45; refine hr.mono ?_; rintro e w' ⟨rfl, rfl⟩)
      go_ret
      exact OpPost.same HH.out HA.out rfl
    | true =>
      have hr := ready1 b n w false hbl (by rw [hd1, hdn]) (x := 0) (by simp [readyE, nameErr, goods, hg])
      rw [errV_zero] at hr
      have hc6 : (w.alloc (.cells #[.string n] 9)).cell? ⟨b, 6, none⟩ = some (.map (some L.dir)) := by
        rw [World.cell?_of_block (Below.heap_alloc w _ b hbl)]; exact h.blk.c6
      have hda : DirAt (w.alloc (.cells #[.string n] 9)) L.dir (phys L.fls s.dir) := h.dir.kept (Below.heap_alloc _ _ _ h.dir.lt)
      have hh := has_any hda n hn
      have hf := full_any hda
      rw [get_phys] at hh
      rw [length_phys] at hf
      have HA := Lib.hid hal
      cases hget : Dm.get s.dir n.data.toList with
      | some i =>
        have e : s.create n.data.toList = (4, s) := by simp [Dm.St.create, hdn, hg, hget]
        rw [hget] at hh
        simp only [Option.map_some, Option.isSome_some] at hh
        rw [e]
        have HH := Lib.hid h
        clear e hal h hd1 hn hdn hg hda hget hf hwf hst hch
        go_enter Try.func20, Try.ntmps20
        go_wp2_with (first | (go_at_call 45; refine hr.mono ?_; rintro e w' ⟨rfl, rfl⟩) | (go_at_call 46; refine hh.mono ?_; rintro e w' ⟨rfl, rfl⟩))
        go_ret
        exact OpPost.same HH.out HA.out rfl
      | none =>
        rw [hget] at hh
        simp only [Option.map_none, Option.isSome_none] at hh
        by_cases hfull : 4096 ≤ s.dir.length
        · have e : s.create n.data.toList = (19, s) := by simp [Dm.St.create, hdn, hg, hget, hfull]
          have hfd : decide (4096 ≤ (s.dir.length : Int)) = true := by simp; omega
          rw [hfd] at hf
          rw [e]
          have HH := Lib.hid h
          clear e hal h hd1 hn hdn hg hda hget hfull hfd hwf hst hch
          go_enter Try.func20, Try.ntmps20
          go_wp2_with (first | (go_at_call 45; refine hr.mono ?_; rintro e w' ⟨rfl, rfl⟩) | (go_at_call 46; refine hh.mono ?_; rintro e w' ⟨rfl, rfl⟩) | (go_at_call 47; refine hf.mono ?_; rintro e w' ⟨rfl, rfl⟩))
          go_ret
          exact OpPost.same HH.out HA.out rfl
        · have e : s.create n.data.toList = s.alter ⟨[], n.data.toList, some s.files.length⟩ [⟨[], 0⟩] := by simp [Dm.St.create, hdn, hg, hget, hfull]
          have hfd : decide (4096 ≤ (s.dir.length : Int)) = false := by simp; omega
          rw [hfd] at hf
          rw [e]
          -- the disk, with the new file laid beside it
          have ho2 : Only (fun _ => False) w ((w.alloc (.cells #[.string n] 9)).alloc (.cells #[.slice none 0 0, .int .i64 0] 79)) := hal.trans (Only.alloc _)
          have hF : ((w.alloc (.cells #[.string n] 9)).alloc (.cells #[.slice none 0 0, .int .i64 0] 79)).heap[w.heap.size + 1]? = some (.cells #[.slice none 0 0, .int .i64 0] 79 (0, 0)) := by
            have := heap_alloc_new (w.alloc (.cells #[.string n] 9)) (.cells #[.slice none 0 0, .int .i64 0] 79)
            simpa using this
          have hnone : ∀ k, w.heap.size ≤ k → ρ k = none := fun k hk => by
            cases hx : ρ k with
            | none => rfl
            | some r => have := h.low k (by rw [hx]; simp); omega
          have h2 : Rep ((w.alloc (.cells #[.string n] 9)).alloc (.cells #[.slice none 0 0, .int .i64 0] 79)) b (fun k => if k = w.heap.size + 1 then some (.file s.files.length) else ρ k) L s := by
            refine (h.only_none ho2).reroles (fun k hk => ?_) (fun k hk => ?_)
            · rw [if_neg]; rintro rfl; exact hk (hnone _ (by omega))
            · by_cases hkF : k = w.heap.size + 1
              · rw [hkF]; exact lt_of_heap hF
              · simp only [hkF, if_false] at hk; have := h.low k hk; have := ho2.size; omega
          have hlen : s.dir.length < maxLen := by unfold maxLen; omega
          have hal2 := alter_rep h2 hwf hst hch ⟨#[]⟩ n (some ⟨w.heap.size + 1, 0, none⟩) ⟨[], n.data.toList, some s.files.length⟩ [⟨[], 0⟩]
            (Dm.put (phys L.fls s.dir) n.data.toList (w.heap.size + 1)) [⟨w.heap.size + 1, .slice none 0 0⟩]
            (by
              have e1 : Dm.app s.dir ⟨[], n.data.toList, some s.files.length⟩ = Dm.put s.dir n.data.toList s.files.length := by simp [Dm.app]
              rw [e1, put_phys, phys_append _ (fun p hp => by rw [h.nfl]; exact hwf.dir.id p hp)]
              congr 1
              simp [blkOf, ← h.nfl])
            (by simp [chgCells, str, optPtr, fptr, blkOf, ← h.nfl])
            rfl
            (by
              intro j f hj
              cases j with
              | zero =>
                simp at hj
                subst hj
                exact ⟨_, rfl, hF, World.ownsRow_nil _ _ _ _, by simp, by simp [Value.ownBlock]⟩
              | succ j => simp at hj)
            (fun w1 hw1 => apply_create hw1 n hn (w.heap.size + 1) (by rw [length_phys]; exact hlen) (Dm.good_ne hg))
          have HM : Hid (Moves ρ (fun k => if k = w.heap.size + 1 then some (.file s.files.length) else ρ k) w ((w.alloc (.cells #[.string n] 9)).alloc (.cells #[.slice none 0 0, .int .i64 0] 79))) :=
            ⟨ho2.mono (fun _ _ h => h.elim), fun k hk => by rw [if_neg (by omega)]⟩
          generalize s.alter ⟨[], n.data.toList, some s.files.length⟩ [⟨[], 0⟩] = r at *
          clear e hal h hd1 hn hdn hg hda hget hfull hfd hwf hst hch ho2 hF hnone h2 hlen
          go_enter Try.func20, Try.ntmps20
          go_wp2_with (first | (go_at_call 45; refine hr.mono ?_; rintro e w' ⟨rfl, rfl⟩) | (go_at_call 46; refine hh.mono ?_; rintro e w' ⟨rfl, rfl⟩) | (go_at_call 47; refine hf.mono ?_; rintro e w' ⟨rfl, rfl⟩) | (go_at_call 48; refine hal2.mono ?_; rintro e w' hp; have HP := Lib.hid hp; obtain ⟨rfl, -⟩ := hp))
          go_ret
          exact HP.out.after HM.out

end Go.Proofs.Ythjabfhfkikalaa
