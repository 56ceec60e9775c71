/- The count of draws never falls: of any step of any machine, so of any call. Conditions: none. -/
import Derived.Test.YtemfelonfokcnaaRows
import Derived.Lone
import Derived.RunT
import Derived.Calls
namespace Go.Proofs.Ytemfelonfokcnaa
open Go

theorem ask_drawn {α : Type} (a : Ask α) : ∀ w : World, w.drawn ≤ (w.ask a).2.drawn := by
  induction a with
  | done a => exact fun w => Nat.le_refl _
  | ask what range k ih =>
    intro w
    rw [World.ask]
    split
    · exact ih _ _
    · exact Nat.le_trans (Nat.le_succ _) (ih _ { w with drawn := w.drawn + 1 })

theorem sys_drawn (c : Sys) (w : World) : w.drawn ≤ (w.sys c).2.drawn := by
  have h := ask_drawn (Kernel.perform c w.os) w
  unfold World.sys
  split
  · exact Nat.le_refl _
  · rename_i e
    rw [e] at h
    exact h

theorem viewStore_drawn {p : Program} {w w' : World} {a k : Addr} {u : TypeId} {v : Value} {at_ : Bool} {t : List Addr} (h : w.viewStore p a u k v at_ = .ok (w', t)) : w'.drawn = w.drawn := by
  unfold World.viewStore at h
  simp only [bind, Except.bind, pure, Except.pure] at h
  repeat' first
    | (simp at h; done)
    | (simp only [Except.ok.injEq, Prod.mk.injEq] at h; obtain ⟨rfl, _⟩ := h; rfl)
    | split at h

theorem farStore_drawn {p : Program} {w w' : World} {a : Addr} {v : Value} {at_ : Bool} {t : List Addr} (h : w.farStore p a v at_ = .ok (w', t)) : w'.drawn = w.drawn := by
  unfold World.farStore at h
  split at h
  · split at h
    · rename_i r e
      simp only [Except.ok.injEq] at h
      subst h
      exact viewStore_drawn e
    · cases h
  · cases h

/-- The world of a result. -/
def rw_ {α : Type} : Result α → World
  | .ok _ w => w
  | .halt _ w => w

theorem freeze_drawn (w : World) (a : Addr) (n : Nat) : (w.freeze a n).drawn = w.drawn := by
  unfold World.freeze; split <;> rfl

theorem run_drawn {α : Type} (p : Program) (e : Sem α) : ∀ w : World, w.drawn ≤ (rw_ (e.run p w)).drawn := by
  induction e with
  | pure a => exact fun w => Nat.le_refl _
  | load m a k ih =>
    intro w
    simp only [Sem.run]
    (repeat' split) <;> first | exact ih _ _ | exact Nat.le_refl _
  | store m a v k ih =>
    intro w
    cases v <;> simp only [Sem.run] <;> first
      | exact Nat.le_refl _
      | ((repeat' split) <;> first
          | exact Nat.le_refl _
          | exact ih (w.setCell _ _)
          | (rename_i e; have := farStore_drawn e; exact Nat.le_trans (Nat.le_of_eq this.symm) (ih _)))
  | new o k ih => exact fun w => ih _ { w with heap := w.heap.push o }
  | shape r k ih => exact fun w => ih _ w
  | freeze a n k ih => intro w; have := ih (w.freeze a n); rw [freeze_drawn] at this; exact this
  | frozen a k ih => exact fun w => ih _ w
  | getObj r k ih =>
    intro w
    simp only [Sem.run]
    (repeat' split) <;> first | exact ih _ _ | exact Nat.le_refl _
  | setObj r o k ih =>
    intro w
    simp only [Sem.run]
    (repeat' split) <;> first | exact Nat.le_refl _ | exact ih { w with heap := w.heap.setIfInBounds r o }
  | choose q k ih =>
    intro w
    simp only [Sem.run]
    split
    · exact ih _ _
    · exact Nat.le_trans (Nat.le_succ _) (ih _ { w with drawn := w.drawn + 1 })
  | sys c k ih => exact fun w => Nat.le_trans (sys_drawn c w) (ih _ _)
  | program k ih => exact fun w => ih _ w
  | mark m k ih => exact fun w => ih w
  | halt h => exact fun w => Nat.le_refl _

theorem run_ok {α : Type} {p : Program} {e : Sem α} {w w' : World} {v : α} (h : e.run p w = .ok v w') : w.drawn ≤ w'.drawn := by
  have := run_drawn p e w; rw [h] at this; exact this
theorem run_halt {α : Type} {p : Program} {e : Sem α} {w w' : World} {v : Halt} (h : e.run p w = .halt v w') : w.drawn ≤ w'.drawn := by
  have := run_drawn p e w; rw [h] at this; exact this
theorem runT_ok {α : Type} {p : Program} {e : Sem α} {w w' : World} {v : α} {es es' : Array Event} (h : e.runT p w es = (.ok v w', es')) : w.drawn ≤ w'.drawn :=
  run_ok (by have := Sem.runT_fst p e w es; rw [h] at this; exact this.symm)
theorem runT_halt {α : Type} {p : Program} {e : Sem α} {w w' : World} {v : Halt} {es es' : Array Event} (h : e.runT p w es = (.halt v w', es')) : w.drawn ≤ w'.drawn :=
  run_halt (by have := Sem.runT_fst p e w es; rw [h] at this; exact this.symm)

/-- A step that doesn't end: its world has drawn as often as d, or oftener. -/
def gsOk (d : Nat) : GStep → Prop
  | .ended .. => True
  | .go _ w _ => d ≤ w.drawn
  | .comm _ _ _ _ w _ => d ≤ w.drawn
  | .spawn _ _ w _ => d ≤ w.drawn
  | .count _ w _ => d ≤ w.drawn
  | .timer _ _ w _ => d ≤ w.drawn
  | .alone _ _ w _ => d ≤ w.drawn
  | .newcoro _ _ _ w _ => d ≤ w.drawn
  | .coroswitch _ _ _ w _ => d ≤ w.drawn
  | .collect _ w _ => d ≤ w.drawn
  | .watch _ w _ => d ≤ w.drawn

theorem gsOk_after {d : Nat} {es : Array Event} {s : GStep} (h : gsOk d s) : gsOk d (GStep.after es s) := by
  cases s <;> exact h
theorem gsOk_mono {d d' : Nat} {s : GStep} (h : gsOk d' s) (hd : d ≤ d') : gsOk d s := by
  cases s <;> first | trivial | exact Nat.le_trans hd h

theorem go_ok {w w' : World} {g : Goroutine} {es : Array Event} {hp : Array Obj} (h : w.drawn ≤ w'.drawn) : gsOk w.drawn (.go g { w' with heap := hp } es) := h
theorem elim_ok {α : Type} {d : Nat} {o : Option α} {s : GStep} {f : α → GStep} (h : gsOk d s) (hf : ∀ k, gsOk d (f k)) : gsOk d (o.elim s f) := by
  cases o
  · exact h
  · exact hf _

theorem endThrow_ok (fr : Frame) (m : String) (w : World) : gsOk w.drawn (endThrow fr m w) := Nat.le_refl _
theorem dieOf_ok (fr : Frame) (l : List ByteArray) (m : String) (b : Bool) (w : World) : gsOk w.drawn (dieOf fr l m b w) := Nat.le_refl _
theorem endWith_ok (w : World) (fd : Nat) (t : ByteArray) (o : Outcome) (d : Nat) : gsOk d (endWith w fd t o) := by
  unfold endWith; simp only []
  repeat' split
  all_goals trivial
theorem endPrinting_ok (p : Program) (fr : Frame) (v : Value) (w : World) : gsOk w.drawn (endPrinting p fr v w) := by
  unfold endPrinting; simp only []
  split
  · exact endThrow_ok _ _ _
  · trivial
theorem endFatal_ok (p : Program) (fr : Frame) (cs : List Frame) (dy : Option Dying) (m : String) (w : World) : gsOk w.drawn (endFatal p fr cs dy m w) := by
  unfold endFatal; simp only []
  generalize h : Sem.run p (_ : Sem (List (ByteArray × String) × List ByteArray)) w = r
  split
  · exact gsOk_mono (dieOf_ok _ _ _ _ _) (run_ok h)
  · trivial
  · trivial
theorem doReturn_ok (p : Program) (main : Bool) (fr : Frame) (cs : List Frame) (dy : Option Dying) (v : Value) (w : World) : gsOk w.drawn (doReturn p main fr cs dy v w) := by
  unfold doReturn
  repeat' split
  all_goals first | trivial | exact Nat.le_refl _

theorem callDeferred_ok (p : Program) (fr : Frame) (cs : List Frame) (dy : Option Dying) (d : Deferred) (w : World) : gsOk w.drawn (callDeferred p fr cs dy d w) := by
  unfold callDeferred
  simp only [Sem.runT_fst]
  repeat' first
    | exact Nat.le_refl _
    | trivial
    | refine gsOk_after ?_
    | exact run_ok (by assumption)
    | exact run_halt (by assumption)
    | exact gsOk_mono (endThrow_ok _ _ _) (run_halt (by assumption))
    | exact gsOk_mono (endFatal_ok _ _ _ _ _ _) (run_halt (by assumption))
    | split

theorem unwind_ok (p : Program) (main : Bool) (fr : Frame) (cs : List Frame) (dy : Option Dying) (w : World) : gsOk w.drawn (unwind p main fr cs dy w) := by
  unfold unwind
  simp only [Sem.runT_fst]
  repeat' first
    | exact Nat.le_refl _
    | trivial
    | exact callDeferred_ok _ _ _ _ _ _
    | exact doReturn_ok _ _ _ _ _ _ _
    | exact endPrinting_ok _ _ _ _
    | refine gsOk_after ?_
    | exact gsOk_mono (doReturn_ok _ _ _ _ _ _ _) (run_ok (by assumption))
    | exact run_ok (by assumption)
    | split

theorem die_ok (p : Program) (fr : Frame) (d : Dying) (w : World) : gsOk w.drawn (die p fr d w) := by
  unfold die writeOn
  simp only [Sem.runT_fst]
  repeat' first
    | exact Nat.le_refl _
    | trivial
    | exact endWith_ok _ _ _ _ _
    | refine gsOk_after ?_
    | exact run_ok (by assumption)
    | exact run_halt (by assumption)
    | exact runT_ok (by assumption)
    | exact runT_halt (by assumption)
    | exact gsOk_mono (endPrinting_ok _ _ _ _) (run_halt (by assumption))
    | split

theorem early_ok (p : Program) (fr : Frame) (cs : List Frame) (dy : Option Dying) (g : Nat) (w : World) : gsOk w.drawn (early p fr cs dy g w) := by
  unfold early
  simp only []
  repeat' first
    | exact Nat.le_refl _
    | trivial
    | exact run_ok (by assumption)
    | exact go_ok (run_ok (by assumption))
    | split

theorem apply_ok (p : Program) (listen : Bool) (fr : Frame) (cs : List Frame) (dy : Option Dying) (s : Sem Next) (w : World) : gsOk w.drawn (stepG.apply p listen fr cs dy s w) := by
  unfold stepG.apply
  have hf : (if listen = true then s.runT p w #[] else (s.run p w, #[])).fst = s.run p w := by
    split
    · exact Sem.runT_fst _ _ _ _
    · rfl
  simp only [hf]
  refine gsOk_after ?_
  cases h : s.run p w with
  | ok v w' =>
    have hle := run_ok h
    cases v <;> simp only [] <;> first | exact hle | trivial | ((repeat' split) <;> first | exact hle | trivial | exact gsOk_mono (endThrow_ok _ _ _) hle)
  | halt v w' =>
    have hle := run_halt h
    cases v <;> (try simp only []) <;> first | exact hle | trivial | exact gsOk_mono (endThrow_ok _ _ _) hle | exact gsOk_mono (endFatal_ok _ _ _ _ _ _) hle | (rename_i u; cases u <;> (try simp only []) <;> first | trivial | exact gsOk_mono (early_ok _ _ _ _ _ _) hle)

theorem oper_ok (p : Program) (listen : Bool) (fr : Frame) (cs : List Frame) (dy : Option Dying) (w : World) : gsOk w.drawn (stepG.oper p listen fr cs dy w) := by
  unfold stepG.oper
  repeat' first
    | trivial
    | exact apply_ok _ _ _ _ _ _ _
    | split

theorem exec_ok (p : Program) (main listen : Bool) (fr : Frame) (cs : List Frame) (dy : Option Dying) (w : World) : gsOk w.drawn (stepG.exec p main listen fr cs dy w) := by
  unfold stepG.exec
  simp only [Sem.runT_fst]
  repeat' first
    | exact Nat.le_refl _
    | trivial
    | exact apply_ok _ _ _ _ _ _ _
    | exact oper_ok _ _ _ _ _ _
    | exact doReturn_ok _ _ _ _ _ _ _
    | exact gsOk_mono (apply_ok _ _ _ _ _ _ _) (run_ok (by assumption))
    | exact gsOk_mono (doReturn_ok _ _ _ _ _ _ _) (run_ok (by assumption))
    | refine gsOk_after ?_
    | exact run_ok (by assumption)
    | exact run_halt (by assumption)
    | refine elim_ok ?_ (fun _ => Nat.le_refl _)
    | exact elim_ok trivial (fun _ => apply_ok _ _ _ _ _ _ _)
    | split

theorem stepG_ok (p : Program) (main : Bool) (g : Goroutine) (w : World) (listen : Bool) : gsOk w.drawn (stepG p main g w listen) := by
  unfold stepG
  simp only []
  repeat' first
    | exact die_ok _ _ _ _
    | exact exec_ok _ _ _ _ _ _ _
    | exact unwind_ok _ _ _ _ _ _
    | split


theorem heap_ok {d : Nat} {w' : World} {hp : Array Obj} (h : d ≤ w'.drawn) : d ≤ ({ w' with heap := hp } : World).drawn := h

theorem waitingAt_ok {rest : Rest} {cases : Array CommCase} {w w' : World} (h : waitingAt rest cases w = some w') : w.drawn ≤ w'.drawn := by
  unfold waitingAt at h
  repeat' first
    | (simp at h; done)
    | (simp only [Option.some.injEq] at h; subst h; exact Nat.le_refl _)
    | split at h

theorem communicate_ok {p : Program} {rest : Rest} {gs : Array Goroutine} {i : Nat} {g : Goroutine} {cases : Array CommCase} {blocking : Bool} {shape : CommShape} {w : World} {m' : Machine}
    (h : (communicate p rest gs i g cases blocking shape w).1 = .next m') : w.drawn ≤ m'.world.drawn := by
  unfold communicate at h
  simp only [] at h
  repeat' first
    | (simp at h; done)
    | (simp only [Stepped.next.injEq] at h; subst h; first
        | exact Nat.le_refl _
        | exact run_ok (by assumption)
        | exact waitingAt_ok (by assumption)
        | exact heap_ok (run_ok (by assumption))
        | exact Nat.le_trans (run_ok (by assumption)) (run_halt (by assumption))
        | exact heap_ok (Nat.le_trans (run_ok (by assumption)) (run_ok (by assumption))))
    | split at h

theorem look_ok {p : Program} {gs : Array Goroutine} {rest : Rest} {w : World} {m' : Machine} (h : look p gs rest w = .next m') : w.drawn ≤ m'.world.drawn := by
  unfold look at h
  simp only [] at h
  repeat' first
    | (simp at h; done)
    | (simp only [Stepped.next.injEq] at h; subst h; simp only []; exact run_ok (by assumption))
    | split at h


def stOk (d : Nat) : Stepped → Prop
  | .next m => d ≤ m.world.drawn
  | .ended .. => True

theorem retime_ok (m : Machine) (k : Nat) (t : Timer) (a b : Nat) : (retime m k t a b).2.world.drawn = m.world.drawn := by
  unfold retime drain
  simp only []
  repeat' split
  all_goals rfl

theorem opened_ok {m m' : Machine} {a : Addr} (h : timerOp.opened m a = some m') : m'.world.drawn = m.world.drawn := by
  unfold timerOp.opened at h
  repeat' first
    | (simp at h; done)
    | (simp only [Option.some.injEq] at h; subst h; rfl)
    | split at h

theorem timerOp_ok {m m' : Machine} {op : TimerOp} {v : Value} (h : timerOp m op = .ok (v, m')) : m'.world.drawn = m.world.drawn := by
  unfold timerOp timerOp.named at h
  simp only [] at h
  repeat' first
    | (simp at h; done)
    | (simp only [Except.ok.injEq, Prod.mk.injEq] at h; obtain ⟨_, rfl⟩ := h; rfl)
    | (simp only [Except.ok.injEq] at h; have hh := congrArg Prod.snd h; simp only [] at hh; subst hh; first
        | exact (retime_ok _ _ _ _ _).trans (opened_ok (by assumption))
        | exact retime_ok _ _ _ _ _)
    | split at h

theorem endThrow_w {fr : Frame} {m : String} {w w' : World} {g : Goroutine} {es : Array Event} (h : endThrow fr m w = .go g w' es) : w'.drawn = w.drawn := by
  unfold endThrow dieOf at h
  injection h with _ e _
  rw [e]

theorem runT_ok2 {p : Program} {m m' : Machine} {i : Nat} {b : Bool} (h : (runT p m i b).1 = .next m') : m.world.drawn ≤ m'.world.drawn := by
  simp only [runT] at h
  generalize m.gs.swapAt! _ _ = gg at h
  have hs := stepG_ok p (i == 0) gg.1 m.world b
  generalize stepG p _ gg.1 m.world b = s at h hs
  cases s <;> simp only [] at h
  all_goals first
    | (simp at h; done)
    | exact Nat.le_trans hs (communicate_ok h)
    | exact Nat.le_trans hs (look_ok h)
    | (simp only [Stepped.next.injEq] at h; subst h; exact hs)
    | (repeat' first
        | (simp at h; done)
        | (simp only [Stepped.next.injEq] at h; subst h; first
            | exact hs
            | exact Nat.le_trans hs (Nat.le_of_eq (timerOp_ok (by assumption)).symm)
            | exact Nat.le_trans hs (Nat.le_of_eq (endThrow_w (by assumption)).symm))
        | split at h)

theorem serve_ok {p : Program} {m m' : Machine} {k : Nat} (h : serve p m k = .next m') : m.world.drawn ≤ m'.world.drawn := by
  unfold serve at h
  simp only [] at h
  repeat' first
    | (simp at h; done)
    | (simp only [Stepped.next.injEq] at h; subst h; exact Nat.le_refl _)
    | split at h

def mvOk (d : Nat) : Move → Prop
  | .goroutine m _ => d ≤ m.world.drawn
  | .machine (.next m) _ => d ≤ m.world.drawn
  | .machine (.ended ..) _ => True

theorem mvOk_mono {d d' : Nat} {s : Move} (h : mvOk d' s) (hd : d ≤ d') : mvOk d s := by
  rcases s with _ | ⟨_ | _, _⟩ <;> first | trivial | exact Nat.le_trans hd h

theorem mv_serve {d : Nat} {p : Program} {m : Machine} {k : Nat} {ops : Array MemOp} (h : d ≤ m.world.drawn) : mvOk d (.machine (serve p m k) ops) := by
  cases hs : serve p m k with
  | next m' => exact Nat.le_trans h (serve_ok hs)
  | ended o w => trivial

theorem adv_ok {d : Nat} {m : Machine} {t : Nat} {ops : Array MemOp} (h : d ≤ m.world.drawn) : mvOk d (.machine (.next (m.advanceTo t)) ops) := h

/-- The choice among the goroutines that can run. -/
theorem pick_ok (p : Program) (m : Machine) (rs : List Nat) : mvOk m.world.drawn (match (choose (.sched rs.length)).run p m.world with
      | .halt _ w => .machine (.ended (.stuck "sched" "") w)
      | .ok k world =>
        if rs.length ≤ 1 then .goroutine { m with world } (rs.getD k 0) else
        match (choose (.extern "sched.slice" 65536)).run p world with
        | .halt _ w => .machine (.ended (.stuck "sched.slice" "") w)
        | .ok n world => .goroutine { m with world, rest := { m.rest with slice := if n = 0 then none else some (rs.getD k 0, n) } } (rs.getD k 0) : Move) := by
  cases h1 : Sem.run p (choose (.sched rs.length)) m.world with
  | halt _ w => trivial
  | ok k w1 =>
    simp only []
    split
    · exact run_ok h1
    · cases h2 : Sem.run p (choose (.extern "sched.slice" 65536)) w1 with
      | halt _ w => trivial
      | ok n w2 => exact Nat.le_trans (run_ok h1) (run_ok h2)

set_option maxHeartbeats 1000000 in
theorem askOn_ok (p : Program) (m : Machine) : mvOk m.world.drawn (askOn p m) := by
  unfold askOn
  simp only []
  split
  · trivial
  · rename_i n w1 h1
    refine mvOk_mono ?_ (run_ok h1)
    split
    · exact mv_serve (Nat.le_refl _)
    · split
      · split
        · exact Nat.le_refl _
        · split
          · exact Nat.le_refl _
          · split <;> trivial
      · split
        · exact pick_ok p { m with world := w1 } _
        · split
          · trivial
          · rename_i w2 h2
            exact mvOk_mono (pick_ok p { m with world := w2 } _) (run_ok h2)
          · rename_i w2 h2
            exact adv_ok (m := { m with world := w2 }) (run_ok h2)
          · rename_i k w2 h2
            have h3 : w1.drawn ≤ w2.drawn := run_ok h2
            exact mvOk_mono (pick_ok p (Machine.advanceTo { m with world := w2 } _) _) h3

theorem ask_ok (p : Program) (m : Machine) : mvOk m.world.drawn (ask p m) := by
  unfold ask
  split
  · split
    · trivial
    · rename_i w1 h1
      refine mvOk_mono ?_ (run_ok h1)
      cases hl : look p m.gs m.rest w1 with
      | next m2 => exact mvOk_mono (askOn_ok p m2) (look_ok hl)
      | ended o w => trivial
    · rename_i n w1 _ h1
      exact mvOk_mono (askOn_ok p { m with world := w1 }) (run_ok h1)
  · exact askOn_ok p m

theorem move_ok (p : Program) (m : Machine) : mvOk m.world.drawn (move p m) := by
  unfold move
  repeat' first
    | exact ask_ok p _
    | exact Nat.le_refl _
    | trivial
    | split

theorem step_ok {p : Program} {m m' : Machine} (h : step p m = .next m') : m.world.drawn ≤ m'.world.drawn := by
  have hm := move_ok p m
  unfold step stepT at h
  split at h
  · rename_i m1 i e
    rw [e] at hm
    exact Nat.le_trans hm (runT_ok2 h)
  · rename_i s ops e
    rw [e] at hm
    simp only [] at h
    subst h
    exact hm

theorem runN_ok {p : Program} : ∀ {n : Nat} {m m' : Machine}, runN p n m = .next m' → m.world.drawn ≤ m'.world.drawn
  | 0, m, m', h => by
    simp only [runN, Stepped.next.injEq] at h
    subst h
    exact Nat.le_refl _
  | n + 1, m, m', h => by
    rw [runN] at h
    cases hs : step p m with
    | next m1 => rw [hs] at h; exact Nat.le_trans (step_ok hs) (runN_ok h)
    | ended o w => rw [hs] at h; cases h

/-- **THE COUNT OF DRAWS NEVER FALLS**: of any call that comes to its end. -/
theorem calls_drawn {P : Program} {f : FuncId} {args : Array Value} {w : World} {R : Ending → World → Prop} (h : Calls P f args w R) :
    Calls P f args w fun e w' => R e w' ∧ (∀ v, e = .returned v → w.drawn ≤ w'.drawn) := by
  intro cs
  obtain ⟨e, w', fr, hR, hC, hf, hl⟩ := h cs
  refine ⟨e, w', fr, ⟨hR, fun v hv => ?_⟩, hC, hf, hl⟩
  subst hv
  obtain ⟨n, hn⟩ := hC
  have := runN_ok hn
  exact this

end Go.Proofs.Ytemfelonfokcnaa
