/- How a disk lies in memory. Conditions: none. -/
import Derived.Test.YthjabfhfkikalaaApply
import Derived.Test.YthjabfhfkikalaaModel2
namespace Go.Proofs.Ythjabfhfkikalaa
open Go.RowKit Go.Maps Go.WideMaps

inductive Role where
  | disk
  | map
  | fails
  | chg
  | file (i : Nat)
  | data (i : Nat)
structure Fl where
  blk : Nat
  v : Value
structure Lay where
  dir : Nat
  syn : Nat
  fv : Value
  fo : Option Nat
  cv : Value
  fls : List Fl
abbrev Roles := Nat → Option Role

def blkOf (fls : List Fl) (i : Nat) : Nat := ((fls[i]?).map (·.blk)).getD 0
def phys (fls : List Fl) (d : Dm.Dir) : Dm.Dir := d.map fun p => (p.1, blkOf fls p.2)
def str (l : List UInt8) : Value := .string ⟨l.toArray⟩
def chgCells (fls : List Fl) (c : Dm.Chg) : List Value := [str c.frm, str c.to, optPtr (c.made.map (blkOf fls))]
def byteV (b : UInt8) : Value := .int .u8 b.toNat

structure FileAt (w : World) (ρ : Roles) (i : Nat) (fl : Fl) (f : Dm.Fil) : Prop where
  blk : w.heap[fl.blk]? = some (.cells #[fl.v, .int .i64 f.synced] 79 (0, 0))
  row : w.ownsRow 0 5 1 fl.v f.data.length (f.data.map byteV)
  rb : ρ fl.blk = some (.file i)
  rd : ∀ g, fl.v.ownBlock = some g → ρ g = some (.data i)

structure Rep (w : World) (b : Nat) (ρ : Roles) (L : Lay) (s : Dm.St) : Prop where
  blk : DB w b s L.fv L.dir L.syn L.cv
  rb : ρ b = some .disk
  fails : FailsAt w L.fv s.fails L.fo
  rf : ∀ g, L.fo = some g → ρ g = some .fails
  dir : DirAt w L.dir (phys L.fls s.dir)
  rd : ρ L.dir = some .map
  syn : DirAt w L.syn (phys L.fls s.syn)
  rs : ρ L.syn = some .map
  ne : L.dir ≠ L.syn
  chg : w.ownsRow 0 82 3 L.cv s.chg.length (s.chg.flatMap (chgCells L.fls))
  rc : ∀ g, L.cv.ownBlock = some g → ρ g = some .chg
  files : ∀ i f, s.files[i]? = some f → ∃ fl, L.fls[i]? = some fl ∧ FileAt w ρ i fl f
  nfl : L.fls.length = s.files.length
  low : ∀ k, ρ k ≠ none → k < w.heap.size

/-! ### numbers of files, and blocks -/
section
variable (fls : List Fl) (d : Dm.Dir)
theorem get_phys (k : Dm.Nm) : Dm.get (phys fls d) k = (Dm.get d k).map (blkOf fls) := by
  unfold Dm.get phys
  induction d with
  | nil => rfl
  | cons p r ih =>
    simp only [List.map_cons, List.find?_cons]
    cases h : (p.1 == k)
    · simpa using ih
    · simp
theorem del_phys (k : Dm.Nm) : phys fls (Dm.del d k) = Dm.del (phys fls d) k := by
  unfold Dm.del phys
  induction d with
  | nil => rfl
  | cons p r ih =>
    simp only [List.filter_cons, List.map_cons]
    cases h : (p.1 == k) <;> simp [ih]
theorem ins_phys (k : Dm.Nm) (i : Nat) : ∀ d : Dm.Dir, phys fls (Dm.ins (k, i) d) = Dm.ins (k, blkOf fls i) (phys fls d)
  | [] => rfl
  | y :: r => by
    have ih := ins_phys k i r
    unfold phys at ih ⊢
    simp only [List.map_cons, Dm.ins]
    split
    · simp
    · simp [ih]
theorem put_phys (k : Dm.Nm) (i : Nat) : phys fls (Dm.put d k i) = Dm.put (phys fls d) k (blkOf fls i) := by
  unfold Dm.put; rw [ins_phys, del_phys]
theorem length_phys : (phys fls d).length = d.length := by simp [phys]
end

theorem blkOf_some {fls : List Fl} {i : Nat} {fl : Fl} (h : fls[i]? = some fl) : blkOf fls i = fl.blk := by simp [blkOf, h]
theorem blkOf_append {fls : List Fl} {i : Nat} (x : List Fl) (h : i < fls.length) : blkOf (fls ++ x) i = blkOf fls i := by
  simp [blkOf, List.getElem?_append_left h]
theorem phys_append {fls : List Fl} {d : Dm.Dir} (x : List Fl) (h : ∀ p ∈ d, p.2 < fls.length) : phys (fls ++ x) d = phys fls d := by
  unfold phys
  exact List.map_congr_left fun p hp => by rw [blkOf_append x (h p hp)]
theorem chgCells_append {fls : List Fl} {c : Dm.Chg} (x : List Fl) (h : ∀ i, c.made = some i → i < fls.length) : chgCells (fls ++ x) c = chgCells fls c := by
  unfold chgCells
  cases hm : c.made with
  | none => rfl
  | some i => simp [blkOf_append x (h i hm)]
theorem chgs_append {fls : List Fl} {l : List Dm.Chg} (x : List Fl) (h : ∀ c ∈ l, ∀ i, c.made = some i → i < fls.length) : l.flatMap (chgCells (fls ++ x)) = l.flatMap (chgCells fls) := by
  induction l with
  | nil => rfl
  | cons c r ih =>
    simp only [List.flatMap_cons]
    rw [chgCells_append x (h c (by simp)), ih fun c hc => h c (by simp [hc])]
theorem length_chgs (fls : List Fl) (l : List Dm.Chg) : (l.flatMap (chgCells fls)).length = l.length * 3 := by
  induction l with
  | nil => rfl
  | cons c r ih => simp [List.flatMap_cons, ih, chgCells]; omega
/-- Where the blocks are the same, so is what they say. -/
theorem phys_blk {fls fls' : List Fl} (h : ∀ i, blkOf fls' i = blkOf fls i) : phys fls' = phys fls ∧ chgCells fls' = chgCells fls := by
  have e : blkOf fls' = blkOf fls := funext h
  exact ⟨by funext d; unfold phys; rw [e], by funext c; unfold chgCells; rw [e]⟩

/-! ### staying -/
theorem ownsRow_keep {w w' : World} {e : TypeId} {size n : Nat} {v : Value} {xs : List Value} (h : w.ownsRow 0 e size v n xs) (hk : ∀ g, v.ownBlock = some g → w'.heap[g]? = w.heap[g]?) : w'.ownsRow 0 e size v n xs := by
  refine ⟨h.1, ?_⟩
  rcases h.2 with h | ⟨g, cap, cur, rfl, h1, h2, h3⟩
  · exact .inl h
  · exact .inr ⟨g, cap, cur, rfl, h1, by rw [hk g rfl]; exact h2, h3⟩

theorem FileAt.kept {w w' : World} {ρ ρ' : Roles} {i : Nat} {fl : Fl} {f : Dm.Fil} (h : FileAt w ρ i fl f) (hk : w'.heap[fl.blk]? = w.heap[fl.blk]?) (hd : ∀ g, fl.v.ownBlock = some g → w'.heap[g]? = w.heap[g]?)
    (hr : ∀ k, ρ k ≠ none → ρ' k = ρ k) : FileAt w' ρ' i fl f :=
  ⟨by rw [hk]; exact h.blk, ownsRow_keep h.row hd, by rw [hr _ (by rw [h.rb]; simp)]; exact h.rb, fun g hg => by rw [hr _ (by rw [h.rd g hg]; simp)]; exact h.rd g hg⟩

theorem Rep.kept {w w' : World} {b : Nat} {ρ : Roles} {L : Lay} {s : Dm.St} (h : Rep w b ρ L s) (hk : ∀ k, ρ k ≠ none → w'.heap[k]? = w.heap[k]?) (hz : w.heap.size ≤ w'.heap.size) : Rep w' b ρ L s where
  blk := by rw [DB, hk b (by rw [h.rb]; simp)]; exact h.blk
  rb := h.rb
  fails := h.fails.kept fun g hg => hk g (by rw [h.rf g hg]; simp)
  rf := h.rf
  dir := h.dir.kept (hk _ (by rw [h.rd]; simp))
  rd := h.rd
  syn := h.syn.kept (hk _ (by rw [h.rs]; simp))
  rs := h.rs
  ne := h.ne
  chg := ownsRow_keep h.chg fun g hg => hk g (by rw [h.rc g hg]; simp)
  rc := h.rc
  files := fun i f hf => by
    obtain ⟨fl, h1, h2⟩ := h.files i f hf
    exact ⟨fl, h1, h2.kept (hk _ (by rw [h2.rb]; simp)) (fun g hg => hk g (by rw [h2.rd g hg]; simp)) (fun _ _ => rfl)⟩
  nfl := h.nfl
  low := fun k hk' => Nat.lt_of_lt_of_le (h.low k hk') hz

theorem Rep.only {S : Nat → Prop} {w w' : World} {b : Nat} {ρ : Roles} {L : Lay} {s : Dm.St} (h : Rep w b ρ L s) (ho : Only S w w') (hs : ∀ k, ρ k ≠ none → ¬ S k) : Rep w' b ρ L s :=
  h.kept (fun k hk => ho.block k (h.low k hk) (hs k hk)) ho.size

/-- A step from one state to the next: old blocks keep their roles, and what has none is as it was. -/
structure Moves (ρ ρ' : Roles) (w w' : World) : Prop where
  only : Only (fun k => ρ k ≠ none) w w'
  old : ∀ k, k < w.heap.size → ρ' k = ρ k

theorem Moves.refl (ρ : Roles) (w : World) : Moves ρ ρ w w := ⟨Only.refl _ _, fun _ _ => rfl⟩
theorem Moves.trans {ρ ρ1 ρ2 : Roles} {w w1 w2 : World} (h : Moves ρ ρ1 w w1) (g : Moves ρ1 ρ2 w1 w2) : Moves ρ ρ2 w w2 :=
  ⟨h.only.andThen g.only (fun k hk hs => by rw [← h.old k hk]; exact hs), fun k hk => (g.old k (Nat.lt_of_lt_of_le hk h.only.size)).trans (h.old k hk)⟩
theorem Moves.of_only {S : Nat → Prop} {ρ : Roles} {w w' : World} (h : Only S w w') (hs : ∀ k, k < w.heap.size → S k → ρ k ≠ none) : Moves ρ ρ w w' :=
  ⟨h.mono hs, fun _ _ => rfl⟩
theorem Moves.none {ρ : Roles} {w w' : World} (h : Only (fun _ => False) w w') : Moves ρ ρ w w' := .of_only h fun _ _ h => h.elim

/-- The post of a call that answers an error's number. -/
def OpPost (b : Nat) (ρ : Roles) (w : World) (r : Nat × Dm.St) (e : Ending) (w' : World) : Prop :=
  e = .returned (errV r.1) ∧ ∃ ρ' L', Rep w' b ρ' L' r.2 ∧ Moves ρ ρ' w w'

theorem OpPost.after {b : Nat} {ρ ρ1 : Roles} {w w1 : World} {r : Nat × Dm.St} {e : Ending} {w' : World} (h : OpPost b ρ1 w1 r e w') (g : Moves ρ ρ1 w w1) : OpPost b ρ w r e w' := by
  obtain ⟨he, ρ', L', h1, h2⟩ := h
  exact ⟨he, ρ', L', h1, g.trans h2⟩

theorem Rep.only_none {w w' : World} {b : Nat} {ρ : Roles} {L : Lay} {s : Dm.St} (h : Rep w b ρ L s) (ho : Only (fun _ => False) w w') : Rep w' b ρ L s := h.only ho fun _ _ h => h

/-- The step of the meter, in a disk. -/
theorem step_rep {w : World} {b : Nat} {ρ : Roles} {L : Lay} {s : Dm.St} (h : Rep w b ρ L s) (hwf : s.WF) (hst : s.steps < 2 ^ 62) :
    Calls Try.prog 50 #[.pointer (some ⟨b, 0, none⟩)] w fun e w' => e = .returned (errV s.step.1) ∧ ∃ L', Rep w' b ρ L' s.step.2 ∧ L'.dir = L.dir ∧ L'.syn = L.syn ∧ L'.cv = L.cv ∧ L'.fls = L.fls ∧ Only (fun k => k = b ∨ some k = L.fo) w w' := by
  refine (step_any b s L.fv L.fo L.dir L.syn L.cv w h.blk h.fails (fun e => by have := h.rf b e; rw [h.rb] at this; cases this) hst hwf.left).mono ?_
  rintro e w' ⟨he, fv', own', hb, hf, ho, hon, hz⟩
  refine ⟨he, { L with fv := fv', fo := own' }, ?_, rfl, rfl, rfl, rfl, hon⟩
  obtain ⟨e1, e2, e3, e4, e5, e6, _⟩ := s.step_same
  have keep : ∀ k, ρ k ≠ some .disk → ρ k ≠ some .fails → k < w.heap.size → w'.heap[k]? = w.heap[k]? := fun k h1 h2 hk => hon.block k hk (by
    rintro (rfl | hx)
    · exact h1 h.rb
    · exact h2 (h.rf k hx.symm))
  have kr : ∀ k r, ρ k = some r → r ≠ .disk → r ≠ .fails → w'.heap[k]? = w.heap[k]? := fun k r hr h1 h2 => keep k (by rw [hr]; simpa using h1) (by rw [hr]; simpa using h2) (h.low k (by rw [hr]; simp))
  exact {
    blk := hb
    rb := h.rb
    fails := hf
    rf := fun g hg => by
      rcases ho with ho | ho
      · exact h.rf g (by rw [← ho]; exact hg)
      · rw [ho] at hg; cases hg
    dir := by rw [e1]; exact h.dir.kept (kr _ _ h.rd (by simp) (by simp))
    rd := h.rd
    syn := by rw [e2]; exact h.syn.kept (kr _ _ h.rs (by simp) (by simp))
    rs := h.rs
    ne := h.ne
    chg := by rw [e3]; exact ownsRow_keep h.chg fun g hg => kr _ _ (h.rc g hg) (by simp) (by simp)
    rc := h.rc
    files := fun i f hf => by
      rw [e4] at hf
      obtain ⟨fl, h1, h2⟩ := h.files i f hf
      exact ⟨fl, h1, h2.kept (kr _ _ h2.rb (by simp) (by simp)) (fun g hg => kr _ _ (h2.rd g hg) (by simp) (by simp)) (fun _ _ => rfl)⟩
    nfl := by rw [e4]; exact h.nfl
    low := fun k hk => Nat.lt_of_lt_of_le (h.low k hk) hon.size }

end Go.Proofs.Ythjabfhfkikalaa
