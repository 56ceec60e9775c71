/- A disk as plain data: what each call answers and leaves. Nothing of the program stands here. Conditions: none. -/
namespace Go.Proofs.Ythjabfhfkikalaa.Dm

abbrev Nm := List UInt8
/-- A file: its bytes, and how many of the first are synced. -/
structure Fil where
  data : List UInt8
  synced : Nat
/-- A change of the directory; file numbers are places in 'files'. -/
structure Chg where
  frm : Nm
  to : Nm
  made : Option Nat
/-- Names with values, rising. -/
abbrev Dir := List (Nm × Nat)

def ltB : Nm → Nm → Bool
  | [], [] => false
  | [], _ :: _ => true
  | _ :: _, [] => false
  | a :: r, b :: t => a < b || (a == b && ltB r t)

def get (d : Dir) (k : Nm) : Option Nat := (d.find? fun p => p.1 == k).map (·.2)
def del (d : Dir) (k : Nm) : Dir := d.filter fun p => !(p.1 == k)
def ins (x : Nm × Nat) : Dir → Dir
  | [] => [x]
  | y :: r => if ltB x.1 y.1 then x :: y :: r else y :: ins x r
def put (d : Dir) (k : Nm) (v : Nat) : Dir := ins (k, v) (del d k)

/-- The change made: the name 'frm' goes, its file (or the made one) has the name 'to'. -/
def app (d : Dir) (c : Chg) : Dir :=
  if c.frm = [] then
    match c.made with
    | some i => put d c.to i
    | none => d
  else if c.to = [] then del d c.frm
  else match get d c.frm with
    | some i => put (del d c.frm) c.to i
    | none => del d c.frm

/-- The change can be made there. -/
def ok (d : Dir) (c : Chg) : Prop := (c.frm = [] ∧ c.to ≠ [] ∧ c.made.isSome) ∨ (c.frm ≠ [] ∧ c.made = none ∧ (get d c.frm).isSome)
def okAll : Dir → List Chg → Prop
  | _, [] => True
  | d, c :: r => ok d c ∧ (app d c).length ≤ 4096 ∧ okAll (app d c) r

structure St where
  steps : Nat
  down : Bool
  armed : Bool
  left : Nat
  fails : List Nat
  size : Nat
  dir : Dir
  syn : Dir
  chg : List Chg
  files : List Fil

def goodB (b : UInt8) : Bool := 0x21 ≤ b && b ≤ 0x7e && b != 0x2f
def good (n : Nm) : Bool := 1 ≤ n.length && n.length ≤ 64 && n.all goodB

def St.new (size : Nat) : St := ⟨0, false, false, 0, [], size, [], [], [], []⟩

/-- A step's way: a number (0: go on) and what is left. -/
def St.step (s : St) : Nat × St :=
  if s.armed && s.left == 0 then (1, { s with down := true })
  else
    let t := { s with steps := s.steps + 1, left := if s.armed then s.left - 1 else s.left }
    match s.fails with
    | [] => (0, t)
    | 0 :: r => (2, { t with fails := r })
    | (n + 1) :: r => (0, { t with fails := n :: r })

/-- The step of a change; f: the files that it brings. -/
def St.alter (s : St) (c : Chg) (f : List Fil) : Nat × St :=
  if s.step.1 = 0 then (0, { s.step.2 with dir := app s.dir c, chg := s.chg ++ [c], files := s.files ++ f }) else (s.step.1, s.step.2)

def St.create (s : St) (n : Nm) : Nat × St :=
  if s.down then (1, s) else if good n = false then (6, s) else if (get s.dir n).isSome then (4, s) else if 4096 ≤ s.dir.length then (19, s)
  else s.alter ⟨[], n, some s.files.length⟩ [⟨[], 0⟩]

def St.dataOf (s : St) (i : Nat) : List UInt8 := ((s.files[i]?).map (·.data)).getD []
def St.used (s : St) : Nat := (s.dir.map fun p => (s.dataOf p.2).length).sum
def St.atFile (s : St) (i : Nat) (g : Fil → Fil) : St := { s with files := s.files.modify i g }

def St.find (s : St) (n : Nm) : Nat × Option Nat :=
  if s.down then (1, none) else if good n = false then (6, none) else match get s.dir n with | some i => (0, some i) | none => (5, none)

def St.append (s : St) (n : Nm) (b : List UInt8) : Nat × St :=
  match s.find n with
  | (0, some i) => if s.size < s.used + b.length then (3, s) else
      if s.step.1 = 0 then (0, s.step.2.atFile i fun f => { f with data := f.data ++ b }) else (s.step.1, s.step.2)
  | (e, _) => (e, s)

def St.sync (s : St) (n : Nm) : Nat × St :=
  match s.find n with
  | (0, some i) => if s.step.1 = 0 then (0, s.step.2.atFile i fun f => { f with synced := f.data.length }) else (s.step.1, s.step.2)
  | (e, _) => (e, s)

def St.settle (s : St) : St := { s with syn := s.dir, chg := [] }

def St.syncDir (s : St) : Nat × St :=
  if s.down then (1, s) else if s.step.1 = 0 then (0, s.step.2.settle) else (s.step.1, s.step.2)

def St.rename (s : St) (f t : Nm) : Nat × St :=
  if s.down then (1, s) else if good f = false ∨ good t = false then (6, s) else if (get s.dir f).isNone then (5, s) else s.alter ⟨f, t, none⟩ []

def St.remove (s : St) (n : Nm) : Nat × St :=
  match s.find n with
  | (0, some _) => s.alter ⟨n, [], none⟩ []
  | (e, _) => (e, s)

def St.read (s : St) (n : Nm) : Nat × List UInt8 :=
  match s.find n with
  | (0, some i) => (0, s.dataOf i)
  | (e, _) => (e, [])

def St.arm (s : St) (n : Int) : Nat × St := if n < 0 then (7, s) else (0, { s with armed := true, left := n.toNat })
def St.fail (s : St) (l : List Int) : Nat × St := if l.any (· < 0) then (7, s) else (0, { s with fails := l.map Int.toNat })

/-- What a crash leaves of one file. -/
def Fil.crash (extra : Int) (f : Fil) : Fil := { f with data := f.data.take (f.synced + min (max extra 0).toNat (f.data.length - f.synced)) }
def Fil.sync (f : Fil) : Fil := { f with synced := f.data.length }

def cutAll (cuts : List Int) : Nat → Dir → St → St
  | _, [], s => s
  | i, p :: r, s => cutAll cuts (i + 1) r (s.atFile p.2 (Fil.crash (cuts.getD i 0)))
/-- The files whose places 'q' holds are synced. -/
def syncIf (q : Nat → Bool) (s : St) : St := { s with files := s.files.mapIdx fun i f => if q i then f.sync else f }
def syncAll (d : Dir) (s : St) : St := syncIf (fun i => d.any fun p => p.2 == i) s
def St.settleAll (s : St) : St := (syncAll s.dir s).settle
def St.restart (s : St) : St := { s with down := false, armed := false, left := 0, fails := [] }

def St.crash (s : St) (dirs : Int) (cuts : List Int) : St :=
  let d := (s.chg.take (max dirs 0).toNat).foldl app s.syn
  (cutAll cuts 0 d { s with dir := d }).settleAll.restart

def St.put (s : St) (n : Nm) (b : List UInt8) : Nat × St :=
  if good n = false then (6, s) else if (get s.dir n).isNone ∧ 4096 ≤ s.dir.length then (19, s)
  else (0, ({ s with dir := Dm.put s.dir n s.files.length, files := s.files ++ [⟨b, 0⟩] } : St).settleAll)
def St.drop (s : St) (n : Nm) : Nat × St :=
  if good n = false then (6, s) else if (get s.dir n).isNone then (5, s) else (0, ({ s with dir := del s.dir n } : St).settleAll)

/-! ### directories -/
theorem good_ne {n : Nm} (h : good n = true) : n ≠ [] := by rintro rfl; simp [good] at h
theorem good_len {n : Nm} (h : good n = true) : n.length ≤ 64 := by simp [good] at h; omega

theorem mem_ins {x y : Nm × Nat} : ∀ {d : Dir}, y ∈ ins x d ↔ y = x ∨ y ∈ d
  | [] => by simp [ins]
  | z :: r => by
    unfold ins
    split
    · simp
    · simp only [List.mem_cons, mem_ins (d := r)]
      constructor
      · rintro (h | h | h)
        · exact .inr (.inl h)
        · exact .inl h
        · exact .inr (.inr h)
      · rintro (h | h | h)
        · exact .inr (.inl h)
        · exact .inl h
        · exact .inr (.inr h)
theorem length_ins (x : Nm × Nat) : ∀ d : Dir, (ins x d).length = d.length + 1
  | [] => rfl
  | y :: r => by unfold ins; split <;> simp [length_ins x r]
theorem mem_del {d : Dir} {k : Nm} {p : Nm × Nat} (h : p ∈ del d k) : p ∈ d := (List.mem_filter.1 h).1
theorem mem_put {d : Dir} {k : Nm} {v : Nat} {p : Nm × Nat} (h : p ∈ put d k v) : p = (k, v) ∨ p ∈ d := by
  rcases mem_ins.1 h with h | h
  · exact .inl h
  · exact .inr (mem_del h)
theorem length_del_le (d : Dir) (k : Nm) : (del d k).length ≤ d.length := List.length_filter_le _ _
theorem get_mem {d : Dir} {k : Nm} {v : Nat} (h : get d k = some v) : (k, v) ∈ d := by
  unfold get at h
  rw [Option.map_eq_some_iff] at h
  obtain ⟨p, hp, rfl⟩ := h
  have h1 := List.find?_some hp
  have h2 := List.mem_of_find?_eq_some hp
  simp at h1
  rw [← h1]
  exact h2
theorem length_del_lt {d : Dir} {k : Nm} (h : (get d k).isSome) : (del d k).length + 1 ≤ d.length := by
  obtain ⟨v, hv⟩ := Option.isSome_iff_exists.1 h
  have hm := get_mem hv
  have : (del d k).length < d.length := by
    unfold del
    rw [List.length_filter_lt_length_iff_exists]
    exact ⟨_, hm, by simp⟩
  omega
theorem length_put_le (d : Dir) (k : Nm) (v : Nat) : (put d k v).length ≤ d.length + 1 := by
  unfold put; rw [length_ins]; have := length_del_le d k; omega

end Go.Proofs.Ythjabfhfkikalaa.Dm
