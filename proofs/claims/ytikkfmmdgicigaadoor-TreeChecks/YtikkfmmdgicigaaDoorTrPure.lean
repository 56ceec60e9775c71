/- Pure: trees as lists of entries: which lists are trees, what is wrong with others. Conditions: none. -/
import Derived.Test.YtikkfmmdgicigaaDoorPaBackL
namespace Go.Proofs.YtikkfmmdgicigaaDoor

namespace Tr
/-- An entry. -/
structure En where
  path : List UInt8
  kind : Int
  mode : Int
  uid : Int
  gid : Int
  time : Int
  link : List UInt8
  data : List UInt8

instance : Inhabited En := ⟨⟨[], 0, 0, 0, 0, 0, [], []⟩⟩

def within (n a b : Int) : Bool := decide (a ≤ n) && decide (n ≤ b)
def metaOk (e : En) : Bool := within e.mode 0 4095 && (within e.uid 0 1099511627776 && (within e.gid 0 1099511627776 && within e.time (-1099511627776) 1099511627776))
def shape (e : En) : Bool :=
  if e.kind = 1 then e.link == [] && decide (e.data.length = 0)
  else if e.kind = 2 then e.link == [] && decide (e.data.length ≤ 65536)
  else if e.kind = 3 then Pt.txt e.link 400 && decide (e.data.length = 0)
  else if e.kind = 4 then Pt.good e.link && (decide (e.data.length = 0) && (decide (e.mode = 0) && (decide (e.uid = 0) && (decide (e.gid = 0) && decide (e.time = 0)))))
  else false
/-- Is an entry whose path is one a good one? -/
def fields (e : En) : Bool := metaOk e && shape e

/-- The kind of the first entry of a path; none: 0. -/
def kindIn : List En → List UInt8 → Int
  | [], _ => 0
  | e :: r, p => if e.path = p then e.kind else kindIn r p
/-- Is there an entry of this path? -/
def named (l : List En) (p : List UInt8) : Bool := l.any fun e => e.path == p
def lastP (l : List En) : List UInt8 := (l.getLast?.map En.path).getD []
/-- May it stand behind these? -/
def fits (pre : List En) (e : En) : Bool :=
  decide (Pt.cmp (lastP pre) e.path < 0) && ((!Pt.parB e.path || decide (kindIn pre (Pt.parL e.path) = 1)) && (!decide (e.kind = 4) || decide (kindIn pre e.link = 2)))
/-- How many bytes there are. -/
def tot : List En → Nat
  | [] => 0
  | e :: r => e.data.length + tot r
/-- What is wrong with the next one: an error's number, or 0. -/
def errE (pre : List En) (e : En) : Nat :=
  if Pt.good e.path = false then 12 else if (fields e && fits pre e) = false then 13 else if 1048576 < tot pre + e.data.length then 18 else 0
def run (pre : List En) : List En → Int × Nat
  | [] => (-1, 0)
  | e :: r => if errE pre e = 0 then run (pre ++ [e]) r else (pre.length, errE pre e)
def check (t : List En) : Int × Nat := if 200 < t.length then (t.length, 19) else run [] t

theorem tot_append : ∀ (a b : List En), tot (a ++ b) = tot a + tot b
  | [], b => by simp [tot]
  | e :: a, b => by simp only [List.cons_append, tot, tot_append a b]; omega

theorem kindIn_append : ∀ (a b : List En) (p : List UInt8), kindIn (a ++ b) p = if named a p then kindIn a p else kindIn b p
  | [], b, p => rfl
  | e :: a, b, p => by
    have hn : named (e :: a) p = (e.path == p || named a p) := rfl
    rw [hn]
    simp only [List.cons_append, kindIn]
    by_cases h : e.path = p
    · simp [h]
    · have h2 : (e.path == p) = false := by simpa using h
      rw [if_neg h, if_neg h, h2, Bool.false_or]
      exact kindIn_append a b p

theorem named_iff {l : List En} {p : List UInt8} : named l p = true ↔ ∃ e ∈ l, e.path = p := by
  simp [named]
theorem named_false {l : List En} {p : List UInt8} : named l p = false ↔ ∀ e ∈ l, e.path ≠ p := by
  rw [← Bool.not_eq_true, named_iff]
  simp
theorem kindIn_none {l : List En} {p : List UInt8} (h : named l p = false) : kindIn l p = 0 := by
  induction l with
  | nil => rfl
  | cons e r ih =>
    rw [named_false] at h
    unfold kindIn
    rw [if_neg (h e (by simp)), ih (named_false.2 fun x hx => h x (by simp [hx]))]
theorem kindIn_mem {l : List En} {p : List UInt8} (h : named l p = true) : ∃ e ∈ l, e.path = p ∧ kindIn l p = e.kind := by
  induction l with
  | nil => simp [named] at h
  | cons e r ih =>
    by_cases hp : e.path = p
    · exact ⟨e, by simp, hp, by unfold kindIn; rw [if_pos hp]⟩
    · obtain ⟨x, hx, h1, h2⟩ := ih (by
        obtain ⟨y, hy, e1⟩ := named_iff.1 h
        rcases List.mem_cons.1 hy with rfl | hy
        · exact (hp e1).elim
        · exact named_iff.2 ⟨y, hy, e1⟩)
      exact ⟨x, by simp [hx], h1, by unfold kindIn; rw [if_neg hp, h2]⟩
/-- Of distinct paths the kind is the entry's. -/
theorem kindIn_dist {l : List En} (hd : l.Pairwise fun a b => a.path ≠ b.path) {e : En} (he : e ∈ l) : kindIn l e.path = e.kind := by
  induction l with
  | nil => simp at he
  | cons x r ih =>
    obtain ⟨h1, h2⟩ := List.pairwise_cons.1 hd
    unfold kindIn
    rcases List.mem_cons.1 he with rfl | he
    · rw [if_pos rfl]
    · rw [if_neg (h1 e he), ih h2 he]

theorem cmp_nil {p : List UInt8} (h : p ≠ []) : Pt.cmp [] p = -1 := by
  unfold Pt.cmp
  have e1 : Pt.pcs [] = [[]] := rfl
  rw [e1]
  rcases hp : Pt.pcs p with _ | ⟨x, r⟩
  · exact (Pt.pcs_ne p hp).elim
  · cases x with
    | cons c t => rfl
    | nil =>
      cases r with
      | nil =>
        exfalso
        apply h
        rw [← Pt.joins_pcs p, hp]
        rfl
      | cons y s => rfl

theorem good_ne {p : List UInt8} (h : Pt.good p = true) : p ≠ [] := by
  rintro rfl
  revert h
  decide

/-- No wrong entry: the list, behind pre. -/
def Acc (pre l : List En) : Prop := ∀ i (h : i < l.length), errE (pre ++ l.take i) l[i] = 0

theorem run_acc : ∀ {l pre : List En}, Acc pre l → run pre l = (-1, 0)
  | [], pre, _ => rfl
  | e :: r, pre, h => by
    have h0 : errE pre e = 0 := by have := h 0 (Nat.zero_lt_succ _); rw [List.take_zero, List.append_nil] at this; exact this
    unfold run
    rw [if_pos h0]
    refine run_acc fun i hi => ?_
    have := h (i + 1) (by simpa using hi)
    simpa using this
theorem run_not : ∀ {l pre : List En}, ¬ Acc pre l → (run pre l).2 ≠ 0
  | [], pre, h => (h fun i hi => by simp at hi).elim
  | e :: r, pre, h => by
    unfold run
    by_cases h0 : errE pre e = 0
    · rw [if_pos h0]
      refine run_not fun hh => h fun i hi => ?_
      cases i with
      | zero => simpa using h0
      | succ i => simpa using hh i (by simpa using hi)
    · rw [if_neg h0]; exact h0
theorem run_at : ∀ {l pre : List En} {i : Nat} (hi : i < l.length), (∀ j (hj : j < i), errE (pre ++ l.take j) (l[j]'(by omega)) = 0) → errE (pre ++ l.take i) l[i] ≠ 0 → run pre l = (((pre.length + i : Nat) : Int), errE (pre ++ l.take i) l[i])
  | [], _, i, hi, _, _ => by simp at hi
  | e :: r, pre, 0, _, _, h => by
    have h0 : errE pre e ≠ 0 := by simpa using h
    unfold run
    rw [if_neg h0]
    simp
  | e :: r, pre, i + 1, hi, ha, h => by
    have h0 : errE pre e = 0 := by simpa using ha 0 (by omega)
    unfold run
    rw [if_pos h0]
    have := run_at (l := r) (pre := pre ++ [e]) (i := i) (by simpa using hi) (fun j hj => by simpa using ha (j + 1) (by omega)) (by simpa using h)
    rw [this]
    simp
    omega

theorem errE_zero {pre : List En} {e : En} (h : errE pre e = 0) : Pt.good e.path = true ∧ fields e = true ∧ fits pre e = true ∧ tot pre + e.data.length ≤ 1048576 := by
  unfold errE at h
  split at h
  · cases h
  · split at h
    · cases h
    · split at h
      · cases h
      · rename_i h1 h2 h3
        simp only [Bool.not_eq_false, Bool.and_eq_true] at h1 h2
        exact ⟨h1, h2.1, h2.2, by omega⟩

theorem fits_iff {pre : List En} {e : En} : fits pre e = true ↔ Pt.cmp (lastP pre) e.path < 0 ∧ (Pt.parB e.path = true → kindIn pre (Pt.parL e.path) = 1) ∧ (e.kind = 4 → kindIn pre e.link = 2) := by
  unfold fits
  simp only [Bool.and_eq_true, Bool.or_eq_true, Bool.not_eq_true', decide_eq_true_eq, decide_eq_false_iff_not]
  constructor
  · rintro ⟨h1, h2, h3⟩
    exact ⟨h1, fun h => by rcases h2 with h2 | h2 <;> simp_all, fun h => by rcases h3 with h3 | h3 <;> simp_all⟩
  · rintro ⟨h1, h2, h3⟩
    refine ⟨h1, ?_, ?_⟩
    · cases hp : Pt.parB e.path
      · exact .inl rfl
      · exact .inr (h2 hp)
    · by_cases hk : e.kind = 4
      · exact .inr (h3 hk)
      · exact .inl hk

/-- In rising order. -/
abbrev Up (l : List En) : Prop := l.Pairwise fun a b => Pt.cmp a.path b.path < 0

theorem cmp_lt {a b c : List UInt8} (h1 : Pt.cmp a b < 0) (h2 : Pt.cmp b c < 0) : Pt.cmp a c < 0 := by
  have h3 := Pt.cmp_le (a := a) (b := b) (c := c) (by omega) (by omega)
  rcases Pt.cmp_range a c with e | e | e
  · omega
  · have := Pt.cmp_zero.1 e
    subst this
    have := Pt.cmp_anti a b
    omega
  · omega

theorem lastP_snoc (l : List En) (e : En) : lastP (l ++ [e]) = e.path := by simp [lastP]
theorem up_last {l : List En} (h : Up l) {e : En} (he : e ∈ l) : e.path = lastP l ∨ Pt.cmp e.path (lastP l) < 0 := by
  rcases List.eq_nil_or_concat l with rfl | ⟨r, x, rfl⟩
  · simp at he
  · rw [List.concat_eq_append] at h he ⊢
    rw [lastP_snoc]
    rcases List.mem_append.1 he with he | he
    · exact .inr ((List.pairwise_append.1 h).2.2 e he x (by simp))
    · rw [List.mem_singleton] at he; subst he; exact .inl rfl
theorem up_snoc {l : List En} (h : Up l) {e : En} (he : Pt.cmp (lastP l) e.path < 0) : Up (l ++ [e]) := by
  refine List.pairwise_append.2 ⟨h, List.pairwise_singleton _ _, fun x hx y hy => ?_⟩
  rw [List.mem_singleton] at hy
  subst hy
  rcases up_last h hx with h1 | h1
  · rw [h1]; exact he
  · exact cmp_lt h1 he
theorem up_dist {l : List En} (h : Up l) : l.Pairwise fun a b => a.path ≠ b.path :=
  h.imp fun {a b} hab e => by
    rw [e, Pt.cmp_zero.2 rfl] at hab
    omega

theorem acc_take {l : List En} (h : Acc [] l) : ∀ i, i ≤ l.length → Up (l.take i)
  | 0, _ => by simp
  | i + 1, hi => by
    have ih := acc_take h i (by omega)
    have h1 := (fits_iff.1 (errE_zero (h i (by omega))).2.2.1).1
    rw [List.nil_append] at h1
    have e : l.take (i + 1) = l.take i ++ [l[i]'(by omega)] := by rw [List.take_add_one, List.getElem?_eq_getElem (by omega)]; rfl
    rw [e]
    exact up_snoc ih h1
theorem acc_up {l : List En} (h : Acc [] l) : Up l := by
  have := acc_take h l.length (Nat.le_refl _)
  rwa [List.take_length] at this

theorem fine_at : ∀ (l : List En) (i : Nat), i ≤ l.length → (∀ j (_ : j < i) (hx : j < l.length), errE (l.take j) l[j] = 0) → Up (l.take i) ∧ tot (l.take i) ≤ 1048576
  | l, 0, _, _ => by simp [tot]
  | l, i + 1, hi, h => by
    obtain ⟨h1, h2⟩ := fine_at l i (by omega) (fun j hj hx => h j (by omega) hx)
    have h3 := errE_zero (h i (by omega) (by omega))
    have e : l.take (i + 1) = l.take i ++ [l[i]'(by omega)] := by rw [List.take_add_one, List.getElem?_eq_getElem (by omega)]; rfl
    rw [e]
    refine ⟨up_snoc h1 (fits_iff.1 h3.2.2.1).1, ?_⟩
    rw [tot_append]
    simp only [tot]
    have := h3.2.2.2
    omega

end Tr
end Go.Proofs.YtikkfmmdgicigaaDoor
