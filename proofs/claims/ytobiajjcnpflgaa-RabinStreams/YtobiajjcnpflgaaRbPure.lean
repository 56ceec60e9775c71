/- Pure facts on fingerprints and cuts. Conditions: none. -/
import Derived.Test.YtobiajjcnpflgaaPoPure
namespace Go.Proofs.Ytobiajjcnpflgaa
namespace Rb

theorem snoc_ind {α : Type} {P : List α → Prop} (h0 : P []) (h1 : ∀ l x, P l → P (l ++ [x])) (l : List α) : P l := by
  rw [← List.reverse_reverse l]
  induction l.reverse with
  | nil => exact h0
  | cons x t ih => rw [List.reverse_cons]; exact h1 _ _ ih

/-- A row of bytes as one polynomial, the first byte highest. -/
def val (bs : List UInt8) : Nat := bs.foldl (fun a b => a * 256 + b.toNat) 0
theorem val_nil : val [] = 0 := rfl
theorem val_snoc (bs : List UInt8) (b : UInt8) : val (bs ++ [b]) = val bs * 256 + b.toNat := by unfold val; rw [List.foldl_append]; rfl
theorem val_append (a b : List UInt8) : val (a ++ b) = val a * 256 ^ b.length + val b := by
  refine snoc_ind (P := fun b => ∀ a, val (a ++ b) = val a * 256 ^ b.length + val b) (fun a => by simp [val_nil]) (fun b x ih a => ?_) b a
  · rw [← List.append_assoc, val_snoc, val_snoc, ih, List.length_append, List.length_singleton, Nat.pow_succ, Nat.add_mul, Nat.mul_assoc, Nat.add_assoc]
theorem val_lt (bs : List UInt8) : val bs < 256 ^ bs.length := by
  refine snoc_ind (P := fun bs => val bs < 256 ^ bs.length) (by simp [val_nil]) (fun b x ih => ?_) bs
  · rw [val_snoc, List.length_append, List.length_singleton, Nat.pow_succ]
    have := x.toNat_lt
    omega
theorem val_zeros (n : Nat) (bs : List UInt8) : val (List.replicate n 0 ++ bs) = val bs := by
  rw [val_append]
  have : val (List.replicate n 0) = 0 := by
    induction n with
    | zero => rfl
    | succ n ih => rw [List.replicate_succ', val_snoc, ih]; rfl
  rw [this]; omega
theorem shift_xor (a b k : Nat) (hb : b < 2 ^ k) : a * 2 ^ k + b = (a * 2 ^ k) ^^^ b := by
  apply Nat.eq_of_testBit_eq
  intro j
  rw [Nat.mul_comm a, Nat.testBit_two_pow_mul_add _ hb, Nat.testBit_xor, Nat.testBit_two_pow_mul]
  by_cases hj : j < k
  · have : ¬ j ≥ k := by omega
    simp [hj, this]
  · have : b.testBit j = false := Nat.testBit_lt_two_pow (Nat.lt_of_lt_of_le hb (Nat.pow_le_pow_right (by omega) (by omega)))
    simp [hj, this, show k ≤ j by omega]
theorem p256 (n : Nat) : 256 ^ n = 2 ^ (8 * n) := by rw [show 256 = 2 ^ 8 by decide, ← Nat.pow_mul]
theorem val_snoc_xor (bs : List UInt8) (b : UInt8) : val (bs ++ [b]) = (val bs * 256) ^^^ b.toNat := by
  rw [val_snoc]; exact shift_xor (val bs) b.toNat 8 b.toNat_lt
theorem val_append_xor (a b : List UInt8) : val (a ++ b) = (val a * 256 ^ b.length) ^^^ val b := by
  rw [val_append, p256]
  exact shift_xor _ _ _ (by rw [← p256]; exact val_lt b)
theorem val_cons_xor (x : UInt8) (t : List UInt8) : val (x :: t) = (x.toNat * 256 ^ t.length) ^^^ val t := by
  have := val_append_xor [x] t
  simpa [val] using this
theorem val_xor : ∀ (a b : List UInt8), a.length = b.length → val (List.zipWith (· ^^^ ·) a b) = val a ^^^ val b
  | [], [], _ => rfl
  | x :: a, y :: b, h => by
    have hl : a.length = b.length := by simpa using h
    rw [List.zipWith_cons_cons, val_cons_xor, val_cons_xor, val_cons_xor, val_xor a b hl, List.length_zipWith, hl, Nat.min_self, UInt8.toNat_xor, Gf.four]
    congr 1
    rw [p256]
    apply Nat.eq_of_testBit_eq
    intro j
    simp only [Nat.mul_comm _ (2 ^ (8 * b.length)), Nat.testBit_two_pow_mul, Nat.testBit_xor]
    by_cases hj : j ≥ 8 * b.length <;> simp [hj]

/-- The fingerprint. -/
noncomputable def fp (p : Nat) (bs : List UInt8) : Nat := Gf.rm p (val bs)
theorem fp_nil {p : Nat} (hp : p ≠ 0) : fp p [] = 0 := Gf.rm_of hp (Gf.rem_zero p)
theorem cg_shift {p a b : Nat} (k : Nat) (h : Gf.Cg p a b) : Gf.Cg p (a * 2 ^ k) (b * 2 ^ k) := by
  rw [← Gf.mul_shift, ← Gf.mul_shift]; exact h.mul (Gf.Cg.refl p _)
theorem fp_snoc {p : Nat} (hp : p ≠ 0) (bs : List UInt8) (b : UInt8) : fp p (bs ++ [b]) = Gf.rm p ((fp p bs * 256) ^^^ b.toNat) := by
  unfold fp
  rw [val_snoc_xor]
  exact Gf.rm_cg hp ((cg_shift 8 (Gf.cg_rm hp (val bs))).xor (Gf.Cg.refl p _))
theorem fp_append {p : Nat} (hp : p ≠ 0) (a b : List UInt8) : fp p (a ++ b) = Gf.rm p ((fp p a * 256 ^ b.length) ^^^ val b) := by
  unfold fp
  rw [val_append_xor, p256]
  exact Gf.rm_cg hp ((cg_shift _ (Gf.cg_rm hp (val a))).xor (Gf.Cg.refl p _))
/-- The window goes on by one byte. -/
theorem fp_roll {p : Nat} (hp : p ≠ 0) (x b : UInt8) (t : List UInt8) : fp p (t ++ [b]) = Gf.rm p (((fp p (x :: t) ^^^ Gf.rm p (x.toNat * 256 ^ t.length)) * 256) ^^^ b.toNat) := by
  rw [fp_snoc hp]
  refine Gf.rm_cg hp (Gf.Cg.xor (cg_shift 8 ?_) (Gf.Cg.refl p _))
  have h1 : Gf.Cg p (fp p (x :: t)) (val (x :: t)) := (Gf.cg_rm hp _).symm
  have h2 : Gf.Cg p (Gf.rm p (x.toNat * 256 ^ t.length)) (x.toNat * 256 ^ t.length) := (Gf.cg_rm hp _).symm
  refine Gf.Cg.trans (Gf.cg_rm hp (val t)).symm ?_
  have := (h1.xor h2).symm
  rw [val_cons_xor, Nat.xor_comm (x.toNat * 256 ^ t.length) (val t), Nat.xor_assoc, Nat.xor_self, Nat.xor_zero] at this
  exact this
theorem fp_xor {p : Nat} (hp : p ≠ 0) (a b : List UInt8) (h : a.length = b.length) : fp p (List.zipWith (· ^^^ ·) a b) = fp p a ^^^ fp p b := by
  unfold fp
  rw [val_xor a b h]
  obtain ⟨d, hd⟩ := Gf.top_some hp
  refine Gf.rm_of hp ⟨(Gf.cg_rm hp _).xor (Gf.cg_rm hp _), fun d' hd' => ?_⟩
  rw [Gf.top_one hd' hd]
  exact Nat.xor_lt_two_pow (Gf.rm_lt _ hd) (Gf.rm_lt _ hd)
theorem fp_zeros (p n : Nat) (bs : List UInt8) : fp p (List.replicate n 0 ++ bs) = fp p bs := by unfold fp; rw [val_zeros]

/-- The cuts, byte by byte: E tells whether a chunk ends; pre is the chunk so far. What is answered: the lengths of the chunks that ended, and what is left. -/
def run (E : List UInt8 → Bool) : List UInt8 → List UInt8 → List Nat × List UInt8
  | pre, [] => ([], pre)
  | pre, b :: t => if E (pre ++ [b]) = true then ((pre.length + 1) :: (run E [] t).1, (run E [] t).2) else run E (pre ++ [b]) t
def last (l : List UInt8) : List Nat := if l = [] then [] else [l.length]
def cuts (E : List UInt8 → Bool) (data : List UInt8) : List Nat := (run E [] data).1 ++ last (run E [] data).2
theorem run_nil (E : List UInt8 → Bool) (pre : List UInt8) : run E pre [] = ([], pre) := by unfold run; rfl
theorem run_end {E : List UInt8 → Bool} {pre : List UInt8} {b : UInt8} (t : List UInt8) (h : E (pre ++ [b]) = true) : run E pre (b :: t) = ((pre.length + 1) :: (run E [] t).1, (run E [] t).2) := by rw [run, if_pos h]
theorem run_on {E : List UInt8 → Bool} {pre : List UInt8} {b : UInt8} (t : List UInt8) (h : ¬ E (pre ++ [b]) = true) : run E pre (b :: t) = run E (pre ++ [b]) t := by rw [run, if_neg h]
theorem run_append (E : List UInt8 → Bool) : ∀ (a pre b : List UInt8), run E pre (a ++ b) = ((run E pre a).1 ++ (run E (run E pre a).2 b).1, (run E (run E pre a).2 b).2)
  | [], pre, b => by rw [List.nil_append, run_nil]; simp
  | x :: a, pre, b => by
    rw [List.cons_append]
    by_cases h : E (pre ++ [x]) = true
    · rw [run_end _ h, run_end _ h, run_append E a [] b]; simp
    · rw [run_on _ h, run_on _ h, run_append E a (pre ++ [x]) b]
theorem run_snoc_end {E : List UInt8 → Bool} {a : List UInt8} {b : UInt8} (h : E ((run E [] a).2 ++ [b]) = true) : run E [] (a ++ [b]) = ((run E [] a).1 ++ [(run E [] a).2.length + 1], []) := by
  rw [run_append, run_end _ h, run_nil]
theorem run_snoc_on {E : List UInt8 → Bool} {a : List UInt8} {b : UInt8} (h : ¬ E ((run E [] a).2 ++ [b]) = true) : run E [] (a ++ [b]) = ((run E [] a).1, (run E [] a).2 ++ [b]) := by
  rw [run_append, run_on _ h, run_nil]; simp
theorem run_sum (E : List UInt8 → Bool) : ∀ (a pre : List UInt8), (run E pre a).1.sum + (run E pre a).2.length = pre.length + a.length
  | [], pre => by rw [run_nil]; simp
  | x :: a, pre => by
    by_cases h : E (pre ++ [x]) = true
    · rw [run_end _ h]
      have := run_sum E a []
      simp at this ⊢; omega
    · rw [run_on _ h]
      have := run_sum E a (pre ++ [x])
      simp at this ⊢; omega
/-- What is left is the end of the data. -/
theorem run_left (E : List UInt8 → Bool) (a : List UInt8) : (run E [] a).2 = a.drop (run E [] a).1.sum := by
  refine snoc_ind (P := fun a => (run E [] a).2 = a.drop (run E [] a).1.sum) (by rw [run_nil]; rfl) (fun a b ih => ?_) a
  · have hs := run_sum E a []
    simp at hs
    by_cases h : E ((run E [] a).2 ++ [b]) = true
    · rw [run_snoc_end h]
      simp only [List.sum_append, List.sum_cons, List.sum_nil]
      rw [List.drop_eq_nil_of_le]
      simp; omega
    · rw [run_snoc_on h]
      simp only
      rw [List.drop_append_of_le_length (by omega), ← ih]
theorem cuts_sum (E : List UInt8 → Bool) (a : List UInt8) : (cuts E a).sum = a.length := by
  have := run_sum E a []
  unfold cuts last
  split
  · rename_i h; rw [h] at this; simp at this ⊢; omega
  · simp at this ⊢; omega

/-- Every chunk that ended met E's bounds. -/
theorem run_all {E : List UInt8 → Bool} {lo hi : Nat} (h1 : ∀ c, E c = true → lo ≤ c.length ∧ c.length ≤ hi) : ∀ (a pre : List UInt8), ∀ n ∈ (run E pre a).1, lo ≤ n ∧ n ≤ hi
  | [], pre => by rw [run_nil]; simp
  | x :: a, pre => by
    by_cases h : E (pre ++ [x]) = true
    · rw [run_end _ h]
      intro n hn
      rcases List.mem_cons.1 hn with rfl | hn
      · have := h1 _ h; simpa using this
      · exact run_all h1 a [] n hn
    · rw [run_on _ h]; exact run_all h1 a _
theorem run_short {E : List UInt8 → Bool} {hi : Nat} (h2 : ∀ c, c.length = hi → E c = true) : ∀ (a pre : List UInt8), pre.length < hi → (run E pre a).2.length < hi
  | [], pre, hp => by rw [run_nil]; exact hp
  | x :: a, pre, hp => by
    by_cases h : E (pre ++ [x]) = true
    · rw [run_end _ h]; exact run_short h2 a [] (by simp; omega)
    · rw [run_on _ h]
      refine run_short h2 a _ ?_
      have : (pre ++ [x]).length ≠ hi := fun e => h (h2 _ e)
      simp at this ⊢; omega
theorem cuts_bounds {E : List UInt8 → Bool} {lo hi : Nat} (h0 : 1 ≤ lo) (h1 : ∀ c, E c = true → lo ≤ c.length ∧ c.length ≤ hi) (h2 : ∀ c, c.length = hi → E c = true) (hlh : lo ≤ hi) (a : List UInt8) :
    ∀ i (hi' : i < (cuts E a).length), 1 ≤ (cuts E a)[i] ∧ (cuts E a)[i] ≤ hi ∧ (i < (cuts E a).length - 1 → lo ≤ (cuts E a)[i]) := by
  intro i hi'
  have hall := run_all h1 a []
  have hsh := run_short h2 a [] (by simp; omega)
  unfold cuts at hi' ⊢
  rcases Nat.lt_or_ge i (run E [] a).1.length with hlt | hge
  · rw [List.getElem_append_left hlt]
    have := hall _ (List.getElem_mem hlt)
    exact ⟨by omega, this.2, fun _ => this.1⟩
  · rw [List.getElem_append_right hge]
    have hl : last (run E [] a).2 = [(run E [] a).2.length] := by
      unfold last
      split
      · rename_i h; rw [h] at hi'; unfold last at hi'; simp at hi'; omega
      · rfl
    have hne : (run E [] a).2 ≠ [] := fun h => by rw [h] at hl; simp [last] at hl
    have hpos := List.length_pos_iff.2 hne
    simp only [hl, List.length_append, List.length_singleton] at hi' ⊢
    have : i - (run E [] a).1.length = 0 := by omega
    simp only [this, List.getElem_singleton]
    exact ⟨by omega, by omega, fun h => by omega⟩

theorem cuts_append_clean {E : List UInt8 → Bool} {a : List UInt8} (h : (run E [] a).2 = []) (b : List UInt8) : cuts E (a ++ b) = (run E [] a).1 ++ cuts E b := by
  unfold cuts
  rw [run_append, h, List.append_assoc]

theorem first_more {E : List UInt8 → Bool} : ∀ (b pre : List UInt8) (n : Nat) (l : List Nat), b ≠ [] → (run E pre b).1 ++ last (run E pre b).2 = n :: l → pre.length < n
  | [], _, _, _, h, _ => absurd rfl h
  | x :: b, pre, n, l, _, e => by
    by_cases h : E (pre ++ [x]) = true
    · rw [run_end _ h] at e
      have := (List.cons.inj e).1
      omega
    · rw [run_on _ h] at e
      by_cases hb : b = []
      · subst hb
        rw [run_nil] at e
        simp only [List.nil_append] at e
        unfold last at e
        split at e
        · cases e
        · have := (List.cons.inj e).1; simp at this; omega
      · have := first_more b (pre ++ [x]) n l hb e
        simp at this; omega

theorem take_sum_le : ∀ (l : List Nat) (p : Nat), (l.take p).sum ≤ l.sum
  | [], p => by simp
  | n :: l, 0 => by simp
  | n :: l, p + 1 => by have := take_sum_le l p; simp; omega
theorem take_sum_lt : ∀ (l : List Nat) (p : Nat), (∀ n ∈ l, 1 ≤ n) → p < l.length → (l.take p).sum < l.sum
  | n :: l, 0, h, _ => by have := h n (by simp); simp; omega
  | n :: l, p + 1, h, hp => by have := take_sum_lt l p (fun m hm => h m (by simp [hm])) (by simpa using hp); simp; omega

/-- Where a chunk begins at the end that two rows have in common, the chunks from there on are the end's own. -/
theorem meet {E : List UInt8 → Bool} {a b : List UInt8} {p : Nat} (h1 : ∀ n ∈ cuts E (a ++ b), 1 ≤ n) (hp : p < (cuts E (a ++ b)).length) (hs : ((cuts E (a ++ b)).take p).sum = a.length) : (cuts E (a ++ b)).drop p = cuts E b := by
  have hsum := run_sum E a []
  simp only [List.length_nil, Nat.zero_add] at hsum
  have hx : cuts E (a ++ b) = (run E [] a).1 ++ ((run E (run E [] a).2 b).1 ++ last (run E (run E [] a).2 b).2) := by
    unfold cuts; rw [run_append]; simp
  generalize hr : (run E [] a).1 = r at *
  generalize hq : (run E [] a).2 = q at *
  generalize hy : (run E q b).1 ++ last (run E q b).2 = y at *
  have hpr : p ≤ r.length := by
    rcases Nat.lt_or_ge r.length p with hlt | hge
    · rw [hx] at hs hp
      rw [List.take_append, List.sum_append, List.take_of_length_le (by omega)] at hs
      by_cases hb : b = []
      · subst hb
        rw [run_nil] at hy
        simp only [List.nil_append] at hy
        have : y.length ≤ 1 := by rw [← hy]; unfold last; split <;> simp
        rw [List.length_append] at hp
        omega
      · obtain ⟨k, hk⟩ : ∃ k, p - r.length = k + 1 := ⟨p - r.length - 1, by omega⟩
        cases y with
        | nil => simp at hp; omega
        | cons n l =>
          have := first_more b q n l hb hy
          rw [hk, List.take_succ_cons, List.sum_cons] at hs
          omega
    · exact hge
  rw [hx, List.take_append_of_le_length hpr] at hs
  have hpl : p = r.length := by
    rcases Nat.lt_or_ge p r.length with hlt | hge
    · have := take_sum_lt r p (fun n hn => h1 n (by rw [hx]; simp [hn])) hlt
      omega
    · omega
  have hq0 : q = [] := by
    rw [hpl, List.take_of_length_le (Nat.le_refl _)] at hs
    exact List.eq_nil_of_length_eq_zero (by omega)
  rw [hx, hpl, List.drop_left, ← hy, hq0]
  rfl
end Rb

end Go.Proofs.Ytobiajjcnpflgaa
