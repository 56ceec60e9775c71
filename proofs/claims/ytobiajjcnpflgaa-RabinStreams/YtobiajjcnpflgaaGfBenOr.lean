/- Pure: which polynomials are irreducible: Ben-Or's test says just that. Conditions: none. -/
import Derived.Test.YtobiajjcnpflgaaGfFermat
namespace Go.Proofs.Ytobiajjcnpflgaa.Gf

theorem pw_mul (a b n : Nat) : pw (mul a b) n = mul (pw a n) (pw b n) := by
  induction n with
  | zero => simp [pw, mul_one]
  | succ n ih =>
    simp only [pw]
    rw [ih, mul_assoc, mul_assoc]
    congr 1
    rw [← mul_assoc, mul_comm (pw b n) a, mul_assoc]
theorem pw_one (n : Nat) : pw 1 n = 1 := by
  induction n with
  | zero => rfl
  | succ n ih => rw [pw, ih, mul_one]
theorem pw_zero {n : Nat} (h : 0 < n) : pw 0 n = 0 := by
  obtain ⟨k, rfl⟩ : ∃ k, n = k + 1 := ⟨n - 1, by omega⟩
  rw [pw, mul_zero]
theorem pw_sq (a i : Nat) : pw a (2 ^ (i + 1)) = mul (pw a (2 ^ i)) (pw a (2 ^ i)) := by
  rw [Nat.pow_succ, Nat.mul_two, pw_add]
theorem frob (a b i : Nat) : pw (a ^^^ b) (2 ^ i) = pw a (2 ^ i) ^^^ pw b (2 ^ i) := by
  induction i with
  | zero => simp [pw, one_mul]
  | succ i ih => rw [pw_sq, pw_sq, pw_sq, ih, sq_xor]

/-- If x to the power 2^i is x, so is everything. -/
theorem fixed_all {p i : Nat} (h : Cg p (pw 2 (2 ^ i)) 2) (r : Nat) : Cg p (pw r (2 ^ i)) r := by
  have hpos := Nat.two_pow_pos i
  induction r using Nat.strongRecOn with
  | _ r ih =>
    by_cases h0 : r = 0
    · subst h0; rw [pw_zero hpos]; exact Cg.refl _ _
    · by_cases h1 : r = 1
      · subst h1; rw [pw_one]; exact Cg.refl _ _
      · have hh := ih (r / 2) (by omega)
        have e2 : 2 * (r / 2) = mul 2 (r / 2) := by
          rw [mul_comm, show (2 : Nat) = 2 * 1 from rfl, mul_dbl, mul_one]
        have hb : Cg p (pw (r % 2) (2 ^ i)) (r % 2) := by
          rcases Nat.mod_two_eq_zero_or_one r with e | e <;> rw [e]
          · rw [pw_zero hpos]; exact Cg.refl _ _
          · rw [pw_one]; exact Cg.refl _ _
        have e := split_bit r
        rw [e2] at e
        rw [e, frob, pw_mul]
        exact (h.mul hh).xor hb

/-- A polynomial over the residues, at t. -/
def ev : List Nat → Nat → Nat
  | [], _ => 0
  | c :: l, t => c ^^^ mul t (ev l t)
/-- It, less what it is at r, by t less r. -/
def dv (r : Nat) : List Nat → List Nat
  | [] => []
  | [_] => []
  | _ :: d :: l => ev (d :: l) r :: dv r (d :: l)
theorem dv_len (r : Nat) : ∀ l : List Nat, (dv r l).length = l.length - 1
  | [] => rfl
  | [_] => rfl
  | _ :: d :: l => by
    have := dv_len r (d :: l)
    simp only [dv, List.length_cons] at *
    omega
theorem dv_ev (r t : Nat) : ∀ l : List Nat, ev l t ^^^ ev l r = mul (t ^^^ r) (ev (dv r l) t)
  | [] => by simp [ev, dv, mul_zero]
  | [c] => by simp [ev, dv, mul_zero]
  | c :: d :: l => by
    have ih := dv_ev r t (d :: l)
    have e1 : ev (c :: d :: l) t ^^^ ev (c :: d :: l) r = mul t (ev (d :: l) t) ^^^ mul r (ev (d :: l) r) := by
      show (c ^^^ mul t (ev (d :: l) t)) ^^^ (c ^^^ mul r (ev (d :: l) r)) = _
      rw [four, Nat.xor_self, Nat.zero_xor]
    have e2 : ev (dv r (c :: d :: l)) t = ev (d :: l) r ^^^ mul t (ev (dv r (d :: l)) t) := rfl
    rw [e1, e2, mul_xor_right, ← mul_assoc, mul_comm (t ^^^ r) t, mul_assoc, ← ih, mul_xor_right, mul_xor_left]
    generalize mul t (ev (d :: l) t) = A
    generalize mul t (ev (d :: l) r) = B
    generalize mul r (ev (d :: l) r) = C
    rw [Nat.xor_comm A B, four B C B A, Nat.xor_self, Nat.zero_xor, Nat.xor_comm]
/-- All coefficients are none. -/
def Nil (p : Nat) (l : List Nat) : Prop := ∀ c ∈ l, Dvd p c
theorem nil_ev {p : Nat} : ∀ {l : List Nat}, Nil p l → ∀ t, Dvd p (ev l t)
  | [], _, _ => Dvd.zero p
  | c :: l, h, t => (h c (by simp)).xor ((nil_ev (fun x hx => h x (by simp [hx])) t).mul t)
theorem dv_nil {p r : Nat} : ∀ (l : List Nat), Nil p (dv r l) → Dvd p (ev l r) → Nil p l
  | [], _, _ => fun _ h => by cases h
  | [c], _, h => fun x hx => by
    have : x = c := by simpa using hx
    subst this
    simpa [ev, mul_zero] using h
  | c :: d :: l, hn, h => by
    have h1 : Dvd p (ev (d :: l) r) := hn _ (by simp [dv])
    have h2 := dv_nil (d :: l) (fun x hx => hn x (by simp [dv, hx])) h1
    have h3 : Dvd p c := by
      have := Dvd.xor h (h1.mul r)
      have e : ev (c :: d :: l) r = c ^^^ mul r (ev (d :: l) r) := rfl
      rwa [e, Nat.xor_assoc, Nat.xor_self, Nat.xor_zero] at this
    intro x hx
    rcases List.mem_cons.1 hx with rfl | hx
    · exact h3
    · exact h2 x hx

/-- By an irreducible p, no more roots than the degree, unless all coefficients are none. -/
theorem roots {p n : Nat} (hp : Irr p) (hn : Top n p) : ∀ (k : Nat) (l rs : List Nat), l.length ≤ k → k ≤ rs.length → rs.Nodup → (∀ r ∈ rs, r < 2 ^ n ∧ Dvd p (ev l r)) → Nil p l
  | 0, l, rs, hl, _, _, _ => by
    have : l = [] := List.eq_nil_of_length_eq_zero (by omega)
    subst this
    exact fun _ h => by cases h
  | k + 1, l, rs, hl, hk, hd, hr => by
    match rs, hk, hd, hr with
    | r :: rs, hk, hd, hr =>
      have hd' := List.nodup_cons.1 hd
      have h0 := hr r (by simp)
      refine dv_nil l (roots hp hn k (dv r l) rs (by rw [dv_len]; omega) (by simpa using hk) hd'.2 (fun s hs => ?_)) h0.2
      have h1 := hr s (by simp [hs])
      refine ⟨h1.1, ?_⟩
      have h2 : Dvd p (mul (s ^^^ r) (ev (dv r l) s)) := by
        rw [← dv_ev]; exact h1.2.xor h0.2
      rcases hp.prime h2 with h3 | h3
      · have : s = r := small_cg hn h1.1 h0.1 h3
        exact (hd'.1 (this ▸ hs)).elim
      · exact h3

/-- The coefficients of t^(k + 2) less t. -/
def tk (k : Nat) : List Nat := 0 :: 1 :: (List.replicate k 0 ++ [1])
theorem ev_rep (k t : Nat) : ev (List.replicate k 0 ++ [1]) t = pw t k := by
  induction k with
  | zero => simp [ev, pw, mul_zero]
  | succ k ih =>
    show 0 ^^^ mul t (ev (List.replicate k 0 ++ [1]) t) = _
    rw [ih, Nat.zero_xor, pw, mul_comm]
theorem ev_tk (k t : Nat) : ev (tk k) t = pw t (k + 2) ^^^ t := by
  show 0 ^^^ mul t (1 ^^^ mul t (ev (List.replicate k 0 ++ [1]) t)) = _
  rw [ev_rep, Nat.zero_xor, mul_xor_right, mul_one, pw, pw, mul_comm (pw t k) t, mul_comm _ t, Nat.xor_comm]

/-- An irreducible p of degree n does not divide x^(2^i) less x, for i from 1 to below n. -/
theorem irr_not {p n i : Nat} (hp : Irr p) (hn : Top n p) (hi : 1 ≤ i) (hin : i < n) : ¬ Dvd p (pw 2 (2 ^ i) ^^^ 2) := fun h => by
  have h2 : 2 ≤ 2 ^ i := by
    have := Nat.pow_le_pow_right (show 0 < 2 by omega) hi
    simpa using this
  have hlt : 2 ^ i < 2 ^ n := Nat.pow_lt_pow_right (by omega) hin
  have hall := roots hp hn (2 ^ i + 1) (tk (2 ^ i - 2)) (List.range (2 ^ n)) (by simp [tk]; omega) (by simp; omega) List.nodup_range (fun r hr => ⟨List.mem_range.1 hr, by
    rw [ev_tk, show 2 ^ i - 2 + 2 = 2 ^ i by omega]
    exact fixed_all h r⟩)
  have h1 : Dvd p 1 := hall 1 (by simp [tk])
  have := small_dvd hn (Nat.one_lt_two_pow (by omega)) h1
  cases this

theorem IsGcd.cg {p b b' g : Nat} (h : IsGcd p b g) (hc : Cg p b b') : IsGcd p b' g := by
  obtain ⟨q, e⟩ := hc
  have eb : b' = b ^^^ mul q p := by rw [← e, ← Nat.xor_assoc, Nat.xor_self, Nat.zero_xor]
  refine ⟨h.left, ?_, ?_⟩
  · rw [eb]; exact h.right.xor (h.left.mul q)
  · obtain ⟨s, t, e2⟩ := h.sum
    refine ⟨s ^^^ mul t q, t, ?_⟩
    rw [eb, mul_xor_right, mul_xor_left, ← mul_assoc, e2]
    rw [Nat.xor_assoc, Nat.xor_comm (mul t b), ← Nat.xor_assoc (mul (mul t q) p), Nat.xor_self, Nat.zero_xor]

/-- What isn't 0 or 1 has an irreducible factor. -/
theorem irr_factor (a : Nat) (ha : 2 ≤ a) : ∃ q, Irr q ∧ Dvd q a := by
  induction a using Nat.strongRecOn with
  | _ a ih =>
    by_cases h : ∀ b c, a = mul b c → b = 1 ∨ c = 1
    · exact ⟨a, ⟨ha, h⟩, Dvd.refl a⟩
    · obtain ⟨b, hb⟩ := Classical.not_forall.1 h
      obtain ⟨c, hc⟩ := Classical.not_forall.1 hb
      have e : a = mul b c := Classical.byContradiction fun hne => hc (fun e => (hne e).elim)
      have hbc : b ≠ 1 ∧ c ≠ 1 := ⟨fun e1 => hc (fun _ => .inl e1), fun e1 => hc (fun _ => .inr e1)⟩
      have hb0 : b ≠ 0 := by rintro rfl; rw [zero_mul] at e; omega
      have hc0 : c ≠ 0 := by rintro rfl; rw [mul_zero] at e; omega
      obtain ⟨i, hi⟩ := top_some hb0
      obtain ⟨j, hj⟩ := top_some hc0
      have hj1 : 1 ≤ j := by
        rcases Nat.eq_zero_or_pos j with h0 | h0
        · subst h0; have := hj.2; simp at this; omega
        · exact h0
      have ht := mul_top hi hj
      rw [← e] at ht
      have hlt : b < a := Nat.lt_of_lt_of_le hi.2 (Nat.le_trans (Nat.pow_le_pow_right (by omega) (by omega)) ht.1)
      obtain ⟨q, hq, hd⟩ := ih b hlt (by omega)
      refine ⟨q, hq, ?_⟩
      rw [e, mul_comm]
      exact hd.mul c

/-- Ben-Or's test. -/
def Test (p n : Nat) : Prop := ∀ i, 1 ≤ i → 2 * i ≤ n → IsGcd p (pw 2 (2 ^ i) ^^^ 2) 1

theorem test_irr {p n : Nat} (hn : Top n p) (h1 : 1 ≤ n) : Test p n ↔ Irr p := by
  constructor
  · intro ht
    have hp2 : 2 ≤ p := by
      have h := hn.1
      have : 2 ^ 1 ≤ 2 ^ n := Nat.pow_le_pow_right (by omega) h1
      omega
    have key : ∀ a b, p = mul a b → 2 ≤ a → 2 ≤ b → ∀ i j, Top i a → Top j b → i ≤ j → False := fun a b e ha hb i j hi hj hij => by
      obtain ⟨q, hq, hd⟩ := irr_factor a ha
      obtain ⟨k, hk⟩ := top_some (y := q) (by have := hq.1; omega)
      have hk1 : 1 ≤ k := by
        rcases Nat.eq_zero_or_pos k with h0 | h0
        · subst h0; have := hk.2; have := hq.1; simp at *; omega
        · exact h0
      have hki : k ≤ i := by
        obtain ⟨c, ec⟩ := hd
        have hc0 : c ≠ 0 := by rintro rfl; rw [zero_mul] at ec; omega
        obtain ⟨m, hm⟩ := top_some hc0
        have := mul_top hm hk
        rw [← ec] at this
        have := top_one this hi
        omega
      have htp := mul_top hi hj
      rw [← e] at htp
      have hnij : n = i + j := top_one hn htp
      have hg := ht k hk1 (by omega)
      have hqp : Dvd q p := by rw [e, mul_comm]; exact hd.mul b
      have h2 := hg.of_dvd hqp (fermat_all hq hk 2)
      have := small_dvd hk (Nat.one_lt_two_pow (by omega)) h2
      cases this
    refine ⟨hp2, fun a b e => ?_⟩
    rcases Nat.lt_or_ge a 2 with ha | ha
    · rcases (show a = 0 ∨ a = 1 by omega) with rfl | rfl
      · rw [zero_mul] at e; omega
      · exact .inl rfl
    · rcases Nat.lt_or_ge b 2 with hb | hb
      · rcases (show b = 0 ∨ b = 1 by omega) with rfl | rfl
        · rw [mul_zero] at e; omega
        · exact .inr rfl
      · obtain ⟨i, hi⟩ := top_some (y := a) (by omega)
        obtain ⟨j, hj⟩ := top_some (y := b) (by omega)
        rcases Nat.le_total i j with hij | hij
        · exact (key a b e ha hb i j hi hj hij).elim
        · exact (key b a (by rw [mul_comm]; exact e) hb ha j i hj hi hij).elim
  · intro hp i hi h2
    obtain ⟨g, hg⟩ := gcd_some p (pw 2 (2 ^ i) ^^^ 2)
    rcases hp.gcd hg with rfl | rfl
    · exact hg
    · exact (irr_not hp hn hi (by omega) hg.right).elim

end Go.Proofs.Ytobiajjcnpflgaa.Gf
