/- That a block says its header, to both readers. Conditions: none. -/
import Derived.Test.YtemfelonfokcnaaUsBackL
namespace Go.Proofs.Ytemfelonfokcnaa
open Go.RowKit

namespace Us
section
variable {a0 a1 a3 a5 a7 a9 a11 a12 a13 a14 a16 a17 : By}
theorem cut0 (h0 : a0.length = 100) : cut (F a0 a1 a3 a5 a7 a9 a11 a12 a13 a14 a16 a17) 0 100 = a0 := by
  have := seg_app ([]) a0 (a1 ++ ([0] ++ (a3 ++ ([0] ++ (a5 ++ ([0] ++ (a7 ++ ([0] ++ (a9 ++ ([0] ++ (a11 ++ (a12 ++ (a13 ++ (a14 ++ (zs 64 ++ (a16 ++ (a17 ++ (zs 12)))))))))))))))))) 0 100 (by simp) h0
  simpa [F, cut, List.append_assoc] using this
theorem cut1 (h0 : a0.length = 100) (h1 : a1.length = 7) : cut (F a0 a1 a3 a5 a7 a9 a11 a12 a13 a14 a16 a17) 100 7 = a1 := by
  have := seg_app (a0) a1 ([0] ++ (a3 ++ ([0] ++ (a5 ++ ([0] ++ (a7 ++ ([0] ++ (a9 ++ ([0] ++ (a11 ++ (a12 ++ (a13 ++ (a14 ++ (zs 64 ++ (a16 ++ (a17 ++ (zs 12))))))))))))))))) 100 7 (by simp [h0]) h1
  simpa [F, cut, List.append_assoc] using this
theorem cut3 (h0 : a0.length = 100) (h1 : a1.length = 7) (h3 : a3.length = 7) : cut (F a0 a1 a3 a5 a7 a9 a11 a12 a13 a14 a16 a17) 108 7 = a3 := by
  have := seg_app (a0 ++ (a1 ++ ([0]))) a3 ([0] ++ (a5 ++ ([0] ++ (a7 ++ ([0] ++ (a9 ++ ([0] ++ (a11 ++ (a12 ++ (a13 ++ (a14 ++ (zs 64 ++ (a16 ++ (a17 ++ (zs 12))))))))))))))) 108 7 (by simp [h0, h1]) h3
  simpa [F, cut, List.append_assoc] using this
theorem cut5 (h0 : a0.length = 100) (h1 : a1.length = 7) (h3 : a3.length = 7) (h5 : a5.length = 7) : cut (F a0 a1 a3 a5 a7 a9 a11 a12 a13 a14 a16 a17) 116 7 = a5 := by
  have := seg_app (a0 ++ (a1 ++ ([0] ++ (a3 ++ ([0]))))) a5 ([0] ++ (a7 ++ ([0] ++ (a9 ++ ([0] ++ (a11 ++ (a12 ++ (a13 ++ (a14 ++ (zs 64 ++ (a16 ++ (a17 ++ (zs 12))))))))))))) 116 7 (by simp [h0, h1, h3]) h5
  simpa [F, cut, List.append_assoc] using this
theorem cut7 (h0 : a0.length = 100) (h1 : a1.length = 7) (h3 : a3.length = 7) (h5 : a5.length = 7) (h7 : a7.length = 11) : cut (F a0 a1 a3 a5 a7 a9 a11 a12 a13 a14 a16 a17) 124 11 = a7 := by
  have := seg_app (a0 ++ (a1 ++ ([0] ++ (a3 ++ ([0] ++ (a5 ++ ([0]))))))) a7 ([0] ++ (a9 ++ ([0] ++ (a11 ++ (a12 ++ (a13 ++ (a14 ++ (zs 64 ++ (a16 ++ (a17 ++ (zs 12))))))))))) 124 11 (by simp [h0, h1, h3, h5]) h7
  simpa [F, cut, List.append_assoc] using this
theorem cut9 (h0 : a0.length = 100) (h1 : a1.length = 7) (h3 : a3.length = 7) (h5 : a5.length = 7) (h7 : a7.length = 11) (h9 : a9.length = 11) : cut (F a0 a1 a3 a5 a7 a9 a11 a12 a13 a14 a16 a17) 136 11 = a9 := by
  have := seg_app (a0 ++ (a1 ++ ([0] ++ (a3 ++ ([0] ++ (a5 ++ ([0] ++ (a7 ++ ([0]))))))))) a9 ([0] ++ (a11 ++ (a12 ++ (a13 ++ (a14 ++ (zs 64 ++ (a16 ++ (a17 ++ (zs 12))))))))) 136 11 (by simp [h0, h1, h3, h5, h7]) h9
  simpa [F, cut, List.append_assoc] using this
theorem cut12 (h0 : a0.length = 100) (h1 : a1.length = 7) (h3 : a3.length = 7) (h5 : a5.length = 7) (h7 : a7.length = 11) (h9 : a9.length = 11) (h11 : a11.length = 8) (h12 : a12.length = 1) : cut (F a0 a1 a3 a5 a7 a9 a11 a12 a13 a14 a16 a17) 156 1 = a12 := by
  have := seg_app (a0 ++ (a1 ++ ([0] ++ (a3 ++ ([0] ++ (a5 ++ ([0] ++ (a7 ++ ([0] ++ (a9 ++ ([0] ++ (a11)))))))))))) a12 (a13 ++ (a14 ++ (zs 64 ++ (a16 ++ (a17 ++ (zs 12)))))) 156 1 (by simp [h0, h1, h3, h5, h7, h9, h11]) h12
  simpa [F, cut, List.append_assoc] using this
theorem cut13 (h0 : a0.length = 100) (h1 : a1.length = 7) (h3 : a3.length = 7) (h5 : a5.length = 7) (h7 : a7.length = 11) (h9 : a9.length = 11) (h11 : a11.length = 8) (h12 : a12.length = 1) (h13 : a13.length = 100) : cut (F a0 a1 a3 a5 a7 a9 a11 a12 a13 a14 a16 a17) 157 100 = a13 := by
  have := seg_app (a0 ++ (a1 ++ ([0] ++ (a3 ++ ([0] ++ (a5 ++ ([0] ++ (a7 ++ ([0] ++ (a9 ++ ([0] ++ (a11 ++ (a12))))))))))))) a13 (a14 ++ (zs 64 ++ (a16 ++ (a17 ++ (zs 12))))) 157 100 (by simp [h0, h1, h3, h5, h7, h9, h11, h12]) h13
  simpa [F, cut, List.append_assoc] using this
theorem cut17 (h0 : a0.length = 100) (h1 : a1.length = 7) (h3 : a3.length = 7) (h5 : a5.length = 7) (h7 : a7.length = 11) (h9 : a9.length = 11) (h11 : a11.length = 8) (h12 : a12.length = 1) (h13 : a13.length = 100) (h14 : a14.length = 8) (h16 : a16.length = 16) (h17 : a17.length = 155) : cut (F a0 a1 a3 a5 a7 a9 a11 a12 a13 a14 a16 a17) 345 155 = a17 := by
  have := seg_app (a0 ++ (a1 ++ ([0] ++ (a3 ++ ([0] ++ (a5 ++ ([0] ++ (a7 ++ ([0] ++ (a9 ++ ([0] ++ (a11 ++ (a12 ++ (a13 ++ (a14 ++ (zs 64 ++ (a16))))))))))))))))) a17 (zs 12) 345 155 (by simp [h0, h1, h3, h5, h7, h9, h11, h12, h13, h14, h16, zs_len]) h17
  simpa [F, cut, List.append_assoc] using this
end

theorem get_cut (b : By) (o : Nat) : cut b o 1 = (b[o]?).toList := by
  unfold cut
  rw [List.take_one, List.head?_drop]
theorem getD_cut {b : By} {o : Nat} {x : UInt8} (h : cut b o 1 = [x]) : b.getD o 0 = x := by
  rw [get_cut] at h
  rw [List.getD_eq_getElem?_getD]
  cases hb : b[o]? with
  | none => rw [hb] at h; cases h
  | some y => rw [hb] at h; simpa using h

structure Fit (h : Hd) (q nm : By) : Prop where
  parts : parted h.path.data.toList = some (q, nm)
  clean : clean h.path.data.toList = true
  m1 : 0 ≤ h.mode
  m2 : h.mode < 2097152
  u1 : 0 ≤ h.uid
  u2 : h.uid < 2097152
  g1 : 0 ≤ h.gid
  g2 : h.gid < 2097152
  s1 : 0 ≤ h.size
  s2 : h.size < 8589934592
  t1 : 0 ≤ h.time
  t2 : h.time < 8589934592
  ll : h.link.data.toList.length ≤ 100
  lc : Us.clean h.link.data.toList = true

theorem kind_link {h : Hd} (hk : okKind h = true) : h.link.data.toList.length ≤ 100 ∧ clean h.link.data.toList = true := by
  unfold okKind at hk
  have h0 : h.link.data.toList = [] → h.link.data.toList.length ≤ 100 ∧ clean h.link.data.toList = true := fun e => by rw [e]; exact ⟨by simp, rfl⟩
  split at hk
  · exact h0 (by simpa using hk)
  · split at hk
    · rw [Bool.and_eq_true] at hk
      have h1 := hk.1
      unfold okLink at h1
      simp only [Bool.and_eq_true, decide_eq_true_eq] at h1
      exact ⟨h1.2.1, h1.2.2⟩
    · split at hk
      · rw [Bool.and_eq_true] at hk
        exact h0 (by simpa using hk.1)
      · cases hk

theorem fit_of {h : Hd} (hf : fits h = true) : ∃ q nm, Fit h q nm := by
  unfold fits okPath okId okTime at hf
  simp only [Bool.and_eq_true, decide_eq_true_eq] at hf
  obtain ⟨⟨hp, hc⟩, ⟨m1, m2⟩, ⟨u1, u2⟩, ⟨g1, g2⟩, ⟨s1, s2⟩, ⟨t1, t2⟩, hk⟩ := hf
  obtain ⟨⟨q, nm⟩, hq⟩ := Option.isSome_iff_exists.1 hp
  exact ⟨q, nm, hq, hc, m1, m2, u1, u2, g1, g2, s1, s2, t1, t2, (kind_link hk).1, (kind_link hk).2⟩

theorem Fit.enc {h : Hd} {q nm : By} (f : Fit h q nm) : enc h = encAt q nm h := by
  unfold Us.enc
  rw [f.parts]
  rfl

theorem nat_int {n : Int} (h : 0 ≤ n) : (n.toNat : Int) = n := Int.toNat_of_nonneg h

section
variable {h : Hd} {q nm s : By} (f : Fit h q nm) (hs : s.length = 8)
include f hs
theorem put_cuts : cut (put q nm h s) 0 100 = txt nm 100 ∧ cut (put q nm h s) 100 7 = oct 7 h.mode.toNat ∧ cut (put q nm h s) 108 7 = oct 7 h.uid.toNat ∧ cut (put q nm h s) 116 7 = oct 7 h.gid.toNat ∧
    cut (put q nm h s) 124 11 = oct 11 h.size.toNat ∧ cut (put q nm h s) 136 11 = oct 11 h.time.toNat ∧ (put q nm h s).getD 156 0 = h.type ∧ cut (put q nm h s) 157 100 = txt h.link.data.toList 100 ∧ cut (put q nm h s) 345 155 = txt q 155 := by
  have P := parts_of f.parts
  have n0 := txt_len P.nl; have n17 := txt_len P.ql; have n13 := txt_len f.ll
  unfold put
  exact ⟨cut0 n0, cut1 n0 (oct_len _ _), cut3 n0 (oct_len _ _) (oct_len _ _), cut5 n0 (oct_len _ _) (oct_len _ _) (oct_len _ _), cut7 n0 (oct_len _ _) (oct_len _ _) (oct_len _ _) (oct_len _ _),
    cut9 n0 (oct_len _ _) (oct_len _ _) (oct_len _ _) (oct_len _ _) (oct_len _ _), getD_cut (cut12 n0 (oct_len _ _) (oct_len _ _) (oct_len _ _) (oct_len _ _) (oct_len _ _) hs rfl),
    cut13 n0 (oct_len _ _) (oct_len _ _) (oct_len _ _) (oct_len _ _) (oct_len _ _) hs rfl n13, cut17 n0 (oct_len _ _) (oct_len _ _) (oct_len _ _) (oct_len _ _) (oct_len _ _) hs rfl n13 mag_len dev_len n17⟩

theorem put_len : (put q nm h s).length = 512 := by
  have P := parts_of f.parts
  exact F_len (txt_len P.nl) (oct_len _ _) (oct_len _ _) (oct_len _ _) (oct_len _ _) (oct_len _ _) hs rfl (txt_len f.ll) mag_len dev_len (txt_len P.ql)

theorem put_text : str (join (fld (cut (put q nm h s) 345 155)) (fld (cut (put q nm h s) 0 100))) = h.path ∧ str (fld (cut (put q nm h s) 157 100)) = h.link := by
  obtain ⟨c0, _, _, _, _, _, _, c13, c17⟩ := put_cuts f hs
  obtain ⟨hq, hn⟩ := parts_clean f.clean f.parts
  rw [c0, c13, c17, fld_txt hq, fld_txt hn, fld_txt f.lc, (parts_of f.parts).join]
  exact ⟨rfl, rfl⟩

theorem seemP_put : seemP (put q nm h s) = h := by
  obtain ⟨c0, c1, c3, c5, c7, c9, c12, c13, c17⟩ := put_cuts f hs
  obtain ⟨t1, t2⟩ := put_text f hs
  unfold seemP
  rw [t1, t2, c1, c3, c5, c7, c9, c12, octv_oct _ _ (by have := f.m2; have := f.m1; omega), octv_oct _ _ (by have := f.u2; have := f.u1; omega), octv_oct _ _ (by have := f.g2; have := f.g1; omega), octv_oct _ _ (by have := f.s2; have := f.s1; omega),
    octv_oct _ _ (by have := f.t2; have := f.t1; omega), nat_int f.m1, nat_int f.u1, nat_int f.g1, nat_int f.s1, nat_int f.t1]

theorem seemR_put : seemR (put q nm h s) = h := by
  obtain ⟨c0, c1, c3, c5, c7, c9, c12, c13, c17⟩ := put_cuts f hs
  obtain ⟨t1, t2⟩ := put_text f hs
  unfold seemR
  rw [t1, t2, c1, c3, c5, c7, c9, c12, numv_oct _ _ (by have := f.m2; have := f.m1; omega), numv_oct _ _ (by have := f.u2; have := f.u1; omega), numv_oct _ _ (by have := f.g2; have := f.g1; omega), numv_oct _ _ (by have := f.s2; have := f.s1; omega),
    numv_oct _ _ (by have := f.t2; have := f.t1; omega), nat_int f.m1, nat_int f.u1, nat_int f.g1, nat_int f.s1, nat_int f.t1]
end

theorem enc_len {h : Hd} (hf : fits h = true) : (enc h).length = 512 := by
  obtain ⟨q, nm, f⟩ := fit_of hf
  rw [f.enc]
  exact put_len f (sumT_len _)
theorem backP {h : Hd} (hf : fits h = true) : seemP (enc h) = h := by
  obtain ⟨q, nm, f⟩ := fit_of hf
  rw [f.enc]
  exact seemP_put f (sumT_len _)
theorem backR {h : Hd} (hf : fits h = true) : seemR (enc h) = h := by
  obtain ⟨q, nm, f⟩ := fit_of hf
  rw [f.enc]
  exact seemR_put f (sumT_len _)

/-- What block says h. -/
def Says (b : By) (h : Hd) : Prop := fits h = true ∧ enc h = b
theorem says_P {b : By} {h : Hd} (hs : Says b h) : seemP b = h := by rw [← hs.2]; exact backP hs.1
theorem says_R {b : By} {h : Hd} (hs : Says b h) : seemR b = h := by rw [← hs.2]; exact backR hs.1
theorem says_len {b : By} {h : Hd} (hs : Says b h) : b.length = 512 := by rw [← hs.2]; exact enc_len hs.1
theorem says_one {b : By} {h g : Hd} (h1 : Says b h) (h2 : Says b g) : h = g := by rw [← says_P h1, ← says_P h2]
/-- The header that a block says, if it is one's. -/
noncomputable def dec (b : By) : Option Hd := open Classical in if Says b (seemP b) then some (seemP b) else none
theorem dec_some {b : By} {h : Hd} : dec b = some h ↔ Says b h := by
  unfold dec
  split
  · rename_i hs
    exact ⟨fun e => (by cases e; exact hs), fun hs2 => by rw [says_P hs2]⟩
  · rename_i hs
    exact ⟨fun e => (by cases e), fun hs2 => (hs (by rw [says_P hs2]; exact hs2)).elim⟩
theorem dec_R {b : By} (h : ¬ Says b (seemR b)) : dec b = none := by
  cases hd : dec b with
  | none => rfl
  | some g =>
    have := dec_some.1 hd
    exact (h (by rw [says_R this]; exact this)).elim
theorem dec_P {b : By} (h : ¬ Says b (seemP b)) : dec b = none := by
  unfold dec
  rw [if_neg h]
end Us

end Go.Proofs.Ytemfelonfokcnaa
